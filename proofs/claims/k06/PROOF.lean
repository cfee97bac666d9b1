import PyProof.Rows.All
import Wide.All
import OpenK.AllK
import Wide.FinOn
import PyProof.EqAt
import PyProof.EqKinds
import PyProof.TupleCall
import HandS.ForMost
import HandS.ForExc
import HandS.Wide
import HandS.Gcd
import HandS.ExcIs
import HandS.ExcBuiltin
import HandS.RaiseMore
import HandS.Codes
import HandS.StrMore
import HandS.IsInst
import HandS.Rev
import HandS.WideBits
import HandS.FStr
import HandS.MapObj
import HandS.Flow
import HandS.Style
import HandS.Walk
import HandS.Zip
import HandS.Zip0
import KE.GoesEnum
import HandS.Text
import KE.KMathGC
import HandS.TupMul
import HandS.TupAny
import KE.KRevSl
import PySem.Challenge.RW_everystart_k06_what_names_and_tests_are
set_option Elab.async false
set_option linter.all false
set_option maxRecDepth 100000
set_option pp.maxSteps 1500
set_option maxHeartbeats 1000000
set_option exponentiation.threshold 256
namespace Ev
open PySem PySem.Spec PyProof.Rows L2

/-! ### promises of defs that run where nothing is being shown (the list of guards is known to be empty) -/
structure FnG (P : Program) (w : World) (K : PySem.W.Frag) (mg : Str → Option Value) (base : Heap) (CX : CXT) (k : Nat)
    (f : Addr) (fd : FuncData) (ps : List Str) (sp : Sp) : Prop where
  len : ∀ vs H Q E, sp vs H Q E → vs.length = ps.length
  run : ∀ (A : Around), A.guards = some [] → ∀ (outer : List Env) (s : Shared) (H : Hp) (args : Args) (us : List Value) (vs : List V)
    (Q : VK) (E : XK), Room k A → Env0 P w K mg base A outer s H → BindsTo s fd args (ps.zip us) → Vals vs us → sp vs H Q E →
    codeAny (model P w) A (.call (.ref f) args) (CR CX outer P w H s Q E) s

theorem FnG.of {P : Program} {w : World} {K : PySem.W.Frag} {mg : Str → Option Value} {base : Heap} {CX : CXT} {k : Nat}
    {f : Addr} {fd : FuncData} {ps : List Str} {sp : Sp} (F : FnOk P w K mg base CX k f fd ps sp) : FnG P w K mg base CX k f fd ps sp :=
  ⟨F.len, fun A _ outer s H args us vs Q E hr he hb hv hs => F.run A outer s H args us vs Q E hr he hb hv hs⟩

section
variable {P : Program} {w : World} {K : PySem.W.Frag} {mg : Str → Option Value} {base : Heap}
theorem okG {x qual : Str} {st : Stmt} {f : Addr} {fd : FuncData} {N ps : List Str} {k : Nat} {sp : Sp}
    (F : Fun K x qual st f fd) (S : FnScope N ps (defScope st)) (len : ∀ vs H Q E, sp vs H Q E → vs.length = ps.length)
    (hbody : ∀ (cdv : Value) (A : Around) (outer : List Env) (s : Shared) (H : Hp) (vs : List V) (Q : VK) (E : XK), A.guards = some [] →
      Room k (A.deeper (envOfC qual (defScope st) s.heap.objs.size f cdv)) → sp vs H Q E →
      ∃ t, PSs (cxOf CX0 P w K mg base N qual (defScope st) f cdv A outer s H E).nox (defBody st) t ∧
        t { nx := fun _ H' => Q .non H', rt := Q } (start N vs) H) : FnG P w K mg base CX0 (k + 1) f fd ps sp := by
  obtain ⟨c1, c2, c3, c4, c5, c6, c7, c8, c9, rfl, lk, hcd⟩ := F.ex
  refine ⟨len, fun A hA outer s H args us vs Q E hr e0 hb r hsp => ?_⟩
  have long := len _ _ _ _ hsp
  have stays := e0.mod.kin.keeps (h' := s.heap) fun b o e => And.left (e0.bs b o e)
  have free := e0.mod.nolimit.keeps (h' := s.heap) fun b o e => And.left (e0.bs b o e)
  refine codeAny_call_function hr.depth (stays _ _ lk) rfl S.co S.gen rfl (PySem.W.codeRec_of stays hcd) (hb _ _ _ _ ?_)
  refine wpAny_newFunctionEnv_cells S.kind (fun y hy => ?_) fun env he s1 x => ?_
  · obtain ⟨n, v⟩ := y
    exact (S.par n (List.of_mem_zip hy).1).elim .inl fun q => .inr ⟨q, PySem.W.cellsFrom_some _ _ _ (.inl q)⟩
  cases he
  refine ⟨free.keeps x.toInCall.keep, codeAny_func ?_⟩
  obtain ⟨t, ht, hq⟩ := hbody c7 A outer s H vs Q E hA (hr.deeper _) hsp
  have J := inv_start (CX := CX0) (E := E) S hr.hd e0 long r x
  refine wpAny_mono (ht.nox.run [] s1 (start N vs) H _ J hq) (fun fl s' hs => ?_) (fun _ _ z => z)
  match fl, hs with
  | .ret u, ⟨v, σ', H', J', rv, q⟩ => exact ⟨v, H', J'.os, J'.bare, J'.base, J'.hok, rv, q⟩
  | .next, ⟨σ', H', J', q⟩ => exact ⟨V.non, H', J'.os, J'.bare, J'.base, J'.hok, rfl, q⟩
  | .brk, ⟨_, _, _, q⟩ => exact q.elim
  | .cont, ⟨_, _, _, q⟩ => exact q.elim
end

section
variable {X : Cx} {CX : CXT} {k : Nat} {f : Addr} {fd : FuncData} {ps : List Str} {ds : List Value} {dvs : List V} {sp : Sp} {E : XK}
  {x : Str} {p pos : Pos} {e : Expr} {es : List Expr} {t : TA}
theorem runG {pins : List (Addr × Obj)} {σ : L2.St} {H : Hp} {s : Shared} {Q : VK} {us : List Value} {vs : List V}
    (F : FnG X.prog X.w X.K X.mg X.base CX k f fd ps sp) (hG : X.A.guards = some []) (hr : Room k X.A) (hb : Binds X.K fd ps [])
    (hx : Passes CX X E) (I : Inv X pins σ H s) (r : Vals vs us) (h : sp vs H Q E) :
    wpAny (model X.prog X.w) X.A (call (.ref f) us) (EP X pins σ Q) X.xe s := by
  have hl : us.length = ps.length := r.length.symm.trans (F.len _ _ _ _ h)
  have b := hb s us I.kIn (by rw [List.append_nil]; exact hl)
  rw [List.append_nil] at b
  have z := F.run X.A hG X.stack s H ⟨us, []⟩ us vs Q E hr I.env0 b r h
  refine wpAny_call (codeAny_mono z fun o s' hq => ?_)
  match o, hq with
  | .error e, hq => exact hx pins σ H s e s' I hq
  | .ok (.ret u), hq => exact I.after hq
  | .ok .next, hq => exact hq.elim
  | .ok .brk, hq => exact hq.elim
  | .ok .cont, hq => exact hq.elim
theorem pe_callG (F : FnG X.prog X.w X.K X.mg X.base CX k f fd ps sp) (hG : X.A.guards = some []) (hr : Room k X.A) (hg : Gl X x)
    (hm : X.mg x = some (.ref f)) (hk : PySem.W.keepIn X.K (.ref f) = true) (hb : Binds X.K fd ps []) (hx : Passes CX X E)
    (ha : PA X (e :: es) t) (hdb : (x == ("__debug__" : Str)) = false := by decide)
    (he : starEach (e :: es) X.env = (false, eval e X.env) :: starEach es X.env := by rfl)
    (hpl : (backTo pos (starEach es X.env)).any (·.1) = false := by rfl) :
    PE X (.Call (.Name x p) (e :: es) [] pos) (fun σ H Q => t σ H fun vs H1 => sp vs H1 Q E) := by
  refine ⟨fun pins s σ H Q I h => wpAny_Call_Name_kw (ld_glob I hg hm ?_ hdb)⟩
  refine PySem.W.callWith_K (h₀ := X.base) I.ok.mod.kin hk (thn (ha.run pos pins s σ H _ I h) ?_) he hpl
  exact fun us s1 ⟨vs, H1, I1, r, q⟩ => ⟨I1.kIn, runG F hG hr hb hx I1 r q⟩
/-- how a call by keywords alone binds: the i-th parameter gets the keyword's value at place pm[i] -/
structure KB0 (K : PySem.W.Frag) (fd : FuncData) (ps ks : List Str) (pm : List Nat) : Prop where
  to : ∀ (s : Shared) (ws : List Value), K.In s.heap → ws.length = ks.length →
    BindsTo s fd ⟨[], ks.zip ws⟩ (ps.zip (pm.map fun i => ws.getD i Value.none))
def putV (pm : List Nat) (zs : List V) : List V := pm.map fun i => zs.getD i V.non
theorem relPut {zs : List V} {ws : List Value} (r : Vals zs ws) : ∀ pm : List Nat, Vals (putV pm zs) (pm.map fun i => ws.getD i Value.none)
  | [] => .nil
  | i :: pm => by
    refine .cons ?_ (relPut r pm)
    show L2.RelV (zs.getD i V.non) (ws.getD i Value.none)
    cases e : zs[i]? with
    | none =>
      have e2 := r.none_of e
      rw [List.getD_eq_getElem?_getD, List.getD_eq_getElem?_getD, e, e2]
      rfl
    | some z =>
      obtain ⟨u, e2, q⟩ := r.get e
      rw [List.getD_eq_getElem?_getD, List.getD_eq_getElem?_getD, e, e2]
      exact q
/-- f(k = v, ..), keywords alone; what is raised is wished for at the slots -/
theorem pe_callK0S {ks : List Str} {kws : List Keyword} {tk : TA} {pm : List Nat} {ES : L2.St → XK}
    (F : FnOk X.prog X.w X.K X.mg X.base CX k f fd ps sp) (hr : Room k X.A) (hg : Gl X x) (hm : X.mg x = some (.ref f))
    (hk : PySem.W.keepIn X.K (.ref f) = true) (hb : KB0 X.K fd ps ks pm) (hx : ∀ σ, PassesAt CX X σ (ES σ)) (hkw : PK X kws tk)
    (hall : (backToKw pos (keywordEach kws X.env)).all (·.1.isSome) = true := by rfl)
    (hks : (backToKw pos (keywordEach kws X.env)).filterMap (·.1) = ks := by rfl) (hdb : (x == ("__debug__" : Str)) = false := by decide)
    (hpl : ((backTo pos (starEach [] X.env)).any (·.1) || (backToKw pos (keywordEach kws X.env)).any (·.1.isNone)) = false := by rfl) :
    PE X (.Call (.Name x p) [] kws pos) (fun σ H Q => tk σ H fun zs H1 => zs.length = ks.length ∧ sp (putV pm zs) H1 Q (ES σ)) := by
  refine ⟨fun pins s σ H Q I h => wpAny_Call_Name_kw (ld_glob I hg hm ?_ hdb)⟩
  refine PySem.W.callWith_KW0 (h₀ := X.base) I.ok.mod.kin hk hall (thn (hkw.run pos pins s σ H _ I h) ?_) hpl
  intro ws s2 ⟨zs, H2, I2, rz, l2, q2⟩
  refine ⟨I2.kIn, ?_⟩
  rw [hks]
  have z := F.run X.A X.stack s2 H2 ⟨[], ks.zip ws⟩ _ (putV pm zs) Q (ES σ) hr I2.env0 (hb.to s2 ws I2.kIn (rz.length.symm.trans l2)) (relPut rz pm) q2
  refine wpAny_call (codeAny_mono z fun o s' hq => ?_)
  match o, hq with
  | .error e, hq => exact hx σ pins H2 s2 e s' I2 hq
  | .ok (.ret u), hq => exact I2.after hq
  | .ok .next, hq => exact hq.elim
  | .ok .brk, hq => exact hq.elim
  | .ok .cont, hq => exact hq.elim
theorem passC (hx : Passes CX X E) (σ : L2.St) : PassesAt CX X σ E := fun pins H s e s' I c => hx pins σ H s e s' I c
/-- f(k = v, ..), keywords alone -/
theorem pe_callK0 {ks : List Str} {kws : List Keyword} {tk : TA} {pm : List Nat}
    (F : FnOk X.prog X.w X.K X.mg X.base CX k f fd ps sp) (hr : Room k X.A) (hg : Gl X x) (hm : X.mg x = some (.ref f))
    (hk : PySem.W.keepIn X.K (.ref f) = true) (hb : KB0 X.K fd ps ks pm) (hx : Passes CX X E) (hkw : PK X kws tk)
    (hall : (backToKw pos (keywordEach kws X.env)).all (·.1.isSome) = true := by rfl)
    (hks : (backToKw pos (keywordEach kws X.env)).filterMap (·.1) = ks := by rfl) (hdb : (x == ("__debug__" : Str)) = false := by decide)
    (hpl : ((backTo pos (starEach [] X.env)).any (·.1) || (backToKw pos (keywordEach kws X.env)).any (·.1.isNone)) = false := by rfl) :
    PE X (.Call (.Name x p) [] kws pos) (fun σ H Q => tk σ H fun zs H1 => zs.length = ks.length ∧ sp (putV pm zs) H1 Q E) :=
  pe_callK0S (ES := fun _ => E) F hr hg hm hk hb (passC hx) hkw hall hks hdb hpl
/-- X(), an own class of exceptions without __init__ -/
theorem pmk_own0 {C : Addr} {bmB : List Value} {B newId initId : String} (F : ExcBaseFacts B newId initId bmB)
    (q : PySem.W.excIn X.K C bmB newId = true) (gC : X.mg x = some (.ref C)) (kC : PySem.W.keepIn X.K (.ref C) = true)
    (r : Raises X (.ref C)) (hg : Gl X x) (hdb : (x == ("__debug__" : Str)) = false := by decide) :
    PMk X (.Call (.Name x p) [] [] pos) (fun _ H Q => Q (.ref C) none H) := by
  intro pins s σ H Q I h
  refine wpAny_Call_Name_kw (ld_glob I hg gC ?_ hdb)
  refine PySem.W.callWith_K0 I.kIn kC ?_
  show wpAny _ _ (call (.ref C) []) _ _ _
  obtain ⟨bm, N, nm, qn, bs, hdct, sn, sub, ab, col, dd, k0, k1, k2, k3, k5, mN, hC, hN, hni, T⟩ := exc_obj I.kIn q
  exact wpAny_call_exc_subT F T hC hN hni (fun h' e hm => mk_of I hm r h (I.hok.gone hm.new)) (Nat.zero_le _)
end

/-- // by a divisor of either sign, below 2 ^ 9000 in size -/
def CDivZ (_ j : Int) : Prop := j ≠ 0 ∧ j.natAbs.log2 < 9000
theorem op_fdivZ {X : Cx} : OpR X (binaryOp .FloorDiv) (rI CDivZ fun i j => .int (i.fdiv j)) :=
  opI fun _ _ _ _ _ _ _ hc q => floordiv_int hc.1 q (.inl (PyProof.noPylong_of_log2 hc.2))
/-- isinstance(e, c) where the class of what the suite holds is told by the reading -/
theorem call_isE2 {X : Cx} {a D : Addr} {oe : Obj} {pn : List (Addr × Obj)} {cls : Value} {d : Option Addr} (C : ExcC X.K D) (hz : Zc cls d oe)
    (hf : ∃ vs, oe.data = .fields vs) : CallR (X.suite a ((a, oe) :: pn)) (.builtin "isinstance")
      (fun xs H Q => cls = .ref D ∧ d = none ∧ rIsE X.K D a xs H Q) := by
  intro pins s σ H xs us Q I r h
  obtain ⟨h1, h2, q⟩ := h
  subst h1; subst h2
  exact call_isE C hz hf pins s σ H xs us Q I r q

/-! ### the end of a law, by such a promise -/
theorem law_callG {P : Program} {w : World} {K : PySem.W.Frag} {mg mb : Str → Option Value} {k : Nat} {fa a : Addr} {fd : FuncData}
    {x : Str} {sp : Sp} {s₁ : Shared} {vs : List Value} {ns : List Int} (KX : K.In s₁.heap) (hns : s₁.heap.Ns mainGlobals mg)
    (hb : s₁.heap.Ns builtinsNs mb) (hbb : ∀ x : Str, x ≠ "__name__" → mb x = bootBuiltins x) (hlim : s₁.heap.NoLimit) (hg : s₁.gens = #[])
    (ha : s₁.heap.get? a = some { cls := .type "list", data := .seq vs.toArray }) (hi : IntsAre vs ns) (hl : ns.length ≤ sizeLine)
    (hr : Room k callerA) (F : ∀ base : Heap, K.In base → base.Ns mainGlobals mg → FnG P w K mg base CX0 k fa fd [x] sp)
    (hbind : ∀ (s : Shared) (u : Value), BindsTo s fd ⟨[u], []⟩ [(x, u)])
    (hsp : ∀ H : Hp, Only H → SqL K H a (ns.map V.int) → sp [.ref a] H (fun v _ => v = .bl true) fun _ _ _ => False) :
    codeAny (model P w) callerA (.call (.ref fa) ⟨[.ref a], []⟩)
      (fun r s' => r = .ok (.ret (.bool true)) ∧ OldK s₁.heap s'.heap ∧ s'.os = s₁.os ∧ AllBare s'.gens) s₁ := by
  have rv := vals_ints hi
  have lenV := hi.length
  have core : ∀ H : Hp, Only H → SqL K H a (ns.map V.int) → HOk P w H s₁.heap → (∀ b, H b ≠ none → b = a) →
      (H a ≠ none → K.lookup a = none) → codeAny (model P w) callerA (.call (.ref fa) ⟨[.ref a], []⟩)
      (fun r s' => r = .ok (.ret (.bool true)) ∧ OldK s₁.heap s'.heap ∧ s'.os = s₁.os ∧ AllBare s'.gens) s₁ := by
    intro H hO hS hok hA hK
    have away : ∀ {b : Addr} {o : Obj} {es : Array DictEntry} {ep : Nat}, s₁.heap.get? b = some o → o.data = .dict es ep → H b = none := by
      intro b o es ep e d
      cases q : H b with
      | none => rfl
      | some u =>
        have e' : b = a := hA b (fun z => by rw [q] at z; cases z)
        rw [e', ha] at e
        cases e
        exact nomatch (show Data.seq vs.toArray _ = Data.dict es ep from d)
    have nsK : ∀ {b : Addr} {m : Str → Option Value}, s₁.heap.Ns b m → (hidT s₁.heap H).Ns b m := by
      intro b m z
      obtain ⟨o, es, ep, e, d, r⟩ := z
      exact ⟨o, es, ep, hidT_get e (away e d), d, r⟩
    have hKb : K.In (hidT s₁.heap H) := by
      intro b o e
      refine hidT_get (KX b o e) ?_
      cases q : H b with
      | none => rfl
      | some u =>
        have e' : b = a := hA b (fun z => by rw [q] at z; cases z)
        subst e'
        rw [hK (fun z => by rw [q] at z; cases z)] at e
        cases e
    obtain ⟨mc, l1, l2⟩ := hlim
    have hM : Mod K mg (hidT s₁.heap H) := ⟨hKb, nsK hns, ⟨mb, nsK hb, hbb⟩, mc, nsK l1, l2⟩
    have e0 : Env0 P w K mg (hidT s₁.heap H) callerA [] s₁ H :=
      ⟨rfl, hM, fun b o e => of_hidT e, Nat.le_of_eq (hidT_size _ _), trivial, fun b hb => (nomatch hb), hok, .of_eq hg⟩
    have main := (F _ hKb (nsK hns)).run callerA rfl [] s₁ H ⟨[.ref a], []⟩ [.ref a] [.ref a] _ _ hr e0 (hbind s₁ (.ref a)) (.cons rfl .nil) (hsp H hO hS)
    refine codeAny_mono main fun r s' h => ?_
    match r, h with
    | .error e, h => exact h.elim
    | .ok .next, h => exact h.elim
    | .ok .brk, h => exact h.elim
    | .ok .cont, h => exact h.elim
    | .ok (.ret u), ⟨v, H', os, bare, un, hok', r', q⟩ =>
      have q' : v = .bl true := q
      subst q'
      have eu : u = Value.bool true := r'
      subst eu
      refine ⟨rfl, OldK.of_keep fun b o e => ?_, os, bare⟩
      cases q : H b with
      | none => exact un.keep b o e q (fun z => nomatch z) (fun z => nomatch z)
      | some u =>
        rcases hO b with z | ⟨ob, xs, z⟩
        · rw [q] at z; cases z
        · have e1 := (hok b _ z).1
          have e2 := (hok' b _ (un.frzs b ob _ z)).1
          rw [e] at e1; cases e1
          exact e2
  cases hk : K.lookup a with
  | some o =>
    have e := KX a o hk
    rw [ha] at e
    cases e
    refine core (fun _ => none) (fun _ => .inl rfl) ?_ (fun b u z => nomatch z) (fun b z => absurd rfl z) fun z => absurd rfl z
    exact .inr ⟨_, vs.toArray, _, hk, rfl, rfl, rfl, by rw [List.size_toArray, lenV]; exact hl, by simpa using rv⟩
  | none =>
    have yes : (if a = a then some (HO.frz { cls := .type "list", data := .seq vs.toArray } (.lst (ns.map V.int))) else none) =
        some (HO.frz { cls := .type "list", data := .seq vs.toArray } (.lst (ns.map V.int))) := if_pos rfl
    refine core (fun b => if b = a then some (.frz { cls := .type "list", data := .seq vs.toArray } (.lst (ns.map V.int))) else none)
      (fun b => ?_) (.inl (.inr ⟨_, yes⟩)) (fun b u z => ?_) (fun b z => ?_) fun _ => hk
    · by_cases hb : b = a
      · exact .inr ⟨_, _, if_pos hb⟩
      · exact .inl (if_neg hb)
    · by_cases hb : b = a
      · cases (if_pos hb).symm.trans z
        subst hb
        exact ⟨ha, by rw [List.length_map]; exact hl, vs, _, rv, ha⟩
      · cases (if_neg hb).symm.trans z
    · by_cases hb : b = a
      · exact hb
      · exact absurd (if_neg hb) z

theorem walk_ofG {l : PySem.W.OpenLaw} {n k : Nat} {q : Program} {loose : List Str} {XP : (Str → Option Value) → Heap → Prop}
    {YP : World → Heap → Prop} {d : DefRec} {K : Params → PySem.W.Frag} {sp : World → Sp} {x : Str}
    (hn : l.most = some n) (hn2 : n ≤ sizeLine) (hdf : d.params.defaults = []) (hr : Room k callerA)
    (hY : ∀ (w : World) (h : Heap), YP w h → (K w.params).In h)
    (F : ∀ (w : World) (mg : Str → Option Value) (fa : Addr) (h : Heap), (K w.params).In h → h.Ns mainGlobals mg → mg d.name = some (.ref fa) →
      ∃ fd : FuncData, (∀ (s : Shared) (u : Value), BindsTo s fd ⟨[u], []⟩ [(x, u)]) ∧
        ∀ base : Heap, (K w.params).In base → base.Ns mainGlobals mg → FnG l.prog w (K w.params) mg base CX0 k fa fd [x] (sp w))
    (hsp : ∀ (w : World) (H : Hp) (a : Addr) (ns : List Int), ns.length ≤ n → Only H → SqL (K w.params) H a (ns.map V.int) →
      sp w [.ref a] H (fun v _ => v = .bl true) fun _ _ _ => False) :
    PySem.W.WalkO q loose XP YP l.row.toRowW d [] (fun f vs => PySem.call f vs) := by
  refine Att.attach_call hn hdf fun w s₀ s₁ mg mb fa o pm cd doc a vs ns G Y ho hd hcd hmg hobj hints hlen hg => ?_
  obtain ⟨fd, hb, hF⟩ := F w mg fa _ (hY w _ Y) G.T.g hmg
  exact law_callG (hY w _ Y) G.T.g G.T.b G.T.builtins G.T.nolimit hg hobj hints (Nat.le_trans hlen hn2) hr hF hb fun H hO hS => hsp w H a ns hlen hO hS

/-! ### repr of what is nested -/
mutual
/-- shown by repr within the line, no dicts -/
def fits : PyData → Bool
  | .none => true
  | .bool _ => true
  | .int i => decide (i.natAbs.log2 < 1920)
  | .str x => x.cps.toList.all fun c => decide (c < 16 ^ 8)
  | .list xs => fitsAll xs
  | .tuple xs => fitsAll xs
  | .dict _ => false
def fitsAll : List PyData → Bool
  | [] => true
  | x :: xs => fits x && fitsAll xs
end
mutual
theorem fits_to : ∀ d : PyData, fits d = true → d.showable = true ∧ d.hasDict = false ∧ d.leavesShort 1921 = true
  | .none, _ => ⟨rfl, rfl, rfl⟩
  | .bool _, _ => ⟨rfl, rfl, rfl⟩
  | .int i, h => by
    have h' : i.natAbs.log2 < 1920 := by simpa only [fits, decide_eq_true_eq] using h
    refine ⟨by simpa only [PyData.showable, decide_eq_true_eq] using h', rfl, ?_⟩
    have e := int_text_length_le (k := 1920) (by decide) h'
    simp only [PyData.leavesShort, decide_eq_true_eq]
    show (Str.ofString (toString i)).length ≤ 1921
    rw [PySem.ofString_length]
    exact e
  | .str x, h => ⟨rfl, rfl, by simpa only [fits, PyData.leavesShort] using h⟩
  | .list xs, h => by
    have z := fitsAll_to xs (by simpa only [fits] using h)
    exact ⟨by simpa only [PyData.showable] using z.1, by simpa only [PyData.hasDict] using z.2.1, by simpa only [PyData.leavesShort] using z.2.2⟩
  | .tuple xs, h => by
    have z := fitsAll_to xs (by simpa only [fits] using h)
    exact ⟨by simpa only [PyData.showable] using z.1, by simpa only [PyData.hasDict] using z.2.1, by simpa only [PyData.leavesShort] using z.2.2⟩
  | .dict _, h => by simp [fits] at h
theorem fitsAll_to : ∀ xs : List PyData, fitsAll xs = true → PyData.showableAll xs = true ∧ PyData.hasDictAll xs = false ∧ PyData.leavesShortAll 1921 xs = true
  | [], _ => ⟨rfl, rfl, rfl⟩
  | x :: xs, h => by
    have h' : fits x = true ∧ fitsAll xs = true := by simpa only [fitsAll, Bool.and_eq_true] using h
    have a := fits_to x h'.1
    have b := fitsAll_to xs h'.2
    refine ⟨?_, ?_, ?_⟩
    · simp only [PyData.showableAll, a.1, b.1, Bool.and_self]
    · simp only [PyData.hasDictAll, a.2.1, b.2.1, Bool.or_self]
    · simp only [PyData.leavesShortAll, a.2.2, b.2.2, Bool.and_self]
end
mutual
/-- how many leaves and displays (a text: one more than its signs) -/
def sz : PyData → Nat
  | .none => 1
  | .bool _ => 1
  | .int _ => 1
  | .str x => x.length + 1
  | .list xs => szAll xs + 1
  | .tuple xs => szAll xs + 1
  | .dict _ => 1
def szAll : List PyData → Nat
  | [] => 0
  | x :: xs => sz x + szAll xs
end
mutual
theorem shown_sz : ∀ d : PyData, fits d = true → d.shown.length + 2 ≤ 1930 * sz d
  | .none, _ => by
    have e : (PyData.shown .none).length = 4 := rfl
    simp only [sz]
    omega
  | .bool b, _ => by
    have e : (PyData.shown (.bool b)).length ≤ 5 := by cases b <;> decide
    simp only [sz]
    omega
  | .int i, h => by
    have h' : i.natAbs.log2 < 1920 := by simpa only [fits, decide_eq_true_eq] using h
    have e := int_text_length_le (k := 1920) (by decide) h'
    have e2 : (PyData.shown (.int i)).length ≤ 1921 := by
      show (Str.ofString (toString i)).length ≤ 1921
      rw [PySem.ofString_length]
      exact e
    simp only [sz]
    omega
  | .str x, h => by
    have hx : ∀ c ∈ x.cps.toList, c < 16 ^ 8 := by simpa only [fits, List.all_eq_true, decide_eq_true_eq] using h
    have e := StrLaws.reprText_len x hx
    have e2 : (PyData.shown (.str x)).length = (reprText x).length := rfl
    simp only [sz]
    omega
  | .list xs, h => by
    have h1 := shownAll_sz xs (by simpa only [fits] using h)
    have h2 := listText_len_le (PyData.shownAll xs)
    have h3 := PyData.shownAll_length xs
    simp only [PyData.shown, sz]
    omega
  | .tuple xs, h => by
    have h1 := shownAll_sz xs (by simpa only [fits] using h)
    have h2 := tupleText_len_le (PyData.shownAll xs)
    have h3 := PyData.shownAll_length xs
    simp only [PyData.shown, sz]
    omega
  | .dict _, h => by simp [fits] at h
theorem shownAll_sz : ∀ xs : List PyData, fitsAll xs = true → ((PyData.shownAll xs).map (·.length)).sum + 2 * xs.length ≤ 1930 * szAll xs
  | [], _ => by simp [PyData.shownAll, szAll]
  | x :: xs, h => by
    have h' : fits x = true ∧ fitsAll xs = true := by simpa only [fitsAll, Bool.and_eq_true] using h
    have h1 := shown_sz x h'.1
    have h2 := shownAll_sz xs h'.2
    simp only [PyData.shownAll, szAll, List.map_cons, List.sum_cons, List.length_cons]
    omega
end
theorem fits_len {d : PyData} (h : fits d = true) (hw : sz d ≤ 8000) : d.shown.length ≤ sizeLine := by
  have e := shown_sz d h
  rw [sizeLine_eq]
  omega
section
variable {X : Cx}
/-- repr(x), x a list or a tuple of plain data -/
def rRepr (K : PySem.W.Frag) : List V → Hp → VK → Prop := fun vs H Q =>
  ∃ (a : Addr) (d : PyData), vs = [.ref a] ∧ Dp K H (.ref a) d ∧ fits d = true ∧ sz d ≤ 8000 ∧ d.depth ≤ 60 ∧ Q (.str d.shown) H
theorem call_repr (hG : X.A.guards = some []) (hu : X.A.units + 64 < cLine) : CallR X (.builtin "repr") (rRepr X.K) := by
  intro pins s σ H vs us Q I r h
  obtain ⟨a, d, rfl, hd, hf, hw, hdep, q⟩ := h
  obtain ⟨u, rfl, ru⟩ := vals1 r
  cases ru
  obtain ⟨as, rd⟩ := Dp.reads I d _ _ hd rfl
  have f := fits_to d hf
  refine repr_of_reads' rd f.1 (PyData.noDict_hsm f.2.1) hG (by omega) (fun _ _ e => e) (fun h' u tk hk => ?_) (fits_len hf hw)
  exact ⟨.str d.shown, H, I.kept hk, ⟨_, rfl⟩, q⟩
end
section
variable {X : Cx}
/-- repr(x), x plain data of any kind without dicts -/
def rReprV (K : PySem.W.Frag) : List V → Hp → VK → Prop := fun vs H Q =>
  ∃ (v : V) (d : PyData), vs = [v] ∧ Dp K H v d ∧ fits d = true ∧ sz d ≤ 8000 ∧ d.depth ≤ 60 ∧ Q (.str d.shown) H
theorem call_reprV (hG : X.A.guards = some []) (hu : X.A.units + 64 < cLine) : CallR X (.builtin "repr") (rReprV X.K) := by
  intro pins s σ H vs us Q I r h
  obtain ⟨v, d, rfl, hd, hf, hw, hdep, q⟩ := h
  have hl := fits_len hf hw
  cases hd with
  | non =>
    obtain ⟨u, rfl, ru⟩ := vals1 r
    cases ru
    exact PySem.P.repr_of_none ⟨.str _, H, I.tok _, ⟨_, rfl⟩, q⟩
  | bl b =>
    obtain ⟨u, rfl, ru⟩ := vals1 r
    cases ru
    refine PySem.P.repr_of_bool ⟨.str (PyData.shown (.bool b)), H, I.tok _, ⟨_, rfl⟩, q⟩
  | int i =>
    obtain ⟨u, rfl, t, rfl⟩ := vals1 r
    exact PySem.P.repr_of_int (of_decide_eq_true hf) ⟨.str _, H, I.tok _, ⟨_, rfl⟩, q⟩
  | str x =>
    obtain ⟨u, rfl, t, rfl⟩ := vals1 r
    exact PySem.P.repr_of_str ⟨.str _, H, I.tok _, ⟨_, rfl⟩, q⟩ hl
  | lst a b => exact call_repr hG hu pins s σ H _ us Q I r ⟨_, _, rfl, .lst a b, hf, hw, hdep, q⟩
  | tup a b => exact call_repr hG hu pins s σ H _ us Q I r ⟨_, _, rfl, .tup a b, hf, hw, hdep, q⟩
end
/-! ### data of ints -/
theorem dpAll_ints {K : PySem.W.Frag} {H : Hp} : ∀ fs : List Int, DpAll K H (fs.map V.int) (fs.map PyData.int)
  | [] => .nil
  | f :: fs => .cons (.int f) (dpAll_ints fs)
theorem canLay_ints : ∀ fs : List Int, PyData.canLayAll0 (fs.map PyData.int) = true
  | [] => rfl
  | f :: fs => by
    simp only [List.map_cons, PyData.canLayAll0, PyData.canLay0, canLay_ints fs, Bool.and_self]
theorem depth_ints : ∀ fs : List Int, PyData.depthAll (fs.map PyData.int) = 0
  | [] => rfl
  | f :: fs => by
    simp only [List.map_cons, PyData.depthAll, PyData.depth, depth_ints fs, Nat.max_self]
theorem shaped_ints (fs : List Int) : SeqAt.shaped (.list (fs.map PyData.int)) = true := by
  simp only [SeqAt.shaped, PyData.canLay0, canLay_ints, PyData.depth, depth_ints]
  decide
theorem shaped_intsT (fs : List Int) : SeqAt.shaped (.tuple (fs.map PyData.int)) = true := by
  simp only [SeqAt.shaped, PyData.canLay0, canLay_ints, PyData.depth, depth_ints]
  decide
theorem eqv_ints_nil : ∀ fs : List Int, PyData.eqv (.list (fs.map PyData.int)) (.list []) = fs.isEmpty
  | [] => rfl
  | f :: fs => by
    simp [PyData.eqv, PyData.eqvAll]
theorem snoc_cases {α : Type} (l : List α) : l = [] ∨ ∃ r a, l = r ++ [a] := by
  rcases List.eq_nil_or_concat l with h | ⟨r, a, h⟩
  · exact .inl h
  · exact .inr ⟨r, a, by rw [h, List.concat_eq_append]⟩
theorem vne {a b : V} (e : (!decide (a = b)) = true) : a ≠ b := fun z => by
  rw [decide_eq_true z] at e
  exact absurd e (by decide)
theorem veq {a b : V} (e : ¬ (!decide (a = b)) = true) : a = b := by
  by_cases h : a = b
  · exact h
  · rw [decide_eq_false h] at e
    exact absurd rfl e
theorem vneF {a b : V} (e : ¬ decide (a = b) = true) : a ≠ b := fun z => e (decide_eq_true z)
/-! ### data stay under what is new -/
theorem Same.seqT {K : PySem.W.Frag} {H H' : Hp} {a : Addr} {xs : List V} (e : Same H H') (h : SqT K H a xs) : SqT K H' a xs := by
  rcases h with (h | ⟨o, h⟩) | h
  · exact .inl (.inl (e _ _ h))
  · exact .inl (.inr ⟨o, e _ _ h⟩)
  · exact .inr h
mutual
theorem dp_same {K : PySem.W.Frag} {H H' : Hp} (s : Same H H') : ∀ (d : PyData) (v : V), Dp K H v d → Dp K H' v d
  | .none, _, h => by cases h; exact .non
  | .bool _, _, h => by cases h; exact .bl _
  | .int _, _, h => by cases h; exact .int _
  | .str _, _, h => by cases h; exact .str _
  | .list ds, _, h => by
    cases h with
    | lst a b => exact .lst (s.seq a) (dpAll_same s ds _ b)
  | .tuple ds, _, h => by
    cases h with
    | tup a b => exact .tup (Ev.Same.seqT s a) (dpAll_same s ds _ b)
  | .dict _, _, h => by cases h
theorem dpAll_same {K : PySem.W.Frag} {H H' : Hp} (s : Same H H') : ∀ (ds : List PyData) (vs : List V), DpAll K H vs ds → DpAll K H' vs ds
  | [], _, h => by cases h; exact .nil
  | d :: ds, _, h => by
    cases h with
    | cons a b => exact .cons (dp_same s d _ a) (dpAll_same s ds _ b)
end
theorem nn {c : Prop} [Decidable c] {M N : Prop} (hc : c) (h : N) : if (!decide c) = true then M else N := by
  rw [decide_eq_true hc]
  exact iteF h
/-! ### what the loom is: a dict of a list of ints and two ints -/
def ld (F : Addr) (s t : Int) : List (Key × V) := [(Sum.inr "far", .ref F), (Sum.inr "stirred", .int s), (Sum.inr "times", .int t)]
def Lm (H : Hp) (L F : Addr) : Prop := ∃ (fs : List Int) (s t : Int), H L = some (.dK (ld F s t)) ∧ H F = some (.lst (fs.map V.int)) ∧ fs.length ≤ 63
theorem ld_far {F : Addr} {s t : Int} : valV (ld F s t) (Sum.inr "far") = some (.ref F) := rfl
theorem ld_stirred {F : Addr} {s t : Int} : valV (ld F s t) (Sum.inr "stirred") = some (.int s) := rfl
theorem ld_times {F : Addr} {s t : Int} : valV (ld F s t) (Sum.inr "times") = some (.int t) := rfl
theorem ld_len {F : Addr} {s t : Int} : (ld F s t).length < sizeLine := by
  show 3 < sizeLine
  decide
theorem ld_put {F : Addr} {s t u : Int} : putK (ld F s t) (Sum.inr "times") (.int u) = ld F s u := rfl
/-- all but the loom's two objects is as it was -/
def Kp (L F : Addr) (H H' : Hp) : Prop := ∀ b o, b ≠ L → b ≠ F → H b = some o → H' b = some o
theorem Kp.refl {L F : Addr} (H : Hp) : Kp L F H H := fun _ _ _ _ h => h
theorem Kp.trans {L F : Addr} {H H1 H2 : Hp} (a : Kp L F H H1) (b : Kp L F H1 H2) : Kp L F H H2 := fun c o h1 h2 h => b c o h1 h2 (a c o h1 h2 h)
theorem Kp.new {L F p : Addr} {H : Hp} {o : HO} (h : H p = none) : Kp L F H (upd H p o) := fun b u _ _ e => by
  rw [upd_ne (ne_of_none e h)]
  exact e
theorem Kp.updL {L F : Addr} {H : Hp} {o : HO} : Kp L F H (upd H L o) := fun b u h1 _ e => by
  rw [upd_ne h1]
  exact e
theorem Kp.updF {L F : Addr} {H : Hp} {o : HO} : Kp L F H (upd H F o) := fun b u _ h2 e => by
  rw [upd_ne h2]
  exact e
theorem Lm.new {H : Hp} {L F p : Addr} {o : HO} (h : Lm H L F) (hp : H p = none) : Lm (upd H p o) L F := by
  obtain ⟨fs, s, t, h1, h2, h3⟩ := h
  exact ⟨fs, s, t, by rw [upd_ne (ne_of_none h1 hp)]; exact h1, by rw [upd_ne (ne_of_none h2 hp)]; exact h2, h3⟩
theorem Lm.ne {H : Hp} {L F p : Addr} (h : Lm H L F) (hp : H p = none) : p ≠ L ∧ p ≠ F := by
  obtain ⟨fs, s, t, h1, h2, h3⟩ := h
  refine ⟨fun e => ?_, fun e => ?_⟩
  · rw [e, h1] at hp
    cases hp
  · rw [e, h2] at hp
    cases hp
theorem kp_same {L F : Addr} {H H' : Hp} (s : Same H H') : Kp L F H H' := fun b o _ _ e => s b o e
theorem Lm.same {H H' : Hp} {L F : Addr} (h : Lm H L F) (s : Same H H') : Lm H' L F := by
  obtain ⟨fs, a, b, h1, h2, h3⟩ := h
  exact ⟨fs, a, b, s _ _ h1, s _ _ h2, h3⟩
theorem Lm.tup {H : Hp} {L F t : Addr} {xs : List V} (h : Lm H L F) (ht : H t = some (.tup xs)) : t ≠ L ∧ t ≠ F := by
  obtain ⟨fs, a, b, h1, h2, h3⟩ := h
  exact ⟨ne_of ht h1 (by intro z; cases z), ne_of ht h2 (by intro z; cases z)⟩
theorem Kp.tup {L F t : Addr} {H H' : Hp} {xs : List V} (k : Kp L F H H') (h : Lm H L F) (ht : H t = some (.tup xs)) : H' t = some (.tup xs) := k _ _ (h.tup ht).1 (h.tup ht).2 ht
theorem Kp.seq {K : PySem.W.Frag} {L F a : Addr} {H H' : Hp} {xs : List V} (k : Kp L F H H') (h1 : a ≠ L) (h2 : a ≠ F) (h : SqL K H a xs) : SqL K H' a xs := by
  rcases h with (h | ⟨o, h⟩) | h
  · exact .inl (.inl (k _ _ h1 h2 h))
  · exact .inl (.inr ⟨o, k _ _ h1 h2 h⟩)
  · exact .inr h
theorem cut_ints (ns : List Int) (lo hi : Option Int) : ∃ ms : List Int, cutV (ns.map V.int) lo hi = ms.map V.int ∧ ms.length ≤ ns.length := by
  refine ⟨(ns.drop (HT.sIx ns.length 0 lo)).take (HT.sIx ns.length ns.length hi - HT.sIx ns.length 0 lo), ?_, ?_⟩
  · unfold cutV
    rw [List.length_map, List.map_take, List.map_drop]
  · rw [List.length_take, List.length_drop]
    omega
theorem int_at {ms : List Int} {i : Nat} {x : V} (h : (ms.map V.int)[i]? = some x) : ∃ m, ms[i]? = some m ∧ x = .int m := by
  rw [List.getElem?_map] at h
  cases e : ms[i]? with
  | none => rw [e] at h; cases h
  | some m => rw [e] at h; exact ⟨m, rfl, (Option.some.inj h).symm⟩
theorem same_new {H : Hp} {p : Addr} {o : HO} (h : H p = none) : Same H (upd H p o) := fun b x e => by
  rw [upd_ne (ne_of_none e h)]
  exact e
/-- a new object's own later states leave the rest -/
theorem same_put {H H1 : Hp} {p : Addr} {o : HO} (s : Same H H1) (h : H p = none) : Same H (upd H1 p o) := fun b x e => by
  rw [upd_ne (ne_of_none e h)]
  exact s _ _ e
theorem yes_of {σ : L2.St} {H : Hp} {M N : Hp → Prop} (h : M H) : tYes σ H (fun b H3 => if b = true then M H3 else N H3) := by
  unfold tYes
  show if true = true then M H else N H
  rw [if_pos rfl]
  exact h
theorem absI (a : Int) : (if a < 0 then -a else a) = (a.natAbs : Int) := by
  split <;> omega
end Ev

set_option exponentiation.threshold 256
/-! fractions -/
namespace Ev
def gc (a b : Int) : Nat := Nat.gcd a.natAbs b.natAbs
def dv (a b : Int) : Int := if 0 < b then (gc a b : Int) else -(gc a b : Int)
def fA (a b : Int) : Int := a.fdiv (dv a b)
def fB (a b : Int) : Int := b.fdiv (dv a b)
def Low (x y : Int) : Prop := 0 < y ∧ Nat.gcd x.natAbs y.natAbs = 1
theorem gc_pos {a b : Int} (h : b ≠ 0) : 0 < gc a b := Nat.gcd_pos_of_pos_right _ (by omega)
theorem dv_abs (a b : Int) : (dv a b).natAbs = gc a b := by
  unfold dv
  split <;> omega
theorem dv_ne {a b : Int} (h : b ≠ 0) : dv a b ≠ 0 := by
  have := gc_pos (a := a) h
  have e := dv_abs a b
  omega
theorem dv_dvd_a (a b : Int) : dv a b ∣ a := by
  rw [← Int.natAbs_dvd_natAbs, dv_abs]
  exact Nat.gcd_dvd_left _ _
theorem dv_dvd_b (a b : Int) : dv a b ∣ b := by
  rw [← Int.natAbs_dvd_natAbs, dv_abs]
  exact Nat.gcd_dvd_right _ _
theorem fA_mul {a b : Int} (h : b ≠ 0) : a = dv a b * fA a b := by
  obtain ⟨c, hc⟩ := dv_dvd_a a b
  have e : fA a b = c := by
    have : fA a b = (dv a b * c).fdiv (dv a b) := by rw [← hc]; rfl
    rw [this, Int.mul_fdiv_cancel_left _ (dv_ne h)]
  rw [e]
  exact hc
theorem fB_mul {a b : Int} (h : b ≠ 0) : b = dv a b * fB a b := by
  obtain ⟨c, hc⟩ := dv_dvd_b a b
  have e : fB a b = c := by
    have : fB a b = (dv a b * c).fdiv (dv a b) := by rw [← hc]; rfl
    rw [this, Int.mul_fdiv_cancel_left _ (dv_ne h)]
  rw [e]
  exact hc
theorem fA_le {a b : Int} (h : b ≠ 0) : (fA a b).natAbs ≤ a.natAbs := by
  have e := congrArg Int.natAbs (fA_mul (a := a) h)
  rw [Int.natAbs_mul, dv_abs] at e
  rw [e]
  exact Nat.le_mul_of_pos_left _ (gc_pos h)
theorem fB_le {a b : Int} (h : b ≠ 0) : (fB a b).natAbs ≤ b.natAbs := by
  have e := congrArg Int.natAbs (fB_mul (a := a) h)
  rw [Int.natAbs_mul, dv_abs] at e
  rw [e]
  exact Nat.le_mul_of_pos_left _ (gc_pos h)
theorem low_f {a b : Int} (h : b ≠ 0) : Low (fA a b) (fB a b) := by
  have hp := gc_pos (a := a) h
  refine ⟨?_, ?_⟩
  · have e := fB_mul (a := a) h
    rcases Int.lt_trichotomy 0 b with hb | hb | hb
    · have d : dv a b = (gc a b : Int) := if_pos hb
      rw [d] at e
      rcases Int.lt_trichotomy 0 (fB a b) with z | z | z
      · exact z
      · rw [← z, Int.mul_zero] at e
        exact absurd e h
      · have : (gc a b : Int) * fB a b < 0 := Int.mul_neg_of_pos_of_neg (by omega) z
        omega
    · exact absurd hb.symm h
    · have d : dv a b = -(gc a b : Int) := if_neg (by omega)
      rw [d] at e
      rcases Int.lt_trichotomy 0 (fB a b) with z | z | z
      · exact z
      · rw [← z, Int.mul_zero] at e
        exact absurd e h
      · have : 0 < -(gc a b : Int) * fB a b := Int.mul_pos_of_neg_of_neg (by omega) z
        omega
  · have ea := congrArg Int.natAbs (fA_mul (a := a) h)
    have eb := congrArg Int.natAbs (fB_mul (a := a) h)
    rw [Int.natAbs_mul, dv_abs] at ea eb
    have g : gc a b = Nat.gcd (gc a b * (fA a b).natAbs) (gc a b * (fB a b).natAbs) := by
      conv => lhs; unfold gc; rw [ea, eb]
    rw [Nat.gcd_mul_left] at g
    have : gc a b * 1 = gc a b * Nat.gcd (fA a b).natAbs (fB a b).natAbs := by rw [Nat.mul_one]; exact g
    exact (Nat.eq_of_mul_eq_mul_left hp this).symm
theorem low_inj {x y z u : Int} (h1 : Low x y) (h2 : Low z u) (e : x * u = z * y) : x = z ∧ y = u := by
  obtain ⟨p1, c1⟩ := h1
  obtain ⟨p2, c2⟩ := h2
  have en := congrArg Int.natAbs e
  rw [Int.natAbs_mul, Int.natAbs_mul] at en
  have d1 : y.natAbs ∣ u.natAbs := by
    have : y.natAbs ∣ x.natAbs * u.natAbs := ⟨z.natAbs, by rw [en, Nat.mul_comm]⟩
    exact Nat.Coprime.dvd_of_dvd_mul_left (show Nat.Coprime y.natAbs x.natAbs by rw [Nat.coprime_comm]; exact c1) this
  have d2 : u.natAbs ∣ y.natAbs := by
    have : u.natAbs ∣ z.natAbs * y.natAbs := ⟨x.natAbs, by rw [← en, Nat.mul_comm]⟩
    exact Nat.Coprime.dvd_of_dvd_mul_left (show Nat.Coprime u.natAbs z.natAbs by rw [Nat.coprime_comm]; exact c2) this
  have ey : y = u := by
    have := Nat.dvd_antisymm d1 d2
    omega
  subst ey
  exact ⟨Int.eq_of_mul_eq_mul_right (by omega) e, rfl⟩
end Ev

set_option exponentiation.threshold 256
namespace Ev
open PySem PySem.Spec PyProof.Rows L2 SX
/-! ### decimal writing -/
open TL (numL numL_lt numL_step numL_digits numL_ne numL_free numL_val numL_inj numL_len)
def intL (i : Int) : List Nat := if i < 0 then 45 :: numL i.natAbs else numL i.natAbs
theorem int_text (i : Int) : Str.ofString (toString i) = S (intL i) := by
  cases i with
  | ofNat m =>
    have e : intL (Int.ofNat m) = numL m := if_neg (by show ¬ ((m : Int) < 0); omega)
    rw [e]
    exact num_S m
  | negSucc m =>
    have e : intL (Int.negSucc m) = 45 :: numL (m + 1) := if_pos (Int.negSucc_lt_zero m)
    rw [e]
    refine TL.ext_tl ?_
    have t : toString (Int.negSucc m) = "-" ++ Nat.repr (m + 1) := rfl
    rw [t, TL.tl_ofString, String.toList_append, List.map_append]
    have h := TL.tl_num (m + 1)
    rw [TL.tl_ofString] at h
    have z : (toString (((m + 1 : Nat)) : Int)) = Nat.repr (m + 1) := rfl
    rw [z] at h
    rw [h]
    rfl
/-- k figures of r, noughts ahead -/
def padL : Nat → Nat → List Nat
  | 0, _ => []
  | k + 1, r => padL k (r / 10) ++ [48 + r % 10]
theorem padL_len : ∀ k r, (padL k r).length = k
  | 0, _ => rfl
  | k + 1, r => by
    show (padL k (r / 10) ++ [48 + r % 10]).length = k + 1
    rw [List.length_append, padL_len k, List.length_singleton]
theorem padL_zero : ∀ k, padL k 0 = List.replicate k 48
  | 0 => rfl
  | k + 1 => by
    show padL k (0 / 10) ++ [48 + 0 % 10] = _
    rw [show 0 / 10 = 0 from rfl, padL_zero k, List.replicate_succ']
theorem pow_mul10 (q k r : Nat) : (q * 10 ^ (k + 1) + r) / 10 = q * 10 ^ k + r / 10 ∧ (q * 10 ^ (k + 1) + r) % 10 = r % 10 := by
  have e : q * 10 ^ (k + 1) = 10 * (q * 10 ^ k) := by rw [Nat.pow_succ, ← Nat.mul_assoc, Nat.mul_comm]
  rw [e]
  constructor <;> omega
theorem numL_cat {q : Nat} (hq : 1 ≤ q) : ∀ k r, r < 10 ^ k → numL (q * 10 ^ k + r) = numL q ++ padL k r
  | 0, r, h => by
    have e : r = 0 := by simpa using h
    subst e
    show numL (q * 10 ^ 0 + 0) = numL q ++ []
    rw [Nat.pow_zero, Nat.mul_one, Nat.add_zero, List.append_nil]
  | k + 1, r, h => by
    obtain ⟨e1, e2⟩ := pow_mul10 q k r
    have big : 10 ≤ q * 10 ^ (k + 1) + r := by
      have : 1 * 10 ^ (k + 1) ≤ q * 10 ^ (k + 1) := Nat.mul_le_mul_right _ hq
      have : 10 ^ (k + 1) = 10 ^ k * 10 := Nat.pow_succ 10 k
      have : 0 < 10 ^ k := Nat.pow_pos (by decide)
      omega
    rw [numL_step big, e1, e2, numL_cat hq k (r / 10) (by rw [Nat.pow_succ] at h; omega), List.append_assoc]
    rfl
theorem padL_eq : ∀ k r, r < 10 ^ (k + 1) → padL (k + 1) r = List.replicate (k + 1 - (numL r).length) 48 ++ numL r
  | 0, r, h => by
    have h' : r < 10 := by simpa using h
    rw [numL_lt h']
    show padL 0 (r / 10) ++ [48 + r % 10] = _
    rw [Nat.mod_eq_of_lt h']
    rfl
  | k + 1, r, h => by
    show padL (k + 1) (r / 10) ++ [48 + r % 10] = _
    by_cases hr : r < 10
    · rw [numL_lt hr, Nat.div_eq_of_lt hr, padL_zero, Nat.mod_eq_of_lt hr]
      rfl
    · have ih := padL_eq k (r / 10) (by rw [Nat.pow_succ] at h; omega)
      rw [ih, numL_step (by omega : 10 ≤ r), List.append_assoc, List.length_append, List.length_singleton]
      congr 2
      omega
theorem zfill_num {k r : Nat} (h : r < 10 ^ (k + 1)) : Txt.zfill (S (numL r)) (((k + 1 : Nat)) : Int) = S (padL (k + 1) r) := by
  have hl := numL_len (by omega) h
  have hz : (S (numL r)).length = (numL r).length := S_len _
  unfold Txt.zfill
  split
  · rename_i z
    rw [hz] at z
    have e : (numL r).length = k + 1 := by omega
    rw [padL_eq k r h, e, Nat.sub_self]
    rfl
  · rw [hz]
    have e1 : (((k + 1 : Nat) : Int)).toNat - (numL r).length = k + 1 - (numL r).length := by omega
    rw [e1, padL_eq k r h]
    unfold zfilled
    have hd : ∀ c, (S (numL r)).cps[0]? = some c → 48 ≤ c ∧ c ≤ 57 := fun c hc => by
      refine numL_digits r c ?_
      have : (numL r)[0]? = some c := by
        have z : (S (numL r)).cps[0]? = (numL r)[0]? := by simp [S]
        rw [← z]; exact hc
      exact List.mem_of_getElem? this
    have body : Builtin.Str.padded (S (numL r)) (k + 1 - (numL r).length) 0 48 = S (List.replicate (k + 1 - (numL r).length) 48 ++ numL r) := by
      refine TL.ext_tl ?_
      show (Array.replicate (k + 1 - (numL r).length) 48 ++ (numL r).toArray ++ Array.replicate 0 48).toList = _
      simp [S]
    split
    · rename_i e
      have := hd _ e
      omega
    · rename_i e
      have := hd _ e
      omega
    · exact body
/-! ### the text of a fraction -/
def fracL (a b : Int) : List Nat := if b = 1 then intL a else intL a ++ 47 :: intL b
/-! ### reading -/
def isDig (c : Nat) : Bool := decide (48 ≤ c) && decide (c ≤ 57)
def unsign (t : List Nat) : List Nat := if t.head? = some 45 then t.drop 1 else t
def rdI (t : List Nat) : Option Int :=
  if 1 ≤ (unsign t).length ∧ (unsign t).length ≤ 400 ∧ (unsign t).all isDig = true ∧ ((unsign t).head? = some 48 → t = [48]) then
    some (if t.head? = some 45 then -(NumText.digitsVal (unsign t) : Int) else (NumText.digitsVal (unsign t) : Int))
  else none
theorem removeprefix_minus (t : List Nat) : Txt.removeprefix (S t) (S [45]) = S (unsign t) := by
  rw [StrLaws.removeprefix_eq]
  have e : Builtin.Str.subAt (S t) (S [45]) 0 = decide (t.head? = some 45) := by
    rw [StrLaws.subAt_eq]
    show ((t.drop 0).take 1 == [45]) = _
    cases t with
    | nil => rfl
    | cons c r =>
      show ([c] == [45]) = decide (some c = some 45)
      by_cases h : c = 45
      · subst h; rfl
      · rw [decide_eq_false (fun z => h (Option.some.inj z))]
        simp [h]
  rw [e, S_len, S_len]
  unfold unsign
  by_cases h : t.head? = some 45
  · have hl : 1 ≤ t.length := by
      cases t with
      | nil => cases h
      | cons c r => simp
    have hl' : 0 + [45].length ≤ t.length := by simpa using hl
    rw [decide_eq_true h, decide_eq_true hl', Bool.and_self, if_pos rfl, if_pos h]
    show S ((t.drop 1).take (t.length - 1)) = S (t.drop 1)
    rw [List.take_of_length_le (by rw [List.length_drop]; omega)]
  · rw [decide_eq_false h, Bool.and_false, if_neg Bool.false_ne_true, if_neg h]
/-! ### sep.join(reversed(a list of texts)) -/
section
variable {prog : Program} {w : World} {A : Around} {E : Value → Shared → Prop} {s : Shared}
theorem join_rev {x : Str} {t : Tok} {it l : Addr} {items : Array Value} {ys : List Str} {Q : Value → Shared → Prop} (hh : A.handled = none)
    (hit : s.heap.IsRevIter it l ((items.size : Int) - 1)) (hl : s.heap.IsList l items) (hne : l ≠ it) (hn : items.size ≤ sizeLine)
    (hP : ∀ acc : Array Value, ItemsOf (fun i v => items[items.size - 1 - i]? = some v) acc items.size → StrsAre acc.toList ys)
    (hok : (ys.map (·.length)).sum + ys.length * x.length ≤ 16777216)
    (hq : ∀ (h' : Heap) (t' : Tok) (k : Nat), (∀ b o, b ≠ it → s.heap.get? b = some o → h'.get? b = some o) → Q (.str (Txt.join x ys) t') { s with heap := h', toks := k }) :
    wpAny (model prog w) A (call (.builtin "str.join") [.str x t, .ref it]) Q E s := by
  refine wpAny_call (codeAny_call_builtin F.slot_str_join.plain F.entry_str_join (F.slot_str_join.check _ _ _ _ _ _ _ _ (typeIs_str _ _ _) (F.args_str_join_2 _ _) ?_))
  rw [join_tree_other]
  have hT : s.TypeIs (.ref it) "list_reverseiterator" := hit.typeIs
  refine wpAny_bind (wpAny_typeOf hT ?_)
  show wpAny _ A.in1 ((pyIter (.ref it)).tryCatch _ >>= fun it => collect it >>= fun items => joinTail x items) _ _ s
  refine wpAny_bind (wpAny_tryCatch (wpAny_pyIter_revIter hit ?_))
  refine wpAny_bind (RT.collect_rev (A := A.in1) hh hit hl hne hn fun h' tk acc hk hacc => ?_)
  obtain ⟨ls, el, ht⟩ := strsAre_values (hP acc hacc)
  subst ht
  rw [el]
  have hok' := joinOk_of hok
  unfold JoinOk at hok'
  rw [Bool.not_eq_true'] at hok'
  have g : Gives (joinTail x (strValues ls)) (joinMade x ls) := by
    have g0 := gives_joinTail x ls hok'
    rcases ls with _ | ⟨p, _ | ⟨q, r⟩⟩ <;> exact g0
  exact g prog w A (wants Q E) _ (post_join ls ⟨joinFit_length hok', fun t' k => hq h' t' k hk⟩)
end
theorem strs_rev {ys : List Str} {its : List Value} (r : Vals (ys.map V.str) its) {acc : Array Value}
    (h : ItemsOf (fun i v => its.toArray[its.toArray.size - 1 - i]? = some v) acc its.toArray.size) : StrsAre acc.toList ys.reverse := by
  have z := RT.vals_rev r h
  rw [← List.map_reverse] at z
  exact strs_of_vals z
section
variable {X : Cx}
theorem pe_joinRev {o e : Expr} {to te : TE} {apos pos p pos2 : Pos} (hc : X.calm = true) (ho : PE X o to) (hg : Gl X "reversed") (hm : X.mg "reversed" = none) (he : PE X e te)
    (hs1 : starEach [.Call (.Name "reversed" p) [e] [] pos2] X.env = [(false, eval (.Call (.Name "reversed" p) [e] [] pos2) X.env)] := by rfl)
    (hs : starEach [e] X.env = (false, eval e X.env) :: starEach [] X.env := by rfl)
    (hbase : attributeBase o "join" X.env (eval o X.env) = eval o X.env := by rfl) (hline : (apos.endLine == pos.line) = true := by rfl) :
    PE X (.Call (.Attribute o "join" apos) [.Call (.Name "reversed" p) [e] [] pos2] [] pos)
      (fun σ H Q => to σ H fun x H1 => (∃ a, x = .str a) ∧ te σ H1 fun v H2 => ∃ (a : Str) (q : Addr) (ys : List Str), x = .str a ∧ v = .ref q ∧ SqL X.K H2 q (ys.map V.str) ∧
        (ys.map (·.length)).sum + ys.length * a.length ≤ 16777216 ∧ Q (.str (Txt.join a ys.reverse)) H2) := by
  refine ⟨fun pins s σ H Q I h => ?_⟩
  refine PySem.Call_method1 hbase hs1 hline (thn (ho.run pins s σ H _ I h) fun v s1 ⟨x, H1, I1, r1, q1⟩ => ?_)
  obtain ⟨⟨a, rfl⟩, q1⟩ := q1
  obtain ⟨t, rfl⟩ := _root_.id r1
  refine ⟨"str", _, F.plainAttrs_str, F.slot_str_join, F.type_str_join, typeIs_str _ _ _, (fun _ e => nomatch e), Calls.callWith_builtin rfl (Calls.evalArgs_plain (Calls.spliced_cons ?_))⟩
  refine Call_ (ld_blt I1 hg hm PyProof.Rows.boot_reversed (PyProof.Rows.callWith_type1 (args_cons (thn (he.run pins s1 σ H1 _ I1 q1) fun u s2 ⟨v, H2, I2, r2, q2⟩ => args_nil ?_) hs) hs rfl))
  obtain ⟨a', q, ys, ea, ev, hq, hz, q2⟩ := q2
  cases ea
  subst ev
  cases r2
  obtain ⟨its, rv, p', hsz⟩ := I2.list hq
  refine call_reversed_list p'.isList (Calls.spliced_nil ?_)
  have k0 : ∀ b o, s2.heap.get? b = some o → (s2.heap.push (revObj q ((its.toArray.size : Int) - 1))).get? b = some o := fun b o e => Heap.get?_push_of_some _ e
  have I3 : Inv X pins σ H2 { s2 with heap := s2.heap.push (revObj q ((its.toArray.size : Int) - 1)) } := I2.kept (t' := s2.toks) k0
  obtain ⟨f0, f1, f2, f3, f4, f5⟩ := I2.fpOk (H' := H2) (b := s2.heap.objs.size) (Nat.le_refl _) (I2.hok.fresh (Nat.le_refl _))
  have hl := p'.isList
  obtain ⟨ol, hol, _⟩ := _root_.id hl
  have hne : q ≠ s2.heap.objs.size := Nat.ne_of_lt (Heap.lt_size hol)
  have hn : its.toArray.size ≤ sizeLine := by rw [List.size_toArray, ← rv.length]; exact hsz
  have hz' : ((ys.reverse).map (·.length)).sum + ys.reverse.length * a.length ≤ 16777216 := by
    rw [List.map_reverse, List.sum_reverse, List.length_reverse]
    exact hz
  refine join_rev (s := { s2 with heap := s2.heap.push (revObj q ((its.toArray.size : Int) - 1)) }) (I2.ok.hd hc) ⟨_, Heap.get?_push_size _ rfl, rfl, rfl⟩ (hl.push _) hne hn (fun acc hacc => strs_rev rv hacc) hz' fun h' t' k hk => ?_
  exact ⟨.str _, H2, I3.turned (t' := k) (fun b o hb e => hk b o hb e) f0 f1 f3 f4 f5, ⟨t', rfl⟩, q2⟩
end
theorem joinL_nil : ∀ l : List (List Nat), TL.joinL [] l = l.flatten
  | [] => rfl
  | [p] => by
    show p = p ++ []
    rw [List.append_nil]
  | p :: q :: r => by
    show p ++ ([] ++ TL.joinL [] (q :: r)) = p ++ (q :: r).flatten
    rw [List.nil_append, joinL_nil (q :: r)]
theorem join_empty (ys : List (List Nat)) : Txt.join "" (ys.map S) = S ys.flatten := by
  have e : ("" : Str) = S [] := rfl
  rw [e, join_S, joinL_nil]
theorem lens_sum : ∀ ys : List (List Nat), ((ys.map S).map (·.length)).sum = ys.flatten.length
  | [] => rfl
  | y :: ys => by
    rw [List.map_cons, List.map_cons, List.sum_cons, lens_sum ys, S_len, List.flatten_cons, List.length_append]
theorem flat_rev_len : ∀ ys : List (List Nat), ys.reverse.flatten.length = ys.flatten.length
  | [] => rfl
  | y :: ys => by
    rw [List.reverse_cons, List.flatten_append, List.length_append, flat_rev_len ys, List.flatten_cons, List.length_append, List.flatten_cons, List.flatten_nil]
    simp only [List.length_append, List.length_nil]
    omega
theorem intL_len {n : Int} {k : Nat} (hk : 0 < k) (h : n.natAbs < 10 ^ k) : (intL n).length ≤ k + 1 := by
  have := numL_len hk h
  unfold intL
  split
  · rw [List.length_cons]; omega
  · omega
theorem figures_in (c : Nat) : decide (c ∈ ("0123456789" : Str).cps.toList) = isDig c := by
  have e : ("0123456789" : Str).cps.toList = [48, 49, 50, 51, 52, 53, 54, 55, 56, 57] := by decide +kernel
  rw [e]
  unfold isDig
  by_cases h : 48 ≤ c ∧ c ≤ 57
  · rw [decide_eq_true h.1, decide_eq_true h.2]
    refine decide_eq_true ?_
    have : c = 48 ∨ c = 49 ∨ c = 50 ∨ c = 51 ∨ c = 52 ∨ c = 53 ∨ c = 54 ∨ c = 55 ∨ c = 56 ∨ c = 57 := by omega
    simpa using this
  · have z : (decide (48 ≤ c) && decide (c ≤ 57)) = false := by
      rw [Bool.and_eq_false_iff, decide_eq_false_iff_not, decide_eq_false_iff_not]
      omega
    rw [z]
    refine decide_eq_false fun hm => h ?_
    simp only [List.mem_cons, List.not_mem_nil, or_false] at hm
    omega
theorem S_at (u : List Nat) (i : Nat) : (S u).cps[i]? = u[i]? := by simp [S]
theorem S_size (u : List Nat) : (S u).cps.size = u.length := by simp [S]
theorem dig_all {u : List Nat} (h : u.all isDig = true) : NumText.AllDigits u := fun c hc => by
  have z := List.all_eq_true.mp h c hc
  unfold isDig at z
  rw [Bool.and_eq_true, decide_eq_true_eq, decide_eq_true_eq] at z
  exact z
/-- int(text) of what rdI takes -/
theorem intText_rd {t : List Nat} {n : Int} (h : rdI t = some n) : intText? (S t) = some n ∧ (S t).length ≤ 640 := by
  unfold rdI at h
  split at h
  · rename_i c
    obtain ⟨c1, c2, c3, c4⟩ := c
    cases h
    have hd := dig_all c3
    unfold unsign at c1 c2 c3 hd ⊢
    by_cases hm : t.head? = some 45
    · rw [if_pos hm] at c1 c2 c3 hd
      rw [if_pos hm, if_pos hm]
      cases t with
      | nil => cases hm
      | cons x r =>
        have ex : x = 45 := Option.some.inj hm
        subst ex
        have e : (45 :: r).drop 1 = r := rfl
        rw [e] at c1 c2 hd ⊢
        refine ⟨intText_neg (x := S (45 :: r)) (cs := r) rfl hd (fun z => by rw [z] at c1; exact absurd c1 (by decide)) ?_, ?_⟩
        · rw [S_len, List.length_cons]; omega
        · rw [S_len, List.length_cons]; omega
    · rw [if_neg hm] at c1 c2 c3 hd
      rw [if_neg hm, if_neg hm]
      refine ⟨intText_digits (x := S t) hd (fun z => ?_) (by rw [S_len]; omega), by rw [S_len]; omega⟩
      have z' : t = [] := z
      rw [z'] at c1
      exact absurd c1 (by decide)
  · cases h
/-! ### reading a fraction -/
def rdF (t : List Nat) : Option (Int × Int) := match TL.par [47] [] t with
  | none => match rdI t with
    | some a => some (a, 1)
    | none => none
  | some (p, q) => match rdI p with
    | none => none
    | some a => match rdI q with
      | none => none
      | some b => if b < 2 ∨ 1 < Nat.gcd a.natAbs b.natAbs then none else some (a, b)
theorem par_len {c : List Nat} : ∀ {l acc p q : List Nat}, TL.par c acc l = some (p, q) → p.length + q.length ≤ acc.length + l.length
  | [], acc, p, q, h => by cases h
  | x :: r, acc, p, q, h => by
    by_cases hp : TL.pre c (x :: r) = true
    · rw [TL.par_hit hp] at h
      cases h
      rw [List.length_drop]
      omega
    · rw [TL.par_miss (by cases z : TL.pre c (x :: r) with | true => exact absurd z hp | false => rfl)] at h
      have := par_len h
      rw [List.length_append, List.length_singleton] at this
      rw [List.length_cons]
      omega
/-! ### more of texts -/
section
variable {X : Cx}
/-- a text so many times -/
theorem op_mulS : OpR X (binaryOp .Mult) (fun x y H Q => ∃ a n, x = .str a ∧ y = .int n ∧ MulOk a n ∧ Q (.str (Txt.mul a n)) H) := by
  intro pins s σ H x y v u Q I rx ry h
  obtain ⟨a, n, rfl, rfl, hz, q⟩ := h
  obtain ⟨t, rfl⟩ := rx
  obtain ⟨t', rfl⟩ := ry
  exact SB.mul hz fun t' tk => ⟨.str (Txt.mul a n), H, I.tok _, ⟨_, rfl⟩, q⟩
end
/-- each text is one of its signs -/
theorem S_of (x : Str) : x = S x.cps.toList := TL.ext_tl (by simp [S])
theorem len_S (x : Str) : x.cps.toList.length = x.length := by
  rw [Array.length_toList]
  rfl
end Ev

set_option exponentiation.threshold 256
/-! data of any kind, dicts too, as the heap holds them -/
namespace Ev
open PySem PySem.Spec PyProof.Rows L2
def kD : Key → PyData
  | .inl i => .int i
  | .inr x => .str x
mutual
/-- v is d; lists and dicts stand at places of which Z tells something -/
inductive Dx (K : PySem.W.Frag) (Z : Addr → Prop) (H : Hp) : V → PyData → Prop
  | non : Dx K Z H .non .none
  | bl (b : Bool) : Dx K Z H (.bl b) (.bool b)
  | int (i : Int) : Dx K Z H (.int i) (.int i)
  | str (x : Str) : Dx K Z H (.str x) (.str x)
  | lst {a : Addr} {xs : List V} {ds : List PyData} (e : H a = some (.lst xs)) (z : Z a) (h : DxAll K Z H xs ds) : Dx K Z H (.ref a) (.list ds)
  | tup {a : Addr} {xs : List V} {ds : List PyData} (e : SqT K H a xs) (h : DxAll K Z H xs ds) : Dx K Z H (.ref a) (.tuple ds)
  | dct {a : Addr} {kvs : List (Key × V)} {ds : List (PyData × PyData)} (e : H a = some (.dK kvs)) (z : Z a) (h : DxKv K Z H kvs ds) : Dx K Z H (.ref a) (.dict ds)
inductive DxAll (K : PySem.W.Frag) (Z : Addr → Prop) (H : Hp) : List V → List PyData → Prop
  | nil : DxAll K Z H [] []
  | cons {v : V} {vs : List V} {d : PyData} {ds : List PyData} (h : Dx K Z H v d) (r : DxAll K Z H vs ds) : DxAll K Z H (v :: vs) (d :: ds)
inductive DxKv (K : PySem.W.Frag) (Z : Addr → Prop) (H : Hp) : List (Key × V) → List (PyData × PyData) → Prop
  | nil : DxKv K Z H [] []
  | cons {k : Key} {v : V} {vs : List (Key × V)} {d : PyData} {ds : List (PyData × PyData)} (h : Dx K Z H v d) (r : DxKv K Z H vs ds) : DxKv K Z H ((k, v) :: vs) ((kD k, d) :: ds)
end
/-! ### they stay where nothing of theirs is changed -/
mutual
theorem dx_keep {K : PySem.W.Frag} {Z : Addr → Prop} {H H' : Hp} (hT : ∀ a xs, SqT K H a xs → SqT K H' a xs) (hZ : ∀ a o, Z a → H a = some o → H' a = some o) : ∀ {v : V} {d : PyData}, Dx K Z H v d → Dx K Z H' v d
  | _, _, .non => .non
  | _, _, .bl b => .bl b
  | _, _, .int i => .int i
  | _, _, .str x => .str x
  | _, _, .lst e z h => .lst (hZ _ _ z e) z (dxAll_keep hT hZ h)
  | _, _, .tup e h => .tup (hT _ _ e) (dxAll_keep hT hZ h)
  | _, _, .dct e z h => .dct (hZ _ _ z e) z (dxKv_keep hT hZ h)
theorem dxAll_keep {K : PySem.W.Frag} {Z : Addr → Prop} {H H' : Hp} (hT : ∀ a xs, SqT K H a xs → SqT K H' a xs) (hZ : ∀ a o, Z a → H a = some o → H' a = some o) : ∀ {vs : List V} {ds : List PyData}, DxAll K Z H vs ds → DxAll K Z H' vs ds
  | _, _, .nil => .nil
  | _, _, .cons h r => .cons (dx_keep hT hZ h) (dxAll_keep hT hZ r)
theorem dxKv_keep {K : PySem.W.Frag} {Z : Addr → Prop} {H H' : Hp} (hT : ∀ a xs, SqT K H a xs → SqT K H' a xs) (hZ : ∀ a o, Z a → H a = some o → H' a = some o) : ∀ {vs : List (Key × V)} {ds : List (PyData × PyData)}, DxKv K Z H vs ds → DxKv K Z H' vs ds
  | _, _, .nil => .nil
  | _, _, .cons h r => .cons (dx_keep hT hZ h) (dxKv_keep hT hZ r)
end
theorem dx_same {K : PySem.W.Frag} {Z : Addr → Prop} {H H' : Hp} (s : Same H H') {v : V} {d : PyData} (h : Dx K Z H v d) : Dx K Z H' v d := dx_keep (fun _ _ e => Ev.Same.seqT s e) (fun _ _ _ e => s _ _ e) h
theorem dxAll_same {K : PySem.W.Frag} {Z : Addr → Prop} {H H' : Hp} (s : Same H H') {v : List V} {d : List PyData} (h : DxAll K Z H v d) : DxAll K Z H' v d := dxAll_keep (fun _ _ e => Ev.Same.seqT s e) (fun _ _ _ e => s _ _ e) h
/-- beside the loom's two -/
def ZL (L F : Addr) : Addr → Prop := fun a => a ≠ L ∧ a ≠ F
theorem Kp.sqT {K : PySem.W.Frag} {L F a : Addr} {H H' : Hp} {xs : List V} (k : Kp L F H H') (hM : Lm H L F) (h : SqT K H a xs) : SqT K H' a xs := by
  obtain ⟨fs, s, t, h1, h2, h3⟩ := hM
  rcases h with (h | ⟨o, h⟩) | h
  · exact .inl (.inl (k _ _ (ne_of h h1 (by intro z; cases z)) (ne_of h h2 (by intro z; cases z)) h))
  · exact .inl (.inr ⟨o, k _ _ (ne_of h h1 (by intro z; cases z)) (ne_of h h2 (by intro z; cases z)) h⟩)
  · exact .inr h
theorem dx_kp {K : PySem.W.Frag} {L F : Addr} {H H' : Hp} (k : Kp L F H H') (hM : Lm H L F) {v : V} {d : PyData} (h : Dx K (ZL L F) H v d) : Dx K (ZL L F) H' v d := dx_keep (fun _ _ e => k.sqT hM e) (fun _ _ z e => k _ _ z.1 z.2 e) h
theorem dxAll_kp {K : PySem.W.Frag} {L F : Addr} {H H' : Hp} (k : Kp L F H H') (hM : Lm H L F) {v : List V} {d : List PyData} (h : DxAll K (ZL L F) H v d) : DxAll K (ZL L F) H' v d := dxAll_keep (fun _ _ e => k.sqT hM e) (fun _ _ z e => k _ _ z.1 z.2 e) h
/-! ### plain data -/
mutual
theorem dp_of_dx {K : PySem.W.Frag} {Z : Addr → Prop} {H : Hp} : ∀ {v : V} {d : PyData}, Dx K Z H v d → d.hasDict = false → Dp K H v d
  | _, _, .non, _ => .non
  | _, _, .bl b, _ => .bl b
  | _, _, .int i, _ => .int i
  | _, _, .str x, _ => .str x
  | _, _, .lst e z h, n => .lst (SqL.of e) (dpAll_of_dx h (by simpa only [PyData.hasDict] using n))
  | _, _, .tup e h, n => .tup e (dpAll_of_dx h (by simpa only [PyData.hasDict] using n))
  | _, _, .dct e z h, n => by simp only [PyData.hasDict] at n; cases n
theorem dpAll_of_dx {K : PySem.W.Frag} {Z : Addr → Prop} {H : Hp} : ∀ {vs : List V} {ds : List PyData}, DxAll K Z H vs ds → PyData.hasDictAll ds = false → DpAll K H vs ds
  | _, _, .nil, _ => .nil
  | _, _, .cons h r, n => by
    simp only [PyData.hasDictAll, Bool.or_eq_false_iff] at n
    exact .cons (dp_of_dx h n.1) (dpAll_of_dx r n.2)
end
/-! ### as the library reads them -/
section
variable {X : Cx} {pins : List (Addr × Obj)} {σ : L2.St} {H : Hp} {s : Shared} {Z : Addr → Prop}
theorem kv_vals : ∀ {kvs : List (Key × V)} {ws : List (Key × Value)}, KV kvs ws → Vals (kvs.map (·.2)) (ws.map (·.2))
  | _, _, .nil => .nil
  | _, _, .cons h r => .cons h.2 (kv_vals r)
theorem key_reads {h : Heap} {k : Key} {u : Value} (e : keyIs k u = true) : Reads h u (kD k) [] := by
  rcases keyIs_shape e with ⟨i, t, rfl, rfl⟩ | ⟨x, t, rfl, rfl⟩
  · exact .int i t
  · exact .str x t
theorem keys_reads {h : Heap} {P : Program} {w : World} : ∀ {kvs : List (Key × V)} {ws : List (Key × Value)} {es : List DictEntry} {ds : List (PyData × PyData)}, KV kvs ws → Pairs (mixKind P w) es ws → DxKv X.K Z H kvs ds →
    ReadsAll h (es.map (·.key)) (ds.map (·.1)) []
  | _, _, _, _, .nil, .nil, .nil => .nil
  | _, _, _, _, .cons hk r, .cons he hv q, .cons hd t => by
    refine .cons (as := []) (bs := []) (key_reads ?_) (keys_reads r q t)
    rw [mixKind_is] at he
    have e1 := hk.1
    show keyIs _ _ = true
    dsimp only at e1 ⊢
    rw [e1]
    exact he
mutual
theorem dx_reads (I : Inv X pins σ H s) : ∀ {v : V} {d : PyData} {u : Value}, Dx X.K Z H v d → RelV v u → ∃ as, Reads s.heap u d as
  | _, _, _, .non, r => by cases r; exact ⟨_, .none⟩
  | _, _, _, .bl b, r => by cases r; exact ⟨_, .bool b⟩
  | _, _, _, .int i, r => by obtain ⟨t, rfl⟩ := r; exact ⟨_, .int i t⟩
  | _, _, _, .str x, r => by obtain ⟨t, rfl⟩ := r; exact ⟨_, .str x t⟩
  | _, _, _, .lst e z h, r => by
    cases r
    obtain ⟨its, rv, ⟨o, n, ho, hc, _, hd⟩, _⟩ := I.list (SqL.of e)
    obtain ⟨as, hr⟩ := dxAll_reads I h rv
    exact ⟨_, .list ho hc hd hr⟩
  | _, _, _, .tup e h, r => by
    cases r
    obtain ⟨its, rv, ⟨o, ho, hc, n, hd⟩, _⟩ := I.tuple e
    obtain ⟨as, hr⟩ := dxAll_reads I h rv
    exact ⟨_, .tuple ho hc hd hr⟩
  | _, _, _, .dct e z h, r => by
    cases r
    obtain ⟨_, _, ws, rk, o, es, ep, ho, hx, hd, _, hp, _⟩ := dk_of I.hok e
    obtain ⟨as, hr⟩ := dxKv_reads I h rk hp
    exact ⟨_, .dict ho hx.1 hd (keys_reads rk hp h) hr⟩
theorem dxAll_reads (I : Inv X pins σ H s) : ∀ {vs : List V} {ds : List PyData} {us : List Value}, DxAll X.K Z H vs ds → Vals vs us → ∃ as, ReadsAll s.heap us ds as
  | _, _, _, .nil, r => by cases r; exact ⟨_, .nil⟩
  | _, _, _, .cons h t, .cons r1 r2 => by
    obtain ⟨as, q1⟩ := dx_reads I h r1
    obtain ⟨bs, q2⟩ := dxAll_reads I t r2
    exact ⟨_, .cons q1 q2⟩
theorem dxKv_reads (I : Inv X pins σ H s) {P : Program} {w : World} : ∀ {kvs : List (Key × V)} {ds : List (PyData × PyData)} {ws : List (Key × Value)} {es : List DictEntry}, DxKv X.K Z H kvs ds → KV kvs ws → Pairs (mixKind P w) es ws →
    ∃ as, ReadsAll s.heap (es.map (·.val)) (ds.map (·.2)) as
  | _, _, _, _, .nil, .nil, .nil => ⟨_, .nil⟩
  | _, _, _, _, .cons h t, .cons hk r, .cons he hv q => by
    obtain ⟨as, q1⟩ := dx_reads I h hk.2
    obtain ⟨bs, q2⟩ := dxKv_reads I t r q
    refine ⟨_, .cons (as := as) (bs := bs) ?_ q2⟩
    dsimp only
    rw [hv]
    exact q1
end
/-! ### as repr shows them -/
/-- what a shown part leaves behind: deeper places than it are not among its own -/
def RK (X : Cx) (s : Shared) (n : Nat) (u : Value) (t : Str) : Prop := ∃ bs, ReadAtMost s.heap n bs ∧ ReprK X.prog X.w bs s.heap n u t
def RKs (X : Cx) (s : Shared) (n : Nat) (us : List Value) (ts : List Str) : Prop := ∃ bs, ReadAtMost s.heap n bs ∧ ReprAllK X.prog X.w bs s.heap n us ts
theorem RKs.cons {n m : Nat} {u : Value} {us : List Value} {t : Str} {ts : List Str} (a : RK X s n u t) (b : RKs X s m us ts) : RKs X s (max n m) (u :: us) (t :: ts) := by
  obtain ⟨p, hp, kp⟩ := a
  obtain ⟨q, hq, kq⟩ := b
  have l1 : n ≤ max n m := Nat.le_max_left n m
  have l2 : m ≤ max n m := Nat.le_max_right n m
  refine ⟨p ++ q, (hp.mono l1).append (hq.mono l2), .cons ((kp.more fun b hb => List.mem_append_left q hb).level_le l1) (kq.more_le (fun b hb => List.mem_append_right p hb) l2)⟩
theorem RKs.nil : RKs X s 0 [] [] := ⟨[], fun _ h => (nomatch h), .nil⟩
theorem key_repr {k : Key} {u : Value} (e : keyIs k u = true) (hs : (kD k).showable = true) (hz : (kD k).shown.length ≤ sizeLine) : RK X s (kD k).depth u (kD k).shown := by
  rcases keyIs_shape e with ⟨i, t, rfl, rfl⟩ | ⟨x, t, rfl, rfl⟩
  · have hs' : i.natAbs.log2 < 1920 := by simpa only [kD, PyData.showable, decide_eq_true_eq] using hs
    simp only [kD, PyData.shown]
    exact ⟨[], fun _ h => (nomatch h), .of_is (ReprIs.int t hs') _ _ _⟩
  · simp only [kD, PyData.shown] at hz ⊢
    exact ⟨[], fun _ h => (nomatch h), .of_is (ReprIs.str x t hz) _ _ _⟩
theorem ents_more {P : Program} {w : World} {h₀ : Heap} {as as' : List Addr} {d d' : Nat} (hsub : ∀ b ∈ as, b ∈ as') (hd : d ≤ d') : ∀ {es : List DictEntry} {ps : List Str}, ReprEntriesK P w as h₀ d es ps → ReprEntriesK P w as' h₀ d' es ps
  | _, _, .nil => .nil
  | _, _, .cons a b r => .cons ((a.more hsub).level_le hd) ((b.more hsub).level_le hd) (ents_more hsub hd r)
mutual
theorem dx_repr (I : Inv X pins σ H s) : ∀ {v : V} {d : PyData} {u : Value}, Dx X.K Z H v d → RelV v u → d.showable = true → d.shown.length ≤ sizeLine → RK X s d.depth u d.shown
  | _, _, _, .non, r, _, _ => by
    cases r
    simp only [PyData.shown]
    exact ⟨[], fun _ h => (nomatch h), .of_is ReprIs.none _ _ _⟩
  | _, _, _, .bl b, r, _, _ => by
    cases r
    simp only [PyData.shown]
    exact ⟨[], fun _ h => (nomatch h), .of_is (ReprIs.bool b) _ _ _⟩
  | _, _, _, .int i, r, hs, _ => by
    obtain ⟨t, rfl⟩ := r
    have hs' : i.natAbs.log2 < 1920 := by simpa only [PyData.showable, decide_eq_true_eq] using hs
    simp only [PyData.shown]
    exact ⟨[], fun _ h => (nomatch h), .of_is (ReprIs.int t hs') _ _ _⟩
  | _, _, _, .str x, r, _, hz => by
    obtain ⟨t, rfl⟩ := r
    simp only [PyData.shown] at hz ⊢
    exact ⟨[], fun _ h => (nomatch h), .of_is (ReprIs.str x t hz) _ _ _⟩
  | _, _, _, .lst (a := a) (ds := ds) e z h, r, hs, hz => by
    cases r
    have rd := dx_reads I (.lst e z h) (u := .ref a) rfl
    obtain ⟨its, rv, ⟨o, n, ho, hc, _, hd⟩, _⟩ := I.list (SqL.of e)
    simp only [PyData.shown] at hz
    obtain ⟨bs, hb, hk⟩ := dxAll_repr I h rv (by simpa only [PyData.showable] using hs) fun t ht => Nat.le_trans (listText_mem_le ht) hz
    obtain ⟨as, rd⟩ := rd
    simp only [PyData.shown, PyData.depth]
    have own : a ∉ bs := not_mem_of_deeper rd (by simp only [PyData.depth]; omega) hb
    refine ⟨a :: bs, ?_, ?_⟩
    · have := ReadAtMost.cons rd (by simp only [PyData.depth]; omega) hb
      simpa only [PyData.depth] using this
    · cases its with
      | nil =>
        cases rv
        cases h
        simp only [PyData.shownAll, listText_nil]
        exact ReprK.listEmpty ho hc hd
      | cons x l => exact ReprK.list ho hc hd own (by simpa using hk.length_eq) fun i y hy => hk.item i y (by simpa using hy)
  | _, _, _, .tup (a := a) e h, r, hs, hz => by
    cases r
    have rd := dx_reads I (.tup e h) (u := .ref a) rfl
    obtain ⟨its, rv, ⟨o, ho, hc, n, hd⟩, _⟩ := I.tuple e
    simp only [PyData.shown] at hz
    obtain ⟨bs, hb, hk⟩ := dxAll_repr I h rv (by simpa only [PyData.showable] using hs) fun t ht => Nat.le_trans (tupleText_mem_le ht) hz
    obtain ⟨as, rd⟩ := rd
    simp only [PyData.shown, PyData.depth]
    have own : a ∉ bs := not_mem_of_deeper rd (by simp only [PyData.depth]; omega) hb
    refine ⟨a :: bs, ?_, ReprK.tuple ho hc hd own hk⟩
    have := ReadAtMost.cons rd (by simp only [PyData.depth]; omega) hb
    simpa only [PyData.depth] using this
  | _, _, _, .dct (a := a) (ds := ds) e z h, r, hs, hz => by
    cases r
    have rd := dx_reads I (.dct e z h) (u := .ref a) rfl
    obtain ⟨_, sys, ws, rk, o, es, ep, ho, hx, hd, _, hp, _⟩ := dk_of I.hok e
    simp only [PyData.shown] at hz
    obtain ⟨bs, hb, hk⟩ := dxKv_repr I h rk hp (by simpa only [PyData.showable] using hs) fun t ht => Nat.le_trans (dictText_mem_le ht) hz
    obtain ⟨as, rd⟩ := rd
    simp only [PyData.shown, PyData.depth]
    have own : a ∉ bs := not_mem_of_deeper rd (by simp only [PyData.depth]; omega) hb
    refine ⟨a :: bs, ?_, ReprK.dict ho hx.1 hd sys own hk⟩
    have := ReadAtMost.cons rd (by simp only [PyData.depth]; omega) hb
    simpa only [PyData.depth] using this
theorem dxAll_repr (I : Inv X pins σ H s) : ∀ {vs : List V} {ds : List PyData} {us : List Value}, DxAll X.K Z H vs ds → Vals vs us → PyData.showableAll ds = true → (∀ t ∈ PyData.shownAll ds, t.length ≤ sizeLine) → RKs X s (PyData.depthAll ds) us (PyData.shownAll ds)
  | _, _, _, .nil, r, _, _ => by
    cases r
    simp only [PyData.shownAll, PyData.depthAll]
    exact RKs.nil
  | _, _, _, .cons h t, .cons r1 r2, hs, hz => by
    simp only [PyData.showableAll, Bool.and_eq_true] at hs
    simp only [PyData.shownAll, PyData.depthAll] at hz ⊢
    exact RKs.cons (dx_repr I h r1 hs.1 (hz _ (List.mem_cons_self ..))) (dxAll_repr I t r2 hs.2 fun t ht => hz t (List.mem_cons_of_mem _ ht))
theorem dxKv_repr (I : Inv X pins σ H s) {P : Program} {w : World} : ∀ {kvs : List (Key × V)} {ds : List (PyData × PyData)} {ws : List (Key × Value)} {es : List DictEntry}, DxKv X.K Z H kvs ds → KV kvs ws → Pairs (mixKind P w) es ws →
    PyData.showableKv ds = true → (∀ t ∈ PyData.shownKv ds, t.length ≤ sizeLine) → ∃ bs, ReadAtMost s.heap (PyData.depthKv ds) bs ∧ ReprEntriesK X.prog X.w bs s.heap (PyData.depthKv ds) es (PyData.shownKv ds)
  | _, _, _, _, .nil, .nil, .nil, _, _ => by
    simp only [PyData.shownKv]
    exact ⟨[], fun _ h => (nomatch h), .nil⟩
  | _, _, _, _, .cons (k := k) (d := d) (ds := ds) h t, .cons hk r, .cons (e := e) he hv q, hs, hz => by
    simp only [PyData.showableKv, Bool.and_eq_true] at hs
    simp only [PyData.shownKv, PyData.depthKv] at hz ⊢
    have lz := hz _ (List.mem_cons_self ..)
    rw [strLen_append, strLen_append] at lz
    have e1 := hk.1
    have e2 := hk.2
    dsimp only at e1 e2
    rw [mixKind_is, ← e1] at he
    obtain ⟨p, hp, kp⟩ := key_repr (X := X) (s := s) he hs.1.1 (by omega)
    obtain ⟨q1, hq, kq⟩ := dx_repr I h e2 hs.1.2 (by omega)
    obtain ⟨q2, hr, kr⟩ := dxKv_repr I t r q hs.2 fun t ht => hz t (List.mem_cons_of_mem _ ht)
    refine ⟨p ++ (q1 ++ q2), ?_, ?_⟩
    · exact (hp.mono (by omega)).append ((hq.mono (by omega)).append (hr.mono (by omega)))
    · rw [← hv] at kq
      refine .cons ((kp.more fun b hb => List.mem_append_left _ hb).level_le (by omega)) ((kq.more fun b hb => List.mem_append_right _ (List.mem_append_left _ hb)).level_le (by omega)) ?_
      exact ents_more (fun b hb => List.mem_append_right _ (List.mem_append_right _ hb)) (by omega) kr
end
end
section
variable {X : Cx}
/-- repr(x), x data of any kind -/
def rReprX (K : PySem.W.Frag) : List V → Hp → VK → Prop := fun vs H Q =>
  ∃ (v : V) (d : PyData) (Z : Addr → Prop), vs = [v] ∧ Dx K Z H v d ∧ d.showable = true ∧ d.shown.length ≤ sizeLine ∧ d.depth ≤ 60 ∧ Q (.str d.shown) H
theorem call_reprX (hG : X.A.guards = some []) (hu : X.A.units + 64 < cLine) : CallR X (.builtin "repr") (rReprX X.K) := by
  intro pins s σ H vs us Q I r h
  obtain ⟨v, d, Z, rfl, hx, hs, hz, hdep, q⟩ := h
  have keep : ∀ (h' : Heap) (u : Tok) (tk : Nat), (∀ b o, s.heap.get? b = some o → h'.get? b = some o) → EP X pins σ Q (.str d.shown u) { s with heap := h', toks := tk } :=
    fun h' u tk hk => ⟨.str d.shown, H, I.kept hk, ⟨_, rfl⟩, q⟩
  cases hx with
  | non =>
    obtain ⟨u, rfl, ru⟩ := vals1 r
    cases ru
    exact PySem.P.repr_of_none ⟨.str _, H, I.tok _, ⟨_, rfl⟩, q⟩
  | bl b =>
    obtain ⟨u, rfl, ru⟩ := vals1 r
    cases ru
    refine PySem.P.repr_of_bool ⟨.str (PyData.shown (.bool b)), H, I.tok _, ⟨_, rfl⟩, q⟩
  | int i =>
    obtain ⟨u, rfl, t, rfl⟩ := vals1 r
    have hs' : i.natAbs.log2 < 1920 := by simpa only [PyData.showable, decide_eq_true_eq] using hs
    exact PySem.P.repr_of_int hs' ⟨.str _, H, I.tok _, ⟨_, rfl⟩, q⟩
  | str x =>
    obtain ⟨u, rfl, t, rfl⟩ := vals1 r
    exact PySem.P.repr_of_str ⟨.str _, H, I.tok _, ⟨_, rfl⟩, q⟩ hz
  | lst e z h =>
    obtain ⟨u, rfl, ru⟩ := vals1 r
    cases ru
    rename_i a xs ds
    obtain ⟨as, rd⟩ := dx_reads I (.lst e z h) (u := .ref a) rfl
    obtain ⟨its, rv, ⟨o, n, ho, hc, _, hd⟩, _⟩ := I.list (SqL.of e)
    simp only [PyData.shown, PyData.depth] at hz hdep keep
    obtain ⟨bs, hb, hk⟩ := dxAll_repr I h rv (by simpa only [PyData.showable] using hs) fun t ht => Nat.le_trans (listText_mem_le ht) hz
    have own : a ∉ bs := not_mem_of_deeper rd (by simp only [PyData.depth]; omega) hb
    refine call_repr_slot (by omega) ⟨o, ho, hc⟩ F.slot_list_repr.toG ?_
    cases its with
    | nil =>
      cases rv
      cases h
      simp only [PyData.shownAll, listText_nil] at keep
      exact call_list_repr_empty ⟨o, ho, hc⟩ ho hd ⟨_, _, rfl, keep s.heap _ _ fun _ _ e => e⟩
    | cons x l =>
      exact call_list_reprK ho hc hd own (by simpa using hk.length_eq) (fun i y hy => hk.item i y (by simpa using hy)) hG (fun b _ => Clear.nil b) (by show X.A.units + 1 + (_ + 1) < cLine; omega) (fun _ _ e => e) (fun h' u tk hk' => ⟨_, _, rfl, keep h' u tk hk'⟩) hz
  | tup e h =>
    obtain ⟨u, rfl, ru⟩ := vals1 r
    cases ru
    rename_i a xs ds
    obtain ⟨as, rd⟩ := dx_reads I (Dx.tup (Z := Z) e h) (u := .ref a) rfl
    obtain ⟨its, rv, ⟨o, ho, hc, n, hd⟩, _⟩ := I.tuple e
    simp only [PyData.shown, PyData.depth] at hz hdep keep
    obtain ⟨bs, hb, hk⟩ := dxAll_repr I h rv (by simpa only [PyData.showable] using hs) fun t ht => Nat.le_trans (tupleText_mem_le ht) hz
    have own : a ∉ bs := not_mem_of_deeper rd (by simp only [PyData.depth]; omega) hb
    refine call_repr_slot (by omega) ⟨o, ho, hc⟩ F.slot_tuple_repr ?_
    exact call_tuple_reprK ho hc hd own hk hG (fun b _ => Clear.nil b) (by show X.A.units + 1 + (_ + 1) < cLine; omega) (fun _ _ e => e) (fun h' u tk hk' => ⟨_, _, rfl, keep h' u tk hk'⟩) hz
  | dct e z h =>
    obtain ⟨u, rfl, ru⟩ := vals1 r
    cases ru
    rename_i a kvs ds
    obtain ⟨as, rd⟩ := dx_reads I (.dct e z h) (u := .ref a) rfl
    obtain ⟨_, sys, ws, rk, o, es, ep, ho, hx, hd, _, hp, _⟩ := dk_of I.hok e
    simp only [PyData.shown, PyData.depth] at hz hdep keep
    obtain ⟨bs, hb, hk⟩ := dxKv_repr I h rk hp (by simpa only [PyData.showable] using hs) fun t ht => Nat.le_trans (dictText_mem_le ht) hz
    have own : a ∉ bs := not_mem_of_deeper rd (by simp only [PyData.depth]; omega) hb
    refine call_repr_slot (by omega) ⟨o, ho, hx.1⟩ F.slot_dict_repr ?_
    exact call_dict_reprK ho hx.1 hd sys own hk hG (fun b _ => Clear.nil b) (by show X.A.units + 1 + (_ + 1) < cLine; omega) (fun _ _ e => e) (fun h' u tk hk' => ⟨_, _, rfl, keep h' u tk hk'⟩) hz
end
end Ev

set_option exponentiation.threshold 256
/-! data of any kind: kinds, parts, how long they are shown -/
namespace Ev
open PySem PySem.Spec PyProof.Rows L2
/-! ### kinds -/
def tyN : PyData → String
  | .none => "NoneType"
  | .bool _ => "bool"
  | .int _ => "int"
  | .str _ => "str"
  | .list _ => "list"
  | .tuple _ => "tuple"
  | .dict _ => "dict"
def isInt : PyData → Bool
  | .int _ => true
  | .bool _ => true
  | _ => false
def isBool : PyData → Bool
  | .bool _ => true
  | _ => false
def isStr : PyData → Bool
  | .str _ => true
  | _ => false
def isTup : PyData → Bool
  | .tuple _ => true
  | _ => false
def isLst : PyData → Bool
  | .list _ => true
  | _ => false
def isDct : PyData → Bool
  | .dict _ => true
  | _ => false
section
variable {K : PySem.W.Frag} {Z : Addr → Prop} {H : Hp}
theorem kit_int : ∀ d : PyData, PySem.W.kitOne K (.type (tyN d)) (.type "int") = some (isInt d)
  | .none => kit_ty (show kitB "NoneType" "int" = some false by decide +kernel)
  | .bool _ => kit_ty (show kitB "bool" "int" = some true by decide +kernel)
  | .int _ => kit_ty (show kitB "int" "int" = some true by decide +kernel)
  | .str _ => kit_ty (show kitB "str" "int" = some false by decide +kernel)
  | .list _ => kit_ty (show kitB "list" "int" = some false by decide +kernel)
  | .tuple _ => kit_ty (show kitB "tuple" "int" = some false by decide +kernel)
  | .dict _ => kit_ty (show kitB "dict" "int" = some false by decide +kernel)
theorem kit_bool : ∀ d : PyData, PySem.W.kitOne K (.type (tyN d)) (.type "bool") = some (isBool d)
  | .none => kit_ty (show kitB "NoneType" "bool" = some false by decide +kernel)
  | .bool _ => kit_ty (show kitB "bool" "bool" = some true by decide +kernel)
  | .int _ => kit_ty (show kitB "int" "bool" = some false by decide +kernel)
  | .str _ => kit_ty (show kitB "str" "bool" = some false by decide +kernel)
  | .list _ => kit_ty (show kitB "list" "bool" = some false by decide +kernel)
  | .tuple _ => kit_ty (show kitB "tuple" "bool" = some false by decide +kernel)
  | .dict _ => kit_ty (show kitB "dict" "bool" = some false by decide +kernel)
theorem kit_str : ∀ d : PyData, PySem.W.kitOne K (.type (tyN d)) (.type "str") = some (isStr d)
  | .none => kit_ty (show kitB "NoneType" "str" = some false by decide +kernel)
  | .bool _ => kit_ty (show kitB "bool" "str" = some false by decide +kernel)
  | .int _ => kit_ty (show kitB "int" "str" = some false by decide +kernel)
  | .str _ => kit_ty (show kitB "str" "str" = some true by decide +kernel)
  | .list _ => kit_ty (show kitB "list" "str" = some false by decide +kernel)
  | .tuple _ => kit_ty (show kitB "tuple" "str" = some false by decide +kernel)
  | .dict _ => kit_ty (show kitB "dict" "str" = some false by decide +kernel)
theorem kit_tup : ∀ d : PyData, PySem.W.kitOne K (.type (tyN d)) (.type "tuple") = some (isTup d)
  | .none => kit_ty (show kitB "NoneType" "tuple" = some false by decide +kernel)
  | .bool _ => kit_ty (show kitB "bool" "tuple" = some false by decide +kernel)
  | .int _ => kit_ty (show kitB "int" "tuple" = some false by decide +kernel)
  | .str _ => kit_ty (show kitB "str" "tuple" = some false by decide +kernel)
  | .list _ => kit_ty (show kitB "list" "tuple" = some false by decide +kernel)
  | .tuple _ => kit_ty (show kitB "tuple" "tuple" = some true by decide +kernel)
  | .dict _ => kit_ty (show kitB "dict" "tuple" = some false by decide +kernel)
theorem kit_lst : ∀ d : PyData, PySem.W.kitOne K (.type (tyN d)) (.type "list") = some (isLst d)
  | .none => kit_ty (show kitB "NoneType" "list" = some false by decide +kernel)
  | .bool _ => kit_ty (show kitB "bool" "list" = some false by decide +kernel)
  | .int _ => kit_ty (show kitB "int" "list" = some false by decide +kernel)
  | .str _ => kit_ty (show kitB "str" "list" = some false by decide +kernel)
  | .list _ => kit_ty (show kitB "list" "list" = some true by decide +kernel)
  | .tuple _ => kit_ty (show kitB "tuple" "list" = some false by decide +kernel)
  | .dict _ => kit_ty (show kitB "dict" "list" = some false by decide +kernel)
theorem kit_dct : ∀ d : PyData, PySem.W.kitOne K (.type (tyN d)) (.type "dict") = some (isDct d)
  | .none => kit_ty (show kitB "NoneType" "dict" = some false by decide +kernel)
  | .bool _ => kit_ty (show kitB "bool" "dict" = some false by decide +kernel)
  | .int _ => kit_ty (show kitB "int" "dict" = some false by decide +kernel)
  | .str _ => kit_ty (show kitB "str" "dict" = some false by decide +kernel)
  | .list _ => kit_ty (show kitB "list" "dict" = some false by decide +kernel)
  | .tuple _ => kit_ty (show kitB "tuple" "dict" = some false by decide +kernel)
  | .dict _ => kit_ty (show kitB "dict" "dict" = some true by decide +kernel)
theorem dx_ty {v : V} {d : PyData} (h : Dx K Z H v d) : TyX K H v (.type (tyN d)) := by
  cases h with
  | non => exact .base .non
  | bl b => exact .base (.bl b)
  | int i => exact .base (.int i)
  | str x => exact .base (.str x)
  | lst e z h => exact .base (.lst e)
  | tup e h =>
    rcases e with (e | ⟨o, e⟩) | ⟨o, its, n, e, c, _⟩
    · exact .base (.tup e)
    · exact .fTuple e
    · exact .kTuple e c
  | dct e z h => exact .base (.dK e)
/-! ### parts -/
theorem dx_tup {v : V} {ds : List PyData} (h : Dx K Z H v (.tuple ds)) : ∃ a xs, v = .ref a ∧ SqT K H a xs ∧ DxAll K Z H xs ds := by
  cases h with
  | tup e h => exact ⟨_, _, rfl, e, h⟩
theorem dx_lst {v : V} {ds : List PyData} (h : Dx K Z H v (.list ds)) : ∃ a xs, v = .ref a ∧ H a = some (.lst xs) ∧ Z a ∧ DxAll K Z H xs ds := by
  cases h with
  | lst e z h => exact ⟨_, _, rfl, e, z, h⟩
theorem dx_int {v : V} {i : Int} (h : Dx K Z H v (.int i)) : v = .int i := by cases h; rfl
theorem dx_str {v : V} {x : Str} (h : Dx K Z H v (.str x)) : v = .str x := by cases h; rfl
theorem dx_bool {v : V} {b : Bool} (h : Dx K Z H v (.bool b)) : v = .bl b := by cases h; rfl
theorem dx_none {v : V} (h : Dx K Z H v .none) : v = .non := by cases h; rfl
theorem dxAll_len : ∀ {vs : List V} {ds : List PyData}, DxAll K Z H vs ds → vs.length = ds.length
  | _, _, .nil => rfl
  | _, _, .cons _ r => congrArg (· + 1) (dxAll_len r)
theorem dxAll_get : ∀ {vs : List V} {ds : List PyData} {i : Nat} {v : V}, DxAll K Z H vs ds → vs[i]? = some v → ∃ d, ds[i]? = some d ∧ Dx K Z H v d
  | _, _, _, _, .nil, e => by simp at e
  | _, _, 0, _, .cons h _, e => by
    simp at e
    subst e
    exact ⟨_, rfl, h⟩
  | _, _, i + 1, _, .cons _ r, e => dxAll_get (i := i) r (by simpa using e)
theorem dxAll_at : ∀ {vs : List V} {ds : List PyData} {i : Nat} {d : PyData}, DxAll K Z H vs ds → ds[i]? = some d → ∃ v, vs[i]? = some v ∧ Dx K Z H v d
  | _, _, _, _, .nil, e => by simp at e
  | _, _, 0, _, .cons h _, e => by
    simp at e
    subst e
    exact ⟨_, rfl, h⟩
  | _, _, i + 1, _, .cons _ r, e => dxAll_at (i := i) r (by simpa using e)
theorem dxAll_app : ∀ {vs ws : List V} {ds es : List PyData}, DxAll K Z H vs ds → DxAll K Z H ws es → DxAll K Z H (vs ++ ws) (ds ++ es)
  | _, _, _, _, .nil, q => q
  | _, _, _, _, .cons h r, q => .cons h (dxAll_app r q)
theorem dxAll_drop : ∀ (n : Nat) {vs : List V} {ds : List PyData}, DxAll K Z H vs ds → DxAll K Z H (vs.drop n) (ds.drop n)
  | 0, _, _, r => r
  | n + 1, _, _, .nil => .nil
  | n + 1, _, _, .cons _ r => dxAll_drop n r
theorem dxAll_take : ∀ (n : Nat) {vs : List V} {ds : List PyData}, DxAll K Z H vs ds → DxAll K Z H (vs.take n) (ds.take n)
  | 0, _, _, _ => .nil
  | n + 1, _, _, .nil => .nil
  | n + 1, _, _, .cons h r => .cons h (dxAll_take n r)
def cutD (ds : List PyData) (lo hi : Option Int) : List PyData :=
  (ds.drop (HT.sIx ds.length 0 lo)).take (HT.sIx ds.length ds.length hi - HT.sIx ds.length 0 lo)
theorem dxAll_cut {vs : List V} {ds : List PyData} (h : DxAll K Z H vs ds) (lo hi : Option Int) : DxAll K Z H (cutV vs lo hi) (cutD ds lo hi) := by
  unfold cutV cutD
  rw [dxAll_len h]
  exact dxAll_take _ (dxAll_drop _ h)
theorem dxAll_rev : ∀ {vs : List V} {ds : List PyData}, DxAll K Z H vs ds → DxAll K Z H vs.reverse ds.reverse
  | _, _, .nil => .nil
  | _, _, .cons h r => by
    rw [List.reverse_cons, List.reverse_cons]
    exact dxAll_app (dxAll_rev r) (.cons h .nil)
theorem dxAll_mem {vs : List V} {ds : List PyData} {v : V} (h : DxAll K Z H vs ds) (m : v ∈ vs) : ∃ d ∈ ds, Dx K Z H v d := by
  obtain ⟨i, e⟩ := List.getElem?_of_mem m
  obtain ⟨d, ed, hd⟩ := dxAll_get h e
  exact ⟨d, List.mem_of_getElem? ed, hd⟩
/-- one and the same place holds one datum: what is shown twice is shown alike -/
theorem dx_tuple_of {a : Addr} {xs : List V} {ds : List PyData} (e : H a = some (.tup xs)) (h : DxAll K Z H xs ds) : Dx K Z H (.ref a) (.tuple ds) := .tup (SqT.of e) h
end
/-! ### how they are shown -/
structure Ft (n k : Nat) (d : PyData) : Prop where
  sh : d.showable = true
  len : d.shown.length ≤ n
  dp : d.depth ≤ k
theorem Ft.le {n k n' k' : Nat} {d : PyData} (h : Ft n k d) (a : n ≤ n') (b : k ≤ k') : Ft n' k' d := ⟨h.sh, Nat.le_trans h.len a, Nat.le_trans h.dp b⟩
theorem ft_none : Ft 4 0 .none := ⟨rfl, by simp only [PyData.shown]; decide, by simp only [PyData.depth]; decide⟩
theorem ft_bool (b : Bool) : Ft 5 0 (.bool b) := ⟨rfl, by simp only [PyData.shown]; cases b <;> decide, by simp only [PyData.depth]; decide⟩
theorem ft_int {i : Int} (h : i.natAbs.log2 < 1920) : Ft 1921 0 (.int i) := by
  refine ⟨by simpa only [PyData.showable, decide_eq_true_eq] using h, ?_, by simp only [PyData.depth]; decide⟩
  have e := int_text_length_le (k := 1920) (by decide) h
  simp only [PyData.shown]
  show (Str.ofString (toString i)).length ≤ 1921
  rw [PySem.ofString_length]
  exact e
theorem ft_str {x : Str} (h : ∀ c ∈ x.cps.toList, c < 16 ^ 8) : Ft (10 * x.length + 2) 0 (.str x) := by
  refine ⟨rfl, ?_, by simp only [PyData.depth]; decide⟩
  simp only [PyData.shown]
  exact StrLaws.reprText_len x h
theorem all_sh {n k : Nat} : ∀ {ds : List PyData}, (∀ d ∈ ds, Ft n k d) → PyData.showableAll ds = true ∧ ((PyData.shownAll ds).map (·.length)).sum ≤ ds.length * n ∧ (PyData.shownAll ds).length = ds.length ∧ PyData.depthAll ds ≤ k
  | [], _ => by simp only [PyData.showableAll, PyData.shownAll, PyData.depthAll]; exact ⟨trivial, Nat.zero_le _, rfl, Nat.zero_le _⟩
  | d :: ds, h => by
    have a := h d (List.mem_cons_self ..)
    obtain ⟨b1, b2, b3, b4⟩ := all_sh (ds := ds) fun e he => h e (List.mem_cons_of_mem _ he)
    simp only [PyData.showableAll, PyData.shownAll, PyData.depthAll, List.map_cons, List.sum_cons, List.length_cons]
    refine ⟨by rw [a.sh, b1]; rfl, ?_, by omega, Nat.max_le.mpr ⟨a.dp, b4⟩⟩
    rw [Nat.succ_mul]
    have := a.len
    omega
theorem ft_tuple {n k m : Nat} {ds : List PyData} (h : ∀ d ∈ ds, Ft n k d) (l : ds.length ≤ m) : Ft (m * (n + 2) + 3) (k + 1) (.tuple ds) := by
  obtain ⟨b1, b2, b3, b4⟩ := all_sh h
  refine ⟨by simpa only [PyData.showable] using b1, ?_, by simp only [PyData.depth]; omega⟩
  simp only [PyData.shown]
  have e := tupleText_len_le (PyData.shownAll ds)
  have : ds.length * (n + 2) ≤ m * (n + 2) := Nat.mul_le_mul_right _ l
  rw [Nat.mul_add] at this
  rw [b3] at e
  omega
theorem ft_list {n k m : Nat} {ds : List PyData} (h : ∀ d ∈ ds, Ft n k d) (l : ds.length ≤ m) : Ft (m * (n + 2) + 3) (k + 1) (.list ds) := by
  obtain ⟨b1, b2, b3, b4⟩ := all_sh h
  refine ⟨by simpa only [PyData.showable] using b1, ?_, by simp only [PyData.depth]; omega⟩
  simp only [PyData.shown]
  have e := listText_len_le (PyData.shownAll ds)
  have : ds.length * (n + 2) ≤ m * (n + 2) := Nat.mul_le_mul_right _ l
  rw [Nat.mul_add] at this
  rw [b3] at e
  omega
end Ev

set_option exponentiation.threshold 256
/-! data of any kind: how great they are -/
namespace Ev
open PySem PySem.Spec PyProof.Rows L2
mutual
/-- ints below 2 ^ 1400 in size, signs as they are -/
def fitx : PyData → Bool
  | .none => true
  | .bool _ => true
  | .int i => decide (i.natAbs < 2 ^ 1400)
  | .str x => x.cps.toList.all fun c => decide (c < 1114112)
  | .list xs => fitxs xs
  | .tuple xs => fitxs xs
  | .dict xs => fitxk xs
def fitxs : List PyData → Bool
  | [] => true
  | x :: xs => fitx x && fitxs xs
def fitxk : List (PyData × PyData) → Bool
  | [] => true
  | (k, v) :: xs => fitx k && fitx v && fitxk xs
end
mutual
/-- how many leaves and displays, a text by its signs -/
def szx : PyData → Nat
  | .none => 1
  | .bool _ => 1
  | .int _ => 1
  | .str x => x.length + 1
  | .list xs => szxs xs + 1
  | .tuple xs => szxs xs + 1
  | .dict xs => szxk xs + 1
def szxs : List PyData → Nat
  | [] => 0
  | x :: xs => szx x + szxs xs
def szxk : List (PyData × PyData) → Nat
  | [] => 0
  | (k, v) :: xs => szx k + szx v + szxk xs
end
theorem fitx_log {i : Int} (h : i.natAbs < 2 ^ 1400) : i.natAbs.log2 < 1920 := Nat.lt_trans (PySem.Flt.log2_lt_of (by decide) h) (by decide)
mutual
theorem fitx_show : ∀ d : PyData, fitx d = true → d.showable = true ∧ d.shown.length + 2 ≤ 1930 * szx d
  | .none, _ => by
    simp only [PyData.showable, PyData.shown, szx]
    exact ⟨trivial, by decide⟩
  | .bool b, _ => by
    have e : (PyData.shown (.bool b)).length ≤ 5 := by cases b <;> decide
    simp only [PyData.showable, szx]
    exact ⟨trivial, by omega⟩
  | .int i, h => by
    simp only [fitx, decide_eq_true_eq] at h
    have f := ft_int (fitx_log h)
    refine ⟨f.sh, ?_⟩
    have := f.len
    simp only [szx]
    omega
  | .str x, h => by
    simp only [fitx, List.all_eq_true, decide_eq_true_eq] at h
    have f := ft_str (x := x) fun c hc => Nat.lt_trans (h c hc) (by decide)
    refine ⟨f.sh, ?_⟩
    have := f.len
    simp only [szx]
    omega
  | .list xs, h => by
    simp only [fitx] at h
    obtain ⟨a, b⟩ := fitxs_show xs h
    have e := listText_len_le (PyData.shownAll xs)
    have l := PyData.shownAll_length xs
    simp only [PyData.showable, PyData.shown, szx]
    exact ⟨a, by omega⟩
  | .tuple xs, h => by
    simp only [fitx] at h
    obtain ⟨a, b⟩ := fitxs_show xs h
    have e := tupleText_len_le (PyData.shownAll xs)
    have l := PyData.shownAll_length xs
    simp only [PyData.showable, PyData.shown, szx]
    exact ⟨a, by omega⟩
  | .dict xs, h => by
    simp only [fitx] at h
    obtain ⟨a, b⟩ := fitxk_show xs h
    have e := dictText_len_le (PyData.shownKv xs)
    simp only [PyData.showable, PyData.shown, szx]
    exact ⟨a, by omega⟩
theorem fitxs_show : ∀ xs : List PyData, fitxs xs = true → PyData.showableAll xs = true ∧ ((PyData.shownAll xs).map (·.length)).sum + 2 * xs.length ≤ 1930 * szxs xs
  | [], _ => by
    simp only [PyData.showableAll, PyData.shownAll, szxs]
    exact ⟨trivial, by decide⟩
  | x :: xs, h => by
    simp only [fitxs, Bool.and_eq_true] at h
    obtain ⟨a, b⟩ := fitx_show x h.1
    obtain ⟨c, d⟩ := fitxs_show xs h.2
    simp only [PyData.showableAll, PyData.shownAll, szxs, List.map_cons, List.sum_cons, List.length_cons]
    exact ⟨by rw [a, c]; rfl, by omega⟩
theorem fitxk_show : ∀ xs : List (PyData × PyData), fitxk xs = true → PyData.showableKv xs = true ∧ ((PyData.shownKv xs).map (·.length)).sum + 2 * (PyData.shownKv xs).length ≤ 1930 * szxk xs
  | [], _ => by
    simp only [PyData.showableKv, PyData.shownKv, szxk]
    exact ⟨trivial, by decide⟩
  | (k, v) :: xs, h => by
    simp only [fitxk, Bool.and_eq_true] at h
    obtain ⟨a, b⟩ := fitx_show k h.1.1
    obtain ⟨a2, b2⟩ := fitx_show v h.1.2
    obtain ⟨c, d⟩ := fitxk_show xs h.2
    simp only [PyData.showableKv, PyData.shownKv, szxk, List.map_cons, List.sum_cons, List.length_cons]
    refine ⟨by rw [a, a2, c]; rfl, ?_⟩
    rw [strLen_append, strLen_append]
    have : (": " : Str).length = 2 := rfl
    omega
end
/-- data so great and so deep at most -/
structure Dt (n k : Nat) (d : PyData) : Prop where
  fx : fitx d = true
  sz : szx d ≤ n
  dp : d.depth ≤ k
theorem Dt.le {n k n' k' : Nat} {d : PyData} (h : Dt n k d) (a : n ≤ n') (b : k ≤ k') : Dt n' k' d := ⟨h.fx, Nat.le_trans h.sz a, Nat.le_trans h.dp b⟩
theorem Dt.show {n k : Nat} {d : PyData} (h : Dt n k d) (hn : n ≤ 8000) (hk : k ≤ 60) : d.showable = true ∧ d.shown.length ≤ sizeLine ∧ d.depth ≤ 60 := by
  obtain ⟨a, b⟩ := fitx_show d h.fx
  refine ⟨a, ?_, Nat.le_trans h.dp hk⟩
  have := h.sz
  rw [sizeLine_eq]
  omega
theorem dt_none : Dt 1 0 .none := ⟨rfl, by simp only [szx]; decide, by simp only [PyData.depth]; decide⟩
theorem dt_bool (b : Bool) : Dt 1 0 (.bool b) := ⟨rfl, by simp only [szx]; exact Nat.le_refl _, by simp only [PyData.depth]; exact Nat.le_refl _⟩
theorem dt_int {i : Int} (h : i.natAbs < 2 ^ 1400) : Dt 1 0 (.int i) := ⟨by simp only [fitx]; exact decide_eq_true h, by simp only [szx]; exact Nat.le_refl _, by simp only [PyData.depth]; exact Nat.le_refl _⟩
theorem dt_small {i : Int} (h : i.natAbs < 1000000) : Dt 1 0 (.int i) := dt_int (Nat.lt_trans h (by decide +kernel))
theorem dt_str {x : Str} (h : ∀ c ∈ x.cps.toList, c < 1114112) : Dt (x.length + 1) 0 (.str x) :=
  ⟨by simp only [fitx, List.all_eq_true, decide_eq_true_eq]; exact h, by simp only [szx]; exact Nat.le_refl _, by simp only [PyData.depth]; exact Nat.le_refl _⟩
/-- of a row: all so deep, all together so great -/
structure Dts (n k : Nat) (ds : List PyData) : Prop where
  fx : fitxs ds = true
  sz : szxs ds ≤ n
  dp : PyData.depthAll ds ≤ k
theorem Dts.nil : Dts 0 0 [] := ⟨rfl, by simp only [szxs]; exact Nat.le_refl _, by simp only [PyData.depthAll]; exact Nat.le_refl _⟩
theorem Dts.cons {n m k l : Nat} {d : PyData} {ds : List PyData} (a : Dt n k d) (b : Dts m l ds) : Dts (n + m) (max k l) (d :: ds) := by
  have h1 := a.sz
  have h2 := b.sz
  have h3 := a.dp
  have h4 := b.dp
  refine ⟨by simp only [fitxs, a.fx, b.fx, Bool.and_self], by simp only [szxs]; omega, by simp only [PyData.depthAll]; omega⟩
theorem Dts.le {n k n' k' : Nat} {d : List PyData} (h : Dts n k d) (a : n ≤ n') (b : k ≤ k') : Dts n' k' d := ⟨h.fx, Nat.le_trans h.sz a, Nat.le_trans h.dp b⟩
theorem Dts.tuple {n k : Nat} {ds : List PyData} (h : Dts n k ds) : Dt (n + 1) (k + 1) (.tuple ds) := by
  have h1 := h.sz
  have h2 := h.dp
  exact ⟨by simp only [fitx]; exact h.fx, by simp only [szx]; omega, by simp only [PyData.depth]; omega⟩
theorem Dts.list {n k : Nat} {ds : List PyData} (h : Dts n k ds) : Dt (n + 1) (k + 1) (.list ds) := by
  have h1 := h.sz
  have h2 := h.dp
  exact ⟨by simp only [fitx]; exact h.fx, by simp only [szx]; omega, by simp only [PyData.depth]; omega⟩
theorem dts_all {n k : Nat} : ∀ {ds : List PyData}, (∀ d ∈ ds, Dt n k d) → Dts (ds.length * n) k ds
  | [], _ => ⟨rfl, by simp only [szxs]; exact Nat.zero_le _, by simp only [PyData.depthAll]; exact Nat.zero_le _⟩
  | d :: ds, h => by
    have a := h d (List.mem_cons_self ..)
    have b := dts_all (ds := ds) fun e he => h e (List.mem_cons_of_mem _ he)
    have c := Dts.cons a b
    rw [List.length_cons, Nat.succ_mul]
    exact c.le (by omega) (by omega)
theorem Dt.of_tuple {n k : Nat} {ds : List PyData} (h : Dt n k (.tuple ds)) : ∀ d ∈ ds, Dt n k d := by
  have go : ∀ (ds : List PyData), fitxs ds = true → ∀ d ∈ ds, fitx d = true ∧ szx d ≤ szxs ds ∧ d.depth ≤ PyData.depthAll ds := by
    intro ds
    induction ds with
    | nil => intro _ d hd; cases hd
    | cons x xs ih =>
      intro hf d hd
      simp only [fitxs, Bool.and_eq_true] at hf
      simp only [szxs, PyData.depthAll]
      rcases List.mem_cons.mp hd with rfl | hd
      · exact ⟨hf.1, by omega, by omega⟩
      · obtain ⟨a, b, c⟩ := ih hf.2 d hd
        exact ⟨a, by omega, by omega⟩
  intro d hd
  have h1 := h.fx
  have h2 := h.sz
  have h3 := h.dp
  simp only [fitx] at h1
  simp only [szx] at h2
  simp only [PyData.depth] at h3
  obtain ⟨a, b, c⟩ := go ds h1 d hd
  exact ⟨a, by omega, by omega⟩
end Ev

set_option exponentiation.threshold 256
/-! for i, x in enumerate(a tuple) -/
namespace Ev
open PySem PySem.Spec PyProof.Rows L2
open PySem.Sem (wp)
theorem draws_tup {prog : Program} {w : World} {A : Around} (hh : A.handled = none) (it l : Addr) (hne : l ≠ it) (xs : Array Value) :
    Draws prog w A it [it, l] xs.size (fun i v => xs[i]? = some v) (fun i h => h.IsTupleIter it l i ∧ h.IsTuple l xs) where
  live := fun _ _ p => let ⟨o, q, _⟩ := p.1; ⟨o, q⟩
  frame := fun _ _ _ p k => ⟨p.1.at fun o e => k it (List.mem_cons_self ..) o e, p.2.at fun o e => k l (List.mem_cons_of_mem _ (List.mem_cons_self ..)) o e⟩
  item := fun i s Q E hi p hQ => by
    have hx : xs[i]? = some xs[i] := Array.getElem?_eq_getElem hi
    exact RZ.nextOf_tuple_item p.1 p.2 hx fun h' a b => hQ _ h' s.toks hx ⟨a, p.2.at fun o e => b.extBut l o hne e⟩ b
  done := fun s Q E p hE => RZ.nextOf_tuple_end hh p.1 p.2 (Array.getElem?_eq_none (Nat.le_refl _)) hE
theorem en_new {v : Value} {o : Obj} {G : Heap → Prop} (B : Begins v o G) :
    Meets (Builtin.«enumerate.__new__» ⟨[.type "enumerate", v], []⟩) (fun _ R s => G s.heap ∧
      R (.ok (.ret (.ref (s.heap.push o).objs.size))) { s with heap := (s.heap.push o).push { cls := .type "enumerate", data := .fields #[.none, .bool false, .ref s.heap.objs.size, rawInt 0, .none, .none] } }) :=
  .of_wp fun prog w A R s z => by
    obtain ⟨h0, gg, dd, tt, oo⟩ := s
    obtain ⟨z1, z2⟩ := z
    have sb := sub_enumerate
    have go : ∀ {A' : Around} {E : Value → Shared → Prop} {Q : Value → Shared → Prop}, Q (.ref h0.objs.size) ⟨h0.push o, gg, dd, tt, oo⟩ → wpAny (model prog w) A' (pyIter v) Q E ⟨h0, gg, dd, tt, oo⟩ :=
      fun q => B.iter prog w _ _ ⟨h0, gg, dd, tt, oo⟩ _ z1 q
    wp_walk using go
    refine wpAny_stack_any fun stk => wpAny_pure ?_
    split
    · rename_i c _ _ _ _ _
      cases (c == Value.type "enumerate")
      · wp_walk using go
        exact ⟨_, rfl, z2⟩
      · wp_walk using go
        exact ⟨_, rfl, z2⟩
    · wp_walk using go
      exact ⟨_, rfl, z2⟩
section
variable {prog : Program} {w : World} {A : Around} {E : Value → Shared → Prop} {s : Shared}
theorem call_en {v : Value} {o : Obj} {G : Heap → Prop} {Q : Value → Shared → Prop} (B : Begins v o G) (g : G s.heap)
    (q : ∀ h', IsEnum h' (s.heap.objs.size + 1) s.heap.objs.size 0 .none → h'.get? s.heap.objs.size = some o → (∀ b u, s.heap.get? b = some u → h'.get? b = some u) → Q (.ref (s.heap.objs.size + 1)) { s with heap := h' }) :
    wpAny (model prog w) A (call (.type "enumerate") [v]) Q E s := by
  refine callType_new F.called_enumerate (by decide) (F.typeCall_enumerate_1 _) (F.newCall_enumerate_1 _) (fun obj => F.args_object_init_2 obj _) F.entry_enumerate_new (en_new B) ⟨g, ?_⟩
  have n1 : (s.heap.push o).objs.size = s.heap.objs.size + 1 := Heap.size_push ..
  show _ ∧ _
  have made : IsEnum ((s.heap.push o).push { cls := .type "enumerate", data := .fields #[.none, .bool false, .ref s.heap.objs.size, rawInt 0, .none, .none] }) (s.heap.push o).objs.size s.heap.objs.size 0 .none :=
    Heap.get?_push_size _ rfl
  rw [n1] at made ⊢
  have up : ∀ b u, s.heap.get? b = some u → ((s.heap.push o).push { cls := .type "enumerate", data := .fields #[.none, .bool false, .ref s.heap.objs.size, rawInt 0, .none, .none] }).get? b = some u :=
    fun b u e => Heap.get?_push_of_some _ (Heap.get?_push_of_some _ e)
  exact ⟨⟨_, made, rfl⟩, q _ made (Heap.get?_push_of_some _ (Heap.get?_push_size _ B.free)) up⟩
theorem en_stop {e it l : Addr} {i k : Nat} {old : Value} {xs : Array Value} {Q : Option Value → Shared → Prop} (hh : A.handled = none) (he : IsEnum s.heap e it k old) (hi : s.heap.IsTupleIter it l i) (hl : s.heap.IsTuple l xs) (n : xs[i]? = none)
    (q : ∀ h', Heap.ExtBut it s.heap h' → Q none { s with heap := h' }) : wpAny (model prog w) A (pyNext (.ref e)) Q E s := by
  have ty : s.TypeIs (.ref e) "enumerate" := ⟨_, he, rfl⟩
  unfold pyNext
  have slot := F.slot_enumerate_next
  refine wpAny_bind (wpAny_attempt (wpAny_callSpecial?_slot (name := Str.ofString "__next__") ty slot (wpAny_call_entry slot ty F.entry_enumerate_next ?_ (F.args_enumerate_next_1 _))))
  show wpAny _ _ (field (.ref e) 2 >>= _) _ _ s
  refine wpAny_bind (wpAny_field he rfl (x := .ref it) rfl (wpAny_bind (RZ.nextOf_tuple_end hh hi hl n fun h' a ext ho => ?_)))
  obtain ⟨o, ho, hc⟩ := ho
  exact wpAny_bind (wpAny_isInstance (T := "StopIteration") (b := true) ⟨o, ho, hc⟩ isSubtype_stop (wpAny_pure (q _ ext)))
end
/-- the tuple at a as it stands at each turn, each item in a new pair -/
def IteT (K : PySem.W.Frag) (a : Addr) : It :=
  ⟨fun i H => ∃ (xs : List V) (x : V), SqT K H a xs ∧ xs[i]? = some x,
   fun i H v H' => ∃ t x, v = .ref t ∧ H t = none ∧ H' = upd H t (.tup [.int (i : Nat), x]) ∧ ∀ xs, SqT K H a xs → xs[i]? = some x,
   fun i H => ∃ xs : List V, SqT K H a xs ∧ xs.length ≤ i⟩
theorem turn_enT {P : Program} {w : World} {K : PySem.W.Frag} {elts : List Expr} {kk : Nat} {tpos : Pos} (a e it : Addr) (nae : a ≠ e) (nai : a ≠ it) :
    Turn P w K (.Tuple elts kk tpos) (IteT K a) [e, it] e (fun i h => (∃ old, IsEnum h e it ((i : Nat) : Int) old) ∧ h.IsTupleIter it a i ∧ e ≠ it) where
  mem := List.mem_cons_self ..
  obj := fun i h p b hb => by
    obtain ⟨⟨old, p1⟩, ⟨o, p2, p3, p4⟩, _⟩ := p
    rcases List.mem_cons.mp hb with rfl | hb
    · exact ⟨_, p1, fun v q => nomatch q⟩
    · have z := List.mem_singleton.mp hb
      subst z
      exact ⟨o, p2, fun v q => by rw [p4] at q; cases q⟩
  keep := fun i h h' p k => by
    obtain ⟨⟨old, p1⟩, p2, p3⟩ := p
    exact ⟨⟨old, k e (List.mem_cons_self ..) _ p1⟩, p2.at fun o q => k it (List.mem_cons_of_mem _ (List.mem_cons_self ..)) o q, p3⟩
  item := by
    intro X hP hw hK hc i pins s σ H E I hf p hg
    subst hP hw hK
    obtain ⟨⟨old, p1⟩, p2, p3⟩ := p
    obtain ⟨xs, x, hq, hx⟩ := hg
    obtain ⟨its, rv, pt, hz⟩ := I.tuple hq
    obtain ⟨u, hu, ru⟩ := rv.get hx
    have lt1 : e < s.heap.objs.size := Heap.lt_size p1
    have lt2 : it < s.heap.objs.size := by
      obtain ⟨o, q, _⟩ := id p2
      exact Heap.lt_size q
    have hi : i < its.toArray.size := by
      rw [List.size_toArray]
      exact (List.getElem?_eq_some_iff.mp hu).1
    have D := draws_tup (prog := X.prog) (w := X.w) (A := X.A.in1) (I.ok.hd hc) it a nai its.toArray
    have off : e ∉ [it, a] := fun hm => by
      rcases List.mem_cons.mp hm with z | hm
      · exact p3 z
      · exact nae (List.mem_singleton.mp hm).symm
    refine wpAny_pyNext_enum_itemD D p1 ⟨p2, pt⟩ hi p3 off fun y h' tk hy out st2 hT hs hk => ?_
    have ey : y = u := by
      have : its.toArray[i]? = some u := by simpa using hu
      rw [this] at hy
      exact (Option.some.inj hy).symm
    subst ey
    refine ⟨_, rfl, wpAny_letOwnedTupleGo_enum (s := { s with heap := h', toks := tk + 1 }) out fun h2 p1' sb => ?_⟩
    have hT2 : h2.get? s.heap.objs.size = some { cls := .type "tuple", data := .seq #[.int i tk, y] } := (sb.2 _ (Nat.ne_of_gt lt1)).trans hT
    have ok : ObjOk X.prog X.w (upd H s.heap.objs.size (.tup [.int (i : Nat), x])) h2 s.heap.objs.size (.tup [.int (i : Nat), x]) :=
      ⟨by show 2 ≤ sizeLine; decide, [.int i tk, y], .cons ⟨_, rfl⟩ (.cons ru .nil), ⟨_, hT2, rfl, _, rfl⟩⟩
    have far : ∀ b ob, b ∉ [e, it] → s.heap.get? b = some ob → h2.get? b = some ob := fun b ob hb q => by
      have n1 : b ≠ e := fun z => hb (by rw [z]; exact List.mem_cons_self ..)
      have n2 : b ≠ it := fun z => hb (by rw [z]; exact List.mem_cons_of_mem _ (List.mem_cons_self ..))
      exact (sb.2 b n1).trans (hk b ob n1 n2 q)
    have I1 := I.turnedNew (ch := [e, it]) (t' := tk + 1) far hf (Nat.le_refl _) ok
    refine ⟨.ref s.heap.objs.size, _, I1, rfl, ⟨_, x, rfl, I.hok.fresh (Nat.le_refl _), rfl, fun ys hy => by rw [I.tuple_inj hy hq]; exact hx⟩, ⟨⟨y, ?_⟩, st2.1.at fun o q => (sb.2 it (Ne.symm p3)).trans q, p3⟩, fun b hb => ?_⟩
    · have e1 : ((i + 1 : Nat) : Int) = (i : Int) + 1 := by omega
      rw [e1]
      exact p1'
    · have hb' : b < s.heap.objs.size := by
        rcases List.mem_cons.mp hb with z | z
        · rw [z]; exact lt1
        · rw [List.mem_singleton.mp z]; exact lt2
      rw [upd_ne (Nat.ne_of_lt hb')]
      exact (hf b hb).1
  done := by
    intro X hP hw hK hc i pins s σ H E I hf p hg
    subst hP hw hK
    obtain ⟨⟨old, p1⟩, p2, p3⟩ := p
    obtain ⟨xs, hq, hx⟩ := hg
    obtain ⟨its, rv, pt, hz⟩ := I.tuple hq
    obtain ⟨f0, f1, f2, f3, f4, f5⟩ := hf it (List.mem_cons_of_mem _ (List.mem_cons_self ..))
    have lv := rv.length
    have over : its.toArray[i]? = none := Array.getElem?_eq_none (by rw [List.size_toArray]; omega)
    exact en_stop (I.ok.hd hc) p1 p2 pt over fun h' ext => ⟨rfl, I.turned (t' := s.toks) (fun b o nb q => ext b o nb q) f0 f1 f3 f4 f5⟩
  self := fun A i s Q E p h => let ⟨⟨_, p1⟩, _⟩ := p; wpAny_pyIter_enum p1 h
def iEnT (K : PySem.W.Frag) (ta : TA) : TI := fun σ H R => ta σ H fun vs H1 => ∃ a xs, vs = [.ref a] ∧ SqT K H1 a xs ∧ R (IteT K a) H1
theorem pi_enumT {X : Cx} {e : Expr} {ta : TA} {p pos tpos : Pos} {elts : List Expr} {kk : Nat} (hg : Gl X "enumerate") (hm : X.mg "enumerate" = none) (ha : PA X [e] ta) (hs : starEach [e] X.env = [(false, eval e X.env)] := by rfl) :
    PI X (.Tuple elts kk tpos) (.Call (.Name "enumerate" p) [e] [] pos) (iEnT X.K ta) := by
  refine ⟨fun pins s σ H R I h => ?_⟩
  refine Call_ (ld_blt I hg hm boot_enumerate (PyProof.Rows.callWith_type1 (thn (ha.run pos pins s σ H _ I h) fun us s1 q1 => ?_) hs rfl))
  obtain ⟨vs, H1, I1, r1, a, xs, ev, hq, q⟩ := q1
  subst ev
  obtain ⟨u, rfl, ru⟩ := vals1 r1
  cases ru
  obtain ⟨its, rv, pt, hz⟩ := I1.tuple hq
  obtain ⟨oa, ga, _⟩ := id pt
  have la : a < s1.heap.objs.size := Heap.lt_size ga
  refine call_en (begins_tuple a its.toArray) pt fun h' he ho up => wpAny_pyIter_enum he ?_
  have I2 : Inv X pins σ H1 { s1 with heap := h' } := I1.kept (t' := s1.toks) up
  have n0 : s1.heap.objs.size + 1 ≠ s1.heap.objs.size := Nat.succ_ne_self _
  have st : h'.IsTupleIter s1.heap.objs.size a 0 := ⟨_, ho, rfl, rfl⟩
  refine ⟨s1.heap.objs.size + 1, [s1.heap.objs.size + 1, s1.heap.objs.size], _, _, H1, rfl, I2, turn_enT a (s1.heap.objs.size + 1) s1.heap.objs.size (Nat.ne_of_lt (Nat.lt_succ_of_lt la)) (Nat.ne_of_lt la), ⟨⟨.none, he⟩, st, n0⟩, fun b hb => ?_, q⟩
  have hle : s1.heap.objs.size ≤ b := by
    rcases List.mem_cons.mp hb with z | z
    · rw [z]; exact Nat.le_add_right _ _
    · rw [List.mem_singleton.mp z]; exact Nat.le_refl _
  exact I1.fpOk hle (I1.hok.fresh hle)
theorem walk_enT {K : PySem.W.Frag} {a : Addr} {xs : List V} : Walk (IteT K a) xs.length (fun H => SqT K H a xs) (YPair (fun i => some (.int (i : Nat))) (fun i => xs[i]?)) := by
  refine ⟨fun i _ hi q => ⟨xs, xs[i], q, List.getElem?_eq_getElem hi⟩, fun _ q => ⟨xs, q, Nat.le_refl _⟩, fun i H v H' _ q y => ?_⟩
  obtain ⟨t, x, y1, y2, y3, y4⟩ := y
  exact ⟨t, .int (i : Nat), x, y1, y2, y3, rfl, y4 xs q⟩
end Ev

set_option exponentiation.threshold 256
namespace Ev
open PySem PySem.Spec PyProof.Rows L2
def topS (i : Nat) : Stmt := PySem.Challenge.pw_everystart_k06_what_names_and_tests_are.main.body.getD i (.Pass ⟨0, 0, 0, 0⟩)
abbrev s_is_integer : Stmt := topS 3
theorem sc_is_integer : FnScope ["value"] ["value"] (defScope s_is_integer) := ⟨rfl, rfl, rfl, by decide +kernel, rfl, by decide +kernel, by decide +kernel⟩
abbrev s_is_within : Stmt := topS 4
theorem sc_is_within : FnScope ["value", "least", "most"] ["value", "least", "most"] (defScope s_is_within) := ⟨rfl, rfl, rfl, by decide +kernel, rfl, by decide +kernel, by decide +kernel⟩
abbrev s_names_error : Stmt := topS 9
theorem sc_names_error : FnScope ["value", "place", "name"] ["value"] (defScope s_names_error) := ⟨rfl, rfl, rfl, by decide +kernel, rfl, by decide +kernel, by decide +kernel⟩
abbrev s_is_name : Stmt := topS 10
theorem sc_is_name : FnScope ["value", "sign"] ["value"] (defScope s_is_name) := ⟨rfl, rfl, rfl, by decide +kernel, rfl, by decide +kernel, by decide +kernel⟩
abbrev s_is_test : Stmt := topS 11
theorem sc_is_test : FnScope ["many", "value", "counter", "word", "number"] ["many", "value"] (defScope s_is_test) := ⟨rfl, rfl, rfl, by decide +kernel, rfl, by decide +kernel, by decide +kernel⟩
abbrev s_loom : Stmt := topS 13
theorem sc_loom : FnScope ["script", "cell", "cells", "stirred"] ["script"] (defScope s_loom) := ⟨rfl, rfl, rfl, by decide +kernel, rfl, by decide +kernel, by decide +kernel⟩
abbrev s_draw : Stmt := topS 14
theorem sc_draw : FnScope ["loom", "many", "cell", "one"] ["loom", "many"] (defScope s_draw) := ⟨rfl, rfl, rfl, by decide +kernel, rfl, by decide +kernel, by decide +kernel⟩
abbrev s_pick : Stmt := topS 15
theorem sc_pick : FnScope ["loom", "things"] ["loom", "things"] (defScope s_pick) := ⟨rfl, rfl, rfl, by decide +kernel, rfl, by decide +kernel, by decide +kernel⟩
abbrev s_mixed : Stmt := topS 16
theorem sc_mixed : FnScope ["loom", "things", "rest", "found"] ["loom", "things"] (defScope s_mixed) := ⟨rfl, rfl, rfl, by decide +kernel, rfl, by decide +kernel, by decide +kernel⟩
abbrev s_odd : Stmt := topS 17
theorem sc_odd : FnScope ["loom", "some"] ["loom"] (defScope s_odd) := ⟨rfl, rfl, rfl, by decide +kernel, rfl, by decide +kernel, by decide +kernel⟩
abbrev s_is_whole : Stmt := topS 18
theorem sc_is_whole : FnScope ["value", "low", "high"] ["value", "low", "high"] (defScope s_is_whole) := ⟨rfl, rfl, rfl, by decide +kernel, rfl, by decide +kernel, by decide +kernel⟩
abbrev s_words : Stmt := topS 19
theorem sc_words : FnScope [] [] (defScope s_words) := ⟨rfl, rfl, rfl, by decide +kernel, rfl, by decide +kernel, by decide +kernel⟩
abbrev s_l_is_name : Stmt := topS 20
theorem sc_l_is_name : FnScope ["value", "sign"] ["value"] (defScope s_l_is_name) := ⟨rfl, rfl, rfl, by decide +kernel, rfl, by decide +kernel, by decide +kernel⟩
abbrev s_names_slip : Stmt := topS 21
theorem sc_names_slip : FnScope ["value", "k", "own"] ["value"] (defScope s_names_slip) := ⟨rfl, rfl, rfl, by decide +kernel, rfl, by decide +kernel, by decide +kernel⟩
abbrev s_names : Stmt := topS 22
theorem sc_names : FnScope ["loom", "many", "menu"] ["loom", "many"] (defScope s_names) := ⟨rfl, rfl, rfl, by decide +kernel, rfl, by decide +kernel, by decide +kernel⟩
abbrev s_test : Stmt := topS 23
theorem sc_test : FnScope ["loom", "many"] ["loom", "many"] (defScope s_test) := ⟨rfl, rfl, rfl, by decide +kernel, rfl, by decide +kernel, by decide +kernel⟩
abbrev s_fits : Stmt := topS 24
theorem sc_fits : FnScope ["many", "value"] ["many", "value"] (defScope s_fits) := ⟨rfl, rfl, rfl, by decide +kernel, rfl, by decide +kernel, by decide +kernel⟩
abbrev s_bent_names : Stmt := topS 25
theorem sc_bent_names : FnScope ["loom", "names", "spot", "side", "odd"] ["loom", "names"] (defScope s_bent_names) := ⟨rfl, rfl, rfl, by decide +kernel, rfl, by decide +kernel, by decide +kernel⟩
abbrev s_bent_test : Stmt := topS 26
theorem sc_bent_test : FnScope ["loom", "test", "c", "word", "n", "odd"] ["loom", "test"] (defScope s_bent_test) := ⟨rfl, rfl, rfl, by decide +kernel, rfl, by decide +kernel, by decide +kernel⟩
abbrev s_law : Stmt := topS 27
theorem sc_law : FnScope ["script", "loom", "turn", "names", "values", "nth", "value", "stood", "due", "told", "many", "test", "word"] ["script"] (defScope s_law) := ⟨rfl, rfl, rfl, by decide +kernel, rfl, by decide +kernel, by decide +kernel⟩
structure Txt (K : PySem.W.Frag) (mg : Str → Option Value) (A : Nat → Addr) (D : Nat → FuncData) : Prop where
  z_int : mg "int" = none
  z_len : mg "len" = none
  z_abs : mg "abs" = none
  z_repr : mg "repr" = none
  range : mg "range" = none
  z_isinstance : mg "isinstance" = none
  z_str : mg "str" = none
  z_list : mg "list" = none
  z_tuple : mg "tuple" = none
  enumerate : mg "enumerate" = none
  z_bool : mg "bool" = none
  z_all : mg "all" = none
  F_names_error : Fun K "names_error" "names_error" s_names_error (A 0) (D 0)
  g_names_error : mg "names_error" = some (.ref (A 0))
  F_is_integer : Fun K "is_integer" "is_integer" s_is_integer (A 1) (D 1)
  g_is_integer : mg "is_integer" = some (.ref (A 1))
  F_is_within : Fun K "is_within" "is_within" s_is_within (A 2) (D 2)
  g_is_within : mg "is_within" = some (.ref (A 2))
  F_is_name : Fun K "is_name" "is_name" s_is_name (A 3) (D 3)
  g_is_name : mg "is_name" = some (.ref (A 3))
  F_is_test : Fun K "is_test" "is_test" s_is_test (A 4) (D 4)
  g_is_test : mg "is_test" = some (.ref (A 4))
  F_loom : Fun K "_law_loom" "_law_loom" s_loom (A 5) (D 5)
  g_loom : mg "_law_loom" = some (.ref (A 5))
  F_draw : Fun K "_law_draw" "_law_draw" s_draw (A 6) (D 6)
  g_draw : mg "_law_draw" = some (.ref (A 6))
  F_pick : Fun K "_law_pick" "_law_pick" s_pick (A 7) (D 7)
  g_pick : mg "_law_pick" = some (.ref (A 7))
  F_mixed : Fun K "_law_mixed" "_law_mixed" s_mixed (A 8) (D 8)
  g_mixed : mg "_law_mixed" = some (.ref (A 8))
  F_odd : Fun K "_law_odd" "_law_odd" s_odd (A 9) (D 9)
  g_odd : mg "_law_odd" = some (.ref (A 9))
  F_is_whole : Fun K "_law_is_whole" "_law_is_whole" s_is_whole (A 10) (D 10)
  g_is_whole : mg "_law_is_whole" = some (.ref (A 10))
  F_words : Fun K "_law_words" "_law_words" s_words (A 11) (D 11)
  g_words : mg "_law_words" = some (.ref (A 11))
  F_l_is_name : Fun K "_law_is_name" "_law_is_name" s_l_is_name (A 12) (D 12)
  g_l_is_name : mg "_law_is_name" = some (.ref (A 12))
  F_names_slip : Fun K "_law_names_slip" "_law_names_slip" s_names_slip (A 13) (D 13)
  g_names_slip : mg "_law_names_slip" = some (.ref (A 13))
  F_names : Fun K "_law_names" "_law_names" s_names (A 14) (D 14)
  g_names : mg "_law_names" = some (.ref (A 14))
  F_test : Fun K "_law_test" "_law_test" s_test (A 15) (D 15)
  g_test : mg "_law_test" = some (.ref (A 15))
  F_fits : Fun K "_law_fits" "_law_fits" s_fits (A 16) (D 16)
  g_fits : mg "_law_fits" = some (.ref (A 16))
  F_bent_names : Fun K "_law_bent_names" "_law_bent_names" s_bent_names (A 17) (D 17)
  g_bent_names : mg "_law_bent_names" = some (.ref (A 17))
  F_bent_test : Fun K "_law_bent_test" "_law_bent_test" s_bent_test (A 18) (D 18)
  g_bent_test : mg "_law_bent_test" = some (.ref (A 18))
  F_law : Fun K "law" "law" s_law (A 19) (D 19)
  g_law : mg "law" = some (.ref (A 19))
  g_WORDS : mg "WORDS" = some (.ref (A 20))
  t_WORDS : ∃ (o : Obj) (its : Array Value) (n : Nat), K.lookup (A 20) = some o ∧ o.cls = .type "tuple" ∧ o.data = .seq its n ∧ its.size ≤ sizeLine ∧ Vals [.str "as", .str "by", .str "die", .str "do", .str "either", .str "else", .str "if", .str "loop", .str "or", .str "program", .str "seen", .str "skip", .str "till", .str "while"] its.toList
  c_MAX_COUNTERS : ∃ u, mg "MAX_COUNTERS" = some u ∧ RelV (.int 3) u
  c_MAX_TEST : ∃ u, mg "MAX_TEST" = some u ∧ RelV (.int 4) u
  c_MAX_LETTERS : ∃ u, mg "MAX_LETTERS" = some u ∧ RelV (.int 8) u
  c_LETTERS : ∃ u, mg "LETTERS" = some u ∧ RelV (.str "abcdefghijklmnopqrstuvwxyz") u
section
variable {P : Program} {w : World} {K : PySem.W.Frag} {mg : Str → Option Value} {base : Heap} {A : Nat → Addr} {D : Nat → FuncData}
theorem Txt.k_names_error (T : Txt K mg A D) : PySem.W.keepIn K (.ref (A 0)) = true := T.F_names_error.kp
theorem Txt.b_names_error (T : Txt K mg A D) : Binds K (D 0) ["value"] [] := T.F_names_error.binds fun _ _ _ _ _ _ us hl => match us, hl with | [_], _ => rfl
theorem Txt.k_is_integer (T : Txt K mg A D) : PySem.W.keepIn K (.ref (A 1)) = true := T.F_is_integer.kp
theorem Txt.b_is_integer (T : Txt K mg A D) : Binds K (D 1) ["value"] [] := T.F_is_integer.binds fun _ _ _ _ _ _ us hl => match us, hl with | [_], _ => rfl
theorem Txt.k_is_within (T : Txt K mg A D) : PySem.W.keepIn K (.ref (A 2)) = true := T.F_is_within.kp
theorem Txt.b_is_within (T : Txt K mg A D) : Binds K (D 2) ["value", "least", "most"] [] := T.F_is_within.binds fun _ _ _ _ _ _ us hl => match us, hl with | [_, _, _], _ => rfl
theorem Txt.k_is_name (T : Txt K mg A D) : PySem.W.keepIn K (.ref (A 3)) = true := T.F_is_name.kp
theorem Txt.b_is_name (T : Txt K mg A D) : Binds K (D 3) ["value"] [] := T.F_is_name.binds fun _ _ _ _ _ _ us hl => match us, hl with | [_], _ => rfl
theorem Txt.k_is_test (T : Txt K mg A D) : PySem.W.keepIn K (.ref (A 4)) = true := T.F_is_test.kp
theorem Txt.b_is_test (T : Txt K mg A D) : Binds K (D 4) ["many", "value"] [] := T.F_is_test.binds fun _ _ _ _ _ _ us hl => match us, hl with | [_, _], _ => rfl
theorem Txt.k_loom (T : Txt K mg A D) : PySem.W.keepIn K (.ref (A 5)) = true := T.F_loom.kp
theorem Txt.b_loom (T : Txt K mg A D) : Binds K (D 5) ["script"] [] := T.F_loom.binds fun _ _ _ _ _ _ us hl => match us, hl with | [_], _ => rfl
theorem Txt.k_draw (T : Txt K mg A D) : PySem.W.keepIn K (.ref (A 6)) = true := T.F_draw.kp
theorem Txt.b_draw (T : Txt K mg A D) : Binds K (D 6) ["loom", "many"] [] := T.F_draw.binds fun _ _ _ _ _ _ us hl => match us, hl with | [_, _], _ => rfl
theorem Txt.k_pick (T : Txt K mg A D) : PySem.W.keepIn K (.ref (A 7)) = true := T.F_pick.kp
theorem Txt.b_pick (T : Txt K mg A D) : Binds K (D 7) ["loom", "things"] [] := T.F_pick.binds fun _ _ _ _ _ _ us hl => match us, hl with | [_, _], _ => rfl
theorem Txt.k_mixed (T : Txt K mg A D) : PySem.W.keepIn K (.ref (A 8)) = true := T.F_mixed.kp
theorem Txt.b_mixed (T : Txt K mg A D) : Binds K (D 8) ["loom", "things"] [] := T.F_mixed.binds fun _ _ _ _ _ _ us hl => match us, hl with | [_, _], _ => rfl
theorem Txt.k_odd (T : Txt K mg A D) : PySem.W.keepIn K (.ref (A 9)) = true := T.F_odd.kp
theorem Txt.b_odd (T : Txt K mg A D) : Binds K (D 9) ["loom"] [] := T.F_odd.binds fun _ _ _ _ _ _ us hl => match us, hl with | [_], _ => rfl
theorem Txt.k_is_whole (T : Txt K mg A D) : PySem.W.keepIn K (.ref (A 10)) = true := T.F_is_whole.kp
theorem Txt.b_is_whole (T : Txt K mg A D) : Binds K (D 10) ["value", "low", "high"] [] := T.F_is_whole.binds fun _ _ _ _ _ _ us hl => match us, hl with | [_, _, _], _ => rfl
theorem Txt.k_words (T : Txt K mg A D) : PySem.W.keepIn K (.ref (A 11)) = true := T.F_words.kp
theorem Txt.b_words (T : Txt K mg A D) : Binds K (D 11) [] [] := T.F_words.binds fun _ _ _ _ _ _ us hl => match us, hl with | [], _ => rfl
theorem Txt.k_l_is_name (T : Txt K mg A D) : PySem.W.keepIn K (.ref (A 12)) = true := T.F_l_is_name.kp
theorem Txt.b_l_is_name (T : Txt K mg A D) : Binds K (D 12) ["value"] [] := T.F_l_is_name.binds fun _ _ _ _ _ _ us hl => match us, hl with | [_], _ => rfl
theorem Txt.k_names_slip (T : Txt K mg A D) : PySem.W.keepIn K (.ref (A 13)) = true := T.F_names_slip.kp
theorem Txt.b_names_slip (T : Txt K mg A D) : Binds K (D 13) ["value"] [] := T.F_names_slip.binds fun _ _ _ _ _ _ us hl => match us, hl with | [_], _ => rfl
theorem Txt.k_names (T : Txt K mg A D) : PySem.W.keepIn K (.ref (A 14)) = true := T.F_names.kp
theorem Txt.b_names (T : Txt K mg A D) : Binds K (D 14) ["loom", "many"] [] := T.F_names.binds fun _ _ _ _ _ _ us hl => match us, hl with | [_, _], _ => rfl
theorem Txt.k_test (T : Txt K mg A D) : PySem.W.keepIn K (.ref (A 15)) = true := T.F_test.kp
theorem Txt.b_test (T : Txt K mg A D) : Binds K (D 15) ["loom", "many"] [] := T.F_test.binds fun _ _ _ _ _ _ us hl => match us, hl with | [_, _], _ => rfl
theorem Txt.k_fits (T : Txt K mg A D) : PySem.W.keepIn K (.ref (A 16)) = true := T.F_fits.kp
theorem Txt.b_fits (T : Txt K mg A D) : Binds K (D 16) ["many", "value"] [] := T.F_fits.binds fun _ _ _ _ _ _ us hl => match us, hl with | [_, _], _ => rfl
theorem Txt.k_bent_names (T : Txt K mg A D) : PySem.W.keepIn K (.ref (A 17)) = true := T.F_bent_names.kp
theorem Txt.b_bent_names (T : Txt K mg A D) : Binds K (D 17) ["loom", "names"] [] := T.F_bent_names.binds fun _ _ _ _ _ _ us hl => match us, hl with | [_, _], _ => rfl
theorem Txt.k_bent_test (T : Txt K mg A D) : PySem.W.keepIn K (.ref (A 18)) = true := T.F_bent_test.kp
theorem Txt.b_bent_test (T : Txt K mg A D) : Binds K (D 18) ["loom", "test"] [] := T.F_bent_test.binds fun _ _ _ _ _ _ us hl => match us, hl with | [_, _], _ => rfl
theorem Txt.k_law (T : Txt K mg A D) : PySem.W.keepIn K (.ref (A 19)) = true := T.F_law.kp
theorem Txt.b_law (T : Txt K mg A D) : Binds K (D 19) ["script"] [] := T.F_law.binds fun _ _ _ _ _ _ us hl => match us, hl with | [_], _ => rfl

end
section
variable {X : Cx} {x : Str} {v : V} {pos : Pos}
theorem pe_const (hg : Gl X x) (h : ∃ u, X.mg x = some u ∧ RelV v u) (hd : (x == ("__debug__" : Str)) = false := by decide) : PE X (.Name x pos) (tC v) := by
  obtain ⟨u, e, r⟩ := h
  exact pe_glob hg e r hd
/-- f(e, ..) in a def that may raise: what f raises leaves it, too -/
theorem pe_callX {k : Nat} {f : Addr} {fd : FuncData} {ps : List Str} {sp : Sp} {p : Pos} {e : Expr} {es : List Expr} {t : TA} {W : WX}
    (tk : Takes X W) (F : FnOk X.prog X.w X.K X.mg X.base (L2.CX X.prog X.w) k f fd ps sp) (hr : Room k X.A) (hg : Gl X x) (hm : X.mg x = some (.ref f))
    (hk : PySem.W.keepIn X.K (.ref f) = true) (hb : Binds X.K fd ps []) (ha : PA X (e :: es) t)
    (hdb : (x == ("__debug__" : Str)) = false := by decide) (he : starEach (e :: es) X.env = (false, eval e X.env) :: starEach es X.env := by rfl)
    (hpl : (backTo pos (starEach es X.env)).any (·.1) = false := by rfl) : PE X (.Call (.Name x p) (e :: es) [] pos) (tCallS sp (WE W) t) :=
  pe_callS F hr hg hm hk hb (fun σ => passAt tk σ) ha hdb he hpl
end
end Ev

set_option exponentiation.threshold 3000
namespace Ev
open PySem PySem.Spec PyProof.Rows L2
section
variable {P : Program} {w : World} {K : PySem.W.Frag} {mg : Str → Option Value} {base : Heap} {A : Nat → Addr} {D : Nat → FuncData}
/-! ### draw -/
def sp_draw : Sp := fun vs H Q _ => ∃ (L F : Addr) (many : Int), vs = [.ref L, .int many] ∧ Lm H L F ∧ many < 1073741824 ∧
  ∀ (H' : Hp) (k : Int), Kp L F H H' → Lm H' L F → 0 ≤ k → (k < many ∨ k = 0) → Q (.int k) H'
theorem Txt.ok_draw (T : Txt K mg A D) : FnOk P w K mg base CX0 1 (A 6) (D 6) ["loom", "many"] sp_draw := by
  refine T.F_draw.ok sc_draw (fun vs H Q E h => ?_) (fun cdv Ar outer s H vs Q E hr h => ?_)
  · obtain ⟨L, F, many, rfl, _⟩ := h
    rfl
  · obtain ⟨L, F, many, rfl, ⟨fs, s0, t0, hL, hF, hlen⟩, hmany, q⟩ := h
    have hu := hu_of hr
    refine ⟨_, (pss_cons (ps_if (pt_cmpR op_lt (pv 1) pe_int (nomark _)) (pss_one (ps_ret pe_int)) pss_nil)
    (pss_cons (ps_if (pt_cmpR (op_neD hr.units) (pe_dget hu (pv 0) pe_str (fun _ _ => rfl)) (pe_lst pa_nil) (nomark _)) (pss_cons (ps_set (i := 2) sc_draw.nd rfl (Or.inl rfl) (pe_bm0 PySem.F.plainAttrs_list PySem.F.slot_list_pop PySem.F.type_list_pop mt_pop (pe_dget hu (pv 0) pe_str (fun _ _ => rfl))))
    (pss_cons (ps_if (pt_cmpR op_ge (pv 2) (pv 1) (nomark _)) (pss_one (ps_expr (pe_bm PySem.F.plainAttrs_list PySem.F.slot_list_append PySem.F.type_list_append mt_append (pe_dget hu (pv 0) pe_str (fun _ _ => rfl)) (pa_cons (pe_op op_fdivN (pv 2) (pv 1)) pa_nil)))) pss_nil)
    (pss_one (ps_ret (pe_op op_mod (pe_callTy call_int1 (by rfl) T.z_int (by decide +kernel) (pa_cons (pv 2) pa_nil)) (pv 1)))))) pss_nil)
    (pss_cons (ps_dput hu (pv 0) pe_str (pe_op op_add (pe_dget hu (pv 0) pe_str (fun _ _ => rfl)) pe_int) rfl)
    (pss_cons (ps_set (i := 3) sc_draw.nd rfl (Or.inl rfl) (pe_op op_mod (pe_callTy call_int1 (by rfl) T.z_int (by decide +kernel) (pa_cons (pe_op op_add (pe_dget hu (pv 0) pe_str (fun _ _ => rfl)) (pe_op op_mul pe_int (pe_dget hu (pv 0) pe_str (fun _ _ => rfl)))) pa_nil)) pe_int))
    (pss_cons (ps_set (i := 3) sc_draw.nd rfl (Or.inl rfl) (pe_op op_mod (pe_callTy call_int1 (by rfl) T.z_int (by decide +kernel) (pa_cons (pe_op op_add (pe_op op_add (pe_op op_mul (pv 3) (pv 3)) (pe_op op_mul pe_int (pe_dget hu (pv 0) pe_str (fun _ _ => rfl)))) pe_int) pa_nil)) pe_int))
    (pss_cons (ps_set (i := 3) sc_draw.nd rfl (Or.inl rfl) (pe_op op_mod (pe_callTy call_int1 (by rfl) T.z_int (by decide +kernel) (pa_cons (pe_op op_add (pe_op op_mul (pv 3) (pv 3)) (pe_dget hu (pv 0) pe_str (fun _ _ => rfl))) pa_nil)) pe_int))
    (pss_one (ps_ret (pe_op op_mod (pe_callTy call_int1 (by rfl) T.z_int (by decide +kernel) (pa_cons (pe_op op_fdivN (pv 3) pe_int) pa_nil)) (pv 1)))))))))), ?_⟩
    -- if many < 2
    refine ⟨_, rfl, _, _, rfl, rfl, _, rfl, ite2 (fun e => ?_) (fun e => ?_)⟩
    · exact q H 0 (Kp.refl H) ⟨fs, s0, t0, hL, hF, hlen⟩ (Int.le_refl 0) (.inr rfl)
    · have h2 : 2 ≤ many := Int.not_lt.mp fun z => e (decide_eq_true z)
      refine ⟨_, rfl, L, _, rfl, DGet.k (k := Sum.inr "far") hL, ⟨Nat.zero_le _, fun p hp => ?_⟩⟩
      have hFp : (upd H p (.lst [])) F = some (.lst (fs.map V.int)) := by
        rw [upd_ne (ne_of_none hF hp)]
        exact hF
      refine ⟨_, _, .lst (.inl (.inl hFp)) (dpAll_ints fs), .lst (xs := []) (.inl (.inl upd_same)) .nil, shaped_ints fs, by decide, _, rfl, ite2 (fun e1 => ?_) (fun e1 => ?_)⟩
      · rw [eqv_ints_nil] at e1
        rcases snoc_cases fs with rfl | ⟨gs, c, rfl⟩
        · exact absurd e1 (by decide)
        · have hL1 : (upd H p (.lst [])) L = some (.dK (ld F s0 t0)) := by
            rw [upd_ne (ne_of_none hL hp)]
            exact hL
          have nLF : L ≠ F := ne_of hL hF (by intro z; cases z)
          have last : ((gs ++ [c]).map V.int)[((gs ++ [c]).map V.int).length - 1]? = some (.int c) := by simp
          have drop : ((gs ++ [c]).map V.int).dropLast = gs.map V.int := by simp
          have hg : gs.length ≤ 62 := by
            rw [List.length_append, List.length_singleton] at hlen
            omega
          have km : 0 ≤ c % many ∧ c % many < many := ⟨Int.emod_nonneg _ (by omega), Int.emod_lt_of_pos _ (by omega)⟩
          refine ⟨_, rfl, L, _, rfl, DGet.k (k := Sum.inr "far") hL1, .inl ⟨rfl, _, SqL.of hFp⟩, F, _, _, rfl, rfl, hFp, last, ?_⟩
          rw [drop]
          -- if cell >= many
          refine ⟨_, rfl, _, rfl, _, _, rfl, rfl, _, rfl, ite2 (fun e2 => ?_) (fun e2 => ?_)⟩
          · have hL2 : (upd (upd H p (.lst [])) F (.lst (gs.map V.int))) L = some (.dK (ld F s0 t0)) := by
              rw [upd_ne nLF]
              exact hL1
            refine ⟨_, rfl, L, _, rfl, DGet.k (k := Sum.inr "far") hL2, .inl ⟨rfl, _, SqL.of upd_same⟩, _, rfl, _, rfl, _, _, rfl, rfl, ⟨by omega, by omega⟩, F, _, _, rfl, rfl, upd_same, small1000 (by rw [List.length_map]; omega), ?_⟩
            refine ⟨_, rfl, .inl ⟨_, rfl, _, rfl, _, _, rfl, rfl, by show 0 < many; omega, ?_⟩⟩
            refine q _ _ ?_ ?_ km.1 (.inl km.2)
            · exact ((Kp.new hp).trans Kp.updF).trans Kp.updF
            · exact ⟨gs ++ [c.fdiv many], s0, t0, by rw [upd_ne nLF]; exact hL2, by rw [upd_same, List.map_append]; rfl, by rw [List.length_append, List.length_singleton]; omega⟩
          · refine ⟨_, rfl, .inl ⟨_, rfl, _, rfl, _, _, rfl, rfl, by show 0 < many; omega, ?_⟩⟩
            refine q _ _ ?_ ?_ km.1 (.inl km.2)
            · exact (Kp.new hp).trans Kp.updF
            · exact ⟨gs, s0, t0, by rw [upd_ne nLF]; exact hL1, upd_same, by omega⟩
      · have hL1 : (upd H p (.lst [])) L = some (.dK (ld F s0 t0)) := by
          rw [upd_ne (ne_of_none hL hp)]
          exact hL
        have nLF : L ≠ F := ne_of hL hF (by intro z; cases z)
        refine ⟨_, rfl, L, _, rfl, DGet.k (k := Sum.inr "times") hL1, _, _, rfl, rfl, _, rfl, L, _, rfl, DPut.k (k := Sum.inr "times") hL1 ld_len, ?_⟩
        rw [ld_put]
        have hL2 : (upd (upd H p (.lst [])) L (.dK (ld F s0 (t0 + 1)))) L = some (.dK (ld F s0 (t0 + 1))) := upd_same
        refine ⟨_, rfl, L, _, rfl, DGet.k (k := Sum.inr "stirred") hL2, _, rfl, L, _, rfl, DGet.k (k := Sum.inr "times") hL2, _, _, rfl, rfl, .inl (by decide), _, _, rfl, rfl, .inl ⟨_, rfl, _, _, rfl, rfl, by show (0 : Int) < 4294967279; decide, ?_⟩⟩
        have b1 : 0 ≤ (s0 + 2654435761 * (t0 + 1)) % 4294967279 ∧ (s0 + 2654435761 * (t0 + 1)) % 4294967279 < 4294967279 := ⟨Int.emod_nonneg _ (by decide), Int.emod_lt_of_pos _ (by decide)⟩
        revert b1
        generalize (s0 + 2654435761 * (t0 + 1)) % 4294967279 = u1
        intro b1
        refine ⟨_, rfl, _, rfl, _, _, rfl, rfl, .inl ⟨by omega, by omega⟩, _, rfl, L, _, rfl, DGet.k (k := Sum.inr "times") hL2, _, _, rfl, rfl, .inl (by decide), _, _, rfl, rfl, _, _, rfl, rfl, .inl ⟨_, rfl, _, _, rfl, rfl, by show (0 : Int) < 4294967231; decide, ?_⟩⟩
        have b2 : 0 ≤ (u1 * u1 + 40503 * (t0 + 1) + 17) % 4294967231 ∧ (u1 * u1 + 40503 * (t0 + 1) + 17) % 4294967231 < 4294967231 := ⟨Int.emod_nonneg _ (by decide), Int.emod_lt_of_pos _ (by decide)⟩
        revert b2
        generalize (u1 * u1 + 40503 * (t0 + 1) + 17) % 4294967231 = u2
        intro b2
        refine ⟨_, rfl, _, rfl, _, _, rfl, rfl, .inl ⟨by omega, by omega⟩, _, rfl, L, _, rfl, DGet.k (k := Sum.inr "stirred") hL2, _, _, rfl, rfl, .inl ⟨_, rfl, _, _, rfl, rfl, by show (0 : Int) < 4294967197; decide, ?_⟩⟩
        generalize (u2 * u2 + s0) % 4294967197 = u3
        refine ⟨_, rfl, _, _, rfl, rfl, ⟨by decide, by decide⟩, .inl ⟨_, rfl, _, rfl, _, _, rfl, rfl, by show 0 < many; omega, ?_⟩⟩
        refine q _ _ ((Kp.new hp).trans Kp.updL) ?_ (Int.emod_nonneg _ (by omega)) (.inl (Int.emod_lt_of_pos _ (by omega)))
        exact ⟨fs, s0, t0 + 1, hL2, by rw [upd_ne nLF.symm]; exact hFp, hlen⟩
/-! ### pick -/
def sp_pick (K : PySem.W.Frag) : Sp := fun vs H Q _ => ∃ (L F a : Addr) (xs : List V), vs = [.ref L, .ref a] ∧ Lm H L F ∧ SqL K H a xs ∧ a ≠ L ∧ a ≠ F ∧ 0 < xs.length ∧ xs.length < 1073741824 ∧
  ∀ (H' : Hp) (i : Nat) (x : V), Kp L F H H' → Lm H' L F → xs[i]? = some x → Q x H'
theorem Txt.ok_pick (T : Txt K mg A D) : FnOk P w K mg base CX0 2 (A 7) (D 7) ["loom", "things"] (sp_pick K) := by
  refine T.F_pick.ok sc_pick (fun vs H Q E h => ?_) (fun cdv Ar outer s H vs Q E hr h => ?_)
  · obtain ⟨L, F, a, xs, rfl, _⟩ := h
    rfl
  · obtain ⟨L, F, a, xs, rfl, hM, hS, n1, n2, hpos, hlen, q⟩ := h
    have hu := hu_of hr
    refine ⟨_, (pss_one (ps_ret (pe_ix ix_list (pv 1) (pe_call (T.ok_draw) hr (by rfl) T.g_draw T.k_draw T.b_draw .nil pass0 (pa_cons (pv 0) (pa_cons (pe_callB call_len_seq (by rfl) T.z_len (by decide +kernel) (pa_cons (pv 1) pa_nil)) pa_nil))) (fun _ _ => rfl)))), ?_⟩
    refine ⟨_, rfl, _, rfl, _, rfl, a, xs, rfl, .inl hS, L, F, _, rfl, hM, by omega, fun H' k kp hM' k0 kl => ?_⟩
    have kn : k.toNat < xs.length := by omega
    exact ⟨a, xs, k, xs[k.toNat], rfl, rfl, kp.seq n1 n2 hS, at_of (j := k.toNat) (by omega) (List.getElem?_eq_getElem kn), q H' k.toNat _ kp hM' (List.getElem?_eq_getElem kn)⟩
/-! ### the loom's making -/
def sp_loom (K : PySem.W.Frag) : Sp := fun vs H Q _ => ∃ (a : Addr) (ns : List Int), vs = [.ref a] ∧ SqL K H a (ns.map V.int) ∧ ns.length ≤ 63 ∧
  ∀ (H' : Hp) (L F : Addr), Same H H' → Lm H' L F → H L = none → H F = none → Q (.ref L) H'
theorem Txt.ok_loom (T : Txt K mg A D) : FnOk P w K mg base CX0 1 (A 5) (D 5) ["script"] (sp_loom K) := by
  refine T.F_loom.ok sc_loom (fun vs H Q E h => ?_) (fun cdv Ar outer s H vs Q E hr h => ?_)
  · obtain ⟨a, ns, rfl, _⟩ := h
    rfl
  · obtain ⟨a, ns, rfl, hS, hlen, q⟩ := h
    have hu := hu_of hr
    refine ⟨_, (pss_cons (ps_par (i := 2) (j := 3) rfl sc_loom.nd rfl rfl (by decide) rfl rfl (pa_cons (pe_lc (own := [("cell", 1)]) (g := gName 1) (tt := tYes) rfl sc_loom.nd (pi_list (pe_slice sl_list (pv 0) po_none (po_some pe_int))) (blkOk_by (N := ["script", "cell", "cells", "stirred"]) (sc := defScope s_loom) (by decide +kernel)) (fun _ _ _ _ _ => pg_name (i := 1) sc_loom.nd rfl (Or.inl rfl)) (fun _ _ _ _ _ => pts_nil) (fun _ _ _ _ _ => (pe_op op_add (pe_op op_mul pe_int (pe_callB call_abs (by rfl) T.z_abs (by decide +kernel) (pa_cons (pv 1) pa_nil))) (pe_callTy call_int1 (by rfl) T.z_int (by decide +kernel) (pa_cons (pe_cmpR op_lt (pv 1) pe_int (nomark _)) pa_nil))))) (pa_cons (pe_op op_add pe_int (pe_op op_mul pe_int (pe_callB call_len_seq (by rfl) T.z_len (by decide +kernel) (pa_cons (pv 0) pa_nil)))) pa_nil)) (by rfl))
    (pss_cons (ps_for PassesOwn.never rfl (pi_list (pv 2)) (pg_name (i := 1) sc_loom.nd rfl (Or.inl rfl)) (pss_one (ps_set (i := 3) sc_loom.nd rfl (Or.inl rfl) (pe_op op_mod (pe_callTy call_int1 (by rfl) T.z_int (by decide +kernel) (pa_cons (pe_op op_add (pe_op op_add (pe_op op_mul (pv 3) pe_int) (pv 1)) pe_int) pa_nil)) pe_int))))
    (pss_one (ps_ret (pe_disp (pps_cons pe_str (pe_lc (own := [("cell", 1)]) (g := gName 1) (tt := _) rfl sc_loom.nd (pi_list (pv 2)) (blkOk_by (N := ["script", "cell", "cells", "stirred"]) (sc := defScope s_loom) (by decide +kernel)) (fun _ _ _ _ _ => pg_name (i := 1) sc_loom.nd rfl (Or.inl rfl)) (fun _ _ _ _ _ => (pts_one (pt_cmpR op_ge (pv 1) (pe_op op_pow pe_int pe_int) (nomark _)))) (fun _ _ _ _ _ => (pv 1))) (pps_cons pe_str (pv 3) (pps_cons pe_str pe_int pps_nil))) (by rfl) (by rfl) (fun z => by cases z) (by decide)))))), ?_⟩
    refine ⟨_, rfl, _, rfl, a, _, rfl, hS, fun p hp => ?_⟩
    obtain ⟨ms, em, hm⟩ := cut_ints ns none (some 63)
    rw [em]
    have sp : Same H (upd H p (.lst (ms.map V.int))) := same_new hp
    refine ⟨p, rfl, ⟨_, SqL.of upd_same⟩, fun D1 hD1 => ?_⟩
    have hDp : H D1 = none := sp.free hD1
    refine lc_list (K := K) (a := p) (xs := ms.map V.int) (fun i H' => Same (upd H p (.lst (ms.map V.int))) H' ∧ ∃ acc : List Int, H' D1 = some (.lst (acc.map V.int)) ∧ acc.length = i)
      ⟨same_new hD1, [], upd_same, rfl⟩ (fun i H' _ z => z.1.seq (SqL.of upd_same)) ?_ ?_
    · intro i x H' hx hP
      obtain ⟨m, hm1, rfl⟩ := int_at hx
      obtain ⟨s1, acc, hA, la⟩ := hP
      have hi : i < ms.length := (List.getElem?_eq_some_iff.mp hm1).1
      refine ⟨rfl, yes_of ?_⟩
      refine ⟨_, rfl, _, rfl, _, _, rfl, rfl, .inl ⟨by decide, by decide⟩, _, rfl, _, _, rfl, rfl, .inr ⟨_, rfl, _, _, rfl, rfl, _, hA, small1000 (by rw [List.length_map]; omega), same_put s1 hD1, acc ++ [2 * (if m < 0 then -m else m) + (if decide (m < 0) = true then 1 else 0)], ?_, ?_⟩⟩
      · rw [upd_same, List.map_append]
        rfl
      · rw [List.length_append, List.length_singleton, la]
    · intro H1 hP
      obtain ⟨s1, acc, hA, la⟩ := hP
      have sH : Same H H1 := sp.trans s1
      have sS := sH.seq hS
      refine ⟨_, rfl, a, _, rfl, .inl sS, _, _, rfl, rfl, .inl ⟨by decide, by decide⟩, _, _, rfl, rfl, _, _, rfl, ?_⟩
      -- the loop
      refine ⟨.ref D1, rfl, D1, rfl, ⟨_, SqL.of hA⟩, for_list (K := K) (a := D1) (xs := acc.map V.int) (fun i σ H' => H' = H1 ∧ ∃ (y : Option V) (z : Int), σ = [some (.ref a), y, some (.ref D1), some (.int z)])
        ⟨rfl, none, _, rfl⟩ (fun i σ H' _ z => by rw [z.1]; exact SqL.of hA) ?_ ?_⟩
      · rintro i x σ H' hx ⟨rfl, y, z, rfl⟩
        obtain ⟨m, hm1, rfl⟩ := int_at hx
        exact ⟨_, rfl, _, _, rfl, rfl, .inr ⟨by decide, by decide⟩, _, rfl, _, _, rfl, rfl, _, _, rfl, rfl, .inl ⟨_, rfl, _, _, rfl, rfl, by show (0 : Int) < 4294967291; decide, rfl, _, _, rfl⟩⟩
      · rintro σ H' ⟨rfl, y, z, rfl⟩
        -- the dict
        intro L hL
        have sL : Same H' (upd H' L (.dK [])) := same_new hL
        have hLH : H L = none := sH.free hL
        refine ⟨_, rfl, D1, rfl, ⟨_, (sL.seq (SqL.of hA))⟩, fun F hF => ?_⟩
        have hF' : H' F = none := sL.free hF
        refine lc_list (K := K) (a := D1) (xs := acc.map V.int) (fun i H2 => Same (upd H' L (.dK [])) H2 ∧ ∃ gs : List Int, H2 F = some (.lst (gs.map V.int)) ∧ gs.length ≤ i)
          ⟨same_new hF, [], upd_same, Nat.le_refl _⟩ (fun i H2 _ z => z.1.seq (sL.seq (SqL.of hA))) ?_ ?_
        · intro i x H2 hx hP
          obtain ⟨m, hm1, rfl⟩ := int_at hx
          obtain ⟨s2, gs, hG, lg⟩ := hP
          have hi : i < acc.length := (List.getElem?_eq_some_iff.mp hm1).1
          rw [List.length_map] at la
          refine ⟨rfl, _, rfl, _, _, rfl, rfl, ⟨by decide, by decide, by decide⟩, _, _, rfl, rfl, _, rfl, ite2 (fun e => ?_) (fun e => ?_)⟩
          · exact ⟨_, rfl, _, hG, small1000 (by rw [List.length_map]; omega), same_put s2 hF, gs ++ [m], by rw [upd_same, List.map_append]; rfl, by rw [List.length_append, List.length_singleton]; omega⟩
          · exact ⟨s2, gs, hG, by omega⟩
        · intro H2 hP
          obtain ⟨s2, gs, hG, lg⟩ := hP
          rw [List.length_map] at la lg
          have hL2 : H2 L = some (.dK []) := s2 _ _ upd_same
          refine ⟨_, rfl, hL2, ld F z 0, rfl, (by show 3 ≤ 15; decide), ?_⟩
          have nFL : F ≠ L := fun e => by
            rw [e, hL2] at hG
            cases hG
          refine q _ L F ?_ ⟨gs, z, 0, upd_same, by rw [upd_ne nFL]; exact hG, by omega⟩ hLH (sH.free hF')
          intro b o e
          have e1 := sH _ _ e
          rw [upd_ne (ne_of_none e1 hL)]
          exact s2 _ _ (sL _ _ e1)
end
end Ev

set_option exponentiation.threshold 256
/-! sums of throws: powers of a polynomial, by its parts -/
namespace Ev
def opL : List (Nat × Int) → (Nat → Int) → Nat → Int
  | [], _, _ => 0
  | (a, c) :: l, q, n => (if a ≤ n then c * q (n - a) else 0) + opL l q n
def delta (n : Nat) : Int := if n = 0 then 1 else 0
def pw (l : List (Nat × Int)) : Nat → Nat → Int
  | 0 => delta
  | m + 1 => opL l (pw l m)
theorem opL_cong {q r : Nat → Int} : ∀ (l : List (Nat × Int)) (n : Nat), (∀ k, k ≤ n → q k = r k) → opL l q n = opL l r n
  | [], _, _ => rfl
  | (a, c) :: l, n, h => by
    unfold opL
    rw [opL_cong l n h, h (n - a) (Nat.sub_le _ _)]
theorem opL_add (x y : Nat → Int) : ∀ (l : List (Nat × Int)) (n : Nat), opL l (fun k => x k + y k) n = opL l x n + opL l y n
  | [], _ => rfl
  | (a, c) :: l, n => by
    unfold opL
    rw [opL_add x y l n]
    split <;> grind
theorem opL_mul (m : Int) (x : Nat → Int) : ∀ (l : List (Nat × Int)) (n : Nat), opL l (fun k => m * x k) n = m * opL l x n
  | [], _ => by simp [opL]
  | (a, c) :: l, n => by
    unfold opL
    rw [opL_mul m x l n]
    split <;> grind
theorem opL_zero : ∀ (l : List (Nat × Int)) (n : Nat), opL l (fun _ => 0) n = 0
  | [], _ => rfl
  | (a, c) :: l, n => by
    unfold opL
    rw [opL_zero l n]
    split <;> simp
theorem opL_sh (a : Nat) (c : Int) (q : Nat → Int) : ∀ (l : List (Nat × Int)) (n : Nat), opL l (fun k => if a ≤ k then c * q (k - a) else 0) n = if a ≤ n then c * opL l q (n - a) else 0
  | [], n => by
    unfold opL
    split <;> simp
  | (b, d) :: l, n => by
    unfold opL
    rw [opL_sh a c q l n]
    have e : n - b - a = n - a - b := by omega
    show (if b ≤ n then d * (if a ≤ n - b then c * q (n - b - a) else 0) else 0) + (if a ≤ n then c * opL l q (n - a) else 0) = if a ≤ n then c * ((if b ≤ n - a then d * q (n - a - b) else 0) + opL l q (n - a)) else 0
    by_cases h1 : b ≤ n
    · by_cases h2 : a ≤ n
      · by_cases h3 : a ≤ n - b
        · rw [if_pos h1, if_pos h3, if_pos h2, if_pos h2, if_pos (show b ≤ n - a by omega), e]
          grind
        · rw [if_pos h1, if_neg h3, if_pos h2, if_pos h2, if_neg (show ¬ b ≤ n - a by omega)]
          grind
      · rw [if_pos h1, if_neg (show ¬ a ≤ n - b by omega), if_neg h2, if_neg h2]
        grind
    · by_cases h2 : a ≤ n
      · rw [if_neg h1, if_pos h2, if_pos h2, if_neg (show ¬ b ≤ n - a by omega)]
        grind
      · rw [if_neg h1, if_neg h2, if_neg h2]
        grind
theorem opL_comm (k : List (Nat × Int)) (q : Nat → Int) : ∀ (l : List (Nat × Int)) (n : Nat), opL l (opL k q) n = opL k (opL l q) n
  | [], n => by
    have e : opL ([] : List (Nat × Int)) q = fun _ => 0 := rfl
    rw [e, opL_zero]
    rfl
  | (a, c) :: l, n => by
    have e : opL ((a, c) :: l) q = fun n => (if a ≤ n then c * q (n - a) else 0) + opL l q n := by
      funext n
      rfl
    rw [e, opL_add, opL_sh, ← opL_comm k q l n]
    rfl
def dl (l : List (Nat × Int)) : List (Nat × Int) := l.map fun p => (p.1, (p.1 : Int) * p.2)
def th (q : Nat → Int) (n : Nat) : Int := (n : Int) * q n
theorem th_op (q : Nat → Int) : ∀ (l : List (Nat × Int)) (n : Nat), th (opL l q) n = opL l (th q) n + opL (dl l) q n
  | [], n => by simp [th, opL, dl]
  | (a, c) :: l, n => by
    have ih := th_op q l n
    show (n : Int) * ((if a ≤ n then c * q (n - a) else 0) + opL l q n) = ((if a ≤ n then c * th q (n - a) else 0) + opL l (th q) n) + ((if a ≤ n then ((a : Int) * c) * q (n - a) else 0) + opL (dl l) q n)
    have ih' : (n : Int) * opL l q n = opL l (th q) n + opL (dl l) q n := ih
    by_cases h : a ≤ n
    · rw [if_pos h, if_pos h, if_pos h]
      have e : ((n - a : Nat) : Int) = (n : Int) - a := by omega
      unfold th at *
      rw [e]
      grind
    · rw [if_neg h, if_neg h, if_neg h]
      grind
theorem pw_rec (l : List (Nat × Int)) : ∀ (m n : Nat), opL l (th (pw l m)) n = (m : Int) * opL (dl l) (pw l m) n
  | 0, n => by
    have e : th (pw l 0) = fun _ => 0 := by
      funext k
      unfold th pw delta
      by_cases h : k = 0
      · subst h; simp
      · rw [if_neg h]; simp
    rw [e, opL_zero]
    simp
  | m + 1, n => by
    have e : th (pw l (m + 1)) = fun k => (m : Int) * opL (dl l) (pw l m) k + opL (dl l) (pw l m) k := by
      funext k
      show th (opL l (pw l m)) k = _
      rw [th_op, pw_rec l m k]
    rw [e, opL_add, opL_mul]
    have c := opL_comm (dl l) (pw l m) l n
    have c2 : opL (dl l) (pw l (m + 1)) n = opL (dl l) (opL l (pw l m)) n := rfl
    rw [c2, c]
    grind
/-- what the weights ahead tell of the next one -/
def recT (m : Nat) (q : Nat → Int) : List (Nat × Int) → Nat → Int
  | [], _ => 0
  | (a, c) :: l, n => (if a ≤ n then ((m : Int) * a - n + a) * c * q (n - a) else 0) + recT m q l n
theorem recT_eq (m : Nat) (q : Nat → Int) : ∀ (l : List (Nat × Int)) (n : Nat), recT m q l n = (m : Int) * opL (dl l) q n - opL l (th q) n
  | [], n => by simp [recT, opL, dl]
  | (a, c) :: l, n => by
    have ih := recT_eq m q l n
    show (if a ≤ n then ((m : Int) * a - n + a) * c * q (n - a) else 0) + recT m q l n = (m : Int) * ((if a ≤ n then ((a : Int) * c) * q (n - a) else 0) + opL (dl l) q n) - ((if a ≤ n then c * th q (n - a) else 0) + opL l (th q) n)
    by_cases h : a ≤ n
    · rw [if_pos h, if_pos h, if_pos h, ih]
      have e : ((n - a : Nat) : Int) = (n : Int) - a := by omega
      unfold th
      rw [e]
      grind
    · rw [if_neg h, if_neg h, if_neg h, ih]
      grind
theorem pw_next (f : Int) (r : List (Nat × Int)) (m n : Nat) : f * n * pw ((0, f) :: r) m n = recT m (pw ((0, f) :: r) m) r n := by
  have h := pw_rec ((0, f) :: r) m n
  have e1 : opL ((0, f) :: r) (th (pw ((0, f) :: r) m)) n = f * th (pw ((0, f) :: r) m) n + opL r (th (pw ((0, f) :: r) m)) n := by
    show (if 0 ≤ n then f * th _ (n - 0) else 0) + _ = _
    rw [if_pos (Nat.zero_le _), Nat.sub_zero]
  have e2 : opL (dl ((0, f) :: r)) (pw ((0, f) :: r) m) n = opL (dl r) (pw ((0, f) :: r) m) n := by
    show (if 0 ≤ n then ((0 : Nat) : Int) * f * pw _ _ (n - 0) else 0) + _ = _
    rw [if_pos (Nat.zero_le _)]
    simp
    rfl
  rw [e1, e2] at h
  rw [recT_eq]
  have e3 : th (pw ((0, f) :: r) m) n = (n : Int) * pw ((0, f) :: r) m n := rfl
  rw [e3] at h
  grind
theorem pw_zero (f : Int) {r : List (Nat × Int)} (h : ∀ p ∈ r, 1 ≤ p.1) : ∀ m, pw ((0, f) :: r) m 0 = f ^ m
  | 0 => by
    rw [Int.pow_zero]
    rfl
  | m + 1 => by
    have z : ∀ (l : List (Nat × Int)), (∀ p ∈ l, 1 ≤ p.1) → ∀ q : Nat → Int, opL l q 0 = 0 := by
      intro l
      induction l with
      | nil => intros; rfl
      | cons p l ih =>
        intro hl q
        have h1 := hl p (List.mem_cons_self ..)
        show (if p.1 ≤ 0 then p.2 * q (0 - p.1) else 0) + opL l q 0 = 0
        rw [if_neg (by omega), ih (fun x hx => hl x (List.mem_cons_of_mem _ hx)), Int.zero_add]
    show (if 0 ≤ 0 then f * pw ((0, f) :: r) m (0 - 0) else 0) + opL r (pw ((0, f) :: r) m) 0 = _
    rw [if_pos (Nat.le_refl _), z r h, pw_zero f h m, Int.pow_succ]
    grind
theorem opL_nn {q : Nat → Int} (hq : ∀ n, 0 ≤ q n) : ∀ (l : List (Nat × Int)) (n : Nat), (∀ p ∈ l, 0 ≤ p.2) → 0 ≤ opL l q n
  | [], _, _ => Int.le_refl _
  | (a, c) :: l, n, h => by
    have h1 := opL_nn hq l n fun p hp => h p (List.mem_cons_of_mem _ hp)
    have h2 : 0 ≤ c := h (a, c) (List.mem_cons_self ..)
    show 0 ≤ (if a ≤ n then c * q (n - a) else 0) + opL l q n
    by_cases h3 : a ≤ n
    · rw [if_pos h3]
      have := Int.mul_nonneg h2 (hq (n - a))
      omega
    · rw [if_neg h3]
      omega
theorem pw_nn {l : List (Nat × Int)} (h : ∀ p ∈ l, 0 ≤ p.2) : ∀ m n, 0 ≤ pw l m n
  | 0, n => by
    show 0 ≤ (if n = 0 then (1 : Int) else 0)
    split <;> decide
  | m + 1, n => opL_nn (pw_nn h m) l n h
def wsum (l : List (Nat × Int)) : Int := (l.map (·.2)).sum
theorem opL_le {q : Nat → Int} {B : Int} (hq : ∀ n, 0 ≤ q n ∧ q n ≤ B) (hB : 0 ≤ B) : ∀ (l : List (Nat × Int)) (n : Nat), (∀ p ∈ l, 0 ≤ p.2) → opL l q n ≤ wsum l * B
  | [], _, _ => by simp [opL, wsum]
  | (a, c) :: l, n, h => by
    have h1 := opL_le hq hB l n fun p hp => h p (List.mem_cons_of_mem _ hp)
    have h2 : 0 ≤ c := h (a, c) (List.mem_cons_self ..)
    have e : wsum ((a, c) :: l) * B = c * B + wsum l * B := by
      unfold wsum
      rw [List.map_cons, List.sum_cons, Int.add_mul]
    rw [e]
    show (if a ≤ n then c * q (n - a) else 0) + opL l q n ≤ _
    by_cases h3 : a ≤ n
    · rw [if_pos h3]
      have := Int.mul_le_mul_of_nonneg_left (hq (n - a)).2 h2
      omega
    · rw [if_neg h3]
      have := Int.mul_nonneg h2 hB
      omega
theorem wsum_nn {l : List (Nat × Int)} (h : ∀ p ∈ l, 0 ≤ p.2) : 0 ≤ wsum l := by
  induction l with
  | nil => exact Int.le_refl _
  | cons p l ih =>
    unfold wsum at *
    rw [List.map_cons, List.sum_cons]
    have := h p (List.mem_cons_self ..)
    have := ih fun x hx => h x (List.mem_cons_of_mem _ hx)
    omega
theorem pw_le {l : List (Nat × Int)} (h : ∀ p ∈ l, 0 ≤ p.2) : ∀ m n, pw l m n ≤ wsum l ^ m
  | 0, n => by
    show (if n = 0 then (1 : Int) else 0) ≤ _
    rw [Int.pow_zero]
    split <;> decide
  | m + 1, n => by
    have z := opL_le (q := pw l m) (B := wsum l ^ m) (fun k => ⟨pw_nn h m k, pw_le h m k⟩) (Int.pow_nonneg (wsum_nn h)) l n h
    rw [Int.pow_succ, Int.mul_comm]
    exact z
/-- beyond the greatest of all nothing comes -/
theorem pw_top {l : List (Nat × Int)} {t : Nat} (h : ∀ p ∈ l, p.1 ≤ t) : ∀ m n, t * m < n → pw l m n = 0
  | 0, n, hn => by
    show (if n = 0 then (1 : Int) else 0) = 0
    rw [if_neg (by omega)]
  | m + 1, n, hn => by
    have hn' : t * m + t < n := by rw [Nat.mul_succ] at hn; exact hn
    have z : ∀ (k : List (Nat × Int)), (∀ p ∈ k, p.1 ≤ t) → opL k (pw l m) n = 0 := by
      intro k
      induction k with
      | nil => intros; rfl
      | cons p k ih =>
        intro hk
        have h1 := hk p (List.mem_cons_self ..)
        show (if p.1 ≤ n then p.2 * pw l m (n - p.1) else 0) + opL k (pw l m) n = 0
        rw [if_pos (by omega), pw_top h m (n - p.1) (by omega), ih (fun x hx => hk x (List.mem_cons_of_mem _ hx))]
        simp
    exact z l h
/-- numbers counted in steps from the least one -/
def spread (lo st : Nat) (l : List (Nat × Int)) : List (Nat × Int) := l.map fun p => (lo + st * p.1, p.2)
def spreadF (lo st : Nat) (q : Nat → Int) (n : Nat) : Int := if lo ≤ n ∧ st ∣ (n - lo) then q ((n - lo) / st) else 0
theorem op_spread {lo st b : Nat} (hs : 0 < st) (q : Nat → Int) : ∀ (l : List (Nat × Int)) (n : Nat),
    opL (spread lo st l) (spreadF b st q) n = spreadF (b + lo) st (opL l q) n
  | [], n => by
    show 0 = if b + lo ≤ n ∧ st ∣ (n - (b + lo)) then (0 : Int) else 0
    split <;> rfl
  | (a, c) :: l, n => by
    have ih := op_spread (lo := lo) (b := b) hs q l n
    show (if lo + st * a ≤ n then c * spreadF b st q (n - (lo + st * a)) else 0) + opL (spread lo st l) (spreadF b st q) n = _
    rw [ih]
    unfold spreadF
    by_cases h : b + lo ≤ n ∧ st ∣ (n - (b + lo))
    · obtain ⟨h1, k, hk⟩ := h
      have hn : n = b + lo + st * k := by omega
      subst hn
      have ek : (b + lo + st * k - (b + lo)) / st = k := by
        rw [Nat.add_sub_cancel_left, Nat.mul_div_cancel_left _ hs]
      have hd : b + lo ≤ b + lo + st * k ∧ st ∣ b + lo + st * k - (b + lo) := ⟨by omega, ⟨k, by omega⟩⟩
      rw [if_pos hd, if_pos hd, ek]
      show _ = (if a ≤ k then c * q (k - a) else 0) + opL l q k
      congr 1
      by_cases hak : a ≤ k
      · obtain ⟨j, rfl⟩ : ∃ j, k = a + j := ⟨k - a, by omega⟩
        have e : st * (a + j) = st * a + st * j := Nat.mul_add _ _ _
        have e2 : b + lo + st * (a + j) - (lo + st * a) = b + st * j := by omega
        rw [if_pos (by omega), e2, if_pos ⟨by omega, ⟨j, by omega⟩⟩, if_pos hak, show b + st * j - b = st * j by omega, Nat.mul_div_cancel_left _ hs, Nat.add_sub_cancel_left]
      · obtain ⟨j, rfl⟩ : ∃ j, a = k + 1 + j := ⟨a - k - 1, by omega⟩
        have e : st * (k + 1 + j) = st * k + st + st * j := by rw [Nat.mul_add, Nat.mul_add, Nat.mul_one]
        rw [if_neg hak]
        split
        · rename_i h3
          rw [if_neg (by intro z; omega)]
          simp
        · rfl
    · rw [if_neg h, if_neg h, Int.add_zero]
      split
      · rename_i h3
        rw [if_neg]
        · simp
        · rintro ⟨h4, k, hk⟩
          refine h ⟨by omega, a + k, ?_⟩
          rw [Nat.mul_add]
          omega
      · rfl
theorem pw_spread {lo st : Nat} (hs : 0 < st) (l : List (Nat × Int)) : ∀ m, pw (spread lo st l) m = spreadF (lo * m) st (pw l m)
  | 0 => by
    funext n
    show (if n = 0 then (1 : Int) else 0) = if lo * 0 ≤ n ∧ st ∣ (n - lo * 0) then (if (n - lo * 0) / st = 0 then (1 : Int) else 0) else 0
    rw [Nat.mul_zero, Nat.sub_zero]
    by_cases h : n = 0
    · subst h
      rw [if_pos rfl, if_pos ⟨Nat.le_refl _, ⟨0, rfl⟩⟩, if_pos (Nat.zero_div _)]
    · rw [if_neg h]
      split
      · rename_i h2
        obtain ⟨_, k, rfl⟩ := h2
        rw [Nat.mul_div_cancel_left _ hs, if_neg]
        intro z
        subst z
        exact h rfl
      · rfl
  | m + 1 => by
    funext n
    show opL (spread lo st l) (pw (spread lo st l) m) n = _
    rw [pw_spread hs l m, op_spread hs]
    rw [Nat.mul_succ]
    rfl
theorem pw_single (lo : Nat) (f : Int) (m n : Nat) : pw [(lo, f)] m n = if n = lo * m then f ^ m else 0 := by
  have e : [(lo, f)] = spread lo 1 [(0, f)] := rfl
  rw [e, pw_spread (by decide)]
  have z : ∀ m k, pw [(0, f)] m k = if k = 0 then f ^ m else 0 := by
    intro m
    induction m with
    | zero =>
      intro k
      rw [Int.pow_zero]
      rfl
    | succ m ih =>
      intro k
      show (if 0 ≤ k then f * pw [(0, f)] m (k - 0) else 0) + 0 = _
      rw [if_pos (Nat.zero_le _), Nat.sub_zero, ih, Int.pow_succ]
      split <;> grind
  unfold spreadF
  rw [Nat.div_one, z]
  by_cases h : n = lo * m
  · subst h
    rw [if_pos ⟨Nat.le_refl _, ⟨_, (Nat.one_mul _).symm⟩⟩, Nat.sub_self, if_pos rfl, if_pos rfl]
  · rw [if_neg h]
    split
    · rename_i h2
      rw [if_neg (by omega)]
    · rfl
end Ev

set_option exponentiation.threshold 20000
/-! math.lcm and math.comb, by the hand layer; sizes of powers -/
namespace Ev
open PySem PySem.Spec PyProof.Rows L2
def rLcm : List V → Hp → VK → Prop := fun vs H Q => ∃ a b : Int, vs = [.int a, .int b] ∧ a.natAbs < 2 ^ 13000 ∧ b.natAbs < 2 ^ 13000 ∧ Q (.int ((Nat.lcm a.natAbs b.natAbs : Nat) : Int)) H
theorem lcm_small {m n : Nat} (hm : m < 2 ^ 13000) (hn : n < 2 ^ 13000) : (Nat.lcm m n).log2 < 26001 := by
  refine PySem.Flt.log2_lt_of (n := Nat.lcm m n) (by decide) ?_
  have h1 := PySem.W.mc_lcm_le m n
  have h2 : m * n < 2 ^ 13000 * 2 ^ 13000 := Nat.mul_lt_mul'' hm hn
  rw [← Nat.pow_add] at h2
  exact Nat.lt_of_le_of_lt h1 (Nat.lt_trans h2 (Nat.pow_lt_pow_right (by decide) (by decide)))
theorem cr_lcm {X : Cx} : CallR X (.builtin "math.lcm") rLcm := by
  intro pins s σ H vs us Q I r h
  obtain ⟨a, b, rfl, ha, hb, q⟩ := h
  obtain ⟨t, u, rfl⟩ := Vals.int2 r
  have l1 : (max 1 a.natAbs).log2 < 13000 := PySem.Flt.log2_lt_of (by decide) (Nat.max_lt.mpr ⟨Nat.one_lt_pow (by decide) (by decide), ha⟩)
  have l2 : (max a.natAbs b.natAbs).log2 < 13000 := PySem.Flt.log2_lt_of (by decide) (Nat.max_lt.mpr ⟨ha, hb⟩)
  have l3 := lcm_small ha hb
  have e := PySem.W.mc_lcm_one a.natAbs
  have big : 26001 ≤ bitsLine := by decide
  refine call_function_meets PySem.W.MGF.kind_lcm PySem.W.MGF.plain_lcm PySem.W.MGF.entry_lcm (PySem.W.MGF.args_lcm _ _) (PySem.W.mg_run_lcm a t b u (by omega) (by omega) ?_).meets ?_
  · rw [e]
    show (Nat.lcm a.natAbs b.natAbs).log2 < bitsLine
    omega
  · rw [e]
    exact ⟨.int _, H, I.tok _, ⟨_, rfl⟩, q⟩
def rComb : List V → Hp → VK → Prop := fun vs H Q => ∃ a b : Int, vs = [.int a, .int b] ∧ 0 ≤ a ∧ 0 ≤ b ∧ a < 2 ^ 64 ∧ b ≤ 9000 ∧ Q (.int (PySem.W.mcComb a b)) H
theorem cr_comb {X : Cx} : CallR X (.builtin "math.comb") rComb := by
  intro pins s σ H vs us Q I r h
  obtain ⟨a, b, rfl, ha, hb, h1, h2, q⟩ := h
  obtain ⟨t, u, rfl⟩ := Vals.int2 r
  exact PySem.W.mc_comb ha hb h1 (.inl h2) fun _ => ⟨.int _, H, I.tok _, ⟨_, rfl⟩, q⟩
theorem pow_lt {b : Int} {s : Nat} (h : b.natAbs < 2 ^ s) (n : Nat) : (b ^ n).natAbs < 2 ^ (s * n + 1) := by
  rw [Int.natAbs_pow]
  have h1 : b.natAbs ^ n ≤ (2 ^ s) ^ n := Nat.pow_le_pow_left (Nat.le_of_lt h) n
  rw [← Nat.pow_mul] at h1
  exact Nat.lt_of_le_of_lt h1 (Nat.pow_lt_pow_right (by decide) (Nat.lt_succ_self _))
theorem and_one (e : Nat) : Builtin.bitAnd (e : Int) 1 = ((e % 2 : Nat) : Int) := by
  have z : Builtin.bitAnd (e : Int) (2 ^ 1 - 1) = (e : Int) % 2 ^ 1 := Bits.bitAnd_mask 1 (by omega)
  rw [show ((2 : Int) ^ 1 - 1) = 1 by decide, show ((2 : Int) ^ 1) = 2 by decide] at z
  omega
/-! ### rows of pairs -/
abbrev prD (x y : Int) : PyData := .tuple [.int x, .int y]
section
variable {K : PySem.W.Frag} {Z : Addr → Prop} {H : Hp}
theorem dx_prD {v : V} {x y : Int} (h : Dx K Z H v (prD x y)) : ∃ a, v = .ref a ∧ SqT K H a [.int x, .int y] := by
  obtain ⟨a, xs, rfl, hs, hd⟩ := dx_tup h
  cases hd with
  | cons h1 r1 =>
    cases r1 with
    | cons h2 r2 =>
      cases r2
      rw [dx_int h1, dx_int h2] at hs
      exact ⟨a, rfl, hs⟩
theorem dx_word {v : V} {x : Str} {d : PyData} (h : Dx K Z H v (.tuple [.str x, d])) : ∃ a u, v = .ref a ∧ SqT K H a [.str x, u] ∧ Dx K Z H u d := by
  obtain ⟨a, xs, rfl, hs, hd⟩ := dx_tup h
  cases hd with
  | cons h1 r1 =>
    cases r1 with
    | cons h2 r2 =>
      cases r2
      rw [dx_str h1] at hs
      exact ⟨a, _, rfl, hs, h2⟩
theorem prD_dx {a : Addr} {x y : Int} (h : SqT K H a [.int x, .int y]) : Dx K Z H (.ref a) (prD x y) := .tup h (.cons (.int _) (.cons (.int _) .nil))
theorem prs_at {vs : List V} {l : List (Int × Int)} {i : Nat} {v : V} (h : DxAll K Z H vs (l.map fun q => prD q.1 q.2)) (e : vs[i]? = some v) :
    ∃ x y a, l[i]? = some (x, y) ∧ v = .ref a ∧ SqT K H a [.int x, .int y] := by
  obtain ⟨d, h1, h2⟩ := dxAll_get h e
  rw [List.getElem?_map] at h1
  cases q : l[i]? with
  | none => rw [q] at h1; cases h1
  | some p =>
    rw [q] at h1
    cases h1
    obtain ⟨a, ea, hs⟩ := dx_prD h2
    exact ⟨p.1, p.2, a, rfl, ea, hs⟩
theorem prs_to {vs : List V} {l : List (Int × Int)} {i : Nat} {p : Int × Int} (h : DxAll K Z H vs (l.map fun q => prD q.1 q.2)) (e : l[i]? = some p) :
    ∃ a, vs[i]? = some (.ref a) ∧ SqT K H a [.int p.1, .int p.2] := by
  obtain ⟨v, h1, h2⟩ := dxAll_at h (i := i) (d := prD p.1 p.2) (by rw [List.getElem?_map, e]; rfl)
  obtain ⟨a, rfl, hs⟩ := dx_prD h2
  exact ⟨a, h1, hs⟩
theorem ix0 {x : V} {xs : List V} : atI (x :: xs) 0 = some x := atI_nat (j := 0) rfl
theorem ix1 {x y : V} {xs : List V} : atI (x :: y :: xs) 1 = some y := atI_nat (j := 1) rfl
theorem dxAll_new {p : Addr} {o : HO} {vs : List V} {ds : List PyData} (hp : H p = none) (h : DxAll K Z H vs ds) : DxAll K Z (upd H p o) vs ds := dxAll_same (same_new hp) h
end
/-! ### the whole of which weights are parts -/
def wholeN (l : List (Int × Int × Int)) : Nat := l.foldl (fun w q => Nat.lcm w q.2.2.natAbs) 1
def sdD (q : Int × Int × Int) : PyData := .tuple [.int q.1, .tuple [.int q.2.1, .int q.2.2]]
def wts (l : List (Int × Int × Int)) : List (Int × Int) := l.map fun q => (q.1, q.2.1 * ((wholeN l : Int) / q.2.2))
theorem fold_lcm_dvd : ∀ (l : List (Int × Int × Int)) (w : Nat), w ∣ l.foldl (fun w q => Nat.lcm w q.2.2.natAbs) w
  | [], w => Nat.dvd_refl _
  | q :: l, w => Nat.dvd_trans (Nat.dvd_lcm_left _ _) (fold_lcm_dvd l _)
theorem fold_lcm_pos : ∀ (l : List (Int × Int × Int)) (w : Nat), 0 < w → (∀ q ∈ l, 1 ≤ q.2.2) → 0 < l.foldl (fun w q => Nat.lcm w q.2.2.natAbs) w
  | [], w, h, _ => h
  | q :: l, w, h, hl => fold_lcm_pos l _ (Nat.lcm_pos h (by have := hl q (List.mem_cons_self ..); omega)) fun x hx => hl x (List.mem_cons_of_mem _ hx)
theorem fold_lcm_mem : ∀ (l : List (Int × Int × Int)) (w : Nat), ∀ q ∈ l, q.2.2.natAbs ∣ l.foldl (fun w q => Nat.lcm w q.2.2.natAbs) w
  | [], w, q, h => nomatch h
  | p :: l, w, q, h => by
    rcases List.mem_cons.mp h with rfl | h
    · exact Nat.dvd_trans (Nat.dvd_lcm_right _ _) (fold_lcm_dvd l _)
    · exact fold_lcm_mem l _ q h
theorem whole_take {l : List (Int × Int × Int)} {i : Nat} {q : Int × Int × Int} (h : l[i]? = some q) : wholeN (l.take (i + 1)) = Nat.lcm (wholeN (l.take i)) q.2.2.natAbs := by
  unfold wholeN
  rw [List.take_add_one, h, List.foldl_append]
  rfl
theorem whole_part (l : List (Int × Int × Int)) (i : Nat) : wholeN (l.take i) ∣ wholeN l := by
  have e : wholeN l = (l.drop i).foldl (fun w q => Nat.lcm w q.2.2.natAbs) (wholeN (l.take i)) := by
    unfold wholeN
    rw [← List.foldl_append, List.take_append_drop]
  rw [e]
  exact fold_lcm_dvd _ _
theorem whole_pos {l : List (Int × Int × Int)} (h : ∀ q ∈ l, 1 ≤ q.2.2) : 0 < wholeN l := fold_lcm_pos l 1 (by decide) h
theorem whole_mem {l : List (Int × Int × Int)} {q : Int × Int × Int} (h : q ∈ l) : q.2.2.natAbs ∣ wholeN l := fold_lcm_mem l 1 q h
/-! ### lists and dicts that are new since a heap -/
/-- beside the loom's two, and new -/
def ZN (L F : Addr) (H : Hp) : Addr → Prop := fun a => a ≠ L ∧ a ≠ F ∧ H a = none
theorem none_back {L F p : Addr} {H G : Hp} (k : Kp L F H G) (h : G p = none) (l : p ≠ L) (f : p ≠ F) : H p = none := by
  cases e : H p with
  | none => rfl
  | some u =>
    rw [k p u l f e] at h
    cases h
theorem dx_kpn {K : PySem.W.Frag} {L F : Addr} {B H H' : Hp} (k : Kp L F H H') (hM : Lm H L F) {v : V} {d : PyData} (h : Dx K (ZN L F B) H v d) : Dx K (ZN L F B) H' v d :=
  dx_keep (fun _ _ e => k.sqT hM e) (fun _ _ z e => k _ _ z.1 z.2.1 e) h
theorem dxAll_kpn {K : PySem.W.Frag} {L F : Addr} {B H H' : Hp} (k : Kp L F H H') (hM : Lm H L F) {v : List V} {d : List PyData} (h : DxAll K (ZN L F B) H v d) : DxAll K (ZN L F B) H' v d :=
  dxAll_keep (fun _ _ e => k.sqT hM e) (fun _ _ z e => k _ _ z.1 z.2.1 e) h
mutual
theorem dx_monoL {K : PySem.W.Frag} {Z Z' : Addr → Prop} {H : Hp} (hz : ∀ a, Z a → Z' a) : ∀ {v : V} {d : PyData}, Dx K Z H v d → Dx K Z' H v d
  | _, _, .non => .non
  | _, _, .bl b => .bl b
  | _, _, .int i => .int i
  | _, _, .str x => .str x
  | _, _, .lst e z h => .lst e (hz _ z) (dxAll_monoL hz h)
  | _, _, .tup e h => .tup e (dxAll_monoL hz h)
  | _, _, .dct e z h => .dct e (hz _ z) (dxKv_monoL hz h)
theorem dxAll_monoL {K : PySem.W.Frag} {Z Z' : Addr → Prop} {H : Hp} (hz : ∀ a, Z a → Z' a) : ∀ {vs : List V} {ds : List PyData}, DxAll K Z H vs ds → DxAll K Z' H vs ds
  | _, _, .nil => .nil
  | _, _, .cons h r => .cons (dx_monoL hz h) (dxAll_monoL hz r)
theorem dxKv_monoL {K : PySem.W.Frag} {Z Z' : Addr → Prop} {H : Hp} (hz : ∀ a, Z a → Z' a) : ∀ {vs : List (Key × V)} {ds : List (PyData × PyData)}, DxKv K Z H vs ds → DxKv K Z' H vs ds
  | _, _, .nil => .nil
  | _, _, .cons h r => .cons (dx_monoL hz h) (dxKv_monoL hz r)
end
/-- new since a later heap is new since an earlier one -/
theorem dx_back {K : PySem.W.Frag} {L F : Addr} {B B' H : Hp} (k : Kp L F B B') {v : V} {d : PyData} (h : Dx K (ZN L F B') H v d) : Dx K (ZN L F B) H v d :=
  dx_monoL (fun _ z => ⟨z.1, z.2.1, none_back k z.2.2 z.1 z.2.1⟩) h
theorem dxAll_back {K : PySem.W.Frag} {L F : Addr} {B B' H : Hp} (k : Kp L F B B') {v : List V} {d : List PyData} (h : DxAll K (ZN L F B') H v d) : DxAll K (ZN L F B) H v d :=
  dxAll_monoL (fun _ z => ⟨z.1, z.2.1, none_back k z.2.2 z.1 z.2.1⟩) h
theorem dx_zl {K : PySem.W.Frag} {L F : Addr} {B H : Hp} {v : V} {d : PyData} (h : Dx K (ZN L F B) H v d) : Dx K (ZL L F) H v d := dx_monoL (fun _ z => ⟨z.1, z.2.1⟩) h
mutual
/-- no list, no dict -/
def noL : PyData → Bool
  | .list _ => false
  | .dict _ => false
  | .tuple xs => noLs xs
  | _ => true
def noLs : List PyData → Bool
  | [] => true
  | x :: xs => noL x && noLs xs
end
mutual
theorem dx_any {K : PySem.W.Frag} {Z Z' : Addr → Prop} {H : Hp} : ∀ {v : V} {d : PyData}, Dx K Z H v d → noL d = true → Dx K Z' H v d
  | _, _, .non, _ => .non
  | _, _, .bl b, _ => .bl b
  | _, _, .int i, _ => .int i
  | _, _, .str x, _ => .str x
  | _, _, .lst e z h, n => by simp [noL] at n
  | _, _, .tup e h, n => .tup e (dxAll_any h (by simpa only [noL] using n))
  | _, _, .dct e z h, n => by simp [noL] at n
theorem dxAll_any {K : PySem.W.Frag} {Z Z' : Addr → Prop} {H : Hp} : ∀ {vs : List V} {ds : List PyData}, DxAll K Z H vs ds → noLs ds = true → DxAll K Z' H vs ds
  | _, _, .nil, _ => .nil
  | _, d :: ds, .cons h r, n => by
    have n' : (noL d && noLs ds) = true := by simpa only [noLs] using n
    rw [Bool.and_eq_true] at n'
    exact .cons (dx_any h n'.1) (dxAll_any r n'.2)
end
end Ev

set_option exponentiation.threshold 256
/-! t[::-1], t a tuple that is not empty -/
namespace Ev
open PySem PySem.Spec PyProof.Rows L2
section
variable {prog : Program} {w : World} {A : Around} {E : Value → Shared → Prop} {s : Shared}
theorem applied_rev {sl : Addr} {vl vu vs : Value} {n : Nat} {Q : Int × Int × Nat → Shared → Prop} (hs : s.heap.IsSliceOf sl vl vu vs) (pl : IsPart vl none) (pu : IsPart vu none) (ps : IsPart vs (some (-1)))
    (h : Q ((n : Int) - 1, -1, n) s) : wpAny (model prog w) A (Builtin.Slice.sliceApplied (.ref sl) (pure (n : Int))) Q E s := by
  obtain ⟨os, hos, hcs, hds⟩ := id hs
  unfold Builtin.Slice.sliceApplied Builtin.Slice.sliceFields
  refine wpAny_bind (wpAny_bind (wpAny_field hos hds (x := vl) rfl (wpAny_bind (wpAny_field hos hds (x := vu) rfl (wpAny_bind (wpAny_field hos hds (x := vs) rfl (wpAny_pure ?_)))))))
  refine wpAny_bind (HT.slicePart_ ps ?_)
  show wpAny _ _ (if ((-1 : Int) == 0) = true then _ else _) _ _ s
  rw [if_neg (by decide)]
  refine wpAny_bind (HT.slicePart_ pl (wpAny_bind (HT.slicePart_ pu (wpAny_bind (wpAny_pure ?_)))))
  show wpAny _ _ (match Builtin.Slice.sliceAdjust none none (-1) (n : Int) with | (lo, hi) => pure (lo, (-1 : Int), Builtin.Slice.slicePlaces lo hi (-1))) _ _ s
  have e : Builtin.Slice.sliceAdjust none none (-1) (n : Int) = ((n : Int) - 1, -1) := rfl
  rw [e]
  show wpAny _ _ (pure ((n : Int) - 1, (-1 : Int), Builtin.Slice.slicePlaces ((n : Int) - 1) (-1) (-1))) _ _ s
  have e2 : Builtin.Slice.slicePlaces ((n : Int) - 1) (-1) (-1) = n := by
    unfold Builtin.Slice.slicePlaces
    rw [if_neg (by decide)]
    by_cases h0 : (n : Int) - 1 > -1
    · rw [if_pos h0, show (- -1 : Int) = 1 by decide, Int.ediv_one]
      omega
    · rw [if_neg h0]
      omega
  rw [e2]
  exact wpAny_pure h
theorem pick_rev (xs : Array Value) : ((List.range xs.size).filterMap fun (m : Nat) => xs[((xs.size : Int) - 1 + (m : Int) * (-1)).toNat]?).toArray = xs.toList.reverse.toArray := by
  have e : (List.range xs.size).filterMap (fun (m : Nat) => xs[((xs.size : Int) - 1 + (m : Int) * (-1)).toNat]?) = ((List.range xs.size).map fun k => xs.size - 1 - k).filterMap (xs[·]?) := by
    have e1 : (List.range xs.size).map (fun (m : Nat) => ((xs.size : Int) - 1 + (m : Int) * (-1)).toNat) = (List.range xs.size).map fun k => xs.size - 1 - k := by
      refine List.map_congr_left fun m hm => ?_
      have h := List.mem_range.mp hm
      omega
    rw [← e1, List.filterMap_map]
    rfl
  rw [e, PySem.W.krv_range, List.filterMap_reverse, PySem.W.krv_all]
theorem getItem_rev {t sl : Addr} {items : Array Value} {vl vu vs : Value} {Q : Value → Shared → Prop} (ht : IsTup s.heap t items) (hs : s.heap.IsSliceOf sl vl vu vs) (pl : IsPart vl none) (pu : IsPart vu none) (ps : IsPart vs (some (-1)))
    (h : Q (.ref s.heap.objs.size) { s with heap := s.heap.push { cls := .type "tuple", data := .seq items.toList.reverse.toArray } })
    (hsz : items.size ≤ sizeLine) : wpAny (model prog w) A (getItem (.ref t) (.ref sl)) Q E s := by
  have htake : sizeOk (.seq items.toList.reverse.toArray) := by
    show items.toList.reverse.toArray.size ≤ sizeLine
    rw [List.size_toArray, List.length_reverse, Array.length_toList]
    exact hsz
  obtain ⟨os, hos, hcs, hds⟩ := id hs
  have hTs : s.TypeIs (.ref sl) "slice" := ⟨os, hos, hcs⟩
  unfold getItem
  try with_reducible refine wpAny_holding ?_
  first | refine wpAny_bind (wpAny_pure ?_) | skip
  refine wpAny_bind (wpAny_sequenceKey ht.typeIs (by decide) ?_)
  refine wpAny_bind (wpAny_callSpecial?_slot (name := Str.ofString "__getitem__") ht.typeIs PyProof.Rows.slot_tuple_getitem
    (wpAny_call_entry PyProof.Rows.slot_tuple_getitem ht.typeIs entry_tuple_getitem ?_ (args_tuple_getitem _ _)))
  show wpAny _ _ (Builtin.Tuple.tupleItemsOf (.ref t) >>= _) _ _ s
  refine wpAny_bind (tupleItemsOf_ ht ?_)
  refine wpAny_bind (wpAny_typeOf hTs ?_)
  rw [if_pos (by decide)]
  refine wpAny_bind (applied_rev hs pl pu ps ?_)
  have hno : ¬ ((((items.size : Int) - 1) == 0 && (-1 : Int) == 1 && items.size == items.size) = true) := by
    intro q
    rw [Bool.and_eq_true, Bool.and_eq_true] at q
    exact absurd q.1.2 (by decide)
  show wpAny _ _ (if ((((items.size : Int) - 1) == 0 && (-1 : Int) == 1 && items.size == items.size) = true) then _ else _) _ _ s
  rw [if_neg hno, pick_rev]
  first
    | exact wpAny_bind (m := Builtin.Tuple.tupleExact _) (wpAny_newObj_type (wpAny_pure ⟨_, rfl, wpAny_pure h⟩) htake)
    | exact wpAny_bind (m := Builtin.Tuple.tupleExact _) (wpAny_newObj_type (wpAny_bind (wpAny_pure (wpAny_pure ⟨_, rfl, wpAny_pure h⟩))) htake)
    | exact wpAny_bind (wpAny_bind (m := Builtin.Tuple.tupleExact _) (wpAny_newObj_type (wpAny_pure (wpAny_pure ⟨_, rfl, wpAny_pure h⟩)) htake))
    | exact wpAny_bind (wpAny_bind (m := Builtin.Tuple.tupleExact _) (wpAny_newObj_type (wpAny_pure ⟨_, rfl, wpAny_pure h⟩) htake))
end
section
variable {X : Cx}
def tRevT (K : PySem.W.Frag) (te : TE) : TE := fun σ H Q => te σ H fun x H1 => ∃ a xs, x = .ref a ∧ SqT K H1 a xs ∧ ∀ p, H1 p = none → Q (.ref p) (upd H1 p (.tup xs.reverse))
theorem pe_revT {e : Expr} {te : TE} {k : Nat} {p1 p2 p3 pos : Pos} (he : PE X e te) : PE X (.Subscript e (.Slice none none (some (.UnaryOp .USub (.Constant (.int 1) k p1) p2)) p3) pos) (tRevT X.K te) := by
  refine ⟨fun pins s σ H Q I h => ?_⟩
  refine Subscript_ (thn (he.run pins s σ H _ I h) fun v s1 ⟨x, H1, I1, r1, q1⟩ => ?_)
  obtain ⟨a, xs, ex, hx, q⟩ := q1
  subst ex
  cases r1
  have hst : PO X (some (.UnaryOp .USub (.Constant (.int 1) k p1) p2)) (tPart (tUn (rU fun i => .int (-i)) (tC (.int 1)))) := po_some (pe_un un_neg pe_int)
  refine wpAny_Slice (thn (po_none.run pins s1 σ H1 (fun o H2 => o = none ∧ H2 = H1) I1 ⟨rfl, rfl⟩) fun vl s2 ⟨l, H2, I2, pl, el, e2⟩ => ?_)
  subst el e2
  refine thn (po_none.run pins s2 σ H2 (fun o H3 => o = none ∧ H3 = H2) I2 ⟨rfl, rfl⟩) fun vu s3 ⟨u, H3, I3, pu, eu, e3⟩ => ?_
  subst eu e3
  refine thn (hst.run pins s3 σ H3 (fun o H4 => o = some (-1) ∧ H4 = H3) I3 ⟨1, rfl, -1, rfl, rfl, rfl⟩) fun vs s4 ⟨o, H4, I4, ps, eo, e4⟩ => ?_
  subst eo e4
  have I5 : Inv X pins σ H4 { s4 with heap := s4.heap.push { cls := .type "slice", data := .fields #[vl, vu, vs] } } := I4.kept (t' := s4.toks) fun b ob q => Heap.get?_push_of_some _ q
  obtain ⟨its, r, ht, hz⟩ := I5.tuple hx
  have hlen := r.length
  show wpAny (model X.prog X.w) X.A (subscriptTail e (.Slice none none (some (.UnaryOp .USub (.Constant (.int 1) k p1) p2)) p3) (.ref a) (.ref s4.heap.objs.size)) (EP X pins σ Q) X.xe { s4 with heap := s4.heap.push { cls := .type "slice", data := .fields #[vl, vu, vs] } }
  refine tail_any (ops := [.ref a, .ref s4.heap.objs.size]) ht.typeIs (PyProof.Rows.slot_tuple_getitem.lookup) ?_ (by with_unfolding_all rfl)
  refine getItem_rev ht (Heap.IsSliceOf.new _ vl vu vs) pl pu ps ?_ (by rw [List.size_toArray]; omega)
  refine ⟨.ref _, _, I5.laid (t' := s4.toks) (o := .tup xs.reverse) (fun b ob q => Heap.get?_push_of_some _ q) (Nat.le_refl _) ?_, rfl, q _ (I5.hok.fresh (Nat.le_refl _))⟩
  exact ⟨by rw [List.length_reverse]; exact hz, _, r.reverse, IsTup.new _ _⟩
/-- t + u: somewhere stand the items of both -/
def rCatS (K : PySem.W.Frag) : R2 := fun x y H Q => ∃ a b xs ys, x = .ref a ∧ y = .ref b ∧ SqT K H a xs ∧ SqT K H b ys ∧ xs.length + ys.length ≤ sizeLine ∧
  ∀ (H' : Hp) (p : Addr), Same H H' → SqT K H' p (xs ++ ys) → Q (.ref p) H'
theorem op_catS : OpR X (binaryOp .Add) (rCatS X.K) := by
  intro pins s σ H x y v u Q I rx ry h
  obtain ⟨a, b, xs, ys, rfl, rfl, ha, hb, hz, q⟩ := h
  refine op_catA pins s σ H _ _ v u Q I rx ry ⟨a, b, xs, ys, rfl, rfl, ha, hb, hz, fun e => ?_, fun _ e => ?_, fun _ _ p hp => ?_⟩
  · subst e
    exact q H b (Same.refl H) hb
  · subst e
    refine q H a (Same.refl H) ?_
    rw [List.append_nil]
    exact ha
  · exact q _ p (same_new hp) (SqT.of upd_same)
/-- t[lo:hi]: somewhere stand its items -/
def rSlS (K : PySem.W.Frag) : V → Option Int → Option Int → Hp → VK → Prop := fun x lo hi H Q => ∃ a xs, x = .ref a ∧ SqT K H a xs ∧ ∀ (H' : Hp) (p : Addr), Same H H' → SqT K H' p (cutV xs lo hi) → Q (.ref p) H'
theorem sl_tupS : SlR X (rSlS X.K) := by
  intro pins s σ H x v vl vu lo hi sl Q I rx hs pl pu h
  obtain ⟨a, xs, rfl, hx, q⟩ := h
  refine sl_tupA pins s σ H _ v vl vu lo hi sl Q I rx hs pl pu ⟨a, xs, rfl, hx, fun e => ?_, fun _ p hp => q _ p (same_new hp) (SqT.of upd_same)⟩
  refine q H a (Same.refl H) ?_
  have z : cutV xs lo hi = xs := by
    unfold cutV
    rw [e.1, e.2, List.drop_zero, Nat.sub_zero, List.take_of_length_le (Nat.le_refl _)]
  rw [z]
  exact hx
end
end Ev

set_option exponentiation.threshold 3000
namespace Ev
open PySem PySem.Spec PyProof.Rows L2
theorem eqvx_nil (ds : List PyData) : PyData.eqv (.list ds) (.list []) = ds.isEmpty := by
  cases ds with
  | nil => rfl
  | cons d ds => simp [PyData.eqv, PyData.eqvAll]
theorem shapedL {ds : List PyData} (h : PyData.canLayAll0 ds = true) (k : PyData.depthAll ds ≤ 60) : SeqAt.shaped (.list ds) = true := by
  simp only [SeqAt.shaped, PyData.canLay0, h, PyData.depth, Bool.true_and]
  exact decide_eq_true (by omega)
theorem canLayAll_mem : ∀ {ds : List PyData}, PyData.canLayAll0 ds = true ↔ ∀ d ∈ ds, d.canLay0 = true
  | [] => by simp [PyData.canLayAll0]
  | d :: ds => by
    simp only [PyData.canLayAll0, Bool.and_eq_true, List.mem_cons, forall_eq_or_imp]
    rw [canLayAll_mem]
theorem depthAll_mem {k : Nat} : ∀ {ds : List PyData}, PyData.depthAll ds ≤ k ↔ ∀ d ∈ ds, d.depth ≤ k
  | [] => by simp [PyData.depthAll]
  | d :: ds => by
    simp only [PyData.depthAll, List.mem_cons, forall_eq_or_imp, Nat.max_le]
    rw [depthAll_mem]
theorem dxAll_erase {K : PySem.W.Frag} {Z : Addr → Prop} {H : Hp} : ∀ (n : Nat) {vs : List V} {ds : List PyData}, DxAll K Z H vs ds → DxAll K Z H (vs.eraseIdx n) (ds.eraseIdx n)
  | _, _, _, .nil => .nil
  | 0, _, _, .cons _ r => r
  | n + 1, _, _, .cons h r => .cons h (dxAll_erase n r)
mutual
theorem dx_mono {K : PySem.W.Frag} {Z Z' : Addr → Prop} {H : Hp} (hz : ∀ a o, H a = some o → Z a → Z' a) : ∀ {v : V} {d : PyData}, Dx K Z H v d → Dx K Z' H v d
  | _, _, .non => .non
  | _, _, .bl b => .bl b
  | _, _, .int i => .int i
  | _, _, .str x => .str x
  | _, _, .lst e z h => .lst e (hz _ _ e z) (dxAll_mono hz h)
  | _, _, .tup e h => .tup e (dxAll_mono hz h)
  | _, _, .dct e z h => .dct e (hz _ _ e z) (dxKv_mono hz h)
theorem dxAll_mono {K : PySem.W.Frag} {Z Z' : Addr → Prop} {H : Hp} (hz : ∀ a o, H a = some o → Z a → Z' a) : ∀ {vs : List V} {ds : List PyData}, DxAll K Z H vs ds → DxAll K Z' H vs ds
  | _, _, .nil => .nil
  | _, _, .cons h r => .cons (dx_mono hz h) (dxAll_mono hz r)
theorem dxKv_mono {K : PySem.W.Frag} {Z Z' : Addr → Prop} {H : Hp} (hz : ∀ a o, H a = some o → Z a → Z' a) : ∀ {vs : List (Key × V)} {ds : List (PyData × PyData)}, DxKv K Z H vs ds → DxKv K Z' H vs ds
  | _, _, .nil => .nil
  | _, _, .cons h r => .cons (dx_mono hz h) (dxKv_mono hz r)
end
theorem dxAll_upd {K : PySem.W.Frag} {Z : Addr → Prop} {H : Hp} {p : Addr} {ys : List V} {o : HO} (hp : H p = some (.lst ys)) (hz : ∀ a, Z a → a ≠ p) {xs : List V} {ds : List PyData} (h : DxAll K Z H xs ds) : DxAll K Z (upd H p o) xs ds := by
  refine dxAll_keep (fun a zs e => ?_) (fun a ob z e => ?_) h
  · rcases e with (e | ⟨ob, e⟩) | e
    · exact .inl (.inl (by rw [upd_ne (ne_of e hp (by intro z; cases z))]; exact e))
    · exact .inl (.inr ⟨ob, by rw [upd_ne (ne_of e hp (by intro z; cases z))]; exact e⟩)
    · exact .inr e
  · rw [upd_ne (hz a z)]
    exact e
theorem dx_upd {K : PySem.W.Frag} {Z : Addr → Prop} {H : Hp} {p : Addr} {ys : List V} {o : HO} (hp : H p = some (.lst ys)) (hz : ∀ a, Z a → a ≠ p) {x : V} {d : PyData} (h : Dx K Z H x d) : Dx K Z (upd H p o) x d := by
  have z := dxAll_upd (o := o) hp hz (.cons h .nil)
  cases z with
  | cons a _ => exact a
theorem kp_put {L F p : Addr} {H H2 : Hp} {o : HO} (k : Kp L F H H2) (hp : H p = none) : Kp L F H (upd H2 p o) := fun b u h1 h2 e => by
  rw [upd_ne (ne_of_none e hp)]
  exact k b u h1 h2 e
theorem lm_put {L F p : Addr} {H : Hp} {o : HO} (h : Lm H L F) (n1 : p ≠ L) (n2 : p ≠ F) : Lm (upd H p o) L F := by
  obtain ⟨fs, a, b, h1, h2, h3⟩ := h
  exact ⟨fs, a, b, by rw [upd_ne n1.symm]; exact h1, by rw [upd_ne n2.symm]; exact h2, h3⟩
/-- beside the loom's two, and two more -/
def Z4 (L F p r : Addr) : Addr → Prop := fun a => a ≠ L ∧ a ≠ F ∧ a ≠ p ∧ a ≠ r
theorem dxAll_kp4 {K : PySem.W.Frag} {L F p r : Addr} {H H' : Hp} (k : Kp L F H H') (hM : Lm H L F) {v : List V} {d : List PyData} (h : DxAll K (Z4 L F p r) H v d) : DxAll K (Z4 L F p r) H' v d :=
  dxAll_keep (fun _ _ e => k.sqT hM e) (fun _ _ z e => k _ _ z.1 z.2.1 e) h
theorem erase_perm {α : Type} {x : α} : ∀ {l : List α} {i : Nat}, l[i]? = some x → (x :: l.eraseIdx i).Perm l
  | [], i, e => by simp at e
  | y :: l, 0, e => by
    simp at e
    subst e
    exact List.Perm.refl _
  | y :: l, i + 1, e => by
    have e' : l[i]? = some x := by simpa using e
    exact (List.Perm.swap y x _).trans ((erase_perm e').cons y)
section
variable {P : Program} {w : World} {K : PySem.W.Frag} {mg : Str → Option Value} {base : Heap} {A : Nat → Addr} {D : Nat → FuncData}
def sp_mixed (K : PySem.W.Frag) : Sp := fun vs H Q _ => ∃ (L F a : Addr) (xs : List V) (ds : List PyData), vs = [.ref L, .ref a] ∧ Lm H L F ∧ (SqL K H a xs ∨ SqT K H a xs) ∧ xs.length < 1000000 ∧ DxAll K (ZL L F) H xs ds ∧
  PyData.canLayAll0 ds = true ∧ PyData.depthAll ds ≤ 60 ∧
  ∀ (H' : Hp) (p : Addr) (ys : List V) (es : List PyData), Kp L F H H' → Lm H' L F → H p = none → H' p = some (.lst ys) → p ≠ L → p ≠ F → DxAll K (ZL L F) H' ys es → es.Perm ds → Q (.ref p) H'
theorem Txt.ok_mixed (T : Txt K mg A D) : FnOk P w K mg base CX0 2 (A 8) (D 8) ["loom", "things"] (sp_mixed K) := by
  refine T.F_mixed.ok sc_mixed (fun vs H Q E h => ?_) (fun cdv Ar outer s H vs Q E hr h => ?_)
  · obtain ⟨L, F, a, xs, ds, rfl, _⟩ := h
    rfl
  · obtain ⟨L, F, a, xs, ds, rfl, hM, hS, hlen, hx, hc, hd, q⟩ := h
    refine ⟨_, (pss_cons (ps_par (i := 2) (j := 3) rfl sc_mixed.nd rfl rfl (by decide) rfl rfl (pa_cons (pe_callTy call_list_of (by rfl) T.z_list (by decide +kernel) (pa_cons (pv 1) pa_nil)) (pa_cons (pe_lst pa_nil) pa_nil)) (by rfl))
    (pss_cons (ps_while PassesOwn.never (pt_cmpR (op_neD hr.units) (pv 2) (pe_lst pa_nil) (nomark _)) (pss_one (ps_expr (pe_bm PySem.F.plainAttrs_list PySem.F.slot_list_append PySem.F.type_list_append mt_append (pv 3) (pa_cons (pe_bm PySem.F.plainAttrs_list PySem.F.slot_list_pop PySem.F.type_list_pop mt_popAt (pv 2) (pa_cons (pe_call (T.ok_draw) hr (by rfl) T.g_draw T.k_draw T.b_draw .nil pass0 (pa_cons (pv 0) (pa_cons (pe_callB call_len_seq (by rfl) T.z_len (by decide +kernel) (pa_cons (pv 2) pa_nil)) pa_nil))) pa_nil)) pa_nil)))))
    (pss_one (ps_ret (pv 3))))), ?_⟩
    refine ⟨_, rfl, a, xs, rfl, hS, fun p hp => ?_⟩
    have np := hM.ne hp
    have M1 := hM.new (o := .lst xs) hp
    refine ⟨Nat.zero_le _, fun r hr0 => ?_⟩
    have nr := M1.ne hr0
    have M2 := M1.new (o := .lst []) hr0
    have npr : p ≠ r := fun z => by
      rw [← z, upd_same] at hr0
      cases hr0
    refine ⟨_, _, rfl, ?_⟩
    have hrn : H r = none := by
      have := hr0
      rw [upd_ne npr.symm] at this
      exact this
    have big : ∀ (gs es : List PyData), (gs ++ es).Perm ds → gs.length + es.length < 1000000 := fun gs es pm => by
      have := pm.length_eq
      rw [List.length_append] at this
      have := dxAll_len hx
      omega
    refine while_by (fun σ H' => ∃ (ys zs : List V) (es gs : List PyData), σ = [some (.ref L), some (.ref a), some (.ref p), some (.ref r)] ∧ Kp L F H H' ∧ Lm H' L F ∧ H' p = some (.lst ys) ∧ H' r = some (.lst zs) ∧
        DxAll K (Z4 L F p r) H' ys es ∧ DxAll K (Z4 L F p r) H' zs gs ∧ (gs ++ es).Perm ds) (fun σ H' => match H' p with | some (.lst ys) => ys.length | _ => 0) ?_ ?_ ?_
    · refine ⟨xs, [], ds, [], rfl, (Kp.new hp).trans (Kp.new hr0), M2, ?_, upd_same, ?_, .nil, List.Perm.refl _⟩
      · rw [upd_ne npr]
        exact upd_same
      · refine dxAll_same ((same_new hp).trans (same_new hr0)) (dxAll_mono (fun b o e z => ⟨z.1, z.2, ?_, ?_⟩) hx)
        · exact ne_of_none e hp
        · exact ne_of_none e hrn
    · rintro σ H2 ⟨ys, zs, es, gs, rfl, kp2, hM2, hp2, hr2, dy, dz, pm⟩
      refine ⟨_, rfl, Nat.zero_le _, fun t ht => ?_⟩
      have sm := same_new (o := .lst []) ht
      have dy2 := dxAll_same sm dy
      have dz2 := dxAll_same sm dz
      have hp3 := sm _ _ hp2
      have hr3 := sm _ _ hr2
      have hM3 := hM2.same sm
      have kp3 := kp2.trans (kp_same sm)
      have cl : PyData.canLayAll0 es = true := canLayAll_mem.mpr fun d hd' => canLayAll_mem.mp hc d (pm.subset (List.mem_append_right _ hd'))
      have de : PyData.depthAll es ≤ 60 := depthAll_mem.mpr fun d hd' => depthAll_mem.mp hd d (pm.subset (List.mem_append_right _ hd'))
      have nd := PyData.hasDictAll_of_canLayAll es cl
      refine ⟨_, _, .lst (.inl (.inl hp3)) (dpAll_of_dx dy2 nd), .lst (xs := []) (.inl (.inl upd_same)) .nil, shapedL cl de, by decide, _, rfl, ite2 (fun e => ?_) (fun e => ?_)⟩
      · rw [eqvx_nil] at e
        have epos : 0 < ys.length := by
          rw [dxAll_len dy]
          cases es with
          | nil => exact absurd e (by decide)
          | cons _ _ => exact Nat.zero_lt_succ _
        have lens := big gs es pm
        have ly := dxAll_len dy
        have lz := dxAll_len dz
        refine ⟨_, rfl, .inl ⟨rfl, _, SqL.of hr3⟩, _, rfl, .inl ⟨rfl, _, SqL.of hp3⟩, _, rfl, _, rfl, p, ys, rfl, .inl (SqL.of hp3), L, F, _, rfl, hM3, by omega, fun H4 k kp4 hM4 k0 kl => ?_⟩
        have kn : k.toNat < ys.length := by omega
        have hp4 := kp4 _ _ np.1 np.2 hp3
        have hr4 := kp4 _ _ nr.1 nr.2 hr3
        have dy4 := dxAll_kp4 kp4 hM3 dy2
        have dz4 := dxAll_kp4 kp4 hM3 dz2
        have hy : ys[k.toNat]? = some ys[k.toNat] := List.getElem?_eq_getElem kn
        obtain ⟨d, hd4, dxd⟩ := dxAll_get dy4 hy
        refine ⟨p, ys, k, k.toNat, ys[k.toNat], rfl, rfl, hp4, by omega, by omega, ?_, hy, ?_⟩
        · exact seqIndex_of k0 (by omega)
        have hr5 : (upd H4 p (.lst (ys.eraseIdx k.toNat))) r = some (.lst zs) := by
          rw [upd_ne npr.symm]
          exact hr4
        refine ⟨r, zs, _, rfl, rfl, hr5, Nat.lt_of_lt_of_le (show zs.length < 1000000 by omega) (by decide), ?_⟩
        have zp : ∀ b, Z4 L F p r b → b ≠ p := fun b z => z.2.2.1
        have zr : ∀ b, Z4 L F p r b → b ≠ r := fun b z => z.2.2.2
        refine ⟨⟨ys.eraseIdx k.toNat, zs ++ [ys[k.toNat]], es.eraseIdx k.toNat, gs ++ [d], rfl, kp_put (kp_put (kp3.trans kp4) hp) hrn, lm_put (lm_put hM4 np.1 np.2) nr.1 nr.2, ?_, upd_same, ?_, ?_, ?_⟩, ?_⟩
        · rw [upd_ne npr]
          exact upd_same
        · exact dxAll_upd hr5 zr (dxAll_upd hp4 zp (dxAll_erase _ dy4))
        · refine dxAll_upd hr5 zr (dxAll_upd hp4 zp ?_)
          exact dxAll_app dz4 (.cons dxd .nil)
        · have z := (List.Perm.append_left gs (erase_perm hd4)).trans pm
          rw [List.append_assoc]
          exact z
        · show (match (upd (upd H4 p (.lst (ys.eraseIdx k.toNat))) r (.lst (zs ++ [ys[k.toNat]]))) p with | some (.lst ys) => ys.length | _ => 0) < (match H2 p with | some (.lst ys) => ys.length | _ => 0)
          rw [hp2, upd_ne npr, upd_same]
          show (ys.eraseIdx k.toNat).length < ys.length
          rw [List.length_eraseIdx_of_lt kn]
          omega
      · rw [eqvx_nil] at e
        have en : es = [] := by
          cases es with
          | nil => rfl
          | cons _ _ => exact absurd rfl e
        subst en
        rw [List.append_nil] at pm
        refine ⟨_, rfl, q _ r zs gs kp3 hM3 hrn hr3 nr.1 nr.2 (dxAll_mono (fun b o _ z => ⟨z.1, z.2.1⟩) dz2) pm⟩
    · intro σ H' Q1 Q2 k h
      obtain ⟨v, h1, h2, h3⟩ := h
      refine ⟨v, h1, h2, fun p hp => ?_⟩
      obtain ⟨d, e, a1, a2, a3, a4, c, a5, a6⟩ := h3 p hp
      exact ⟨d, e, a1, a2, a3, a4, c, a5, k _ _ a6⟩
end
end Ev

set_option exponentiation.threshold 10000
namespace Ev
open PySem PySem.Spec PyProof.Rows L2
section
variable {P : Program} {w : World} {K : PySem.W.Frag} {mg : Str → Option Value} {base : Heap} {A : Nat → Addr} {D : Nat → FuncData}
/-! ### values of all kinds, as data -/
theorem upd_two {H : Hp} {p : Addr} {a b : HO} : upd (upd H p a) p b = upd H p b := by
  funext c
  by_cases h : c = p
  · rw [h, upd_same, upd_same]
  · rw [upd_ne h, upd_ne h, upd_ne h]
theorem al_eq {L F p : Addr} {H G : Hp} {ob : HO} (hG : upd H p ob = G) (hM : Lm H L F) (hp : H p = none) :
    Lm G L F ∧ Kp L F H G ∧ G p = some ob ∧ p ≠ L ∧ p ≠ F := by
  subst hG
  exact ⟨hM.new hp, Kp.new hp, upd_same, hM.ne hp⟩
def sp_odd (K : PySem.W.Frag) : Sp := fun vs H Q _ => ∃ (L F : Addr), vs = [.ref L] ∧ Lm H L F ∧
  ∀ (H' : Hp) (x : V) (d : PyData), Kp L F H H' → Lm H' L F → Dx K (ZN L F H) H' x d → Dt 20 3 d → (∀ x y z, d ≠ .tuple [x, y, z]) → Q x H'
theorem Txt.ok_odd (T : Txt K mg A D) : FnOk P w K mg base CX0 3 (A 9) (D 9) ["loom"] (sp_odd K) := by
  refine T.F_odd.ok sc_odd (fun vs H Q E h => ?_) (fun cdv Ar outer s H vs Q E hr h => ?_)
  · obtain ⟨L, F, rfl, _⟩ := h
    rfl
  · obtain ⟨L, F, rfl, hM, q⟩ := h
    have hu := hu_of hr
    refine ⟨_, (pss_cons (ps_set (i := 1) sc_odd.nd rfl (Or.inl rfl) (pe_lst (pa_cons pe_non (pa_cons pe_bl (pa_cons pe_bl (pa_cons pe_int (pa_cons pe_int (pa_cons (pe_un un_neg pe_int) (pa_cons pe_int (pa_cons (pe_op op_pow pe_int pe_int) (pa_cons pe_str (pa_cons pe_str (pa_cons pe_str (pa_cons pe_str (pa_cons (pe_tup pa_nil) (pa_cons (pe_lst pa_nil) (pa_cons pe_dnewK (pa_cons (pe_tup (pa_cons pe_int pa_nil)) (pa_cons (pe_lst (pa_cons pe_int pa_nil)) (pa_cons (pe_tup (pa_cons pe_int (pa_cons pe_int pa_nil))) (pa_cons (pe_lst (pa_cons (pe_tup (pa_cons pe_int (pa_cons pe_int pa_nil))) pa_nil)) pa_nil)))))))))))))))))))))
    (pss_one (ps_ret (pe_call (T.ok_pick) hr (by rfl) T.g_pick T.k_pick T.b_pick .nil pass0 (pa_cons (pv 0) (pa_cons (pe_op op_cat (pv 1) (pe_lst (pa_cons (pe_disp (pps_cons pe_str pe_int pps_nil) (by rfl) (by rfl) (fun z => by cases z) (by decide)) (pa_cons (pe_tup (pa_cons pe_non (pa_cons pe_non pa_nil))) (pa_cons (pe_tup (pa_cons pe_str pa_nil)) (pa_cons (pe_tup (pa_cons (pe_tup pa_nil) pa_nil)) (pa_cons (pe_tup (pa_cons pe_str (pa_cons (pe_tup pa_nil) pa_nil))) (pa_cons pe_str (pa_cons (pe_tup (pa_cons pe_str (pa_cons pe_int pa_nil))) pa_nil))))))))) pa_nil)))))), ?_⟩
    have z : ∀ n : Nat, n ≤ 100 → n ≤ sizeLine := fun n h => Nat.le_trans h (by decide)
    refine ⟨_, rfl, _, _, rfl, rfl, ⟨by decide, by decide, by decide⟩, ?_⟩
    refine ⟨z 0 (by decide), fun p1 h1 => ?_⟩
    generalize g1 : upd H p1 (HO.tup []) = G1
    obtain ⟨M1, j1, e1, l1, f1⟩ := al_eq g1 hM h1
    clear g1
    refine ⟨z 0 (by decide), fun p2 h2 => ?_⟩
    generalize g2 : upd G1 p2 (HO.lst []) = G2
    obtain ⟨M2, j2, e2, l2, f2⟩ := al_eq g2 M1 h2
    clear g2
    intro p3 h3
    generalize g3 : upd G2 p3 (HO.dK []) = G3
    obtain ⟨M3, j3, e3, l3, f3⟩ := al_eq g3 M2 h3
    clear g3
    refine ⟨z 1 (by decide), fun p4 h4 => ?_⟩
    generalize g4 : upd G3 p4 (HO.tup [.int 0]) = G4
    obtain ⟨M4, j4, e4, l4, f4⟩ := al_eq g4 M3 h4
    clear g4
    refine ⟨z 1 (by decide), fun p5 h5 => ?_⟩
    generalize g5 : upd G4 p5 (HO.lst [.int 1]) = G5
    obtain ⟨M5, j5, e5, l5, f5⟩ := al_eq g5 M4 h5
    clear g5
    refine ⟨z 2 (by decide), fun p6 h6 => ?_⟩
    generalize g6 : upd G5 p6 (HO.tup [.int 1, .int 2]) = G6
    obtain ⟨M6, j6, e6, l6, f6⟩ := al_eq g6 M5 h6
    clear g6
    refine ⟨z 2 (by decide), fun p7 h7 => ?_⟩
    generalize g7 : upd G6 p7 (HO.tup [.int 1, .int 2]) = G7
    obtain ⟨M7, j7, e7, l7, f7⟩ := al_eq g7 M6 h7
    clear g7
    refine ⟨z 1 (by decide), fun p8 h8 => ?_⟩
    generalize g8 : upd G7 p8 (HO.lst [.ref p7]) = G8
    obtain ⟨M8, j8, e8, l8, f8⟩ := al_eq g8 M7 h8
    clear g8
    refine ⟨z 19 (by decide), fun p9 h9 => ?_⟩
    generalize g9 : upd G8 p9 (HO.lst [.non, .bl true, .bl false, .int 0, .int 1, .int (-1), .int 2, .int (10 ^ (40 : Int).toNat), .str "", .str "a", .str "die", .str "till", .ref p1, .ref p2, .ref p3, .ref p4, .ref p5, .ref p6, .ref p8]) = G9
    obtain ⟨M9, j9, e9, l9, f9⟩ := al_eq g9 M8 h9
    clear g9
    refine ⟨_, rfl, _, rfl, ?_⟩
    intro p10 h10
    refine ⟨upd_same, [(Sum.inr "a", .int 1)], rfl, (by show 1 ≤ 15; decide), ?_⟩
    rw [upd_two]
    generalize g10 : upd G9 p10 (HO.dK (mergeK [] [(Sum.inr "a", .int 1)])) = G10
    obtain ⟨M10, j10, e10, l10, f10⟩ := al_eq g10 M9 h10
    clear g10
    refine ⟨z 2 (by decide), fun p11 h11 => ?_⟩
    generalize g11 : upd G10 p11 (HO.tup [.non, .non]) = G11
    obtain ⟨M11, j11, e11, l11, f11⟩ := al_eq g11 M10 h11
    clear g11
    refine ⟨z 1 (by decide), fun p12 h12 => ?_⟩
    generalize g12 : upd G11 p12 (HO.tup [.str "die"]) = G12
    obtain ⟨M12, j12, e12, l12, f12⟩ := al_eq g12 M11 h12
    clear g12
    refine ⟨z 0 (by decide), fun p13 h13 => ?_⟩
    generalize g13 : upd G12 p13 (HO.tup []) = G13
    obtain ⟨M13, j13, e13, l13, f13⟩ := al_eq g13 M12 h13
    clear g13
    refine ⟨z 1 (by decide), fun p14 h14 => ?_⟩
    generalize g14 : upd G13 p14 (HO.tup [.ref p13]) = G14
    obtain ⟨M14, j14, e14, l14, f14⟩ := al_eq g14 M13 h14
    clear g14
    refine ⟨z 0 (by decide), fun p15 h15 => ?_⟩
    generalize g15 : upd G14 p15 (HO.tup []) = G15
    obtain ⟨M15, j15, e15, l15, f15⟩ := al_eq g15 M14 h15
    clear g15
    refine ⟨z 2 (by decide), fun p16 h16 => ?_⟩
    generalize g16 : upd G15 p16 (HO.tup [.str "x", .ref p15]) = G16
    obtain ⟨M16, j16, e16, l16, f16⟩ := al_eq g16 M15 h16
    clear g16
    refine ⟨z 2 (by decide), fun p17 h17 => ?_⟩
    generalize g17 : upd G16 p17 (HO.tup [.str "less", .int 0]) = G17
    obtain ⟨M17, j17, e17, l17, f17⟩ := al_eq g17 M16 h17
    clear g17
    refine ⟨z 7 (by decide), fun p18 h18 => ?_⟩
    generalize g18 : upd G17 p18 (HO.lst [.ref p10, .ref p11, .ref p12, .ref p14, .ref p16, .str "x: skip", .ref p17]) = G18
    obtain ⟨M18, j18, e18, l18, f18⟩ := al_eq g18 M17 h18
    clear g18
    have e9' := (j10.trans (j11.trans (j12.trans (j13.trans (j14.trans (j15.trans (j16.trans (j17.trans j18)))))))) p9 _ l9 f9 e9
    refine ⟨p9, p18, _, _, rfl, rfl, e9', e18, (by show 26 ≤ sizeLine; decide), fun p19 h19 => ?_⟩
    generalize g19 : upd G18 p19 (HO.lst ([.non, .bl true, .bl false, .int 0, .int 1, .int (-1), .int 2, .int (10 ^ (40 : Int).toNat), .str "", .str "a", .str "die", .str "till", .ref p1, .ref p2, .ref p3, .ref p4, .ref p5, .ref p6, .ref p8] ++ [.ref p10, .ref p11, .ref p12, .ref p14, .ref p16, .str "x: skip", .ref p17])) = G19
    obtain ⟨M19, j19, e19, l19, f19⟩ := al_eq g19 M18 h19
    have kk18 := j19
    have kk17 := j18.trans kk18
    have kk16 := j17.trans kk17
    have kk15 := j16.trans kk16
    have kk14 := j15.trans kk15
    have kk13 := j14.trans kk14
    have kk12 := j13.trans kk13
    have kk11 := j12.trans kk12
    have kk10 := j11.trans kk11
    have kk9 := j10.trans kk10
    have kk8 := j9.trans kk9
    have kk7 := j8.trans kk8
    have kk6 := j7.trans kk7
    have kk5 := j6.trans kk6
    have kk4 := j5.trans kk5
    have kk3 := j4.trans kk4
    have kk2 := j3.trans kk3
    have kk1 := j2.trans kk2
    have kk0 : Kp L F H G19 := j1.trans kk1
    have q1 := kk1 p1 _ l1 f1 e1
    have q2 := kk2 p2 _ l2 f2 e2
    have q3 := kk3 p3 _ l3 f3 e3
    have q4 := kk4 p4 _ l4 f4 e4
    have q5 := kk5 p5 _ l5 f5 e5
    have q6 := kk6 p6 _ l6 f6 e6
    have q7 := kk7 p7 _ l7 f7 e7
    have q8 := kk8 p8 _ l8 f8 e8
    have q10 := kk10 p10 _ l10 f10 e10
    have q11 := kk11 p11 _ l11 f11 e11
    have q12 := kk12 p12 _ l12 f12 e12
    have q13 := kk13 p13 _ l13 f13 e13
    have q14 := kk14 p14 _ l14 f14 e14
    have q15 := kk15 p15 _ l15 f15 e15
    have q16 := kk16 p16 _ l16 f16 e16
    have q17 := kk17 p17 _ l17 f17 e17
    refine ⟨L, F, p19, _, rfl, M19, SqL.of e19, l19, f19, (by show 0 < 26; decide), (by show 26 < 1073741824; decide), fun H2 i x kp hM2 hx => ?_⟩
    have main : ∃ d, Dx K (ZN L F H) G19 x d ∧ Dt 20 3 d ∧ (∀ x y z, d ≠ .tuple [x, y, z]) := by
      have hx' := List.mem_of_getElem? hx
      simp only [List.cons_append, List.nil_append, List.mem_cons, List.not_mem_nil, or_false] at hx'
      have i2 : ∀ (a b : Int), DxAll K (ZN L F H) G19 [.int a, .int b] [.int a, .int b] := fun a b => .cons (.int _) (.cons (.int _) .nil)
      rcases hx' with rfl | rfl | rfl | rfl | rfl | rfl | rfl | rfl | rfl | rfl | rfl | rfl | rfl | rfl | rfl | rfl | rfl | rfl | rfl | rfl | rfl | rfl | rfl | rfl | rfl | rfl
      · exact ⟨_, .non, ⟨by decide +kernel, by decide +kernel, by decide +kernel⟩, by intro x y z hxy; cases hxy⟩
      · exact ⟨_, .bl _, ⟨by decide +kernel, by decide +kernel, by decide +kernel⟩, by intro x y z hxy; cases hxy⟩
      · exact ⟨_, .bl _, ⟨by decide +kernel, by decide +kernel, by decide +kernel⟩, by intro x y z hxy; cases hxy⟩
      · exact ⟨_, .int _, ⟨by decide +kernel, by decide +kernel, by decide +kernel⟩, by intro x y z hxy; cases hxy⟩
      · exact ⟨_, .int _, ⟨by decide +kernel, by decide +kernel, by decide +kernel⟩, by intro x y z hxy; cases hxy⟩
      · exact ⟨_, .int _, ⟨by decide +kernel, by decide +kernel, by decide +kernel⟩, by intro x y z hxy; cases hxy⟩
      · exact ⟨_, .int _, ⟨by decide +kernel, by decide +kernel, by decide +kernel⟩, by intro x y z hxy; cases hxy⟩
      · exact ⟨_, .int _, ⟨by decide +kernel, by decide +kernel, by decide +kernel⟩, by intro x y z hxy; cases hxy⟩
      · exact ⟨_, .str _, ⟨by decide +kernel, by decide +kernel, by decide +kernel⟩, by intro x y z hxy; cases hxy⟩
      · exact ⟨_, .str _, ⟨by decide +kernel, by decide +kernel, by decide +kernel⟩, by intro x y z hxy; cases hxy⟩
      · exact ⟨_, .str _, ⟨by decide +kernel, by decide +kernel, by decide +kernel⟩, by intro x y z hxy; cases hxy⟩
      · exact ⟨_, .str _, ⟨by decide +kernel, by decide +kernel, by decide +kernel⟩, by intro x y z hxy; cases hxy⟩
      · exact ⟨_, .tup (SqT.of q1) .nil, ⟨by decide +kernel, by decide +kernel, by decide +kernel⟩, by intro x y z hxy; cases hxy⟩
      · exact ⟨_, .lst q2 ⟨l2, f2, none_back j1 h2 l2 f2⟩ .nil, ⟨by decide +kernel, by decide +kernel, by decide +kernel⟩, by intro x y z hxy; cases hxy⟩
      · exact ⟨_, .dct q3 ⟨l3, f3, none_back (j1.trans j2) h3 l3 f3⟩ .nil, ⟨by decide +kernel, by decide +kernel, by decide +kernel⟩, by intro x y z hxy; cases hxy⟩
      · exact ⟨_, .tup (SqT.of q4) (.cons (.int _) .nil), ⟨by decide +kernel, by decide +kernel, by decide +kernel⟩, by intro x y z hxy; cases hxy⟩
      · exact ⟨_, .lst q5 ⟨l5, f5, none_back (((j1.trans j2).trans j3).trans j4) h5 l5 f5⟩ (.cons (.int _) .nil), ⟨by decide +kernel, by decide +kernel, by decide +kernel⟩, by intro x y z hxy; cases hxy⟩
      · exact ⟨_, .tup (SqT.of q6) (i2 _ _), ⟨by decide +kernel, by decide +kernel, by decide +kernel⟩, by intro x y z hxy; cases hxy⟩
      · exact ⟨_, .lst q8 ⟨l8, f8, none_back ((((((j1.trans j2).trans j3).trans j4).trans j5).trans j6).trans j7) h8 l8 f8⟩ (.cons (.tup (SqT.of q7) (i2 _ _)) .nil), ⟨by decide +kernel, by decide +kernel, by decide +kernel⟩, by intro x y z hxy; cases hxy⟩
      · exact ⟨_, .dct q10 ⟨l10, f10, none_back ((((((((j1.trans j2).trans j3).trans j4).trans j5).trans j6).trans j7).trans j8).trans j9) h10 l10 f10⟩ (.cons (.int _) .nil), ⟨by decide +kernel, by decide +kernel, by decide +kernel⟩, by intro x y z hxy; cases hxy⟩
      · exact ⟨_, .tup (SqT.of q11) (.cons .non (.cons .non .nil)), ⟨by decide +kernel, by decide +kernel, by decide +kernel⟩, by intro x y z hxy; cases hxy⟩
      · exact ⟨_, .tup (SqT.of q12) (.cons (.str _) .nil), ⟨by decide +kernel, by decide +kernel, by decide +kernel⟩, by intro x y z hxy; cases hxy⟩
      · exact ⟨_, .tup (SqT.of q14) (.cons (.tup (SqT.of q13) .nil) .nil), ⟨by decide +kernel, by decide +kernel, by decide +kernel⟩, by intro x y z hxy; cases hxy⟩
      · exact ⟨_, .tup (SqT.of q16) (.cons (.str _) (.cons (.tup (SqT.of q15) .nil) .nil)), ⟨by decide +kernel, by decide +kernel, by decide +kernel⟩, by intro x y z hxy; cases hxy⟩
      · exact ⟨_, .str _, ⟨by decide +kernel, by decide +kernel, by decide +kernel⟩, by intro x y z hxy; cases hxy⟩
      · exact ⟨_, .tup (SqT.of q17) (.cons (.str _) (.cons (.int _) .nil)), ⟨by decide +kernel, by decide +kernel, by decide +kernel⟩, by intro x y z hxy; cases hxy⟩
    obtain ⟨d, hd, dt, wk⟩ := main
    exact q H2 x d (kk0.trans kp) hM2 (dx_kpn kp M19 hd) dt wk
end
end Ev

set_option exponentiation.threshold 10000
namespace Ev
open PySem PySem.Spec PyProof.Rows L2 SX
def wholeD (d : PyData) (lo hi : Int) : Bool :=
  match d with
  | .int i => decide (lo ≤ i) && decide (i ≤ hi)
  | _ => false
theorem int_of {d : PyData} (a : isInt d = true) (b : isBool d = false) : ∃ i, d = .int i := by
  cases d <;> first | exact ⟨_, rfl⟩ | (cases a; done) | (cases b; done)
theorem whole_no {d : PyData} (lo hi : Int) (h : isInt d = false ∨ isBool d = true) : wholeD d lo hi = false := by
  cases d <;> first | rfl | (rcases h with h | h <;> cases h)
theorem tup_of {d : PyData} (a : isTup d = true) : ∃ ds, d = .tuple ds := by
  cases d <;> first | exact ⟨_, rfl⟩ | (cases a; done)
theorem bfalse {b : Bool} (h : ¬ b = true) : b = false := by cases b <;> simp_all
def intD : PyData → Bool
  | .int _ => true
  | _ => false
theorem intD_eq (d : PyData) : intD d = (isInt d && !isBool d) := by cases d <;> rfl
theorem intD_of {d : PyData} (h : intD d = true) : ∃ i, d = .int i := by
  cases d <;> first | exact ⟨_, rfl⟩ | cases h
theorem whole_intD {d : PyData} (lo hi : Int) (h : intD d = false) : wholeD d lo hi = false := by
  cases d <;> first | rfl | cases h
theorem nb {b : Bool} (e : (!b) = true) : b = false := by cases b <;> simp_all
theorem bt {b : Bool} (e : ¬ (!b) = true) : b = true := by cases b <;> simp_all
def firstN (p : Nat → Bool) : Nat → Nat → Option Nat
  | _, 0 => none
  | k, n + 1 => if p k = true then some k else firstN p (k + 1) n
theorem first_some {p : Nat → Bool} : ∀ (n k i : Nat), (∀ j, k ≤ j → j < i → p j = false) → k ≤ i → i < k + n → p i = true → firstN p k n = some i
  | 0, k, i, _, h1, h2, _ => by omega
  | n + 1, k, i, h, h1, h2, hp => by
    unfold firstN
    by_cases e : k = i
    · subst e
      rw [if_pos hp]
    · rw [if_neg (by rw [h k (Nat.le_refl _) (by omega)]; exact Bool.false_ne_true)]
      exact first_some n (k + 1) i (fun j a b => h j (by omega) b) (by omega) (by omega) hp
theorem first_none {p : Nat → Bool} : ∀ (n k : Nat), (∀ j, k ≤ j → j < k + n → p j = false) → firstN p k n = none
  | 0, k, _ => rfl
  | n + 1, k, h => by
    unfold firstN
    rw [if_neg (by rw [h k (Nat.le_refl _) (by omega)]; exact Bool.false_ne_true)]
    exact first_none n (k + 1) fun j a b => h j (by omega) (by omega)
/-- signs as a text may hold them -/
def Ch (t : List Nat) : Prop := ∀ c ∈ t, c < 1114112
def strD (l : List Nat) : List PyData := l.map fun c => .str (S [c])
theorem dpAll_str {K : PySem.W.Frag} {H : Hp} : ∀ l : List Nat, DpAll K H (l.map fun c => V.str (S [c])) (strD l)
  | [] => .nil
  | c :: l => .cons (.str _) (dpAll_str l)
theorem canLay_str {l : List Nat} (h : Ch l) : PyData.canLayAll0 (strD l) = true := by
  induction l with
  | nil => rfl
  | cons c l ih =>
    have e : PyData.canLayAll0 (strD (c :: l)) = (PyData.canLay0 (.str (S [c])) && PyData.canLayAll0 (strD l)) := by
      simp only [strD, List.map_cons, PyData.canLayAll0]
    rw [e, ih fun x hx => h x (List.mem_cons_of_mem _ hx), Bool.and_true]
    have : c < 1114112 := h c (List.mem_cons_self ..)
    simp only [PyData.canLay0]
    show (S [c]).cps.all (· < 0x110000) = true
    rw [← Array.all_toList]
    show (decide (c < 0x110000) && true) = true
    rw [Bool.and_true]
    exact decide_eq_true this
theorem depth_str (l : List Nat) : PyData.depthAll (strD l) = 0 := by
  induction l with
  | nil => rfl
  | cons c l ih =>
    show max (PyData.depth (.str (S [c]))) (PyData.depthAll (strD l)) = 0
    rw [ih]
    rfl
theorem shaped_str {l : List Nat} (h : Ch l) : SeqAt.shaped (.list (strD l)) = true := by
  simp only [SeqAt.shaped, PyData.canLay0, canLay_str h, PyData.depth, depth_str]
  decide
theorem eqv_str_nil (l : List Nat) : PyData.eqv (.list (strD l)) (.list []) = l.isEmpty := by
  cases l with
  | nil => rfl
  | cons c l => simp [PyData.eqv, PyData.eqvAll, strD]
/-! ### names -/
def wordsL : List Str := ["as", "by", "die", "do", "either", "else", "if", "loop", "or", "program", "seen", "skip", "till", "while"]
def wordsV : List V := wordsL.map V.str
def lowC (c : Nat) : Bool := decide (97 ≤ c) && decide (c ≤ 122)
def nameS (z : Str) : Bool := decide (1 ≤ z.length) && decide (z.length ≤ 8) && !inV (.str z) wordsV && z.cps.toList.all lowC
def nameD : PyData → Bool
  | .str z => nameS z
  | _ => false
def shortD : PyData → Prop
  | .str z => z.length ≤ 10000 ∧ Ch z.cps.toList
  | _ => True
theorem name_str {d : PyData} (h : isStr d = false) : nameD d = false := by
  cases d <;> first | rfl | cases h
theorem str_of {d : PyData} (h : isStr d = true) : ∃ z, d = .str z := by
  cases d <;> first | exact ⟨_, rfl⟩ | (cases h; done)
theorem letters_c (c : Nat) : decide (c ∈ (Str.ofString "abcdefghijklmnopqrstuvwxyz").cps.toList) = lowC c := by
  have e : (Str.ofString "abcdefghijklmnopqrstuvwxyz").cps.toList = (List.range 26).map (97 + ·) := by decide +kernel
  rw [e]
  by_cases h : 97 ≤ c ∧ c ≤ 122
  · have : c ∈ (List.range 26).map (97 + ·) := List.mem_map.mpr ⟨c - 97, List.mem_range.mpr (by omega), by omega⟩
    rw [decide_eq_true this]
    unfold lowC
    rw [decide_eq_true h.1, decide_eq_true h.2]
    rfl
  · have n : ¬ c ∈ (List.range 26).map (97 + ·) := fun z => by
      obtain ⟨j, hj, rfl⟩ := List.mem_map.mp z
      have := List.mem_range.mp hj
      omega
    rw [decide_eq_false n]
    unfold lowC
    by_cases h1 : 97 ≤ c
    · rw [decide_eq_true h1, decide_eq_false (fun z => h ⟨h1, z⟩)]
      rfl
    · rw [decide_eq_false h1]
      rfl
theorem lt_one (a c : Nat) : decide (([a] : List Nat) < [c]) = decide (a < c) := by
  by_cases h : a < c
  · rw [decide_eq_true h]
    exact decide_eq_true (List.Lex.rel h)
  · rw [decide_eq_false h]
    refine decide_eq_false fun z => ?_
    cases z with
    | rel r => exact h r
    | cons r => cases r
section
variable {P : Program} {w : World} {K : PySem.W.Frag} {mg : Str → Option Value} {base : Heap} {A : Nat → Addr} {D : Nat → FuncData}
def sp_is_whole (K : PySem.W.Frag) : Sp := fun vs H Q _ => ∃ (Z : Addr → Prop) (v : V) (d : PyData) (lo hi : Int), vs = [v, .int lo, .int hi] ∧ Dx K Z H v d ∧ Q (.bl (wholeD d lo hi)) H
theorem Txt.ok_is_whole (T : Txt K mg A D) : FnOk P w K mg base CX0 1 (A 10) (D 10) ["value", "low", "high"] (sp_is_whole K) := by
  refine T.F_is_whole.ok sc_is_whole (fun vs H Q E h => ?_) (fun cdv Ar outer s H vs Q E hr h => ?_)
  · obtain ⟨Z, v, d, lo, hi, rfl, _⟩ := h
    rfl
  · obtain ⟨Z, v, d, lo, hi, rfl, hd, q⟩ := h
    refine ⟨_, (pss_one (ps_ret (pe_and (pe_callB call_isi (by rfl) T.z_isinstance (by decide +kernel) (pa_cons (pv 0) (pa_cons (pe_bltn (v := .ty "int") (by rfl) T.z_int (by decide +kernel) rfl) pa_nil))) (pe_and (pe_not (pe_callB call_isi (by rfl) T.z_isinstance (by decide +kernel) (pa_cons (pv 0) (pa_cons (pe_bltn (v := .ty "bool") (by rfl) T.z_bool (by decide +kernel) rfl) pa_nil)))) (pe_one (pe_chain op_le op_le (pv 1) (pv 0) (pv 2))))))), ?_⟩
    refine ⟨_, rfl, _, _, _, _, isInt d, rfl, .ty "int", dx_ty hd, kit_int d, _, rfl, ite2 (fun e1 => ?_) (fun e1 => ?_)⟩
    · refine ⟨_, rfl, _, _, _, _, isBool d, rfl, .ty "bool", dx_ty hd, kit_bool d, _, rfl, _, rfl, ite2 (fun e2 => ?_) (fun e2 => ?_)⟩
      · have nb : isBool d = false := by
          cases z : isBool d with
          | false => rfl
          | true => rw [z] at e2; exact absurd e2 (by decide)
        obtain ⟨i, rfl⟩ := int_of e1 nb
        have ev := dx_int hd
        subst ev
        refine ⟨_, rfl, _, rfl, _, _, rfl, rfl, _, rfl, ite2 (fun e3 => ?_) (fun e3 => ?_)⟩
        · refine ⟨_, rfl, _, _, rfl, rfl, ?_⟩
          have z : wholeD (.int i) lo hi = decide (i ≤ hi) := by
            show (decide (lo ≤ i) && decide (i ≤ hi)) = _
            rw [e3, Bool.true_and]
          rw [z] at q
          exact q
        · have z : wholeD (.int i) lo hi = false := by
            show (decide (lo ≤ i) && decide (i ≤ hi)) = _
            rw [bfalse e3, Bool.false_and]
          rw [z] at q
          exact q
      · have yb : isBool d = true := by
          cases z : isBool d with
          | true => rfl
          | false => rw [z] at e2; exact absurd rfl e2
        rw [whole_no lo hi (.inr yb)] at q
        exact q
    · rw [whole_no lo hi (.inl (bfalse e1))] at q
      exact q
def sp_is_integer (K : PySem.W.Frag) : Sp := fun vs H Q _ => ∃ (Z : Addr → Prop) (v : V) (d : PyData), vs = [v] ∧ Dx K Z H v d ∧ Q (.bl (intD d)) H
theorem Txt.ok_is_integer (T : Txt K mg A D) : FnOk P w K mg base CX0 1 (A 1) (D 1) ["value"] (sp_is_integer K) := by
  refine T.F_is_integer.ok sc_is_integer (fun vs H Q E h => ?_) (fun cdv Ar outer s H vs Q E hr h => ?_)
  · obtain ⟨Z, v, d, rfl, _⟩ := h
    rfl
  · obtain ⟨Z, v, d, rfl, hd, q⟩ := h
    refine ⟨_, (pss_one (ps_ret (pe_and (pe_callB call_isi (by rfl) T.z_isinstance (by decide +kernel) (pa_cons (pv 0) (pa_cons (pe_bltn (v := .ty "int") (by rfl) T.z_int (by decide +kernel) rfl) pa_nil))) (pe_one (pe_not (pe_callB call_isi (by rfl) T.z_isinstance (by decide +kernel) (pa_cons (pv 0) (pa_cons (pe_bltn (v := .ty "bool") (by rfl) T.z_bool (by decide +kernel) rfl) pa_nil)))))))), ?_⟩
    rw [intD_eq] at q
    refine ⟨_, rfl, _, _, _, _, isInt d, rfl, .ty "int", dx_ty hd, kit_int d, _, rfl, ite2 (fun e1 => ?_) (fun e1 => ?_)⟩
    · refine ⟨_, rfl, _, _, _, _, isBool d, rfl, .ty "bool", dx_ty hd, kit_bool d, _, rfl, ?_⟩
      rw [e1, Bool.true_and] at q
      exact q
    · rw [bfalse e1, Bool.false_and] at q
      exact q
def sp_is_within (K : PySem.W.Frag) : Sp := fun vs H Q _ => ∃ (Z : Addr → Prop) (v : V) (d : PyData) (lo hi : Int), vs = [v, .int lo, .int hi] ∧ Dx K Z H v d ∧ Q (.bl (wholeD d lo hi)) H
theorem Txt.ok_is_within (T : Txt K mg A D) : FnOk P w K mg base CX0 2 (A 2) (D 2) ["value", "least", "most"] (sp_is_within K) := by
  refine T.F_is_within.ok sc_is_within (fun vs H Q E h => ?_) (fun cdv Ar outer s H vs Q E hr h => ?_)
  · obtain ⟨Z, v, d, lo, hi, rfl, _⟩ := h
    rfl
  · obtain ⟨Z, v, d, lo, hi, rfl, hd, q⟩ := h
    refine ⟨_, (pss_one (ps_ret (pe_and (pe_call (T.ok_is_integer) hr (by rfl) T.g_is_integer T.k_is_integer T.b_is_integer .nil pass0 (pa_cons (pv 0) pa_nil)) (pe_one (pe_chain op_le op_le (pv 1) (pv 0) (pv 2)))))), ?_⟩
    refine ⟨_, rfl, Z, v, d, rfl, hd, _, rfl, ite2 (fun e1 => ?_) (fun e1 => ?_)⟩
    · obtain ⟨i, rfl⟩ := intD_of e1
      have ev := dx_int hd
      subst ev
      refine ⟨_, rfl, _, rfl, _, _, rfl, rfl, _, rfl, ite2 (fun e3 => ?_) (fun e3 => ?_)⟩
      · refine ⟨_, rfl, _, _, rfl, rfl, ?_⟩
        have z : wholeD (.int i) lo hi = decide (i ≤ hi) := by
          show (decide (lo ≤ i) && decide (i ≤ hi)) = _
          rw [e3, Bool.true_and]
        rw [z] at q
        exact q
      · have z : wholeD (.int i) lo hi = false := by
          show (decide (lo ≤ i) && decide (i ≤ hi)) = _
          rw [bfalse e3, Bool.false_and]
        rw [z] at q
        exact q
    · rw [whole_intD lo hi (bfalse e1)] at q
      exact q
def sp_is_name (K : PySem.W.Frag) : Sp := fun vs H Q _ => ∃ (Z : Addr → Prop) (v : V) (d : PyData), vs = [v] ∧ Dx K Z H v d ∧ shortD d ∧ ∀ H', Same H H' → Q (.bl (nameD d)) H'
theorem Txt.ok_is_name (T : Txt K mg A D) : FnOk P w K mg base CX0 1 (A 3) (D 3) ["value"] (sp_is_name K) := by
  refine T.F_is_name.ok sc_is_name (fun vs H Q E h => ?_) (fun cdv Ar outer s H vs Q E hr h => ?_)
  · obtain ⟨Z, v, d, rfl, _⟩ := h
    rfl
  · obtain ⟨Z, v, d, rfl, hd, hs, q⟩ := h
    refine ⟨_, (pss_cons (ps_if (PW.pt (pw_or (pt_not (pt_val (pe_callB call_isi (by rfl) T.z_isinstance (by decide +kernel) (pa_cons (pv 0) (pa_cons (pe_bltn (v := .ty "str") (by rfl) T.z_str (by decide +kernel) rfl) pa_nil))))) (pw_or1 (pt_not (pt_chain op_le op_le pe_int (pe_callB call_len_str (by rfl) T.z_len (by decide +kernel) (pa_cons (pv 0) pa_nil)) (pe_const (by rfl) T.c_MAX_LETTERS)))))) (pss_one (ps_ret pe_bl)) pss_nil)
    (pss_one (ps_ret (pe_and (pe_cmpR op_notIn_seq (pv 0) (pe_glob (v := .ref (A 20)) (by rfl) T.g_WORDS rfl) (by rfl)) (pe_one (pe_callB (cr_all rfl) (by rfl) T.z_all (by decide +kernel) (pa_cons (pe_lc (own := [("sign", 1)]) (g := gName 1) (tt := tYes) rfl sc_is_name.nd (pi_str (pv 0)) (blkOk_by (N := ["value", "sign"]) (sc := defScope s_is_name) (by decide +kernel)) (fun _ _ _ _ _ => pg_name (i := 1) sc_is_name.nd rfl (Or.inl rfl)) (fun _ _ _ _ _ => pts_nil) (fun _ _ _ _ _ => (pe_cmpR op_in_sign (pv 1) (pe_const (by rfl) T.c_LETTERS) (by rfl)))) pa_nil))))))), ?_⟩
    refine ⟨_, rfl, _, _, _, _, isStr d, rfl, .ty "str", dx_ty hd, kit_str d, _, rfl, ite2 (fun e1 => ?_) (fun e1 => ?_)⟩
    · have q0 := q H (Same.refl _)
      rw [name_str (nb e1)] at q0
      exact iteT q0
    obtain ⟨z, rfl⟩ := str_of (bt e1)
    have ev := dx_str hd
    subst ev
    have hz : z.length ≤ sizeLine := Nat.le_trans hs.1 (by decide)
    have no : nameS z = false → ∀ H', Same H H' → Q (.bl false) H' := fun e H' sm => by
      have := q H' sm
      rw [show nameD (.str z) = false from e] at this
      exact this
    refine ⟨_, rfl, z, rfl, hz, _, _, rfl, rfl, _, rfl, ite2 (fun e2 => ?_) (fun e2 => ?_)⟩
    · refine ⟨_, _, rfl, rfl, _, rfl, ite2 (fun e3 => ?_) (fun e3 => ?_)⟩
      · have n8 : nameS z = false := by
          rw [Bool.not_eq_true', decide_eq_false_iff_not] at e3
          unfold nameS
          rw [decide_eq_false (p := z.length ≤ 8) (by omega), Bool.and_false, Bool.false_and, Bool.false_and]
        exact no n8 H (Same.refl _)
      · have l1 : 1 ≤ z.length := by
          have := of_decide_eq_true e2
          omega
        have l8 : z.length ≤ 8 := by
          rw [Bool.not_eq_true', decide_eq_false_iff_not] at e3
          omega
        have nz : nameS z = (!inV (.str z) wordsV && z.cps.toList.all lowC) := by
          unfold nameS
          rw [decide_eq_true l1, decide_eq_true l8, Bool.true_and, Bool.true_and]
        refine ⟨_, rfl, A 20, wordsV, rfl, .inr (.inr T.t_WORDS), rfl, by decide +kernel, _, rfl, ite2 (fun e4 => ?_) (fun e4 => ?_)⟩
        · rw [show (!inV (.str z) wordsV) = true from e4, Bool.true_and] at nz
          refine ⟨_, rfl, z, rfl, fun d hd => ?_⟩
          refine lc_it walk_str (fun j H' => Same H H' ∧ H' d = some (.lst ((z.cps.toList.take j).map fun c => V.bl (lowC c)))) ⟨same_new hd, upd_same⟩ (fun _ _ _ _ => trivial) ?_ ?_
          · rintro j x H3 H4 hj ⟨sm2, hD⟩ ⟨rfl, c, hc, rfl⟩
            refine ⟨rfl, yes_of ⟨_, rfl, c, _, rfl, rfl, _, hD, ?_, same_put sm2 hd, ?_⟩⟩
            · rw [List.length_map, List.length_take]
              have : sizeLine ≥ 100 := by decide
              have zs : z.cps.size = z.length := rfl
              omega
            · rw [upd_same, List.take_add_one, List.map_append]
              have hc' : z.cps.toList[j]? = some c := by simpa using hc
              rw [hc', letters_c]
              rfl
          · rintro H3 ⟨sm3, hD⟩
            refine ⟨d, z.cps.toList.map lowC, rfl, SqL.of ?_, ?_⟩
            · rw [hD, List.map_map]
              have : z.cps.size = z.cps.toList.length := by simp
              rw [this, List.take_length]
              rfl
            · have e : (z.cps.toList.map lowC).all id = nameS z := by
                rw [nz, List.all_map]
                rfl
              rw [e]
              exact q H3 sm3
        · have n4 : nameS z = false := by
            rw [nz, bfalse (show ¬ (!inV (.str z) wordsV) = true from e4), Bool.false_and]
          exact no n4 H (Same.refl _)
    · have n1 : nameS z = false := by
        have n : ¬ 1 ≤ z.length := fun y => e2 (decide_eq_true (by omega))
        unfold nameS
        rw [decide_eq_false n, Bool.false_and, Bool.false_and, Bool.false_and]
      exact ⟨_, rfl, iteT (no n1 H (Same.refl _))⟩
def sp_words (K : PySem.W.Frag) : Sp := fun vs H Q _ => vs = [] ∧ ∀ p, H p = none → Q (.ref p) (upd H p (.lst wordsV))
theorem Txt.ok_words (T : Txt K mg A D) : FnOk P w K mg base CX0 1 (A 11) (D 11) [] (sp_words K) := by
  refine T.F_words.ok sc_words (fun vs H Q E h => ?_) (fun cdv Ar outer s H vs Q E hr h => ?_)
  · obtain ⟨rfl, _⟩ := h
    rfl
  · obtain ⟨rfl, q⟩ := h
    refine ⟨_, (pss_one (ps_ret (pe_split pe_str pe_str))), ?_⟩
    refine ⟨⟨_, rfl⟩, _, _, rfl, rfl, by decide +kernel, by decide +kernel, ?_⟩
    have e : Txt.split (Str.ofString "as by die do either else if loop or program seen skip till while") (Str.ofString " ") = wordsL := by decide +kernel
    rw [e]
    exact q
def badL (l : List Nat) : List Nat := l.filter fun c => !lowC c
theorem badL_nil {l : List Nat} : (badL l).isEmpty = l.all lowC := by
  unfold badL
  induction l with
  | nil => rfl
  | cons c r ih =>
    rw [List.filter_cons, List.all_cons]
    cases h : lowC c with
    | true =>
      rw [if_neg (by decide), ih, Bool.true_and]
    | false =>
      rw [if_pos (by decide), Bool.false_and]
      rfl
def sp_l_is_name (K : PySem.W.Frag) : Sp := fun vs H Q _ => ∃ (Z : Addr → Prop) (v : V) (d : PyData), vs = [v] ∧ Dx K Z H v d ∧ shortD d ∧ ∀ H', Same H H' → Q (.bl (nameD d)) H'
theorem Txt.ok_l_is_name (T : Txt K mg A D) : FnOk P w K mg base CX0 2 (A 12) (D 12) ["value"] (sp_l_is_name K) := by
  refine T.F_l_is_name.ok sc_l_is_name (fun vs H Q E h => ?_) (fun cdv Ar outer s H vs Q E hr h => ?_)
  · obtain ⟨Z, v, d, rfl, _⟩ := h
    rfl
  · obtain ⟨Z, v, d, rfl, hd, hs, q⟩ := h
    refine ⟨_, (pss_cons (ps_if (PW.pt (pw_or (pt_not (pt_val (pe_callB call_isi (by rfl) T.z_isinstance (by decide +kernel) (pa_cons (pv 0) (pa_cons (pe_bltn (v := .ty "str") (by rfl) T.z_str (by decide +kernel) rfl) pa_nil))))) (pw_or (pt_not (pt_chain op_le op_le pe_int (pe_callB call_len_str (by rfl) T.z_len (by decide +kernel) (pa_cons (pv 0) pa_nil)) pe_int)) (pw_or1 (pt_cmpR op_in_seq (pv 0) (pe_call0 (T.ok_words) hr (by rfl) T.g_words T.k_words T.b_words .nil pass0) (by rfl)))))) (pss_one (ps_ret pe_bl)) pss_nil)
    (pss_one (ps_ret (pe_cmpR (op_eqD hr.units) (pe_lc (own := [("sign", 1)]) (g := gName 1) (tt := _) rfl sc_l_is_name.nd (pi_str (pv 0)) (blkOk_by (N := ["value", "sign"]) (sc := defScope s_l_is_name) (by decide +kernel)) (fun _ _ _ _ _ => pg_name (i := 1) sc_l_is_name.nd rfl (Or.inl rfl)) (fun _ _ _ _ _ => (pts_one (pt_not (pt_chain op_le_str op_le_str pe_str (pv 1) pe_str)))) (fun _ _ _ _ _ => (pv 1))) (pe_lst pa_nil) (nomark _))))), ?_⟩
    refine ⟨_, rfl, _, _, _, _, isStr d, rfl, .ty "str", dx_ty hd, kit_str d, _, rfl, ite2 (fun e1 => ?_) (fun e1 => ?_)⟩
    · have q0 := q H (Same.refl _)
      rw [name_str (nb e1)] at q0
      exact iteT q0
    obtain ⟨z, rfl⟩ := str_of (bt e1)
    have ev := dx_str hd
    subst ev
    have hz : z.length ≤ sizeLine := Nat.le_trans hs.1 (by decide)
    have no : nameS z = false → ∀ H', Same H H' → Q (.bl false) H' := fun e H' sm => by
      have := q H' sm
      rw [show nameD (.str z) = false from e] at this
      exact this
    refine ⟨_, rfl, z, rfl, hz, _, _, rfl, rfl, _, rfl, ite2 (fun e2 => ?_) (fun e2 => ?_)⟩
    · refine ⟨_, _, rfl, rfl, _, rfl, ite2 (fun e3 => ?_) (fun e3 => ?_)⟩
      · have n8 : nameS z = false := by
          rw [Bool.not_eq_true', decide_eq_false_iff_not] at e3
          unfold nameS
          rw [decide_eq_false (p := z.length ≤ 8) (by omega), Bool.and_false, Bool.false_and, Bool.false_and]
        refine iteT ?_
        exact no n8 H (Same.refl _)
      · have l1 : 1 ≤ z.length := by
          have := of_decide_eq_true e2
          omega
        have l8 : z.length ≤ 8 := by
          rw [Bool.not_eq_true', decide_eq_false_iff_not] at e3
          omega
        have nz : nameS z = (!inV (.str z) wordsV && z.cps.toList.all lowC) := by
          unfold nameS
          rw [decide_eq_true l1, decide_eq_true l8, Bool.true_and, Bool.true_and]
        refine ⟨_, rfl, ⟨rfl, fun p hp => ⟨p, wordsV, rfl, .inl (SqL.of upd_same), rfl, by decide +kernel, _, rfl, ite2 (fun e4 => ?_) (fun e4 => ?_)⟩⟩⟩
        · have n4 : nameS z = false := by
            rw [nz, show inV (.str z) wordsV = true from e4]
            rfl
          exact no n4 _ (same_new hp)
        · rw [bfalse (show ¬ inV (.str z) wordsV = true from e4), Bool.not_false, Bool.true_and] at nz
          have sp := same_new (o := .lst wordsV) hp
          revert sp
          generalize upd H p (HO.lst wordsV) = H2
          intro sp
          refine ⟨_, rfl, z, rfl, fun d hd => ?_⟩
          refine lc_it walk_str (fun j H' => Same H2 H' ∧ H' d = some (.lst ((badL (z.cps.toList.take j)).map fun c => V.str ⟨#[c]⟩))) ⟨same_new hd, upd_same⟩ (fun _ _ _ _ => trivial) ?_ ?_
          · rintro j x H3 H4 hj ⟨sm2, hD⟩ ⟨rfl, c, hc, rfl⟩
            have hc' : z.cps.toList[j]? = some c := by simpa using hc
            have step : badL (z.cps.toList.take (j + 1)) = badL (z.cps.toList.take j) ++ (if lowC c = true then [] else [c]) := by
              unfold badL
              rw [List.take_add_one, hc', List.filter_append]
              congr 1
              show List.filter _ [c] = _
              cases h : lowC c <;> simp [h]
            have hput : lowC c ≠ true → ∃ acc, H4 d = some (HO.lst acc) ∧ acc.length < sizeLine ∧ Same H2 (upd H4 d (HO.lst (acc ++ [V.str ⟨#[c]⟩]))) ∧
                (upd H4 d (HO.lst (acc ++ [V.str ⟨#[c]⟩]))) d = some (HO.lst ((badL (z.cps.toList.take (j + 1))).map fun c => V.str ⟨#[c]⟩)) := fun n => by
              refine ⟨_, hD, ?_, same_put sm2 hd, ?_⟩
              · rw [List.length_map]
                have h1 : (badL (z.cps.toList.take j)).length ≤ (z.cps.toList.take j).length := List.length_filter_le ..
                rw [List.length_take] at h1
                have : sizeLine ≥ 100 := by decide
                have zs : z.cps.size = z.length := rfl
                have zt : z.cps.toList.length = z.cps.size := by simp
                omega
              · rw [upd_same, step, if_neg n, List.map_append]
                rfl
            refine ⟨rfl, ⟨_, rfl, _, _, rfl, rfl, _, rfl, ite2 (fun e2 => ?_) (fun e2 => ?_)⟩⟩
            · refine ⟨_, _, rfl, rfl, _, rfl, ite2 (fun e3 => ?_) (fun e3 => ?_)⟩
              · refine ⟨_, rfl, hput fun y => ?_⟩
                have f3 : (!decide (([122] : List Nat) < [c])) = false := by
                  cases g : (!decide (([122] : List Nat) < [c])) with
                  | false => rfl
                  | true => exact absurd (show (!(!decide (([122] : List Nat) < [c]))) = true from e3) (by rw [g]; decide)
                rw [lt_one] at f3
                unfold lowC at y
                rw [Bool.and_eq_true, decide_eq_true_eq, decide_eq_true_eq] at y
                rw [decide_eq_false (by omega)] at f3
                cases f3
              · refine ⟨sm2, ?_⟩
                have f2 : (!decide ([c] < ([97] : List Nat))) = true := e2
                have f3 : (!decide (([122] : List Nat) < [c])) = true := by
                  cases g : (!decide (([122] : List Nat) < [c])) with
                  | true => rfl
                  | false => exact absurd (show (!(!decide (([122] : List Nat) < [c]))) = true by rw [g]; rfl) e3
                rw [lt_one, Bool.not_eq_true', decide_eq_false_iff_not] at f2 f3
                have y : lowC c = true := by
                  unfold lowC
                  rw [decide_eq_true (by omega), decide_eq_true (by omega)]
                  rfl
                rw [step, if_pos y, List.append_nil]
                exact hD
            · refine ⟨_, rfl, ite2 (fun e3 => ?_) (fun e3 => absurd rfl e3)⟩
              refine ⟨_, rfl, hput fun y => ?_⟩
              have f2 : ¬ (!decide ([c] < ([97] : List Nat))) = true := e2
              rw [lt_one, Bool.not_eq_true', decide_eq_false_iff_not] at f2
              unfold lowC at y
              rw [Bool.and_eq_true, decide_eq_true_eq, decide_eq_true_eq] at y
              omega
          · rintro H3 ⟨sm2, hD⟩
            have zt : z.cps.size = z.cps.toList.length := by simp
            rw [zt, List.take_length] at hD
            refine ⟨Nat.zero_le _, fun d2 hd2 => ?_⟩
            have hD2 : (upd H3 d2 (.lst [])) d = some (.lst ((badL z.cps.toList).map fun c => V.str ⟨#[c]⟩)) := by
              rw [upd_ne (ne_of_none hD hd2)]
              exact hD
            have sm3 : Same H (upd H3 d2 (.lst [])) := sp.trans (sm2.trans (same_new hd2))
            have cb : Ch (badL z.cps.toList) := fun c hc => hs.2 c (List.mem_filter.mp hc).1
            refine ⟨_, _, .lst (.inl (.inl hD2)) (dpAll_str _), .lst (xs := []) (.inl (.inl upd_same)) .nil, shaped_str cb, by decide, ?_⟩
            rw [eqv_str_nil, badL_nil, ← nz]
            exact q _ sm3
    · have n1 : nameS z = false := by
        have n : ¬ 1 ≤ z.length := fun y => e2 (decide_eq_true (by omega))
        unfold nameS
        rw [decide_eq_false n, Bool.false_and, Bool.false_and, Bool.false_and]
      refine ⟨_, rfl, iteT ?_⟩
      exact no n1 H (Same.refl _)
end
end Ev

set_option exponentiation.threshold 10000
namespace Ev
open PySem PySem.Spec PyProof.Rows L2
def NoP : Addr → Prop := fun _ => False
theorem cut_take {xs : List V} {m : Int} (h : 0 ≤ m) : cutV xs none (some m) = xs.take m.toNat := by
  unfold cutV
  have e : HT.sIx xs.length xs.length (some m) = min m.toNat xs.length := by
    have := HT.sIx_nat xs.length xs.length m.toNat
    rw [Int.toNat_of_nonneg h] at this
    exact this
  rw [e, HT.sIx_none, List.drop_zero, Nat.sub_zero]
  rcases Nat.le_total m.toNat xs.length with l | l
  · rw [Nat.min_eq_left l]
  · rw [Nat.min_eq_right l, List.take_of_length_le (Nat.le_refl _), List.take_of_length_le l]

def vOf : PyData → V
  | .str z => .str z
  | _ => .non
def twiceD (ds : List PyData) (j : Nat) : Bool := inV (vOf (ds.getD j .none)) ((ds.map vOf).take j)
def slipNames : PyData → PyData
  | .tuple ds => if 1 ≤ ds.length ∧ ds.length ≤ 3 then
      match firstN (fun j => !nameD (ds.getD j .none)) 0 ds.length with
      | some i => .tuple [.str "name", .int i]
      | none => match firstN (twiceD ds) 0 ds.length with
        | some i => .tuple [.str "twice", .int i]
        | none => .none
    else .str "form"
  | _ => .str "form"
def itemsShort : PyData → Prop
  | .tuple ds => ∀ e ∈ ds, shortD e
  | _ => True
theorem slip_no {d : PyData} (h : isTup d = false) : slipNames d = .str "form" := by
  cases d <;> first | rfl | (cases h; done)
theorem slip_len {ds : List PyData} (h : ¬ (1 ≤ ds.length ∧ ds.length ≤ 3)) : slipNames (.tuple ds) = .str "form" := by
  show (if 1 ≤ ds.length ∧ ds.length ≤ 3 then _ else _) = _
  rw [if_neg h]
theorem name_v {d : PyData} (h : nameD d = true) : ∃ z, d = .str z := by
  cases d <;> first | exact ⟨_, rfl⟩ | (cases h; done)
theorem names_xs {K : PySem.W.Frag} {Z : Addr → Prop} {H : Hp} : ∀ {xs : List V} {ds : List PyData}, DxAll K Z H xs ds → (∀ d ∈ ds, nameD d = true) → xs = ds.map vOf
  | _, _, .nil, _ => rfl
  | _, _, .cons h r, n => by
    rw [List.map_cons, ← names_xs r fun d hd => n d (List.mem_cons_of_mem _ hd)]
    obtain ⟨z, rfl⟩ := name_v (n _ (List.mem_cons_self ..))
    rw [dx_str h]
    rfl
theorem flat_v (d : PyData) : flatV (vOf d) = true := by cases d <;> rfl
section
variable {P : Program} {w : World} {K : PySem.W.Frag} {mg : Str → Option Value} {base : Heap} {A : Nat → Addr} {D : Nat → FuncData}
def sp_names_slip (K : PySem.W.Frag) : Sp := fun vs H Q _ => ∃ (Z : Addr → Prop) (v : V) (d : PyData), vs = [v] ∧ Dx K Z H v d ∧ itemsShort d ∧
  ∀ (H' : Hp) (u : V), Same H H' → Dx K NoP H' u (slipNames d) → Q u H'
theorem Txt.ok_names_slip (T : Txt K mg A D) : FnOk P w K mg base CX0 3 (A 13) (D 13) ["value"] (sp_names_slip K) := by
  refine T.F_names_slip.ok sc_names_slip (fun vs H Q E h => ?_) (fun cdv Ar outer s H vs Q E hr h => ?_)
  · obtain ⟨Z, v, d, rfl, _⟩ := h
    rfl
  · obtain ⟨Z, v, d, rfl, hd, hs, q⟩ := h
    refine ⟨_, (pss_cons (ps_if (PW.pt (pw_or (pt_not (pt_val (pe_callB call_isi (by rfl) T.z_isinstance (by decide +kernel) (pa_cons (pv 0) (pa_cons (pe_bltn (v := .ty "tuple") (by rfl) T.z_tuple (by decide +kernel) rfl) pa_nil))))) (pw_or1 (pt_not (pt_chain op_le op_le pe_int (pe_callB call_len_seq (by rfl) T.z_len (by decide +kernel) (pa_cons (pv 0) pa_nil)) pe_int))))) (pss_one (ps_ret pe_str)) pss_nil)
    (pss_cons (ps_for PassesOwn.never rfl (pi_enumT (by rfl) T.enumerate (pa_cons (pv 0) pa_nil)) (pg_tup rfl (pgs_cons (pg_name (i := 1) sc_names_slip.nd rfl (Or.inl rfl)) (pgs_cons (pg_name (i := 2) sc_names_slip.nd rfl (Or.inl rfl)) pgs_nil))) (pss_one (ps_if (pt_not (pt_val (pe_call (T.ok_l_is_name) hr (by rfl) T.g_l_is_name T.k_l_is_name T.b_l_is_name .nil pass0 (pa_cons (pv 2) pa_nil)))) (pss_one (ps_ret (pe_tup (pa_cons pe_str (pa_cons (pv 1) pa_nil))))) pss_nil)))
    (pss_cons (ps_for PassesOwn.never rfl (pi_enumT (by rfl) T.enumerate (pa_cons (pv 0) pa_nil)) (pg_tup rfl (pgs_cons (pg_name (i := 1) sc_names_slip.nd rfl (Or.inl rfl)) (pgs_cons (pg_name (i := 2) sc_names_slip.nd rfl (Or.inl rfl)) pgs_nil))) (pss_one (ps_if (pt_cmpR op_in_seq (pv 2) (pe_slice sl_tupS (pv 0) po_none (po_some (pv 1))) (by rfl)) (pss_one (ps_ret (pe_tup (pa_cons pe_str (pa_cons (pv 1) pa_nil))))) pss_nil)))
    (pss_one (ps_ret pe_non))))), ?_⟩
    refine ⟨_, rfl, _, _, _, _, isTup d, rfl, .ty "tuple", dx_ty hd, kit_tup d, _, rfl, ite2 (fun e1 => ?_) (fun e1 => ?_)⟩
    · have q0 := q H (.str "form") (Same.refl _)
      rw [slip_no (nb e1)] at q0
      exact iteT (q0 (.str _))
    obtain ⟨ds, rfl⟩ := tup_of (bt e1)
    obtain ⟨a, xs, rfl, hS, dx⟩ := dx_tup hd
    have lx := dxAll_len dx
    have form : ¬ (1 ≤ ds.length ∧ ds.length ≤ 3) → Q (.str "form") H := fun n => by
      have q0 := q H (.str "form") (Same.refl _)
      rw [slip_len n] at q0
      exact q0 (.str _)
    have getD_at : ∀ {i : Nat} {d : PyData}, ds[i]? = some d → ds.getD i .none = d := fun {i d} e => by
      rw [List.getD_eq_getElem?_getD, e]
      rfl
    refine ⟨_, rfl, a, xs, rfl, .inr hS, _, _, rfl, rfl, _, rfl, ite2 (fun e2 => ?_) (fun e2 => ?_)⟩
    · refine ⟨_, _, rfl, rfl, _, rfl, ite2 (fun e3 => ?_) (fun e3 => ?_)⟩
      · rw [Bool.not_eq_true', decide_eq_false_iff_not] at e3
        exact form (by omega)
      have l1 : 1 ≤ ds.length := by
        have := of_decide_eq_true e2
        omega
      have l3 : ds.length ≤ 3 := by
        rw [Bool.not_eq_true', decide_eq_false_iff_not] at e3
        omega
      have val : slipNames (.tuple ds) = (match firstN (fun j => !nameD (ds.getD j .none)) 0 ds.length with
          | some i => .tuple [.str "name", .int i]
          | none => match firstN (twiceD ds) 0 ds.length with
            | some i => .tuple [.str "twice", .int i]
            | none => .none) := by
        show (if 1 ≤ ds.length ∧ ds.length ≤ 3 then _ else _) = _
        rw [if_pos ⟨l1, l3⟩]
      -- each is a name
      refine ⟨_, rfl, a, xs, rfl, hS, for_it walk_enT (fun i σ H' => Same H H' ∧ (∃ y1 y2 : Option V, σ = [some (.ref a), y1, y2]) ∧ ∀ j, j < i → nameD (ds.getD j .none) = true)
        ⟨Same.refl _, ⟨none, none, rfl⟩, fun j h => absurd h (Nat.not_lt_zero _)⟩ (fun i σ H' _ z => Ev.Same.seqT z.1 hS) ?_ ?_⟩
      · rintro i x σ H2 H3 hi ⟨sm, ⟨y1, y2, rfl⟩, hp⟩ ⟨t, x1, x2, rfl, ht, rfl, h1, h2⟩
        cases h1
        obtain ⟨d, hdi, dd⟩ := dxAll_get dx h2
        have gd := getD_at hdi
        have sm3 := sm.trans (same_new (o := .tup [.int (i : Nat), x2]) ht)
        have dd3 := dx_same sm3 dd
        have sd : shortD d := hs d (List.mem_of_getElem? hdi)
        refine ⟨t, _, rfl, SqT.of upd_same, rfl, _, _, rfl, _, _, rfl, rfl, ?_⟩
        refine ⟨_, rfl, Z, x2, d, rfl, dd3, sd, fun H4 sm4 => ⟨_, rfl, ite2 (fun e4 => ?_) (fun e4 => ?_)⟩⟩
        · have n4 : nameD d = false := nb e4
          have e : slipNames (.tuple ds) = .tuple [.str "name", .int (i : Nat)] := by
            rw [val, first_some ds.length 0 i (fun j _ hj => by rw [hp j hj]; rfl) (Nat.zero_le _) (by omega) (by rw [gd, n4]; rfl)]
          refine ⟨_, rfl, (by show 2 ≤ sizeLine; decide), fun p hp4 => q _ _ ((sm3.trans sm4).trans (same_new hp4)) ?_⟩
          rw [e]
          exact .tup (SqT.of upd_same) (.cons (.str _) (.cons (.int _) .nil))
        · have n4 : nameD d = true := bt e4
          refine ⟨sm3.trans sm4, ⟨_, _, rfl⟩, fun j hj => ?_⟩
          by_cases ej : j < i
          · exact hp j ej
          · have : j = i := by omega
            rw [this, gd, n4]
      · rintro σ H2 ⟨sm, ⟨y1, y2, rfl⟩, hp⟩
        have hS2 := Ev.Same.seqT sm hS
        have dx2 := dxAll_same sm dx
        have f1 : firstN (fun j => !nameD (ds.getD j .none)) 0 ds.length = none := first_none _ _ fun j _ hj => by rw [hp j (by omega)]; rfl
        rw [f1] at val
        have ex : xs = ds.map vOf := names_xs dx fun d hd => by
          obtain ⟨j, hj, e⟩ := List.mem_iff_getElem.mp hd
          have := hp j (by omega)
          rw [getD_at (List.getElem?_eq_some_iff.mpr ⟨hj, e⟩)] at this
          exact this
        -- none stands twice
        refine ⟨_, rfl, a, xs, rfl, hS2, for_it walk_enT (fun i σ H' => Same H H' ∧ (∃ y1 y2 : Option V, σ = [some (.ref a), y1, y2]) ∧ ∀ j, j < i → twiceD ds j = false)
          ⟨sm, ⟨y1, y2, rfl⟩, fun j h => absurd h (Nat.not_lt_zero _)⟩ (fun i σ H' _ z => Ev.Same.seqT z.1 hS) ?_ ?_⟩
        · rintro i x σ H3 H4 hi ⟨sm3, ⟨y1, y2, rfl⟩, ht0⟩ ⟨t, x1, x2, rfl, ht, rfl, h1, h2⟩
          cases h1
          obtain ⟨d, hdi, dd⟩ := dxAll_get dx h2
          have gd := getD_at hdi
          have sm4 := sm3.trans (same_new (o := .tup [.int (i : Nat), x2]) ht)
          have hS4 := Ev.Same.seqT sm4 hS
          have vx : x2 = vOf d := by
            have h2' : (ds.map vOf)[i]? = some x2 := by
              rw [← ex]
              exact h2
            rw [List.getElem?_map, hdi] at h2'
            exact (Option.some.inj h2').symm
          have tw : twiceD ds i = inV x2 (xs.take i) := by
            unfold twiceD
            rw [gd, vx, ex]
          refine ⟨t, _, rfl, SqT.of upd_same, rfl, _, _, rfl, _, _, rfl, rfl, ?_⟩
          refine ⟨_, rfl, _, rfl, _, rfl, _, rfl, a, xs, rfl, hS4, fun H5 p5 sm5 h5 => ?_⟩
          rw [cut_take (by omega)] at h5
          have ei : ((i : Nat) : Int).toNat = i := by omega
          rw [ei] at h5
          refine ⟨p5, xs.take i, rfl, .inr h5, by rw [vx]; exact flat_v d, ?_, _, rfl, ite2 (fun e4 => ?_) (fun e4 => ?_)⟩
          · rw [List.all_eq_true]
            intro y hy
            have := List.mem_of_mem_take hy
            rw [ex] at this
            obtain ⟨d', _, rfl⟩ := List.mem_map.mp this
            exact flat_v d'
          · have n4 : twiceD ds i = true := by
              rw [tw]
              exact e4
            have e : slipNames (.tuple ds) = .tuple [.str "twice", .int (i : Nat)] := by
              rw [val, first_some ds.length 0 i (fun j _ hj => ht0 j hj) (Nat.zero_le _) (by omega) n4]
            refine ⟨_, rfl, (by show 2 ≤ sizeLine; decide), fun p hp4 => q _ _ ((sm4.trans sm5).trans (same_new hp4)) ?_⟩
            rw [e]
            exact .tup (SqT.of upd_same) (.cons (.str _) (.cons (.int _) .nil))
          · have n4 : twiceD ds i = false := by
              rw [tw]
              exact bfalse e4
            refine ⟨sm4.trans sm5, ⟨_, _, rfl⟩, fun j hj => ?_⟩
            by_cases ej : j < i
            · exact ht0 j ej
            · have : j = i := by omega
              rw [this, n4]
        · rintro σ H3 ⟨sm3, ⟨y1, y2, rfl⟩, ht0⟩
          have e : slipNames (.tuple ds) = .none := by
            rw [val, first_none _ _ fun j _ hj => ht0 j (by omega)]
          refine q _ _ sm3 ?_
          rw [e]
          exact .non
    · refine ⟨_, rfl, iteT (form fun z => e2 (decide_eq_true (by omega)))⟩
def sp_names_error (K : PySem.W.Frag) : Sp := fun vs H Q _ => ∃ (Z : Addr → Prop) (v : V) (d : PyData), vs = [v] ∧ Dx K Z H v d ∧ itemsShort d ∧
  ∀ (H' : Hp) (u : V), Same H H' → Dx K NoP H' u (slipNames d) → Q u H'
theorem Txt.ok_names_error (T : Txt K mg A D) : FnOk P w K mg base CX0 2 (A 0) (D 0) ["value"] (sp_names_error K) := by
  refine T.F_names_error.ok sc_names_error (fun vs H Q E h => ?_) (fun cdv Ar outer s H vs Q E hr h => ?_)
  · obtain ⟨Z, v, d, rfl, _⟩ := h
    rfl
  · obtain ⟨Z, v, d, rfl, hd, hs, q⟩ := h
    refine ⟨_, (pss_cons (ps_if (PW.pt (pw_or (pt_not (pt_val (pe_callB call_isi (by rfl) T.z_isinstance (by decide +kernel) (pa_cons (pv 0) (pa_cons (pe_bltn (v := .ty "tuple") (by rfl) T.z_tuple (by decide +kernel) rfl) pa_nil))))) (pw_or1 (pt_not (pt_chain op_le op_le pe_int (pe_callB call_len_seq (by rfl) T.z_len (by decide +kernel) (pa_cons (pv 0) pa_nil)) (pe_const (by rfl) T.c_MAX_COUNTERS)))))) (pss_one (ps_ret pe_str)) pss_nil)
    (pss_cons (ps_for PassesOwn.never rfl (pi_enumT (by rfl) T.enumerate (pa_cons (pv 0) pa_nil)) (pg_tup rfl (pgs_cons (pg_name (i := 1) sc_names_error.nd rfl (Or.inl rfl)) (pgs_cons (pg_name (i := 2) sc_names_error.nd rfl (Or.inl rfl)) pgs_nil))) (pss_one (ps_if (pt_not (pt_val (pe_call (T.ok_is_name) hr (by rfl) T.g_is_name T.k_is_name T.b_is_name .nil pass0 (pa_cons (pv 2) pa_nil)))) (pss_one (ps_ret (pe_tup (pa_cons pe_str (pa_cons (pv 1) pa_nil))))) pss_nil)))
    (pss_cons (ps_for PassesOwn.never rfl (pi_enumT (by rfl) T.enumerate (pa_cons (pv 0) pa_nil)) (pg_tup rfl (pgs_cons (pg_name (i := 1) sc_names_error.nd rfl (Or.inl rfl)) (pgs_cons (pg_name (i := 2) sc_names_error.nd rfl (Or.inl rfl)) pgs_nil))) (pss_one (ps_if (pt_cmpR op_in_seq (pv 2) (pe_slice sl_tupS (pv 0) po_none (po_some (pv 1))) (by rfl)) (pss_one (ps_ret (pe_tup (pa_cons pe_str (pa_cons (pv 1) pa_nil))))) pss_nil)))
    (pss_one (ps_ret pe_non))))), ?_⟩
    refine ⟨_, rfl, _, _, _, _, isTup d, rfl, .ty "tuple", dx_ty hd, kit_tup d, _, rfl, ite2 (fun e1 => ?_) (fun e1 => ?_)⟩
    · have q0 := q H (.str "form") (Same.refl _)
      rw [slip_no (nb e1)] at q0
      exact iteT (q0 (.str _))
    obtain ⟨ds, rfl⟩ := tup_of (bt e1)
    obtain ⟨a, xs, rfl, hS, dx⟩ := dx_tup hd
    have lx := dxAll_len dx
    have form : ¬ (1 ≤ ds.length ∧ ds.length ≤ 3) → Q (.str "form") H := fun n => by
      have q0 := q H (.str "form") (Same.refl _)
      rw [slip_len n] at q0
      exact q0 (.str _)
    have getD_at : ∀ {i : Nat} {d : PyData}, ds[i]? = some d → ds.getD i .none = d := fun {i d} e => by
      rw [List.getD_eq_getElem?_getD, e]
      rfl
    refine ⟨_, rfl, a, xs, rfl, .inr hS, _, _, rfl, rfl, _, rfl, ite2 (fun e2 => ?_) (fun e2 => ?_)⟩
    · refine ⟨_, _, rfl, rfl, _, rfl, ite2 (fun e3 => ?_) (fun e3 => ?_)⟩
      · rw [Bool.not_eq_true', decide_eq_false_iff_not] at e3
        exact form (by omega)
      have l1 : 1 ≤ ds.length := by
        have := of_decide_eq_true e2
        omega
      have l3 : ds.length ≤ 3 := by
        rw [Bool.not_eq_true', decide_eq_false_iff_not] at e3
        omega
      have val : slipNames (.tuple ds) = (match firstN (fun j => !nameD (ds.getD j .none)) 0 ds.length with
          | some i => .tuple [.str "name", .int i]
          | none => match firstN (twiceD ds) 0 ds.length with
            | some i => .tuple [.str "twice", .int i]
            | none => .none) := by
        show (if 1 ≤ ds.length ∧ ds.length ≤ 3 then _ else _) = _
        rw [if_pos ⟨l1, l3⟩]
      -- each is a name
      refine ⟨_, rfl, a, xs, rfl, hS, for_it walk_enT (fun i σ H' => Same H H' ∧ (∃ y1 y2 : Option V, σ = [some (.ref a), y1, y2]) ∧ ∀ j, j < i → nameD (ds.getD j .none) = true)
        ⟨Same.refl _, ⟨none, none, rfl⟩, fun j h => absurd h (Nat.not_lt_zero _)⟩ (fun i σ H' _ z => Ev.Same.seqT z.1 hS) ?_ ?_⟩
      · rintro i x σ H2 H3 hi ⟨sm, ⟨y1, y2, rfl⟩, hp⟩ ⟨t, x1, x2, rfl, ht, rfl, h1, h2⟩
        cases h1
        obtain ⟨d, hdi, dd⟩ := dxAll_get dx h2
        have gd := getD_at hdi
        have sm3 := sm.trans (same_new (o := .tup [.int (i : Nat), x2]) ht)
        have dd3 := dx_same sm3 dd
        have sd : shortD d := hs d (List.mem_of_getElem? hdi)
        refine ⟨t, _, rfl, SqT.of upd_same, rfl, _, _, rfl, _, _, rfl, rfl, ?_⟩
        refine ⟨_, rfl, Z, x2, d, rfl, dd3, sd, fun H4 sm4 => ⟨_, rfl, ite2 (fun e4 => ?_) (fun e4 => ?_)⟩⟩
        · have n4 : nameD d = false := nb e4
          have e : slipNames (.tuple ds) = .tuple [.str "name", .int (i : Nat)] := by
            rw [val, first_some ds.length 0 i (fun j _ hj => by rw [hp j hj]; rfl) (Nat.zero_le _) (by omega) (by rw [gd, n4]; rfl)]
          refine ⟨_, rfl, (by show 2 ≤ sizeLine; decide), fun p hp4 => q _ _ ((sm3.trans sm4).trans (same_new hp4)) ?_⟩
          rw [e]
          exact .tup (SqT.of upd_same) (.cons (.str _) (.cons (.int _) .nil))
        · have n4 : nameD d = true := bt e4
          refine ⟨sm3.trans sm4, ⟨_, _, rfl⟩, fun j hj => ?_⟩
          by_cases ej : j < i
          · exact hp j ej
          · have : j = i := by omega
            rw [this, gd, n4]
      · rintro σ H2 ⟨sm, ⟨y1, y2, rfl⟩, hp⟩
        have hS2 := Ev.Same.seqT sm hS
        have dx2 := dxAll_same sm dx
        have f1 : firstN (fun j => !nameD (ds.getD j .none)) 0 ds.length = none := first_none _ _ fun j _ hj => by rw [hp j (by omega)]; rfl
        rw [f1] at val
        have ex : xs = ds.map vOf := names_xs dx fun d hd => by
          obtain ⟨j, hj, e⟩ := List.mem_iff_getElem.mp hd
          have := hp j (by omega)
          rw [getD_at (List.getElem?_eq_some_iff.mpr ⟨hj, e⟩)] at this
          exact this
        -- none stands twice
        refine ⟨_, rfl, a, xs, rfl, hS2, for_it walk_enT (fun i σ H' => Same H H' ∧ (∃ y1 y2 : Option V, σ = [some (.ref a), y1, y2]) ∧ ∀ j, j < i → twiceD ds j = false)
          ⟨sm, ⟨y1, y2, rfl⟩, fun j h => absurd h (Nat.not_lt_zero _)⟩ (fun i σ H' _ z => Ev.Same.seqT z.1 hS) ?_ ?_⟩
        · rintro i x σ H3 H4 hi ⟨sm3, ⟨y1, y2, rfl⟩, ht0⟩ ⟨t, x1, x2, rfl, ht, rfl, h1, h2⟩
          cases h1
          obtain ⟨d, hdi, dd⟩ := dxAll_get dx h2
          have gd := getD_at hdi
          have sm4 := sm3.trans (same_new (o := .tup [.int (i : Nat), x2]) ht)
          have hS4 := Ev.Same.seqT sm4 hS
          have vx : x2 = vOf d := by
            have h2' : (ds.map vOf)[i]? = some x2 := by
              rw [← ex]
              exact h2
            rw [List.getElem?_map, hdi] at h2'
            exact (Option.some.inj h2').symm
          have tw : twiceD ds i = inV x2 (xs.take i) := by
            unfold twiceD
            rw [gd, vx, ex]
          refine ⟨t, _, rfl, SqT.of upd_same, rfl, _, _, rfl, _, _, rfl, rfl, ?_⟩
          refine ⟨_, rfl, _, rfl, _, rfl, _, rfl, a, xs, rfl, hS4, fun H5 p5 sm5 h5 => ?_⟩
          rw [cut_take (by omega)] at h5
          have ei : ((i : Nat) : Int).toNat = i := by omega
          rw [ei] at h5
          refine ⟨p5, xs.take i, rfl, .inr h5, by rw [vx]; exact flat_v d, ?_, _, rfl, ite2 (fun e4 => ?_) (fun e4 => ?_)⟩
          · rw [List.all_eq_true]
            intro y hy
            have := List.mem_of_mem_take hy
            rw [ex] at this
            obtain ⟨d', _, rfl⟩ := List.mem_map.mp this
            exact flat_v d'
          · have n4 : twiceD ds i = true := by
              rw [tw]
              exact e4
            have e : slipNames (.tuple ds) = .tuple [.str "twice", .int (i : Nat)] := by
              rw [val, first_some ds.length 0 i (fun j _ hj => ht0 j hj) (Nat.zero_le _) (by omega) n4]
            refine ⟨_, rfl, (by show 2 ≤ sizeLine; decide), fun p hp4 => q _ _ ((sm4.trans sm5).trans (same_new hp4)) ?_⟩
            rw [e]
            exact .tup (SqT.of upd_same) (.cons (.str _) (.cons (.int _) .nil))
          · have n4 : twiceD ds i = false := by
              rw [tw]
              exact bfalse e4
            refine ⟨sm4.trans sm5, ⟨_, _, rfl⟩, fun j hj => ?_⟩
            by_cases ej : j < i
            · exact ht0 j ej
            · have : j = i := by omega
              rw [this, n4]
        · rintro σ H3 ⟨sm3, ⟨y1, y2, rfl⟩, ht0⟩
          have e : slipNames (.tuple ds) = .none := by
            rw [val, first_none _ _ fun j _ hj => ht0 j (by omega)]
          refine q _ _ sm3 ?_
          rw [e]
          exact .non
    · refine ⟨_, rfl, iteT (form fun z => e2 (decide_eq_true (by omega)))⟩
end
end Ev

set_option exponentiation.threshold 10000
namespace Ev
open PySem PySem.Spec PyProof.Rows L2
theorem dt_short {n k : Nat} {d : PyData} (h : Dt n k d) (hn : n ≤ 8000) : shortD d := by
  cases d with
  | str z =>
    have h1 := h.sz
    have h2 := h.fx
    simp only [szx] at h1
    simp only [fitx, List.all_eq_true, decide_eq_true_eq] at h2
    exact ⟨by omega, h2⟩
  | _ => exact True.intro
theorem dt_items {n k : Nat} {d : PyData} (h : Dt n k d) (hn : n ≤ 8000) : itemsShort d := by
  cases d with
  | tuple ds => exact fun e he => dt_short (h.of_tuple _ he) (by omega)
  | _ => exact True.intro
def wordD (d : PyData) : Bool := PyData.eqv d (.str "below") || PyData.eqv d (.str "from")
def testD (many : Int) : PyData → Bool
  | .tuple [a, b, c] => wholeD a 0 (many - 1) && wholeD c 1 4 && wordD b
  | _ => false
theorem test_tup {m : Int} {d : PyData} (h : isTup d = false) : testD m d = false := by
  cases d <;> first | rfl | (cases h; done)
theorem test_len {m : Int} {ds : List PyData} (h : ds.length ≠ 3) : testD m (.tuple ds) = false := by
  match ds, h with
  | [], _ => rfl
  | [a], _ => rfl
  | [a, b], _ => rfl
  | [a, b, c], h => exact absurd rfl h
  | a :: b :: c :: e :: r, _ => rfl
theorem three_of {ds : List PyData} (l : ds.length = 3) : ∃ a b c, ds = [a, b, c] := by
  match ds, l with
  | [a, b, c], _ => exact ⟨a, b, c, rfl⟩
theorem dxAll_three {K : PySem.W.Frag} {Z : Addr → Prop} {H : Hp} {xs : List V} {a b c : PyData} (h : DxAll K Z H xs [a, b, c]) : ∃ x y z, xs = [x, y, z] ∧ Dx K Z H x a ∧ Dx K Z H y b ∧ Dx K Z H z c := by
  cases h with
  | cons h1 r1 =>
    cases r1 with
    | cons h2 r2 =>
      cases r2 with
      | cons h3 r3 =>
        cases r3
        exact ⟨_, _, _, rfl, h1, h2, h3⟩
theorem word_no {d : PyData} (h : isStr d = false) : wordD d = false := by
  cases d <;> first | rfl | (cases h; done)
theorem sbeq (a b : Str) : (a == b) = (b == a) := by
  rw [Bool.eq_iff_iff, beq_iff_eq, beq_iff_eq]
  exact eq_comm
theorem word_in (z : Str) : inV (.str z) [.str "below", .str "from"] = wordD (.str z) := by
  show (((Str.ofString "below") == z) || (((Str.ofString "from") == z) || false)) = ((z == (Str.ofString "below")) || (z == (Str.ofString "from")))
  rw [sbeq (Str.ofString "below") z, sbeq (Str.ofString "from") z, Bool.or_false]
def wordOk : PyData → Prop
  | .tuple [_, b, _] => b.hasDict = false ∧ SeqAt.shaped b = true
  | _ => True
section
variable {P : Program} {w : World} {K : PySem.W.Frag} {mg : Str → Option Value} {base : Heap} {A : Nat → Addr} {D : Nat → FuncData}
def sp_is_test (K : PySem.W.Frag) : Sp := fun vs H Q _ => ∃ (Z : Addr → Prop) (v : V) (d : PyData) (m : Int), vs = [.int m, v] ∧ Dx K Z H v d ∧ wordOk d ∧
  Q (.bl (testD m d)) H
theorem Txt.ok_is_test (T : Txt K mg A D) : FnOk P w K mg base CX0 3 (A 4) (D 4) ["many", "value"] (sp_is_test K) := by
  refine T.F_is_test.ok sc_is_test (fun vs H Q E h => ?_) (fun cdv Ar outer s H vs Q E hr h => ?_)
  · obtain ⟨Z, v, d, m, rfl, _⟩ := h
    rfl
  · obtain ⟨Z, v, d, m, rfl, hd, hw, q⟩ := h
    refine ⟨_, (pss_cons (ps_if (PW.pt (pw_or (pt_not (pt_val (pe_callB call_isi (by rfl) T.z_isinstance (by decide +kernel) (pa_cons (pv 1) (pa_cons (pe_bltn (v := .ty "tuple") (by rfl) T.z_tuple (by decide +kernel) rfl) pa_nil))))) (pw_or1 (pt_cmpR op_ne (pe_callB call_len_seq (by rfl) T.z_len (by decide +kernel) (pa_cons (pv 1) pa_nil)) pe_int (nomark _))))) (pss_one (ps_ret pe_bl)) pss_nil)
    (pss_cons (ps_asg (pv 1) (pg_tup rfl (pgs_cons (pg_name (i := 2) sc_is_test.nd rfl (Or.inl rfl)) (pgs_cons (pg_name (i := 3) sc_is_test.nd rfl (Or.inl rfl)) (pgs_cons (pg_name (i := 4) sc_is_test.nd rfl (Or.inl rfl)) pgs_nil)))))
    (pss_cons (ps_if (PW.pt (pw_or (pt_not (pt_val (pe_call (T.ok_is_within) hr (by rfl) T.g_is_within T.k_is_within T.b_is_within .nil pass0 (pa_cons (pv 2) (pa_cons pe_int (pa_cons (pe_op op_sub (pv 0) pe_int) pa_nil)))))) (pw_or1 (pt_not (pt_val (pe_call (T.ok_is_within) hr (by rfl) T.g_is_within T.k_is_within T.b_is_within .nil pass0 (pa_cons (pv 4) (pa_cons pe_int (pa_cons (pe_const (by rfl) T.c_MAX_TEST) pa_nil))))))))) (pss_one (ps_ret pe_bl)) pss_nil)
    (pss_one (ps_ret (pe_or (pe_cmpR (op_eqD hr.units) (pv 3) pe_str (nomark _)) (pe_one (pe_cmpR (op_eqD hr.units) (pv 3) pe_str (nomark _))))))))), ?_⟩
    refine ⟨_, rfl, _, _, _, _, isTup d, rfl, .ty "tuple", dx_ty hd, kit_tup d, _, rfl, ite2 (fun e1 => ?_) (fun e1 => ?_)⟩
    · rw [test_tup (nb e1)] at q
      exact iteT q
    obtain ⟨ds, rfl⟩ := tup_of (bt e1)
    obtain ⟨a, xs, rfl, hS, dx⟩ := dx_tup hd
    have lx := dxAll_len dx
    refine ⟨_, rfl, a, xs, rfl, .inr hS, rfl, _, rfl, ite2 (fun e2 => ?_) (fun e2 => ?_)⟩
    · have n3 : ds.length ≠ 3 := fun z => vne e2 (by rw [lx, z]; rfl)
      rw [test_len n3] at q
      exact q
    have l3 : ds.length = 3 := by
      have := V.int.inj (veq e2)
      omega
    obtain ⟨d0, d1, d2, rfl⟩ := three_of l3
    obtain ⟨x0, x1, x2, rfl, dx0, dx1, dx2⟩ := dxAll_three dx
    have val : testD m (.tuple [d0, d1, d2]) = (wholeD d0 0 (m - 1) && wholeD d2 1 4 && wordD d1) := rfl
    rw [val] at q
    refine ⟨_, rfl, a, _, rfl, hS, rfl, _, _, rfl, _, _, rfl, _, _, rfl, rfl, ?_⟩
    refine ⟨_, rfl, _, rfl, _, _, rfl, rfl, Z, x0, d0, 0, m - 1, rfl, dx0, _, rfl, ite2 (fun e3 => ?_) (fun e3 => ?_)⟩
    · rw [nb e3, Bool.false_and, Bool.false_and] at q
      exact iteT q
    rw [bt e3, Bool.true_and] at q
    refine ⟨_, rfl, Z, x2, d2, 1, 4, rfl, dx2, _, rfl, ite2 (fun e4 => ?_) (fun e4 => ?_)⟩
    · rw [nb e4, Bool.false_and] at q
      exact q
    rw [bt e4, Bool.true_and] at q
    refine ⟨_, rfl, d1, .str "below", dp_of_dx dx1 hw.1, .str _, hw.2, by decide +kernel, _, rfl, ite2 (fun e5 => ?_) (fun e5 => ?_)⟩
    · have e : wordD d1 = true := by
        unfold wordD
        rw [e5]
        rfl
      rw [e] at q
      exact q
    · refine ⟨_, rfl, d1, .str "from", dp_of_dx dx1 hw.1, .str _, hw.2, by decide +kernel, ?_⟩
      have e : wordD d1 = PyData.eqv d1 (.str "from") := by
        unfold wordD
        rw [bfalse e5, Bool.false_or]
      rw [e] at q
      exact q
def sp_fits (K : PySem.W.Frag) : Sp := fun vs H Q _ => ∃ (Z : Addr → Prop) (v : V) (d : PyData) (m : Int), vs = [.int m, v] ∧ Dx K Z H v d ∧
  ∀ H', Same H H' → Q (.bl (testD m d)) H'
theorem Txt.ok_fits (T : Txt K mg A D) : FnOk P w K mg base CX0 2 (A 16) (D 16) ["many", "value"] (sp_fits K) := by
  refine T.F_fits.ok sc_fits (fun vs H Q E h => ?_) (fun cdv Ar outer s H vs Q E hr h => ?_)
  · obtain ⟨Z, v, d, m, rfl, _⟩ := h
    rfl
  · obtain ⟨Z, v, d, m, rfl, hd, q⟩ := h
    refine ⟨_, (pss_cons (ps_if (PW.pt (pw_or (pt_not (pt_val (pe_callB call_isi (by rfl) T.z_isinstance (by decide +kernel) (pa_cons (pv 1) (pa_cons (pe_bltn (v := .ty "tuple") (by rfl) T.z_tuple (by decide +kernel) rfl) pa_nil))))) (pw_or (pt_cmpR op_ne (pe_callB call_len_seq (by rfl) T.z_len (by decide +kernel) (pa_cons (pv 1) pa_nil)) pe_int (nomark _)) (pw_or1 (pt_not (pt_val (pe_callB call_isi (by rfl) T.z_isinstance (by decide +kernel) (pa_cons (pe_ix ix_tup (pv 1) pe_int (fun _ _ => rfl)) (pa_cons (pe_bltn (v := .ty "str") (by rfl) T.z_str (by decide +kernel) rfl) pa_nil))))))))) (pss_one (ps_ret pe_bl)) pss_nil)
    (pss_one (ps_ret (pe_and (pe_call (T.ok_is_whole) hr (by rfl) T.g_is_whole T.k_is_whole T.b_is_whole .nil pass0 (pa_cons (pe_ix ix_tup (pv 1) pe_int (fun _ _ => rfl)) (pa_cons pe_int (pa_cons (pe_op op_sub (pv 0) pe_int) pa_nil)))) (pe_and (pe_cmpR op_in_seq (pe_ix ix_tup (pv 1) pe_int (fun _ _ => rfl)) (pe_tup (pa_cons pe_str (pa_cons pe_str pa_nil))) (by rfl)) (pe_one (pe_call (T.ok_is_whole) hr (by rfl) T.g_is_whole T.k_is_whole T.b_is_whole .nil pass0 (pa_cons (pe_ix ix_tup (pv 1) pe_int (fun _ _ => rfl)) (pa_cons pe_int (pa_cons pe_int pa_nil)))))))))), ?_⟩
    refine ⟨_, rfl, _, _, _, _, isTup d, rfl, .ty "tuple", dx_ty hd, kit_tup d, _, rfl, ite2 (fun e1 => ?_) (fun e1 => ?_)⟩
    · rw [test_tup (nb e1)] at q
      exact iteT (q H (Same.refl _))
    obtain ⟨ds, rfl⟩ := tup_of (bt e1)
    obtain ⟨a, xs, rfl, hS, dx⟩ := dx_tup hd
    have lx := dxAll_len dx
    refine ⟨_, rfl, a, xs, rfl, .inr hS, rfl, _, rfl, ite2 (fun e2 => ?_) (fun e2 => ?_)⟩
    · have n3 : ds.length ≠ 3 := fun z => vne e2 (by rw [lx, z]; rfl)
      rw [test_len n3] at q
      exact iteT (q H (Same.refl _))
    have l3 : ds.length = 3 := by
      have := V.int.inj (veq e2)
      omega
    obtain ⟨d0, d1, d2, rfl⟩ := three_of l3
    obtain ⟨x0, x1, x2, rfl, dx0, dx1, dx2⟩ := dxAll_three dx
    have val : testD m (.tuple [d0, d1, d2]) = (wholeD d0 0 (m - 1) && wholeD d2 1 4 && wordD d1) := rfl
    rw [val] at q
    refine ⟨_, rfl, a, _, _, _, rfl, rfl, hS, ix1, _, _, _, _, isStr d1, rfl, .ty "str", dx_ty dx1, kit_str d1, _, rfl, ite2 (fun e3 => ?_) (fun e3 => ?_)⟩
    · rw [word_no (nb e3), Bool.and_false] at q
      exact q H (Same.refl _)
    obtain ⟨z, rfl⟩ := str_of (bt e3)
    have ev := dx_str dx1
    subst ev
    refine ⟨_, rfl, a, _, _, _, rfl, rfl, hS, ix0, _, rfl, _, _, rfl, rfl, Z, x0, d0, 0, m - 1, rfl, dx0, _, rfl, ite2 (fun e4 => ?_) (fun e4 => ?_)⟩
    · rw [e4, Bool.true_and] at q
      refine ⟨_, rfl, a, _, _, _, rfl, rfl, hS, ix1, (by show 2 ≤ sizeLine; decide), fun p hp => ⟨p, _, rfl, .inr (SqT.of upd_same), rfl, rfl, _, rfl, ite2 (fun e5 => ?_) (fun e5 => ?_)⟩⟩
      · have e : wordD (.str z) = true := by
          rw [← word_in]
          exact e5
        rw [e, Bool.and_true] at q
        have sm := same_new (o := .tup [.str "below", .str "from"]) hp
        exact ⟨_, rfl, a, _, _, _, rfl, rfl, Ev.Same.seqT sm hS, atI_nat (j := 2) rfl, Z, x2, d2, 1, 4, rfl, dx_same sm dx2, q _ sm⟩
      · have e : wordD (.str z) = false := by
          rw [← word_in]
          exact bfalse e5
        rw [e, Bool.and_false] at q
        exact q _ (same_new hp)
    · rw [bfalse e4, Bool.false_and, Bool.false_and] at q
      exact q H (Same.refl _)
end
end Ev

set_option exponentiation.threshold 10000
namespace Ev
open PySem PySem.Spec PyProof.Rows L2
def isW (w : Str) : Prop := w = "below" ∨ w = "from"
theorem isW_dt {w : Str} (h : isW w) : Dt 6 0 (.str w) := by
  rcases h with rfl | rfl <;> exact ⟨by decide +kernel, by decide +kernel, by decide +kernel⟩
theorem isW_sh {w : Str} (h : isW w) : SeqAt.shaped (.str w) = true := by
  rcases h with rfl | rfl <;> decide +kernel
theorem isW_sl {w : Str} (h : isW w) : SeqAt.shaped (.list [.str w]) = true := by
  rcases h with rfl | rfl <;> decide +kernel
section
variable {P : Program} {w : World} {K : PySem.W.Frag} {mg : Str → Option Value} {base : Heap} {A : Nat → Addr} {D : Nat → FuncData}
def sp_test (K : PySem.W.Frag) : Sp := fun vs H Q _ => ∃ (L F : Addr) (m : Int), vs = [.ref L, .int m] ∧ Lm H L F ∧ 1 ≤ m ∧ m ≤ 3 ∧
  ∀ (H' : Hp) (p : Addr) (c : Int) (wd : Str) (n : Int), Kp L F H H' → Lm H' L F → SqT K H' p [.int c, .str wd, .int n] → 0 ≤ c → c ≤ 2 → isW wd → 1 ≤ n → n ≤ 4 → Q (.ref p) H'
theorem Txt.ok_test (T : Txt K mg A D) : FnOk P w K mg base CX0 3 (A 15) (D 15) ["loom", "many"] (sp_test K) := by
  refine T.F_test.ok sc_test (fun vs H Q E h => ?_) (fun cdv Ar outer s H vs Q E hr h => ?_)
  · obtain ⟨L, F, m, rfl, _⟩ := h
    rfl
  · obtain ⟨L, F, m, rfl, hM, m1, m3, q⟩ := h
    refine ⟨_, (pss_one (ps_ret (pe_tup (pa_cons (pe_call (T.ok_draw) (hr.mono (by decide)) (by rfl) T.g_draw T.k_draw T.b_draw .nil pass0 (pa_cons (pv 0) (pa_cons (pv 1) pa_nil))) (pa_cons (pe_call (T.ok_pick) hr (by rfl) T.g_pick T.k_pick T.b_pick .nil pass0 (pa_cons (pv 0) (pa_cons (pe_lst (pa_cons pe_str (pa_cons pe_str pa_nil))) pa_nil))) (pa_cons (pe_op op_add pe_int (pe_call (T.ok_draw) (hr.mono (by decide)) (by rfl) T.g_draw T.k_draw T.b_draw .nil pass0 (pa_cons (pv 0) (pa_cons pe_int pa_nil)))) pa_nil)))))), ?_⟩
    refine ⟨_, rfl, _, rfl, L, F, m, rfl, hM, by omega, fun H1 c kp1 hM1 c0 c1 => ?_⟩
    refine ⟨_, rfl, (by show 2 ≤ sizeLine; decide), fun a1 b1 => ?_⟩
    have n1 := hM1.ne b1
    refine ⟨L, F, a1, _, rfl, hM1.new b1, SqL.of upd_same, n1.1, n1.2, (by show 0 < 2; decide), (by show 2 < 1073741824; decide), fun H2 i x kp2 hM2 hx => ?_⟩
    obtain ⟨wd, rfl, hw⟩ : ∃ wd : Str, x = .str wd ∧ isW wd := by
      have hx' := List.mem_of_getElem? hx
      simp only [List.mem_cons, List.not_mem_nil, or_false] at hx'
      rcases hx' with rfl | rfl
      · exact ⟨_, rfl, .inl rfl⟩
      · exact ⟨_, rfl, .inr rfl⟩
    refine ⟨_, rfl, L, F, 4, rfl, hM2, by decide, fun H3 n kp3 hM3 n0 n4 => ⟨_, _, rfl, rfl, (by show 3 ≤ sizeLine; decide), fun p hp => ?_⟩⟩
    exact q _ _ _ _ _ (((kp1.trans (Kp.new b1)).trans kp2).trans (kp3.trans (Kp.new hp))) (hM3.new hp) (SqT.of upd_same) c0 (by omega) hw (by omega) (by omega)
def sp_bent_test (K : PySem.W.Frag) : Sp := fun vs H Q _ => ∃ (L F a : Addr) (c : Int) (w : Str) (n : Int), vs = [.ref L, .ref a] ∧ Lm H L F ∧ SqT K H a [.int c, .str w, .int n] ∧ 0 ≤ c ∧ c ≤ 2 ∧ isW w ∧ 1 ≤ n ∧ n ≤ 4 ∧
  ∀ (H' : Hp) (v : V) (d : PyData), Kp L F H H' → Lm H' L F → Dx K (ZN L F H) H' v d → Dt 40 4 d → wordOk d → Q v H'
theorem Txt.ok_bent_test (T : Txt K mg A D) : FnOk P w K mg base CX0 3 (A 18) (D 18) ["loom", "test"] (sp_bent_test K) := by
  refine T.F_bent_test.ok sc_bent_test (fun vs H Q E h => ?_) (fun cdv Ar outer s H vs Q E hr h => ?_)
  · obtain ⟨L, F, a, c, w, n, rfl, _⟩ := h
    rfl
  · obtain ⟨L, F, a, c, w, n, rfl, hM, hA, c0, c2, hw, n1, n4, q⟩ := h
    refine ⟨_, (pss_cons (ps_asg (pv 1) (pg_tup rfl (pgs_cons (pg_name (i := 2) sc_bent_test.nd rfl (Or.inl rfl)) (pgs_cons (pg_name (i := 3) sc_bent_test.nd rfl (Or.inl rfl)) (pgs_cons (pg_name (i := 4) sc_bent_test.nd rfl (Or.inl rfl)) pgs_nil)))))
    (pss_cons (ps_set (i := 5) sc_bent_test.nd rfl (Or.inl rfl) (pe_lst (pa_cons (pe_tup (pa_cons (pe_op op_add (pv 2) pe_int) (pa_cons (pv 3) (pa_cons (pv 4) pa_nil)))) (pa_cons (pe_tup (pa_cons (pe_op op_sub (pv 2) pe_int) (pa_cons (pv 3) (pa_cons (pv 4) pa_nil)))) (pa_cons (pe_tup (pa_cons pe_int (pa_cons (pv 3) (pa_cons (pv 4) pa_nil)))) (pa_cons (pe_tup (pa_cons pe_bl (pa_cons (pv 3) (pa_cons (pv 4) pa_nil)))) pa_nil))))))
    (pss_cons (ps_set (i := 5) sc_bent_test.nd rfl (Or.inl rfl) (pe_op op_cat (pv 5) (pe_lst (pa_cons (pe_tup (pa_cons (pv 2) (pa_cons (pv 3) (pa_cons pe_int pa_nil)))) (pa_cons (pe_tup (pa_cons (pv 2) (pa_cons (pv 3) (pa_cons pe_int pa_nil)))) (pa_cons (pe_tup (pa_cons (pv 2) (pa_cons (pv 3) (pa_cons pe_bl pa_nil)))) pa_nil))))))
    (pss_cons (ps_set (i := 5) sc_bent_test.nd rfl (Or.inl rfl) (pe_op op_cat (pv 5) (pe_lst (pa_cons (pe_tup (pa_cons (pv 2) (pa_cons pe_str (pa_cons (pv 4) pa_nil)))) (pa_cons (pe_tup (pa_cons (pv 2) (pa_cons pe_str (pa_cons (pv 4) pa_nil)))) (pa_cons (pe_tup (pa_cons (pv 2) (pa_cons (pv 4) (pa_cons (pv 3) pa_nil)))) (pa_cons (pe_tup (pa_cons (pv 2) (pa_cons (pv 3) pa_nil))) (pa_cons (pe_tup (pa_cons (pv 2) (pa_cons (pv 3) (pa_cons (pv 4) (pa_cons pe_int pa_nil))))) (pa_cons (pe_lst (pa_cons (pv 2) (pa_cons (pv 3) (pa_cons (pv 4) pa_nil)))) (pa_cons (pe_tup (pa_cons (pv 3) (pa_cons (pv 2) (pa_cons (pv 4) pa_nil)))) pa_nil))))))))))
    (pss_cons (ps_set (i := 5) sc_bent_test.nd rfl (Or.inl rfl) (pe_op op_cat (pv 5) (pe_lst (pa_cons (pe_tup (pa_cons (pv 2) (pa_cons (pe_lst (pa_cons (pv 3) pa_nil)) (pa_cons (pv 4) pa_nil)))) (pa_cons (pe_tup (pa_cons (pv 2) (pa_cons (pv 3) (pa_cons (pe_callTy call_str_int (by rfl) T.z_str (by decide +kernel) (pa_cons (pv 4) pa_nil)) pa_nil)))) (pa_cons (pe_tup (pa_cons (pe_callTy call_str_int (by rfl) T.z_str (by decide +kernel) (pa_cons (pv 2) pa_nil)) (pa_cons (pv 3) (pa_cons (pv 4) pa_nil)))) (pa_cons (pe_tup (pa_cons (pv 2) (pa_cons pe_non (pa_cons (pv 4) pa_nil)))) (pa_cons (pe_tup (pa_cons (pv 2) (pa_cons (pv 3) (pa_cons (pe_op op_pow pe_int pe_int) pa_nil)))) pa_nil))))))))
    (pss_one (ps_ret (pe_call (T.ok_pick) hr (by rfl) T.g_pick T.k_pick T.b_pick .nil pass0 (pa_cons (pv 0) (pa_cons (pv 5) pa_nil)))))))))), ?_⟩
    have z : ∀ n : Nat, n ≤ 100 → n ≤ sizeLine := fun n h => Nat.le_trans h (by decide)
    have dtw := isW_dt hw
    have shw := isW_sh hw
    have shl := isW_sl hw
    have sdtN : Dt 3 0 (.str (Str.ofString (toString n))) := by
      have : n = 1 ∨ n = 2 ∨ n = 3 ∨ n = 4 := by omega
      rcases this with rfl | rfl | rfl | rfl <;> exact ⟨by decide +kernel, by decide +kernel, by decide +kernel⟩
    have slogN : n.natAbs.log2 < 1920 := Nat.lt_trans (PySem.Flt.log2_lt_of (n := n.natAbs) (k := 10) (by decide) (by omega)) (by decide)
    have sdtC : Dt 3 0 (.str (Str.ofString (toString c))) := by
      have : c = 0 ∨ c = 1 ∨ c = 2 := by omega
      rcases this with rfl | rfl | rfl <;> exact ⟨by decide +kernel, by decide +kernel, by decide +kernel⟩
    have slogC : c.natAbs.log2 < 1920 := Nat.lt_trans (PySem.Flt.log2_lt_of (n := c.natAbs) (k := 10) (by decide) (by omega)) (by decide)
    refine ⟨_, rfl, a, _, rfl, hA, rfl, _, _, rfl, _, _, rfl, _, _, rfl, rfl, ?_⟩
    have M0 := hM
    have c0' : Kp L F H H := fun _ _ _ _ e => e
    refine ⟨_, rfl, _, _, rfl, rfl, _, rfl, _, rfl, z 3 (by decide), fun p1 h1 => ?_⟩
    generalize g1 : upd H p1 (HO.tup [V.int (c + 1), V.str w, V.int n]) = G1
    obtain ⟨M1, j1, e1, l1, f1⟩ := al_eq g1 M0 h1
    clear g1
    have c1 := c0'.trans j1
    refine ⟨_, rfl, _, _, rfl, rfl, _, rfl, _, rfl, z 3 (by decide), fun p2 h2 => ?_⟩
    generalize g2 : upd G1 p2 (HO.tup [V.int (c - 1), V.str w, V.int n]) = G2
    obtain ⟨M2, j2, e2, l2, f2⟩ := al_eq g2 M1 h2
    clear g2
    have c2 := c1.trans j2
    refine ⟨_, rfl, _, rfl, z 3 (by decide), fun p3 h3 => ?_⟩
    generalize g3 : upd G2 p3 (HO.tup [V.int 3, V.str w, V.int n]) = G3
    obtain ⟨M3, j3, e3, l3, f3⟩ := al_eq g3 M2 h3
    clear g3
    have c3 := c2.trans j3
    refine ⟨_, rfl, _, rfl, z 3 (by decide), fun p4 h4 => ?_⟩
    generalize g4 : upd G3 p4 (HO.tup [V.bl true, V.str w, V.int n]) = G4
    obtain ⟨M4, j4, e4, l4, f4⟩ := al_eq g4 M3 h4
    clear g4
    have c4 := c3.trans j4
    refine ⟨z 4 (by decide), fun p5 h5 => ?_⟩
    generalize g5 : upd G4 p5 (HO.lst [V.ref p1, V.ref p2, V.ref p3, V.ref p4]) = G5
    obtain ⟨M5, j5, e5, l5, f5⟩ := al_eq g5 M4 h5
    clear g5
    have c5 := c4.trans j5
    refine ⟨_, rfl, _, rfl, _, rfl, z 3 (by decide), fun p6 h6 => ?_⟩
    generalize g6 : upd G5 p6 (HO.tup [V.int c, V.str w, V.int 0]) = G6
    obtain ⟨M6, j6, e6, l6, f6⟩ := al_eq g6 M5 h6
    clear g6
    have c6 := c5.trans j6
    refine ⟨_, rfl, _, rfl, z 3 (by decide), fun p7 h7 => ?_⟩
    generalize g7 : upd G6 p7 (HO.tup [V.int c, V.str w, V.int 5]) = G7
    obtain ⟨M7, j7, e7, l7, f7⟩ := al_eq g7 M6 h7
    clear g7
    have c7 := c6.trans j7
    refine ⟨_, rfl, _, rfl, z 3 (by decide), fun p8 h8 => ?_⟩
    generalize g8 : upd G7 p8 (HO.tup [V.int c, V.str w, V.bl true]) = G8
    obtain ⟨M8, j8, e8, l8, f8⟩ := al_eq g8 M7 h8
    clear g8
    have c8 := c7.trans j8
    refine ⟨z 3 (by decide), fun p9 h9 => ?_⟩
    generalize g9 : upd G8 p9 (HO.lst [V.ref p6, V.ref p7, V.ref p8]) = G9
    obtain ⟨M9, j9, e9, l9, f9⟩ := al_eq g9 M8 h9
    clear g9
    have c9 := c8.trans j9
    have a10 := (j6.trans (j7.trans (j8.trans j9))) p5 _ l5 f5 e5
    refine ⟨p5, p9, _, _, rfl, rfl, a10, e9, (by show 7 ≤ sizeLine; decide), fun p10 h10 => ?_⟩
    generalize g10 : upd G9 p10 (HO.lst ([V.ref p1, V.ref p2, V.ref p3, V.ref p4] ++ [V.ref p6, V.ref p7, V.ref p8])) = G10
    obtain ⟨M10, j10, e10, l10, f10⟩ := al_eq g10 M9 h10
    clear g10
    have c10 := c9.trans j10
    refine ⟨_, rfl, _, rfl, _, rfl, z 3 (by decide), fun p11 h11 => ?_⟩
    generalize g11 : upd G10 p11 (HO.tup [V.int c, V.str "above", V.int n]) = G11
    obtain ⟨M11, j11, e11, l11, f11⟩ := al_eq g11 M10 h11
    clear g11
    have c11 := c10.trans j11
    refine ⟨_, rfl, _, rfl, z 3 (by decide), fun p12 h12 => ?_⟩
    generalize g12 : upd G11 p12 (HO.tup [V.int c, V.str "Below", V.int n]) = G12
    obtain ⟨M12, j12, e12, l12, f12⟩ := al_eq g12 M11 h12
    clear g12
    have c12 := c11.trans j12
    refine ⟨_, rfl, _, rfl, _, rfl, z 3 (by decide), fun p13 h13 => ?_⟩
    generalize g13 : upd G12 p13 (HO.tup [V.int c, V.int n, V.str w]) = G13
    obtain ⟨M13, j13, e13, l13, f13⟩ := al_eq g13 M12 h13
    clear g13
    have c13 := c12.trans j13
    refine ⟨_, rfl, _, rfl, z 2 (by decide), fun p14 h14 => ?_⟩
    generalize g14 : upd G13 p14 (HO.tup [V.int c, V.str w]) = G14
    obtain ⟨M14, j14, e14, l14, f14⟩ := al_eq g14 M13 h14
    clear g14
    have c14 := c13.trans j14
    refine ⟨_, rfl, _, rfl, _, rfl, z 4 (by decide), fun p15 h15 => ?_⟩
    generalize g15 : upd G14 p15 (HO.tup [V.int c, V.str w, V.int n, V.int 0]) = G15
    obtain ⟨M15, j15, e15, l15, f15⟩ := al_eq g15 M14 h15
    clear g15
    have c15 := c14.trans j15
    refine ⟨_, rfl, _, rfl, _, rfl, z 3 (by decide), fun p16 h16 => ?_⟩
    generalize g16 : upd G15 p16 (HO.lst [V.int c, V.str w, V.int n]) = G16
    obtain ⟨M16, j16, e16, l16, f16⟩ := al_eq g16 M15 h16
    clear g16
    have c16 := c15.trans j16
    refine ⟨_, rfl, _, rfl, _, rfl, z 3 (by decide), fun p17 h17 => ?_⟩
    generalize g17 : upd G16 p17 (HO.tup [V.str w, V.int c, V.int n]) = G17
    obtain ⟨M17, j17, e17, l17, f17⟩ := al_eq g17 M16 h17
    clear g17
    have c17 := c16.trans j17
    refine ⟨z 7 (by decide), fun p18 h18 => ?_⟩
    generalize g18 : upd G17 p18 (HO.lst [V.ref p11, V.ref p12, V.ref p13, V.ref p14, V.ref p15, V.ref p16, V.ref p17]) = G18
    obtain ⟨M18, j18, e18, l18, f18⟩ := al_eq g18 M17 h18
    clear g18
    have c18 := c17.trans j18
    have a19 := (j11.trans (j12.trans (j13.trans (j14.trans (j15.trans (j16.trans (j17.trans j18))))))) p10 _ l10 f10 e10
    refine ⟨p10, p18, _, _, rfl, rfl, a19, e18, (by show 14 ≤ sizeLine; decide), fun p19 h19 => ?_⟩
    generalize g19 : upd G18 p19 (HO.lst ([V.ref p1, V.ref p2, V.ref p3, V.ref p4] ++ [V.ref p6, V.ref p7, V.ref p8] ++ [V.ref p11, V.ref p12, V.ref p13, V.ref p14, V.ref p15, V.ref p16, V.ref p17])) = G19
    obtain ⟨M19, j19, e19, l19, f19⟩ := al_eq g19 M18 h19
    clear g19
    have c19 := c18.trans j19
    refine ⟨_, rfl, _, rfl, _, rfl, z 1 (by decide), fun p20 h20 => ?_⟩
    generalize g20 : upd G19 p20 (HO.lst [V.str w]) = G20
    obtain ⟨M20, j20, e20, l20, f20⟩ := al_eq g20 M19 h20
    clear g20
    have c20 := c19.trans j20
    refine ⟨_, rfl, z 3 (by decide), fun p21 h21 => ?_⟩
    generalize g21 : upd G20 p21 (HO.tup [V.int c, V.ref p20, V.int n]) = G21
    obtain ⟨M21, j21, e21, l21, f21⟩ := al_eq g21 M20 h21
    clear g21
    have c21 := c20.trans j21
    refine ⟨_, rfl, _, rfl, _, rfl, _, rfl, slogN, z 3 (by decide), fun p22 h22 => ?_⟩
    generalize g22 : upd G21 p22 (HO.tup [V.int c, V.str w, V.str (Str.ofString (toString n))]) = G22
    obtain ⟨M22, j22, e22, l22, f22⟩ := al_eq g22 M21 h22
    clear g22
    have c22 := c21.trans j22
    refine ⟨_, rfl, _, rfl, slogC, _, rfl, _, rfl, z 3 (by decide), fun p23 h23 => ?_⟩
    generalize g23 : upd G22 p23 (HO.tup [V.str (Str.ofString (toString c)), V.str w, V.int n]) = G23
    obtain ⟨M23, j23, e23, l23, f23⟩ := al_eq g23 M22 h23
    clear g23
    have c23 := c22.trans j23
    refine ⟨_, rfl, _, rfl, z 3 (by decide), fun p24 h24 => ?_⟩
    generalize g24 : upd G23 p24 (HO.tup [V.int c, V.non, V.int n]) = G24
    obtain ⟨M24, j24, e24, l24, f24⟩ := al_eq g24 M23 h24
    clear g24
    have c24 := c23.trans j24
    refine ⟨_, rfl, _, rfl, _, _, rfl, rfl, ⟨by decide, by decide, by decide⟩, z 3 (by decide), fun p25 h25 => ?_⟩
    generalize g25 : upd G24 p25 (HO.tup [V.int c, V.str w, V.int (10 ^ (30 : Int).toNat)]) = G25
    obtain ⟨M25, j25, e25, l25, f25⟩ := al_eq g25 M24 h25
    clear g25
    have c25 := c24.trans j25
    refine ⟨z 5 (by decide), fun p26 h26 => ?_⟩
    generalize g26 : upd G25 p26 (HO.lst [V.ref p21, V.ref p22, V.ref p23, V.ref p24, V.ref p25]) = G26
    obtain ⟨M26, j26, e26, l26, f26⟩ := al_eq g26 M25 h26
    clear g26
    have c26 := c25.trans j26
    have a27 := (j20.trans (j21.trans (j22.trans (j23.trans (j24.trans (j25.trans j26)))))) p19 _ l19 f19 e19
    refine ⟨p19, p26, _, _, rfl, rfl, a27, e26, (by show 19 ≤ sizeLine; decide), fun p27 h27 => ?_⟩
    generalize g27 : upd G26 p27 (HO.lst ([V.ref p1, V.ref p2, V.ref p3, V.ref p4] ++ [V.ref p6, V.ref p7, V.ref p8] ++ [V.ref p11, V.ref p12, V.ref p13, V.ref p14, V.ref p15, V.ref p16, V.ref p17] ++ [V.ref p21, V.ref p22, V.ref p23, V.ref p24, V.ref p25])) = G27
    obtain ⟨M27, j27, e27, l27, f27⟩ := al_eq g27 M26 h27
    clear g27
    have c27 := c26.trans j27
    have kk27 : Kp L F G27 G27 := fun _ _ _ _ e => e
    have kk26 := j27.trans kk27
    have kk25 := j26.trans kk26
    have kk24 := j25.trans kk25
    have kk23 := j24.trans kk24
    have kk22 := j23.trans kk23
    have kk21 := j22.trans kk22
    have kk20 := j21.trans kk21
    have kk19 := j20.trans kk20
    have kk18 := j19.trans kk19
    have kk17 := j18.trans kk18
    have kk16 := j17.trans kk17
    have kk15 := j16.trans kk16
    have kk14 := j15.trans kk15
    have kk13 := j14.trans kk14
    have kk12 := j13.trans kk13
    have kk11 := j12.trans kk12
    have kk10 := j11.trans kk11
    have kk9 := j10.trans kk10
    have kk8 := j9.trans kk9
    have kk7 := j8.trans kk8
    have kk6 := j7.trans kk7
    have kk5 := j6.trans kk6
    have kk4 := j5.trans kk5
    have kk3 := j4.trans kk4
    have kk2 := j3.trans kk3
    have kk1 := j2.trans kk2
    have kk0 := j1.trans kk1
    have q1 := kk1 p1 _ l1 f1 e1
    have q2 := kk2 p2 _ l2 f2 e2
    have q3 := kk3 p3 _ l3 f3 e3
    have q4 := kk4 p4 _ l4 f4 e4
    have q5 := kk5 p5 _ l5 f5 e5
    have q6 := kk6 p6 _ l6 f6 e6
    have q7 := kk7 p7 _ l7 f7 e7
    have q8 := kk8 p8 _ l8 f8 e8
    have q9 := kk9 p9 _ l9 f9 e9
    have q10 := kk10 p10 _ l10 f10 e10
    have q11 := kk11 p11 _ l11 f11 e11
    have q12 := kk12 p12 _ l12 f12 e12
    have q13 := kk13 p13 _ l13 f13 e13
    have q14 := kk14 p14 _ l14 f14 e14
    have q15 := kk15 p15 _ l15 f15 e15
    have q16 := kk16 p16 _ l16 f16 e16
    have q17 := kk17 p17 _ l17 f17 e17
    have q18 := kk18 p18 _ l18 f18 e18
    have q19 := kk19 p19 _ l19 f19 e19
    have q20 := kk20 p20 _ l20 f20 e20
    have q21 := kk21 p21 _ l21 f21 e21
    have q22 := kk22 p22 _ l22 f22 e22
    have q23 := kk23 p23 _ l23 f23 e23
    have q24 := kk24 p24 _ l24 f24 e24
    have q25 := kk25 p25 _ l25 f25 e25
    have q26 := kk26 p26 _ l26 f26 e26
    have q27 := kk27 p27 _ l27 f27 e27
    refine ⟨_, rfl, _, rfl, L, F, p27, _, rfl, M27, SqL.of e27, l27, f27, (by show 0 < 19; decide), (by show 19 < 1073741824; decide), fun H9 i x kp hM9 hx => ?_⟩
    have main : ∃ d, Dx K (ZN L F H) G27 x d ∧ Dt 40 4 d ∧ wordOk d := by
      have hx' := List.mem_of_getElem? hx
      simp only [List.cons_append, List.nil_append, List.mem_cons, List.not_mem_nil, or_false] at hx'
      rcases hx' with rfl | rfl | rfl | rfl | rfl | rfl | rfl | rfl | rfl | rfl | rfl | rfl | rfl | rfl | rfl | rfl | rfl | rfl | rfl
      · exact ⟨_, (.tup (SqT.of q1) (.cons (.int _) (.cons (.str _) (.cons (.int _) .nil)))), (Dts.tuple (Dts.cons (dt_small (by omega)) (Dts.cons dtw (Dts.cons (dt_small (by omega)) Dts.nil)))).le (by decide +kernel) (by decide +kernel), by first | exact True.intro | exact ⟨rfl, rfl⟩ | exact ⟨rfl, shw⟩ | exact ⟨rfl, shl⟩ | exact ⟨rfl, by decide +kernel⟩⟩
      · exact ⟨_, (.tup (SqT.of q2) (.cons (.int _) (.cons (.str _) (.cons (.int _) .nil)))), (Dts.tuple (Dts.cons (dt_small (by omega)) (Dts.cons dtw (Dts.cons (dt_small (by omega)) Dts.nil)))).le (by decide +kernel) (by decide +kernel), by first | exact True.intro | exact ⟨rfl, rfl⟩ | exact ⟨rfl, shw⟩ | exact ⟨rfl, shl⟩ | exact ⟨rfl, by decide +kernel⟩⟩
      · exact ⟨_, (.tup (SqT.of q3) (.cons (.int _) (.cons (.str _) (.cons (.int _) .nil)))), (Dts.tuple (Dts.cons (dt_small (by decide)) (Dts.cons dtw (Dts.cons (dt_small (by omega)) Dts.nil)))).le (by decide +kernel) (by decide +kernel), by first | exact True.intro | exact ⟨rfl, rfl⟩ | exact ⟨rfl, shw⟩ | exact ⟨rfl, shl⟩ | exact ⟨rfl, by decide +kernel⟩⟩
      · exact ⟨_, (.tup (SqT.of q4) (.cons (.bl _) (.cons (.str _) (.cons (.int _) .nil)))), (Dts.tuple (Dts.cons (dt_bool _) (Dts.cons dtw (Dts.cons (dt_small (by omega)) Dts.nil)))).le (by decide +kernel) (by decide +kernel), by first | exact True.intro | exact ⟨rfl, rfl⟩ | exact ⟨rfl, shw⟩ | exact ⟨rfl, shl⟩ | exact ⟨rfl, by decide +kernel⟩⟩
      · exact ⟨_, (.tup (SqT.of q6) (.cons (.int _) (.cons (.str _) (.cons (.int _) .nil)))), (Dts.tuple (Dts.cons (dt_small (by omega)) (Dts.cons dtw (Dts.cons (dt_small (by decide)) Dts.nil)))).le (by decide +kernel) (by decide +kernel), by first | exact True.intro | exact ⟨rfl, rfl⟩ | exact ⟨rfl, shw⟩ | exact ⟨rfl, shl⟩ | exact ⟨rfl, by decide +kernel⟩⟩
      · exact ⟨_, (.tup (SqT.of q7) (.cons (.int _) (.cons (.str _) (.cons (.int _) .nil)))), (Dts.tuple (Dts.cons (dt_small (by omega)) (Dts.cons dtw (Dts.cons (dt_small (by decide)) Dts.nil)))).le (by decide +kernel) (by decide +kernel), by first | exact True.intro | exact ⟨rfl, rfl⟩ | exact ⟨rfl, shw⟩ | exact ⟨rfl, shl⟩ | exact ⟨rfl, by decide +kernel⟩⟩
      · exact ⟨_, (.tup (SqT.of q8) (.cons (.int _) (.cons (.str _) (.cons (.bl _) .nil)))), (Dts.tuple (Dts.cons (dt_small (by omega)) (Dts.cons dtw (Dts.cons (dt_bool _) Dts.nil)))).le (by decide +kernel) (by decide +kernel), by first | exact True.intro | exact ⟨rfl, rfl⟩ | exact ⟨rfl, shw⟩ | exact ⟨rfl, shl⟩ | exact ⟨rfl, by decide +kernel⟩⟩
      · exact ⟨_, (.tup (SqT.of q11) (.cons (.int _) (.cons (.str _) (.cons (.int _) .nil)))), (Dts.tuple (Dts.cons (dt_small (by omega)) (Dts.cons (dt_str (by decide +kernel)) (Dts.cons (dt_small (by omega)) Dts.nil)))).le (by decide +kernel) (by decide +kernel), by first | exact True.intro | exact ⟨rfl, rfl⟩ | exact ⟨rfl, shw⟩ | exact ⟨rfl, shl⟩ | exact ⟨rfl, by decide +kernel⟩⟩
      · exact ⟨_, (.tup (SqT.of q12) (.cons (.int _) (.cons (.str _) (.cons (.int _) .nil)))), (Dts.tuple (Dts.cons (dt_small (by omega)) (Dts.cons (dt_str (by decide +kernel)) (Dts.cons (dt_small (by omega)) Dts.nil)))).le (by decide +kernel) (by decide +kernel), by first | exact True.intro | exact ⟨rfl, rfl⟩ | exact ⟨rfl, shw⟩ | exact ⟨rfl, shl⟩ | exact ⟨rfl, by decide +kernel⟩⟩
      · exact ⟨_, (.tup (SqT.of q13) (.cons (.int _) (.cons (.int _) (.cons (.str _) .nil)))), (Dts.tuple (Dts.cons (dt_small (by omega)) (Dts.cons (dt_small (by omega)) (Dts.cons dtw Dts.nil)))).le (by decide +kernel) (by decide +kernel), by first | exact True.intro | exact ⟨rfl, rfl⟩ | exact ⟨rfl, shw⟩ | exact ⟨rfl, shl⟩ | exact ⟨rfl, by decide +kernel⟩⟩
      · exact ⟨_, (.tup (SqT.of q14) (.cons (.int _) (.cons (.str _) .nil))), (Dts.tuple (Dts.cons (dt_small (by omega)) (Dts.cons dtw Dts.nil))).le (by decide +kernel) (by decide +kernel), by first | exact True.intro | exact ⟨rfl, rfl⟩ | exact ⟨rfl, shw⟩ | exact ⟨rfl, shl⟩ | exact ⟨rfl, by decide +kernel⟩⟩
      · exact ⟨_, (.tup (SqT.of q15) (.cons (.int _) (.cons (.str _) (.cons (.int _) (.cons (.int _) .nil))))), (Dts.tuple (Dts.cons (dt_small (by omega)) (Dts.cons dtw (Dts.cons (dt_small (by omega)) (Dts.cons (dt_small (by decide)) Dts.nil))))).le (by decide +kernel) (by decide +kernel), by first | exact True.intro | exact ⟨rfl, rfl⟩ | exact ⟨rfl, shw⟩ | exact ⟨rfl, shl⟩ | exact ⟨rfl, by decide +kernel⟩⟩
      · exact ⟨_, (.lst q16 ⟨l16, f16, none_back c15 h16 l16 f16⟩ (.cons (.int _) (.cons (.str _) (.cons (.int _) .nil)))), (Dts.list (Dts.cons (dt_small (by omega)) (Dts.cons dtw (Dts.cons (dt_small (by omega)) Dts.nil)))).le (by decide +kernel) (by decide +kernel), by first | exact True.intro | exact ⟨rfl, rfl⟩ | exact ⟨rfl, shw⟩ | exact ⟨rfl, shl⟩ | exact ⟨rfl, by decide +kernel⟩⟩
      · exact ⟨_, (.tup (SqT.of q17) (.cons (.str _) (.cons (.int _) (.cons (.int _) .nil)))), (Dts.tuple (Dts.cons dtw (Dts.cons (dt_small (by omega)) (Dts.cons (dt_small (by omega)) Dts.nil)))).le (by decide +kernel) (by decide +kernel), by first | exact True.intro | exact ⟨rfl, rfl⟩ | exact ⟨rfl, shw⟩ | exact ⟨rfl, shl⟩ | exact ⟨rfl, by decide +kernel⟩⟩
      · exact ⟨_, (.tup (SqT.of q21) (.cons (.int _) (.cons (.lst q20 ⟨l20, f20, none_back c19 h20 l20 f20⟩ (.cons (.str _) .nil)) (.cons (.int _) .nil)))), (Dts.tuple (Dts.cons (dt_small (by omega)) (Dts.cons (Dts.list (Dts.cons dtw Dts.nil)) (Dts.cons (dt_small (by omega)) Dts.nil)))).le (by decide +kernel) (by decide +kernel), by first | exact True.intro | exact ⟨rfl, rfl⟩ | exact ⟨rfl, shw⟩ | exact ⟨rfl, shl⟩ | exact ⟨rfl, by decide +kernel⟩⟩
      · exact ⟨_, (.tup (SqT.of q22) (.cons (.int _) (.cons (.str _) (.cons (.str _) .nil)))), (Dts.tuple (Dts.cons (dt_small (by omega)) (Dts.cons dtw (Dts.cons sdtN Dts.nil)))).le (by decide +kernel) (by decide +kernel), by first | exact True.intro | exact ⟨rfl, rfl⟩ | exact ⟨rfl, shw⟩ | exact ⟨rfl, shl⟩ | exact ⟨rfl, by decide +kernel⟩⟩
      · exact ⟨_, (.tup (SqT.of q23) (.cons (.str _) (.cons (.str _) (.cons (.int _) .nil)))), (Dts.tuple (Dts.cons sdtC (Dts.cons dtw (Dts.cons (dt_small (by omega)) Dts.nil)))).le (by decide +kernel) (by decide +kernel), by first | exact True.intro | exact ⟨rfl, rfl⟩ | exact ⟨rfl, shw⟩ | exact ⟨rfl, shl⟩ | exact ⟨rfl, by decide +kernel⟩⟩
      · exact ⟨_, (.tup (SqT.of q24) (.cons (.int _) (.cons .non (.cons (.int _) .nil)))), (Dts.tuple (Dts.cons (dt_small (by omega)) (Dts.cons dt_none (Dts.cons (dt_small (by omega)) Dts.nil)))).le (by decide +kernel) (by decide +kernel), by first | exact True.intro | exact ⟨rfl, rfl⟩ | exact ⟨rfl, shw⟩ | exact ⟨rfl, shl⟩ | exact ⟨rfl, by decide +kernel⟩⟩
      · exact ⟨_, (.tup (SqT.of q25) (.cons (.int _) (.cons (.str _) (.cons (.int _) .nil)))), (Dts.tuple (Dts.cons (dt_small (by omega)) (Dts.cons dtw (Dts.cons (dt_int (by decide +kernel)) Dts.nil)))).le (by decide +kernel) (by decide +kernel), by first | exact True.intro | exact ⟨rfl, rfl⟩ | exact ⟨rfl, shw⟩ | exact ⟨rfl, shl⟩ | exact ⟨rfl, by decide +kernel⟩⟩
    obtain ⟨d, hd, dt, wk⟩ := main
    exact q H9 _ d (kk0.trans kp) hM9 (dx_kpn kp M27 hd) dt wk
end
end Ev

set_option exponentiation.threshold 10000
namespace Ev
open PySem PySem.Spec PyProof.Rows L2
def menuL : List Str := ["x", "y", "z", "a", "bc", "ifs", "longname", "es", "doe", "tills", "n", "iffy", "seens", "ors"]
def isN (z : Str) : Prop := z ∈ menuL
theorem isN_dt {z : Str} (h : isN z) : Dt 9 0 (.str z) := by
  have : ∀ z ∈ menuL, (fitx (.str z) && decide (szx (.str z) ≤ 9) && decide (PyData.depth (.str z) ≤ 0)) = true := by decide +kernel
  have := this z h
  rw [Bool.and_eq_true, Bool.and_eq_true, decide_eq_true_eq, decide_eq_true_eq] at this
  exact ⟨this.1.1, this.1.2, this.2⟩
theorem perm_strs {es : List PyData} {ms : List Str} (h : es.Perm (ms.map PyData.str)) : ∃ ns : List Str, es = ns.map PyData.str ∧ ns.Perm ms := by
  let g : PyData → Str := fun d => match d with | .str i => i | _ => ""
  refine ⟨es.map g, ?_, ?_⟩
  · rw [List.map_map]
    refine (List.map_id es).symm.trans (List.map_congr_left fun d hd => ?_)
    obtain ⟨i, _, e⟩ := List.mem_map.mp (h.subset hd)
    rw [← e]
    rfl
  · have z := h.map g
    rw [List.map_map] at z
    have e : List.map (g ∘ PyData.str) ms = ms := by
      refine (List.map_congr_left fun i _ => ?_).trans (List.map_id ms)
      rfl
    rw [e] at z
    exact z
theorem strs_of_dx {K : PySem.W.Frag} {Z : Addr → Prop} {H : Hp} : ∀ {ys : List V} {ns : List Str}, DxAll K Z H ys (ns.map PyData.str) → ys = ns.map V.str
  | _, [], .nil => rfl
  | _, n :: ns, .cons h r => by
    rw [dx_str h, strs_of_dx r]
    rfl
theorem dx_strs {K : PySem.W.Frag} {Z : Addr → Prop} {H : Hp} : ∀ ns : List Str, DxAll K Z H (ns.map V.str) (ns.map PyData.str)
  | [] => .nil
  | n :: ns => .cons (.str n) (dx_strs ns)
section
variable {P : Program} {w : World} {K : PySem.W.Frag} {mg : Str → Option Value} {base : Heap} {A : Nat → Addr} {D : Nat → FuncData}
def sp_names (K : PySem.W.Frag) : Sp := fun vs H Q _ => ∃ (L F : Addr) (m : Int), vs = [.ref L, .int m] ∧ Lm H L F ∧ 1 ≤ m ∧ m ≤ 3 ∧
  ∀ (H' : Hp) (p : Addr) (zs : List Str), Kp L F H H' → Lm H' L F → SqT K H' p (zs.map V.str) → zs.length = m.toNat → (∀ z ∈ zs, isN z) → Q (.ref p) H'
theorem Txt.ok_names (T : Txt K mg A D) : FnOk P w K mg base CX0 3 (A 14) (D 14) ["loom", "many"] (sp_names K) := by
  refine T.F_names.ok sc_names (fun vs H Q E h => ?_) (fun cdv Ar outer s H vs Q E hr h => ?_)
  · obtain ⟨L, F, m, rfl, _⟩ := h
    rfl
  · obtain ⟨L, F, m, rfl, hM, m1, m3, q⟩ := h
    refine ⟨_, (pss_cons (ps_set (i := 2) sc_names.nd rfl (Or.inl rfl) (pe_lst (pa_cons pe_str (pa_cons pe_str (pa_cons pe_str (pa_cons pe_str (pa_cons pe_str (pa_cons pe_str (pa_cons pe_str (pa_cons pe_str (pa_cons pe_str (pa_cons pe_str (pa_cons pe_str (pa_cons pe_str (pa_cons pe_str (pa_cons pe_str pa_nil))))))))))))))))
    (pss_one (ps_ret (pe_callTy call_tuple_of (by rfl) T.z_tuple (by decide +kernel) (pa_cons (pe_slice sl_list (pe_call (T.ok_mixed) hr (by rfl) T.g_mixed T.k_mixed T.b_mixed .nil pass0 (pa_cons (pv 0) (pa_cons (pv 2) pa_nil))) po_none (po_some (pv 1))) pa_nil))))), ?_⟩
    refine ⟨(by show 14 ≤ sizeLine; decide), fun p1 b1 => ?_⟩
    have n1 := hM.ne b1
    refine ⟨_, rfl, _, rfl, L, F, p1, menuL.map V.str, menuL.map PyData.str, rfl, hM.new b1, .inl (SqL.of upd_same), (by decide), dx_strs _, by decide +kernel, by decide +kernel, fun H2 p2 ys es kp2 hM2 _ hp2 n2 n3 dx pm => ?_⟩
    obtain ⟨ns, rfl, pmn⟩ := perm_strs pm
    have ey := strs_of_dx dx
    subst ey
    refine ⟨_, rfl, m, rfl, p2, _, rfl, SqL.of hp2, fun p4 hp4 => ?_⟩
    rw [cut_take (show (0 : Int) ≤ m by omega), ← List.map_take]
    have hM4 := hM2.new (o := .lst ((ns.take m.toNat).map V.str)) hp4
    refine ⟨p4, _, rfl, .inl ⟨SqL.of upd_same, fun p9 hp9 => ?_⟩⟩
    have hl : ns.length = 14 := pmn.length_eq
    refine q _ p9 (ns.take m.toNat) ((((Kp.new b1).trans kp2).trans (Kp.new hp4)).trans (Kp.new hp9)) (hM4.new hp9) (SqT.of upd_same) (by rw [List.length_take, hl]; omega) fun z hz => ?_
    exact pmn.subset (List.mem_of_mem_take hz)
end
end Ev

set_option exponentiation.threshold 10000
namespace Ev
open PySem PySem.Spec PyProof.Rows L2
theorem dct0 : Dt 5 3 (.dict []) := ⟨by decide +kernel, by decide +kernel, by decide +kernel⟩
theorem new_objX {H : Hp} {p L F : Addr} (hM : Lm H L F) (o : HO) (m : H p = none) : ∃ G, upd H p o = G ∧ Same H G ∧ Lm G L F ∧ G p = some o :=
  ⟨_, rfl, same_new m, hM.new m, upd_same⟩
theorem mulok : MulOk (Str.ofString "else") 2 := ⟨by decide +kernel, fun _ _ => by decide +kernel, fun _ _ => by decide +kernel⟩
theorem words_dt {y : Str} (h : y ∈ wordsL) : Dt 20 3 (.str y) := by
  have : ∀ z ∈ wordsL, (fitx (.str z) && decide (szx (.str z) ≤ 20) && decide (PyData.depth (.str z) ≤ 3)) = true := by decide +kernel
  have := this y h
  rw [Bool.and_eq_true, Bool.and_eq_true, decide_eq_true_eq, decide_eq_true_eq] at this
  exact ⟨this.1.1, this.1.2, this.2⟩
theorem cut_drop {xs : List V} {m : Nat} : cutV xs (some (m : Int)) none = xs.drop m := by
  unfold cutV
  rw [HT.sIx_nat, HT.sIx_none]
  rcases Nat.le_total m xs.length with l | l
  · rw [Nat.min_eq_left l]
    exact List.take_of_length_le (by rw [List.length_drop]; exact Nat.le_refl _)
  · rw [Nat.min_eq_right l, List.drop_eq_nil_of_le l, List.drop_eq_nil_of_le (Nat.le_refl _), List.take_nil]
/-- a tuple of small things -/
structure Smt (K : PySem.W.Frag) (Z : Addr → Prop) (H : Hp) (b : Addr) (n : Nat) : Prop where
  ex : ∃ (xs : List V) (ds : List PyData), SqT K H b xs ∧ DxAll K Z H xs ds ∧ ds.length ≤ n ∧ ∀ d ∈ ds, Dt 20 3 d
theorem Smt.app {K : PySem.W.Frag} {Z : Addr → Prop} {H : Hp} {xs ys : List V} {ds es : List PyData} {p : Addr} {n : Nat} (h : SqT K H p (xs ++ ys)) (a : DxAll K Z H xs ds) (b : DxAll K Z H ys es)
    (l : ds.length + es.length ≤ n) (d1 : ∀ d ∈ ds, Dt 20 3 d) (d2 : ∀ d ∈ es, Dt 20 3 d) : Smt K Z H p n :=
  ⟨⟨_, _, h, dxAll_app a b, by rw [List.length_append]; exact l, fun d hd => (List.mem_append.mp hd).elim (d1 d) (d2 d)⟩⟩
theorem Smt.dt {K : PySem.W.Frag} {Z : Addr → Prop} {H : Hp} {p : Addr} {n : Nat} (h : Smt K Z H p n) (hn : n ≤ 12) : ∃ d, Dx K Z H (.ref p) d ∧ Dt 400 6 d := by
  obtain ⟨xs, ds, hs, dx, l, dd⟩ := h.ex
  refine ⟨.tuple ds, .tup hs dx, ((Dts.tuple (dts_all dd)).le ?_ (by decide))⟩
  have := Nat.mul_le_mul_right 20 (Nat.le_trans l hn)
  omega
theorem Smt.kp {K : PySem.W.Frag} {L F : Addr} {B H H' : Hp} {b : Addr} {n : Nat} (k : Kp L F H H') (hM : Lm H L F) (h : Smt K (ZN L F B) H b n) : Smt K (ZN L F B) H' b n := by
  obtain ⟨xs, ds, hs, dx, l, dd⟩ := h.ex
  exact ⟨⟨xs, ds, k.sqT hM hs, dxAll_kpn k hM dx, l, dd⟩⟩
theorem Smt.le {K : PySem.W.Frag} {Z : Addr → Prop} {H : Hp} {b : Addr} {n m : Nat} (h : Smt K Z H b n) (e : n ≤ m) : Smt K Z H b m := by
  obtain ⟨xs, ds, hs, dx, l, dd⟩ := h.ex
  exact ⟨⟨xs, ds, hs, dx, Nat.le_trans l e, dd⟩⟩
theorem names_small {l : List Str} (h : ∀ z ∈ l, isN z) : ∀ d ∈ l.map PyData.str, Dt 20 3 d := fun d hd => by
  obtain ⟨z, hz, rfl⟩ := List.mem_map.mp hd
  exact (isN_dt (h z hz)).le (by decide) (by decide)
def joinOk (l : List Str) : Bool := fitx (.str (Txt.join " " l)) && decide (szx (.str (Txt.join " " l)) ≤ 400) && decide ((l.map (·.length)).sum + l.length * 1 ≤ 16777216)
theorem join_ok {l : List Str} (h1 : 1 ≤ l.length) (h3 : l.length ≤ 3) (h : ∀ z ∈ l, isN z) : joinOk l = true := by
  have a1 : ∀ x ∈ menuL, joinOk [x] = true := by decide +kernel
  have a2 : ∀ x ∈ menuL, ∀ y ∈ menuL, joinOk [x, y] = true := by decide +kernel
  have a3 : ∀ x ∈ menuL, ∀ y ∈ menuL, ∀ z ∈ menuL, joinOk [x, y, z] = true := by decide +kernel
  match l, h1, h3, h with
  | [x], _, _, h => exact a1 x (h x (by simp))
  | [x, y], _, _, h => exact a2 x (h x (by simp)) y (h y (by simp))
  | [x, y, z], _, _, h => exact a3 x (h x (by simp)) y (h y (by simp)) z (h z (by simp))
section
variable {P : Program} {w : World} {K : PySem.W.Frag} {mg : Str → Option Value} {base : Heap} {A : Nat → Addr} {D : Nat → FuncData}
def sp_bent_names (K : PySem.W.Frag) : Sp := fun vs H Q _ => ∃ (L F a : Addr) (zs : List Str), vs = [.ref L, .ref a] ∧ Lm H L F ∧ SqT K H a (zs.map V.str) ∧ 1 ≤ zs.length ∧ zs.length ≤ 3 ∧ (∀ z ∈ zs, isN z) ∧
  ∀ (H' : Hp) (v : V) (d : PyData), Kp L F H H' → Lm H' L F → Dx K (ZN L F H) H' v d → Dt 400 6 d → Q v H'
theorem Txt.ok_bent_names (T : Txt K mg A D) : FnOk P w K mg base CX0 3 (A 17) (D 17) ["loom", "names"] (sp_bent_names K) := by
  refine T.F_bent_names.ok sc_bent_names (fun vs H Q E h => ?_) (fun cdv Ar outer s H vs Q E hr h => ?_)
  · obtain ⟨L, F, a, zs, rfl, _⟩ := h
    rfl
  · obtain ⟨L, F, a, zs, rfl, hM, hA, l1, l3, hz, q⟩ := h
    refine ⟨_, (pss_cons (ps_par (i := 2) (j := 3) rfl sc_bent_names.nd rfl rfl (by decide) rfl rfl (pa_cons (pe_call (T.ok_draw) (hr.mono (by decide)) (by rfl) T.g_draw T.k_draw T.b_draw .nil pass0 (pa_cons (pv 0) (pa_cons (pe_callB call_len_seq (by rfl) T.z_len (by decide +kernel) (pa_cons (pv 1) pa_nil)) pa_nil))) (pa_cons (pe_call (T.ok_draw) (hr.mono (by decide)) (by rfl) T.g_draw T.k_draw T.b_draw .nil pass0 (pa_cons (pv 0) (pa_cons pe_int pa_nil))) pa_nil)) (by rfl))
    (pss_cons (ps_set (i := 4) sc_bent_names.nd rfl (Or.inl rfl) (pe_lst (pa_cons pe_str (pa_cons pe_str (pa_cons pe_str (pa_cons pe_str (pa_cons pe_str (pa_cons pe_str (pa_cons pe_str (pa_cons pe_str (pa_cons pe_str (pa_cons pe_int (pa_cons pe_non (pa_cons pe_bl (pa_cons (pe_tup (pa_cons pe_str pa_nil)) (pa_cons (pe_lst (pa_cons pe_str pa_nil)) (pa_cons (pe_op op_mulS pe_str pe_int) (pa_cons pe_dnewK pa_nil))))))))))))))))))
    (pss_cons (ps_set (i := 4) sc_bent_names.nd rfl (Or.inl rfl) (pe_op op_cat (pe_op op_cat (pv 4) (pe_call0 (T.ok_words) (hr.mono (by decide)) (by rfl) T.g_words T.k_words T.b_words .nil pass0)) (pe_lst (pa_cons (pe_ix ix_tup (pv 1) pe_int (fun _ _ => rfl)) (pa_cons (pe_ix ix_tup (pv 1) (pe_un un_neg pe_int) (fun _ _ => rfl)) pa_nil)))))
    (C8.pss_cut (ps_if (pt_cmpR op_lt (pv 3) pe_int (nomark _)) (pss_one (ps_set (i := 1) sc_bent_names.nd rfl (Or.inl rfl) (pe_op op_catS (pe_op op_catS (pe_slice sl_tupS (pv 1) po_none (po_some (pv 2))) (pe_tup (pa_cons (pe_call (T.ok_pick) hr (by rfl) T.g_pick T.k_pick T.b_pick .nil pass0 (pa_cons (pv 0) (pa_cons (pv 4) pa_nil))) pa_nil))) (pe_slice sl_tupS (pv 1) (po_some (pe_op op_add (pv 2) pe_int)) po_none)))) pss_nil)
    (C8.pss_cut (ps_if (pt_cmpR op_in_seq (pv 3) (pe_tup (pa_cons pe_int (pa_cons pe_int pa_nil))) (by rfl)) (pss_one (ps_set (i := 1) sc_bent_names.nd rfl (Or.inl rfl) (pe_call (T.ok_pick) hr (by rfl) T.g_pick T.k_pick T.b_pick .nil pass0 (pa_cons (pv 0) (pa_cons (pe_lst (pa_cons (pe_op op_catS (pv 1) (pe_slice sl_tupS (pv 1) po_none (po_some pe_int))) (pa_cons (pe_op op_catS (pv 1) (pe_tup (pa_cons (pe_call (T.ok_pick) hr (by rfl) T.g_pick T.k_pick T.b_pick .nil pass0 (pa_cons (pv 0) (pa_cons (pv 4) pa_nil))) pa_nil))) (pa_cons (pe_op op_catS (pe_slice sl_tupS (pv 1) po_none (po_some pe_int)) (pv 1)) (pa_cons (pe_revT (pv 1)) pa_nil))))) pa_nil))))) pss_nil)
    (C8.pss_cut (ps_if (pt_cmpR op_eq (pv 3) pe_int (nomark _)) (pss_one (ps_set (i := 1) sc_bent_names.nd rfl (Or.inl rfl) (pe_call (T.ok_pick) hr (by rfl) T.g_pick T.k_pick T.b_pick .nil pass0 (pa_cons (pv 0) (pa_cons (pe_lst (pa_cons (pe_tup pa_nil) (pa_cons (pe_callTy call_list_of (by rfl) T.z_list (by decide +kernel) (pa_cons (pv 1) pa_nil)) (pa_cons (pe_tup (pa_cons pe_str (pa_cons pe_str (pa_cons pe_str (pa_cons pe_str pa_nil))))) (pa_cons (pe_op op_catS (pv 1) (pe_tup (pa_cons pe_str (pa_cons pe_str (pa_cons pe_str pa_nil))))) (pa_cons (pe_join pe_str (pv 1)) pa_nil)))))) pa_nil))))) pss_nil)
    (pss_one (ps_ret (pe_ifExp (pt_cmpR op_lt (pv 3) pe_int (nomark _)) (pv 1) (pe_tup (pa_cons (pe_ix ix_tup (pv 1) pe_int (fun _ _ => rfl)) (pa_cons (pe_call (T.ok_pick) hr (by rfl) T.g_pick T.k_pick T.b_pick .nil pass0 (pa_cons (pv 0) (pa_cons (pv 4) pa_nil))) (pa_cons (pe_ix ix_tup (pv 1) pe_int (fun _ _ => rfl)) pa_nil))))))))))))), ?_⟩
    have z : ∀ n : Nat, n ≤ 100 → n ≤ sizeLine := fun n h => Nat.le_trans h (by decide)
    have zl1 := l1
    have zl3 := l3
    have zlen : (zs.map V.str).length = zs.length := List.length_map ..
    obtain ⟨zf, hzf⟩ : ∃ zf, zs[0]? = some zf := ⟨zs[0], List.getElem?_eq_getElem (by omega)⟩
    have hz0 : (zs.map V.str)[0]? = some (V.str zf) := by rw [List.getElem?_map, hzf]; rfl
    have nzf : isN zf := hz zf (List.mem_of_getElem? hzf)
    obtain ⟨zr, zl, hzr⟩ : ∃ zr zl, zs = zr ++ [zl] := ⟨zs.dropLast, zs.getLast (fun e => by rw [e] at l1; exact absurd l1 (by decide)), (List.dropLast_concat_getLast _).symm⟩
    have hzl : atI (zs.map V.str) (-1) = some (V.str zl) := by
      rw [hzr, List.map_append]
      exact atI_last _ _
    have nzl : isN zl := hz zl (by rw [hzr]; exact List.mem_append_right _ (List.mem_singleton.mpr rfl))
    refine ⟨_, rfl, _, rfl, a, _, rfl, .inr hA, L, F, _, rfl, hM, by omega, fun H1 spot kp1 hM1 s0 s1 => ⟨_, rfl, L, F, 7, rfl, hM1, by decide, fun G0 side kp2 M0 t0 t1 => ⟨_, _, rfl, ?_⟩⟩⟩
    have c0 : Kp L F H G0 := kp1.trans kp2
    have jj := c0
    refine ⟨z 1 (by decide), fun p1 h1 => ?_⟩
    generalize g1 : upd G0 p1 (HO.tup [V.str "x"]) = G1
    obtain ⟨M1, j1, e1, l1, f1⟩ := al_eq g1 M0 h1
    clear g1
    have c1 := c0.trans j1
    refine ⟨z 1 (by decide), fun p2 h2 => ?_⟩
    generalize g2 : upd G1 p2 (HO.lst [V.str "x"]) = G2
    obtain ⟨M2, j2, e2, l2, f2⟩ := al_eq g2 M1 h2
    clear g2
    have c2 := c1.trans j2
    refine ⟨_, _, rfl, rfl, mulok, fun p3 h3 => ?_⟩
    generalize g3 : upd G2 p3 (HO.dK []) = G3
    obtain ⟨M3, j3, e3, l3, f3⟩ := al_eq g3 M2 h3
    clear g3
    have c3 := c2.trans j3
    refine ⟨z 16 (by decide), fun p4 h4 => ?_⟩
    generalize g4 : upd G3 p4 (HO.lst [V.str "", V.str "abcdefghi", V.str "X", V.str "x1", V.str "x y", V.str " x", V.str "x ", V.str "x_y", V.str "x\n", V.int 5, V.non, V.bl true, V.ref p1, V.ref p2, V.str (Txt.mul (Str.ofString "else") 2), V.ref p3]) = G4
    obtain ⟨M4, j4, e4, l4, f4⟩ := al_eq g4 M3 h4
    clear g4
    have c4 := c3.trans j4
    refine ⟨_, rfl, rfl, fun p5 h5 => ?_⟩
    generalize g5 : upd G4 p5 (HO.lst wordsV) = G5
    obtain ⟨M5, j5, e5, l5, f5⟩ := al_eq g5 M4 h5
    clear g5
    have c5 := c4.trans j5
    have a5 := j5 p4 _ l4 f4 e4
    refine ⟨p4, p5, _, _, rfl, rfl, a5, e5, (by show 30 ≤ sizeLine; decide), fun p6 h6 => ?_⟩
    generalize g6 : upd G5 p6 (HO.lst ([V.str "", V.str "abcdefghi", V.str "X", V.str "x1", V.str "x y", V.str " x", V.str "x ", V.str "x_y", V.str "x\n", V.int 5, V.non, V.bl true, V.ref p1, V.ref p2, V.str (Txt.mul (Str.ofString "else") 2), V.ref p3] ++ wordsV)) = G6
    obtain ⟨M6, j6, e6, l6, f6⟩ := al_eq g6 M5 h6
    clear g6
    have c6 := c5.trans j6
    refine ⟨_, rfl, a, _, _, _, rfl, rfl, c6.sqT hM hA, atI_nat (j := 0) hz0, _, rfl, _, rfl, a, _, _, _, rfl, rfl, c6.sqT hM hA, hzl, z 2 (by decide), fun p7 h7 => ?_⟩
    generalize g7 : upd G6 p7 (HO.lst [V.str zf, V.str zl]) = G7
    obtain ⟨M7, j7, e7, l7, f7⟩ := al_eq g7 M6 h7
    clear g7
    have c7 := c6.trans j7
    have a7 := j7 p6 _ l6 f6 e6
    refine ⟨p6, p7, _, _, rfl, rfl, a7, e7, (by show 32 ≤ sizeLine; decide), fun p8 h8 => ?_⟩
    generalize g8 : upd G7 p8 (HO.lst ([V.str "", V.str "abcdefghi", V.str "X", V.str "x1", V.str "x y", V.str " x", V.str "x ", V.str "x_y", V.str "x\n", V.int 5, V.non, V.bl true, V.ref p1, V.ref p2, V.str (Txt.mul (Str.ofString "else") 2), V.ref p3] ++ wordsV ++ [V.str zf, V.str zl])) = G8
    obtain ⟨M8, j8, e8, l8, f8⟩ := al_eq g8 M7 h8
    clear g8
    have c8 := c7.trans j8
    have kk8 : Kp L F G8 G8 := fun _ _ _ _ e => e
    have kk7 := j8.trans kk8
    have kk6 := j7.trans kk7
    have kk5 := j6.trans kk6
    have kk4 := j5.trans kk5
    have kk3 := j4.trans kk4
    have kk2 := j3.trans kk3
    have kk1 := j2.trans kk2
    have kk0 := j1.trans kk1
    have q1 := kk1 p1 _ l1 f1 e1
    have q2 := kk2 p2 _ l2 f2 e2
    have q3 := kk3 p3 _ l3 f3 e3
    have q4 := kk4 p4 _ l4 f4 e4
    have q5 := kk5 p5 _ l5 f5 e5
    have q6 := kk6 p6 _ l6 f6 e6
    have q7 := kk7 p7 _ l7 f7 e7
    have q8 := kk8 p8 _ l8 f8 e8
    have odd : ∀ x ∈ ([V.str "", V.str "abcdefghi", V.str "X", V.str "x1", V.str "x y", V.str " x", V.str "x ", V.str "x_y", V.str "x\n", V.int 5, V.non, V.bl true, V.ref p1, V.ref p2, V.str (Txt.mul (Str.ofString "else") 2), V.ref p3] ++ wordsV ++ [V.str zf, V.str zl] : List V), ∃ d, Dx K (ZN L F H) G8 x d ∧ Dt 20 3 d := by
      intro x hx
      rw [List.mem_append, List.mem_append] at hx
      rcases hx with (hx | hx) | hx
      · simp only [List.mem_cons, List.not_mem_nil, or_false] at hx
        rcases hx with rfl | rfl | rfl | rfl | rfl | rfl | rfl | rfl | rfl | rfl | rfl | rfl | rfl | rfl | rfl | rfl
        · exact ⟨_, (.str _), (dt_str (by decide +kernel)).le (by decide +kernel) (by decide +kernel)⟩
        · exact ⟨_, (.str _), (dt_str (by decide +kernel)).le (by decide +kernel) (by decide +kernel)⟩
        · exact ⟨_, (.str _), (dt_str (by decide +kernel)).le (by decide +kernel) (by decide +kernel)⟩
        · exact ⟨_, (.str _), (dt_str (by decide +kernel)).le (by decide +kernel) (by decide +kernel)⟩
        · exact ⟨_, (.str _), (dt_str (by decide +kernel)).le (by decide +kernel) (by decide +kernel)⟩
        · exact ⟨_, (.str _), (dt_str (by decide +kernel)).le (by decide +kernel) (by decide +kernel)⟩
        · exact ⟨_, (.str _), (dt_str (by decide +kernel)).le (by decide +kernel) (by decide +kernel)⟩
        · exact ⟨_, (.str _), (dt_str (by decide +kernel)).le (by decide +kernel) (by decide +kernel)⟩
        · exact ⟨_, (.str _), (dt_str (by decide +kernel)).le (by decide +kernel) (by decide +kernel)⟩
        · exact ⟨_, (.int _), (dt_small (by decide)).le (by decide +kernel) (by decide +kernel)⟩
        · exact ⟨_, .non, dt_none.le (by decide +kernel) (by decide +kernel)⟩
        · exact ⟨_, (.bl _), (dt_bool _).le (by decide +kernel) (by decide +kernel)⟩
        · exact ⟨_, (.tup (SqT.of q1) (.cons (.str _) .nil)), (Dts.tuple (Dts.cons (dt_str (by decide +kernel)) Dts.nil)).le (by decide +kernel) (by decide +kernel)⟩
        · exact ⟨_, (.lst q2 ⟨l2, f2, none_back c1 h2 l2 f2⟩ (.cons (.str _) .nil)), (Dts.list (Dts.cons (dt_str (by decide +kernel)) Dts.nil)).le (by decide +kernel) (by decide +kernel)⟩
        · exact ⟨_, (.str _), (dt_str (by decide +kernel)).le (by decide +kernel) (by decide +kernel)⟩
        · exact ⟨_, (.dct q3 ⟨l3, f3, none_back c2 h3 l3 f3⟩ .nil), dct0.le (by decide +kernel) (by decide +kernel)⟩
      · obtain ⟨y, hy, rfl⟩ := List.mem_map.mp hx
        exact ⟨_, .str _, words_dt hy⟩
      · simp only [List.mem_cons, List.not_mem_nil, or_false] at hx
        rcases hx with rfl | rfl
        · exact ⟨_, .str _, (isN_dt nzf).le (by decide) (by decide)⟩
        · exact ⟨_, .str _, (isN_dt nzl).le (by decide) (by decide)⟩
    have hO := e8
    have lO := l8
    have fO := f8
    have kG := c8
    have MG := M8
    have nO : ([V.str "", V.str "abcdefghi", V.str "X", V.str "x1", V.str "x y", V.str " x", V.str "x ", V.str "x_y", V.str "x\n", V.int 5, V.non, V.bl true, V.ref p1, V.ref p2, V.str (Txt.mul (Str.ofString "else") 2), V.ref p3] ++ wordsV ++ [V.str zf, V.str zl] : List V).length = 32 := rfl
    clear q1 e1 q2 e2 q3 e3 q4 e4 q5 e5 q6 e6 q7 e7
    revert odd hO nO
    generalize ([V.str "", V.str "abcdefghi", V.str "X", V.str "x1", V.str "x y", V.str " x", V.str "x ", V.str "x_y", V.str "x\n", V.int 5, V.non, V.bl true, V.ref p1, V.ref p2, V.str (Txt.mul (Str.ofString "else") 2), V.ref p3] ++ wordsV ++ [V.str zf, V.str zl] : List V) = X
    intro odd hO nO
    obtain ⟨sp, rfl, hsp⟩ : ∃ sp : Nat, spot = (sp : Int) ∧ sp < zs.length := ⟨spot.toNat, by omega, by omega⟩
    -- one of them another one
    refine ⟨fun σ' H' => Kp L F G8 H' ∧ Lm H' L F ∧ ∃ b, σ' = [some (.ref L), some (.ref b), some (.int (sp : Int)), some (.int side), some (.ref p8)] ∧ Smt K (ZN L F H) H' b 4 ∧ (4 ≤ side → b = a), ?_, ?_⟩
    · refine ⟨_, rfl, _, _, rfl, rfl, _, rfl, ite2 (fun e => ?_) (fun e => ?_)⟩
      · have side4 : side < 4 := of_decide_eq_true e
        have hA1 := kG.sqT hM hA
        refine ⟨_, rfl, _, rfl, _, rfl, a, _, rfl, hA1, fun H5 p5 sm5 h5 => ?_⟩
        rw [cut_take (by omega), show ((sp : Nat) : Int).toNat = sp from by omega, ← List.map_take] at h5
        have hM5 := MG.same sm5
        refine ⟨_, rfl, _, rfl, L, F, p8, X, rfl, hM5, SqL.of (sm5 _ _ hO), lO, fO, by rw [nO]; decide, by rw [nO]; decide, fun H6 i x kp6 hM6 hx => ⟨z 1 (by decide), fun t m => ?_⟩⟩
        obtain ⟨d, dx, dt⟩ := odd x (List.mem_of_getElem? hx)
        obtain ⟨H7, g7, s7, hM7, e7⟩ := new_objX hM6 (.tup [x]) m
        rw [g7]
        have h7 := Ev.Same.seqT s7 (kp6.sqT hM5 h5)
        refine ⟨p5, t, _, _, rfl, rfl, h7, SqT.of e7, ?_, fun H8 p8 sm8 h8 => ?_⟩
        · have : ((zs.take sp).map V.str).length ≤ 3 := by rw [List.length_map, List.length_take]; omega
          exact Nat.le_trans (Nat.add_le_add_right this 1) (z 4 (by decide))
        have hM8 := hM7.same sm8
        have kp8 : Kp L F G8 H8 := ((kp_same sm5).trans kp6).trans ((kp_same s7).trans (kp_same sm8))
        refine ⟨_, rfl, _, rfl, _, _, rfl, rfl, _, rfl, a, _, rfl, kp8.sqT MG hA1, fun H9 p9 sm9 h9 => ?_⟩
        rw [show (sp : Int) + 1 = ((sp + 1 : Nat) : Int) from by omega, cut_drop, ← List.map_drop] at h9
        refine ⟨p8, p9, _, _, rfl, rfl, Ev.Same.seqT sm9 h8, h9, ?_, fun H10 p10 sm10 h10 => ?_⟩
        · have : (((zs.take sp).map V.str) ++ [x]).length + ((zs.drop (sp + 1)).map V.str).length ≤ 10 := by
            rw [List.length_append, List.length_map, List.length_map, List.length_take, List.length_drop, List.length_singleton]
            omega
          exact z _ (Nat.le_trans this (by decide))
        have kp10 := kp8.trans ((kp_same sm9).trans (kp_same sm10))
        refine ⟨kp10, hM8.same (sm9.trans sm10), p10, rfl, Smt.app h10 (dxAll_app (dx_strs (zs.take sp)) (.cons (dx_kpn kp10 MG dx) .nil)) (dx_strs (zs.drop (sp + 1))) ?_ (fun d' hd => ?_) (names_small fun z hz' => hz z (List.mem_of_mem_drop hz')), fun h => by omega⟩
        · rw [List.length_append, List.length_map, List.length_map, List.length_take, List.length_drop]
          show min sp zs.length + 1 + _ ≤ 4
          omega
        · rcases List.mem_append.mp hd with hd | hd
          · exact names_small (fun z hz' => hz z (List.mem_of_mem_take hz')) d' hd
          · rw [List.mem_singleton.mp hd]
            exact dt
      · refine ⟨fun _ _ _ _ e => e, MG, a, rfl, ⟨⟨_, _, kG.sqT hM hA, dx_strs zs, by rw [List.length_map]; omega, names_small hz⟩⟩, fun _ => rfl⟩
    rintro σ' H2 ⟨kp3, hM2, b, rfl, sm2, sa2⟩
    -- more and fewer of them
    refine ⟨fun σ' H' => Kp L F G8 H' ∧ Lm H' L F ∧ ∃ b, σ' = [some (.ref L), some (.ref b), some (.int (sp : Int)), some (.int side), some (.ref p8)] ∧ Smt K (ZN L F H) H' b 8 ∧ (5 ≤ side → b = a), ?_, ?_⟩
    · refine ⟨_, rfl, z 2 (by decide), fun pt mt => ⟨pt, _, rfl, .inr (SqT.of upd_same), rfl, rfl, _, rfl, ite2 (fun e => ?_) (fun e => ?_)⟩⟩
      · have side5 : side < 5 := by
          have e' : inV (.int side) [.int 3, .int 4] = true := e
          have : ((3 == side) || ((4 == side) || false)) = true := e'
          rw [Bool.or_false, Bool.or_eq_true, beq_iff_eq, beq_iff_eq] at this
          omega
        have hMt := hM2.new (o := .tup [.int 3, .int 4]) mt
        have kpt : Kp L F H2 (upd H2 pt (.tup [.int 3, .int 4])) := Kp.new mt
        have smt := sm2.kp kpt hM2
        revert hMt kpt smt
        generalize upd H2 pt (HO.tup [V.int 3, V.int 4]) = G
        intro hMt kpt smt
        obtain ⟨xs, ds, hs, dx, ld, dd⟩ := smt.ex
        have lx := dxAll_len dx
        have kG2 := kp3.trans kpt
        have hc : cutV xs none (some (1 : Int)) = xs.take 1 := cut_take (by decide)
        have d1 : ∀ d ∈ ds.take 1, Dt 20 3 d := fun d hd => dd d (List.mem_of_mem_take hd)
        have t1' : (ds.take 1).length ≤ 1 := by rw [List.length_take]; omega
        have t1x : (xs.take 1).length ≤ 1 := by rw [List.length_take]; omega
        refine ⟨_, rfl, _, rfl, _, rfl, _, rfl, b, xs, rfl, hs, fun Ha pa sma ha => ?_⟩
        rw [hc] at ha
        refine ⟨b, pa, _, _, rfl, rfl, Ev.Same.seqT sma hs, ha, Nat.le_trans (show xs.length + (xs.take 1).length ≤ 5 by omega) (z 5 (by decide)), fun Hb pb smb hb => ?_⟩
        have smab := sma.trans smb
        have hMb := hMt.same smab
        refine ⟨_, rfl, _, rfl, _, rfl, L, F, p8, X, rfl, hMb, SqL.of ((kG2.trans (kp_same smab)) _ _ lO fO hO), lO, fO, by rw [nO]; decide, by rw [nO]; decide, fun Hc i x kpc hMc hx => ⟨z 1 (by decide), fun t m => ?_⟩⟩
        obtain ⟨d0, dxo, dto⟩ := odd x (List.mem_of_getElem? hx)
        obtain ⟨Hd, gd, sd, hMd, ed⟩ := new_objX hMc (.tup [x]) m
        rw [gd]
        have kd : Kp L F G Hd := (kp_same smab).trans (kpc.trans (kp_same sd))
        refine ⟨b, t, _, _, rfl, rfl, kd.sqT hMt hs, SqT.of ed, Nat.le_trans (show xs.length + 1 ≤ 5 by omega) (z 5 (by decide)), fun He pe sme he => ?_⟩
        have ke := kd.trans (kp_same sme)
        refine ⟨_, rfl, _, rfl, b, xs, rfl, ke.sqT hMt hs, fun Hf pf smf hf => ?_⟩
        rw [hc] at hf
        have kf := ke.trans (kp_same smf)
        refine ⟨_, rfl, pf, b, _, _, rfl, rfl, hf, kf.sqT hMt hs, Nat.le_trans (show (xs.take 1).length + xs.length ≤ 5 by omega) (z 5 (by decide)), fun Hg pg smg hg => ?_⟩
        have kg := kf.trans (kp_same smg)
        have hMg := hMd.same ((sme.trans smf).trans smg)
        refine ⟨_, rfl, b, xs, rfl, kg.sqT hMt hs, fun pr mr => ?_⟩
        obtain ⟨Hh, gh, sh, hMh, eh⟩ := new_objX hMg (.tup xs.reverse) mr
        rw [gh]
        refine ⟨z 4 (by decide), fun pl ml => ?_⟩
        obtain ⟨Hi, gi, si, hMi, ei⟩ := new_objX hMh (.lst [.ref pb, .ref pe, .ref pg, .ref pr]) ml
        rw [gi]
        have nl := hMh.ne ml
        have kgi : Kp L F G Hi := kg.trans (kp_same (sh.trans si))
        have dxi := dxAll_kpn kgi hMt dx
        have kbi : Kp L F Hb Hi := (kpc.trans (kp_same sd)).trans (kp_same ((((sme.trans smf).trans smg).trans sh).trans si))
        refine ⟨L, F, pl, _, rfl, hMi, SqL.of ei, nl.1, nl.2, (by show 0 < 4; decide), (by show 4 < 1073741824; decide), fun Hz j y kpz hMz hy => ?_⟩
        obtain ⟨b', rfl, sy⟩ : ∃ b', y = .ref b' ∧ Smt K (ZN L F H) Hi b' 8 := by
          have hy' := List.mem_of_getElem? hy
          simp only [List.mem_cons, List.not_mem_nil, or_false] at hy'
          rcases hy' with rfl | rfl | rfl | rfl
          · exact ⟨pb, rfl, Smt.app (kbi.sqT hMb hb) dxi (dxAll_take 1 dxi) (by omega) dd d1⟩
          · refine ⟨pe, rfl, Smt.app (es := [d0]) (Ev.Same.seqT (((smf.trans smg).trans sh).trans si) he) dxi (.cons (dx_kpn (kG2.trans kgi) MG dxo) .nil) (by show ds.length + 1 ≤ 8; omega) dd fun d hd => ?_⟩
            rw [List.mem_singleton.mp hd]
            exact dto
          · exact ⟨pg, rfl, Smt.app (Ev.Same.seqT (sh.trans si) hg) (dxAll_take 1 dxi) dxi (by omega) d1 dd⟩
          · exact ⟨pr, rfl, ⟨⟨_, _, SqT.of (si _ _ eh), dxAll_rev dxi, by rw [List.length_reverse]; omega, fun d hd => dd d (List.mem_reverse.mp hd)⟩⟩⟩
        exact ⟨kG2.trans (kgi.trans kpz), hMz, b', rfl, sy.kp kpz hMi, fun h => by omega⟩
      · exact ⟨kp3.trans (Kp.new mt), hM2.new mt, b, rfl, (sm2.kp (Kp.new mt) hM2).le (by decide), fun h => sa2 (by omega)⟩
    rintro σ' H3 ⟨kp4, hM3, b3, rfl, sm3, sa3⟩
    -- no names at all
    refine ⟨fun σ' H' => Kp L F G8 H' ∧ Lm H' L F ∧ ∃ v d, σ' = [some (.ref L), some v, some (.int (sp : Int)), some (.int side), some (.ref p8)] ∧ Dx K (ZN L F H) H' v d ∧ Dt 400 6 d ∧ (6 ≤ side → v = .ref a), ?_, ?_⟩
    · refine ⟨_, rfl, rfl, _, rfl, ite2 (fun e => ?_) (fun e => ?_)⟩
      · have side5 : side = 5 := V.int.inj (of_decide_eq_true e)
        rw [sa3 (by omega)]
        have k3 := kG.trans kp4
        refine ⟨_, rfl, z 0 (by decide), fun u1 n1 => ?_⟩
        obtain ⟨J1, w1, r1, hJ1, f1⟩ := new_objX hM3 (.tup []) n1
        rw [w1]
        have k31 := k3.trans (kp_same r1)
        refine ⟨_, rfl, a, _, rfl, .inr (k31.sqT hM hA), fun u2 n2 => ?_⟩
        obtain ⟨J2, w2, r2, hJ2, f2⟩ := new_objX hJ1 (.lst (zs.map V.str)) n2
        rw [w2]
        have ne2 := hJ1.ne n2
        refine ⟨z 4 (by decide), fun u3 n3 => ?_⟩
        obtain ⟨J3, w3, r3, hJ3, f3⟩ := new_objX hJ2 (.tup [.str "p", .str "q", .str "r", .str "s"]) n3
        rw [w3]
        refine ⟨_, rfl, z 3 (by decide), fun u4 n4 => ?_⟩
        obtain ⟨J4, w4, r4, hJ4, f4⟩ := new_objX hJ3 (.tup [.str "u", .str "v", .str "w"]) n4
        rw [w4]
        have k34 := k31.trans (kp_same ((r2.trans r3).trans r4))
        refine ⟨a, u4, _, _, rfl, rfl, k34.sqT hM hA, SqT.of f4, Nat.le_trans (show (zs.map V.str).length + 3 ≤ 6 by omega) (z 6 (by decide)), fun J5 u5 r5 h5 => ?_⟩
        have hJ5 := hJ4.same r5
        have k35 := k34.trans (kp_same r5)
        have jk := join_ok zl1 zl3 hz
        unfold joinOk at jk
        rw [Bool.and_eq_true, Bool.and_eq_true, decide_eq_true_eq, decide_eq_true_eq] at jk
        refine ⟨⟨_, rfl⟩, _, rfl, _, a, zs, rfl, rfl, .inr (k35.sqT hM hA), jk.2, z 5 (by decide), fun u6 n6 => ?_⟩
        obtain ⟨J6, w6, r6, hJ6, f6⟩ := new_objX hJ5 (.lst [.ref u1, .ref u2, .ref u3, .ref u5, .str (Txt.join " " zs)]) n6
        rw [w6]
        have ne6 := hJ5.ne n6
        have k36 := k35.trans (kp_same r6)
        refine ⟨L, F, u6, _, rfl, hJ6, SqL.of f6, ne6.1, ne6.2, (by show 0 < 5; decide), (by show 5 < 1073741824; decide), fun Jz j y kpz hJz hy => ?_⟩
        have r26 := ((r3.trans r4).trans r5).trans r6
        obtain ⟨d, dx, dt⟩ : ∃ d, Dx K (ZN L F H) J6 y d ∧ Dt 400 6 d := by
          have hy' := List.mem_of_getElem? hy
          simp only [List.mem_cons, List.not_mem_nil, or_false] at hy'
          rcases hy' with rfl | rfl | rfl | rfl | rfl
          · exact ⟨.tuple [], .tup (SqT.of ((r2.trans r26) _ _ f1)) .nil, by decide +kernel, by decide +kernel, by decide +kernel⟩
          · refine ⟨.list (zs.map PyData.str), .lst (r26 _ _ f2) ⟨ne2.1, ne2.2, none_back k31 n2 ne2.1 ne2.2⟩ (dx_strs zs), (Dts.list (dts_all (names_small hz))).le ?_ (by decide)⟩
            rw [List.length_map]
            omega
          · exact ⟨.tuple [.str "p", .str "q", .str "r", .str "s"], .tup (SqT.of (((r4.trans r5).trans r6) _ _ f3)) (.cons (.str _) (.cons (.str _) (.cons (.str _) (.cons (.str _) .nil)))), by decide +kernel, by decide +kernel, by decide +kernel⟩
          · exact (Smt.app (n := 8) (es := ([("u" : Str), "v", "w"].map PyData.str)) (Ev.Same.seqT r6 h5) (dx_strs zs) (dx_strs ["u", "v", "w"]) (by rw [List.length_map]; show zs.length + 3 ≤ 8; omega) (names_small hz) (by
              intro d hd
              simp only [List.map_cons, List.map_nil, List.mem_cons, List.not_mem_nil, or_false] at hd
              rcases hd with rfl | rfl | rfl <;> exact ⟨by decide +kernel, by decide +kernel, by decide +kernel⟩)).dt (by decide)
          · exact ⟨.str (Txt.join " " zs), .str _, jk.1.1, jk.1.2, Nat.zero_le _⟩
        exact ⟨kp4.trans (((kp_same r1).trans (kp_same ((r2.trans r3).trans r4))).trans (((kp_same r5).trans (kp_same r6)).trans kpz)), hJz, y, d, rfl, dx_kpn kpz hJ6 dx, dt, fun h => by omega⟩
      · obtain ⟨d, dx, dt⟩ := sm3.dt (by decide)
        exact ⟨kp4, hM3, _, d, rfl, dx, dt, fun h => by rw [sa3 (by omega)]⟩
    rintro σ' H4 ⟨kp5, hM4, v, d, rfl, dv, dt, sa4⟩
    refine ⟨_, rfl, _, _, rfl, rfl, _, rfl, ite2 (fun e => ?_) (fun e => ?_)⟩
    · exact ⟨_, rfl, q _ v d (kG.trans kp5) hM4 dv dt⟩
    · have side6 : 6 ≤ side := by
        have : ¬ side < 6 := fun z => e (decide_eq_true z)
        omega
      have va := sa4 side6
      subst va
      have hA4 := (kG.trans kp5).sqT hM hA
      refine ⟨_, rfl, a, _, _, _, rfl, rfl, hA4, atI_nat (j := 0) hz0, ?_⟩
      refine ⟨_, rfl, _, rfl, L, F, p8, X, rfl, hM4, SqL.of (kp5 _ _ lO fO hO), lO, fO, by rw [nO]; decide, by rw [nO]; decide, fun Hx i x kpx hMx hx => ?_⟩
      obtain ⟨d, dx, dt⟩ := odd x (List.mem_of_getElem? hx)
      refine ⟨_, rfl, a, _, _, _, rfl, rfl, kpx.sqT hM4 hA4, atI_nat (j := 0) hz0, z 3 (by decide), fun p hp => ?_⟩
      have kq := (kp5.trans kpx).trans (Kp.new (o := .tup [.str zf, x, .str zf]) hp)
      refine q _ _ (.tuple [.str zf, d, .str zf]) (kG.trans kq) (hMx.new hp) (.tup (SqT.of upd_same) (.cons (.str _) (.cons (dx_kpn kq MG dx) (.cons (.str _) .nil)))) ?_
      exact (Dts.tuple (Dts.cons (isN_dt nzf) (Dts.cons dt (Dts.cons (isN_dt nzf) Dts.nil)))).le (by decide) (by decide)
end
end Ev

set_option exponentiation.threshold 10000
namespace Ev
open PySem PySem.Spec PyProof.Rows L2
theorem slip_cases (d : PyData) : slipNames d = .str "form" ∨ slipNames d = .none ∨ ∃ (w : Str) (i : Nat), (w = "name" ∨ w = "twice") ∧ i < 4 ∧ slipNames d = .tuple [.str w, .int (i : Nat)] := by
  cases d with
  | tuple ds =>
    by_cases h : 1 ≤ ds.length ∧ ds.length ≤ 3
    · have val : slipNames (.tuple ds) = (match firstN (fun j => !nameD (ds.getD j .none)) 0 ds.length with
          | some i => .tuple [.str "name", .int i]
          | none => match firstN (twiceD ds) 0 ds.length with
            | some i => .tuple [.str "twice", .int i]
            | none => .none) := by
        show (if 1 ≤ ds.length ∧ ds.length ≤ 3 then _ else _) = _
        rw [if_pos h]
        all_goals rfl
      have fl : ∀ (p : Nat → Bool) (n k i : Nat), firstN p k n = some i → i < k + n := by
        intro p n
        induction n with
        | zero => intro k i h; cases h
        | succ n ih =>
          intro k i h
          unfold firstN at h
          by_cases e : p k = true
          · rw [if_pos e] at h
            cases h
            omega
          · rw [if_neg e] at h
            have := ih _ _ h
            omega
      cases e1 : firstN (fun j => !nameD (ds.getD j .none)) 0 ds.length with
      | some i =>
        rw [e1] at val
        have := fl _ _ _ _ e1
        exact .inr (.inr ⟨_, i, .inl rfl, by omega, val⟩)
      | none =>
        rw [e1] at val
        cases e2 : firstN (twiceD ds) 0 ds.length with
        | some i =>
          rw [e2] at val
          have := fl _ _ _ _ e2
          exact .inr (.inr ⟨_, i, .inr rfl, by omega, val⟩)
        | none =>
          rw [e2] at val
          exact .inr (.inl val)
    · exact .inl (slip_len h)
  | _ => exact .inl rfl
theorem slip_dt (d : PyData) : Dt 20 3 (slipNames d) := by
  rcases slip_cases d with e | e | ⟨w, i, hw, hi, e⟩
  · rw [e]
    exact ⟨by decide +kernel, by decide +kernel, by decide +kernel⟩
  · rw [e]
    exact ⟨by decide +kernel, by decide +kernel, by decide +kernel⟩
  · rw [e]
    have dw : Dt 8 0 (.str w) := by rcases hw with rfl | rfl <;> exact ⟨by decide +kernel, by decide +kernel, by decide +kernel⟩
    exact (Dts.tuple (Dts.cons dw (Dts.cons (dt_small (by omega)) Dts.nil))).le (by decide) (by decide)
theorem dt_bl (b : Bool) : Dt 20 3 (.bool b) := (dt_bool b).le (by decide) (by decide)
def cutW (w : Str) : Str := cutS w none (some 7)
theorem words_ok {w : Str} (h : w ∈ wordsL) : nameS w = false ∧ nameS (w ++ "s") = true ∧ nameS ("z" ++ cutW w) = true ∧ w.length ≤ 7 ∧ (w ++ "s").length ≤ 10 ∧ ("z" ++ cutW w).length ≤ 10 ∧
    (w.cps.toList.all fun c => decide (c < 1114112)) = true ∧ ((w ++ "s").cps.toList.all fun c => decide (c < 1114112)) = true ∧ (("z" ++ cutW w).cps.toList.all fun c => decide (c < 1114112)) = true := by
  have : ∀ w ∈ wordsL, (!nameS w && nameS (w ++ "s") && nameS ("z" ++ cutW w) && decide (w.length ≤ 7) && decide ((w ++ "s").length ≤ 10) && decide (("z" ++ cutW w).length ≤ 10) &&
    (w.cps.toList.all fun c => decide (c < 1114112)) && ((w ++ "s").cps.toList.all fun c => decide (c < 1114112)) && (("z" ++ cutW w).cps.toList.all fun c => decide (c < 1114112))) = true := by decide +kernel
  have := this w h
  simp only [Bool.and_eq_true, decide_eq_true_eq, Bool.not_eq_true'] at this
  obtain ⟨⟨⟨⟨⟨⟨⟨⟨a, b⟩, c⟩, d⟩, e⟩, f⟩, g⟩, i⟩, j⟩ := this
  exact ⟨a, b, c, d, e, f, g, i, j⟩
theorem one_name {w : Str} (h : nameS w = true) : slipNames (.tuple [.str w]) = .none := by
  have e1 : firstN (fun j => !nameD (([.str w] : List PyData).getD j .none)) 0 1 = none := by
    show (if (!nameS w) = true then some 0 else none) = none
    rw [h]
    rfl
  show (match firstN (fun j => !nameD (([.str w] : List PyData).getD j .none)) 0 1 with
    | some i => PyData.tuple [.str "name", .int i]
    | none => match firstN (twiceD [.str w]) 0 1 with
      | some i => .tuple [.str "twice", .int i]
      | none => .none) = _
  rw [e1]
  rfl
theorem no_name {w : Str} (h : nameS w = false) : slipNames (.tuple [.str w]) = .tuple [.str "name", .int 0] := by
  have e1 : firstN (fun j => !nameD (([.str w] : List PyData).getD j .none)) 0 1 = some 0 := by
    show (if (!nameS w) = true then some 0 else none) = some 0
    rw [h]
    rfl
  show (match firstN (fun j => !nameD (([.str w] : List PyData).getD j .none)) 0 1 with
    | some i => PyData.tuple [.str "name", .int i]
    | none => match firstN (twiceD [.str w]) 0 1 with
      | some i => .tuple [.str "twice", .int i]
      | none => .none) = _
  rw [e1]
  rfl
theorem odd_word {d : PyData} (h : ∀ x y z, d ≠ .tuple [x, y, z]) : wordOk d := by
  match d, h with
  | .tuple [x, y, z], h => exact absurd rfl (h x y z)
  | .tuple [], _ => exact True.intro
  | .tuple [_], _ => exact True.intro
  | .tuple [_, _], _ => exact True.intro
  | .tuple (_ :: _ :: _ :: _ :: _), _ => exact True.intro
  | .none, _ => exact True.intro
  | .bool _, _ => exact True.intro
  | .int _, _ => exact True.intro
  | .str _, _ => exact True.intro
  | .list _, _ => exact True.intro
  | .dict _, _ => exact True.intro
def NoZ : Addr → Prop := fun _ => False
section
variable {P : Program} {w : World} {K : PySem.W.Frag} {mg : Str → Option Value} {base : Heap} {A : Nat → Addr} {D : Nat → FuncData}
theorem Txt.kb_names_error (T : Txt K mg A D) : KB0 K (D 0) ["value"] ["value"] [0] := by
  obtain ⟨c1, c2, c3, c4, c5, c6, c7, c8, c9, e, lk, hcd⟩ := T.F_names_error.ex
  rw [e]
  refine ⟨fun s ws _ hl => ?_⟩
  match ws, hl with
  | [x], _ => exact .of_eq rfl
theorem Txt.kb_is_test (T : Txt K mg A D) : KB0 K (D 4) ["many", "value"] ["value", "many"] [1, 0] := by
  obtain ⟨c1, c2, c3, c4, c5, c6, c7, c8, c9, e, lk, hcd⟩ := T.F_is_test.ex
  rw [e]
  refine ⟨fun s ws _ hl => ?_⟩
  match ws, hl with
  | [x, y], _ => exact .of_eq rfl
def sp_law (K : PySem.W.Frag) : Sp := fun vs H Q _ => ∃ (a : Addr) (ns : List Int), vs = [.ref a] ∧ SqL K H a (ns.map V.int) ∧ ns.length ≤ 63 ∧ ∀ H', Q (.bl true) H'
set_option maxHeartbeats 0 in
theorem Txt.ok_law (T : Txt K mg A D) : FnG P w K mg base CX0 4 (A 19) (D 19) ["script"] (sp_law K) := by
  refine okG T.F_law sc_law (fun vs H Q E h => ?_) (fun cdv Ar outer s H vs Q E hA hr h => ?_)
  · obtain ⟨a, ns, rfl, _⟩ := h
    rfl
  · obtain ⟨a0, ns, rfl, hS, hlen, q⟩ := h
    have hG : (Ar.deeper (envOfC (Str.ofString "law") (defScope s_law) s.heap.objs.size (A 19) cdv)).guards = some [] := hA
    have hu := hu_of hr
    refine ⟨_, (pss_cons (ps_set (i := 1) sc_law.nd rfl (Or.inl rfl) (pe_call (T.ok_loom) (hr.mono (by decide)) (by rfl) T.g_loom T.k_loom T.b_loom .nil pass0 (pa_cons (pv 0) pa_nil)))
    (pss_cons (ps_for PassesOwn.never rfl (pi_range1 rfl T.range (pa_cons pe_int pa_nil)) (pg_name (i := 2) sc_law.nd rfl (Or.inl rfl)) (pss_cons (ps_set (i := 3) sc_law.nd rfl (Or.inl rfl) (pe_call (T.ok_names) hr (by rfl) T.g_names T.k_names T.b_names .nil pass0 (pa_cons (pv 1) (pa_cons (pe_op op_add pe_int (pe_call (T.ok_draw) (hr.mono (by decide)) (by rfl) T.g_draw T.k_draw T.b_draw .nil pass0 (pa_cons (pv 1) (pa_cons pe_int pa_nil)))) pa_nil))))
    (pss_cons (ps_set (i := 4) sc_law.nd rfl (Or.inl rfl) (pe_lst (pa_cons (pv 3) (pa_cons (pe_call (T.ok_bent_names) hr (by rfl) T.g_bent_names T.k_bent_names T.b_bent_names .nil pass0 (pa_cons (pv 1) (pa_cons (pv 3) pa_nil))) (pa_cons (pe_call (T.ok_bent_names) hr (by rfl) T.g_bent_names T.k_bent_names T.b_bent_names .nil pass0 (pa_cons (pv 1) (pa_cons (pv 3) pa_nil))) (pa_cons (pe_call (T.ok_odd) hr (by rfl) T.g_odd T.k_odd T.b_odd .nil pass0 (pa_cons (pv 1) pa_nil)) pa_nil))))))
    (pss_cons (ps_for PassesOwn.never rfl (pi_enum (by rfl) T.enumerate (pa_cons (pv 4) pa_nil)) (pg_tup rfl (pgs_cons (pg_name (i := 5) sc_law.nd rfl (Or.inl rfl)) (pgs_cons (pg_name (i := 6) sc_law.nd rfl (Or.inl rfl)) pgs_nil))) (pss_cons (ps_par (i := 7) (j := 8) rfl sc_law.nd rfl rfl (by decide) rfl rfl (pa_cons (pe_callB (call_reprX hG hr.units) (by rfl) T.z_repr (by decide +kernel) (pa_cons (pv 6) pa_nil)) (pa_cons (pe_callB (call_reprX hG hr.units) (by rfl) T.z_repr (by decide +kernel) (pa_cons (pe_call (T.ok_names_slip) hr (by rfl) T.g_names_slip T.k_names_slip T.b_names_slip .nil pass0 (pa_cons (pv 6) pa_nil)) pa_nil)) pa_nil)) (by rfl))
    (C8.pss_cut (ps_set (i := 9) sc_law.nd rfl (Or.inl rfl) (pe_ifExp (pt_cmpR op_eq (pv 5) (pv 2) (nomark _)) (pe_callK0 T.ok_names_error (hr.mono (by decide)) (by rfl) T.g_names_error T.k_names_error T.kb_names_error pass0 (pk_cons (pv 6) pk_nil)) (pe_call (T.ok_names_error) (hr.mono (by decide)) (by rfl) T.g_names_error T.k_names_error T.b_names_error .nil pass0 (pa_cons (pv 6) pa_nil))))
    (pss_one (ps_if (PW.pt (pw_or (pt_cmpR op_ne (pe_callB (call_reprX hG hr.units) (by rfl) T.z_repr (by decide +kernel) (pa_cons (pv 9) pa_nil)) (pv 8) (nomark _)) (pw_or (pt_cmpR op_ne (pe_callB (call_reprX hG hr.units) (by rfl) T.z_repr (by decide +kernel) (pa_cons (pe_call (T.ok_names_error) (hr.mono (by decide)) (by rfl) T.g_names_error T.k_names_error T.b_names_error .nil pass0 (pa_cons (pv 6) pa_nil)) pa_nil)) (pv 8) (nomark _)) (pw_or1 (pt_cmpR op_ne (pe_callB (call_reprX hG hr.units) (by rfl) T.z_repr (by decide +kernel) (pa_cons (pv 6) pa_nil)) (pv 7) (nomark _)))))) (pss_one (ps_ret pe_bl)) pss_nil)))))
    (pss_cons (ps_set (i := 10) sc_law.nd rfl (Or.inl rfl) (pe_op op_add pe_int (pe_call (T.ok_draw) (hr.mono (by decide)) (by rfl) T.g_draw T.k_draw T.b_draw .nil pass0 (pa_cons (pv 1) (pa_cons pe_int pa_nil)))))
    (pss_cons (ps_set (i := 11) sc_law.nd rfl (Or.inl rfl) (pe_call (T.ok_test) hr (by rfl) T.g_test T.k_test T.b_test .nil pass0 (pa_cons (pv 1) (pa_cons (pv 10) pa_nil))))
    (pss_cons (ps_set (i := 4) sc_law.nd rfl (Or.inl rfl) (pe_lst (pa_cons (pv 11) (pa_cons (pe_call (T.ok_test) hr (by rfl) T.g_test T.k_test T.b_test .nil pass0 (pa_cons (pv 1) (pa_cons pe_int pa_nil))) (pa_cons (pe_call (T.ok_bent_test) hr (by rfl) T.g_bent_test T.k_bent_test T.b_bent_test .nil pass0 (pa_cons (pv 1) (pa_cons (pv 11) pa_nil))) (pa_cons (pe_call (T.ok_bent_test) hr (by rfl) T.g_bent_test T.k_bent_test T.b_bent_test .nil pass0 (pa_cons (pv 1) (pa_cons (pv 11) pa_nil))) (pa_cons (pe_call (T.ok_odd) hr (by rfl) T.g_odd T.k_odd T.b_odd .nil pass0 (pa_cons (pv 1) pa_nil)) pa_nil)))))))
    (pss_one (ps_for PassesOwn.never rfl (pi_enum (by rfl) T.enumerate (pa_cons (pv 4) pa_nil)) (pg_tup rfl (pgs_cons (pg_name (i := 5) sc_law.nd rfl (Or.inl rfl)) (pgs_cons (pg_name (i := 6) sc_law.nd rfl (Or.inl rfl)) pgs_nil))) (pss_cons (ps_par (i := 7) (j := 8) rfl sc_law.nd rfl rfl (by decide) rfl rfl (pa_cons (pe_callB (call_reprX hG hr.units) (by rfl) T.z_repr (by decide +kernel) (pa_cons (pv 6) pa_nil)) (pa_cons (pe_callB (call_reprX hG hr.units) (by rfl) T.z_repr (by decide +kernel) (pa_cons (pe_call (T.ok_fits) (hr.mono (by decide)) (by rfl) T.g_fits T.k_fits T.b_fits .nil pass0 (pa_cons (pv 10) (pa_cons (pv 6) pa_nil))) pa_nil)) pa_nil)) (by rfl))
    (C8.pss_cut (ps_set (i := 9) sc_law.nd rfl (Or.inl rfl) (pe_ifExp (pt_cmpR op_eq (pv 5) (pv 2) (nomark _)) (pe_callK0 T.ok_is_test hr (by rfl) T.g_is_test T.k_is_test T.kb_is_test pass0 (pk_cons (pv 6) (pk_cons (pv 10) pk_nil))) (pe_call (T.ok_is_test) hr (by rfl) T.g_is_test T.k_is_test T.b_is_test .nil pass0 (pa_cons (pv 10) (pa_cons (pv 6) pa_nil)))))
    (pss_one (ps_if (PW.pt (pw_or (pt_cmpR op_ne (pe_callB (call_reprX hG hr.units) (by rfl) T.z_repr (by decide +kernel) (pa_cons (pv 9) pa_nil)) (pv 8) (nomark _)) (pw_or (pt_cmpR op_ne (pe_callB (call_reprX hG hr.units) (by rfl) T.z_repr (by decide +kernel) (pa_cons (pe_call (T.ok_is_test) hr (by rfl) T.g_is_test T.k_is_test T.b_is_test .nil pass0 (pa_cons (pv 10) (pa_cons (pv 6) pa_nil))) pa_nil)) (pv 8) (nomark _)) (pw_or1 (pt_cmpR op_ne (pe_callB (call_reprX hG hr.units) (by rfl) T.z_repr (by decide +kernel) (pa_cons (pv 6) pa_nil)) (pv 7) (nomark _)))))) (pss_one (ps_ret pe_bl)) pss_nil)))))))))))))
    (pss_cons (ps_set (i := 12) sc_law.nd rfl (Or.inl rfl) (pe_call (T.ok_pick) (hr.mono (by decide)) (by rfl) T.g_pick T.k_pick T.b_pick .nil pass0 (pa_cons (pv 1) (pa_cons (pe_call0 (T.ok_words) (hr.mono (by decide)) (by rfl) T.g_words T.k_words T.b_words .nil pass0) pa_nil))))
    (pss_cons (ps_set (i := 9) sc_law.nd rfl (Or.inl rfl) (pe_lst (pa_cons (pe_call (T.ok_names_error) (hr.mono (by decide)) (by rfl) T.g_names_error T.k_names_error T.b_names_error .nil pass0 (pa_cons (pe_tup (pa_cons (pv 12) pa_nil)) pa_nil)) (pa_cons (pe_call (T.ok_names_error) (hr.mono (by decide)) (by rfl) T.g_names_error T.k_names_error T.b_names_error .nil pass0 (pa_cons (pe_tup (pa_cons (pe_op op_add_str (pv 12) pe_str) pa_nil)) pa_nil)) (pa_cons (pe_call (T.ok_names_error) (hr.mono (by decide)) (by rfl) T.g_names_error T.k_names_error T.b_names_error .nil pass0 (pa_cons (pe_tup (pa_cons (pe_op op_add_str pe_str (pe_slice sl_str (pv 12) po_none (po_some pe_int))) pa_nil)) pa_nil)) pa_nil)))))
    (pss_one (ps_ret (pe_cmpR op_eq (pe_callB (call_reprX hG hr.units) (by rfl) T.z_repr (by decide +kernel) (pa_cons (pv 9) pa_nil)) (pe_callB (call_reprX hG hr.units) (by rfl) T.z_repr (by decide +kernel) (pa_cons (pe_lst (pa_cons (pe_tup (pa_cons pe_str (pa_cons pe_int pa_nil))) (pa_cons pe_non (pa_cons pe_non pa_nil)))) pa_nil)) (nomark _)))))))), ?_⟩
    have z : ∀ n : Nat, n ≤ 100 → n ≤ sizeLine := fun n h => Nat.le_trans h (by decide)
    have s7 : ∀ {d : PyData}, Dt 400 6 d → d.showable = true ∧ d.shown.length ≤ sizeLine ∧ d.depth ≤ 60 := fun h => h.show (by decide) (by decide)
    have ss : ∀ d : PyData, (slipNames d).showable = true ∧ (slipNames d).shown.length ≤ sizeLine ∧ (slipNames d).depth ≤ 60 := fun d => (slip_dt d).show (by decide) (by decide)
    have sb : ∀ b : Bool, (PyData.bool b).showable = true ∧ (PyData.bool b).shown.length ≤ sizeLine ∧ (PyData.bool b).depth ≤ 60 := fun d => (dt_bl d).show (by decide) (by decide)
    refine ⟨_, rfl, a0, ns, rfl, hS, hlen, fun H0 L F _ hM _ _ => ?_⟩
    refine ⟨8, rfl, by decide, by decide, for_range (lo := 0) (n := 8) (fun i σ H' => Lm H' L F ∧ ∃ y2 y3 y4 y5 y6 y7 y8 y9 y10 y11 : Option V, σ = [some (.ref a0), some (.ref L), y2, y3, y4, y5, y6, y7, y8, y9, y10, y11, none]) ⟨hM, none, none, none, none, none, none, none, none, none, none, rfl⟩ ?_ ?_⟩
    · rintro i σ H1 hi ⟨hM1, y2, y3, y4, y5, y6, y7, y8, y9, y10, y11, rfl⟩
      refine ⟨_, rfl, _, rfl, L, F, 3, rfl, hM1, by decide, fun H2 e1 kp2 hM2 e10 e11 => ⟨_, _, rfl, rfl, L, F, _, rfl, hM2, by omega, by omega, fun H3 p zs kp3 hM3 hp lz hz => ?_⟩⟩
      refine ⟨_, rfl, _, rfl, _, rfl, L, F, p, zs, rfl, hM3, hp, by omega, by omega, hz, fun H4 v4 d4 kp4 hM4 dv4 dt4 => ?_⟩
      refine ⟨_, rfl, _, rfl, L, F, p, zs, rfl, hM4, kp4.sqT hM3 hp, by omega, by omega, hz, fun H5 v5 d5 kp5 hM5 dv5 dt5 => ?_⟩
      refine ⟨_, rfl, L, F, rfl, hM5, fun H6 x6 d6 kp6 hM6 dx6 dt6 wk6 => ⟨z 4 (by decide), fun pv mv => ?_⟩⟩
      have kn : Kp L F H6 (upd H6 pv (.lst [.ref p, v4, v5, x6])) := Kp.new mv
      have MG := hM6.new (o := .lst [.ref p, v4, v5, x6]) mv
      have eG : (upd H6 pv (.lst [.ref p, v4, v5, x6])) pv = some (.lst [.ref p, v4, v5, x6]) := upd_same
      have dz : Dx K (ZL L F) H3 (.ref p) (.tuple (zs.map PyData.str)) := .tup hp (dx_strs zs)
      have dtz : Dt 400 6 (.tuple (zs.map PyData.str)) := by
        refine (Dts.tuple (dts_all (names_small hz))).le ?_ (by decide)
        rw [List.length_map]
        omega
      have all : DxAll K (ZL L F) (upd H6 pv (.lst [.ref p, v4, v5, x6])) [.ref p, v4, v5, x6] [.tuple (zs.map PyData.str), d4, d5, d6] :=
        .cons (dx_kp ((kp4.trans (kp5.trans kp6)).trans kn) hM3 dz) (.cons (dx_kp ((kp5.trans kp6).trans kn) hM4 (dx_zl dv4)) (.cons (dx_kp (kp6.trans kn) hM5 (dx_zl dv5)) (.cons (dx_kp kn hM6 (dx_zl dx6)) .nil)))
      have dtA : ∀ d ∈ ([.tuple (zs.map PyData.str), d4, d5, d6] : List PyData), Dt 400 6 d := fun d hd => by
        simp only [List.mem_cons, List.not_mem_nil, or_false] at hd
        rcases hd with rfl | rfl | rfl | rfl
        · exact dtz
        · exact dt4
        · exact dt5
        · exact dt6.le (by decide) (by decide)
      revert MG eG all
      clear kn
      generalize upd H6 pv (HO.lst [.ref p, v4, v5, x6]) = G
      generalize ([.ref p, v4, v5, x6] : List V) = xs at *
      generalize ([.tuple (zs.map PyData.str), d4, d5, d6] : List PyData) = ds at *
      intro MG eG all
      refine ⟨_, rfl, pv, xs, rfl, SqL.of eG, for_it walk_enum (fun j σ H' => Same G H' ∧ ∃ y5 y6 y7 y8 y9 : Option V, σ = [some (.ref a0), some (.ref L), some (.int (0 + (i : Int))), some (.ref p), some (.ref pv), y5, y6, y7, y8, y9, y10, y11, none]) ⟨Same.refl _, y5, y6, y7, y8, y9, rfl⟩ (fun j σ H' _ z => SqL.of (z.1 _ _ eG)) ?_ ?_⟩
      · rintro j x σ H7 H8 hj ⟨sm7, w5, w6, w7, w8, w9, rfl⟩ ⟨t, x1, v, rfl, ht, rfl, h1, h2⟩
        cases h1
        obtain ⟨d, hd, dv⟩ := dxAll_get all h2
        have dtd := dtA d (List.mem_of_getElem? hd)
        have its := dt_items dtd (by decide)
        have sm8 := sm7.trans (same_new (o := .tup [.int (j : Nat), v]) ht)
        have dv8 := dx_same sm8 dv
        have et : (upd H7 t (.tup [.int (j : Nat), v])) t = some (.tup [.int (j : Nat), v]) := upd_same
        revert sm8 dv8 et
        generalize upd H7 t (HO.tup [.int (j : Nat), v]) = H8
        intro sm8 dv8 et
        obtain ⟨sh1, sh2, sh3⟩ := s7 dtd
        obtain ⟨sl1, sl2, sl3⟩ := ss d
        refine ⟨t, _, rfl, SqT.of et, rfl, _, _, rfl, _, _, rfl, rfl, ?_⟩
        refine ⟨_, rfl, v, d, _, rfl, dv8, sh1, sh2, sh3, _, rfl, ZL L F, v, d, rfl, dv8, its, fun H9 r sm9 dr => ⟨r, slipNames d, NoP, rfl, dr, sl1, sl2, sl3, _, _, rfl, ?_⟩⟩
        have dv9 := dx_same sm9 dv8
        refine ⟨fun σ' H' => ∃ r : V, σ' = [some (.ref a0), some (.ref L), some (.int (0 + (i : Int))), some (.ref p), some (.ref pv), some (.int (j : Nat)), some v, some (.str d.shown), some (.str (slipNames d).shown), some r, y10, y11, none] ∧ Same H9 H' ∧ Dx K NoP H' r (slipNames d), ?_, ?_⟩
        · refine ⟨_, rfl, _, rfl, rfl, _, rfl, ite2 (fun _ => ?_) (fun _ => ?_)⟩
          · exact ⟨_, rfl, rfl, ZL L F, v, d, rfl, dv9, its, fun H10 r2 sm10 dr2 => ⟨r2, rfl, sm10, dr2⟩⟩
          · exact ⟨_, rfl, ZL L F, v, d, rfl, dv9, its, fun H10 r2 sm10 dr2 => ⟨r2, rfl, sm10, dr2⟩⟩
        rintro σ' H10 ⟨r2, rfl, sm10, dr2⟩
        have dv10 := dx_same sm10 dv9
        refine ⟨_, rfl, r2, slipNames d, NoP, rfl, dr2, sl1, sl2, sl3, _, rfl, rfl, _, rfl, ite2 (fun y => absurd rfl (vne y)) (fun _ => ?_)⟩
        refine ⟨_, rfl, ZL L F, v, d, rfl, dv10, its, fun H11 r3 sm11 dr3 => ⟨r3, slipNames d, NoP, rfl, dr3, sl1, sl2, sl3, _, rfl, rfl, _, rfl, ite2 (fun y => absurd rfl (vne y)) (fun _ => ?_)⟩⟩
        refine ⟨_, rfl, v, d, _, rfl, dx_same sm11 dv10, sh1, sh2, sh3, _, rfl, rfl, _, rfl, ite2 (fun y => absurd rfl (vne y)) (fun _ => ?_)⟩
        exact ⟨((sm8.trans sm9).trans sm10).trans sm11, _, _, _, _, _, rfl⟩
      · rintro σ H7 ⟨sm7, w5, w6, w7, w8, w9, rfl⟩
        have hM7 := MG.same sm7
        clear all dtA MG eG dz dtz dv4 dv5 dx6 dt4 dt5 dt6 wk6
        -- the tests
        refine ⟨_, rfl, L, F, 3, rfl, hM7, by decide, fun I1 f1 kq1 hN1 f10 f11 => ⟨_, _, rfl, rfl, ?_⟩⟩
        obtain ⟨m, hm, m1, m3⟩ : ∃ m : Int, 1 + f1 = m ∧ 1 ≤ m ∧ m ≤ 3 := ⟨_, rfl, by omega, by omega⟩
        dsimp only
        rw [hm]
        refine ⟨_, rfl, _, rfl, L, F, m, rfl, hN1, m1, m3, fun I2 pt c wd n kq2 hN2 hpt c0 c2 hw n1 n4 => ?_⟩
        refine ⟨_, rfl, _, rfl, L, F, 3, rfl, hN2, by decide, by decide, fun I3 pu c' wd' n' kq3 hN3 hpu c0' c2' hw' n1' n4' => ?_⟩
        refine ⟨_, rfl, _, rfl, L, F, pt, c, wd, n, rfl, hN3, kq3.sqT hN2 hpt, c0, c2, hw, n1, n4, fun I4 v4 d4 kq4 hN4 dv4 dt4 wk4 => ?_⟩
        refine ⟨_, rfl, _, rfl, L, F, pt, c, wd, n, rfl, hN4, (kq3.trans kq4).sqT hN2 hpt, c0, c2, hw, n1, n4, fun I5 v5 d5 kq5 hN5 dv5 dt5 wk5 => ?_⟩
        refine ⟨_, rfl, L, F, rfl, hN5, fun I6 x6 d6 kq6 hN6 dx6 dt6 wk6 => ⟨z 5 (by decide), fun pw mw => ?_⟩⟩
        have kn : Kp L F I6 (upd I6 pw (.lst [.ref pt, .ref pu, v4, v5, x6])) := Kp.new mw
        have MG := hN6.new (o := .lst [.ref pt, .ref pu, v4, v5, x6]) mw
        have eG : (upd I6 pw (.lst [.ref pt, .ref pu, v4, v5, x6])) pw = some (.lst [.ref pt, .ref pu, v4, v5, x6]) := upd_same
        have dt3 : ∀ {c n : Int} {w : Str}, 0 ≤ c → c ≤ 2 → isW w → 1 ≤ n → n ≤ 4 → Dt 400 6 (.tuple [.int c, .str w, .int n]) := fun a b c d e =>
          (Dts.tuple (Dts.cons (dt_small (by omega)) (Dts.cons (isW_dt c) (Dts.cons (dt_small (by omega)) Dts.nil)))).le (by decide) (by decide)
        have all : DxAll K (ZL L F) (upd I6 pw (.lst [.ref pt, .ref pu, v4, v5, x6])) [.ref pt, .ref pu, v4, v5, x6] [.tuple [.int c, .str wd, .int n], .tuple [.int c', .str wd', .int n'], d4, d5, d6] :=
          .cons (dx_kp ((kq3.trans (kq4.trans (kq5.trans kq6))).trans kn) hN2 (.tup hpt (.cons (.int _) (.cons (.str _) (.cons (.int _) .nil))))) (.cons (dx_kp ((kq4.trans (kq5.trans kq6)).trans kn) hN3 (.tup hpu (.cons (.int _) (.cons (.str _) (.cons (.int _) .nil)))))
            (.cons (dx_kp ((kq5.trans kq6).trans kn) hN4 (dx_zl dv4)) (.cons (dx_kp (kq6.trans kn) hN5 (dx_zl dv5)) (.cons (dx_kp kn hN6 (dx_zl dx6)) .nil))))
        have dtA : ∀ d ∈ ([.tuple [.int c, .str wd, .int n], .tuple [.int c', .str wd', .int n'], d4, d5, d6] : List PyData), Dt 400 6 d ∧ wordOk d := fun d hd => by
          simp only [List.mem_cons, List.not_mem_nil, or_false] at hd
          rcases hd with rfl | rfl | rfl | rfl | rfl
          · exact ⟨dt3 c0 c2 hw n1 n4, rfl, isW_sh hw⟩
          · exact ⟨dt3 c0' c2' hw' n1' n4', rfl, isW_sh hw'⟩
          · exact ⟨dt4.le (by decide) (by decide), wk4⟩
          · exact ⟨dt5.le (by decide) (by decide), wk5⟩
          · exact ⟨dt6.le (by decide) (by decide), odd_word wk6⟩
        revert MG eG all
        clear kn
        generalize upd I6 pw (HO.lst [.ref pt, .ref pu, v4, v5, x6]) = G2
        generalize ([.ref pt, .ref pu, v4, v5, x6] : List V) = xs2 at *
        generalize ([.tuple [.int c, .str wd, .int n], .tuple [.int c', .str wd', .int n'], d4, d5, d6] : List PyData) = ds2 at *
        intro MG eG all
        refine ⟨_, rfl, pw, xs2, rfl, SqL.of eG, for_it walk_enum (fun j σ H' => Same G2 H' ∧ ∃ y5 y6 y7 y8 y9 : Option V, σ = [some (.ref a0), some (.ref L), some (.int (0 + (i : Int))), some (.ref p), some (.ref pw), y5, y6, y7, y8, y9, some (.int m), some (.ref pt), none]) ⟨Same.refl _, w5, w6, w7, w8, w9, rfl⟩ (fun j σ H' _ z => SqL.of (z.1 _ _ eG)) ?_ ?_⟩
        · rintro j x σ H7 H8 hj ⟨sm7, w5, w6, w7, w8, w9, rfl⟩ ⟨t, x1, v, rfl, ht, rfl, h1, h2⟩
          cases h1
          obtain ⟨d, hd, dv⟩ := dxAll_get all h2
          obtain ⟨dtd, wkd⟩ := dtA d (List.mem_of_getElem? hd)
          have sm8 := sm7.trans (same_new (o := .tup [.int (j : Nat), v]) ht)
          have dv8 := dx_same sm8 dv
          have et : (upd H7 t (.tup [.int (j : Nat), v])) t = some (.tup [.int (j : Nat), v]) := upd_same
          revert sm8 dv8 et
          generalize upd H7 t (HO.tup [.int (j : Nat), v]) = H8
          intro sm8 dv8 et
          obtain ⟨sh1, sh2, sh3⟩ := s7 dtd
          obtain ⟨sl1, sl2, sl3⟩ := sb (testD m d)
          refine ⟨t, _, rfl, SqT.of et, rfl, _, _, rfl, _, _, rfl, rfl, ?_⟩
          refine ⟨_, rfl, v, d, _, rfl, dv8, sh1, sh2, sh3, _, rfl, _, rfl, ZL L F, v, d, m, rfl, dv8, fun H9 sm9 => ⟨_, .bool (testD m d), NoP, rfl, .bl _, sl1, sl2, sl3, _, _, rfl, ?_⟩⟩
          have dv9 := dx_same sm9 dv8
          refine ⟨fun σ' H' => σ' = [some (.ref a0), some (.ref L), some (.int (0 + (i : Int))), some (.ref p), some (.ref pw), some (.int (j : Nat)), some v, some (.str d.shown), some (.str (PyData.bool (testD m d)).shown), some (.bl (testD m d)), some (.int m), some (.ref pt), none] ∧ H' = H9, ?_, ?_⟩
          · refine ⟨_, rfl, _, rfl, rfl, _, rfl, ite2 (fun _ => ?_) (fun _ => ?_)⟩
            · exact ⟨_, rfl, _, rfl, rfl, ZL L F, v, d, m, rfl, dv9, wkd, rfl, rfl⟩
            · exact ⟨_, rfl, _, rfl, ZL L F, v, d, m, rfl, dv9, wkd, rfl, rfl⟩
          rintro σ' H10 ⟨rfl, rfl⟩
          refine ⟨_, rfl, _, .bool (testD m d), NoP, rfl, .bl _, sl1, sl2, sl3, _, rfl, rfl, _, rfl, ite2 (fun y => absurd rfl (vne y)) (fun _ => ?_)⟩
          refine ⟨_, rfl, _, rfl, ZL L F, v, d, m, rfl, dv9, wkd, _, .bool (testD m d), NoP, rfl, .bl _, sl1, sl2, sl3, _, rfl, rfl, _, rfl, ite2 (fun y => absurd rfl (vne y)) (fun _ => ?_)⟩
          refine ⟨_, rfl, v, d, _, rfl, dv9, sh1, sh2, sh3, _, rfl, rfl, _, rfl, ite2 (fun y => absurd rfl (vne y)) (fun _ => ?_)⟩
          exact ⟨sm8.trans sm9, _, _, _, _, _, rfl⟩
        · rintro σ H7 ⟨sm7, w5, w6, w7, w8, w9, rfl⟩
          exact ⟨MG.same sm7, _, _, _, _, _, _, _, _, _, _, rfl⟩
    · rintro σ H1 ⟨hM1, y2, y3, y4, y5, y6, y7, y8, y9, y10, y11, rfl⟩
      refine ⟨_, rfl, rfl, fun pw hw => ⟨L, F, pw, wordsV, rfl, hM1.new hw, SqL.of upd_same, (hM1.ne hw).1, (hM1.ne hw).2, by decide, by decide, fun H2 i0 x kp2 hM2 hx => ?_⟩⟩
      obtain ⟨wd, hwd, rfl⟩ := List.mem_map.mp (List.mem_of_getElem? hx)
      obtain ⟨a1, a2, a3, b1, b2, b3, c1, c2, c3⟩ := words_ok hwd
      have sh1 : ∀ {w : Str}, w.length ≤ 10 → (w.cps.toList.all fun c => decide (c < 1114112)) = true → itemsShort (.tuple [.str w]) := fun l c e he => by
        rw [List.mem_singleton.mp he]
        exact ⟨by omega, fun x hx => of_decide_eq_true (List.all_eq_true.mp c x hx)⟩
      refine ⟨_, rfl, z 1 (by decide), fun t1 m1 => ?_⟩
      obtain ⟨J1, w1, r1, hJ1, f1⟩ := new_objX hM2 (.tup [.str wd]) m1
      rw [w1]
      refine ⟨NoP, .ref t1, .tuple [.str wd], rfl, .tup (SqT.of f1) (.cons (.str _) .nil), sh1 (by omega) c1, fun J2 u1 r2 d1 => ?_⟩
      rw [no_name a1] at d1
      have l1 : (Str.ofString "s").length = 1 := by decide +kernel
      refine ⟨_, rfl, _, _, rfl, rfl, Nat.le_trans (show wd.length + (Str.ofString "s").length ≤ 8 by omega) (z 8 (by decide)), z 1 (by decide), fun t2 m2 => ?_⟩
      have e2 : (upd J2 t2 (.tup [.str (wd ++ "s")])) t2 = some (.tup [.str (wd ++ "s")]) := upd_same
      have r3 := same_new (o := .tup [.str (wd ++ "s")]) m2
      refine ⟨NoP, .ref t2, .tuple [.str (wd ++ "s")], rfl, .tup (SqT.of e2) (.cons (.str _) .nil), sh1 b2 c2, fun J4 u2 r4 d2 => ?_⟩
      rw [one_name a2] at d2
      refine ⟨_, rfl, _, rfl, wd, rfl, Nat.le_trans b1 (z 7 (by decide)), _, _, rfl, rfl, ?_, z 1 (by decide), fun t3 m3 => ?_⟩
      · have e : (Str.ofString "z" ++ cutW wd).length = (Str.ofString "z").length + (cutW wd).length := by
          show ((Str.ofString "z").cps ++ (cutW wd).cps).size = _
          rw [Array.size_append]
          rfl
        have b3' : (Str.ofString "z" ++ cutW wd).length ≤ 10 := b3
        rw [e] at b3'
        exact Nat.le_trans b3' (z 10 (by decide))
      have e3 : (upd J4 t3 (.tup [.str ("z" ++ cutW wd)])) t3 = some (.tup [.str ("z" ++ cutW wd)]) := upd_same
      have r5 := same_new (o := .tup [.str ("z" ++ cutW wd)]) m3
      refine ⟨NoP, .ref t3, .tuple [.str ("z" ++ cutW wd)], rfl, .tup (SqT.of e3) (.cons (.str _) .nil), sh1 b3 c3, fun J6 u3 r6 d3 => ?_⟩
      rw [one_name a3] at d3
      have dtl : Dt 400 6 (.list [.tuple [.str "name", .int 0], .none, .none]) := ⟨by decide +kernel, by decide +kernel, by decide +kernel⟩
      obtain ⟨q1, q2, q3⟩ := s7 dtl
      refine ⟨z 3 (by decide), fun p1 n1 => ⟨_, rfl, _, .list [.tuple [.str "name", .int 0], .none, .none], fun a => a = p1, rfl, ?_, q1, q2, q3, ?_⟩⟩
      · have r7 := same_new (o := .lst [u1, u2, u3]) n1
        have mono : ∀ {H : Hp} {v : V} {d : PyData}, Dx K NoP H v d → Dx K (fun a => a = p1) H v d := fun h => dx_monoL (fun _ z => z.elim) h
        exact .lst upd_same rfl (.cons (mono (dx_same (((r3.trans r4).trans (r5.trans r6)).trans r7) d1)) (.cons (mono (dx_same ((r5.trans r6).trans r7) d2)) (.cons (mono (dx_same r7 d3)) .nil)))
      · refine ⟨z 2 (by decide), fun t5 m5 => ⟨z 3 (by decide), fun p2 n2 => ⟨_, .list [.tuple [.str "name", .int 0], .none, .none], fun a => a = p2, rfl, ?_, q1, q2, q3, rfl, ?_⟩⟩⟩
        · have r8 := same_new (o := .lst [.ref t5, .non, .non]) n2
          exact .lst upd_same rfl (.cons (.tup (SqT.of (r8 _ _ upd_same)) (.cons (.str _) (.cons (.int _) .nil))) (.cons .non (.cons .non .nil)))
        · rw [decide_eq_true rfl]
          exact q _
end
end Ev

set_option exponentiation.threshold 256
namespace Ev
open PySem PySem.Spec PyProof.Rows L2
theorem all_mk {l : PySem.W.OpenLaw} {w : World} {K : PySem.W.Frag} {h : Heap} {mg : Str → Option Value} {fa : Addr}
    (X : K.In h) (G : h.Ns mainGlobals mg) (hfa : mg "law" = some (.ref fa))
    {f0 : Addr} {od0 an0 : Option Addr} {sl0 : Array (Option Value)} {oc0 kV0 dc0 pm0 cd0 ct0 : Value}
    (a0 : PySem.W.nsIn K mainGlobals "names_error" = some (some (.ref f0)))
    (l0 : K.lookup f0 = some ⟨oc0, od0, .func (PySem.W.fnOf "names_error" "names_error" (defArgs s_names_error) (defBody s_names_error) (defScope s_names_error) .none kV0 dc0 pm0 an0 cd0 ct0), sl0⟩)
    (c0 : PySem.W.codeIn K cd0 "names_error" = true)
    (k0 : PySem.W.keepIn K (.ref f0) = true)
    {f1 : Addr} {od1 an1 : Option Addr} {sl1 : Array (Option Value)} {oc1 kV1 dc1 pm1 cd1 ct1 : Value}
    (a1 : PySem.W.nsIn K mainGlobals "is_integer" = some (some (.ref f1)))
    (l1 : K.lookup f1 = some ⟨oc1, od1, .func (PySem.W.fnOf "is_integer" "is_integer" (defArgs s_is_integer) (defBody s_is_integer) (defScope s_is_integer) .none kV1 dc1 pm1 an1 cd1 ct1), sl1⟩)
    (c1 : PySem.W.codeIn K cd1 "is_integer" = true)
    (k1 : PySem.W.keepIn K (.ref f1) = true)
    {f2 : Addr} {od2 an2 : Option Addr} {sl2 : Array (Option Value)} {oc2 kV2 dc2 pm2 cd2 ct2 : Value}
    (a2 : PySem.W.nsIn K mainGlobals "is_within" = some (some (.ref f2)))
    (l2 : K.lookup f2 = some ⟨oc2, od2, .func (PySem.W.fnOf "is_within" "is_within" (defArgs s_is_within) (defBody s_is_within) (defScope s_is_within) .none kV2 dc2 pm2 an2 cd2 ct2), sl2⟩)
    (c2 : PySem.W.codeIn K cd2 "is_within" = true)
    (k2 : PySem.W.keepIn K (.ref f2) = true)
    {f3 : Addr} {od3 an3 : Option Addr} {sl3 : Array (Option Value)} {oc3 kV3 dc3 pm3 cd3 ct3 : Value}
    (a3 : PySem.W.nsIn K mainGlobals "is_name" = some (some (.ref f3)))
    (l3 : K.lookup f3 = some ⟨oc3, od3, .func (PySem.W.fnOf "is_name" "is_name" (defArgs s_is_name) (defBody s_is_name) (defScope s_is_name) .none kV3 dc3 pm3 an3 cd3 ct3), sl3⟩)
    (c3 : PySem.W.codeIn K cd3 "is_name" = true)
    (k3 : PySem.W.keepIn K (.ref f3) = true)
    {f4 : Addr} {od4 an4 : Option Addr} {sl4 : Array (Option Value)} {oc4 kV4 dc4 pm4 cd4 ct4 : Value}
    (a4 : PySem.W.nsIn K mainGlobals "is_test" = some (some (.ref f4)))
    (l4 : K.lookup f4 = some ⟨oc4, od4, .func (PySem.W.fnOf "is_test" "is_test" (defArgs s_is_test) (defBody s_is_test) (defScope s_is_test) .none kV4 dc4 pm4 an4 cd4 ct4), sl4⟩)
    (c4 : PySem.W.codeIn K cd4 "is_test" = true)
    (k4 : PySem.W.keepIn K (.ref f4) = true)
    {f5 : Addr} {od5 an5 : Option Addr} {sl5 : Array (Option Value)} {oc5 kV5 dc5 pm5 cd5 ct5 : Value}
    (a5 : PySem.W.nsIn K mainGlobals "_law_loom" = some (some (.ref f5)))
    (l5 : K.lookup f5 = some ⟨oc5, od5, .func (PySem.W.fnOf "_law_loom" "_law_loom" (defArgs s_loom) (defBody s_loom) (defScope s_loom) .none kV5 dc5 pm5 an5 cd5 ct5), sl5⟩)
    (c5 : PySem.W.codeIn K cd5 "_law_loom" = true)
    (k5 : PySem.W.keepIn K (.ref f5) = true)
    {f6 : Addr} {od6 an6 : Option Addr} {sl6 : Array (Option Value)} {oc6 kV6 dc6 pm6 cd6 ct6 : Value}
    (a6 : PySem.W.nsIn K mainGlobals "_law_draw" = some (some (.ref f6)))
    (l6 : K.lookup f6 = some ⟨oc6, od6, .func (PySem.W.fnOf "_law_draw" "_law_draw" (defArgs s_draw) (defBody s_draw) (defScope s_draw) .none kV6 dc6 pm6 an6 cd6 ct6), sl6⟩)
    (c6 : PySem.W.codeIn K cd6 "_law_draw" = true)
    (k6 : PySem.W.keepIn K (.ref f6) = true)
    {f7 : Addr} {od7 an7 : Option Addr} {sl7 : Array (Option Value)} {oc7 kV7 dc7 pm7 cd7 ct7 : Value}
    (a7 : PySem.W.nsIn K mainGlobals "_law_pick" = some (some (.ref f7)))
    (l7 : K.lookup f7 = some ⟨oc7, od7, .func (PySem.W.fnOf "_law_pick" "_law_pick" (defArgs s_pick) (defBody s_pick) (defScope s_pick) .none kV7 dc7 pm7 an7 cd7 ct7), sl7⟩)
    (c7 : PySem.W.codeIn K cd7 "_law_pick" = true)
    (k7 : PySem.W.keepIn K (.ref f7) = true)
    {f8 : Addr} {od8 an8 : Option Addr} {sl8 : Array (Option Value)} {oc8 kV8 dc8 pm8 cd8 ct8 : Value}
    (a8 : PySem.W.nsIn K mainGlobals "_law_mixed" = some (some (.ref f8)))
    (l8 : K.lookup f8 = some ⟨oc8, od8, .func (PySem.W.fnOf "_law_mixed" "_law_mixed" (defArgs s_mixed) (defBody s_mixed) (defScope s_mixed) .none kV8 dc8 pm8 an8 cd8 ct8), sl8⟩)
    (c8 : PySem.W.codeIn K cd8 "_law_mixed" = true)
    (k8 : PySem.W.keepIn K (.ref f8) = true)
    {f9 : Addr} {od9 an9 : Option Addr} {sl9 : Array (Option Value)} {oc9 kV9 dc9 pm9 cd9 ct9 : Value}
    (a9 : PySem.W.nsIn K mainGlobals "_law_odd" = some (some (.ref f9)))
    (l9 : K.lookup f9 = some ⟨oc9, od9, .func (PySem.W.fnOf "_law_odd" "_law_odd" (defArgs s_odd) (defBody s_odd) (defScope s_odd) .none kV9 dc9 pm9 an9 cd9 ct9), sl9⟩)
    (c9 : PySem.W.codeIn K cd9 "_law_odd" = true)
    (k9 : PySem.W.keepIn K (.ref f9) = true)
    {f10 : Addr} {od10 an10 : Option Addr} {sl10 : Array (Option Value)} {oc10 kV10 dc10 pm10 cd10 ct10 : Value}
    (a10 : PySem.W.nsIn K mainGlobals "_law_is_whole" = some (some (.ref f10)))
    (l10 : K.lookup f10 = some ⟨oc10, od10, .func (PySem.W.fnOf "_law_is_whole" "_law_is_whole" (defArgs s_is_whole) (defBody s_is_whole) (defScope s_is_whole) .none kV10 dc10 pm10 an10 cd10 ct10), sl10⟩)
    (c10 : PySem.W.codeIn K cd10 "_law_is_whole" = true)
    (k10 : PySem.W.keepIn K (.ref f10) = true)
    {f11 : Addr} {od11 an11 : Option Addr} {sl11 : Array (Option Value)} {oc11 kV11 dc11 pm11 cd11 ct11 : Value}
    (a11 : PySem.W.nsIn K mainGlobals "_law_words" = some (some (.ref f11)))
    (l11 : K.lookup f11 = some ⟨oc11, od11, .func (PySem.W.fnOf "_law_words" "_law_words" (defArgs s_words) (defBody s_words) (defScope s_words) .none kV11 dc11 pm11 an11 cd11 ct11), sl11⟩)
    (c11 : PySem.W.codeIn K cd11 "_law_words" = true)
    (k11 : PySem.W.keepIn K (.ref f11) = true)
    {f12 : Addr} {od12 an12 : Option Addr} {sl12 : Array (Option Value)} {oc12 kV12 dc12 pm12 cd12 ct12 : Value}
    (a12 : PySem.W.nsIn K mainGlobals "_law_is_name" = some (some (.ref f12)))
    (l12 : K.lookup f12 = some ⟨oc12, od12, .func (PySem.W.fnOf "_law_is_name" "_law_is_name" (defArgs s_l_is_name) (defBody s_l_is_name) (defScope s_l_is_name) .none kV12 dc12 pm12 an12 cd12 ct12), sl12⟩)
    (c12 : PySem.W.codeIn K cd12 "_law_is_name" = true)
    (k12 : PySem.W.keepIn K (.ref f12) = true)
    {f13 : Addr} {od13 an13 : Option Addr} {sl13 : Array (Option Value)} {oc13 kV13 dc13 pm13 cd13 ct13 : Value}
    (a13 : PySem.W.nsIn K mainGlobals "_law_names_slip" = some (some (.ref f13)))
    (l13 : K.lookup f13 = some ⟨oc13, od13, .func (PySem.W.fnOf "_law_names_slip" "_law_names_slip" (defArgs s_names_slip) (defBody s_names_slip) (defScope s_names_slip) .none kV13 dc13 pm13 an13 cd13 ct13), sl13⟩)
    (c13 : PySem.W.codeIn K cd13 "_law_names_slip" = true)
    (k13 : PySem.W.keepIn K (.ref f13) = true)
    {f14 : Addr} {od14 an14 : Option Addr} {sl14 : Array (Option Value)} {oc14 kV14 dc14 pm14 cd14 ct14 : Value}
    (a14 : PySem.W.nsIn K mainGlobals "_law_names" = some (some (.ref f14)))
    (l14 : K.lookup f14 = some ⟨oc14, od14, .func (PySem.W.fnOf "_law_names" "_law_names" (defArgs s_names) (defBody s_names) (defScope s_names) .none kV14 dc14 pm14 an14 cd14 ct14), sl14⟩)
    (c14 : PySem.W.codeIn K cd14 "_law_names" = true)
    (k14 : PySem.W.keepIn K (.ref f14) = true)
    {f15 : Addr} {od15 an15 : Option Addr} {sl15 : Array (Option Value)} {oc15 kV15 dc15 pm15 cd15 ct15 : Value}
    (a15 : PySem.W.nsIn K mainGlobals "_law_test" = some (some (.ref f15)))
    (l15 : K.lookup f15 = some ⟨oc15, od15, .func (PySem.W.fnOf "_law_test" "_law_test" (defArgs s_test) (defBody s_test) (defScope s_test) .none kV15 dc15 pm15 an15 cd15 ct15), sl15⟩)
    (c15 : PySem.W.codeIn K cd15 "_law_test" = true)
    (k15 : PySem.W.keepIn K (.ref f15) = true)
    {f16 : Addr} {od16 an16 : Option Addr} {sl16 : Array (Option Value)} {oc16 kV16 dc16 pm16 cd16 ct16 : Value}
    (a16 : PySem.W.nsIn K mainGlobals "_law_fits" = some (some (.ref f16)))
    (l16 : K.lookup f16 = some ⟨oc16, od16, .func (PySem.W.fnOf "_law_fits" "_law_fits" (defArgs s_fits) (defBody s_fits) (defScope s_fits) .none kV16 dc16 pm16 an16 cd16 ct16), sl16⟩)
    (c16 : PySem.W.codeIn K cd16 "_law_fits" = true)
    (k16 : PySem.W.keepIn K (.ref f16) = true)
    {f17 : Addr} {od17 an17 : Option Addr} {sl17 : Array (Option Value)} {oc17 kV17 dc17 pm17 cd17 ct17 : Value}
    (a17 : PySem.W.nsIn K mainGlobals "_law_bent_names" = some (some (.ref f17)))
    (l17 : K.lookup f17 = some ⟨oc17, od17, .func (PySem.W.fnOf "_law_bent_names" "_law_bent_names" (defArgs s_bent_names) (defBody s_bent_names) (defScope s_bent_names) .none kV17 dc17 pm17 an17 cd17 ct17), sl17⟩)
    (c17 : PySem.W.codeIn K cd17 "_law_bent_names" = true)
    (k17 : PySem.W.keepIn K (.ref f17) = true)
    {f18 : Addr} {od18 an18 : Option Addr} {sl18 : Array (Option Value)} {oc18 kV18 dc18 pm18 cd18 ct18 : Value}
    (a18 : PySem.W.nsIn K mainGlobals "_law_bent_test" = some (some (.ref f18)))
    (l18 : K.lookup f18 = some ⟨oc18, od18, .func (PySem.W.fnOf "_law_bent_test" "_law_bent_test" (defArgs s_bent_test) (defBody s_bent_test) (defScope s_bent_test) .none kV18 dc18 pm18 an18 cd18 ct18), sl18⟩)
    (c18 : PySem.W.codeIn K cd18 "_law_bent_test" = true)
    (k18 : PySem.W.keepIn K (.ref f18) = true)
    {f19 : Addr} {od19 an19 : Option Addr} {sl19 : Array (Option Value)} {oc19 kV19 dc19 pm19 cd19 ct19 : Value}
    (a19 : PySem.W.nsIn K mainGlobals "law" = some (some (.ref f19)))
    (l19 : K.lookup f19 = some ⟨oc19, od19, .func (PySem.W.fnOf "law" "law" (defArgs s_law) (defBody s_law) (defScope s_law) .none kV19 dc19 pm19 an19 cd19 ct19), sl19⟩)
    (c19 : PySem.W.codeIn K cd19 "law" = true)
    (k19 : PySem.W.keepIn K (.ref f19) = true)
    {f20 : Addr} {od20 : Option Addr} {sl20 : Array (Option Value)} {nn20 : Nat} {t20_0 t20_1 t20_2 t20_3 t20_4 t20_5 t20_6 t20_7 t20_8 t20_9 t20_10 t20_11 t20_12 t20_13 : Tok}
    (a20 : PySem.W.nsIn K mainGlobals "WORDS" = some (some (.ref f20)))
    (l20 : K.lookup f20 = some ⟨.type "tuple", od20, .seq (Array.mk [.str "as" t20_0, .str "by" t20_1, .str "die" t20_2, .str "do" t20_3, .str "either" t20_4, .str "else" t20_5, .str "if" t20_6, .str "loop" t20_7, .str "or" t20_8, .str "program" t20_9, .str "seen" t20_10, .str "skip" t20_11, .str "till" t20_12, .str "while" t20_13]) nn20, sl20⟩)
    (n_int : PySem.W.nsIn K mainGlobals "int" = some none)
    (n_len : PySem.W.nsIn K mainGlobals "len" = some none)
    (n_abs : PySem.W.nsIn K mainGlobals "abs" = some none)
    (n_repr : PySem.W.nsIn K mainGlobals "repr" = some none)
    (n_range : PySem.W.nsIn K mainGlobals "range" = some none)
    (n_isinstance : PySem.W.nsIn K mainGlobals "isinstance" = some none)
    (n_str : PySem.W.nsIn K mainGlobals "str" = some none)
    (n_list : PySem.W.nsIn K mainGlobals "list" = some none)
    (n_tuple : PySem.W.nsIn K mainGlobals "tuple" = some none)
    (n_enumerate : PySem.W.nsIn K mainGlobals "enumerate" = some none)
    (n_bool : PySem.W.nsIn K mainGlobals "bool" = some none)
    (n_all : PySem.W.nsIn K mainGlobals "all" = some none)
    {t_MAX_COUNTERS : Tok}
    (q_MAX_COUNTERS : PySem.W.nsIn K mainGlobals "MAX_COUNTERS" = some (some (.int 3 t_MAX_COUNTERS)))
    {t_MAX_TEST : Tok}
    (q_MAX_TEST : PySem.W.nsIn K mainGlobals "MAX_TEST" = some (some (.int 4 t_MAX_TEST)))
    {t_MAX_LETTERS : Tok}
    (q_MAX_LETTERS : PySem.W.nsIn K mainGlobals "MAX_LETTERS" = some (some (.int 8 t_MAX_LETTERS)))
    {t_LETTERS : Tok}
    (q_LETTERS : PySem.W.nsIn K mainGlobals "LETTERS" = some (some (.str "abcdefghijklmnopqrstuvwxyz" t_LETTERS)))
    : ∃ fd : FuncData, (∀ (s : Shared) (v : Value), BindsTo s fd ⟨[v], []⟩ [("script", v)]) ∧ ∀ base : Heap, K.In base → base.Ns mainGlobals mg →
      FnG l.prog w K mg base CX0 4 fa fd ["script"] (sp_law K) := by
  have e : f19 = fa := by
    cases hfa.symm.trans (PySem.W.mg_of X G a19)
    rfl
  subst e
  have T : Txt K mg (fun i => [f0, f1, f2, f3, f4, f5, f6, f7, f8, f9, f10, f11, f12, f13, f14, f15, f16, f17, f18, f19, f20].getD i 0) (fun i => [(PySem.W.fnOf "names_error" "names_error" (defArgs s_names_error) (defBody s_names_error) (defScope s_names_error) .none kV0 dc0 pm0 an0 cd0 ct0),
      (PySem.W.fnOf "is_integer" "is_integer" (defArgs s_is_integer) (defBody s_is_integer) (defScope s_is_integer) .none kV1 dc1 pm1 an1 cd1 ct1),
      (PySem.W.fnOf "is_within" "is_within" (defArgs s_is_within) (defBody s_is_within) (defScope s_is_within) .none kV2 dc2 pm2 an2 cd2 ct2),
      (PySem.W.fnOf "is_name" "is_name" (defArgs s_is_name) (defBody s_is_name) (defScope s_is_name) .none kV3 dc3 pm3 an3 cd3 ct3),
      (PySem.W.fnOf "is_test" "is_test" (defArgs s_is_test) (defBody s_is_test) (defScope s_is_test) .none kV4 dc4 pm4 an4 cd4 ct4),
      (PySem.W.fnOf "_law_loom" "_law_loom" (defArgs s_loom) (defBody s_loom) (defScope s_loom) .none kV5 dc5 pm5 an5 cd5 ct5),
      (PySem.W.fnOf "_law_draw" "_law_draw" (defArgs s_draw) (defBody s_draw) (defScope s_draw) .none kV6 dc6 pm6 an6 cd6 ct6),
      (PySem.W.fnOf "_law_pick" "_law_pick" (defArgs s_pick) (defBody s_pick) (defScope s_pick) .none kV7 dc7 pm7 an7 cd7 ct7),
      (PySem.W.fnOf "_law_mixed" "_law_mixed" (defArgs s_mixed) (defBody s_mixed) (defScope s_mixed) .none kV8 dc8 pm8 an8 cd8 ct8),
      (PySem.W.fnOf "_law_odd" "_law_odd" (defArgs s_odd) (defBody s_odd) (defScope s_odd) .none kV9 dc9 pm9 an9 cd9 ct9),
      (PySem.W.fnOf "_law_is_whole" "_law_is_whole" (defArgs s_is_whole) (defBody s_is_whole) (defScope s_is_whole) .none kV10 dc10 pm10 an10 cd10 ct10),
      (PySem.W.fnOf "_law_words" "_law_words" (defArgs s_words) (defBody s_words) (defScope s_words) .none kV11 dc11 pm11 an11 cd11 ct11),
      (PySem.W.fnOf "_law_is_name" "_law_is_name" (defArgs s_l_is_name) (defBody s_l_is_name) (defScope s_l_is_name) .none kV12 dc12 pm12 an12 cd12 ct12),
      (PySem.W.fnOf "_law_names_slip" "_law_names_slip" (defArgs s_names_slip) (defBody s_names_slip) (defScope s_names_slip) .none kV13 dc13 pm13 an13 cd13 ct13),
      (PySem.W.fnOf "_law_names" "_law_names" (defArgs s_names) (defBody s_names) (defScope s_names) .none kV14 dc14 pm14 an14 cd14 ct14),
      (PySem.W.fnOf "_law_test" "_law_test" (defArgs s_test) (defBody s_test) (defScope s_test) .none kV15 dc15 pm15 an15 cd15 ct15),
      (PySem.W.fnOf "_law_fits" "_law_fits" (defArgs s_fits) (defBody s_fits) (defScope s_fits) .none kV16 dc16 pm16 an16 cd16 ct16),
      (PySem.W.fnOf "_law_bent_names" "_law_bent_names" (defArgs s_bent_names) (defBody s_bent_names) (defScope s_bent_names) .none kV17 dc17 pm17 an17 cd17 ct17),
      (PySem.W.fnOf "_law_bent_test" "_law_bent_test" (defArgs s_bent_test) (defBody s_bent_test) (defScope s_bent_test) .none kV18 dc18 pm18 an18 cd18 ct18),
      (PySem.W.fnOf "law" "law" (defArgs s_law) (defBody s_law) (defScope s_law) .none kV19 dc19 pm19 an19 cd19 ct19)].getD i (PySem.W.fnOf "names_error" "names_error" (defArgs s_names_error) (defBody s_names_error) (defScope s_names_error) .none kV0 dc0 pm0 an0 cd0 ct0)) :=
    { F_names_error := fun_mk (st := s_names_error) l0 c0 k0,
      g_names_error := PySem.W.mg_of X G a0,
      F_is_integer := fun_mk (st := s_is_integer) l1 c1 k1,
      g_is_integer := PySem.W.mg_of X G a1,
      F_is_within := fun_mk (st := s_is_within) l2 c2 k2,
      g_is_within := PySem.W.mg_of X G a2,
      F_is_name := fun_mk (st := s_is_name) l3 c3 k3,
      g_is_name := PySem.W.mg_of X G a3,
      F_is_test := fun_mk (st := s_is_test) l4 c4 k4,
      g_is_test := PySem.W.mg_of X G a4,
      F_loom := fun_mk (st := s_loom) l5 c5 k5,
      g_loom := PySem.W.mg_of X G a5,
      F_draw := fun_mk (st := s_draw) l6 c6 k6,
      g_draw := PySem.W.mg_of X G a6,
      F_pick := fun_mk (st := s_pick) l7 c7 k7,
      g_pick := PySem.W.mg_of X G a7,
      F_mixed := fun_mk (st := s_mixed) l8 c8 k8,
      g_mixed := PySem.W.mg_of X G a8,
      F_odd := fun_mk (st := s_odd) l9 c9 k9,
      g_odd := PySem.W.mg_of X G a9,
      F_is_whole := fun_mk (st := s_is_whole) l10 c10 k10,
      g_is_whole := PySem.W.mg_of X G a10,
      F_words := fun_mk (st := s_words) l11 c11 k11,
      g_words := PySem.W.mg_of X G a11,
      F_l_is_name := fun_mk (st := s_l_is_name) l12 c12 k12,
      g_l_is_name := PySem.W.mg_of X G a12,
      F_names_slip := fun_mk (st := s_names_slip) l13 c13 k13,
      g_names_slip := PySem.W.mg_of X G a13,
      F_names := fun_mk (st := s_names) l14 c14 k14,
      g_names := PySem.W.mg_of X G a14,
      F_test := fun_mk (st := s_test) l15 c15 k15,
      g_test := PySem.W.mg_of X G a15,
      F_fits := fun_mk (st := s_fits) l16 c16 k16,
      g_fits := PySem.W.mg_of X G a16,
      F_bent_names := fun_mk (st := s_bent_names) l17 c17 k17,
      g_bent_names := PySem.W.mg_of X G a17,
      F_bent_test := fun_mk (st := s_bent_test) l18 c18 k18,
      g_bent_test := PySem.W.mg_of X G a18,
      F_law := fun_mk (st := s_law) l19 c19 k19,
      g_law := PySem.W.mg_of X G a19,
      g_WORDS := PySem.W.mg_of X G a20,
      t_WORDS := ⟨_, _, _, l20, rfl, rfl, (by show 14 ≤ sizeLine; decide), .cons ⟨_, rfl⟩ (.cons ⟨_, rfl⟩ (.cons ⟨_, rfl⟩ (.cons ⟨_, rfl⟩ (.cons ⟨_, rfl⟩ (.cons ⟨_, rfl⟩ (.cons ⟨_, rfl⟩ (.cons ⟨_, rfl⟩ (.cons ⟨_, rfl⟩ (.cons ⟨_, rfl⟩ (.cons ⟨_, rfl⟩ (.cons ⟨_, rfl⟩ (.cons ⟨_, rfl⟩ (.cons ⟨_, rfl⟩ (.nil))))))))))))))⟩,
      z_int := PySem.W.mg_none_of X G n_int,
      z_len := PySem.W.mg_none_of X G n_len,
      z_abs := PySem.W.mg_none_of X G n_abs,
      z_repr := PySem.W.mg_none_of X G n_repr,
      range := PySem.W.mg_none_of X G n_range,
      z_isinstance := PySem.W.mg_none_of X G n_isinstance,
      z_str := PySem.W.mg_none_of X G n_str,
      z_list := PySem.W.mg_none_of X G n_list,
      z_tuple := PySem.W.mg_none_of X G n_tuple,
      enumerate := PySem.W.mg_none_of X G n_enumerate,
      z_bool := PySem.W.mg_none_of X G n_bool,
      z_all := PySem.W.mg_none_of X G n_all,
      c_MAX_COUNTERS := ⟨_, PySem.W.mg_of X G q_MAX_COUNTERS, _, rfl⟩,
      c_MAX_TEST := ⟨_, PySem.W.mg_of X G q_MAX_TEST, _, rfl⟩,
      c_MAX_LETTERS := ⟨_, PySem.W.mg_of X G q_MAX_LETTERS, _, rfl⟩,
      c_LETTERS := ⟨_, PySem.W.mg_of X G q_LETTERS, _, rfl⟩ }
  exact ⟨_, fun s v => .of_eq rfl, fun base _ _ => T.ok_law⟩
end Ev

open PySem PySem.W PyProof.Rows in
set_option maxRecDepth 100000 in
set_option maxHeartbeats 0 in
theorem PySem.Challenge.cw_everystart_k06_what_names_and_tests_are_holds : PySem.Challenge.rw_everystart_k06_what_names_and_tests_are.Holds := by
  w_on; o_law; k_head; (case hw => w_witness2)
  k_fill
  refine Ev.walk_ofG (l := PySem.Challenge.rw_everystart_k06_what_names_and_tests_are) (n := 63) (k := 4) (x := "script") (sp := fun w => Ev.sp_law _) rfl (by decide) rfl ⟨rfl, by decide, by decide⟩ (fun w h Y => PySem.W.kIn_of Y) ?F (fun _ _ a ns hl _ hS => ⟨a, ns, rfl, hS, hl, fun _ => rfl⟩)
  case F =>
    intro w mg fa h KX G hmg
    refine' Ev.all_mk KX G hmg ?a0 ?l0 ?c0 ?k0 ?a1 ?l1 ?c1 ?k1 ?a2 ?l2 ?c2 ?k2 ?a3 ?l3 ?c3 ?k3 ?a4 ?l4 ?c4 ?k4 ?a5 ?l5 ?c5 ?k5 ?a6 ?l6 ?c6 ?k6 ?a7 ?l7 ?c7 ?k7 ?a8 ?l8 ?c8 ?k8 ?a9 ?l9 ?c9 ?k9 ?a10 ?l10 ?c10 ?k10 ?a11 ?l11 ?c11 ?k11 ?a12 ?l12 ?c12 ?k12 ?a13 ?l13 ?c13 ?k13 ?a14 ?l14 ?c14 ?k14 ?a15 ?l15 ?c15 ?k15 ?a16 ?l16 ?c16 ?k16 ?a17 ?l17 ?c17 ?k17 ?a18 ?l18 ?c18 ?k18 ?a19 ?l19 ?c19 ?k19 ?a20 ?l20 ?n_int ?n_len ?n_abs ?n_repr ?n_range ?n_isinstance ?n_str ?n_list ?n_tuple ?n_enumerate ?n_bool ?n_all ?q_MAX_COUNTERS ?q_MAX_TEST ?q_MAX_LETTERS ?q_LETTERS
    (case a0 => k_is)
    (case l0 => k_is)
    (case c0 => k_is)
    (case k0 => k_is)
    (case a1 => k_is)
    (case l1 => k_is)
    (case c1 => k_is)
    (case k1 => k_is)
    (case a2 => k_is)
    (case l2 => k_is)
    (case c2 => k_is)
    (case k2 => k_is)
    (case a3 => k_is)
    (case l3 => k_is)
    (case c3 => k_is)
    (case k3 => k_is)
    (case a4 => k_is)
    (case l4 => k_is)
    (case c4 => k_is)
    (case k4 => k_is)
    (case a5 => k_is)
    (case l5 => k_is)
    (case c5 => k_is)
    (case k5 => k_is)
    (case a6 => k_is)
    (case l6 => k_is)
    (case c6 => k_is)
    (case k6 => k_is)
    (case a7 => k_is)
    (case l7 => k_is)
    (case c7 => k_is)
    (case k7 => k_is)
    (case a8 => k_is)
    (case l8 => k_is)
    (case c8 => k_is)
    (case k8 => k_is)
    (case a9 => k_is)
    (case l9 => k_is)
    (case c9 => k_is)
    (case k9 => k_is)
    (case a10 => k_is)
    (case l10 => k_is)
    (case c10 => k_is)
    (case k10 => k_is)
    (case a11 => k_is)
    (case l11 => k_is)
    (case c11 => k_is)
    (case k11 => k_is)
    (case a12 => k_is)
    (case l12 => k_is)
    (case c12 => k_is)
    (case k12 => k_is)
    (case a13 => k_is)
    (case l13 => k_is)
    (case c13 => k_is)
    (case k13 => k_is)
    (case a14 => k_is)
    (case l14 => k_is)
    (case c14 => k_is)
    (case k14 => k_is)
    (case a15 => k_is)
    (case l15 => k_is)
    (case c15 => k_is)
    (case k15 => k_is)
    (case a16 => k_is)
    (case l16 => k_is)
    (case c16 => k_is)
    (case k16 => k_is)
    (case a17 => k_is)
    (case l17 => k_is)
    (case c17 => k_is)
    (case k17 => k_is)
    (case a18 => k_is)
    (case l18 => k_is)
    (case c18 => k_is)
    (case k18 => k_is)
    (case a19 => k_is)
    (case l19 => k_is)
    (case c19 => k_is)
    (case k19 => k_is)
    (case a20 => k_is)
    (case l20 => k_is)
    (case n_int => k_is)
    (case n_len => k_is)
    (case n_abs => k_is)
    (case n_repr => k_is)
    (case n_range => k_is)
    (case n_isinstance => k_is)
    (case n_str => k_is)
    (case n_list => k_is)
    (case n_tuple => k_is)
    (case n_enumerate => k_is)
    (case n_bool => k_is)
    (case n_all => k_is)
    (case q_MAX_COUNTERS => k_is)
    (case q_MAX_TEST => k_is)
    (case q_MAX_LETTERS => k_is)
    (case q_LETTERS => k_is)
