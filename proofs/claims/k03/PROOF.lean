import PyProof.Rows.All
import Wide.All
import OpenK.AllK
import Wide.FinOn
import PyProof.EqAt
import PyProof.EqKinds
import PyProof.TupleCall
import HandS.ForMost
import HandS.ForExc
import HandS.Wide
import HandS.Gcd
import HandS.ExcIs
import HandS.ExcBuiltin
import HandS.RaiseMore
import HandS.Codes
import HandS.StrMore
import HandS.IsInst
import HandS.Rev
import HandS.WideBits
import HandS.FStr
import HandS.MapObj
import HandS.Flow
import HandS.Style
import HandS.Walk
import HandS.Zip
import HandS.Zip0
import KE.GoesEnum
import HandS.Text
import KE.KMathGC
import HandS.TupMul
import HandS.TupAny
import KE.KRevSl
import HandS.Conv
import PySem.Challenge.RW_everystart_k03_what_dice_are
set_option Elab.async false
set_option linter.all false
set_option maxRecDepth 100000
set_option pp.maxSteps 1500
set_option maxHeartbeats 1000000
set_option exponentiation.threshold 256
namespace Ev
open PySem PySem.Spec PyProof.Rows L2

/-! ### promises of defs that run where nothing is being shown (the list of guards is known to be empty) -/
structure FnG (P : Program) (w : World) (K : PySem.W.Frag) (mg : Str → Option Value) (base : Heap) (CX : CXT) (k : Nat)
    (f : Addr) (fd : FuncData) (ps : List Str) (sp : Sp) : Prop where
  len : ∀ vs H Q E, sp vs H Q E → vs.length = ps.length
  run : ∀ (A : Around), A.guards = some [] → ∀ (outer : List Env) (s : Shared) (H : Hp) (args : Args) (us : List Value) (vs : List V)
    (Q : VK) (E : XK), Room k A → Env0 P w K mg base A outer s H → BindsTo s fd args (ps.zip us) → Vals vs us → sp vs H Q E →
    codeAny (model P w) A (.call (.ref f) args) (CR CX outer P w H s Q E) s

theorem FnG.of {P : Program} {w : World} {K : PySem.W.Frag} {mg : Str → Option Value} {base : Heap} {CX : CXT} {k : Nat}
    {f : Addr} {fd : FuncData} {ps : List Str} {sp : Sp} (F : FnOk P w K mg base CX k f fd ps sp) : FnG P w K mg base CX k f fd ps sp :=
  ⟨F.len, fun A _ outer s H args us vs Q E hr he hb hv hs => F.run A outer s H args us vs Q E hr he hb hv hs⟩

section
variable {P : Program} {w : World} {K : PySem.W.Frag} {mg : Str → Option Value} {base : Heap}
theorem okG {x qual : Str} {st : Stmt} {f : Addr} {fd : FuncData} {N ps : List Str} {k : Nat} {sp : Sp}
    (F : Fun K x qual st f fd) (S : FnScope N ps (defScope st)) (len : ∀ vs H Q E, sp vs H Q E → vs.length = ps.length)
    (hbody : ∀ (cdv : Value) (A : Around) (outer : List Env) (s : Shared) (H : Hp) (vs : List V) (Q : VK) (E : XK), A.guards = some [] →
      Room k (A.deeper (envOfC qual (defScope st) s.heap.objs.size f cdv)) → sp vs H Q E →
      ∃ t, PSs (cxOf CX0 P w K mg base N qual (defScope st) f cdv A outer s H E).nox (defBody st) t ∧
        t { nx := fun _ H' => Q .non H', rt := Q } (start N vs) H) : FnG P w K mg base CX0 (k + 1) f fd ps sp := by
  obtain ⟨c1, c2, c3, c4, c5, c6, c7, c8, c9, rfl, lk, hcd⟩ := F.ex
  refine ⟨len, fun A hA outer s H args us vs Q E hr e0 hb r hsp => ?_⟩
  have long := len _ _ _ _ hsp
  have stays := e0.mod.kin.keeps (h' := s.heap) fun b o e => And.left (e0.bs b o e)
  have free := e0.mod.nolimit.keeps (h' := s.heap) fun b o e => And.left (e0.bs b o e)
  refine codeAny_call_function hr.depth (stays _ _ lk) rfl S.co S.gen rfl (PySem.W.codeRec_of stays hcd) (hb _ _ _ _ ?_)
  refine wpAny_newFunctionEnv_cells S.kind (fun y hy => ?_) fun env he s1 x => ?_
  · obtain ⟨n, v⟩ := y
    exact (S.par n (List.of_mem_zip hy).1).elim .inl fun q => .inr ⟨q, PySem.W.cellsFrom_some _ _ _ (.inl q)⟩
  cases he
  refine ⟨free.keeps x.toInCall.keep, codeAny_func ?_⟩
  obtain ⟨t, ht, hq⟩ := hbody c7 A outer s H vs Q E hA (hr.deeper _) hsp
  have J := inv_start (CX := CX0) (E := E) S hr.hd e0 long r x
  refine wpAny_mono (ht.nox.run [] s1 (start N vs) H _ J hq) (fun fl s' hs => ?_) (fun _ _ z => z)
  match fl, hs with
  | .ret u, ⟨v, σ', H', J', rv, q⟩ => exact ⟨v, H', J'.os, J'.bare, J'.base, J'.hok, rv, q⟩
  | .next, ⟨σ', H', J', q⟩ => exact ⟨V.non, H', J'.os, J'.bare, J'.base, J'.hok, rfl, q⟩
  | .brk, ⟨_, _, _, q⟩ => exact q.elim
  | .cont, ⟨_, _, _, q⟩ => exact q.elim
end

section
variable {X : Cx} {CX : CXT} {k : Nat} {f : Addr} {fd : FuncData} {ps : List Str} {ds : List Value} {dvs : List V} {sp : Sp} {E : XK}
  {x : Str} {p pos : Pos} {e : Expr} {es : List Expr} {t : TA}
theorem runG {pins : List (Addr × Obj)} {σ : L2.St} {H : Hp} {s : Shared} {Q : VK} {us : List Value} {vs : List V}
    (F : FnG X.prog X.w X.K X.mg X.base CX k f fd ps sp) (hG : X.A.guards = some []) (hr : Room k X.A) (hb : Binds X.K fd ps [])
    (hx : Passes CX X E) (I : Inv X pins σ H s) (r : Vals vs us) (h : sp vs H Q E) :
    wpAny (model X.prog X.w) X.A (call (.ref f) us) (EP X pins σ Q) X.xe s := by
  have hl : us.length = ps.length := r.length.symm.trans (F.len _ _ _ _ h)
  have b := hb s us I.kIn (by rw [List.append_nil]; exact hl)
  rw [List.append_nil] at b
  have z := F.run X.A hG X.stack s H ⟨us, []⟩ us vs Q E hr I.env0 b r h
  refine wpAny_call (codeAny_mono z fun o s' hq => ?_)
  match o, hq with
  | .error e, hq => exact hx pins σ H s e s' I hq
  | .ok (.ret u), hq => exact I.after hq
  | .ok .next, hq => exact hq.elim
  | .ok .brk, hq => exact hq.elim
  | .ok .cont, hq => exact hq.elim
theorem pe_callG (F : FnG X.prog X.w X.K X.mg X.base CX k f fd ps sp) (hG : X.A.guards = some []) (hr : Room k X.A) (hg : Gl X x)
    (hm : X.mg x = some (.ref f)) (hk : PySem.W.keepIn X.K (.ref f) = true) (hb : Binds X.K fd ps []) (hx : Passes CX X E)
    (ha : PA X (e :: es) t) (hdb : (x == ("__debug__" : Str)) = false := by decide)
    (he : starEach (e :: es) X.env = (false, eval e X.env) :: starEach es X.env := by rfl)
    (hpl : (backTo pos (starEach es X.env)).any (·.1) = false := by rfl) :
    PE X (.Call (.Name x p) (e :: es) [] pos) (fun σ H Q => t σ H fun vs H1 => sp vs H1 Q E) := by
  refine ⟨fun pins s σ H Q I h => wpAny_Call_Name_kw (ld_glob I hg hm ?_ hdb)⟩
  refine PySem.W.callWith_K (h₀ := X.base) I.ok.mod.kin hk (thn (ha.run pos pins s σ H _ I h) ?_) he hpl
  exact fun us s1 ⟨vs, H1, I1, r, q⟩ => ⟨I1.kIn, runG F hG hr hb hx I1 r q⟩
/-- how a call by keywords alone binds: the i-th parameter gets the keyword's value at place pm[i] -/
structure KB0 (K : PySem.W.Frag) (fd : FuncData) (ps ks : List Str) (pm : List Nat) : Prop where
  to : ∀ (s : Shared) (ws : List Value), K.In s.heap → ws.length = ks.length →
    BindsTo s fd ⟨[], ks.zip ws⟩ (ps.zip (pm.map fun i => ws.getD i Value.none))
def putV (pm : List Nat) (zs : List V) : List V := pm.map fun i => zs.getD i V.non
theorem relPut {zs : List V} {ws : List Value} (r : Vals zs ws) : ∀ pm : List Nat, Vals (putV pm zs) (pm.map fun i => ws.getD i Value.none)
  | [] => .nil
  | i :: pm => by
    refine .cons ?_ (relPut r pm)
    show L2.RelV (zs.getD i V.non) (ws.getD i Value.none)
    cases e : zs[i]? with
    | none =>
      have e2 := r.none_of e
      rw [List.getD_eq_getElem?_getD, List.getD_eq_getElem?_getD, e, e2]
      rfl
    | some z =>
      obtain ⟨u, e2, q⟩ := r.get e
      rw [List.getD_eq_getElem?_getD, List.getD_eq_getElem?_getD, e, e2]
      exact q
/-- f(k = v, ..), keywords alone; what is raised is wished for at the slots -/
theorem pe_callK0S {ks : List Str} {kws : List Keyword} {tk : TA} {pm : List Nat} {ES : L2.St → XK}
    (F : FnOk X.prog X.w X.K X.mg X.base CX k f fd ps sp) (hr : Room k X.A) (hg : Gl X x) (hm : X.mg x = some (.ref f))
    (hk : PySem.W.keepIn X.K (.ref f) = true) (hb : KB0 X.K fd ps ks pm) (hx : ∀ σ, PassesAt CX X σ (ES σ)) (hkw : PK X kws tk)
    (hall : (backToKw pos (keywordEach kws X.env)).all (·.1.isSome) = true := by rfl)
    (hks : (backToKw pos (keywordEach kws X.env)).filterMap (·.1) = ks := by rfl) (hdb : (x == ("__debug__" : Str)) = false := by decide)
    (hpl : ((backTo pos (starEach [] X.env)).any (·.1) || (backToKw pos (keywordEach kws X.env)).any (·.1.isNone)) = false := by rfl) :
    PE X (.Call (.Name x p) [] kws pos) (fun σ H Q => tk σ H fun zs H1 => zs.length = ks.length ∧ sp (putV pm zs) H1 Q (ES σ)) := by
  refine ⟨fun pins s σ H Q I h => wpAny_Call_Name_kw (ld_glob I hg hm ?_ hdb)⟩
  refine PySem.W.callWith_KW0 (h₀ := X.base) I.ok.mod.kin hk hall (thn (hkw.run pos pins s σ H _ I h) ?_) hpl
  intro ws s2 ⟨zs, H2, I2, rz, l2, q2⟩
  refine ⟨I2.kIn, ?_⟩
  rw [hks]
  have z := F.run X.A X.stack s2 H2 ⟨[], ks.zip ws⟩ _ (putV pm zs) Q (ES σ) hr I2.env0 (hb.to s2 ws I2.kIn (rz.length.symm.trans l2)) (relPut rz pm) q2
  refine wpAny_call (codeAny_mono z fun o s' hq => ?_)
  match o, hq with
  | .error e, hq => exact hx σ pins H2 s2 e s' I2 hq
  | .ok (.ret u), hq => exact I2.after hq
  | .ok .next, hq => exact hq.elim
  | .ok .brk, hq => exact hq.elim
  | .ok .cont, hq => exact hq.elim
theorem passC (hx : Passes CX X E) (σ : L2.St) : PassesAt CX X σ E := fun pins H s e s' I c => hx pins σ H s e s' I c
/-- f(k = v, ..), keywords alone -/
theorem pe_callK0 {ks : List Str} {kws : List Keyword} {tk : TA} {pm : List Nat}
    (F : FnOk X.prog X.w X.K X.mg X.base CX k f fd ps sp) (hr : Room k X.A) (hg : Gl X x) (hm : X.mg x = some (.ref f))
    (hk : PySem.W.keepIn X.K (.ref f) = true) (hb : KB0 X.K fd ps ks pm) (hx : Passes CX X E) (hkw : PK X kws tk)
    (hall : (backToKw pos (keywordEach kws X.env)).all (·.1.isSome) = true := by rfl)
    (hks : (backToKw pos (keywordEach kws X.env)).filterMap (·.1) = ks := by rfl) (hdb : (x == ("__debug__" : Str)) = false := by decide)
    (hpl : ((backTo pos (starEach [] X.env)).any (·.1) || (backToKw pos (keywordEach kws X.env)).any (·.1.isNone)) = false := by rfl) :
    PE X (.Call (.Name x p) [] kws pos) (fun σ H Q => tk σ H fun zs H1 => zs.length = ks.length ∧ sp (putV pm zs) H1 Q E) :=
  pe_callK0S (ES := fun _ => E) F hr hg hm hk hb (passC hx) hkw hall hks hdb hpl
/-- X(), an own class of exceptions without __init__ -/
theorem pmk_own0 {C : Addr} {bmB : List Value} {B newId initId : String} (F : ExcBaseFacts B newId initId bmB)
    (q : PySem.W.excIn X.K C bmB newId = true) (gC : X.mg x = some (.ref C)) (kC : PySem.W.keepIn X.K (.ref C) = true)
    (r : Raises X (.ref C)) (hg : Gl X x) (hdb : (x == ("__debug__" : Str)) = false := by decide) :
    PMk X (.Call (.Name x p) [] [] pos) (fun _ H Q => Q (.ref C) none H) := by
  intro pins s σ H Q I h
  refine wpAny_Call_Name_kw (ld_glob I hg gC ?_ hdb)
  refine PySem.W.callWith_K0 I.kIn kC ?_
  show wpAny _ _ (call (.ref C) []) _ _ _
  obtain ⟨bm, N, nm, qn, bs, hdct, sn, sub, ab, col, dd, k0, k1, k2, k3, k5, mN, hC, hN, hni, T⟩ := exc_obj I.kIn q
  exact wpAny_call_exc_subT F T hC hN hni (fun h' e hm => mk_of I hm r h (I.hok.gone hm.new)) (Nat.zero_le _)
end

/-- // by a divisor of either sign, below 2 ^ 9000 in size -/
def CDivZ (_ j : Int) : Prop := j ≠ 0 ∧ j.natAbs.log2 < 9000
theorem op_fdivZ {X : Cx} : OpR X (binaryOp .FloorDiv) (rI CDivZ fun i j => .int (i.fdiv j)) :=
  opI fun _ _ _ _ _ _ _ hc q => floordiv_int hc.1 q (.inl (PyProof.noPylong_of_log2 hc.2))
/-- isinstance(e, c) where the class of what the suite holds is told by the reading -/
theorem call_isE2 {X : Cx} {a D : Addr} {oe : Obj} {pn : List (Addr × Obj)} {cls : Value} {d : Option Addr} (C : ExcC X.K D) (hz : Zc cls d oe)
    (hf : ∃ vs, oe.data = .fields vs) : CallR (X.suite a ((a, oe) :: pn)) (.builtin "isinstance")
      (fun xs H Q => cls = .ref D ∧ d = none ∧ rIsE X.K D a xs H Q) := by
  intro pins s σ H xs us Q I r h
  obtain ⟨h1, h2, q⟩ := h
  subst h1; subst h2
  exact call_isE C hz hf pins s σ H xs us Q I r q

/-! ### the end of a law, by such a promise -/
theorem law_callG {P : Program} {w : World} {K : PySem.W.Frag} {mg mb : Str → Option Value} {k : Nat} {fa a : Addr} {fd : FuncData}
    {x : Str} {sp : Sp} {s₁ : Shared} {vs : List Value} {ns : List Int} (KX : K.In s₁.heap) (hns : s₁.heap.Ns mainGlobals mg)
    (hb : s₁.heap.Ns builtinsNs mb) (hbb : ∀ x : Str, x ≠ "__name__" → mb x = bootBuiltins x) (hlim : s₁.heap.NoLimit) (hg : s₁.gens = #[])
    (ha : s₁.heap.get? a = some { cls := .type "list", data := .seq vs.toArray }) (hi : IntsAre vs ns) (hl : ns.length ≤ sizeLine)
    (hr : Room k callerA) (F : ∀ base : Heap, K.In base → base.Ns mainGlobals mg → FnG P w K mg base CX0 k fa fd [x] sp)
    (hbind : ∀ (s : Shared) (u : Value), BindsTo s fd ⟨[u], []⟩ [(x, u)])
    (hsp : ∀ H : Hp, Only H → SqL K H a (ns.map V.int) → sp [.ref a] H (fun v _ => v = .bl true) fun _ _ _ => False) :
    codeAny (model P w) callerA (.call (.ref fa) ⟨[.ref a], []⟩)
      (fun r s' => r = .ok (.ret (.bool true)) ∧ OldK s₁.heap s'.heap ∧ s'.os = s₁.os ∧ AllBare s'.gens) s₁ := by
  have rv := vals_ints hi
  have lenV := hi.length
  have core : ∀ H : Hp, Only H → SqL K H a (ns.map V.int) → HOk P w H s₁.heap → (∀ b, H b ≠ none → b = a) →
      (H a ≠ none → K.lookup a = none) → codeAny (model P w) callerA (.call (.ref fa) ⟨[.ref a], []⟩)
      (fun r s' => r = .ok (.ret (.bool true)) ∧ OldK s₁.heap s'.heap ∧ s'.os = s₁.os ∧ AllBare s'.gens) s₁ := by
    intro H hO hS hok hA hK
    have away : ∀ {b : Addr} {o : Obj} {es : Array DictEntry} {ep : Nat}, s₁.heap.get? b = some o → o.data = .dict es ep → H b = none := by
      intro b o es ep e d
      cases q : H b with
      | none => rfl
      | some u =>
        have e' : b = a := hA b (fun z => by rw [q] at z; cases z)
        rw [e', ha] at e
        cases e
        exact nomatch (show Data.seq vs.toArray _ = Data.dict es ep from d)
    have nsK : ∀ {b : Addr} {m : Str → Option Value}, s₁.heap.Ns b m → (hidT s₁.heap H).Ns b m := by
      intro b m z
      obtain ⟨o, es, ep, e, d, r⟩ := z
      exact ⟨o, es, ep, hidT_get e (away e d), d, r⟩
    have hKb : K.In (hidT s₁.heap H) := by
      intro b o e
      refine hidT_get (KX b o e) ?_
      cases q : H b with
      | none => rfl
      | some u =>
        have e' : b = a := hA b (fun z => by rw [q] at z; cases z)
        subst e'
        rw [hK (fun z => by rw [q] at z; cases z)] at e
        cases e
    obtain ⟨mc, l1, l2⟩ := hlim
    have hM : Mod K mg (hidT s₁.heap H) := ⟨hKb, nsK hns, ⟨mb, nsK hb, hbb⟩, mc, nsK l1, l2⟩
    have e0 : Env0 P w K mg (hidT s₁.heap H) callerA [] s₁ H :=
      ⟨rfl, hM, fun b o e => of_hidT e, Nat.le_of_eq (hidT_size _ _), trivial, fun b hb => (nomatch hb), hok, .of_eq hg⟩
    have main := (F _ hKb (nsK hns)).run callerA rfl [] s₁ H ⟨[.ref a], []⟩ [.ref a] [.ref a] _ _ hr e0 (hbind s₁ (.ref a)) (.cons rfl .nil) (hsp H hO hS)
    refine codeAny_mono main fun r s' h => ?_
    match r, h with
    | .error e, h => exact h.elim
    | .ok .next, h => exact h.elim
    | .ok .brk, h => exact h.elim
    | .ok .cont, h => exact h.elim
    | .ok (.ret u), ⟨v, H', os, bare, un, hok', r', q⟩ =>
      have q' : v = .bl true := q
      subst q'
      have eu : u = Value.bool true := r'
      subst eu
      refine ⟨rfl, OldK.of_keep fun b o e => ?_, os, bare⟩
      cases q : H b with
      | none => exact un.keep b o e q (fun z => nomatch z) (fun z => nomatch z)
      | some u =>
        rcases hO b with z | ⟨ob, xs, z⟩
        · rw [q] at z; cases z
        · have e1 := (hok b _ z).1
          have e2 := (hok' b _ (un.frzs b ob _ z)).1
          rw [e] at e1; cases e1
          exact e2
  cases hk : K.lookup a with
  | some o =>
    have e := KX a o hk
    rw [ha] at e
    cases e
    refine core (fun _ => none) (fun _ => .inl rfl) ?_ (fun b u z => nomatch z) (fun b z => absurd rfl z) fun z => absurd rfl z
    exact .inr ⟨_, vs.toArray, _, hk, rfl, rfl, rfl, by rw [List.size_toArray, lenV]; exact hl, by simpa using rv⟩
  | none =>
    have yes : (if a = a then some (HO.frz { cls := .type "list", data := .seq vs.toArray } (.lst (ns.map V.int))) else none) =
        some (HO.frz { cls := .type "list", data := .seq vs.toArray } (.lst (ns.map V.int))) := if_pos rfl
    refine core (fun b => if b = a then some (.frz { cls := .type "list", data := .seq vs.toArray } (.lst (ns.map V.int))) else none)
      (fun b => ?_) (.inl (.inr ⟨_, yes⟩)) (fun b u z => ?_) (fun b z => ?_) fun _ => hk
    · by_cases hb : b = a
      · exact .inr ⟨_, _, if_pos hb⟩
      · exact .inl (if_neg hb)
    · by_cases hb : b = a
      · cases (if_pos hb).symm.trans z
        subst hb
        exact ⟨ha, by rw [List.length_map]; exact hl, vs, _, rv, ha⟩
      · cases (if_neg hb).symm.trans z
    · by_cases hb : b = a
      · exact hb
      · exact absurd (if_neg hb) z

theorem walk_ofG {l : PySem.W.OpenLaw} {n k : Nat} {q : Program} {loose : List Str} {XP : (Str → Option Value) → Heap → Prop}
    {YP : World → Heap → Prop} {d : DefRec} {K : Params → PySem.W.Frag} {sp : World → Sp} {x : Str}
    (hn : l.most = some n) (hn2 : n ≤ sizeLine) (hdf : d.params.defaults = []) (hr : Room k callerA)
    (hY : ∀ (w : World) (h : Heap), YP w h → (K w.params).In h)
    (F : ∀ (w : World) (mg : Str → Option Value) (fa : Addr) (h : Heap), (K w.params).In h → h.Ns mainGlobals mg → mg d.name = some (.ref fa) →
      ∃ fd : FuncData, (∀ (s : Shared) (u : Value), BindsTo s fd ⟨[u], []⟩ [(x, u)]) ∧
        ∀ base : Heap, (K w.params).In base → base.Ns mainGlobals mg → FnG l.prog w (K w.params) mg base CX0 k fa fd [x] (sp w))
    (hsp : ∀ (w : World) (H : Hp) (a : Addr) (ns : List Int), ns.length ≤ n → Only H → SqL (K w.params) H a (ns.map V.int) →
      sp w [.ref a] H (fun v _ => v = .bl true) fun _ _ _ => False) :
    PySem.W.WalkO q loose XP YP l.row.toRowW d [] (fun f vs => PySem.call f vs) := by
  refine Att.attach_call hn hdf fun w s₀ s₁ mg mb fa o pm cd doc a vs ns G Y ho hd hcd hmg hobj hints hlen hg => ?_
  obtain ⟨fd, hb, hF⟩ := F w mg fa _ (hY w _ Y) G.T.g hmg
  exact law_callG (hY w _ Y) G.T.g G.T.b G.T.builtins G.T.nolimit hg hobj hints (Nat.le_trans hlen hn2) hr hF hb fun H hO hS => hsp w H a ns hlen hO hS

/-! ### repr of what is nested -/
mutual
/-- shown by repr within the line, no dicts -/
def fits : PyData → Bool
  | .none => true
  | .bool _ => true
  | .int i => decide (i.natAbs.log2 < 1920)
  | .str x => x.cps.toList.all fun c => decide (c < 16 ^ 8)
  | .list xs => fitsAll xs
  | .tuple xs => fitsAll xs
  | .dict _ => false
def fitsAll : List PyData → Bool
  | [] => true
  | x :: xs => fits x && fitsAll xs
end
mutual
theorem fits_to : ∀ d : PyData, fits d = true → d.showable = true ∧ d.hasDict = false ∧ d.leavesShort 1921 = true
  | .none, _ => ⟨rfl, rfl, rfl⟩
  | .bool _, _ => ⟨rfl, rfl, rfl⟩
  | .int i, h => by
    have h' : i.natAbs.log2 < 1920 := by simpa only [fits, decide_eq_true_eq] using h
    refine ⟨by simpa only [PyData.showable, decide_eq_true_eq] using h', rfl, ?_⟩
    have e := int_text_length_le (k := 1920) (by decide) h'
    simp only [PyData.leavesShort, decide_eq_true_eq]
    show (Str.ofString (toString i)).length ≤ 1921
    rw [PySem.ofString_length]
    exact e
  | .str x, h => ⟨rfl, rfl, by simpa only [fits, PyData.leavesShort] using h⟩
  | .list xs, h => by
    have z := fitsAll_to xs (by simpa only [fits] using h)
    exact ⟨by simpa only [PyData.showable] using z.1, by simpa only [PyData.hasDict] using z.2.1, by simpa only [PyData.leavesShort] using z.2.2⟩
  | .tuple xs, h => by
    have z := fitsAll_to xs (by simpa only [fits] using h)
    exact ⟨by simpa only [PyData.showable] using z.1, by simpa only [PyData.hasDict] using z.2.1, by simpa only [PyData.leavesShort] using z.2.2⟩
  | .dict _, h => by simp [fits] at h
theorem fitsAll_to : ∀ xs : List PyData, fitsAll xs = true → PyData.showableAll xs = true ∧ PyData.hasDictAll xs = false ∧ PyData.leavesShortAll 1921 xs = true
  | [], _ => ⟨rfl, rfl, rfl⟩
  | x :: xs, h => by
    have h' : fits x = true ∧ fitsAll xs = true := by simpa only [fitsAll, Bool.and_eq_true] using h
    have a := fits_to x h'.1
    have b := fitsAll_to xs h'.2
    refine ⟨?_, ?_, ?_⟩
    · simp only [PyData.showableAll, a.1, b.1, Bool.and_self]
    · simp only [PyData.hasDictAll, a.2.1, b.2.1, Bool.or_self]
    · simp only [PyData.leavesShortAll, a.2.2, b.2.2, Bool.and_self]
end
mutual
/-- how many leaves and displays (a text: one more than its signs) -/
def sz : PyData → Nat
  | .none => 1
  | .bool _ => 1
  | .int _ => 1
  | .str x => x.length + 1
  | .list xs => szAll xs + 1
  | .tuple xs => szAll xs + 1
  | .dict _ => 1
def szAll : List PyData → Nat
  | [] => 0
  | x :: xs => sz x + szAll xs
end
mutual
theorem shown_sz : ∀ d : PyData, fits d = true → d.shown.length + 2 ≤ 1930 * sz d
  | .none, _ => by
    have e : (PyData.shown .none).length = 4 := rfl
    simp only [sz]
    omega
  | .bool b, _ => by
    have e : (PyData.shown (.bool b)).length ≤ 5 := by cases b <;> decide
    simp only [sz]
    omega
  | .int i, h => by
    have h' : i.natAbs.log2 < 1920 := by simpa only [fits, decide_eq_true_eq] using h
    have e := int_text_length_le (k := 1920) (by decide) h'
    have e2 : (PyData.shown (.int i)).length ≤ 1921 := by
      show (Str.ofString (toString i)).length ≤ 1921
      rw [PySem.ofString_length]
      exact e
    simp only [sz]
    omega
  | .str x, h => by
    have hx : ∀ c ∈ x.cps.toList, c < 16 ^ 8 := by simpa only [fits, List.all_eq_true, decide_eq_true_eq] using h
    have e := StrLaws.reprText_len x hx
    have e2 : (PyData.shown (.str x)).length = (reprText x).length := rfl
    simp only [sz]
    omega
  | .list xs, h => by
    have h1 := shownAll_sz xs (by simpa only [fits] using h)
    have h2 := listText_len_le (PyData.shownAll xs)
    have h3 := PyData.shownAll_length xs
    simp only [PyData.shown, sz]
    omega
  | .tuple xs, h => by
    have h1 := shownAll_sz xs (by simpa only [fits] using h)
    have h2 := tupleText_len_le (PyData.shownAll xs)
    have h3 := PyData.shownAll_length xs
    simp only [PyData.shown, sz]
    omega
  | .dict _, h => by simp [fits] at h
theorem shownAll_sz : ∀ xs : List PyData, fitsAll xs = true → ((PyData.shownAll xs).map (·.length)).sum + 2 * xs.length ≤ 1930 * szAll xs
  | [], _ => by simp [PyData.shownAll, szAll]
  | x :: xs, h => by
    have h' : fits x = true ∧ fitsAll xs = true := by simpa only [fitsAll, Bool.and_eq_true] using h
    have h1 := shown_sz x h'.1
    have h2 := shownAll_sz xs h'.2
    simp only [PyData.shownAll, szAll, List.map_cons, List.sum_cons, List.length_cons]
    omega
end
theorem fits_len {d : PyData} (h : fits d = true) (hw : sz d ≤ 8000) : d.shown.length ≤ sizeLine := by
  have e := shown_sz d h
  rw [sizeLine_eq]
  omega
section
variable {X : Cx}
/-- repr(x), x a list or a tuple of plain data -/
def rRepr (K : PySem.W.Frag) : List V → Hp → VK → Prop := fun vs H Q =>
  ∃ (a : Addr) (d : PyData), vs = [.ref a] ∧ Dp K H (.ref a) d ∧ fits d = true ∧ sz d ≤ 8000 ∧ d.depth ≤ 60 ∧ Q (.str d.shown) H
theorem call_repr (hG : X.A.guards = some []) (hu : X.A.units + 64 < cLine) : CallR X (.builtin "repr") (rRepr X.K) := by
  intro pins s σ H vs us Q I r h
  obtain ⟨a, d, rfl, hd, hf, hw, hdep, q⟩ := h
  obtain ⟨u, rfl, ru⟩ := vals1 r
  cases ru
  obtain ⟨as, rd⟩ := Dp.reads I d _ _ hd rfl
  have f := fits_to d hf
  refine repr_of_reads' rd f.1 (PyData.noDict_hsm f.2.1) hG (by omega) (fun _ _ e => e) (fun h' u tk hk => ?_) (fits_len hf hw)
  exact ⟨.str d.shown, H, I.kept hk, ⟨_, rfl⟩, q⟩
end
section
variable {X : Cx}
/-- repr(x), x plain data of any kind without dicts -/
def rReprV (K : PySem.W.Frag) : List V → Hp → VK → Prop := fun vs H Q =>
  ∃ (v : V) (d : PyData), vs = [v] ∧ Dp K H v d ∧ fits d = true ∧ sz d ≤ 8000 ∧ d.depth ≤ 60 ∧ Q (.str d.shown) H
theorem call_reprV (hG : X.A.guards = some []) (hu : X.A.units + 64 < cLine) : CallR X (.builtin "repr") (rReprV X.K) := by
  intro pins s σ H vs us Q I r h
  obtain ⟨v, d, rfl, hd, hf, hw, hdep, q⟩ := h
  have hl := fits_len hf hw
  cases hd with
  | non =>
    obtain ⟨u, rfl, ru⟩ := vals1 r
    cases ru
    exact PySem.P.repr_of_none ⟨.str _, H, I.tok _, ⟨_, rfl⟩, q⟩
  | bl b =>
    obtain ⟨u, rfl, ru⟩ := vals1 r
    cases ru
    refine PySem.P.repr_of_bool ⟨.str (PyData.shown (.bool b)), H, I.tok _, ⟨_, rfl⟩, q⟩
  | int i =>
    obtain ⟨u, rfl, t, rfl⟩ := vals1 r
    exact PySem.P.repr_of_int (of_decide_eq_true hf) ⟨.str _, H, I.tok _, ⟨_, rfl⟩, q⟩
  | str x =>
    obtain ⟨u, rfl, t, rfl⟩ := vals1 r
    exact PySem.P.repr_of_str ⟨.str _, H, I.tok _, ⟨_, rfl⟩, q⟩ hl
  | lst a b => exact call_repr hG hu pins s σ H _ us Q I r ⟨_, _, rfl, .lst a b, hf, hw, hdep, q⟩
  | tup a b => exact call_repr hG hu pins s σ H _ us Q I r ⟨_, _, rfl, .tup a b, hf, hw, hdep, q⟩
end
/-! ### data of ints -/
theorem dpAll_ints {K : PySem.W.Frag} {H : Hp} : ∀ fs : List Int, DpAll K H (fs.map V.int) (fs.map PyData.int)
  | [] => .nil
  | f :: fs => .cons (.int f) (dpAll_ints fs)
theorem canLay_ints : ∀ fs : List Int, PyData.canLayAll0 (fs.map PyData.int) = true
  | [] => rfl
  | f :: fs => by
    simp only [List.map_cons, PyData.canLayAll0, PyData.canLay0, canLay_ints fs, Bool.and_self]
theorem depth_ints : ∀ fs : List Int, PyData.depthAll (fs.map PyData.int) = 0
  | [] => rfl
  | f :: fs => by
    simp only [List.map_cons, PyData.depthAll, PyData.depth, depth_ints fs, Nat.max_self]
theorem shaped_ints (fs : List Int) : SeqAt.shaped (.list (fs.map PyData.int)) = true := by
  simp only [SeqAt.shaped, PyData.canLay0, canLay_ints, PyData.depth, depth_ints]
  decide
theorem shaped_intsT (fs : List Int) : SeqAt.shaped (.tuple (fs.map PyData.int)) = true := by
  simp only [SeqAt.shaped, PyData.canLay0, canLay_ints, PyData.depth, depth_ints]
  decide
theorem eqv_ints_nil : ∀ fs : List Int, PyData.eqv (.list (fs.map PyData.int)) (.list []) = fs.isEmpty
  | [] => rfl
  | f :: fs => by
    simp [PyData.eqv, PyData.eqvAll]
theorem snoc_cases {α : Type} (l : List α) : l = [] ∨ ∃ r a, l = r ++ [a] := by
  rcases List.eq_nil_or_concat l with h | ⟨r, a, h⟩
  · exact .inl h
  · exact .inr ⟨r, a, by rw [h, List.concat_eq_append]⟩
theorem vne {a b : V} (e : (!decide (a = b)) = true) : a ≠ b := fun z => by
  rw [decide_eq_true z] at e
  exact absurd e (by decide)
theorem veq {a b : V} (e : ¬ (!decide (a = b)) = true) : a = b := by
  by_cases h : a = b
  · exact h
  · rw [decide_eq_false h] at e
    exact absurd rfl e
theorem vneF {a b : V} (e : ¬ decide (a = b) = true) : a ≠ b := fun z => e (decide_eq_true z)
/-! ### data stay under what is new -/
theorem Same.seqT {K : PySem.W.Frag} {H H' : Hp} {a : Addr} {xs : List V} (e : Same H H') (h : SqT K H a xs) : SqT K H' a xs := by
  rcases h with (h | ⟨o, h⟩) | h
  · exact .inl (.inl (e _ _ h))
  · exact .inl (.inr ⟨o, e _ _ h⟩)
  · exact .inr h
mutual
theorem dp_same {K : PySem.W.Frag} {H H' : Hp} (s : Same H H') : ∀ (d : PyData) (v : V), Dp K H v d → Dp K H' v d
  | .none, _, h => by cases h; exact .non
  | .bool _, _, h => by cases h; exact .bl _
  | .int _, _, h => by cases h; exact .int _
  | .str _, _, h => by cases h; exact .str _
  | .list ds, _, h => by
    cases h with
    | lst a b => exact .lst (s.seq a) (dpAll_same s ds _ b)
  | .tuple ds, _, h => by
    cases h with
    | tup a b => exact .tup (Ev.Same.seqT s a) (dpAll_same s ds _ b)
  | .dict _, _, h => by cases h
theorem dpAll_same {K : PySem.W.Frag} {H H' : Hp} (s : Same H H') : ∀ (ds : List PyData) (vs : List V), DpAll K H vs ds → DpAll K H' vs ds
  | [], _, h => by cases h; exact .nil
  | d :: ds, _, h => by
    cases h with
    | cons a b => exact .cons (dp_same s d _ a) (dpAll_same s ds _ b)
end
theorem nn {c : Prop} [Decidable c] {M N : Prop} (hc : c) (h : N) : if (!decide c) = true then M else N := by
  rw [decide_eq_true hc]
  exact iteF h
/-! ### what the loom is: a dict of a list of ints and two ints -/
def ld (F : Addr) (s t : Int) : List (Key × V) := [(Sum.inr "far", .ref F), (Sum.inr "stirred", .int s), (Sum.inr "times", .int t)]
def Lm (H : Hp) (L F : Addr) : Prop := ∃ (fs : List Int) (s t : Int), H L = some (.dK (ld F s t)) ∧ H F = some (.lst (fs.map V.int)) ∧ fs.length ≤ 63
theorem ld_far {F : Addr} {s t : Int} : valV (ld F s t) (Sum.inr "far") = some (.ref F) := rfl
theorem ld_stirred {F : Addr} {s t : Int} : valV (ld F s t) (Sum.inr "stirred") = some (.int s) := rfl
theorem ld_times {F : Addr} {s t : Int} : valV (ld F s t) (Sum.inr "times") = some (.int t) := rfl
theorem ld_len {F : Addr} {s t : Int} : (ld F s t).length < sizeLine := by
  show 3 < sizeLine
  decide
theorem ld_put {F : Addr} {s t u : Int} : putK (ld F s t) (Sum.inr "times") (.int u) = ld F s u := rfl
/-- all but the loom's two objects is as it was -/
def Kp (L F : Addr) (H H' : Hp) : Prop := ∀ b o, b ≠ L → b ≠ F → H b = some o → H' b = some o
theorem Kp.refl {L F : Addr} (H : Hp) : Kp L F H H := fun _ _ _ _ h => h
theorem Kp.trans {L F : Addr} {H H1 H2 : Hp} (a : Kp L F H H1) (b : Kp L F H1 H2) : Kp L F H H2 := fun c o h1 h2 h => b c o h1 h2 (a c o h1 h2 h)
theorem Kp.new {L F p : Addr} {H : Hp} {o : HO} (h : H p = none) : Kp L F H (upd H p o) := fun b u _ _ e => by
  rw [upd_ne (ne_of_none e h)]
  exact e
theorem Kp.updL {L F : Addr} {H : Hp} {o : HO} : Kp L F H (upd H L o) := fun b u h1 _ e => by
  rw [upd_ne h1]
  exact e
theorem Kp.updF {L F : Addr} {H : Hp} {o : HO} : Kp L F H (upd H F o) := fun b u _ h2 e => by
  rw [upd_ne h2]
  exact e
theorem Lm.new {H : Hp} {L F p : Addr} {o : HO} (h : Lm H L F) (hp : H p = none) : Lm (upd H p o) L F := by
  obtain ⟨fs, s, t, h1, h2, h3⟩ := h
  exact ⟨fs, s, t, by rw [upd_ne (ne_of_none h1 hp)]; exact h1, by rw [upd_ne (ne_of_none h2 hp)]; exact h2, h3⟩
theorem Lm.ne {H : Hp} {L F p : Addr} (h : Lm H L F) (hp : H p = none) : p ≠ L ∧ p ≠ F := by
  obtain ⟨fs, s, t, h1, h2, h3⟩ := h
  refine ⟨fun e => ?_, fun e => ?_⟩
  · rw [e, h1] at hp
    cases hp
  · rw [e, h2] at hp
    cases hp
theorem kp_same {L F : Addr} {H H' : Hp} (s : Same H H') : Kp L F H H' := fun b o _ _ e => s b o e
theorem Lm.same {H H' : Hp} {L F : Addr} (h : Lm H L F) (s : Same H H') : Lm H' L F := by
  obtain ⟨fs, a, b, h1, h2, h3⟩ := h
  exact ⟨fs, a, b, s _ _ h1, s _ _ h2, h3⟩
theorem Lm.tup {H : Hp} {L F t : Addr} {xs : List V} (h : Lm H L F) (ht : H t = some (.tup xs)) : t ≠ L ∧ t ≠ F := by
  obtain ⟨fs, a, b, h1, h2, h3⟩ := h
  exact ⟨ne_of ht h1 (by intro z; cases z), ne_of ht h2 (by intro z; cases z)⟩
theorem Kp.tup {L F t : Addr} {H H' : Hp} {xs : List V} (k : Kp L F H H') (h : Lm H L F) (ht : H t = some (.tup xs)) : H' t = some (.tup xs) := k _ _ (h.tup ht).1 (h.tup ht).2 ht
theorem Kp.seq {K : PySem.W.Frag} {L F a : Addr} {H H' : Hp} {xs : List V} (k : Kp L F H H') (h1 : a ≠ L) (h2 : a ≠ F) (h : SqL K H a xs) : SqL K H' a xs := by
  rcases h with (h | ⟨o, h⟩) | h
  · exact .inl (.inl (k _ _ h1 h2 h))
  · exact .inl (.inr ⟨o, k _ _ h1 h2 h⟩)
  · exact .inr h
theorem cut_ints (ns : List Int) (lo hi : Option Int) : ∃ ms : List Int, cutV (ns.map V.int) lo hi = ms.map V.int ∧ ms.length ≤ ns.length := by
  refine ⟨(ns.drop (HT.sIx ns.length 0 lo)).take (HT.sIx ns.length ns.length hi - HT.sIx ns.length 0 lo), ?_, ?_⟩
  · unfold cutV
    rw [List.length_map, List.map_take, List.map_drop]
  · rw [List.length_take, List.length_drop]
    omega
theorem int_at {ms : List Int} {i : Nat} {x : V} (h : (ms.map V.int)[i]? = some x) : ∃ m, ms[i]? = some m ∧ x = .int m := by
  rw [List.getElem?_map] at h
  cases e : ms[i]? with
  | none => rw [e] at h; cases h
  | some m => rw [e] at h; exact ⟨m, rfl, (Option.some.inj h).symm⟩
theorem same_new {H : Hp} {p : Addr} {o : HO} (h : H p = none) : Same H (upd H p o) := fun b x e => by
  rw [upd_ne (ne_of_none e h)]
  exact e
/-- a new object's own later states leave the rest -/
theorem same_put {H H1 : Hp} {p : Addr} {o : HO} (s : Same H H1) (h : H p = none) : Same H (upd H1 p o) := fun b x e => by
  rw [upd_ne (ne_of_none e h)]
  exact s _ _ e
theorem yes_of {σ : L2.St} {H : Hp} {M N : Hp → Prop} (h : M H) : tYes σ H (fun b H3 => if b = true then M H3 else N H3) := by
  unfold tYes
  show if true = true then M H else N H
  rw [if_pos rfl]
  exact h
theorem absI (a : Int) : (if a < 0 then -a else a) = (a.natAbs : Int) := by
  split <;> omega
end Ev

set_option exponentiation.threshold 256
/-! fractions -/
namespace Ev
def gc (a b : Int) : Nat := Nat.gcd a.natAbs b.natAbs
def dv (a b : Int) : Int := if 0 < b then (gc a b : Int) else -(gc a b : Int)
def fA (a b : Int) : Int := a.fdiv (dv a b)
def fB (a b : Int) : Int := b.fdiv (dv a b)
def Low (x y : Int) : Prop := 0 < y ∧ Nat.gcd x.natAbs y.natAbs = 1
theorem gc_pos {a b : Int} (h : b ≠ 0) : 0 < gc a b := Nat.gcd_pos_of_pos_right _ (by omega)
theorem dv_abs (a b : Int) : (dv a b).natAbs = gc a b := by
  unfold dv
  split <;> omega
theorem dv_ne {a b : Int} (h : b ≠ 0) : dv a b ≠ 0 := by
  have := gc_pos (a := a) h
  have e := dv_abs a b
  omega
theorem dv_dvd_a (a b : Int) : dv a b ∣ a := by
  rw [← Int.natAbs_dvd_natAbs, dv_abs]
  exact Nat.gcd_dvd_left _ _
theorem dv_dvd_b (a b : Int) : dv a b ∣ b := by
  rw [← Int.natAbs_dvd_natAbs, dv_abs]
  exact Nat.gcd_dvd_right _ _
theorem fA_mul {a b : Int} (h : b ≠ 0) : a = dv a b * fA a b := by
  obtain ⟨c, hc⟩ := dv_dvd_a a b
  have e : fA a b = c := by
    have : fA a b = (dv a b * c).fdiv (dv a b) := by rw [← hc]; rfl
    rw [this, Int.mul_fdiv_cancel_left _ (dv_ne h)]
  rw [e]
  exact hc
theorem fB_mul {a b : Int} (h : b ≠ 0) : b = dv a b * fB a b := by
  obtain ⟨c, hc⟩ := dv_dvd_b a b
  have e : fB a b = c := by
    have : fB a b = (dv a b * c).fdiv (dv a b) := by rw [← hc]; rfl
    rw [this, Int.mul_fdiv_cancel_left _ (dv_ne h)]
  rw [e]
  exact hc
theorem fA_le {a b : Int} (h : b ≠ 0) : (fA a b).natAbs ≤ a.natAbs := by
  have e := congrArg Int.natAbs (fA_mul (a := a) h)
  rw [Int.natAbs_mul, dv_abs] at e
  rw [e]
  exact Nat.le_mul_of_pos_left _ (gc_pos h)
theorem fB_le {a b : Int} (h : b ≠ 0) : (fB a b).natAbs ≤ b.natAbs := by
  have e := congrArg Int.natAbs (fB_mul (a := a) h)
  rw [Int.natAbs_mul, dv_abs] at e
  rw [e]
  exact Nat.le_mul_of_pos_left _ (gc_pos h)
theorem low_f {a b : Int} (h : b ≠ 0) : Low (fA a b) (fB a b) := by
  have hp := gc_pos (a := a) h
  refine ⟨?_, ?_⟩
  · have e := fB_mul (a := a) h
    rcases Int.lt_trichotomy 0 b with hb | hb | hb
    · have d : dv a b = (gc a b : Int) := if_pos hb
      rw [d] at e
      rcases Int.lt_trichotomy 0 (fB a b) with z | z | z
      · exact z
      · rw [← z, Int.mul_zero] at e
        exact absurd e h
      · have : (gc a b : Int) * fB a b < 0 := Int.mul_neg_of_pos_of_neg (by omega) z
        omega
    · exact absurd hb.symm h
    · have d : dv a b = -(gc a b : Int) := if_neg (by omega)
      rw [d] at e
      rcases Int.lt_trichotomy 0 (fB a b) with z | z | z
      · exact z
      · rw [← z, Int.mul_zero] at e
        exact absurd e h
      · have : 0 < -(gc a b : Int) * fB a b := Int.mul_pos_of_neg_of_neg (by omega) z
        omega
  · have ea := congrArg Int.natAbs (fA_mul (a := a) h)
    have eb := congrArg Int.natAbs (fB_mul (a := a) h)
    rw [Int.natAbs_mul, dv_abs] at ea eb
    have g : gc a b = Nat.gcd (gc a b * (fA a b).natAbs) (gc a b * (fB a b).natAbs) := by
      conv => lhs; unfold gc; rw [ea, eb]
    rw [Nat.gcd_mul_left] at g
    have : gc a b * 1 = gc a b * Nat.gcd (fA a b).natAbs (fB a b).natAbs := by rw [Nat.mul_one]; exact g
    exact (Nat.eq_of_mul_eq_mul_left hp this).symm
theorem low_inj {x y z u : Int} (h1 : Low x y) (h2 : Low z u) (e : x * u = z * y) : x = z ∧ y = u := by
  obtain ⟨p1, c1⟩ := h1
  obtain ⟨p2, c2⟩ := h2
  have en := congrArg Int.natAbs e
  rw [Int.natAbs_mul, Int.natAbs_mul] at en
  have d1 : y.natAbs ∣ u.natAbs := by
    have : y.natAbs ∣ x.natAbs * u.natAbs := ⟨z.natAbs, by rw [en, Nat.mul_comm]⟩
    exact Nat.Coprime.dvd_of_dvd_mul_left (show Nat.Coprime y.natAbs x.natAbs by rw [Nat.coprime_comm]; exact c1) this
  have d2 : u.natAbs ∣ y.natAbs := by
    have : u.natAbs ∣ z.natAbs * y.natAbs := ⟨x.natAbs, by rw [← en, Nat.mul_comm]⟩
    exact Nat.Coprime.dvd_of_dvd_mul_left (show Nat.Coprime u.natAbs z.natAbs by rw [Nat.coprime_comm]; exact c2) this
  have ey : y = u := by
    have := Nat.dvd_antisymm d1 d2
    omega
  subst ey
  exact ⟨Int.eq_of_mul_eq_mul_right (by omega) e, rfl⟩
end Ev

set_option exponentiation.threshold 256
namespace Ev
open PySem PySem.Spec PyProof.Rows L2 SX
/-! ### decimal writing -/
open TL (numL numL_lt numL_step numL_digits numL_ne numL_free numL_val numL_inj numL_len)
def intL (i : Int) : List Nat := if i < 0 then 45 :: numL i.natAbs else numL i.natAbs
theorem int_text (i : Int) : Str.ofString (toString i) = S (intL i) := by
  cases i with
  | ofNat m =>
    have e : intL (Int.ofNat m) = numL m := if_neg (by show ¬ ((m : Int) < 0); omega)
    rw [e]
    exact num_S m
  | negSucc m =>
    have e : intL (Int.negSucc m) = 45 :: numL (m + 1) := if_pos (Int.negSucc_lt_zero m)
    rw [e]
    refine TL.ext_tl ?_
    have t : toString (Int.negSucc m) = "-" ++ Nat.repr (m + 1) := rfl
    rw [t, TL.tl_ofString, String.toList_append, List.map_append]
    have h := TL.tl_num (m + 1)
    rw [TL.tl_ofString] at h
    have z : (toString (((m + 1 : Nat)) : Int)) = Nat.repr (m + 1) := rfl
    rw [z] at h
    rw [h]
    rfl
/-- k figures of r, noughts ahead -/
def padL : Nat → Nat → List Nat
  | 0, _ => []
  | k + 1, r => padL k (r / 10) ++ [48 + r % 10]
theorem padL_len : ∀ k r, (padL k r).length = k
  | 0, _ => rfl
  | k + 1, r => by
    show (padL k (r / 10) ++ [48 + r % 10]).length = k + 1
    rw [List.length_append, padL_len k, List.length_singleton]
theorem padL_zero : ∀ k, padL k 0 = List.replicate k 48
  | 0 => rfl
  | k + 1 => by
    show padL k (0 / 10) ++ [48 + 0 % 10] = _
    rw [show 0 / 10 = 0 from rfl, padL_zero k, List.replicate_succ']
theorem pow_mul10 (q k r : Nat) : (q * 10 ^ (k + 1) + r) / 10 = q * 10 ^ k + r / 10 ∧ (q * 10 ^ (k + 1) + r) % 10 = r % 10 := by
  have e : q * 10 ^ (k + 1) = 10 * (q * 10 ^ k) := by rw [Nat.pow_succ, ← Nat.mul_assoc, Nat.mul_comm]
  rw [e]
  constructor <;> omega
theorem numL_cat {q : Nat} (hq : 1 ≤ q) : ∀ k r, r < 10 ^ k → numL (q * 10 ^ k + r) = numL q ++ padL k r
  | 0, r, h => by
    have e : r = 0 := by simpa using h
    subst e
    show numL (q * 10 ^ 0 + 0) = numL q ++ []
    rw [Nat.pow_zero, Nat.mul_one, Nat.add_zero, List.append_nil]
  | k + 1, r, h => by
    obtain ⟨e1, e2⟩ := pow_mul10 q k r
    have big : 10 ≤ q * 10 ^ (k + 1) + r := by
      have : 1 * 10 ^ (k + 1) ≤ q * 10 ^ (k + 1) := Nat.mul_le_mul_right _ hq
      have : 10 ^ (k + 1) = 10 ^ k * 10 := Nat.pow_succ 10 k
      have : 0 < 10 ^ k := Nat.pow_pos (by decide)
      omega
    rw [numL_step big, e1, e2, numL_cat hq k (r / 10) (by rw [Nat.pow_succ] at h; omega), List.append_assoc]
    rfl
theorem padL_eq : ∀ k r, r < 10 ^ (k + 1) → padL (k + 1) r = List.replicate (k + 1 - (numL r).length) 48 ++ numL r
  | 0, r, h => by
    have h' : r < 10 := by simpa using h
    rw [numL_lt h']
    show padL 0 (r / 10) ++ [48 + r % 10] = _
    rw [Nat.mod_eq_of_lt h']
    rfl
  | k + 1, r, h => by
    show padL (k + 1) (r / 10) ++ [48 + r % 10] = _
    by_cases hr : r < 10
    · rw [numL_lt hr, Nat.div_eq_of_lt hr, padL_zero, Nat.mod_eq_of_lt hr]
      rfl
    · have ih := padL_eq k (r / 10) (by rw [Nat.pow_succ] at h; omega)
      rw [ih, numL_step (by omega : 10 ≤ r), List.append_assoc, List.length_append, List.length_singleton]
      congr 2
      omega
theorem zfill_num {k r : Nat} (h : r < 10 ^ (k + 1)) : Txt.zfill (S (numL r)) (((k + 1 : Nat)) : Int) = S (padL (k + 1) r) := by
  have hl := numL_len (by omega) h
  have hz : (S (numL r)).length = (numL r).length := S_len _
  unfold Txt.zfill
  split
  · rename_i z
    rw [hz] at z
    have e : (numL r).length = k + 1 := by omega
    rw [padL_eq k r h, e, Nat.sub_self]
    rfl
  · rw [hz]
    have e1 : (((k + 1 : Nat) : Int)).toNat - (numL r).length = k + 1 - (numL r).length := by omega
    rw [e1, padL_eq k r h]
    unfold zfilled
    have hd : ∀ c, (S (numL r)).cps[0]? = some c → 48 ≤ c ∧ c ≤ 57 := fun c hc => by
      refine numL_digits r c ?_
      have : (numL r)[0]? = some c := by
        have z : (S (numL r)).cps[0]? = (numL r)[0]? := by simp [S]
        rw [← z]; exact hc
      exact List.mem_of_getElem? this
    have body : Builtin.Str.padded (S (numL r)) (k + 1 - (numL r).length) 0 48 = S (List.replicate (k + 1 - (numL r).length) 48 ++ numL r) := by
      refine TL.ext_tl ?_
      show (Array.replicate (k + 1 - (numL r).length) 48 ++ (numL r).toArray ++ Array.replicate 0 48).toList = _
      simp [S]
    split
    · rename_i e
      have := hd _ e
      omega
    · rename_i e
      have := hd _ e
      omega
    · exact body
/-! ### the text of a fraction -/
def fracL (a b : Int) : List Nat := if b = 1 then intL a else intL a ++ 47 :: intL b
/-! ### reading -/
def isDig (c : Nat) : Bool := decide (48 ≤ c) && decide (c ≤ 57)
def unsign (t : List Nat) : List Nat := if t.head? = some 45 then t.drop 1 else t
def rdI (t : List Nat) : Option Int :=
  if 1 ≤ (unsign t).length ∧ (unsign t).length ≤ 400 ∧ (unsign t).all isDig = true ∧ ((unsign t).head? = some 48 → t = [48]) then
    some (if t.head? = some 45 then -(NumText.digitsVal (unsign t) : Int) else (NumText.digitsVal (unsign t) : Int))
  else none
theorem removeprefix_minus (t : List Nat) : Txt.removeprefix (S t) (S [45]) = S (unsign t) := by
  rw [StrLaws.removeprefix_eq]
  have e : Builtin.Str.subAt (S t) (S [45]) 0 = decide (t.head? = some 45) := by
    rw [StrLaws.subAt_eq]
    show ((t.drop 0).take 1 == [45]) = _
    cases t with
    | nil => rfl
    | cons c r =>
      show ([c] == [45]) = decide (some c = some 45)
      by_cases h : c = 45
      · subst h; rfl
      · rw [decide_eq_false (fun z => h (Option.some.inj z))]
        simp [h]
  rw [e, S_len, S_len]
  unfold unsign
  by_cases h : t.head? = some 45
  · have hl : 1 ≤ t.length := by
      cases t with
      | nil => cases h
      | cons c r => simp
    have hl' : 0 + [45].length ≤ t.length := by simpa using hl
    rw [decide_eq_true h, decide_eq_true hl', Bool.and_self, if_pos rfl, if_pos h]
    show S ((t.drop 1).take (t.length - 1)) = S (t.drop 1)
    rw [List.take_of_length_le (by rw [List.length_drop]; omega)]
  · rw [decide_eq_false h, Bool.and_false, if_neg Bool.false_ne_true, if_neg h]
/-! ### sep.join(reversed(a list of texts)) -/
section
variable {prog : Program} {w : World} {A : Around} {E : Value → Shared → Prop} {s : Shared}
theorem join_rev {x : Str} {t : Tok} {it l : Addr} {items : Array Value} {ys : List Str} {Q : Value → Shared → Prop} (hh : A.handled = none)
    (hit : s.heap.IsRevIter it l ((items.size : Int) - 1)) (hl : s.heap.IsList l items) (hne : l ≠ it) (hn : items.size ≤ sizeLine)
    (hP : ∀ acc : Array Value, ItemsOf (fun i v => items[items.size - 1 - i]? = some v) acc items.size → StrsAre acc.toList ys)
    (hok : (ys.map (·.length)).sum + ys.length * x.length ≤ 16777216)
    (hq : ∀ (h' : Heap) (t' : Tok) (k : Nat), (∀ b o, b ≠ it → s.heap.get? b = some o → h'.get? b = some o) → Q (.str (Txt.join x ys) t') { s with heap := h', toks := k }) :
    wpAny (model prog w) A (call (.builtin "str.join") [.str x t, .ref it]) Q E s := by
  refine wpAny_call (codeAny_call_builtin F.slot_str_join.plain F.entry_str_join (F.slot_str_join.check _ _ _ _ _ _ _ _ (typeIs_str _ _ _) (F.args_str_join_2 _ _) ?_))
  rw [join_tree_other]
  have hT : s.TypeIs (.ref it) "list_reverseiterator" := hit.typeIs
  refine wpAny_bind (wpAny_typeOf hT ?_)
  show wpAny _ A.in1 ((pyIter (.ref it)).tryCatch _ >>= fun it => collect it >>= fun items => joinTail x items) _ _ s
  refine wpAny_bind (wpAny_tryCatch (wpAny_pyIter_revIter hit ?_))
  refine wpAny_bind (RT.collect_rev (A := A.in1) hh hit hl hne hn fun h' tk acc hk hacc => ?_)
  obtain ⟨ls, el, ht⟩ := strsAre_values (hP acc hacc)
  subst ht
  rw [el]
  have hok' := joinOk_of hok
  unfold JoinOk at hok'
  rw [Bool.not_eq_true'] at hok'
  have g : Gives (joinTail x (strValues ls)) (joinMade x ls) := by
    have g0 := gives_joinTail x ls hok'
    rcases ls with _ | ⟨p, _ | ⟨q, r⟩⟩ <;> exact g0
  exact g prog w A (wants Q E) _ (post_join ls ⟨joinFit_length hok', fun t' k => hq h' t' k hk⟩)
end
theorem strs_rev {ys : List Str} {its : List Value} (r : Vals (ys.map V.str) its) {acc : Array Value}
    (h : ItemsOf (fun i v => its.toArray[its.toArray.size - 1 - i]? = some v) acc its.toArray.size) : StrsAre acc.toList ys.reverse := by
  have z := RT.vals_rev r h
  rw [← List.map_reverse] at z
  exact strs_of_vals z
section
variable {X : Cx}
theorem pe_joinRev {o e : Expr} {to te : TE} {apos pos p pos2 : Pos} (hc : X.calm = true) (ho : PE X o to) (hg : Gl X "reversed") (hm : X.mg "reversed" = none) (he : PE X e te)
    (hs1 : starEach [.Call (.Name "reversed" p) [e] [] pos2] X.env = [(false, eval (.Call (.Name "reversed" p) [e] [] pos2) X.env)] := by rfl)
    (hs : starEach [e] X.env = (false, eval e X.env) :: starEach [] X.env := by rfl)
    (hbase : attributeBase o "join" X.env (eval o X.env) = eval o X.env := by rfl) (hline : (apos.endLine == pos.line) = true := by rfl) :
    PE X (.Call (.Attribute o "join" apos) [.Call (.Name "reversed" p) [e] [] pos2] [] pos)
      (fun σ H Q => to σ H fun x H1 => (∃ a, x = .str a) ∧ te σ H1 fun v H2 => ∃ (a : Str) (q : Addr) (ys : List Str), x = .str a ∧ v = .ref q ∧ SqL X.K H2 q (ys.map V.str) ∧
        (ys.map (·.length)).sum + ys.length * a.length ≤ 16777216 ∧ Q (.str (Txt.join a ys.reverse)) H2) := by
  refine ⟨fun pins s σ H Q I h => ?_⟩
  refine PySem.Call_method1 hbase hs1 hline (thn (ho.run pins s σ H _ I h) fun v s1 ⟨x, H1, I1, r1, q1⟩ => ?_)
  obtain ⟨⟨a, rfl⟩, q1⟩ := q1
  obtain ⟨t, rfl⟩ := _root_.id r1
  refine ⟨"str", _, F.plainAttrs_str, F.slot_str_join, F.type_str_join, typeIs_str _ _ _, (fun _ e => nomatch e), Calls.callWith_builtin rfl (Calls.evalArgs_plain (Calls.spliced_cons ?_))⟩
  refine Call_ (ld_blt I1 hg hm PyProof.Rows.boot_reversed (PyProof.Rows.callWith_type1 (args_cons (thn (he.run pins s1 σ H1 _ I1 q1) fun u s2 ⟨v, H2, I2, r2, q2⟩ => args_nil ?_) hs) hs rfl))
  obtain ⟨a', q, ys, ea, ev, hq, hz, q2⟩ := q2
  cases ea
  subst ev
  cases r2
  obtain ⟨its, rv, p', hsz⟩ := I2.list hq
  refine call_reversed_list p'.isList (Calls.spliced_nil ?_)
  have k0 : ∀ b o, s2.heap.get? b = some o → (s2.heap.push (revObj q ((its.toArray.size : Int) - 1))).get? b = some o := fun b o e => Heap.get?_push_of_some _ e
  have I3 : Inv X pins σ H2 { s2 with heap := s2.heap.push (revObj q ((its.toArray.size : Int) - 1)) } := I2.kept (t' := s2.toks) k0
  obtain ⟨f0, f1, f2, f3, f4, f5⟩ := I2.fpOk (H' := H2) (b := s2.heap.objs.size) (Nat.le_refl _) (I2.hok.fresh (Nat.le_refl _))
  have hl := p'.isList
  obtain ⟨ol, hol, _⟩ := _root_.id hl
  have hne : q ≠ s2.heap.objs.size := Nat.ne_of_lt (Heap.lt_size hol)
  have hn : its.toArray.size ≤ sizeLine := by rw [List.size_toArray, ← rv.length]; exact hsz
  have hz' : ((ys.reverse).map (·.length)).sum + ys.reverse.length * a.length ≤ 16777216 := by
    rw [List.map_reverse, List.sum_reverse, List.length_reverse]
    exact hz
  refine join_rev (s := { s2 with heap := s2.heap.push (revObj q ((its.toArray.size : Int) - 1)) }) (I2.ok.hd hc) ⟨_, Heap.get?_push_size _ rfl, rfl, rfl⟩ (hl.push _) hne hn (fun acc hacc => strs_rev rv hacc) hz' fun h' t' k hk => ?_
  exact ⟨.str _, H2, I3.turned (t' := k) (fun b o hb e => hk b o hb e) f0 f1 f3 f4 f5, ⟨t', rfl⟩, q2⟩
end
theorem joinL_nil : ∀ l : List (List Nat), TL.joinL [] l = l.flatten
  | [] => rfl
  | [p] => by
    show p = p ++ []
    rw [List.append_nil]
  | p :: q :: r => by
    show p ++ ([] ++ TL.joinL [] (q :: r)) = p ++ (q :: r).flatten
    rw [List.nil_append, joinL_nil (q :: r)]
theorem join_empty (ys : List (List Nat)) : Txt.join "" (ys.map S) = S ys.flatten := by
  have e : ("" : Str) = S [] := rfl
  rw [e, join_S, joinL_nil]
theorem lens_sum : ∀ ys : List (List Nat), ((ys.map S).map (·.length)).sum = ys.flatten.length
  | [] => rfl
  | y :: ys => by
    rw [List.map_cons, List.map_cons, List.sum_cons, lens_sum ys, S_len, List.flatten_cons, List.length_append]
theorem flat_rev_len : ∀ ys : List (List Nat), ys.reverse.flatten.length = ys.flatten.length
  | [] => rfl
  | y :: ys => by
    rw [List.reverse_cons, List.flatten_append, List.length_append, flat_rev_len ys, List.flatten_cons, List.length_append, List.flatten_cons, List.flatten_nil]
    simp only [List.length_append, List.length_nil]
    omega
theorem intL_len {n : Int} {k : Nat} (hk : 0 < k) (h : n.natAbs < 10 ^ k) : (intL n).length ≤ k + 1 := by
  have := numL_len hk h
  unfold intL
  split
  · rw [List.length_cons]; omega
  · omega
theorem figures_in (c : Nat) : decide (c ∈ ("0123456789" : Str).cps.toList) = isDig c := by
  have e : ("0123456789" : Str).cps.toList = [48, 49, 50, 51, 52, 53, 54, 55, 56, 57] := by decide +kernel
  rw [e]
  unfold isDig
  by_cases h : 48 ≤ c ∧ c ≤ 57
  · rw [decide_eq_true h.1, decide_eq_true h.2]
    refine decide_eq_true ?_
    have : c = 48 ∨ c = 49 ∨ c = 50 ∨ c = 51 ∨ c = 52 ∨ c = 53 ∨ c = 54 ∨ c = 55 ∨ c = 56 ∨ c = 57 := by omega
    simpa using this
  · have z : (decide (48 ≤ c) && decide (c ≤ 57)) = false := by
      rw [Bool.and_eq_false_iff, decide_eq_false_iff_not, decide_eq_false_iff_not]
      omega
    rw [z]
    refine decide_eq_false fun hm => h ?_
    simp only [List.mem_cons, List.not_mem_nil, or_false] at hm
    omega
theorem S_at (u : List Nat) (i : Nat) : (S u).cps[i]? = u[i]? := by simp [S]
theorem S_size (u : List Nat) : (S u).cps.size = u.length := by simp [S]
theorem dig_all {u : List Nat} (h : u.all isDig = true) : NumText.AllDigits u := fun c hc => by
  have z := List.all_eq_true.mp h c hc
  unfold isDig at z
  rw [Bool.and_eq_true, decide_eq_true_eq, decide_eq_true_eq] at z
  exact z
/-- int(text) of what rdI takes -/
theorem intText_rd {t : List Nat} {n : Int} (h : rdI t = some n) : intText? (S t) = some n ∧ (S t).length ≤ 640 := by
  unfold rdI at h
  split at h
  · rename_i c
    obtain ⟨c1, c2, c3, c4⟩ := c
    cases h
    have hd := dig_all c3
    unfold unsign at c1 c2 c3 hd ⊢
    by_cases hm : t.head? = some 45
    · rw [if_pos hm] at c1 c2 c3 hd
      rw [if_pos hm, if_pos hm]
      cases t with
      | nil => cases hm
      | cons x r =>
        have ex : x = 45 := Option.some.inj hm
        subst ex
        have e : (45 :: r).drop 1 = r := rfl
        rw [e] at c1 c2 hd ⊢
        refine ⟨intText_neg (x := S (45 :: r)) (cs := r) rfl hd (fun z => by rw [z] at c1; exact absurd c1 (by decide)) ?_, ?_⟩
        · rw [S_len, List.length_cons]; omega
        · rw [S_len, List.length_cons]; omega
    · rw [if_neg hm] at c1 c2 c3 hd
      rw [if_neg hm, if_neg hm]
      refine ⟨intText_digits (x := S t) hd (fun z => ?_) (by rw [S_len]; omega), by rw [S_len]; omega⟩
      have z' : t = [] := z
      rw [z'] at c1
      exact absurd c1 (by decide)
  · cases h
/-! ### reading a fraction -/
def rdF (t : List Nat) : Option (Int × Int) := match TL.par [47] [] t with
  | none => match rdI t with
    | some a => some (a, 1)
    | none => none
  | some (p, q) => match rdI p with
    | none => none
    | some a => match rdI q with
      | none => none
      | some b => if b < 2 ∨ 1 < Nat.gcd a.natAbs b.natAbs then none else some (a, b)
theorem par_len {c : List Nat} : ∀ {l acc p q : List Nat}, TL.par c acc l = some (p, q) → p.length + q.length ≤ acc.length + l.length
  | [], acc, p, q, h => by cases h
  | x :: r, acc, p, q, h => by
    by_cases hp : TL.pre c (x :: r) = true
    · rw [TL.par_hit hp] at h
      cases h
      rw [List.length_drop]
      omega
    · rw [TL.par_miss (by cases z : TL.pre c (x :: r) with | true => exact absurd z hp | false => rfl)] at h
      have := par_len h
      rw [List.length_append, List.length_singleton] at this
      rw [List.length_cons]
      omega
/-! ### more of texts -/
section
variable {X : Cx}
/-- a text so many times -/
theorem op_mulS : OpR X (binaryOp .Mult) (fun x y H Q => ∃ a n, x = .str a ∧ y = .int n ∧ MulOk a n ∧ Q (.str (Txt.mul a n)) H) := by
  intro pins s σ H x y v u Q I rx ry h
  obtain ⟨a, n, rfl, rfl, hz, q⟩ := h
  obtain ⟨t, rfl⟩ := rx
  obtain ⟨t', rfl⟩ := ry
  exact SB.mul hz fun t' tk => ⟨.str (Txt.mul a n), H, I.tok _, ⟨_, rfl⟩, q⟩
end
/-- each text is one of its signs -/
theorem S_of (x : Str) : x = S x.cps.toList := TL.ext_tl (by simp [S])
theorem len_S (x : Str) : x.cps.toList.length = x.length := by
  rw [Array.length_toList]
  rfl
end Ev

set_option exponentiation.threshold 256
/-! data of any kind, dicts too, as the heap holds them -/
namespace Ev
open PySem PySem.Spec PyProof.Rows L2
def kD : Key → PyData
  | .inl i => .int i
  | .inr x => .str x
mutual
/-- v is d; lists and dicts stand at places of which Z tells something -/
inductive Dx (K : PySem.W.Frag) (Z : Addr → Prop) (H : Hp) : V → PyData → Prop
  | non : Dx K Z H .non .none
  | bl (b : Bool) : Dx K Z H (.bl b) (.bool b)
  | int (i : Int) : Dx K Z H (.int i) (.int i)
  | str (x : Str) : Dx K Z H (.str x) (.str x)
  | lst {a : Addr} {xs : List V} {ds : List PyData} (e : H a = some (.lst xs)) (z : Z a) (h : DxAll K Z H xs ds) : Dx K Z H (.ref a) (.list ds)
  | tup {a : Addr} {xs : List V} {ds : List PyData} (e : SqT K H a xs) (h : DxAll K Z H xs ds) : Dx K Z H (.ref a) (.tuple ds)
  | dct {a : Addr} {kvs : List (Key × V)} {ds : List (PyData × PyData)} (e : H a = some (.dK kvs)) (z : Z a) (h : DxKv K Z H kvs ds) : Dx K Z H (.ref a) (.dict ds)
inductive DxAll (K : PySem.W.Frag) (Z : Addr → Prop) (H : Hp) : List V → List PyData → Prop
  | nil : DxAll K Z H [] []
  | cons {v : V} {vs : List V} {d : PyData} {ds : List PyData} (h : Dx K Z H v d) (r : DxAll K Z H vs ds) : DxAll K Z H (v :: vs) (d :: ds)
inductive DxKv (K : PySem.W.Frag) (Z : Addr → Prop) (H : Hp) : List (Key × V) → List (PyData × PyData) → Prop
  | nil : DxKv K Z H [] []
  | cons {k : Key} {v : V} {vs : List (Key × V)} {d : PyData} {ds : List (PyData × PyData)} (h : Dx K Z H v d) (r : DxKv K Z H vs ds) : DxKv K Z H ((k, v) :: vs) ((kD k, d) :: ds)
end
/-! ### they stay where nothing of theirs is changed -/
mutual
theorem dx_keep {K : PySem.W.Frag} {Z : Addr → Prop} {H H' : Hp} (hT : ∀ a xs, SqT K H a xs → SqT K H' a xs) (hZ : ∀ a o, Z a → H a = some o → H' a = some o) : ∀ {v : V} {d : PyData}, Dx K Z H v d → Dx K Z H' v d
  | _, _, .non => .non
  | _, _, .bl b => .bl b
  | _, _, .int i => .int i
  | _, _, .str x => .str x
  | _, _, .lst e z h => .lst (hZ _ _ z e) z (dxAll_keep hT hZ h)
  | _, _, .tup e h => .tup (hT _ _ e) (dxAll_keep hT hZ h)
  | _, _, .dct e z h => .dct (hZ _ _ z e) z (dxKv_keep hT hZ h)
theorem dxAll_keep {K : PySem.W.Frag} {Z : Addr → Prop} {H H' : Hp} (hT : ∀ a xs, SqT K H a xs → SqT K H' a xs) (hZ : ∀ a o, Z a → H a = some o → H' a = some o) : ∀ {vs : List V} {ds : List PyData}, DxAll K Z H vs ds → DxAll K Z H' vs ds
  | _, _, .nil => .nil
  | _, _, .cons h r => .cons (dx_keep hT hZ h) (dxAll_keep hT hZ r)
theorem dxKv_keep {K : PySem.W.Frag} {Z : Addr → Prop} {H H' : Hp} (hT : ∀ a xs, SqT K H a xs → SqT K H' a xs) (hZ : ∀ a o, Z a → H a = some o → H' a = some o) : ∀ {vs : List (Key × V)} {ds : List (PyData × PyData)}, DxKv K Z H vs ds → DxKv K Z H' vs ds
  | _, _, .nil => .nil
  | _, _, .cons h r => .cons (dx_keep hT hZ h) (dxKv_keep hT hZ r)
end
theorem dx_same {K : PySem.W.Frag} {Z : Addr → Prop} {H H' : Hp} (s : Same H H') {v : V} {d : PyData} (h : Dx K Z H v d) : Dx K Z H' v d := dx_keep (fun _ _ e => Ev.Same.seqT s e) (fun _ _ _ e => s _ _ e) h
theorem dxAll_same {K : PySem.W.Frag} {Z : Addr → Prop} {H H' : Hp} (s : Same H H') {v : List V} {d : List PyData} (h : DxAll K Z H v d) : DxAll K Z H' v d := dxAll_keep (fun _ _ e => Ev.Same.seqT s e) (fun _ _ _ e => s _ _ e) h
/-- beside the loom's two -/
def ZL (L F : Addr) : Addr → Prop := fun a => a ≠ L ∧ a ≠ F
theorem Kp.sqT {K : PySem.W.Frag} {L F a : Addr} {H H' : Hp} {xs : List V} (k : Kp L F H H') (hM : Lm H L F) (h : SqT K H a xs) : SqT K H' a xs := by
  obtain ⟨fs, s, t, h1, h2, h3⟩ := hM
  rcases h with (h | ⟨o, h⟩) | h
  · exact .inl (.inl (k _ _ (ne_of h h1 (by intro z; cases z)) (ne_of h h2 (by intro z; cases z)) h))
  · exact .inl (.inr ⟨o, k _ _ (ne_of h h1 (by intro z; cases z)) (ne_of h h2 (by intro z; cases z)) h⟩)
  · exact .inr h
theorem dx_kp {K : PySem.W.Frag} {L F : Addr} {H H' : Hp} (k : Kp L F H H') (hM : Lm H L F) {v : V} {d : PyData} (h : Dx K (ZL L F) H v d) : Dx K (ZL L F) H' v d := dx_keep (fun _ _ e => k.sqT hM e) (fun _ _ z e => k _ _ z.1 z.2 e) h
theorem dxAll_kp {K : PySem.W.Frag} {L F : Addr} {H H' : Hp} (k : Kp L F H H') (hM : Lm H L F) {v : List V} {d : List PyData} (h : DxAll K (ZL L F) H v d) : DxAll K (ZL L F) H' v d := dxAll_keep (fun _ _ e => k.sqT hM e) (fun _ _ z e => k _ _ z.1 z.2 e) h
/-! ### plain data -/
mutual
theorem dp_of_dx {K : PySem.W.Frag} {Z : Addr → Prop} {H : Hp} : ∀ {v : V} {d : PyData}, Dx K Z H v d → d.hasDict = false → Dp K H v d
  | _, _, .non, _ => .non
  | _, _, .bl b, _ => .bl b
  | _, _, .int i, _ => .int i
  | _, _, .str x, _ => .str x
  | _, _, .lst e z h, n => .lst (SqL.of e) (dpAll_of_dx h (by simpa only [PyData.hasDict] using n))
  | _, _, .tup e h, n => .tup e (dpAll_of_dx h (by simpa only [PyData.hasDict] using n))
  | _, _, .dct e z h, n => by simp only [PyData.hasDict] at n; cases n
theorem dpAll_of_dx {K : PySem.W.Frag} {Z : Addr → Prop} {H : Hp} : ∀ {vs : List V} {ds : List PyData}, DxAll K Z H vs ds → PyData.hasDictAll ds = false → DpAll K H vs ds
  | _, _, .nil, _ => .nil
  | _, _, .cons h r, n => by
    simp only [PyData.hasDictAll, Bool.or_eq_false_iff] at n
    exact .cons (dp_of_dx h n.1) (dpAll_of_dx r n.2)
end
/-! ### as the library reads them -/
section
variable {X : Cx} {pins : List (Addr × Obj)} {σ : L2.St} {H : Hp} {s : Shared} {Z : Addr → Prop}
theorem kv_vals : ∀ {kvs : List (Key × V)} {ws : List (Key × Value)}, KV kvs ws → Vals (kvs.map (·.2)) (ws.map (·.2))
  | _, _, .nil => .nil
  | _, _, .cons h r => .cons h.2 (kv_vals r)
theorem key_reads {h : Heap} {k : Key} {u : Value} (e : keyIs k u = true) : Reads h u (kD k) [] := by
  rcases keyIs_shape e with ⟨i, t, rfl, rfl⟩ | ⟨x, t, rfl, rfl⟩
  · exact .int i t
  · exact .str x t
theorem keys_reads {h : Heap} {P : Program} {w : World} : ∀ {kvs : List (Key × V)} {ws : List (Key × Value)} {es : List DictEntry} {ds : List (PyData × PyData)}, KV kvs ws → Pairs (mixKind P w) es ws → DxKv X.K Z H kvs ds →
    ReadsAll h (es.map (·.key)) (ds.map (·.1)) []
  | _, _, _, _, .nil, .nil, .nil => .nil
  | _, _, _, _, .cons hk r, .cons he hv q, .cons hd t => by
    refine .cons (as := []) (bs := []) (key_reads ?_) (keys_reads r q t)
    rw [mixKind_is] at he
    have e1 := hk.1
    show keyIs _ _ = true
    dsimp only at e1 ⊢
    rw [e1]
    exact he
mutual
theorem dx_reads (I : Inv X pins σ H s) : ∀ {v : V} {d : PyData} {u : Value}, Dx X.K Z H v d → RelV v u → ∃ as, Reads s.heap u d as
  | _, _, _, .non, r => by cases r; exact ⟨_, .none⟩
  | _, _, _, .bl b, r => by cases r; exact ⟨_, .bool b⟩
  | _, _, _, .int i, r => by obtain ⟨t, rfl⟩ := r; exact ⟨_, .int i t⟩
  | _, _, _, .str x, r => by obtain ⟨t, rfl⟩ := r; exact ⟨_, .str x t⟩
  | _, _, _, .lst e z h, r => by
    cases r
    obtain ⟨its, rv, ⟨o, n, ho, hc, _, hd⟩, _⟩ := I.list (SqL.of e)
    obtain ⟨as, hr⟩ := dxAll_reads I h rv
    exact ⟨_, .list ho hc hd hr⟩
  | _, _, _, .tup e h, r => by
    cases r
    obtain ⟨its, rv, ⟨o, ho, hc, n, hd⟩, _⟩ := I.tuple e
    obtain ⟨as, hr⟩ := dxAll_reads I h rv
    exact ⟨_, .tuple ho hc hd hr⟩
  | _, _, _, .dct e z h, r => by
    cases r
    obtain ⟨_, _, ws, rk, o, es, ep, ho, hx, hd, _, hp, _⟩ := dk_of I.hok e
    obtain ⟨as, hr⟩ := dxKv_reads I h rk hp
    exact ⟨_, .dict ho hx.1 hd (keys_reads rk hp h) hr⟩
theorem dxAll_reads (I : Inv X pins σ H s) : ∀ {vs : List V} {ds : List PyData} {us : List Value}, DxAll X.K Z H vs ds → Vals vs us → ∃ as, ReadsAll s.heap us ds as
  | _, _, _, .nil, r => by cases r; exact ⟨_, .nil⟩
  | _, _, _, .cons h t, .cons r1 r2 => by
    obtain ⟨as, q1⟩ := dx_reads I h r1
    obtain ⟨bs, q2⟩ := dxAll_reads I t r2
    exact ⟨_, .cons q1 q2⟩
theorem dxKv_reads (I : Inv X pins σ H s) {P : Program} {w : World} : ∀ {kvs : List (Key × V)} {ds : List (PyData × PyData)} {ws : List (Key × Value)} {es : List DictEntry}, DxKv X.K Z H kvs ds → KV kvs ws → Pairs (mixKind P w) es ws →
    ∃ as, ReadsAll s.heap (es.map (·.val)) (ds.map (·.2)) as
  | _, _, _, _, .nil, .nil, .nil => ⟨_, .nil⟩
  | _, _, _, _, .cons h t, .cons hk r, .cons he hv q => by
    obtain ⟨as, q1⟩ := dx_reads I h hk.2
    obtain ⟨bs, q2⟩ := dxKv_reads I t r q
    refine ⟨_, .cons (as := as) (bs := bs) ?_ q2⟩
    dsimp only
    rw [hv]
    exact q1
end
/-! ### as repr shows them -/
/-- what a shown part leaves behind: deeper places than it are not among its own -/
def RK (X : Cx) (s : Shared) (n : Nat) (u : Value) (t : Str) : Prop := ∃ bs, ReadAtMost s.heap n bs ∧ ReprK X.prog X.w bs s.heap n u t
def RKs (X : Cx) (s : Shared) (n : Nat) (us : List Value) (ts : List Str) : Prop := ∃ bs, ReadAtMost s.heap n bs ∧ ReprAllK X.prog X.w bs s.heap n us ts
theorem RKs.cons {n m : Nat} {u : Value} {us : List Value} {t : Str} {ts : List Str} (a : RK X s n u t) (b : RKs X s m us ts) : RKs X s (max n m) (u :: us) (t :: ts) := by
  obtain ⟨p, hp, kp⟩ := a
  obtain ⟨q, hq, kq⟩ := b
  have l1 : n ≤ max n m := Nat.le_max_left n m
  have l2 : m ≤ max n m := Nat.le_max_right n m
  refine ⟨p ++ q, (hp.mono l1).append (hq.mono l2), .cons ((kp.more fun b hb => List.mem_append_left q hb).level_le l1) (kq.more_le (fun b hb => List.mem_append_right p hb) l2)⟩
theorem RKs.nil : RKs X s 0 [] [] := ⟨[], fun _ h => (nomatch h), .nil⟩
theorem key_repr {k : Key} {u : Value} (e : keyIs k u = true) (hs : (kD k).showable = true) (hz : (kD k).shown.length ≤ sizeLine) : RK X s (kD k).depth u (kD k).shown := by
  rcases keyIs_shape e with ⟨i, t, rfl, rfl⟩ | ⟨x, t, rfl, rfl⟩
  · have hs' : i.natAbs.log2 < 1920 := by simpa only [kD, PyData.showable, decide_eq_true_eq] using hs
    simp only [kD, PyData.shown]
    exact ⟨[], fun _ h => (nomatch h), .of_is (ReprIs.int t hs') _ _ _⟩
  · simp only [kD, PyData.shown] at hz ⊢
    exact ⟨[], fun _ h => (nomatch h), .of_is (ReprIs.str x t hz) _ _ _⟩
theorem ents_more {P : Program} {w : World} {h₀ : Heap} {as as' : List Addr} {d d' : Nat} (hsub : ∀ b ∈ as, b ∈ as') (hd : d ≤ d') : ∀ {es : List DictEntry} {ps : List Str}, ReprEntriesK P w as h₀ d es ps → ReprEntriesK P w as' h₀ d' es ps
  | _, _, .nil => .nil
  | _, _, .cons a b r => .cons ((a.more hsub).level_le hd) ((b.more hsub).level_le hd) (ents_more hsub hd r)
mutual
theorem dx_repr (I : Inv X pins σ H s) : ∀ {v : V} {d : PyData} {u : Value}, Dx X.K Z H v d → RelV v u → d.showable = true → d.shown.length ≤ sizeLine → RK X s d.depth u d.shown
  | _, _, _, .non, r, _, _ => by
    cases r
    simp only [PyData.shown]
    exact ⟨[], fun _ h => (nomatch h), .of_is ReprIs.none _ _ _⟩
  | _, _, _, .bl b, r, _, _ => by
    cases r
    simp only [PyData.shown]
    exact ⟨[], fun _ h => (nomatch h), .of_is (ReprIs.bool b) _ _ _⟩
  | _, _, _, .int i, r, hs, _ => by
    obtain ⟨t, rfl⟩ := r
    have hs' : i.natAbs.log2 < 1920 := by simpa only [PyData.showable, decide_eq_true_eq] using hs
    simp only [PyData.shown]
    exact ⟨[], fun _ h => (nomatch h), .of_is (ReprIs.int t hs') _ _ _⟩
  | _, _, _, .str x, r, _, hz => by
    obtain ⟨t, rfl⟩ := r
    simp only [PyData.shown] at hz ⊢
    exact ⟨[], fun _ h => (nomatch h), .of_is (ReprIs.str x t hz) _ _ _⟩
  | _, _, _, .lst (a := a) (ds := ds) e z h, r, hs, hz => by
    cases r
    have rd := dx_reads I (.lst e z h) (u := .ref a) rfl
    obtain ⟨its, rv, ⟨o, n, ho, hc, _, hd⟩, _⟩ := I.list (SqL.of e)
    simp only [PyData.shown] at hz
    obtain ⟨bs, hb, hk⟩ := dxAll_repr I h rv (by simpa only [PyData.showable] using hs) fun t ht => Nat.le_trans (listText_mem_le ht) hz
    obtain ⟨as, rd⟩ := rd
    simp only [PyData.shown, PyData.depth]
    have own : a ∉ bs := not_mem_of_deeper rd (by simp only [PyData.depth]; omega) hb
    refine ⟨a :: bs, ?_, ?_⟩
    · have := ReadAtMost.cons rd (by simp only [PyData.depth]; omega) hb
      simpa only [PyData.depth] using this
    · cases its with
      | nil =>
        cases rv
        cases h
        simp only [PyData.shownAll, listText_nil]
        exact ReprK.listEmpty ho hc hd
      | cons x l => exact ReprK.list ho hc hd own (by simpa using hk.length_eq) fun i y hy => hk.item i y (by simpa using hy)
  | _, _, _, .tup (a := a) e h, r, hs, hz => by
    cases r
    have rd := dx_reads I (.tup e h) (u := .ref a) rfl
    obtain ⟨its, rv, ⟨o, ho, hc, n, hd⟩, _⟩ := I.tuple e
    simp only [PyData.shown] at hz
    obtain ⟨bs, hb, hk⟩ := dxAll_repr I h rv (by simpa only [PyData.showable] using hs) fun t ht => Nat.le_trans (tupleText_mem_le ht) hz
    obtain ⟨as, rd⟩ := rd
    simp only [PyData.shown, PyData.depth]
    have own : a ∉ bs := not_mem_of_deeper rd (by simp only [PyData.depth]; omega) hb
    refine ⟨a :: bs, ?_, ReprK.tuple ho hc hd own hk⟩
    have := ReadAtMost.cons rd (by simp only [PyData.depth]; omega) hb
    simpa only [PyData.depth] using this
  | _, _, _, .dct (a := a) (ds := ds) e z h, r, hs, hz => by
    cases r
    have rd := dx_reads I (.dct e z h) (u := .ref a) rfl
    obtain ⟨_, sys, ws, rk, o, es, ep, ho, hx, hd, _, hp, _⟩ := dk_of I.hok e
    simp only [PyData.shown] at hz
    obtain ⟨bs, hb, hk⟩ := dxKv_repr I h rk hp (by simpa only [PyData.showable] using hs) fun t ht => Nat.le_trans (dictText_mem_le ht) hz
    obtain ⟨as, rd⟩ := rd
    simp only [PyData.shown, PyData.depth]
    have own : a ∉ bs := not_mem_of_deeper rd (by simp only [PyData.depth]; omega) hb
    refine ⟨a :: bs, ?_, ReprK.dict ho hx.1 hd sys own hk⟩
    have := ReadAtMost.cons rd (by simp only [PyData.depth]; omega) hb
    simpa only [PyData.depth] using this
theorem dxAll_repr (I : Inv X pins σ H s) : ∀ {vs : List V} {ds : List PyData} {us : List Value}, DxAll X.K Z H vs ds → Vals vs us → PyData.showableAll ds = true → (∀ t ∈ PyData.shownAll ds, t.length ≤ sizeLine) → RKs X s (PyData.depthAll ds) us (PyData.shownAll ds)
  | _, _, _, .nil, r, _, _ => by
    cases r
    simp only [PyData.shownAll, PyData.depthAll]
    exact RKs.nil
  | _, _, _, .cons h t, .cons r1 r2, hs, hz => by
    simp only [PyData.showableAll, Bool.and_eq_true] at hs
    simp only [PyData.shownAll, PyData.depthAll] at hz ⊢
    exact RKs.cons (dx_repr I h r1 hs.1 (hz _ (List.mem_cons_self ..))) (dxAll_repr I t r2 hs.2 fun t ht => hz t (List.mem_cons_of_mem _ ht))
theorem dxKv_repr (I : Inv X pins σ H s) {P : Program} {w : World} : ∀ {kvs : List (Key × V)} {ds : List (PyData × PyData)} {ws : List (Key × Value)} {es : List DictEntry}, DxKv X.K Z H kvs ds → KV kvs ws → Pairs (mixKind P w) es ws →
    PyData.showableKv ds = true → (∀ t ∈ PyData.shownKv ds, t.length ≤ sizeLine) → ∃ bs, ReadAtMost s.heap (PyData.depthKv ds) bs ∧ ReprEntriesK X.prog X.w bs s.heap (PyData.depthKv ds) es (PyData.shownKv ds)
  | _, _, _, _, .nil, .nil, .nil, _, _ => by
    simp only [PyData.shownKv]
    exact ⟨[], fun _ h => (nomatch h), .nil⟩
  | _, _, _, _, .cons (k := k) (d := d) (ds := ds) h t, .cons hk r, .cons (e := e) he hv q, hs, hz => by
    simp only [PyData.showableKv, Bool.and_eq_true] at hs
    simp only [PyData.shownKv, PyData.depthKv] at hz ⊢
    have lz := hz _ (List.mem_cons_self ..)
    rw [strLen_append, strLen_append] at lz
    have e1 := hk.1
    have e2 := hk.2
    dsimp only at e1 e2
    rw [mixKind_is, ← e1] at he
    obtain ⟨p, hp, kp⟩ := key_repr (X := X) (s := s) he hs.1.1 (by omega)
    obtain ⟨q1, hq, kq⟩ := dx_repr I h e2 hs.1.2 (by omega)
    obtain ⟨q2, hr, kr⟩ := dxKv_repr I t r q hs.2 fun t ht => hz t (List.mem_cons_of_mem _ ht)
    refine ⟨p ++ (q1 ++ q2), ?_, ?_⟩
    · exact (hp.mono (by omega)).append ((hq.mono (by omega)).append (hr.mono (by omega)))
    · rw [← hv] at kq
      refine .cons ((kp.more fun b hb => List.mem_append_left _ hb).level_le (by omega)) ((kq.more fun b hb => List.mem_append_right _ (List.mem_append_left _ hb)).level_le (by omega)) ?_
      exact ents_more (fun b hb => List.mem_append_right _ (List.mem_append_right _ hb)) (by omega) kr
end
end
section
variable {X : Cx}
/-- repr(x), x data of any kind -/
def rReprX (K : PySem.W.Frag) : List V → Hp → VK → Prop := fun vs H Q =>
  ∃ (v : V) (d : PyData) (Z : Addr → Prop), vs = [v] ∧ Dx K Z H v d ∧ d.showable = true ∧ d.shown.length ≤ sizeLine ∧ d.depth ≤ 60 ∧ Q (.str d.shown) H
theorem call_reprX (hG : X.A.guards = some []) (hu : X.A.units + 64 < cLine) : CallR X (.builtin "repr") (rReprX X.K) := by
  intro pins s σ H vs us Q I r h
  obtain ⟨v, d, Z, rfl, hx, hs, hz, hdep, q⟩ := h
  have keep : ∀ (h' : Heap) (u : Tok) (tk : Nat), (∀ b o, s.heap.get? b = some o → h'.get? b = some o) → EP X pins σ Q (.str d.shown u) { s with heap := h', toks := tk } :=
    fun h' u tk hk => ⟨.str d.shown, H, I.kept hk, ⟨_, rfl⟩, q⟩
  cases hx with
  | non =>
    obtain ⟨u, rfl, ru⟩ := vals1 r
    cases ru
    exact PySem.P.repr_of_none ⟨.str _, H, I.tok _, ⟨_, rfl⟩, q⟩
  | bl b =>
    obtain ⟨u, rfl, ru⟩ := vals1 r
    cases ru
    refine PySem.P.repr_of_bool ⟨.str (PyData.shown (.bool b)), H, I.tok _, ⟨_, rfl⟩, q⟩
  | int i =>
    obtain ⟨u, rfl, t, rfl⟩ := vals1 r
    have hs' : i.natAbs.log2 < 1920 := by simpa only [PyData.showable, decide_eq_true_eq] using hs
    exact PySem.P.repr_of_int hs' ⟨.str _, H, I.tok _, ⟨_, rfl⟩, q⟩
  | str x =>
    obtain ⟨u, rfl, t, rfl⟩ := vals1 r
    exact PySem.P.repr_of_str ⟨.str _, H, I.tok _, ⟨_, rfl⟩, q⟩ hz
  | lst e z h =>
    obtain ⟨u, rfl, ru⟩ := vals1 r
    cases ru
    rename_i a xs ds
    obtain ⟨as, rd⟩ := dx_reads I (.lst e z h) (u := .ref a) rfl
    obtain ⟨its, rv, ⟨o, n, ho, hc, _, hd⟩, _⟩ := I.list (SqL.of e)
    simp only [PyData.shown, PyData.depth] at hz hdep keep
    obtain ⟨bs, hb, hk⟩ := dxAll_repr I h rv (by simpa only [PyData.showable] using hs) fun t ht => Nat.le_trans (listText_mem_le ht) hz
    have own : a ∉ bs := not_mem_of_deeper rd (by simp only [PyData.depth]; omega) hb
    refine call_repr_slot (by omega) ⟨o, ho, hc⟩ F.slot_list_repr.toG ?_
    cases its with
    | nil =>
      cases rv
      cases h
      simp only [PyData.shownAll, listText_nil] at keep
      exact call_list_repr_empty ⟨o, ho, hc⟩ ho hd ⟨_, _, rfl, keep s.heap _ _ fun _ _ e => e⟩
    | cons x l =>
      exact call_list_reprK ho hc hd own (by simpa using hk.length_eq) (fun i y hy => hk.item i y (by simpa using hy)) hG (fun b _ => Clear.nil b) (by show X.A.units + 1 + (_ + 1) < cLine; omega) (fun _ _ e => e) (fun h' u tk hk' => ⟨_, _, rfl, keep h' u tk hk'⟩) hz
  | tup e h =>
    obtain ⟨u, rfl, ru⟩ := vals1 r
    cases ru
    rename_i a xs ds
    obtain ⟨as, rd⟩ := dx_reads I (Dx.tup (Z := Z) e h) (u := .ref a) rfl
    obtain ⟨its, rv, ⟨o, ho, hc, n, hd⟩, _⟩ := I.tuple e
    simp only [PyData.shown, PyData.depth] at hz hdep keep
    obtain ⟨bs, hb, hk⟩ := dxAll_repr I h rv (by simpa only [PyData.showable] using hs) fun t ht => Nat.le_trans (tupleText_mem_le ht) hz
    have own : a ∉ bs := not_mem_of_deeper rd (by simp only [PyData.depth]; omega) hb
    refine call_repr_slot (by omega) ⟨o, ho, hc⟩ F.slot_tuple_repr ?_
    exact call_tuple_reprK ho hc hd own hk hG (fun b _ => Clear.nil b) (by show X.A.units + 1 + (_ + 1) < cLine; omega) (fun _ _ e => e) (fun h' u tk hk' => ⟨_, _, rfl, keep h' u tk hk'⟩) hz
  | dct e z h =>
    obtain ⟨u, rfl, ru⟩ := vals1 r
    cases ru
    rename_i a kvs ds
    obtain ⟨as, rd⟩ := dx_reads I (.dct e z h) (u := .ref a) rfl
    obtain ⟨_, sys, ws, rk, o, es, ep, ho, hx, hd, _, hp, _⟩ := dk_of I.hok e
    simp only [PyData.shown, PyData.depth] at hz hdep keep
    obtain ⟨bs, hb, hk⟩ := dxKv_repr I h rk hp (by simpa only [PyData.showable] using hs) fun t ht => Nat.le_trans (dictText_mem_le ht) hz
    have own : a ∉ bs := not_mem_of_deeper rd (by simp only [PyData.depth]; omega) hb
    refine call_repr_slot (by omega) ⟨o, ho, hx.1⟩ F.slot_dict_repr ?_
    exact call_dict_reprK ho hx.1 hd sys own hk hG (fun b _ => Clear.nil b) (by show X.A.units + 1 + (_ + 1) < cLine; omega) (fun _ _ e => e) (fun h' u tk hk' => ⟨_, _, rfl, keep h' u tk hk'⟩) hz
end
end Ev

set_option exponentiation.threshold 256
/-! data of any kind: kinds, parts, how long they are shown -/
namespace Ev
open PySem PySem.Spec PyProof.Rows L2
/-! ### kinds -/
def tyN : PyData → String
  | .none => "NoneType"
  | .bool _ => "bool"
  | .int _ => "int"
  | .str _ => "str"
  | .list _ => "list"
  | .tuple _ => "tuple"
  | .dict _ => "dict"
def isInt : PyData → Bool
  | .int _ => true
  | .bool _ => true
  | _ => false
def isBool : PyData → Bool
  | .bool _ => true
  | _ => false
def isStr : PyData → Bool
  | .str _ => true
  | _ => false
def isTup : PyData → Bool
  | .tuple _ => true
  | _ => false
def isLst : PyData → Bool
  | .list _ => true
  | _ => false
def isDct : PyData → Bool
  | .dict _ => true
  | _ => false
section
variable {K : PySem.W.Frag} {Z : Addr → Prop} {H : Hp}
theorem kit_int : ∀ d : PyData, PySem.W.kitOne K (.type (tyN d)) (.type "int") = some (isInt d)
  | .none => kit_ty (show kitB "NoneType" "int" = some false by decide +kernel)
  | .bool _ => kit_ty (show kitB "bool" "int" = some true by decide +kernel)
  | .int _ => kit_ty (show kitB "int" "int" = some true by decide +kernel)
  | .str _ => kit_ty (show kitB "str" "int" = some false by decide +kernel)
  | .list _ => kit_ty (show kitB "list" "int" = some false by decide +kernel)
  | .tuple _ => kit_ty (show kitB "tuple" "int" = some false by decide +kernel)
  | .dict _ => kit_ty (show kitB "dict" "int" = some false by decide +kernel)
theorem kit_bool : ∀ d : PyData, PySem.W.kitOne K (.type (tyN d)) (.type "bool") = some (isBool d)
  | .none => kit_ty (show kitB "NoneType" "bool" = some false by decide +kernel)
  | .bool _ => kit_ty (show kitB "bool" "bool" = some true by decide +kernel)
  | .int _ => kit_ty (show kitB "int" "bool" = some false by decide +kernel)
  | .str _ => kit_ty (show kitB "str" "bool" = some false by decide +kernel)
  | .list _ => kit_ty (show kitB "list" "bool" = some false by decide +kernel)
  | .tuple _ => kit_ty (show kitB "tuple" "bool" = some false by decide +kernel)
  | .dict _ => kit_ty (show kitB "dict" "bool" = some false by decide +kernel)
theorem kit_str : ∀ d : PyData, PySem.W.kitOne K (.type (tyN d)) (.type "str") = some (isStr d)
  | .none => kit_ty (show kitB "NoneType" "str" = some false by decide +kernel)
  | .bool _ => kit_ty (show kitB "bool" "str" = some false by decide +kernel)
  | .int _ => kit_ty (show kitB "int" "str" = some false by decide +kernel)
  | .str _ => kit_ty (show kitB "str" "str" = some true by decide +kernel)
  | .list _ => kit_ty (show kitB "list" "str" = some false by decide +kernel)
  | .tuple _ => kit_ty (show kitB "tuple" "str" = some false by decide +kernel)
  | .dict _ => kit_ty (show kitB "dict" "str" = some false by decide +kernel)
theorem kit_tup : ∀ d : PyData, PySem.W.kitOne K (.type (tyN d)) (.type "tuple") = some (isTup d)
  | .none => kit_ty (show kitB "NoneType" "tuple" = some false by decide +kernel)
  | .bool _ => kit_ty (show kitB "bool" "tuple" = some false by decide +kernel)
  | .int _ => kit_ty (show kitB "int" "tuple" = some false by decide +kernel)
  | .str _ => kit_ty (show kitB "str" "tuple" = some false by decide +kernel)
  | .list _ => kit_ty (show kitB "list" "tuple" = some false by decide +kernel)
  | .tuple _ => kit_ty (show kitB "tuple" "tuple" = some true by decide +kernel)
  | .dict _ => kit_ty (show kitB "dict" "tuple" = some false by decide +kernel)
theorem kit_lst : ∀ d : PyData, PySem.W.kitOne K (.type (tyN d)) (.type "list") = some (isLst d)
  | .none => kit_ty (show kitB "NoneType" "list" = some false by decide +kernel)
  | .bool _ => kit_ty (show kitB "bool" "list" = some false by decide +kernel)
  | .int _ => kit_ty (show kitB "int" "list" = some false by decide +kernel)
  | .str _ => kit_ty (show kitB "str" "list" = some false by decide +kernel)
  | .list _ => kit_ty (show kitB "list" "list" = some true by decide +kernel)
  | .tuple _ => kit_ty (show kitB "tuple" "list" = some false by decide +kernel)
  | .dict _ => kit_ty (show kitB "dict" "list" = some false by decide +kernel)
theorem kit_dct : ∀ d : PyData, PySem.W.kitOne K (.type (tyN d)) (.type "dict") = some (isDct d)
  | .none => kit_ty (show kitB "NoneType" "dict" = some false by decide +kernel)
  | .bool _ => kit_ty (show kitB "bool" "dict" = some false by decide +kernel)
  | .int _ => kit_ty (show kitB "int" "dict" = some false by decide +kernel)
  | .str _ => kit_ty (show kitB "str" "dict" = some false by decide +kernel)
  | .list _ => kit_ty (show kitB "list" "dict" = some false by decide +kernel)
  | .tuple _ => kit_ty (show kitB "tuple" "dict" = some false by decide +kernel)
  | .dict _ => kit_ty (show kitB "dict" "dict" = some true by decide +kernel)
theorem dx_ty {v : V} {d : PyData} (h : Dx K Z H v d) : TyX K H v (.type (tyN d)) := by
  cases h with
  | non => exact .base .non
  | bl b => exact .base (.bl b)
  | int i => exact .base (.int i)
  | str x => exact .base (.str x)
  | lst e z h => exact .base (.lst e)
  | tup e h =>
    rcases e with (e | ⟨o, e⟩) | ⟨o, its, n, e, c, _⟩
    · exact .base (.tup e)
    · exact .fTuple e
    · exact .kTuple e c
  | dct e z h => exact .base (.dK e)
/-! ### parts -/
theorem dx_tup {v : V} {ds : List PyData} (h : Dx K Z H v (.tuple ds)) : ∃ a xs, v = .ref a ∧ SqT K H a xs ∧ DxAll K Z H xs ds := by
  cases h with
  | tup e h => exact ⟨_, _, rfl, e, h⟩
theorem dx_lst {v : V} {ds : List PyData} (h : Dx K Z H v (.list ds)) : ∃ a xs, v = .ref a ∧ H a = some (.lst xs) ∧ Z a ∧ DxAll K Z H xs ds := by
  cases h with
  | lst e z h => exact ⟨_, _, rfl, e, z, h⟩
theorem dx_int {v : V} {i : Int} (h : Dx K Z H v (.int i)) : v = .int i := by cases h; rfl
theorem dx_str {v : V} {x : Str} (h : Dx K Z H v (.str x)) : v = .str x := by cases h; rfl
theorem dx_bool {v : V} {b : Bool} (h : Dx K Z H v (.bool b)) : v = .bl b := by cases h; rfl
theorem dx_none {v : V} (h : Dx K Z H v .none) : v = .non := by cases h; rfl
theorem dxAll_len : ∀ {vs : List V} {ds : List PyData}, DxAll K Z H vs ds → vs.length = ds.length
  | _, _, .nil => rfl
  | _, _, .cons _ r => congrArg (· + 1) (dxAll_len r)
theorem dxAll_get : ∀ {vs : List V} {ds : List PyData} {i : Nat} {v : V}, DxAll K Z H vs ds → vs[i]? = some v → ∃ d, ds[i]? = some d ∧ Dx K Z H v d
  | _, _, _, _, .nil, e => by simp at e
  | _, _, 0, _, .cons h _, e => by
    simp at e
    subst e
    exact ⟨_, rfl, h⟩
  | _, _, i + 1, _, .cons _ r, e => dxAll_get (i := i) r (by simpa using e)
theorem dxAll_at : ∀ {vs : List V} {ds : List PyData} {i : Nat} {d : PyData}, DxAll K Z H vs ds → ds[i]? = some d → ∃ v, vs[i]? = some v ∧ Dx K Z H v d
  | _, _, _, _, .nil, e => by simp at e
  | _, _, 0, _, .cons h _, e => by
    simp at e
    subst e
    exact ⟨_, rfl, h⟩
  | _, _, i + 1, _, .cons _ r, e => dxAll_at (i := i) r (by simpa using e)
theorem dxAll_app : ∀ {vs ws : List V} {ds es : List PyData}, DxAll K Z H vs ds → DxAll K Z H ws es → DxAll K Z H (vs ++ ws) (ds ++ es)
  | _, _, _, _, .nil, q => q
  | _, _, _, _, .cons h r, q => .cons h (dxAll_app r q)
theorem dxAll_drop : ∀ (n : Nat) {vs : List V} {ds : List PyData}, DxAll K Z H vs ds → DxAll K Z H (vs.drop n) (ds.drop n)
  | 0, _, _, r => r
  | n + 1, _, _, .nil => .nil
  | n + 1, _, _, .cons _ r => dxAll_drop n r
theorem dxAll_take : ∀ (n : Nat) {vs : List V} {ds : List PyData}, DxAll K Z H vs ds → DxAll K Z H (vs.take n) (ds.take n)
  | 0, _, _, _ => .nil
  | n + 1, _, _, .nil => .nil
  | n + 1, _, _, .cons h r => .cons h (dxAll_take n r)
def cutD (ds : List PyData) (lo hi : Option Int) : List PyData :=
  (ds.drop (HT.sIx ds.length 0 lo)).take (HT.sIx ds.length ds.length hi - HT.sIx ds.length 0 lo)
theorem dxAll_cut {vs : List V} {ds : List PyData} (h : DxAll K Z H vs ds) (lo hi : Option Int) : DxAll K Z H (cutV vs lo hi) (cutD ds lo hi) := by
  unfold cutV cutD
  rw [dxAll_len h]
  exact dxAll_take _ (dxAll_drop _ h)
theorem dxAll_rev : ∀ {vs : List V} {ds : List PyData}, DxAll K Z H vs ds → DxAll K Z H vs.reverse ds.reverse
  | _, _, .nil => .nil
  | _, _, .cons h r => by
    rw [List.reverse_cons, List.reverse_cons]
    exact dxAll_app (dxAll_rev r) (.cons h .nil)
theorem dxAll_mem {vs : List V} {ds : List PyData} {v : V} (h : DxAll K Z H vs ds) (m : v ∈ vs) : ∃ d ∈ ds, Dx K Z H v d := by
  obtain ⟨i, e⟩ := List.getElem?_of_mem m
  obtain ⟨d, ed, hd⟩ := dxAll_get h e
  exact ⟨d, List.mem_of_getElem? ed, hd⟩
/-- one and the same place holds one datum: what is shown twice is shown alike -/
theorem dx_tuple_of {a : Addr} {xs : List V} {ds : List PyData} (e : H a = some (.tup xs)) (h : DxAll K Z H xs ds) : Dx K Z H (.ref a) (.tuple ds) := .tup (SqT.of e) h
end
/-! ### how they are shown -/
structure Ft (n k : Nat) (d : PyData) : Prop where
  sh : d.showable = true
  len : d.shown.length ≤ n
  dp : d.depth ≤ k
theorem Ft.le {n k n' k' : Nat} {d : PyData} (h : Ft n k d) (a : n ≤ n') (b : k ≤ k') : Ft n' k' d := ⟨h.sh, Nat.le_trans h.len a, Nat.le_trans h.dp b⟩
theorem ft_none : Ft 4 0 .none := ⟨rfl, by simp only [PyData.shown]; decide, by simp only [PyData.depth]; decide⟩
theorem ft_bool (b : Bool) : Ft 5 0 (.bool b) := ⟨rfl, by simp only [PyData.shown]; cases b <;> decide, by simp only [PyData.depth]; decide⟩
theorem ft_int {i : Int} (h : i.natAbs.log2 < 1920) : Ft 1921 0 (.int i) := by
  refine ⟨by simpa only [PyData.showable, decide_eq_true_eq] using h, ?_, by simp only [PyData.depth]; decide⟩
  have e := int_text_length_le (k := 1920) (by decide) h
  simp only [PyData.shown]
  show (Str.ofString (toString i)).length ≤ 1921
  rw [PySem.ofString_length]
  exact e
theorem ft_str {x : Str} (h : ∀ c ∈ x.cps.toList, c < 16 ^ 8) : Ft (10 * x.length + 2) 0 (.str x) := by
  refine ⟨rfl, ?_, by simp only [PyData.depth]; decide⟩
  simp only [PyData.shown]
  exact StrLaws.reprText_len x h
theorem all_sh {n k : Nat} : ∀ {ds : List PyData}, (∀ d ∈ ds, Ft n k d) → PyData.showableAll ds = true ∧ ((PyData.shownAll ds).map (·.length)).sum ≤ ds.length * n ∧ (PyData.shownAll ds).length = ds.length ∧ PyData.depthAll ds ≤ k
  | [], _ => by simp only [PyData.showableAll, PyData.shownAll, PyData.depthAll]; exact ⟨trivial, Nat.zero_le _, rfl, Nat.zero_le _⟩
  | d :: ds, h => by
    have a := h d (List.mem_cons_self ..)
    obtain ⟨b1, b2, b3, b4⟩ := all_sh (ds := ds) fun e he => h e (List.mem_cons_of_mem _ he)
    simp only [PyData.showableAll, PyData.shownAll, PyData.depthAll, List.map_cons, List.sum_cons, List.length_cons]
    refine ⟨by rw [a.sh, b1]; rfl, ?_, by omega, Nat.max_le.mpr ⟨a.dp, b4⟩⟩
    rw [Nat.succ_mul]
    have := a.len
    omega
theorem ft_tuple {n k m : Nat} {ds : List PyData} (h : ∀ d ∈ ds, Ft n k d) (l : ds.length ≤ m) : Ft (m * (n + 2) + 3) (k + 1) (.tuple ds) := by
  obtain ⟨b1, b2, b3, b4⟩ := all_sh h
  refine ⟨by simpa only [PyData.showable] using b1, ?_, by simp only [PyData.depth]; omega⟩
  simp only [PyData.shown]
  have e := tupleText_len_le (PyData.shownAll ds)
  have : ds.length * (n + 2) ≤ m * (n + 2) := Nat.mul_le_mul_right _ l
  rw [Nat.mul_add] at this
  rw [b3] at e
  omega
theorem ft_list {n k m : Nat} {ds : List PyData} (h : ∀ d ∈ ds, Ft n k d) (l : ds.length ≤ m) : Ft (m * (n + 2) + 3) (k + 1) (.list ds) := by
  obtain ⟨b1, b2, b3, b4⟩ := all_sh h
  refine ⟨by simpa only [PyData.showable] using b1, ?_, by simp only [PyData.depth]; omega⟩
  simp only [PyData.shown]
  have e := listText_len_le (PyData.shownAll ds)
  have : ds.length * (n + 2) ≤ m * (n + 2) := Nat.mul_le_mul_right _ l
  rw [Nat.mul_add] at this
  rw [b3] at e
  omega
end Ev

set_option exponentiation.threshold 256
/-! data of any kind: how great they are -/
namespace Ev
open PySem PySem.Spec PyProof.Rows L2
mutual
/-- ints below 2 ^ 1400 in size, signs as they are -/
def fitx : PyData → Bool
  | .none => true
  | .bool _ => true
  | .int i => decide (i.natAbs < 2 ^ 1400)
  | .str x => x.cps.toList.all fun c => decide (c < 1114112)
  | .list xs => fitxs xs
  | .tuple xs => fitxs xs
  | .dict xs => fitxk xs
def fitxs : List PyData → Bool
  | [] => true
  | x :: xs => fitx x && fitxs xs
def fitxk : List (PyData × PyData) → Bool
  | [] => true
  | (k, v) :: xs => fitx k && fitx v && fitxk xs
end
mutual
/-- how many leaves and displays, a text by its signs -/
def szx : PyData → Nat
  | .none => 1
  | .bool _ => 1
  | .int _ => 1
  | .str x => x.length + 1
  | .list xs => szxs xs + 1
  | .tuple xs => szxs xs + 1
  | .dict xs => szxk xs + 1
def szxs : List PyData → Nat
  | [] => 0
  | x :: xs => szx x + szxs xs
def szxk : List (PyData × PyData) → Nat
  | [] => 0
  | (k, v) :: xs => szx k + szx v + szxk xs
end
theorem fitx_log {i : Int} (h : i.natAbs < 2 ^ 1400) : i.natAbs.log2 < 1920 := Nat.lt_trans (PySem.Flt.log2_lt_of (by decide) h) (by decide)
mutual
theorem fitx_show : ∀ d : PyData, fitx d = true → d.showable = true ∧ d.shown.length + 2 ≤ 1930 * szx d
  | .none, _ => by
    simp only [PyData.showable, PyData.shown, szx]
    exact ⟨trivial, by decide⟩
  | .bool b, _ => by
    have e : (PyData.shown (.bool b)).length ≤ 5 := by cases b <;> decide
    simp only [PyData.showable, szx]
    exact ⟨trivial, by omega⟩
  | .int i, h => by
    simp only [fitx, decide_eq_true_eq] at h
    have f := ft_int (fitx_log h)
    refine ⟨f.sh, ?_⟩
    have := f.len
    simp only [szx]
    omega
  | .str x, h => by
    simp only [fitx, List.all_eq_true, decide_eq_true_eq] at h
    have f := ft_str (x := x) fun c hc => Nat.lt_trans (h c hc) (by decide)
    refine ⟨f.sh, ?_⟩
    have := f.len
    simp only [szx]
    omega
  | .list xs, h => by
    simp only [fitx] at h
    obtain ⟨a, b⟩ := fitxs_show xs h
    have e := listText_len_le (PyData.shownAll xs)
    have l := PyData.shownAll_length xs
    simp only [PyData.showable, PyData.shown, szx]
    exact ⟨a, by omega⟩
  | .tuple xs, h => by
    simp only [fitx] at h
    obtain ⟨a, b⟩ := fitxs_show xs h
    have e := tupleText_len_le (PyData.shownAll xs)
    have l := PyData.shownAll_length xs
    simp only [PyData.showable, PyData.shown, szx]
    exact ⟨a, by omega⟩
  | .dict xs, h => by
    simp only [fitx] at h
    obtain ⟨a, b⟩ := fitxk_show xs h
    have e := dictText_len_le (PyData.shownKv xs)
    simp only [PyData.showable, PyData.shown, szx]
    exact ⟨a, by omega⟩
theorem fitxs_show : ∀ xs : List PyData, fitxs xs = true → PyData.showableAll xs = true ∧ ((PyData.shownAll xs).map (·.length)).sum + 2 * xs.length ≤ 1930 * szxs xs
  | [], _ => by
    simp only [PyData.showableAll, PyData.shownAll, szxs]
    exact ⟨trivial, by decide⟩
  | x :: xs, h => by
    simp only [fitxs, Bool.and_eq_true] at h
    obtain ⟨a, b⟩ := fitx_show x h.1
    obtain ⟨c, d⟩ := fitxs_show xs h.2
    simp only [PyData.showableAll, PyData.shownAll, szxs, List.map_cons, List.sum_cons, List.length_cons]
    exact ⟨by rw [a, c]; rfl, by omega⟩
theorem fitxk_show : ∀ xs : List (PyData × PyData), fitxk xs = true → PyData.showableKv xs = true ∧ ((PyData.shownKv xs).map (·.length)).sum + 2 * (PyData.shownKv xs).length ≤ 1930 * szxk xs
  | [], _ => by
    simp only [PyData.showableKv, PyData.shownKv, szxk]
    exact ⟨trivial, by decide⟩
  | (k, v) :: xs, h => by
    simp only [fitxk, Bool.and_eq_true] at h
    obtain ⟨a, b⟩ := fitx_show k h.1.1
    obtain ⟨a2, b2⟩ := fitx_show v h.1.2
    obtain ⟨c, d⟩ := fitxk_show xs h.2
    simp only [PyData.showableKv, PyData.shownKv, szxk, List.map_cons, List.sum_cons, List.length_cons]
    refine ⟨by rw [a, a2, c]; rfl, ?_⟩
    rw [strLen_append, strLen_append]
    have : (": " : Str).length = 2 := rfl
    omega
end
/-- data so great and so deep at most -/
structure Dt (n k : Nat) (d : PyData) : Prop where
  fx : fitx d = true
  sz : szx d ≤ n
  dp : d.depth ≤ k
theorem Dt.le {n k n' k' : Nat} {d : PyData} (h : Dt n k d) (a : n ≤ n') (b : k ≤ k') : Dt n' k' d := ⟨h.fx, Nat.le_trans h.sz a, Nat.le_trans h.dp b⟩
theorem Dt.show {n k : Nat} {d : PyData} (h : Dt n k d) (hn : n ≤ 8000) (hk : k ≤ 60) : d.showable = true ∧ d.shown.length ≤ sizeLine ∧ d.depth ≤ 60 := by
  obtain ⟨a, b⟩ := fitx_show d h.fx
  refine ⟨a, ?_, Nat.le_trans h.dp hk⟩
  have := h.sz
  rw [sizeLine_eq]
  omega
theorem dt_none : Dt 1 0 .none := ⟨rfl, by simp only [szx]; decide, by simp only [PyData.depth]; decide⟩
theorem dt_bool (b : Bool) : Dt 1 0 (.bool b) := ⟨rfl, by simp only [szx]; exact Nat.le_refl _, by simp only [PyData.depth]; exact Nat.le_refl _⟩
theorem dt_int {i : Int} (h : i.natAbs < 2 ^ 1400) : Dt 1 0 (.int i) := ⟨by simp only [fitx]; exact decide_eq_true h, by simp only [szx]; exact Nat.le_refl _, by simp only [PyData.depth]; exact Nat.le_refl _⟩
theorem dt_small {i : Int} (h : i.natAbs < 1000000) : Dt 1 0 (.int i) := dt_int (Nat.lt_trans h (by decide +kernel))
theorem dt_str {x : Str} (h : ∀ c ∈ x.cps.toList, c < 1114112) : Dt (x.length + 1) 0 (.str x) :=
  ⟨by simp only [fitx, List.all_eq_true, decide_eq_true_eq]; exact h, by simp only [szx]; exact Nat.le_refl _, by simp only [PyData.depth]; exact Nat.le_refl _⟩
/-- of a row: all so deep, all together so great -/
structure Dts (n k : Nat) (ds : List PyData) : Prop where
  fx : fitxs ds = true
  sz : szxs ds ≤ n
  dp : PyData.depthAll ds ≤ k
theorem Dts.nil : Dts 0 0 [] := ⟨rfl, by simp only [szxs]; exact Nat.le_refl _, by simp only [PyData.depthAll]; exact Nat.le_refl _⟩
theorem Dts.cons {n m k l : Nat} {d : PyData} {ds : List PyData} (a : Dt n k d) (b : Dts m l ds) : Dts (n + m) (max k l) (d :: ds) := by
  have h1 := a.sz
  have h2 := b.sz
  have h3 := a.dp
  have h4 := b.dp
  refine ⟨by simp only [fitxs, a.fx, b.fx, Bool.and_self], by simp only [szxs]; omega, by simp only [PyData.depthAll]; omega⟩
theorem Dts.le {n k n' k' : Nat} {d : List PyData} (h : Dts n k d) (a : n ≤ n') (b : k ≤ k') : Dts n' k' d := ⟨h.fx, Nat.le_trans h.sz a, Nat.le_trans h.dp b⟩
theorem Dts.tuple {n k : Nat} {ds : List PyData} (h : Dts n k ds) : Dt (n + 1) (k + 1) (.tuple ds) := by
  have h1 := h.sz
  have h2 := h.dp
  exact ⟨by simp only [fitx]; exact h.fx, by simp only [szx]; omega, by simp only [PyData.depth]; omega⟩
theorem Dts.list {n k : Nat} {ds : List PyData} (h : Dts n k ds) : Dt (n + 1) (k + 1) (.list ds) := by
  have h1 := h.sz
  have h2 := h.dp
  exact ⟨by simp only [fitx]; exact h.fx, by simp only [szx]; omega, by simp only [PyData.depth]; omega⟩
theorem dts_all {n k : Nat} : ∀ {ds : List PyData}, (∀ d ∈ ds, Dt n k d) → Dts (ds.length * n) k ds
  | [], _ => ⟨rfl, by simp only [szxs]; exact Nat.zero_le _, by simp only [PyData.depthAll]; exact Nat.zero_le _⟩
  | d :: ds, h => by
    have a := h d (List.mem_cons_self ..)
    have b := dts_all (ds := ds) fun e he => h e (List.mem_cons_of_mem _ he)
    have c := Dts.cons a b
    rw [List.length_cons, Nat.succ_mul]
    exact c.le (by omega) (by omega)
theorem Dt.of_tuple {n k : Nat} {ds : List PyData} (h : Dt n k (.tuple ds)) : ∀ d ∈ ds, Dt n k d := by
  have go : ∀ (ds : List PyData), fitxs ds = true → ∀ d ∈ ds, fitx d = true ∧ szx d ≤ szxs ds ∧ d.depth ≤ PyData.depthAll ds := by
    intro ds
    induction ds with
    | nil => intro _ d hd; cases hd
    | cons x xs ih =>
      intro hf d hd
      simp only [fitxs, Bool.and_eq_true] at hf
      simp only [szxs, PyData.depthAll]
      rcases List.mem_cons.mp hd with rfl | hd
      · exact ⟨hf.1, by omega, by omega⟩
      · obtain ⟨a, b, c⟩ := ih hf.2 d hd
        exact ⟨a, by omega, by omega⟩
  intro d hd
  have h1 := h.fx
  have h2 := h.sz
  have h3 := h.dp
  simp only [fitx] at h1
  simp only [szx] at h2
  simp only [PyData.depth] at h3
  obtain ⟨a, b, c⟩ := go ds h1 d hd
  exact ⟨a, by omega, by omega⟩
end Ev

set_option exponentiation.threshold 256
/-! for i, x in enumerate(a tuple) -/
namespace Ev
open PySem PySem.Spec PyProof.Rows L2
open PySem.Sem (wp)
theorem draws_tup {prog : Program} {w : World} {A : Around} (hh : A.handled = none) (it l : Addr) (hne : l ≠ it) (xs : Array Value) :
    Draws prog w A it [it, l] xs.size (fun i v => xs[i]? = some v) (fun i h => h.IsTupleIter it l i ∧ h.IsTuple l xs) where
  live := fun _ _ p => let ⟨o, q, _⟩ := p.1; ⟨o, q⟩
  frame := fun _ _ _ p k => ⟨p.1.at fun o e => k it (List.mem_cons_self ..) o e, p.2.at fun o e => k l (List.mem_cons_of_mem _ (List.mem_cons_self ..)) o e⟩
  item := fun i s Q E hi p hQ => by
    have hx : xs[i]? = some xs[i] := Array.getElem?_eq_getElem hi
    exact RZ.nextOf_tuple_item p.1 p.2 hx fun h' a b => hQ _ h' s.toks hx ⟨a, p.2.at fun o e => b.extBut l o hne e⟩ b
  done := fun s Q E p hE => RZ.nextOf_tuple_end hh p.1 p.2 (Array.getElem?_eq_none (Nat.le_refl _)) hE
theorem en_new {v : Value} {o : Obj} {G : Heap → Prop} (B : Begins v o G) :
    Meets (Builtin.«enumerate.__new__» ⟨[.type "enumerate", v], []⟩) (fun _ R s => G s.heap ∧
      R (.ok (.ret (.ref (s.heap.push o).objs.size))) { s with heap := (s.heap.push o).push { cls := .type "enumerate", data := .fields #[.none, .bool false, .ref s.heap.objs.size, rawInt 0, .none, .none] } }) :=
  .of_wp fun prog w A R s z => by
    obtain ⟨h0, gg, dd, tt, oo⟩ := s
    obtain ⟨z1, z2⟩ := z
    have sb := sub_enumerate
    have go : ∀ {A' : Around} {E : Value → Shared → Prop} {Q : Value → Shared → Prop}, Q (.ref h0.objs.size) ⟨h0.push o, gg, dd, tt, oo⟩ → wpAny (model prog w) A' (pyIter v) Q E ⟨h0, gg, dd, tt, oo⟩ :=
      fun q => B.iter prog w _ _ ⟨h0, gg, dd, tt, oo⟩ _ z1 q
    wp_walk using go
    refine wpAny_stack_any fun stk => wpAny_pure ?_
    split
    · rename_i c _ _ _ _ _
      cases (c == Value.type "enumerate")
      · wp_walk using go
        exact ⟨_, rfl, z2⟩
      · wp_walk using go
        exact ⟨_, rfl, z2⟩
    · wp_walk using go
      exact ⟨_, rfl, z2⟩
section
variable {prog : Program} {w : World} {A : Around} {E : Value → Shared → Prop} {s : Shared}
theorem call_en {v : Value} {o : Obj} {G : Heap → Prop} {Q : Value → Shared → Prop} (B : Begins v o G) (g : G s.heap)
    (q : ∀ h', IsEnum h' (s.heap.objs.size + 1) s.heap.objs.size 0 .none → h'.get? s.heap.objs.size = some o → (∀ b u, s.heap.get? b = some u → h'.get? b = some u) → Q (.ref (s.heap.objs.size + 1)) { s with heap := h' }) :
    wpAny (model prog w) A (call (.type "enumerate") [v]) Q E s := by
  refine callType_new F.called_enumerate (by decide) (F.typeCall_enumerate_1 _) (F.newCall_enumerate_1 _) (fun obj => F.args_object_init_2 obj _) F.entry_enumerate_new (en_new B) ⟨g, ?_⟩
  have n1 : (s.heap.push o).objs.size = s.heap.objs.size + 1 := Heap.size_push ..
  show _ ∧ _
  have made : IsEnum ((s.heap.push o).push { cls := .type "enumerate", data := .fields #[.none, .bool false, .ref s.heap.objs.size, rawInt 0, .none, .none] }) (s.heap.push o).objs.size s.heap.objs.size 0 .none :=
    Heap.get?_push_size _ rfl
  rw [n1] at made ⊢
  have up : ∀ b u, s.heap.get? b = some u → ((s.heap.push o).push { cls := .type "enumerate", data := .fields #[.none, .bool false, .ref s.heap.objs.size, rawInt 0, .none, .none] }).get? b = some u :=
    fun b u e => Heap.get?_push_of_some _ (Heap.get?_push_of_some _ e)
  exact ⟨⟨_, made, rfl⟩, q _ made (Heap.get?_push_of_some _ (Heap.get?_push_size _ B.free)) up⟩
theorem en_stop {e it l : Addr} {i k : Nat} {old : Value} {xs : Array Value} {Q : Option Value → Shared → Prop} (hh : A.handled = none) (he : IsEnum s.heap e it k old) (hi : s.heap.IsTupleIter it l i) (hl : s.heap.IsTuple l xs) (n : xs[i]? = none)
    (q : ∀ h', Heap.ExtBut it s.heap h' → Q none { s with heap := h' }) : wpAny (model prog w) A (pyNext (.ref e)) Q E s := by
  have ty : s.TypeIs (.ref e) "enumerate" := ⟨_, he, rfl⟩
  unfold pyNext
  have slot := F.slot_enumerate_next
  refine wpAny_bind (wpAny_attempt (wpAny_callSpecial?_slot (name := Str.ofString "__next__") ty slot (wpAny_call_entry slot ty F.entry_enumerate_next ?_ (F.args_enumerate_next_1 _))))
  show wpAny _ _ (field (.ref e) 2 >>= _) _ _ s
  refine wpAny_bind (wpAny_field he rfl (x := .ref it) rfl (wpAny_bind (RZ.nextOf_tuple_end hh hi hl n fun h' a ext ho => ?_)))
  obtain ⟨o, ho, hc⟩ := ho
  exact wpAny_bind (wpAny_isInstance (T := "StopIteration") (b := true) ⟨o, ho, hc⟩ isSubtype_stop (wpAny_pure (q _ ext)))
end
/-- the tuple at a as it stands at each turn, each item in a new pair -/
def IteT (K : PySem.W.Frag) (a : Addr) : It :=
  ⟨fun i H => ∃ (xs : List V) (x : V), SqT K H a xs ∧ xs[i]? = some x,
   fun i H v H' => ∃ t x, v = .ref t ∧ H t = none ∧ H' = upd H t (.tup [.int (i : Nat), x]) ∧ ∀ xs, SqT K H a xs → xs[i]? = some x,
   fun i H => ∃ xs : List V, SqT K H a xs ∧ xs.length ≤ i⟩
theorem turn_enT {P : Program} {w : World} {K : PySem.W.Frag} {elts : List Expr} {kk : Nat} {tpos : Pos} (a e it : Addr) (nae : a ≠ e) (nai : a ≠ it) :
    Turn P w K (.Tuple elts kk tpos) (IteT K a) [e, it] e (fun i h => (∃ old, IsEnum h e it ((i : Nat) : Int) old) ∧ h.IsTupleIter it a i ∧ e ≠ it) where
  mem := List.mem_cons_self ..
  obj := fun i h p b hb => by
    obtain ⟨⟨old, p1⟩, ⟨o, p2, p3, p4⟩, _⟩ := p
    rcases List.mem_cons.mp hb with rfl | hb
    · exact ⟨_, p1, fun v q => nomatch q⟩
    · have z := List.mem_singleton.mp hb
      subst z
      exact ⟨o, p2, fun v q => by rw [p4] at q; cases q⟩
  keep := fun i h h' p k => by
    obtain ⟨⟨old, p1⟩, p2, p3⟩ := p
    exact ⟨⟨old, k e (List.mem_cons_self ..) _ p1⟩, p2.at fun o q => k it (List.mem_cons_of_mem _ (List.mem_cons_self ..)) o q, p3⟩
  item := by
    intro X hP hw hK hc i pins s σ H E I hf p hg
    subst hP hw hK
    obtain ⟨⟨old, p1⟩, p2, p3⟩ := p
    obtain ⟨xs, x, hq, hx⟩ := hg
    obtain ⟨its, rv, pt, hz⟩ := I.tuple hq
    obtain ⟨u, hu, ru⟩ := rv.get hx
    have lt1 : e < s.heap.objs.size := Heap.lt_size p1
    have lt2 : it < s.heap.objs.size := by
      obtain ⟨o, q, _⟩ := id p2
      exact Heap.lt_size q
    have hi : i < its.toArray.size := by
      rw [List.size_toArray]
      exact (List.getElem?_eq_some_iff.mp hu).1
    have D := draws_tup (prog := X.prog) (w := X.w) (A := X.A.in1) (I.ok.hd hc) it a nai its.toArray
    have off : e ∉ [it, a] := fun hm => by
      rcases List.mem_cons.mp hm with z | hm
      · exact p3 z
      · exact nae (List.mem_singleton.mp hm).symm
    refine wpAny_pyNext_enum_itemD D p1 ⟨p2, pt⟩ hi p3 off fun y h' tk hy out st2 hT hs hk => ?_
    have ey : y = u := by
      have : its.toArray[i]? = some u := by simpa using hu
      rw [this] at hy
      exact (Option.some.inj hy).symm
    subst ey
    refine ⟨_, rfl, wpAny_letOwnedTupleGo_enum (s := { s with heap := h', toks := tk + 1 }) out fun h2 p1' sb => ?_⟩
    have hT2 : h2.get? s.heap.objs.size = some { cls := .type "tuple", data := .seq #[.int i tk, y] } := (sb.2 _ (Nat.ne_of_gt lt1)).trans hT
    have ok : ObjOk X.prog X.w (upd H s.heap.objs.size (.tup [.int (i : Nat), x])) h2 s.heap.objs.size (.tup [.int (i : Nat), x]) :=
      ⟨by show 2 ≤ sizeLine; decide, [.int i tk, y], .cons ⟨_, rfl⟩ (.cons ru .nil), ⟨_, hT2, rfl, _, rfl⟩⟩
    have far : ∀ b ob, b ∉ [e, it] → s.heap.get? b = some ob → h2.get? b = some ob := fun b ob hb q => by
      have n1 : b ≠ e := fun z => hb (by rw [z]; exact List.mem_cons_self ..)
      have n2 : b ≠ it := fun z => hb (by rw [z]; exact List.mem_cons_of_mem _ (List.mem_cons_self ..))
      exact (sb.2 b n1).trans (hk b ob n1 n2 q)
    have I1 := I.turnedNew (ch := [e, it]) (t' := tk + 1) far hf (Nat.le_refl _) ok
    refine ⟨.ref s.heap.objs.size, _, I1, rfl, ⟨_, x, rfl, I.hok.fresh (Nat.le_refl _), rfl, fun ys hy => by rw [I.tuple_inj hy hq]; exact hx⟩, ⟨⟨y, ?_⟩, st2.1.at fun o q => (sb.2 it (Ne.symm p3)).trans q, p3⟩, fun b hb => ?_⟩
    · have e1 : ((i + 1 : Nat) : Int) = (i : Int) + 1 := by omega
      rw [e1]
      exact p1'
    · have hb' : b < s.heap.objs.size := by
        rcases List.mem_cons.mp hb with z | z
        · rw [z]; exact lt1
        · rw [List.mem_singleton.mp z]; exact lt2
      rw [upd_ne (Nat.ne_of_lt hb')]
      exact (hf b hb).1
  done := by
    intro X hP hw hK hc i pins s σ H E I hf p hg
    subst hP hw hK
    obtain ⟨⟨old, p1⟩, p2, p3⟩ := p
    obtain ⟨xs, hq, hx⟩ := hg
    obtain ⟨its, rv, pt, hz⟩ := I.tuple hq
    obtain ⟨f0, f1, f2, f3, f4, f5⟩ := hf it (List.mem_cons_of_mem _ (List.mem_cons_self ..))
    have lv := rv.length
    have over : its.toArray[i]? = none := Array.getElem?_eq_none (by rw [List.size_toArray]; omega)
    exact en_stop (I.ok.hd hc) p1 p2 pt over fun h' ext => ⟨rfl, I.turned (t' := s.toks) (fun b o nb q => ext b o nb q) f0 f1 f3 f4 f5⟩
  self := fun A i s Q E p h => let ⟨⟨_, p1⟩, _⟩ := p; wpAny_pyIter_enum p1 h
def iEnT (K : PySem.W.Frag) (ta : TA) : TI := fun σ H R => ta σ H fun vs H1 => ∃ a xs, vs = [.ref a] ∧ SqT K H1 a xs ∧ R (IteT K a) H1
theorem pi_enumT {X : Cx} {e : Expr} {ta : TA} {p pos tpos : Pos} {elts : List Expr} {kk : Nat} (hg : Gl X "enumerate") (hm : X.mg "enumerate" = none) (ha : PA X [e] ta) (hs : starEach [e] X.env = [(false, eval e X.env)] := by rfl) :
    PI X (.Tuple elts kk tpos) (.Call (.Name "enumerate" p) [e] [] pos) (iEnT X.K ta) := by
  refine ⟨fun pins s σ H R I h => ?_⟩
  refine Call_ (ld_blt I hg hm boot_enumerate (PyProof.Rows.callWith_type1 (thn (ha.run pos pins s σ H _ I h) fun us s1 q1 => ?_) hs rfl))
  obtain ⟨vs, H1, I1, r1, a, xs, ev, hq, q⟩ := q1
  subst ev
  obtain ⟨u, rfl, ru⟩ := vals1 r1
  cases ru
  obtain ⟨its, rv, pt, hz⟩ := I1.tuple hq
  obtain ⟨oa, ga, _⟩ := id pt
  have la : a < s1.heap.objs.size := Heap.lt_size ga
  refine call_en (begins_tuple a its.toArray) pt fun h' he ho up => wpAny_pyIter_enum he ?_
  have I2 : Inv X pins σ H1 { s1 with heap := h' } := I1.kept (t' := s1.toks) up
  have n0 : s1.heap.objs.size + 1 ≠ s1.heap.objs.size := Nat.succ_ne_self _
  have st : h'.IsTupleIter s1.heap.objs.size a 0 := ⟨_, ho, rfl, rfl⟩
  refine ⟨s1.heap.objs.size + 1, [s1.heap.objs.size + 1, s1.heap.objs.size], _, _, H1, rfl, I2, turn_enT a (s1.heap.objs.size + 1) s1.heap.objs.size (Nat.ne_of_lt (Nat.lt_succ_of_lt la)) (Nat.ne_of_lt la), ⟨⟨.none, he⟩, st, n0⟩, fun b hb => ?_, q⟩
  have hle : s1.heap.objs.size ≤ b := by
    rcases List.mem_cons.mp hb with z | z
    · rw [z]; exact Nat.le_add_right _ _
    · rw [List.mem_singleton.mp z]; exact Nat.le_refl _
  exact I1.fpOk hle (I1.hok.fresh hle)
theorem walk_enT {K : PySem.W.Frag} {a : Addr} {xs : List V} : Walk (IteT K a) xs.length (fun H => SqT K H a xs) (YPair (fun i => some (.int (i : Nat))) (fun i => xs[i]?)) := by
  refine ⟨fun i _ hi q => ⟨xs, xs[i], q, List.getElem?_eq_getElem hi⟩, fun _ q => ⟨xs, q, Nat.le_refl _⟩, fun i H v H' _ q y => ?_⟩
  obtain ⟨t, x, y1, y2, y3, y4⟩ := y
  exact ⟨t, .int (i : Nat), x, y1, y2, y3, rfl, y4 xs q⟩
end Ev

set_option exponentiation.threshold 256
/-! sums of throws: powers of a polynomial, by its parts -/
namespace Ev
def opL : List (Nat × Int) → (Nat → Int) → Nat → Int
  | [], _, _ => 0
  | (a, c) :: l, q, n => (if a ≤ n then c * q (n - a) else 0) + opL l q n
def delta (n : Nat) : Int := if n = 0 then 1 else 0
def pw (l : List (Nat × Int)) : Nat → Nat → Int
  | 0 => delta
  | m + 1 => opL l (pw l m)
theorem opL_cong {q r : Nat → Int} : ∀ (l : List (Nat × Int)) (n : Nat), (∀ k, k ≤ n → q k = r k) → opL l q n = opL l r n
  | [], _, _ => rfl
  | (a, c) :: l, n, h => by
    unfold opL
    rw [opL_cong l n h, h (n - a) (Nat.sub_le _ _)]
theorem opL_add (x y : Nat → Int) : ∀ (l : List (Nat × Int)) (n : Nat), opL l (fun k => x k + y k) n = opL l x n + opL l y n
  | [], _ => rfl
  | (a, c) :: l, n => by
    unfold opL
    rw [opL_add x y l n]
    split <;> grind
theorem opL_mul (m : Int) (x : Nat → Int) : ∀ (l : List (Nat × Int)) (n : Nat), opL l (fun k => m * x k) n = m * opL l x n
  | [], _ => by simp [opL]
  | (a, c) :: l, n => by
    unfold opL
    rw [opL_mul m x l n]
    split <;> grind
theorem opL_zero : ∀ (l : List (Nat × Int)) (n : Nat), opL l (fun _ => 0) n = 0
  | [], _ => rfl
  | (a, c) :: l, n => by
    unfold opL
    rw [opL_zero l n]
    split <;> simp
theorem opL_sh (a : Nat) (c : Int) (q : Nat → Int) : ∀ (l : List (Nat × Int)) (n : Nat), opL l (fun k => if a ≤ k then c * q (k - a) else 0) n = if a ≤ n then c * opL l q (n - a) else 0
  | [], n => by
    unfold opL
    split <;> simp
  | (b, d) :: l, n => by
    unfold opL
    rw [opL_sh a c q l n]
    have e : n - b - a = n - a - b := by omega
    show (if b ≤ n then d * (if a ≤ n - b then c * q (n - b - a) else 0) else 0) + (if a ≤ n then c * opL l q (n - a) else 0) = if a ≤ n then c * ((if b ≤ n - a then d * q (n - a - b) else 0) + opL l q (n - a)) else 0
    by_cases h1 : b ≤ n
    · by_cases h2 : a ≤ n
      · by_cases h3 : a ≤ n - b
        · rw [if_pos h1, if_pos h3, if_pos h2, if_pos h2, if_pos (show b ≤ n - a by omega), e]
          grind
        · rw [if_pos h1, if_neg h3, if_pos h2, if_pos h2, if_neg (show ¬ b ≤ n - a by omega)]
          grind
      · rw [if_pos h1, if_neg (show ¬ a ≤ n - b by omega), if_neg h2, if_neg h2]
        grind
    · by_cases h2 : a ≤ n
      · rw [if_neg h1, if_pos h2, if_pos h2, if_neg (show ¬ b ≤ n - a by omega)]
        grind
      · rw [if_neg h1, if_neg h2, if_neg h2]
        grind
theorem opL_comm (k : List (Nat × Int)) (q : Nat → Int) : ∀ (l : List (Nat × Int)) (n : Nat), opL l (opL k q) n = opL k (opL l q) n
  | [], n => by
    have e : opL ([] : List (Nat × Int)) q = fun _ => 0 := rfl
    rw [e, opL_zero]
    rfl
  | (a, c) :: l, n => by
    have e : opL ((a, c) :: l) q = fun n => (if a ≤ n then c * q (n - a) else 0) + opL l q n := by
      funext n
      rfl
    rw [e, opL_add, opL_sh, ← opL_comm k q l n]
    rfl
def dl (l : List (Nat × Int)) : List (Nat × Int) := l.map fun p => (p.1, (p.1 : Int) * p.2)
def th (q : Nat → Int) (n : Nat) : Int := (n : Int) * q n
theorem th_op (q : Nat → Int) : ∀ (l : List (Nat × Int)) (n : Nat), th (opL l q) n = opL l (th q) n + opL (dl l) q n
  | [], n => by simp [th, opL, dl]
  | (a, c) :: l, n => by
    have ih := th_op q l n
    show (n : Int) * ((if a ≤ n then c * q (n - a) else 0) + opL l q n) = ((if a ≤ n then c * th q (n - a) else 0) + opL l (th q) n) + ((if a ≤ n then ((a : Int) * c) * q (n - a) else 0) + opL (dl l) q n)
    have ih' : (n : Int) * opL l q n = opL l (th q) n + opL (dl l) q n := ih
    by_cases h : a ≤ n
    · rw [if_pos h, if_pos h, if_pos h]
      have e : ((n - a : Nat) : Int) = (n : Int) - a := by omega
      unfold th at *
      rw [e]
      grind
    · rw [if_neg h, if_neg h, if_neg h]
      grind
theorem pw_rec (l : List (Nat × Int)) : ∀ (m n : Nat), opL l (th (pw l m)) n = (m : Int) * opL (dl l) (pw l m) n
  | 0, n => by
    have e : th (pw l 0) = fun _ => 0 := by
      funext k
      unfold th pw delta
      by_cases h : k = 0
      · subst h; simp
      · rw [if_neg h]; simp
    rw [e, opL_zero]
    simp
  | m + 1, n => by
    have e : th (pw l (m + 1)) = fun k => (m : Int) * opL (dl l) (pw l m) k + opL (dl l) (pw l m) k := by
      funext k
      show th (opL l (pw l m)) k = _
      rw [th_op, pw_rec l m k]
    rw [e, opL_add, opL_mul]
    have c := opL_comm (dl l) (pw l m) l n
    have c2 : opL (dl l) (pw l (m + 1)) n = opL (dl l) (opL l (pw l m)) n := rfl
    rw [c2, c]
    grind
/-- what the weights ahead tell of the next one -/
def recT (m : Nat) (q : Nat → Int) : List (Nat × Int) → Nat → Int
  | [], _ => 0
  | (a, c) :: l, n => (if a ≤ n then ((m : Int) * a - n + a) * c * q (n - a) else 0) + recT m q l n
theorem recT_eq (m : Nat) (q : Nat → Int) : ∀ (l : List (Nat × Int)) (n : Nat), recT m q l n = (m : Int) * opL (dl l) q n - opL l (th q) n
  | [], n => by simp [recT, opL, dl]
  | (a, c) :: l, n => by
    have ih := recT_eq m q l n
    show (if a ≤ n then ((m : Int) * a - n + a) * c * q (n - a) else 0) + recT m q l n = (m : Int) * ((if a ≤ n then ((a : Int) * c) * q (n - a) else 0) + opL (dl l) q n) - ((if a ≤ n then c * th q (n - a) else 0) + opL l (th q) n)
    by_cases h : a ≤ n
    · rw [if_pos h, if_pos h, if_pos h, ih]
      have e : ((n - a : Nat) : Int) = (n : Int) - a := by omega
      unfold th
      rw [e]
      grind
    · rw [if_neg h, if_neg h, if_neg h, ih]
      grind
theorem pw_next (f : Int) (r : List (Nat × Int)) (m n : Nat) : f * n * pw ((0, f) :: r) m n = recT m (pw ((0, f) :: r) m) r n := by
  have h := pw_rec ((0, f) :: r) m n
  have e1 : opL ((0, f) :: r) (th (pw ((0, f) :: r) m)) n = f * th (pw ((0, f) :: r) m) n + opL r (th (pw ((0, f) :: r) m)) n := by
    show (if 0 ≤ n then f * th _ (n - 0) else 0) + _ = _
    rw [if_pos (Nat.zero_le _), Nat.sub_zero]
  have e2 : opL (dl ((0, f) :: r)) (pw ((0, f) :: r) m) n = opL (dl r) (pw ((0, f) :: r) m) n := by
    show (if 0 ≤ n then ((0 : Nat) : Int) * f * pw _ _ (n - 0) else 0) + _ = _
    rw [if_pos (Nat.zero_le _)]
    simp
    rfl
  rw [e1, e2] at h
  rw [recT_eq]
  have e3 : th (pw ((0, f) :: r) m) n = (n : Int) * pw ((0, f) :: r) m n := rfl
  rw [e3] at h
  grind
theorem pw_zero (f : Int) {r : List (Nat × Int)} (h : ∀ p ∈ r, 1 ≤ p.1) : ∀ m, pw ((0, f) :: r) m 0 = f ^ m
  | 0 => by
    rw [Int.pow_zero]
    rfl
  | m + 1 => by
    have z : ∀ (l : List (Nat × Int)), (∀ p ∈ l, 1 ≤ p.1) → ∀ q : Nat → Int, opL l q 0 = 0 := by
      intro l
      induction l with
      | nil => intros; rfl
      | cons p l ih =>
        intro hl q
        have h1 := hl p (List.mem_cons_self ..)
        show (if p.1 ≤ 0 then p.2 * q (0 - p.1) else 0) + opL l q 0 = 0
        rw [if_neg (by omega), ih (fun x hx => hl x (List.mem_cons_of_mem _ hx)), Int.zero_add]
    show (if 0 ≤ 0 then f * pw ((0, f) :: r) m (0 - 0) else 0) + opL r (pw ((0, f) :: r) m) 0 = _
    rw [if_pos (Nat.le_refl _), z r h, pw_zero f h m, Int.pow_succ]
    grind
theorem opL_nn {q : Nat → Int} (hq : ∀ n, 0 ≤ q n) : ∀ (l : List (Nat × Int)) (n : Nat), (∀ p ∈ l, 0 ≤ p.2) → 0 ≤ opL l q n
  | [], _, _ => Int.le_refl _
  | (a, c) :: l, n, h => by
    have h1 := opL_nn hq l n fun p hp => h p (List.mem_cons_of_mem _ hp)
    have h2 : 0 ≤ c := h (a, c) (List.mem_cons_self ..)
    show 0 ≤ (if a ≤ n then c * q (n - a) else 0) + opL l q n
    by_cases h3 : a ≤ n
    · rw [if_pos h3]
      have := Int.mul_nonneg h2 (hq (n - a))
      omega
    · rw [if_neg h3]
      omega
theorem pw_nn {l : List (Nat × Int)} (h : ∀ p ∈ l, 0 ≤ p.2) : ∀ m n, 0 ≤ pw l m n
  | 0, n => by
    show 0 ≤ (if n = 0 then (1 : Int) else 0)
    split <;> decide
  | m + 1, n => opL_nn (pw_nn h m) l n h
def wsum (l : List (Nat × Int)) : Int := (l.map (·.2)).sum
theorem opL_le {q : Nat → Int} {B : Int} (hq : ∀ n, 0 ≤ q n ∧ q n ≤ B) (hB : 0 ≤ B) : ∀ (l : List (Nat × Int)) (n : Nat), (∀ p ∈ l, 0 ≤ p.2) → opL l q n ≤ wsum l * B
  | [], _, _ => by simp [opL, wsum]
  | (a, c) :: l, n, h => by
    have h1 := opL_le hq hB l n fun p hp => h p (List.mem_cons_of_mem _ hp)
    have h2 : 0 ≤ c := h (a, c) (List.mem_cons_self ..)
    have e : wsum ((a, c) :: l) * B = c * B + wsum l * B := by
      unfold wsum
      rw [List.map_cons, List.sum_cons, Int.add_mul]
    rw [e]
    show (if a ≤ n then c * q (n - a) else 0) + opL l q n ≤ _
    by_cases h3 : a ≤ n
    · rw [if_pos h3]
      have := Int.mul_le_mul_of_nonneg_left (hq (n - a)).2 h2
      omega
    · rw [if_neg h3]
      have := Int.mul_nonneg h2 hB
      omega
theorem wsum_nn {l : List (Nat × Int)} (h : ∀ p ∈ l, 0 ≤ p.2) : 0 ≤ wsum l := by
  induction l with
  | nil => exact Int.le_refl _
  | cons p l ih =>
    unfold wsum at *
    rw [List.map_cons, List.sum_cons]
    have := h p (List.mem_cons_self ..)
    have := ih fun x hx => h x (List.mem_cons_of_mem _ hx)
    omega
theorem pw_le {l : List (Nat × Int)} (h : ∀ p ∈ l, 0 ≤ p.2) : ∀ m n, pw l m n ≤ wsum l ^ m
  | 0, n => by
    show (if n = 0 then (1 : Int) else 0) ≤ _
    rw [Int.pow_zero]
    split <;> decide
  | m + 1, n => by
    have z := opL_le (q := pw l m) (B := wsum l ^ m) (fun k => ⟨pw_nn h m k, pw_le h m k⟩) (Int.pow_nonneg (wsum_nn h)) l n h
    rw [Int.pow_succ, Int.mul_comm]
    exact z
/-- beyond the greatest of all nothing comes -/
theorem pw_top {l : List (Nat × Int)} {t : Nat} (h : ∀ p ∈ l, p.1 ≤ t) : ∀ m n, t * m < n → pw l m n = 0
  | 0, n, hn => by
    show (if n = 0 then (1 : Int) else 0) = 0
    rw [if_neg (by omega)]
  | m + 1, n, hn => by
    have hn' : t * m + t < n := by rw [Nat.mul_succ] at hn; exact hn
    have z : ∀ (k : List (Nat × Int)), (∀ p ∈ k, p.1 ≤ t) → opL k (pw l m) n = 0 := by
      intro k
      induction k with
      | nil => intros; rfl
      | cons p k ih =>
        intro hk
        have h1 := hk p (List.mem_cons_self ..)
        show (if p.1 ≤ n then p.2 * pw l m (n - p.1) else 0) + opL k (pw l m) n = 0
        rw [if_pos (by omega), pw_top h m (n - p.1) (by omega), ih (fun x hx => hk x (List.mem_cons_of_mem _ hx))]
        simp
    exact z l h
/-- numbers counted in steps from the least one -/
def spread (lo st : Nat) (l : List (Nat × Int)) : List (Nat × Int) := l.map fun p => (lo + st * p.1, p.2)
def spreadF (lo st : Nat) (q : Nat → Int) (n : Nat) : Int := if lo ≤ n ∧ st ∣ (n - lo) then q ((n - lo) / st) else 0
theorem op_spread {lo st b : Nat} (hs : 0 < st) (q : Nat → Int) : ∀ (l : List (Nat × Int)) (n : Nat),
    opL (spread lo st l) (spreadF b st q) n = spreadF (b + lo) st (opL l q) n
  | [], n => by
    show 0 = if b + lo ≤ n ∧ st ∣ (n - (b + lo)) then (0 : Int) else 0
    split <;> rfl
  | (a, c) :: l, n => by
    have ih := op_spread (lo := lo) (b := b) hs q l n
    show (if lo + st * a ≤ n then c * spreadF b st q (n - (lo + st * a)) else 0) + opL (spread lo st l) (spreadF b st q) n = _
    rw [ih]
    unfold spreadF
    by_cases h : b + lo ≤ n ∧ st ∣ (n - (b + lo))
    · obtain ⟨h1, k, hk⟩ := h
      have hn : n = b + lo + st * k := by omega
      subst hn
      have ek : (b + lo + st * k - (b + lo)) / st = k := by
        rw [Nat.add_sub_cancel_left, Nat.mul_div_cancel_left _ hs]
      have hd : b + lo ≤ b + lo + st * k ∧ st ∣ b + lo + st * k - (b + lo) := ⟨by omega, ⟨k, by omega⟩⟩
      rw [if_pos hd, if_pos hd, ek]
      show _ = (if a ≤ k then c * q (k - a) else 0) + opL l q k
      congr 1
      by_cases hak : a ≤ k
      · obtain ⟨j, rfl⟩ : ∃ j, k = a + j := ⟨k - a, by omega⟩
        have e : st * (a + j) = st * a + st * j := Nat.mul_add _ _ _
        have e2 : b + lo + st * (a + j) - (lo + st * a) = b + st * j := by omega
        rw [if_pos (by omega), e2, if_pos ⟨by omega, ⟨j, by omega⟩⟩, if_pos hak, show b + st * j - b = st * j by omega, Nat.mul_div_cancel_left _ hs, Nat.add_sub_cancel_left]
      · obtain ⟨j, rfl⟩ : ∃ j, a = k + 1 + j := ⟨a - k - 1, by omega⟩
        have e : st * (k + 1 + j) = st * k + st + st * j := by rw [Nat.mul_add, Nat.mul_add, Nat.mul_one]
        rw [if_neg hak]
        split
        · rename_i h3
          rw [if_neg (by intro z; omega)]
          simp
        · rfl
    · rw [if_neg h, if_neg h, Int.add_zero]
      split
      · rename_i h3
        rw [if_neg]
        · simp
        · rintro ⟨h4, k, hk⟩
          refine h ⟨by omega, a + k, ?_⟩
          rw [Nat.mul_add]
          omega
      · rfl
theorem pw_spread {lo st : Nat} (hs : 0 < st) (l : List (Nat × Int)) : ∀ m, pw (spread lo st l) m = spreadF (lo * m) st (pw l m)
  | 0 => by
    funext n
    show (if n = 0 then (1 : Int) else 0) = if lo * 0 ≤ n ∧ st ∣ (n - lo * 0) then (if (n - lo * 0) / st = 0 then (1 : Int) else 0) else 0
    rw [Nat.mul_zero, Nat.sub_zero]
    by_cases h : n = 0
    · subst h
      rw [if_pos rfl, if_pos ⟨Nat.le_refl _, ⟨0, rfl⟩⟩, if_pos (Nat.zero_div _)]
    · rw [if_neg h]
      split
      · rename_i h2
        obtain ⟨_, k, rfl⟩ := h2
        rw [Nat.mul_div_cancel_left _ hs, if_neg]
        intro z
        subst z
        exact h rfl
      · rfl
  | m + 1 => by
    funext n
    show opL (spread lo st l) (pw (spread lo st l) m) n = _
    rw [pw_spread hs l m, op_spread hs]
    rw [Nat.mul_succ]
    rfl
theorem pw_single (lo : Nat) (f : Int) (m n : Nat) : pw [(lo, f)] m n = if n = lo * m then f ^ m else 0 := by
  have e : [(lo, f)] = spread lo 1 [(0, f)] := rfl
  rw [e, pw_spread (by decide)]
  have z : ∀ m k, pw [(0, f)] m k = if k = 0 then f ^ m else 0 := by
    intro m
    induction m with
    | zero =>
      intro k
      rw [Int.pow_zero]
      rfl
    | succ m ih =>
      intro k
      show (if 0 ≤ k then f * pw [(0, f)] m (k - 0) else 0) + 0 = _
      rw [if_pos (Nat.zero_le _), Nat.sub_zero, ih, Int.pow_succ]
      split <;> grind
  unfold spreadF
  rw [Nat.div_one, z]
  by_cases h : n = lo * m
  · subst h
    rw [if_pos ⟨Nat.le_refl _, ⟨_, (Nat.one_mul _).symm⟩⟩, Nat.sub_self, if_pos rfl, if_pos rfl]
  · rw [if_neg h]
    split
    · rename_i h2
      rw [if_neg (by omega)]
    · rfl
end Ev

set_option exponentiation.threshold 256
namespace Ev
open PySem PySem.Spec PyProof.Rows L2
def topS (i : Nat) : Stmt := PySem.Challenge.pw_everystart_k03_what_dice_are.main.body.getD i (.Pass ⟨0, 0, 0, 0⟩)
abbrev s_is_integer : Stmt := topS 4
theorem sc_is_integer : FnScope ["value"] ["value"] (defScope s_is_integer) := ⟨rfl, rfl, rfl, by decide +kernel, rfl, by decide +kernel, by decide +kernel⟩
abbrev s_is_within : Stmt := topS 5
theorem sc_is_within : FnScope ["value", "least", "most"] ["value", "least", "most"] (defScope s_is_within) := ⟨rfl, rfl, rfl, by decide +kernel, rfl, by decide +kernel, by decide +kernel⟩
abbrev s_is_fraction : Stmt := topS 7
theorem sc_is_fraction : FnScope ["value", "a", "b"] ["value"] (defScope s_is_fraction) := ⟨rfl, rfl, rfl, by decide +kernel, rfl, by decide +kernel, by decide +kernel⟩
abbrev s_is_chance : Stmt := topS 8
theorem sc_is_chance : FnScope ["value"] ["value"] (defScope s_is_chance) := ⟨rfl, rfl, rfl, by decide +kernel, rfl, by decide +kernel, by decide +kernel⟩
abbrev s_die_error : Stmt := topS 10
theorem sc_die_error : FnScope ["value", "word", "held"] ["value"] (defScope s_die_error) := ⟨rfl, rfl, rfl, by decide +kernel, rfl, by decide +kernel, by decide +kernel⟩
abbrev s_sides_error : Stmt := topS 11
theorem sc_sides_error : FnScope ["sides", "place", "side", "weights", "whole", "_", "weight"] ["sides"] (defScope s_sides_error) := ⟨rfl, rfl, rfl, by decide +kernel, rfl, by decide +kernel, by decide +kernel⟩
abbrev s_is_side : Stmt := topS 12
theorem sc_is_side : FnScope ["value", "number", "share"] ["value"] (defScope s_is_side) := ⟨rfl, rfl, rfl, by decide +kernel, rfl, by decide +kernel, by decide +kernel⟩
abbrev s_side_weights : Stmt := topS 13
theorem sc_side_weights : FnScope ["sides", "whole", "_", "share", "number"] ["sides"] (defScope s_side_weights) := ⟨rfl, rfl, rfl, by decide +kernel, rfl, by decide +kernel, by decide +kernel⟩
abbrev s_loom : Stmt := topS 15
theorem sc_loom : FnScope ["script", "cell", "cells", "stirred"] ["script"] (defScope s_loom) := ⟨rfl, rfl, rfl, by decide +kernel, rfl, by decide +kernel, by decide +kernel⟩
abbrev s_draw : Stmt := topS 16
theorem sc_draw : FnScope ["loom", "many", "cell", "one"] ["loom", "many"] (defScope s_draw) := ⟨rfl, rfl, rfl, by decide +kernel, rfl, by decide +kernel, by decide +kernel⟩
abbrev s_pick : Stmt := topS 17
theorem sc_pick : FnScope ["loom", "things"] ["loom", "things"] (defScope s_pick) := ⟨rfl, rfl, rfl, by decide +kernel, rfl, by decide +kernel, by decide +kernel⟩
abbrev s_mixed : Stmt := topS 18
theorem sc_mixed : FnScope ["loom", "things", "rest", "found"] ["loom", "things"] (defScope s_mixed) := ⟨rfl, rfl, rfl, by decide +kernel, rfl, by decide +kernel, by decide +kernel⟩
abbrev s_gcd : Stmt := topS 19
theorem sc_gcd : FnScope ["a", "b"] ["a", "b"] (defScope s_gcd) := ⟨rfl, rfl, rfl, by decide +kernel, rfl, by decide +kernel, by decide +kernel⟩
abbrev s_frac : Stmt := topS 20
theorem sc_frac : FnScope ["a", "b", "d"] ["a", "b"] (defScope s_frac) := ⟨rfl, rfl, rfl, by decide +kernel, rfl, by decide +kernel, by decide +kernel⟩
abbrev s_plus : Stmt := topS 21
theorem sc_plus : FnScope ["one", "other"] ["one", "other"] (defScope s_plus) := ⟨rfl, rfl, rfl, by decide +kernel, rfl, by decide +kernel, by decide +kernel⟩
abbrev s_share : Stmt := topS 22
theorem sc_share : FnScope ["loom", "most", "b"] ["loom", "most"] (defScope s_share) := ⟨rfl, rfl, rfl, by decide +kernel, rfl, by decide +kernel, by decide +kernel⟩
abbrev s_die : Stmt := topS 23
theorem sc_die : FnScope ["loom", "shown", "parts", "own", "number", "part"] ["loom"] (defScope s_die) := ⟨rfl, rfl, rfl, by decide +kernel, rfl, by decide +kernel, by decide +kernel⟩
abbrev s_odd : Stmt := topS 24
theorem sc_odd : FnScope ["loom", "some"] ["loom"] (defScope s_odd) := ⟨rfl, rfl, rfl, by decide +kernel, rfl, by decide +kernel, by decide +kernel⟩
abbrev s_is_whole : Stmt := topS 25
theorem sc_is_whole : FnScope ["value", "low", "high"] ["value", "low", "high"] (defScope s_is_whole) := ⟨rfl, rfl, rfl, by decide +kernel, rfl, by decide +kernel, by decide +kernel⟩
abbrev s_is_share : Stmt := topS 26
theorem sc_is_share : FnScope ["value", "is_open", "item"] ["value", "is_open"] (defScope s_is_share) := ⟨rfl, rfl, rfl, by decide +kernel, rfl, by decide +kernel, by decide +kernel⟩
abbrev s_sides_slip : Stmt := topS 27
theorem sc_sides_slip : FnScope ["sides", "place", "own", "total"] ["sides"] (defScope s_sides_slip) := ⟨rfl, rfl, rfl, by decide +kernel, rfl, by decide +kernel, by decide +kernel⟩
abbrev s_die_slip : Stmt := topS 28
theorem sc_die_slip : FnScope ["value"] ["value"] (defScope s_die_slip) := ⟨rfl, rfl, rfl, by decide +kernel, rfl, by decide +kernel, by decide +kernel⟩
abbrev s_bent_side : Stmt := topS 29
theorem sc_bent_side : FnScope ["loom", "side", "number", "share", "odd"] ["loom", "side"] (defScope s_bent_side) := ⟨rfl, rfl, rfl, by decide +kernel, rfl, by decide +kernel, by decide +kernel⟩
abbrev s_bent : Stmt := topS 30
theorem sc_bent : FnScope ["loom", "die", "odd", "some", "sides", "spot", "side", "number"] ["loom", "die"] (defScope s_bent) := ⟨rfl, rfl, rfl, by decide +kernel, rfl, by decide +kernel, by decide +kernel⟩
abbrev s_law : Stmt := topS 31
theorem sc_law : FnScope ["script", "loom", "turn", "die", "values", "nth", "value", "stood", "due", "told", "far", "below", "near", "one", "other", "sides", "six", "again", "number"] ["script"] (defScope s_law) := ⟨rfl, rfl, rfl, by decide +kernel, rfl, by decide +kernel, by decide +kernel⟩
structure Txt (K : PySem.W.Frag) (mg : Str → Option Value) (A : Nat → Addr) (D : Nat → FuncData) : Prop where
  z_int : mg "int" = none
  z_len : mg "len" = none
  z_abs : mg "abs" = none
  z_repr : mg "repr" = none
  range : mg "range" = none
  z_isinstance : mg "isinstance" = none
  z_str : mg "str" = none
  z_list : mg "list" = none
  z_tuple : mg "tuple" = none
  z_sorted : mg "sorted" = none
  z_sum : mg "sum" = none
  zip : mg "zip" = none
  enumerate : mg "enumerate" = none
  z_bool : mg "bool" = none
  z_gcd : mg "gcd" = some (.builtin "math.gcd")
  z_lcm : mg "lcm" = some (.builtin "math.lcm")
  F_die_error : Fun K "die_error" "die_error" s_die_error (A 0) (D 0)
  g_die_error : mg "die_error" = some (.ref (A 0))
  F_is_integer : Fun K "is_integer" "is_integer" s_is_integer (A 1) (D 1)
  g_is_integer : mg "is_integer" = some (.ref (A 1))
  F_is_within : Fun K "is_within" "is_within" s_is_within (A 2) (D 2)
  g_is_within : mg "is_within" = some (.ref (A 2))
  F_is_fraction : Fun K "is_fraction" "is_fraction" s_is_fraction (A 3) (D 3)
  g_is_fraction : mg "is_fraction" = some (.ref (A 3))
  F_is_chance : Fun K "is_chance" "is_chance" s_is_chance (A 4) (D 4)
  g_is_chance : mg "is_chance" = some (.ref (A 4))
  F_sides_error : Fun K "_sides_error" "_sides_error" s_sides_error (A 5) (D 5)
  g_sides_error : mg "_sides_error" = some (.ref (A 5))
  F_is_side : Fun K "_is_side" "_is_side" s_is_side (A 6) (D 6)
  g_is_side : mg "_is_side" = some (.ref (A 6))
  F_side_weights : Fun K "side_weights" "side_weights" s_side_weights (A 7) (D 7)
  g_side_weights : mg "side_weights" = some (.ref (A 7))
  F_loom : Fun K "_law_loom" "_law_loom" s_loom (A 8) (D 8)
  g_loom : mg "_law_loom" = some (.ref (A 8))
  F_draw : Fun K "_law_draw" "_law_draw" s_draw (A 9) (D 9)
  g_draw : mg "_law_draw" = some (.ref (A 9))
  F_pick : Fun K "_law_pick" "_law_pick" s_pick (A 10) (D 10)
  g_pick : mg "_law_pick" = some (.ref (A 10))
  F_mixed : Fun K "_law_mixed" "_law_mixed" s_mixed (A 11) (D 11)
  g_mixed : mg "_law_mixed" = some (.ref (A 11))
  F_gcd : Fun K "_law_gcd" "_law_gcd" s_gcd (A 12) (D 12)
  g_gcd : mg "_law_gcd" = some (.ref (A 12))
  F_frac : Fun K "_law_frac" "_law_frac" s_frac (A 13) (D 13)
  g_frac : mg "_law_frac" = some (.ref (A 13))
  F_plus : Fun K "_law_plus" "_law_plus" s_plus (A 14) (D 14)
  g_plus : mg "_law_plus" = some (.ref (A 14))
  F_share : Fun K "_law_share" "_law_share" s_share (A 15) (D 15)
  g_share : mg "_law_share" = some (.ref (A 15))
  F_die : Fun K "_law_die" "_law_die" s_die (A 16) (D 16)
  g_die : mg "_law_die" = some (.ref (A 16))
  F_odd : Fun K "_law_odd" "_law_odd" s_odd (A 17) (D 17)
  g_odd : mg "_law_odd" = some (.ref (A 17))
  F_is_whole : Fun K "_law_is_whole" "_law_is_whole" s_is_whole (A 18) (D 18)
  g_is_whole : mg "_law_is_whole" = some (.ref (A 18))
  F_is_share : Fun K "_law_is_share" "_law_is_share" s_is_share (A 19) (D 19)
  g_is_share : mg "_law_is_share" = some (.ref (A 19))
  F_sides_slip : Fun K "_law_sides_slip" "_law_sides_slip" s_sides_slip (A 20) (D 20)
  g_sides_slip : mg "_law_sides_slip" = some (.ref (A 20))
  F_die_slip : Fun K "_law_die_slip" "_law_die_slip" s_die_slip (A 21) (D 21)
  g_die_slip : mg "_law_die_slip" = some (.ref (A 21))
  F_bent_side : Fun K "_law_bent_side" "_law_bent_side" s_bent_side (A 22) (D 22)
  g_bent_side : mg "_law_bent_side" = some (.ref (A 22))
  F_bent : Fun K "_law_bent" "_law_bent" s_bent (A 23) (D 23)
  g_bent : mg "_law_bent" = some (.ref (A 23))
  F_law : Fun K "law" "law" s_law (A 24) (D 24)
  g_law : mg "law" = some (.ref (A 24))
  c_MAX_SIDE : ∃ u, mg "MAX_SIDE" = some u ∧ RelV (.int 9) u
  c_MAX_SIDES : ∃ u, mg "MAX_SIDES" = some u ∧ RelV (.int 6) u
section
variable {P : Program} {w : World} {K : PySem.W.Frag} {mg : Str → Option Value} {base : Heap} {A : Nat → Addr} {D : Nat → FuncData}
theorem Txt.k_die_error (T : Txt K mg A D) : PySem.W.keepIn K (.ref (A 0)) = true := T.F_die_error.kp
theorem Txt.b_die_error (T : Txt K mg A D) : Binds K (D 0) ["value"] [] := T.F_die_error.binds fun _ _ _ _ _ _ us hl => match us, hl with | [_], _ => rfl
theorem Txt.k_is_integer (T : Txt K mg A D) : PySem.W.keepIn K (.ref (A 1)) = true := T.F_is_integer.kp
theorem Txt.b_is_integer (T : Txt K mg A D) : Binds K (D 1) ["value"] [] := T.F_is_integer.binds fun _ _ _ _ _ _ us hl => match us, hl with | [_], _ => rfl
theorem Txt.k_is_within (T : Txt K mg A D) : PySem.W.keepIn K (.ref (A 2)) = true := T.F_is_within.kp
theorem Txt.b_is_within (T : Txt K mg A D) : Binds K (D 2) ["value", "least", "most"] [] := T.F_is_within.binds fun _ _ _ _ _ _ us hl => match us, hl with | [_, _, _], _ => rfl
theorem Txt.k_is_fraction (T : Txt K mg A D) : PySem.W.keepIn K (.ref (A 3)) = true := T.F_is_fraction.kp
theorem Txt.b_is_fraction (T : Txt K mg A D) : Binds K (D 3) ["value"] [] := T.F_is_fraction.binds fun _ _ _ _ _ _ us hl => match us, hl with | [_], _ => rfl
theorem Txt.k_is_chance (T : Txt K mg A D) : PySem.W.keepIn K (.ref (A 4)) = true := T.F_is_chance.kp
theorem Txt.b_is_chance (T : Txt K mg A D) : Binds K (D 4) ["value"] [] := T.F_is_chance.binds fun _ _ _ _ _ _ us hl => match us, hl with | [_], _ => rfl
theorem Txt.k_sides_error (T : Txt K mg A D) : PySem.W.keepIn K (.ref (A 5)) = true := T.F_sides_error.kp
theorem Txt.b_sides_error (T : Txt K mg A D) : Binds K (D 5) ["sides"] [] := T.F_sides_error.binds fun _ _ _ _ _ _ us hl => match us, hl with | [_], _ => rfl
theorem Txt.k_is_side (T : Txt K mg A D) : PySem.W.keepIn K (.ref (A 6)) = true := T.F_is_side.kp
theorem Txt.b_is_side (T : Txt K mg A D) : Binds K (D 6) ["value"] [] := T.F_is_side.binds fun _ _ _ _ _ _ us hl => match us, hl with | [_], _ => rfl
theorem Txt.k_side_weights (T : Txt K mg A D) : PySem.W.keepIn K (.ref (A 7)) = true := T.F_side_weights.kp
theorem Txt.b_side_weights (T : Txt K mg A D) : Binds K (D 7) ["sides"] [] := T.F_side_weights.binds fun _ _ _ _ _ _ us hl => match us, hl with | [_], _ => rfl
theorem Txt.k_loom (T : Txt K mg A D) : PySem.W.keepIn K (.ref (A 8)) = true := T.F_loom.kp
theorem Txt.b_loom (T : Txt K mg A D) : Binds K (D 8) ["script"] [] := T.F_loom.binds fun _ _ _ _ _ _ us hl => match us, hl with | [_], _ => rfl
theorem Txt.k_draw (T : Txt K mg A D) : PySem.W.keepIn K (.ref (A 9)) = true := T.F_draw.kp
theorem Txt.b_draw (T : Txt K mg A D) : Binds K (D 9) ["loom", "many"] [] := T.F_draw.binds fun _ _ _ _ _ _ us hl => match us, hl with | [_, _], _ => rfl
theorem Txt.k_pick (T : Txt K mg A D) : PySem.W.keepIn K (.ref (A 10)) = true := T.F_pick.kp
theorem Txt.b_pick (T : Txt K mg A D) : Binds K (D 10) ["loom", "things"] [] := T.F_pick.binds fun _ _ _ _ _ _ us hl => match us, hl with | [_, _], _ => rfl
theorem Txt.k_mixed (T : Txt K mg A D) : PySem.W.keepIn K (.ref (A 11)) = true := T.F_mixed.kp
theorem Txt.b_mixed (T : Txt K mg A D) : Binds K (D 11) ["loom", "things"] [] := T.F_mixed.binds fun _ _ _ _ _ _ us hl => match us, hl with | [_, _], _ => rfl
theorem Txt.k_gcd (T : Txt K mg A D) : PySem.W.keepIn K (.ref (A 12)) = true := T.F_gcd.kp
theorem Txt.b_gcd (T : Txt K mg A D) : Binds K (D 12) ["a", "b"] [] := T.F_gcd.binds fun _ _ _ _ _ _ us hl => match us, hl with | [_, _], _ => rfl
theorem Txt.k_frac (T : Txt K mg A D) : PySem.W.keepIn K (.ref (A 13)) = true := T.F_frac.kp
theorem Txt.b_frac (T : Txt K mg A D) : Binds K (D 13) ["a", "b"] [] := T.F_frac.binds fun _ _ _ _ _ _ us hl => match us, hl with | [_, _], _ => rfl
theorem Txt.k_plus (T : Txt K mg A D) : PySem.W.keepIn K (.ref (A 14)) = true := T.F_plus.kp
theorem Txt.b_plus (T : Txt K mg A D) : Binds K (D 14) ["one", "other"] [] := T.F_plus.binds fun _ _ _ _ _ _ us hl => match us, hl with | [_, _], _ => rfl
theorem Txt.k_share (T : Txt K mg A D) : PySem.W.keepIn K (.ref (A 15)) = true := T.F_share.kp
theorem Txt.b_share (T : Txt K mg A D) : Binds K (D 15) ["loom", "most"] [] := T.F_share.binds fun _ _ _ _ _ _ us hl => match us, hl with | [_, _], _ => rfl
theorem Txt.k_die (T : Txt K mg A D) : PySem.W.keepIn K (.ref (A 16)) = true := T.F_die.kp
theorem Txt.b_die (T : Txt K mg A D) : Binds K (D 16) ["loom"] [] := T.F_die.binds fun _ _ _ _ _ _ us hl => match us, hl with | [_], _ => rfl
theorem Txt.k_odd (T : Txt K mg A D) : PySem.W.keepIn K (.ref (A 17)) = true := T.F_odd.kp
theorem Txt.b_odd (T : Txt K mg A D) : Binds K (D 17) ["loom"] [] := T.F_odd.binds fun _ _ _ _ _ _ us hl => match us, hl with | [_], _ => rfl
theorem Txt.k_is_whole (T : Txt K mg A D) : PySem.W.keepIn K (.ref (A 18)) = true := T.F_is_whole.kp
theorem Txt.b_is_whole (T : Txt K mg A D) : Binds K (D 18) ["value", "low", "high"] [] := T.F_is_whole.binds fun _ _ _ _ _ _ us hl => match us, hl with | [_, _, _], _ => rfl
theorem Txt.k_is_share (T : Txt K mg A D) : PySem.W.keepIn K (.ref (A 19)) = true := T.F_is_share.kp
theorem Txt.b_is_share (T : Txt K mg A D) : Binds K (D 19) ["value", "is_open"] [] := T.F_is_share.binds fun _ _ _ _ _ _ us hl => match us, hl with | [_, _], _ => rfl
theorem Txt.k_sides_slip (T : Txt K mg A D) : PySem.W.keepIn K (.ref (A 20)) = true := T.F_sides_slip.kp
theorem Txt.b_sides_slip (T : Txt K mg A D) : Binds K (D 20) ["sides"] [] := T.F_sides_slip.binds fun _ _ _ _ _ _ us hl => match us, hl with | [_], _ => rfl
theorem Txt.k_die_slip (T : Txt K mg A D) : PySem.W.keepIn K (.ref (A 21)) = true := T.F_die_slip.kp
theorem Txt.b_die_slip (T : Txt K mg A D) : Binds K (D 21) ["value"] [] := T.F_die_slip.binds fun _ _ _ _ _ _ us hl => match us, hl with | [_], _ => rfl
theorem Txt.k_bent_side (T : Txt K mg A D) : PySem.W.keepIn K (.ref (A 22)) = true := T.F_bent_side.kp
theorem Txt.b_bent_side (T : Txt K mg A D) : Binds K (D 22) ["loom", "side"] [] := T.F_bent_side.binds fun _ _ _ _ _ _ us hl => match us, hl with | [_, _], _ => rfl
theorem Txt.k_bent (T : Txt K mg A D) : PySem.W.keepIn K (.ref (A 23)) = true := T.F_bent.kp
theorem Txt.b_bent (T : Txt K mg A D) : Binds K (D 23) ["loom", "die"] [] := T.F_bent.binds fun _ _ _ _ _ _ us hl => match us, hl with | [_, _], _ => rfl
theorem Txt.k_law (T : Txt K mg A D) : PySem.W.keepIn K (.ref (A 24)) = true := T.F_law.kp
theorem Txt.b_law (T : Txt K mg A D) : Binds K (D 24) ["script"] [] := T.F_law.binds fun _ _ _ _ _ _ us hl => match us, hl with | [_], _ => rfl

end
section
variable {X : Cx} {x : Str} {v : V} {pos : Pos}
theorem pe_const (hg : Gl X x) (h : ∃ u, X.mg x = some u ∧ RelV v u) (hd : (x == ("__debug__" : Str)) = false := by decide) : PE X (.Name x pos) (tC v) := by
  obtain ⟨u, e, r⟩ := h
  exact pe_glob hg e r hd
/-- f(e, ..) in a def that may raise: what f raises leaves it, too -/
theorem pe_callX {k : Nat} {f : Addr} {fd : FuncData} {ps : List Str} {sp : Sp} {p : Pos} {e : Expr} {es : List Expr} {t : TA} {W : WX}
    (tk : Takes X W) (F : FnOk X.prog X.w X.K X.mg X.base (L2.CX X.prog X.w) k f fd ps sp) (hr : Room k X.A) (hg : Gl X x) (hm : X.mg x = some (.ref f))
    (hk : PySem.W.keepIn X.K (.ref f) = true) (hb : Binds X.K fd ps []) (ha : PA X (e :: es) t)
    (hdb : (x == ("__debug__" : Str)) = false := by decide) (he : starEach (e :: es) X.env = (false, eval e X.env) :: starEach es X.env := by rfl)
    (hpl : (backTo pos (starEach es X.env)).any (·.1) = false := by rfl) : PE X (.Call (.Name x p) (e :: es) [] pos) (tCallS sp (WE W) t) :=
  pe_callS F hr hg hm hk hb (fun σ => passAt tk σ) ha hdb he hpl
end
end Ev

set_option exponentiation.threshold 3000
namespace Ev
open PySem PySem.Spec PyProof.Rows L2
section
variable {P : Program} {w : World} {K : PySem.W.Frag} {mg : Str → Option Value} {base : Heap} {A : Nat → Addr} {D : Nat → FuncData}
/-! ### draw -/
def sp_draw : Sp := fun vs H Q _ => ∃ (L F : Addr) (many : Int), vs = [.ref L, .int many] ∧ Lm H L F ∧ many < 1073741824 ∧
  ∀ (H' : Hp) (k : Int), Kp L F H H' → Lm H' L F → 0 ≤ k → (k < many ∨ k = 0) → Q (.int k) H'
theorem Txt.ok_draw (T : Txt K mg A D) : FnOk P w K mg base CX0 1 (A 9) (D 9) ["loom", "many"] sp_draw := by
  refine T.F_draw.ok sc_draw (fun vs H Q E h => ?_) (fun cdv Ar outer s H vs Q E hr h => ?_)
  · obtain ⟨L, F, many, rfl, _⟩ := h
    rfl
  · obtain ⟨L, F, many, rfl, ⟨fs, s0, t0, hL, hF, hlen⟩, hmany, q⟩ := h
    have hu := hu_of hr
    refine ⟨_, (pss_cons (ps_if (pt_cmpR op_lt (pv 1) pe_int (nomark _)) (pss_one (ps_ret pe_int)) pss_nil)
    (pss_cons (ps_if (pt_cmpR (op_neD hr.units) (pe_dget hu (pv 0) pe_str (fun _ _ => rfl)) (pe_lst pa_nil) (nomark _)) (pss_cons (ps_set (i := 2) sc_draw.nd rfl (Or.inl rfl) (pe_bm0 PySem.F.plainAttrs_list PySem.F.slot_list_pop PySem.F.type_list_pop mt_pop (pe_dget hu (pv 0) pe_str (fun _ _ => rfl))))
    (pss_cons (ps_if (pt_cmpR op_ge (pv 2) (pv 1) (nomark _)) (pss_one (ps_expr (pe_bm PySem.F.plainAttrs_list PySem.F.slot_list_append PySem.F.type_list_append mt_append (pe_dget hu (pv 0) pe_str (fun _ _ => rfl)) (pa_cons (pe_op op_fdivN (pv 2) (pv 1)) pa_nil)))) pss_nil)
    (pss_one (ps_ret (pe_op op_mod (pe_callTy call_int1 (by rfl) T.z_int (by decide +kernel) (pa_cons (pv 2) pa_nil)) (pv 1)))))) pss_nil)
    (pss_cons (ps_dput hu (pv 0) pe_str (pe_op op_add (pe_dget hu (pv 0) pe_str (fun _ _ => rfl)) pe_int) rfl)
    (pss_cons (ps_set (i := 3) sc_draw.nd rfl (Or.inl rfl) (pe_op op_mod (pe_callTy call_int1 (by rfl) T.z_int (by decide +kernel) (pa_cons (pe_op op_add (pe_dget hu (pv 0) pe_str (fun _ _ => rfl)) (pe_op op_mul pe_int (pe_dget hu (pv 0) pe_str (fun _ _ => rfl)))) pa_nil)) pe_int))
    (pss_cons (ps_set (i := 3) sc_draw.nd rfl (Or.inl rfl) (pe_op op_mod (pe_callTy call_int1 (by rfl) T.z_int (by decide +kernel) (pa_cons (pe_op op_add (pe_op op_add (pe_op op_mul (pv 3) (pv 3)) (pe_op op_mul pe_int (pe_dget hu (pv 0) pe_str (fun _ _ => rfl)))) pe_int) pa_nil)) pe_int))
    (pss_cons (ps_set (i := 3) sc_draw.nd rfl (Or.inl rfl) (pe_op op_mod (pe_callTy call_int1 (by rfl) T.z_int (by decide +kernel) (pa_cons (pe_op op_add (pe_op op_mul (pv 3) (pv 3)) (pe_dget hu (pv 0) pe_str (fun _ _ => rfl))) pa_nil)) pe_int))
    (pss_one (ps_ret (pe_op op_mod (pe_callTy call_int1 (by rfl) T.z_int (by decide +kernel) (pa_cons (pe_op op_fdivN (pv 3) pe_int) pa_nil)) (pv 1)))))))))), ?_⟩
    -- if many < 2
    refine ⟨_, rfl, _, _, rfl, rfl, _, rfl, ite2 (fun e => ?_) (fun e => ?_)⟩
    · exact q H 0 (Kp.refl H) ⟨fs, s0, t0, hL, hF, hlen⟩ (Int.le_refl 0) (.inr rfl)
    · have h2 : 2 ≤ many := Int.not_lt.mp fun z => e (decide_eq_true z)
      refine ⟨_, rfl, L, _, rfl, DGet.k (k := Sum.inr "far") hL, ⟨Nat.zero_le _, fun p hp => ?_⟩⟩
      have hFp : (upd H p (.lst [])) F = some (.lst (fs.map V.int)) := by
        rw [upd_ne (ne_of_none hF hp)]
        exact hF
      refine ⟨_, _, .lst (.inl (.inl hFp)) (dpAll_ints fs), .lst (xs := []) (.inl (.inl upd_same)) .nil, shaped_ints fs, by decide, _, rfl, ite2 (fun e1 => ?_) (fun e1 => ?_)⟩
      · rw [eqv_ints_nil] at e1
        rcases snoc_cases fs with rfl | ⟨gs, c, rfl⟩
        · exact absurd e1 (by decide)
        · have hL1 : (upd H p (.lst [])) L = some (.dK (ld F s0 t0)) := by
            rw [upd_ne (ne_of_none hL hp)]
            exact hL
          have nLF : L ≠ F := ne_of hL hF (by intro z; cases z)
          have last : ((gs ++ [c]).map V.int)[((gs ++ [c]).map V.int).length - 1]? = some (.int c) := by simp
          have drop : ((gs ++ [c]).map V.int).dropLast = gs.map V.int := by simp
          have hg : gs.length ≤ 62 := by
            rw [List.length_append, List.length_singleton] at hlen
            omega
          have km : 0 ≤ c % many ∧ c % many < many := ⟨Int.emod_nonneg _ (by omega), Int.emod_lt_of_pos _ (by omega)⟩
          refine ⟨_, rfl, L, _, rfl, DGet.k (k := Sum.inr "far") hL1, .inl ⟨rfl, _, SqL.of hFp⟩, F, _, _, rfl, rfl, hFp, last, ?_⟩
          rw [drop]
          -- if cell >= many
          refine ⟨_, rfl, _, rfl, _, _, rfl, rfl, _, rfl, ite2 (fun e2 => ?_) (fun e2 => ?_)⟩
          · have hL2 : (upd (upd H p (.lst [])) F (.lst (gs.map V.int))) L = some (.dK (ld F s0 t0)) := by
              rw [upd_ne nLF]
              exact hL1
            refine ⟨_, rfl, L, _, rfl, DGet.k (k := Sum.inr "far") hL2, .inl ⟨rfl, _, SqL.of upd_same⟩, _, rfl, _, rfl, _, _, rfl, rfl, ⟨by omega, by omega⟩, F, _, _, rfl, rfl, upd_same, small1000 (by rw [List.length_map]; omega), ?_⟩
            refine ⟨_, rfl, .inl ⟨_, rfl, _, rfl, _, _, rfl, rfl, by show 0 < many; omega, ?_⟩⟩
            refine q _ _ ?_ ?_ km.1 (.inl km.2)
            · exact ((Kp.new hp).trans Kp.updF).trans Kp.updF
            · exact ⟨gs ++ [c.fdiv many], s0, t0, by rw [upd_ne nLF]; exact hL2, by rw [upd_same, List.map_append]; rfl, by rw [List.length_append, List.length_singleton]; omega⟩
          · refine ⟨_, rfl, .inl ⟨_, rfl, _, rfl, _, _, rfl, rfl, by show 0 < many; omega, ?_⟩⟩
            refine q _ _ ?_ ?_ km.1 (.inl km.2)
            · exact (Kp.new hp).trans Kp.updF
            · exact ⟨gs, s0, t0, by rw [upd_ne nLF]; exact hL1, upd_same, by omega⟩
      · have hL1 : (upd H p (.lst [])) L = some (.dK (ld F s0 t0)) := by
          rw [upd_ne (ne_of_none hL hp)]
          exact hL
        have nLF : L ≠ F := ne_of hL hF (by intro z; cases z)
        refine ⟨_, rfl, L, _, rfl, DGet.k (k := Sum.inr "times") hL1, _, _, rfl, rfl, _, rfl, L, _, rfl, DPut.k (k := Sum.inr "times") hL1 ld_len, ?_⟩
        rw [ld_put]
        have hL2 : (upd (upd H p (.lst [])) L (.dK (ld F s0 (t0 + 1)))) L = some (.dK (ld F s0 (t0 + 1))) := upd_same
        refine ⟨_, rfl, L, _, rfl, DGet.k (k := Sum.inr "stirred") hL2, _, rfl, L, _, rfl, DGet.k (k := Sum.inr "times") hL2, _, _, rfl, rfl, .inl (by decide), _, _, rfl, rfl, .inl ⟨_, rfl, _, _, rfl, rfl, by show (0 : Int) < 4294967279; decide, ?_⟩⟩
        have b1 : 0 ≤ (s0 + 2654435761 * (t0 + 1)) % 4294967279 ∧ (s0 + 2654435761 * (t0 + 1)) % 4294967279 < 4294967279 := ⟨Int.emod_nonneg _ (by decide), Int.emod_lt_of_pos _ (by decide)⟩
        revert b1
        generalize (s0 + 2654435761 * (t0 + 1)) % 4294967279 = u1
        intro b1
        refine ⟨_, rfl, _, rfl, _, _, rfl, rfl, .inl ⟨by omega, by omega⟩, _, rfl, L, _, rfl, DGet.k (k := Sum.inr "times") hL2, _, _, rfl, rfl, .inl (by decide), _, _, rfl, rfl, _, _, rfl, rfl, .inl ⟨_, rfl, _, _, rfl, rfl, by show (0 : Int) < 4294967231; decide, ?_⟩⟩
        have b2 : 0 ≤ (u1 * u1 + 40503 * (t0 + 1) + 17) % 4294967231 ∧ (u1 * u1 + 40503 * (t0 + 1) + 17) % 4294967231 < 4294967231 := ⟨Int.emod_nonneg _ (by decide), Int.emod_lt_of_pos _ (by decide)⟩
        revert b2
        generalize (u1 * u1 + 40503 * (t0 + 1) + 17) % 4294967231 = u2
        intro b2
        refine ⟨_, rfl, _, rfl, _, _, rfl, rfl, .inl ⟨by omega, by omega⟩, _, rfl, L, _, rfl, DGet.k (k := Sum.inr "stirred") hL2, _, _, rfl, rfl, .inl ⟨_, rfl, _, _, rfl, rfl, by show (0 : Int) < 4294967197; decide, ?_⟩⟩
        generalize (u2 * u2 + s0) % 4294967197 = u3
        refine ⟨_, rfl, _, _, rfl, rfl, ⟨by decide, by decide⟩, .inl ⟨_, rfl, _, rfl, _, _, rfl, rfl, by show 0 < many; omega, ?_⟩⟩
        refine q _ _ ((Kp.new hp).trans Kp.updL) ?_ (Int.emod_nonneg _ (by omega)) (.inl (Int.emod_lt_of_pos _ (by omega)))
        exact ⟨fs, s0, t0 + 1, hL2, by rw [upd_ne nLF.symm]; exact hFp, hlen⟩
/-! ### pick -/
def sp_pick (K : PySem.W.Frag) : Sp := fun vs H Q _ => ∃ (L F a : Addr) (xs : List V), vs = [.ref L, .ref a] ∧ Lm H L F ∧ SqL K H a xs ∧ a ≠ L ∧ a ≠ F ∧ 0 < xs.length ∧ xs.length < 1073741824 ∧
  ∀ (H' : Hp) (i : Nat) (x : V), Kp L F H H' → Lm H' L F → xs[i]? = some x → Q x H'
theorem Txt.ok_pick (T : Txt K mg A D) : FnOk P w K mg base CX0 2 (A 10) (D 10) ["loom", "things"] (sp_pick K) := by
  refine T.F_pick.ok sc_pick (fun vs H Q E h => ?_) (fun cdv Ar outer s H vs Q E hr h => ?_)
  · obtain ⟨L, F, a, xs, rfl, _⟩ := h
    rfl
  · obtain ⟨L, F, a, xs, rfl, hM, hS, n1, n2, hpos, hlen, q⟩ := h
    have hu := hu_of hr
    refine ⟨_, (pss_one (ps_ret (pe_ix ix_list (pv 1) (pe_call (T.ok_draw) hr (by rfl) T.g_draw T.k_draw T.b_draw .nil pass0 (pa_cons (pv 0) (pa_cons (pe_callB call_len_seq (by rfl) T.z_len (by decide +kernel) (pa_cons (pv 1) pa_nil)) pa_nil))) (fun _ _ => rfl)))), ?_⟩
    refine ⟨_, rfl, _, rfl, _, rfl, a, xs, rfl, .inl hS, L, F, _, rfl, hM, by omega, fun H' k kp hM' k0 kl => ?_⟩
    have kn : k.toNat < xs.length := by omega
    exact ⟨a, xs, k, xs[k.toNat], rfl, rfl, kp.seq n1 n2 hS, at_of (j := k.toNat) (by omega) (List.getElem?_eq_getElem kn), q H' k.toNat _ kp hM' (List.getElem?_eq_getElem kn)⟩
/-! ### the loom's making -/
def sp_loom (K : PySem.W.Frag) : Sp := fun vs H Q _ => ∃ (a : Addr) (ns : List Int), vs = [.ref a] ∧ SqL K H a (ns.map V.int) ∧ ns.length ≤ 63 ∧
  ∀ (H' : Hp) (L F : Addr), Same H H' → Lm H' L F → H L = none → H F = none → Q (.ref L) H'
theorem Txt.ok_loom (T : Txt K mg A D) : FnOk P w K mg base CX0 1 (A 8) (D 8) ["script"] (sp_loom K) := by
  refine T.F_loom.ok sc_loom (fun vs H Q E h => ?_) (fun cdv Ar outer s H vs Q E hr h => ?_)
  · obtain ⟨a, ns, rfl, _⟩ := h
    rfl
  · obtain ⟨a, ns, rfl, hS, hlen, q⟩ := h
    have hu := hu_of hr
    refine ⟨_, (pss_cons (ps_par (i := 2) (j := 3) rfl sc_loom.nd rfl rfl (by decide) rfl rfl (pa_cons (pe_lc (own := [("cell", 1)]) (g := gName 1) (tt := tYes) rfl sc_loom.nd (pi_list (pe_slice sl_list (pv 0) po_none (po_some pe_int))) (blkOk_by (N := ["script", "cell", "cells", "stirred"]) (sc := defScope s_loom) (by decide +kernel)) (fun _ _ _ _ _ => pg_name (i := 1) sc_loom.nd rfl (Or.inl rfl)) (fun _ _ _ _ _ => pts_nil) (fun _ _ _ _ _ => (pe_op op_add (pe_op op_mul pe_int (pe_callB call_abs (by rfl) T.z_abs (by decide +kernel) (pa_cons (pv 1) pa_nil))) (pe_callTy call_int1 (by rfl) T.z_int (by decide +kernel) (pa_cons (pe_cmpR op_lt (pv 1) pe_int (nomark _)) pa_nil))))) (pa_cons (pe_op op_add pe_int (pe_op op_mul pe_int (pe_callB call_len_seq (by rfl) T.z_len (by decide +kernel) (pa_cons (pv 0) pa_nil)))) pa_nil)) (by rfl))
    (pss_cons (ps_for PassesOwn.never rfl (pi_list (pv 2)) (pg_name (i := 1) sc_loom.nd rfl (Or.inl rfl)) (pss_one (ps_set (i := 3) sc_loom.nd rfl (Or.inl rfl) (pe_op op_mod (pe_callTy call_int1 (by rfl) T.z_int (by decide +kernel) (pa_cons (pe_op op_add (pe_op op_add (pe_op op_mul (pv 3) pe_int) (pv 1)) pe_int) pa_nil)) pe_int))))
    (pss_one (ps_ret (pe_disp (pps_cons pe_str (pe_lc (own := [("cell", 1)]) (g := gName 1) (tt := _) rfl sc_loom.nd (pi_list (pv 2)) (blkOk_by (N := ["script", "cell", "cells", "stirred"]) (sc := defScope s_loom) (by decide +kernel)) (fun _ _ _ _ _ => pg_name (i := 1) sc_loom.nd rfl (Or.inl rfl)) (fun _ _ _ _ _ => (pts_one (pt_cmpR op_ge (pv 1) (pe_op op_pow pe_int pe_int) (nomark _)))) (fun _ _ _ _ _ => (pv 1))) (pps_cons pe_str (pv 3) (pps_cons pe_str pe_int pps_nil))) (by rfl) (by rfl) (fun z => by cases z) (by decide)))))), ?_⟩
    refine ⟨_, rfl, _, rfl, a, _, rfl, hS, fun p hp => ?_⟩
    obtain ⟨ms, em, hm⟩ := cut_ints ns none (some 63)
    rw [em]
    have sp : Same H (upd H p (.lst (ms.map V.int))) := same_new hp
    refine ⟨p, rfl, ⟨_, SqL.of upd_same⟩, fun D1 hD1 => ?_⟩
    have hDp : H D1 = none := sp.free hD1
    refine lc_list (K := K) (a := p) (xs := ms.map V.int) (fun i H' => Same (upd H p (.lst (ms.map V.int))) H' ∧ ∃ acc : List Int, H' D1 = some (.lst (acc.map V.int)) ∧ acc.length = i)
      ⟨same_new hD1, [], upd_same, rfl⟩ (fun i H' _ z => z.1.seq (SqL.of upd_same)) ?_ ?_
    · intro i x H' hx hP
      obtain ⟨m, hm1, rfl⟩ := int_at hx
      obtain ⟨s1, acc, hA, la⟩ := hP
      have hi : i < ms.length := (List.getElem?_eq_some_iff.mp hm1).1
      refine ⟨rfl, yes_of ?_⟩
      refine ⟨_, rfl, _, rfl, _, _, rfl, rfl, .inl ⟨by decide, by decide⟩, _, rfl, _, _, rfl, rfl, .inr ⟨_, rfl, _, _, rfl, rfl, _, hA, small1000 (by rw [List.length_map]; omega), same_put s1 hD1, acc ++ [2 * (if m < 0 then -m else m) + (if decide (m < 0) = true then 1 else 0)], ?_, ?_⟩⟩
      · rw [upd_same, List.map_append]
        rfl
      · rw [List.length_append, List.length_singleton, la]
    · intro H1 hP
      obtain ⟨s1, acc, hA, la⟩ := hP
      have sH : Same H H1 := sp.trans s1
      have sS := sH.seq hS
      refine ⟨_, rfl, a, _, rfl, .inl sS, _, _, rfl, rfl, .inl ⟨by decide, by decide⟩, _, _, rfl, rfl, _, _, rfl, ?_⟩
      -- the loop
      refine ⟨.ref D1, rfl, D1, rfl, ⟨_, SqL.of hA⟩, for_list (K := K) (a := D1) (xs := acc.map V.int) (fun i σ H' => H' = H1 ∧ ∃ (y : Option V) (z : Int), σ = [some (.ref a), y, some (.ref D1), some (.int z)])
        ⟨rfl, none, _, rfl⟩ (fun i σ H' _ z => by rw [z.1]; exact SqL.of hA) ?_ ?_⟩
      · rintro i x σ H' hx ⟨rfl, y, z, rfl⟩
        obtain ⟨m, hm1, rfl⟩ := int_at hx
        exact ⟨_, rfl, _, _, rfl, rfl, .inr ⟨by decide, by decide⟩, _, rfl, _, _, rfl, rfl, _, _, rfl, rfl, .inl ⟨_, rfl, _, _, rfl, rfl, by show (0 : Int) < 4294967291; decide, rfl, _, _, rfl⟩⟩
      · rintro σ H' ⟨rfl, y, z, rfl⟩
        -- the dict
        intro L hL
        have sL : Same H' (upd H' L (.dK [])) := same_new hL
        have hLH : H L = none := sH.free hL
        refine ⟨_, rfl, D1, rfl, ⟨_, (sL.seq (SqL.of hA))⟩, fun F hF => ?_⟩
        have hF' : H' F = none := sL.free hF
        refine lc_list (K := K) (a := D1) (xs := acc.map V.int) (fun i H2 => Same (upd H' L (.dK [])) H2 ∧ ∃ gs : List Int, H2 F = some (.lst (gs.map V.int)) ∧ gs.length ≤ i)
          ⟨same_new hF, [], upd_same, Nat.le_refl _⟩ (fun i H2 _ z => z.1.seq (sL.seq (SqL.of hA))) ?_ ?_
        · intro i x H2 hx hP
          obtain ⟨m, hm1, rfl⟩ := int_at hx
          obtain ⟨s2, gs, hG, lg⟩ := hP
          have hi : i < acc.length := (List.getElem?_eq_some_iff.mp hm1).1
          rw [List.length_map] at la
          refine ⟨rfl, _, rfl, _, _, rfl, rfl, ⟨by decide, by decide, by decide⟩, _, _, rfl, rfl, _, rfl, ite2 (fun e => ?_) (fun e => ?_)⟩
          · exact ⟨_, rfl, _, hG, small1000 (by rw [List.length_map]; omega), same_put s2 hF, gs ++ [m], by rw [upd_same, List.map_append]; rfl, by rw [List.length_append, List.length_singleton]; omega⟩
          · exact ⟨s2, gs, hG, by omega⟩
        · intro H2 hP
          obtain ⟨s2, gs, hG, lg⟩ := hP
          rw [List.length_map] at la lg
          have hL2 : H2 L = some (.dK []) := s2 _ _ upd_same
          refine ⟨_, rfl, hL2, ld F z 0, rfl, (by show 3 ≤ 15; decide), ?_⟩
          have nFL : F ≠ L := fun e => by
            rw [e, hL2] at hG
            cases hG
          refine q _ L F ?_ ⟨gs, z, 0, upd_same, by rw [upd_ne nFL]; exact hG, by omega⟩ hLH (sH.free hF')
          intro b o e
          have e1 := sH _ _ e
          rw [upd_ne (ne_of_none e1 hL)]
          exact s2 _ _ (sL _ _ e1)
end
end Ev

set_option exponentiation.threshold 20000
/-! math.lcm and math.comb, by the hand layer; sizes of powers -/
namespace Ev
open PySem PySem.Spec PyProof.Rows L2
def rLcm : List V → Hp → VK → Prop := fun vs H Q => ∃ a b : Int, vs = [.int a, .int b] ∧ a.natAbs < 2 ^ 13000 ∧ b.natAbs < 2 ^ 13000 ∧ Q (.int ((Nat.lcm a.natAbs b.natAbs : Nat) : Int)) H
theorem lcm_small {m n : Nat} (hm : m < 2 ^ 13000) (hn : n < 2 ^ 13000) : (Nat.lcm m n).log2 < 26001 := by
  refine PySem.Flt.log2_lt_of (n := Nat.lcm m n) (by decide) ?_
  have h1 := PySem.W.mc_lcm_le m n
  have h2 : m * n < 2 ^ 13000 * 2 ^ 13000 := Nat.mul_lt_mul'' hm hn
  rw [← Nat.pow_add] at h2
  exact Nat.lt_of_le_of_lt h1 (Nat.lt_trans h2 (Nat.pow_lt_pow_right (by decide) (by decide)))
theorem cr_lcm {X : Cx} : CallR X (.builtin "math.lcm") rLcm := by
  intro pins s σ H vs us Q I r h
  obtain ⟨a, b, rfl, ha, hb, q⟩ := h
  obtain ⟨t, u, rfl⟩ := Vals.int2 r
  have l1 : (max 1 a.natAbs).log2 < 13000 := PySem.Flt.log2_lt_of (by decide) (Nat.max_lt.mpr ⟨Nat.one_lt_pow (by decide) (by decide), ha⟩)
  have l2 : (max a.natAbs b.natAbs).log2 < 13000 := PySem.Flt.log2_lt_of (by decide) (Nat.max_lt.mpr ⟨ha, hb⟩)
  have l3 := lcm_small ha hb
  have e := PySem.W.mc_lcm_one a.natAbs
  have big : 26001 ≤ bitsLine := by decide
  refine call_function_meets PySem.W.MGF.kind_lcm PySem.W.MGF.plain_lcm PySem.W.MGF.entry_lcm (PySem.W.MGF.args_lcm _ _) (PySem.W.mg_run_lcm a t b u (by omega) (by omega) ?_).meets ?_
  · rw [e]
    show (Nat.lcm a.natAbs b.natAbs).log2 < bitsLine
    omega
  · rw [e]
    exact ⟨.int _, H, I.tok _, ⟨_, rfl⟩, q⟩
def rComb : List V → Hp → VK → Prop := fun vs H Q => ∃ a b : Int, vs = [.int a, .int b] ∧ 0 ≤ a ∧ 0 ≤ b ∧ a < 2 ^ 64 ∧ b ≤ 9000 ∧ Q (.int (PySem.W.mcComb a b)) H
theorem cr_comb {X : Cx} : CallR X (.builtin "math.comb") rComb := by
  intro pins s σ H vs us Q I r h
  obtain ⟨a, b, rfl, ha, hb, h1, h2, q⟩ := h
  obtain ⟨t, u, rfl⟩ := Vals.int2 r
  exact PySem.W.mc_comb ha hb h1 (.inl h2) fun _ => ⟨.int _, H, I.tok _, ⟨_, rfl⟩, q⟩
theorem pow_lt {b : Int} {s : Nat} (h : b.natAbs < 2 ^ s) (n : Nat) : (b ^ n).natAbs < 2 ^ (s * n + 1) := by
  rw [Int.natAbs_pow]
  have h1 : b.natAbs ^ n ≤ (2 ^ s) ^ n := Nat.pow_le_pow_left (Nat.le_of_lt h) n
  rw [← Nat.pow_mul] at h1
  exact Nat.lt_of_le_of_lt h1 (Nat.pow_lt_pow_right (by decide) (Nat.lt_succ_self _))
theorem and_one (e : Nat) : Builtin.bitAnd (e : Int) 1 = ((e % 2 : Nat) : Int) := by
  have z : Builtin.bitAnd (e : Int) (2 ^ 1 - 1) = (e : Int) % 2 ^ 1 := Bits.bitAnd_mask 1 (by omega)
  rw [show ((2 : Int) ^ 1 - 1) = 1 by decide, show ((2 : Int) ^ 1) = 2 by decide] at z
  omega
/-! ### rows of pairs -/
abbrev prD (x y : Int) : PyData := .tuple [.int x, .int y]
section
variable {K : PySem.W.Frag} {Z : Addr → Prop} {H : Hp}
theorem dx_prD {v : V} {x y : Int} (h : Dx K Z H v (prD x y)) : ∃ a, v = .ref a ∧ SqT K H a [.int x, .int y] := by
  obtain ⟨a, xs, rfl, hs, hd⟩ := dx_tup h
  cases hd with
  | cons h1 r1 =>
    cases r1 with
    | cons h2 r2 =>
      cases r2
      rw [dx_int h1, dx_int h2] at hs
      exact ⟨a, rfl, hs⟩
theorem dx_word {v : V} {x : Str} {d : PyData} (h : Dx K Z H v (.tuple [.str x, d])) : ∃ a u, v = .ref a ∧ SqT K H a [.str x, u] ∧ Dx K Z H u d := by
  obtain ⟨a, xs, rfl, hs, hd⟩ := dx_tup h
  cases hd with
  | cons h1 r1 =>
    cases r1 with
    | cons h2 r2 =>
      cases r2
      rw [dx_str h1] at hs
      exact ⟨a, _, rfl, hs, h2⟩
theorem prD_dx {a : Addr} {x y : Int} (h : SqT K H a [.int x, .int y]) : Dx K Z H (.ref a) (prD x y) := .tup h (.cons (.int _) (.cons (.int _) .nil))
theorem prs_at {vs : List V} {l : List (Int × Int)} {i : Nat} {v : V} (h : DxAll K Z H vs (l.map fun q => prD q.1 q.2)) (e : vs[i]? = some v) :
    ∃ x y a, l[i]? = some (x, y) ∧ v = .ref a ∧ SqT K H a [.int x, .int y] := by
  obtain ⟨d, h1, h2⟩ := dxAll_get h e
  rw [List.getElem?_map] at h1
  cases q : l[i]? with
  | none => rw [q] at h1; cases h1
  | some p =>
    rw [q] at h1
    cases h1
    obtain ⟨a, ea, hs⟩ := dx_prD h2
    exact ⟨p.1, p.2, a, rfl, ea, hs⟩
theorem prs_to {vs : List V} {l : List (Int × Int)} {i : Nat} {p : Int × Int} (h : DxAll K Z H vs (l.map fun q => prD q.1 q.2)) (e : l[i]? = some p) :
    ∃ a, vs[i]? = some (.ref a) ∧ SqT K H a [.int p.1, .int p.2] := by
  obtain ⟨v, h1, h2⟩ := dxAll_at h (i := i) (d := prD p.1 p.2) (by rw [List.getElem?_map, e]; rfl)
  obtain ⟨a, rfl, hs⟩ := dx_prD h2
  exact ⟨a, h1, hs⟩
theorem ix0 {x : V} {xs : List V} : atI (x :: xs) 0 = some x := atI_nat (j := 0) rfl
theorem ix1 {x y : V} {xs : List V} : atI (x :: y :: xs) 1 = some y := atI_nat (j := 1) rfl
theorem dxAll_new {p : Addr} {o : HO} {vs : List V} {ds : List PyData} (hp : H p = none) (h : DxAll K Z H vs ds) : DxAll K Z (upd H p o) vs ds := dxAll_same (same_new hp) h
end
/-! ### the whole of which weights are parts -/
def wholeN (l : List (Int × Int × Int)) : Nat := l.foldl (fun w q => Nat.lcm w q.2.2.natAbs) 1
def sdD (q : Int × Int × Int) : PyData := .tuple [.int q.1, .tuple [.int q.2.1, .int q.2.2]]
def wts (l : List (Int × Int × Int)) : List (Int × Int) := l.map fun q => (q.1, q.2.1 * ((wholeN l : Int) / q.2.2))
theorem fold_lcm_dvd : ∀ (l : List (Int × Int × Int)) (w : Nat), w ∣ l.foldl (fun w q => Nat.lcm w q.2.2.natAbs) w
  | [], w => Nat.dvd_refl _
  | q :: l, w => Nat.dvd_trans (Nat.dvd_lcm_left _ _) (fold_lcm_dvd l _)
theorem fold_lcm_pos : ∀ (l : List (Int × Int × Int)) (w : Nat), 0 < w → (∀ q ∈ l, 1 ≤ q.2.2) → 0 < l.foldl (fun w q => Nat.lcm w q.2.2.natAbs) w
  | [], w, h, _ => h
  | q :: l, w, h, hl => fold_lcm_pos l _ (Nat.lcm_pos h (by have := hl q (List.mem_cons_self ..); omega)) fun x hx => hl x (List.mem_cons_of_mem _ hx)
theorem fold_lcm_mem : ∀ (l : List (Int × Int × Int)) (w : Nat), ∀ q ∈ l, q.2.2.natAbs ∣ l.foldl (fun w q => Nat.lcm w q.2.2.natAbs) w
  | [], w, q, h => nomatch h
  | p :: l, w, q, h => by
    rcases List.mem_cons.mp h with rfl | h
    · exact Nat.dvd_trans (Nat.dvd_lcm_right _ _) (fold_lcm_dvd l _)
    · exact fold_lcm_mem l _ q h
theorem whole_take {l : List (Int × Int × Int)} {i : Nat} {q : Int × Int × Int} (h : l[i]? = some q) : wholeN (l.take (i + 1)) = Nat.lcm (wholeN (l.take i)) q.2.2.natAbs := by
  unfold wholeN
  rw [List.take_add_one, h, List.foldl_append]
  rfl
theorem whole_part (l : List (Int × Int × Int)) (i : Nat) : wholeN (l.take i) ∣ wholeN l := by
  have e : wholeN l = (l.drop i).foldl (fun w q => Nat.lcm w q.2.2.natAbs) (wholeN (l.take i)) := by
    unfold wholeN
    rw [← List.foldl_append, List.take_append_drop]
  rw [e]
  exact fold_lcm_dvd _ _
theorem whole_pos {l : List (Int × Int × Int)} (h : ∀ q ∈ l, 1 ≤ q.2.2) : 0 < wholeN l := fold_lcm_pos l 1 (by decide) h
theorem whole_mem {l : List (Int × Int × Int)} {q : Int × Int × Int} (h : q ∈ l) : q.2.2.natAbs ∣ wholeN l := fold_lcm_mem l 1 q h
/-! ### lists and dicts that are new since a heap -/
/-- beside the loom's two, and new -/
def ZN (L F : Addr) (H : Hp) : Addr → Prop := fun a => a ≠ L ∧ a ≠ F ∧ H a = none
theorem none_back {L F p : Addr} {H G : Hp} (k : Kp L F H G) (h : G p = none) (l : p ≠ L) (f : p ≠ F) : H p = none := by
  cases e : H p with
  | none => rfl
  | some u =>
    rw [k p u l f e] at h
    cases h
theorem dx_kpn {K : PySem.W.Frag} {L F : Addr} {B H H' : Hp} (k : Kp L F H H') (hM : Lm H L F) {v : V} {d : PyData} (h : Dx K (ZN L F B) H v d) : Dx K (ZN L F B) H' v d :=
  dx_keep (fun _ _ e => k.sqT hM e) (fun _ _ z e => k _ _ z.1 z.2.1 e) h
theorem dxAll_kpn {K : PySem.W.Frag} {L F : Addr} {B H H' : Hp} (k : Kp L F H H') (hM : Lm H L F) {v : List V} {d : List PyData} (h : DxAll K (ZN L F B) H v d) : DxAll K (ZN L F B) H' v d :=
  dxAll_keep (fun _ _ e => k.sqT hM e) (fun _ _ z e => k _ _ z.1 z.2.1 e) h
mutual
theorem dx_monoL {K : PySem.W.Frag} {Z Z' : Addr → Prop} {H : Hp} (hz : ∀ a, Z a → Z' a) : ∀ {v : V} {d : PyData}, Dx K Z H v d → Dx K Z' H v d
  | _, _, .non => .non
  | _, _, .bl b => .bl b
  | _, _, .int i => .int i
  | _, _, .str x => .str x
  | _, _, .lst e z h => .lst e (hz _ z) (dxAll_monoL hz h)
  | _, _, .tup e h => .tup e (dxAll_monoL hz h)
  | _, _, .dct e z h => .dct e (hz _ z) (dxKv_monoL hz h)
theorem dxAll_monoL {K : PySem.W.Frag} {Z Z' : Addr → Prop} {H : Hp} (hz : ∀ a, Z a → Z' a) : ∀ {vs : List V} {ds : List PyData}, DxAll K Z H vs ds → DxAll K Z' H vs ds
  | _, _, .nil => .nil
  | _, _, .cons h r => .cons (dx_monoL hz h) (dxAll_monoL hz r)
theorem dxKv_monoL {K : PySem.W.Frag} {Z Z' : Addr → Prop} {H : Hp} (hz : ∀ a, Z a → Z' a) : ∀ {vs : List (Key × V)} {ds : List (PyData × PyData)}, DxKv K Z H vs ds → DxKv K Z' H vs ds
  | _, _, .nil => .nil
  | _, _, .cons h r => .cons (dx_monoL hz h) (dxKv_monoL hz r)
end
/-- new since a later heap is new since an earlier one -/
theorem dx_back {K : PySem.W.Frag} {L F : Addr} {B B' H : Hp} (k : Kp L F B B') {v : V} {d : PyData} (h : Dx K (ZN L F B') H v d) : Dx K (ZN L F B) H v d :=
  dx_monoL (fun _ z => ⟨z.1, z.2.1, none_back k z.2.2 z.1 z.2.1⟩) h
theorem dxAll_back {K : PySem.W.Frag} {L F : Addr} {B B' H : Hp} (k : Kp L F B B') {v : List V} {d : List PyData} (h : DxAll K (ZN L F B') H v d) : DxAll K (ZN L F B) H v d :=
  dxAll_monoL (fun _ z => ⟨z.1, z.2.1, none_back k z.2.2 z.1 z.2.1⟩) h
theorem dx_zl {K : PySem.W.Frag} {L F : Addr} {B H : Hp} {v : V} {d : PyData} (h : Dx K (ZN L F B) H v d) : Dx K (ZL L F) H v d := dx_monoL (fun _ z => ⟨z.1, z.2.1⟩) h
mutual
/-- no list, no dict -/
def noL : PyData → Bool
  | .list _ => false
  | .dict _ => false
  | .tuple xs => noLs xs
  | _ => true
def noLs : List PyData → Bool
  | [] => true
  | x :: xs => noL x && noLs xs
end
mutual
theorem dx_any {K : PySem.W.Frag} {Z Z' : Addr → Prop} {H : Hp} : ∀ {v : V} {d : PyData}, Dx K Z H v d → noL d = true → Dx K Z' H v d
  | _, _, .non, _ => .non
  | _, _, .bl b, _ => .bl b
  | _, _, .int i, _ => .int i
  | _, _, .str x, _ => .str x
  | _, _, .lst e z h, n => by simp [noL] at n
  | _, _, .tup e h, n => .tup e (dxAll_any h (by simpa only [noL] using n))
  | _, _, .dct e z h, n => by simp [noL] at n
theorem dxAll_any {K : PySem.W.Frag} {Z Z' : Addr → Prop} {H : Hp} : ∀ {vs : List V} {ds : List PyData}, DxAll K Z H vs ds → noLs ds = true → DxAll K Z' H vs ds
  | _, _, .nil, _ => .nil
  | _, d :: ds, .cons h r, n => by
    have n' : (noL d && noLs ds) = true := by simpa only [noLs] using n
    rw [Bool.and_eq_true] at n'
    exact .cons (dx_any h n'.1) (dxAll_any r n'.2)
end
end Ev

set_option exponentiation.threshold 256
/-! t[::-1], t a tuple that is not empty -/
namespace Ev
open PySem PySem.Spec PyProof.Rows L2
section
variable {prog : Program} {w : World} {A : Around} {E : Value → Shared → Prop} {s : Shared}
theorem applied_rev {sl : Addr} {vl vu vs : Value} {n : Nat} {Q : Int × Int × Nat → Shared → Prop} (hs : s.heap.IsSliceOf sl vl vu vs) (pl : IsPart vl none) (pu : IsPart vu none) (ps : IsPart vs (some (-1)))
    (h : Q ((n : Int) - 1, -1, n) s) : wpAny (model prog w) A (Builtin.Slice.sliceApplied (.ref sl) (pure (n : Int))) Q E s := by
  obtain ⟨os, hos, hcs, hds⟩ := id hs
  unfold Builtin.Slice.sliceApplied Builtin.Slice.sliceFields
  refine wpAny_bind (wpAny_bind (wpAny_field hos hds (x := vl) rfl (wpAny_bind (wpAny_field hos hds (x := vu) rfl (wpAny_bind (wpAny_field hos hds (x := vs) rfl (wpAny_pure ?_)))))))
  refine wpAny_bind (HT.slicePart_ ps ?_)
  show wpAny _ _ (if ((-1 : Int) == 0) = true then _ else _) _ _ s
  rw [if_neg (by decide)]
  refine wpAny_bind (HT.slicePart_ pl (wpAny_bind (HT.slicePart_ pu (wpAny_bind (wpAny_pure ?_)))))
  show wpAny _ _ (match Builtin.Slice.sliceAdjust none none (-1) (n : Int) with | (lo, hi) => pure (lo, (-1 : Int), Builtin.Slice.slicePlaces lo hi (-1))) _ _ s
  have e : Builtin.Slice.sliceAdjust none none (-1) (n : Int) = ((n : Int) - 1, -1) := rfl
  rw [e]
  show wpAny _ _ (pure ((n : Int) - 1, (-1 : Int), Builtin.Slice.slicePlaces ((n : Int) - 1) (-1) (-1))) _ _ s
  have e2 : Builtin.Slice.slicePlaces ((n : Int) - 1) (-1) (-1) = n := by
    unfold Builtin.Slice.slicePlaces
    rw [if_neg (by decide)]
    by_cases h0 : (n : Int) - 1 > -1
    · rw [if_pos h0, show (- -1 : Int) = 1 by decide, Int.ediv_one]
      omega
    · rw [if_neg h0]
      omega
  rw [e2]
  exact wpAny_pure h
theorem pick_rev (xs : Array Value) : ((List.range xs.size).filterMap fun (m : Nat) => xs[((xs.size : Int) - 1 + (m : Int) * (-1)).toNat]?).toArray = xs.toList.reverse.toArray := by
  have e : (List.range xs.size).filterMap (fun (m : Nat) => xs[((xs.size : Int) - 1 + (m : Int) * (-1)).toNat]?) = ((List.range xs.size).map fun k => xs.size - 1 - k).filterMap (xs[·]?) := by
    have e1 : (List.range xs.size).map (fun (m : Nat) => ((xs.size : Int) - 1 + (m : Int) * (-1)).toNat) = (List.range xs.size).map fun k => xs.size - 1 - k := by
      refine List.map_congr_left fun m hm => ?_
      have h := List.mem_range.mp hm
      omega
    rw [← e1, List.filterMap_map]
    rfl
  rw [e, PySem.W.krv_range, List.filterMap_reverse, PySem.W.krv_all]
theorem getItem_rev {t sl : Addr} {items : Array Value} {vl vu vs : Value} {Q : Value → Shared → Prop} (ht : IsTup s.heap t items) (hs : s.heap.IsSliceOf sl vl vu vs) (pl : IsPart vl none) (pu : IsPart vu none) (ps : IsPart vs (some (-1)))
    (h : Q (.ref s.heap.objs.size) { s with heap := s.heap.push { cls := .type "tuple", data := .seq items.toList.reverse.toArray } })
    (hsz : items.size ≤ sizeLine) : wpAny (model prog w) A (getItem (.ref t) (.ref sl)) Q E s := by
  have htake : sizeOk (.seq items.toList.reverse.toArray) := by
    show items.toList.reverse.toArray.size ≤ sizeLine
    rw [List.size_toArray, List.length_reverse, Array.length_toList]
    exact hsz
  obtain ⟨os, hos, hcs, hds⟩ := id hs
  have hTs : s.TypeIs (.ref sl) "slice" := ⟨os, hos, hcs⟩
  unfold getItem
  try with_reducible refine wpAny_holding ?_
  first | refine wpAny_bind (wpAny_pure ?_) | skip
  refine wpAny_bind (wpAny_sequenceKey ht.typeIs (by decide) ?_)
  refine wpAny_bind (wpAny_callSpecial?_slot (name := Str.ofString "__getitem__") ht.typeIs PyProof.Rows.slot_tuple_getitem
    (wpAny_call_entry PyProof.Rows.slot_tuple_getitem ht.typeIs entry_tuple_getitem ?_ (args_tuple_getitem _ _)))
  show wpAny _ _ (Builtin.Tuple.tupleItemsOf (.ref t) >>= _) _ _ s
  refine wpAny_bind (tupleItemsOf_ ht ?_)
  refine wpAny_bind (wpAny_typeOf hTs ?_)
  rw [if_pos (by decide)]
  refine wpAny_bind (applied_rev hs pl pu ps ?_)
  have hno : ¬ ((((items.size : Int) - 1) == 0 && (-1 : Int) == 1 && items.size == items.size) = true) := by
    intro q
    rw [Bool.and_eq_true, Bool.and_eq_true] at q
    exact absurd q.1.2 (by decide)
  show wpAny _ _ (if ((((items.size : Int) - 1) == 0 && (-1 : Int) == 1 && items.size == items.size) = true) then _ else _) _ _ s
  rw [if_neg hno, pick_rev]
  first
    | exact wpAny_bind (m := Builtin.Tuple.tupleExact _) (wpAny_newObj_type (wpAny_pure ⟨_, rfl, wpAny_pure h⟩) htake)
    | exact wpAny_bind (m := Builtin.Tuple.tupleExact _) (wpAny_newObj_type (wpAny_bind (wpAny_pure (wpAny_pure ⟨_, rfl, wpAny_pure h⟩))) htake)
    | exact wpAny_bind (wpAny_bind (m := Builtin.Tuple.tupleExact _) (wpAny_newObj_type (wpAny_pure (wpAny_pure ⟨_, rfl, wpAny_pure h⟩)) htake))
    | exact wpAny_bind (wpAny_bind (m := Builtin.Tuple.tupleExact _) (wpAny_newObj_type (wpAny_pure ⟨_, rfl, wpAny_pure h⟩) htake))
end
section
variable {X : Cx}
def tRevT (K : PySem.W.Frag) (te : TE) : TE := fun σ H Q => te σ H fun x H1 => ∃ a xs, x = .ref a ∧ SqT K H1 a xs ∧ ∀ p, H1 p = none → Q (.ref p) (upd H1 p (.tup xs.reverse))
theorem pe_revT {e : Expr} {te : TE} {k : Nat} {p1 p2 p3 pos : Pos} (he : PE X e te) : PE X (.Subscript e (.Slice none none (some (.UnaryOp .USub (.Constant (.int 1) k p1) p2)) p3) pos) (tRevT X.K te) := by
  refine ⟨fun pins s σ H Q I h => ?_⟩
  refine Subscript_ (thn (he.run pins s σ H _ I h) fun v s1 ⟨x, H1, I1, r1, q1⟩ => ?_)
  obtain ⟨a, xs, ex, hx, q⟩ := q1
  subst ex
  cases r1
  have hst : PO X (some (.UnaryOp .USub (.Constant (.int 1) k p1) p2)) (tPart (tUn (rU fun i => .int (-i)) (tC (.int 1)))) := po_some (pe_un un_neg pe_int)
  refine wpAny_Slice (thn (po_none.run pins s1 σ H1 (fun o H2 => o = none ∧ H2 = H1) I1 ⟨rfl, rfl⟩) fun vl s2 ⟨l, H2, I2, pl, el, e2⟩ => ?_)
  subst el e2
  refine thn (po_none.run pins s2 σ H2 (fun o H3 => o = none ∧ H3 = H2) I2 ⟨rfl, rfl⟩) fun vu s3 ⟨u, H3, I3, pu, eu, e3⟩ => ?_
  subst eu e3
  refine thn (hst.run pins s3 σ H3 (fun o H4 => o = some (-1) ∧ H4 = H3) I3 ⟨1, rfl, -1, rfl, rfl, rfl⟩) fun vs s4 ⟨o, H4, I4, ps, eo, e4⟩ => ?_
  subst eo e4
  have I5 : Inv X pins σ H4 { s4 with heap := s4.heap.push { cls := .type "slice", data := .fields #[vl, vu, vs] } } := I4.kept (t' := s4.toks) fun b ob q => Heap.get?_push_of_some _ q
  obtain ⟨its, r, ht, hz⟩ := I5.tuple hx
  have hlen := r.length
  show wpAny (model X.prog X.w) X.A (subscriptTail e (.Slice none none (some (.UnaryOp .USub (.Constant (.int 1) k p1) p2)) p3) (.ref a) (.ref s4.heap.objs.size)) (EP X pins σ Q) X.xe { s4 with heap := s4.heap.push { cls := .type "slice", data := .fields #[vl, vu, vs] } }
  refine tail_any (ops := [.ref a, .ref s4.heap.objs.size]) ht.typeIs (PyProof.Rows.slot_tuple_getitem.lookup) ?_ (by with_unfolding_all rfl)
  refine getItem_rev ht (Heap.IsSliceOf.new _ vl vu vs) pl pu ps ?_ (by rw [List.size_toArray]; omega)
  refine ⟨.ref _, _, I5.laid (t' := s4.toks) (o := .tup xs.reverse) (fun b ob q => Heap.get?_push_of_some _ q) (Nat.le_refl _) ?_, rfl, q _ (I5.hok.fresh (Nat.le_refl _))⟩
  exact ⟨by rw [List.length_reverse]; exact hz, _, r.reverse, IsTup.new _ _⟩
/-- t + u: somewhere stand the items of both -/
def rCatS (K : PySem.W.Frag) : R2 := fun x y H Q => ∃ a b xs ys, x = .ref a ∧ y = .ref b ∧ SqT K H a xs ∧ SqT K H b ys ∧ xs.length + ys.length ≤ sizeLine ∧
  ∀ (H' : Hp) (p : Addr), Same H H' → SqT K H' p (xs ++ ys) → Q (.ref p) H'
theorem op_catS : OpR X (binaryOp .Add) (rCatS X.K) := by
  intro pins s σ H x y v u Q I rx ry h
  obtain ⟨a, b, xs, ys, rfl, rfl, ha, hb, hz, q⟩ := h
  refine op_catA pins s σ H _ _ v u Q I rx ry ⟨a, b, xs, ys, rfl, rfl, ha, hb, hz, fun e => ?_, fun _ e => ?_, fun _ _ p hp => ?_⟩
  · subst e
    exact q H b (Same.refl H) hb
  · subst e
    refine q H a (Same.refl H) ?_
    rw [List.append_nil]
    exact ha
  · exact q _ p (same_new hp) (SqT.of upd_same)
/-- t[lo:hi]: somewhere stand its items -/
def rSlS (K : PySem.W.Frag) : V → Option Int → Option Int → Hp → VK → Prop := fun x lo hi H Q => ∃ a xs, x = .ref a ∧ SqT K H a xs ∧ ∀ (H' : Hp) (p : Addr), Same H H' → SqT K H' p (cutV xs lo hi) → Q (.ref p) H'
theorem sl_tupS : SlR X (rSlS X.K) := by
  intro pins s σ H x v vl vu lo hi sl Q I rx hs pl pu h
  obtain ⟨a, xs, rfl, hx, q⟩ := h
  refine sl_tupA pins s σ H _ v vl vu lo hi sl Q I rx hs pl pu ⟨a, xs, rfl, hx, fun e => ?_, fun _ p hp => q _ p (same_new hp) (SqT.of upd_same)⟩
  refine q H a (Same.refl H) ?_
  have z : cutV xs lo hi = xs := by
    unfold cutV
    rw [e.1, e.2, List.drop_zero, Nat.sub_zero, List.take_of_length_le (Nat.le_refl _)]
  rw [z]
  exact hx
end
end Ev

set_option exponentiation.threshold 10000
namespace Ev
open PySem PySem.Spec PyProof.Rows L2
section
variable {P : Program} {w : World} {K : PySem.W.Frag} {mg : Str → Option Value} {base : Heap} {A : Nat → Addr} {D : Nat → FuncData}
def sp_gcd : Sp := fun vs H Q _ => ∃ a b : Int, vs = [.int a, .int b] ∧ Q (.int (gc a b)) H
theorem Txt.ok_gcd (T : Txt K mg A D) : FnOk P w K mg base CX0 1 (A 12) (D 12) ["a", "b"] sp_gcd := by
  refine T.F_gcd.ok sc_gcd (fun vs H Q E h => ?_) (fun cdv Ar outer s H vs Q E hr h => ?_)
  · obtain ⟨a, b, rfl, _⟩ := h
    rfl
  · obtain ⟨a, b, rfl, q⟩ := h
    refine ⟨_, (pss_cons (ps_par (i := 0) (j := 1) rfl sc_gcd.nd rfl rfl (by decide) rfl rfl (pa_cons (pe_callB call_abs (by rfl) T.z_abs (by decide +kernel) (pa_cons (pv 0) pa_nil)) (pa_cons (pe_callB call_abs (by rfl) T.z_abs (by decide +kernel) (pa_cons (pv 1) pa_nil)) pa_nil)) (by rfl))
    (pss_cons (ps_while PassesOwn.never (pt_cmpR op_ne (pv 1) pe_int (nomark _)) (pss_one (ps_par (i := 0) (j := 1) rfl sc_gcd.nd rfl rfl (by decide) rfl rfl (pa_cons (pv 1) (pa_cons (pe_op op_modN (pe_callTy call_int1 (by rfl) T.z_int (by decide +kernel) (pa_cons (pv 0) pa_nil)) (pv 1)) pa_nil)) (by rfl))))
    (pss_one (ps_ret (pv 0))))), ?_⟩
    refine ⟨_, rfl, _, rfl, _, rfl, _, rfl, _, _, rfl, ?_⟩
    rw [absI, absI]
    refine while_by (fun σ H' => H' = H ∧ ∃ x y : Nat, σ = [some (.int x), some (.int y)] ∧ Nat.gcd x y = gc a b) (fun σ _ => match σ with | [_, some (.int y)] => y.toNat | _ => 0) ⟨rfl, _, _, rfl, rfl⟩ ?_ ?_
    · rintro σ H' ⟨rfl, x, y, rfl, g⟩
      refine ⟨_, rfl, rfl, _, rfl, ite2 (fun e => ?_) (fun e => ?_)⟩
      · have hy : (y : Int) ≠ 0 := fun z => vne e (congrArg V.int z)
        refine ⟨_, rfl, _, rfl, .inl ⟨_, rfl, _, rfl, _, _, rfl, rfl, hy, _, _, rfl, ⟨rfl, y, x % y, ?_, ?_⟩, ?_⟩⟩
        · have z : (x : Int).fmod (y : Int) = ((x % y : Nat) : Int) := by
            rw [Int.fmod_eq_emod_of_nonneg _ (by omega)]
            rfl
          show [some (V.int (y : Int)), some (V.int ((x : Int).fmod (y : Int)))] = _
          rw [z]
        · rw [← g, Nat.gcd_comm x y, Nat.gcd_rec y x, Nat.gcd_comm]
        · show ((x : Int).fmod (y : Int)).toNat < (y : Int).toNat
          rw [Int.fmod_eq_emod_of_nonneg _ (by omega)]
          have h1 := Int.emod_lt_of_pos (x : Int) (show (0 : Int) < y by omega)
          omega
      · have hy : (y : Int) = 0 := V.int.inj (veq e)
        have hy' : y = 0 := by omega
        subst hy'
        rw [Nat.gcd_zero_right] at g
        refine ⟨_, rfl, ?_⟩
        rw [g]
        exact q
    · intro σ H' Q1 Q2 k h
      obtain ⟨v, h1, h2, c, h3, h4⟩ := h
      exact ⟨v, h1, h2, c, h3, k _ _ h4⟩
/-! ### fractions in lowest terms -/
def Sm (x : Int) : Prop := x.natAbs < 2 ^ 1400
theorem Sm.le {x y : Int} (h : Sm y) (l : x.natAbs ≤ y.natAbs) : Sm x := Nat.lt_of_le_of_lt l h
theorem Sm.log {x : Int} (h : Sm x) : x.natAbs.log2 < 1400 := PySem.Flt.log2_lt_of (by decide) h
def Bg (x : Int) : Prop := x.natAbs < 2 ^ 8900
theorem Sm.bg {x : Int} (h : Sm x) : Bg x := Nat.lt_of_lt_of_le h (Nat.pow_le_pow_right (by decide) (by decide))
theorem Bg.le {x y : Int} (h : Bg y) (l : x.natAbs ≤ y.natAbs) : Bg x := Nat.lt_of_le_of_lt l h
theorem Bg.log {x : Int} (h : Bg x) : x.natAbs.log2 < 8900 := PySem.Flt.log2_lt_of (by decide) h
theorem dv_ok {a b : Int} (h : b ≠ 0) (hb : Bg b) : CDivZ a (dv a b) := by
  refine ⟨dv_ne h, ?_⟩
  have l : (dv a b).natAbs ≤ b.natAbs := by
    rw [dv_abs]
    exact Nat.gcd_le_right _ (by omega)
  exact Nat.lt_trans (Bg.log (hb.le l)) (by decide)
theorem dv_ok2 {a b c : Int} (h : b ≠ 0) (hb : Bg b) : CDivZ c (dv a b) := ⟨(dv_ok (a := a) h hb).1, (dv_ok (a := a) h hb).2⟩
def sp_frac : Sp := fun vs H Q _ => ∃ a b : Int, vs = [.int a, .int b] ∧ b ≠ 0 ∧ Bg b ∧
  ∀ (H' : Hp) (p : Addr), Same H H' → H p = none → H' p = some (.tup [.int (fA a b), .int (fB a b)]) → Q (.ref p) H'
theorem Txt.ok_frac (T : Txt K mg A D) : FnOk P w K mg base CX0 2 (A 13) (D 13) ["a", "b"] sp_frac := by
  refine T.F_frac.ok sc_frac (fun vs H Q E h => ?_) (fun cdv Ar outer s H vs Q E hr h => ?_)
  · obtain ⟨a, b, rfl, _⟩ := h
    rfl
  · obtain ⟨a, b, rfl, hb, sb, q⟩ := h
    refine ⟨_, (pss_cons (ps_set (i := 2) sc_frac.nd rfl (Or.inl rfl) (pe_call (T.ok_gcd) hr (by rfl) T.g_gcd T.k_gcd T.b_gcd .nil pass0 (pa_cons (pv 0) (pa_cons (pv 1) pa_nil))))
    (pss_cons (ps_set (i := 2) sc_frac.nd rfl (Or.inl rfl) (pe_ifExp (pt_cmpR op_gt (pv 1) pe_int (nomark _)) (pv 2) (pe_un un_neg (pv 2))))
    (pss_one (ps_ret (pe_tup (pa_cons (pe_op op_fdivZ (pv 0) (pv 2)) (pa_cons (pe_op op_fdivZ (pv 1) (pv 2)) pa_nil))))))), ?_⟩
    refine ⟨_, rfl, _, rfl, _, _, rfl, _, rfl, _, _, rfl, rfl, _, rfl, ite2 (fun e => ?_) (fun e => ?_)⟩
    · have d : dv a b = (gc a b : Int) := if_pos (of_decide_eq_true e)
      refine ⟨_, rfl, _, rfl, _, rfl, _, _, rfl, rfl, by rw [← d]; exact dv_ok2 hb sb, _, rfl, _, rfl, _, _, rfl, rfl, by rw [← d]; exact dv_ok2 hb sb, (by show 2 ≤ sizeLine; decide), fun p hp => q _ p (same_new hp) hp ?_⟩
      rw [upd_same]
      show some (HO.tup [V.int (a.fdiv (gc a b : Int)), V.int (b.fdiv (gc a b : Int))]) = _
      rw [← d]
      rfl
    · have d : dv a b = -(gc a b : Int) := if_neg (fun z => e (decide_eq_true z))
      refine ⟨_, rfl, _, rfl, _, rfl, _, rfl, _, _, rfl, rfl, by rw [← d]; exact dv_ok2 hb sb, _, rfl, _, rfl, _, _, rfl, rfl, by rw [← d]; exact dv_ok2 hb sb, (by show 2 ≤ sizeLine; decide), fun p hp => q _ p (same_new hp) hp ?_⟩
      rw [upd_same]
      show some (HO.tup [V.int (a.fdiv (-(gc a b : Int))), V.int (b.fdiv (-(gc a b : Int)))]) = _
      rw [← d]
      rfl
end
end Ev

set_option exponentiation.threshold 3000
namespace Ev
open PySem PySem.Spec PyProof.Rows L2
theorem eqvx_nil (ds : List PyData) : PyData.eqv (.list ds) (.list []) = ds.isEmpty := by
  cases ds with
  | nil => rfl
  | cons d ds => simp [PyData.eqv, PyData.eqvAll]
theorem shapedL {ds : List PyData} (h : PyData.canLayAll0 ds = true) (k : PyData.depthAll ds ≤ 60) : SeqAt.shaped (.list ds) = true := by
  simp only [SeqAt.shaped, PyData.canLay0, h, PyData.depth, Bool.true_and]
  exact decide_eq_true (by omega)
theorem canLayAll_mem : ∀ {ds : List PyData}, PyData.canLayAll0 ds = true ↔ ∀ d ∈ ds, d.canLay0 = true
  | [] => by simp [PyData.canLayAll0]
  | d :: ds => by
    simp only [PyData.canLayAll0, Bool.and_eq_true, List.mem_cons, forall_eq_or_imp]
    rw [canLayAll_mem]
theorem depthAll_mem {k : Nat} : ∀ {ds : List PyData}, PyData.depthAll ds ≤ k ↔ ∀ d ∈ ds, d.depth ≤ k
  | [] => by simp [PyData.depthAll]
  | d :: ds => by
    simp only [PyData.depthAll, List.mem_cons, forall_eq_or_imp, Nat.max_le]
    rw [depthAll_mem]
theorem dxAll_erase {K : PySem.W.Frag} {Z : Addr → Prop} {H : Hp} : ∀ (n : Nat) {vs : List V} {ds : List PyData}, DxAll K Z H vs ds → DxAll K Z H (vs.eraseIdx n) (ds.eraseIdx n)
  | _, _, _, .nil => .nil
  | 0, _, _, .cons _ r => r
  | n + 1, _, _, .cons h r => .cons h (dxAll_erase n r)
mutual
theorem dx_mono {K : PySem.W.Frag} {Z Z' : Addr → Prop} {H : Hp} (hz : ∀ a o, H a = some o → Z a → Z' a) : ∀ {v : V} {d : PyData}, Dx K Z H v d → Dx K Z' H v d
  | _, _, .non => .non
  | _, _, .bl b => .bl b
  | _, _, .int i => .int i
  | _, _, .str x => .str x
  | _, _, .lst e z h => .lst e (hz _ _ e z) (dxAll_mono hz h)
  | _, _, .tup e h => .tup e (dxAll_mono hz h)
  | _, _, .dct e z h => .dct e (hz _ _ e z) (dxKv_mono hz h)
theorem dxAll_mono {K : PySem.W.Frag} {Z Z' : Addr → Prop} {H : Hp} (hz : ∀ a o, H a = some o → Z a → Z' a) : ∀ {vs : List V} {ds : List PyData}, DxAll K Z H vs ds → DxAll K Z' H vs ds
  | _, _, .nil => .nil
  | _, _, .cons h r => .cons (dx_mono hz h) (dxAll_mono hz r)
theorem dxKv_mono {K : PySem.W.Frag} {Z Z' : Addr → Prop} {H : Hp} (hz : ∀ a o, H a = some o → Z a → Z' a) : ∀ {vs : List (Key × V)} {ds : List (PyData × PyData)}, DxKv K Z H vs ds → DxKv K Z' H vs ds
  | _, _, .nil => .nil
  | _, _, .cons h r => .cons (dx_mono hz h) (dxKv_mono hz r)
end
theorem dxAll_upd {K : PySem.W.Frag} {Z : Addr → Prop} {H : Hp} {p : Addr} {ys : List V} {o : HO} (hp : H p = some (.lst ys)) (hz : ∀ a, Z a → a ≠ p) {xs : List V} {ds : List PyData} (h : DxAll K Z H xs ds) : DxAll K Z (upd H p o) xs ds := by
  refine dxAll_keep (fun a zs e => ?_) (fun a ob z e => ?_) h
  · rcases e with (e | ⟨ob, e⟩) | e
    · exact .inl (.inl (by rw [upd_ne (ne_of e hp (by intro z; cases z))]; exact e))
    · exact .inl (.inr ⟨ob, by rw [upd_ne (ne_of e hp (by intro z; cases z))]; exact e⟩)
    · exact .inr e
  · rw [upd_ne (hz a z)]
    exact e
theorem dx_upd {K : PySem.W.Frag} {Z : Addr → Prop} {H : Hp} {p : Addr} {ys : List V} {o : HO} (hp : H p = some (.lst ys)) (hz : ∀ a, Z a → a ≠ p) {x : V} {d : PyData} (h : Dx K Z H x d) : Dx K Z (upd H p o) x d := by
  have z := dxAll_upd (o := o) hp hz (.cons h .nil)
  cases z with
  | cons a _ => exact a
theorem kp_put {L F p : Addr} {H H2 : Hp} {o : HO} (k : Kp L F H H2) (hp : H p = none) : Kp L F H (upd H2 p o) := fun b u h1 h2 e => by
  rw [upd_ne (ne_of_none e hp)]
  exact k b u h1 h2 e
theorem lm_put {L F p : Addr} {H : Hp} {o : HO} (h : Lm H L F) (n1 : p ≠ L) (n2 : p ≠ F) : Lm (upd H p o) L F := by
  obtain ⟨fs, a, b, h1, h2, h3⟩ := h
  exact ⟨fs, a, b, by rw [upd_ne n1.symm]; exact h1, by rw [upd_ne n2.symm]; exact h2, h3⟩
/-- beside the loom's two, and two more -/
def Z4 (L F p r : Addr) : Addr → Prop := fun a => a ≠ L ∧ a ≠ F ∧ a ≠ p ∧ a ≠ r
theorem dxAll_kp4 {K : PySem.W.Frag} {L F p r : Addr} {H H' : Hp} (k : Kp L F H H') (hM : Lm H L F) {v : List V} {d : List PyData} (h : DxAll K (Z4 L F p r) H v d) : DxAll K (Z4 L F p r) H' v d :=
  dxAll_keep (fun _ _ e => k.sqT hM e) (fun _ _ z e => k _ _ z.1 z.2.1 e) h
theorem erase_perm {α : Type} {x : α} : ∀ {l : List α} {i : Nat}, l[i]? = some x → (x :: l.eraseIdx i).Perm l
  | [], i, e => by simp at e
  | y :: l, 0, e => by
    simp at e
    subst e
    exact List.Perm.refl _
  | y :: l, i + 1, e => by
    have e' : l[i]? = some x := by simpa using e
    exact (List.Perm.swap y x _).trans ((erase_perm e').cons y)
section
variable {P : Program} {w : World} {K : PySem.W.Frag} {mg : Str → Option Value} {base : Heap} {A : Nat → Addr} {D : Nat → FuncData}
def sp_mixed (K : PySem.W.Frag) : Sp := fun vs H Q _ => ∃ (L F a : Addr) (xs : List V) (ds : List PyData), vs = [.ref L, .ref a] ∧ Lm H L F ∧ (SqL K H a xs ∨ SqT K H a xs) ∧ xs.length < 1000000 ∧ DxAll K (ZL L F) H xs ds ∧
  PyData.canLayAll0 ds = true ∧ PyData.depthAll ds ≤ 60 ∧
  ∀ (H' : Hp) (p : Addr) (ys : List V) (es : List PyData), Kp L F H H' → Lm H' L F → H p = none → H' p = some (.lst ys) → p ≠ L → p ≠ F → DxAll K (ZL L F) H' ys es → es.Perm ds → Q (.ref p) H'
theorem Txt.ok_mixed (T : Txt K mg A D) : FnOk P w K mg base CX0 2 (A 11) (D 11) ["loom", "things"] (sp_mixed K) := by
  refine T.F_mixed.ok sc_mixed (fun vs H Q E h => ?_) (fun cdv Ar outer s H vs Q E hr h => ?_)
  · obtain ⟨L, F, a, xs, ds, rfl, _⟩ := h
    rfl
  · obtain ⟨L, F, a, xs, ds, rfl, hM, hS, hlen, hx, hc, hd, q⟩ := h
    refine ⟨_, (pss_cons (ps_par (i := 2) (j := 3) rfl sc_mixed.nd rfl rfl (by decide) rfl rfl (pa_cons (pe_callTy call_list_of (by rfl) T.z_list (by decide +kernel) (pa_cons (pv 1) pa_nil)) (pa_cons (pe_lst pa_nil) pa_nil)) (by rfl))
    (pss_cons (ps_while PassesOwn.never (pt_cmpR (op_neD hr.units) (pv 2) (pe_lst pa_nil) (nomark _)) (pss_one (ps_expr (pe_bm PySem.F.plainAttrs_list PySem.F.slot_list_append PySem.F.type_list_append mt_append (pv 3) (pa_cons (pe_bm PySem.F.plainAttrs_list PySem.F.slot_list_pop PySem.F.type_list_pop mt_popAt (pv 2) (pa_cons (pe_call (T.ok_draw) hr (by rfl) T.g_draw T.k_draw T.b_draw .nil pass0 (pa_cons (pv 0) (pa_cons (pe_callB call_len_seq (by rfl) T.z_len (by decide +kernel) (pa_cons (pv 2) pa_nil)) pa_nil))) pa_nil)) pa_nil)))))
    (pss_one (ps_ret (pv 3))))), ?_⟩
    refine ⟨_, rfl, a, xs, rfl, hS, fun p hp => ?_⟩
    have np := hM.ne hp
    have M1 := hM.new (o := .lst xs) hp
    refine ⟨Nat.zero_le _, fun r hr0 => ?_⟩
    have nr := M1.ne hr0
    have M2 := M1.new (o := .lst []) hr0
    have npr : p ≠ r := fun z => by
      rw [← z, upd_same] at hr0
      cases hr0
    refine ⟨_, _, rfl, ?_⟩
    have hrn : H r = none := by
      have := hr0
      rw [upd_ne npr.symm] at this
      exact this
    have big : ∀ (gs es : List PyData), (gs ++ es).Perm ds → gs.length + es.length < 1000000 := fun gs es pm => by
      have := pm.length_eq
      rw [List.length_append] at this
      have := dxAll_len hx
      omega
    refine while_by (fun σ H' => ∃ (ys zs : List V) (es gs : List PyData), σ = [some (.ref L), some (.ref a), some (.ref p), some (.ref r)] ∧ Kp L F H H' ∧ Lm H' L F ∧ H' p = some (.lst ys) ∧ H' r = some (.lst zs) ∧
        DxAll K (Z4 L F p r) H' ys es ∧ DxAll K (Z4 L F p r) H' zs gs ∧ (gs ++ es).Perm ds) (fun σ H' => match H' p with | some (.lst ys) => ys.length | _ => 0) ?_ ?_ ?_
    · refine ⟨xs, [], ds, [], rfl, (Kp.new hp).trans (Kp.new hr0), M2, ?_, upd_same, ?_, .nil, List.Perm.refl _⟩
      · rw [upd_ne npr]
        exact upd_same
      · refine dxAll_same ((same_new hp).trans (same_new hr0)) (dxAll_mono (fun b o e z => ⟨z.1, z.2, ?_, ?_⟩) hx)
        · exact ne_of_none e hp
        · exact ne_of_none e hrn
    · rintro σ H2 ⟨ys, zs, es, gs, rfl, kp2, hM2, hp2, hr2, dy, dz, pm⟩
      refine ⟨_, rfl, Nat.zero_le _, fun t ht => ?_⟩
      have sm := same_new (o := .lst []) ht
      have dy2 := dxAll_same sm dy
      have dz2 := dxAll_same sm dz
      have hp3 := sm _ _ hp2
      have hr3 := sm _ _ hr2
      have hM3 := hM2.same sm
      have kp3 := kp2.trans (kp_same sm)
      have cl : PyData.canLayAll0 es = true := canLayAll_mem.mpr fun d hd' => canLayAll_mem.mp hc d (pm.subset (List.mem_append_right _ hd'))
      have de : PyData.depthAll es ≤ 60 := depthAll_mem.mpr fun d hd' => depthAll_mem.mp hd d (pm.subset (List.mem_append_right _ hd'))
      have nd := PyData.hasDictAll_of_canLayAll es cl
      refine ⟨_, _, .lst (.inl (.inl hp3)) (dpAll_of_dx dy2 nd), .lst (xs := []) (.inl (.inl upd_same)) .nil, shapedL cl de, by decide, _, rfl, ite2 (fun e => ?_) (fun e => ?_)⟩
      · rw [eqvx_nil] at e
        have epos : 0 < ys.length := by
          rw [dxAll_len dy]
          cases es with
          | nil => exact absurd e (by decide)
          | cons _ _ => exact Nat.zero_lt_succ _
        have lens := big gs es pm
        have ly := dxAll_len dy
        have lz := dxAll_len dz
        refine ⟨_, rfl, .inl ⟨rfl, _, SqL.of hr3⟩, _, rfl, .inl ⟨rfl, _, SqL.of hp3⟩, _, rfl, _, rfl, p, ys, rfl, .inl (SqL.of hp3), L, F, _, rfl, hM3, by omega, fun H4 k kp4 hM4 k0 kl => ?_⟩
        have kn : k.toNat < ys.length := by omega
        have hp4 := kp4 _ _ np.1 np.2 hp3
        have hr4 := kp4 _ _ nr.1 nr.2 hr3
        have dy4 := dxAll_kp4 kp4 hM3 dy2
        have dz4 := dxAll_kp4 kp4 hM3 dz2
        have hy : ys[k.toNat]? = some ys[k.toNat] := List.getElem?_eq_getElem kn
        obtain ⟨d, hd4, dxd⟩ := dxAll_get dy4 hy
        refine ⟨p, ys, k, k.toNat, ys[k.toNat], rfl, rfl, hp4, by omega, by omega, ?_, hy, ?_⟩
        · exact seqIndex_of k0 (by omega)
        have hr5 : (upd H4 p (.lst (ys.eraseIdx k.toNat))) r = some (.lst zs) := by
          rw [upd_ne npr.symm]
          exact hr4
        refine ⟨r, zs, _, rfl, rfl, hr5, Nat.lt_of_lt_of_le (show zs.length < 1000000 by omega) (by decide), ?_⟩
        have zp : ∀ b, Z4 L F p r b → b ≠ p := fun b z => z.2.2.1
        have zr : ∀ b, Z4 L F p r b → b ≠ r := fun b z => z.2.2.2
        refine ⟨⟨ys.eraseIdx k.toNat, zs ++ [ys[k.toNat]], es.eraseIdx k.toNat, gs ++ [d], rfl, kp_put (kp_put (kp3.trans kp4) hp) hrn, lm_put (lm_put hM4 np.1 np.2) nr.1 nr.2, ?_, upd_same, ?_, ?_, ?_⟩, ?_⟩
        · rw [upd_ne npr]
          exact upd_same
        · exact dxAll_upd hr5 zr (dxAll_upd hp4 zp (dxAll_erase _ dy4))
        · refine dxAll_upd hr5 zr (dxAll_upd hp4 zp ?_)
          exact dxAll_app dz4 (.cons dxd .nil)
        · have z := (List.Perm.append_left gs (erase_perm hd4)).trans pm
          rw [List.append_assoc]
          exact z
        · show (match (upd (upd H4 p (.lst (ys.eraseIdx k.toNat))) r (.lst (zs ++ [ys[k.toNat]]))) p with | some (.lst ys) => ys.length | _ => 0) < (match H2 p with | some (.lst ys) => ys.length | _ => 0)
          rw [hp2, upd_ne npr, upd_same]
          show (ys.eraseIdx k.toNat).length < ys.length
          rw [List.length_eraseIdx_of_lt kn]
          omega
      · rw [eqvx_nil] at e
        have en : es = [] := by
          cases es with
          | nil => rfl
          | cons _ _ => exact absurd rfl e
        subst en
        rw [List.append_nil] at pm
        refine ⟨_, rfl, q _ r zs gs kp3 hM3 hrn hr3 nr.1 nr.2 (dxAll_mono (fun b o _ z => ⟨z.1, z.2.1⟩) dz2) pm⟩
    · intro σ H' Q1 Q2 k h
      obtain ⟨v, h1, h2, h3⟩ := h
      refine ⟨v, h1, h2, fun p hp => ?_⟩
      obtain ⟨d, e, a1, a2, a3, a4, c, a5, a6⟩ := h3 p hp
      exact ⟨d, e, a1, a2, a3, a4, c, a5, k _ _ a6⟩
end
end Ev

set_option exponentiation.threshold 10000
namespace Ev
open PySem PySem.Spec PyProof.Rows L2
/-! ### drawn shares and dice -/
theorem fA_pos {a b : Int} (ha : 0 < a) (hb : 0 < b) : 0 < fA a b := by
  have hb' : b ≠ 0 := by omega
  have e := fA_mul (a := a) hb'
  have d : 0 < dv a b := by
    unfold dv
    rw [if_pos hb]
    have := gc_pos (a := a) hb'
    omega
  rcases Int.lt_trichotomy 0 (fA a b) with z | z | z
  · exact z
  · rw [← z, Int.mul_zero] at e
    omega
  · have : dv a b * fA a b < 0 := Int.mul_neg_of_pos_of_neg d z
    omega
theorem fA_lt {a b : Int} (hb : 0 < b) (h : a < b) : fA a b < fB a b := by
  have hb' : b ≠ 0 := by omega
  have e1 := fA_mul (a := a) hb'
  have e2 := fB_mul (a := a) hb'
  have d : 0 < dv a b := by
    unfold dv
    rw [if_pos hb]
    have := gc_pos (a := a) hb'
    omega
  refine Int.not_le.mp fun z => ?_
  have := Int.mul_le_mul_of_nonneg_left z (Int.le_of_lt d)
  omega
/-- above 0, below 1, in lowest terms -/
structure Shr (x y : Int) : Prop where
  lo : Low x y
  pos : 0 < x
  lt : x < y
def pairD (x y : Int) : PyData := .tuple [.int x, .int y]
def tillD (x y : Int) : PyData := .tuple [.str "till", pairD x y]
def sideD (n x y : Int) : PyData := .tuple [.int n, pairD x y]
/-- the sides of numbers with so great parts of a whole -/
def sidesD (l : List (Int × Int)) (s : Int) : List PyData := l.map fun q => sideD q.1 (fA q.2 s) (fB q.2 s)
def diceD (l : List (Int × Int)) (s : Int) : PyData := .tuple [.str "die", .tuple (sidesD l s)]
structure Sides (l : List (Int × Int)) (s : Int) : Prop where
  up : (l.map (·.1)).Pairwise (· < ·)
  num : ∀ q ∈ l, 0 ≤ q.1 ∧ q.1 ≤ 9
  part : ∀ q ∈ l, 1 ≤ q.2 ∧ q.2 ≤ 4
  sum : (l.map (·.2)).sum = s
  len : 1 ≤ l.length ∧ l.length ≤ 6
/-- a drawn die -/
inductive IsDie : PyData → Prop
  | till {x y : Int} (h : Shr x y) (b : y ≤ 1000000) : IsDie (tillD x y)
  | die {l : List (Int × Int)} {s : Int} (h : Sides l s) : IsDie (diceD l s)
/-! ### permuted ints -/
theorem perm_ints {es : List PyData} {ms : List Int} (h : es.Perm (ms.map PyData.int)) : ∃ ns : List Int, es = ns.map PyData.int ∧ ns.Perm ms := by
  let g : PyData → Int := fun d => match d with | .int i => i | _ => 0
  refine ⟨es.map g, ?_, ?_⟩
  · rw [List.map_map]
    refine (List.map_id es).symm.trans (List.map_congr_left fun d hd => ?_)
    obtain ⟨i, _, e⟩ := List.mem_map.mp (h.subset hd)
    rw [← e]
    rfl
  · have z := h.map g
    rw [List.map_map] at z
    have e : List.map (g ∘ PyData.int) ms = ms := by
      refine (List.map_congr_left fun i _ => ?_).trans (List.map_id ms)
      rfl
    rw [e] at z
    exact z
theorem ints_of_dx {K : PySem.W.Frag} {Z : Addr → Prop} {H : Hp} : ∀ {ys : List V} {ns : List Int}, DxAll K Z H ys (ns.map PyData.int) → ys = ns.map V.int
  | _, [], .nil => rfl
  | _, n :: ns, .cons h r => by
    rw [dx_int h, ints_of_dx r]
    rfl
theorem sum_bounds : ∀ {l : List Int}, (∀ x ∈ l, 1 ≤ x ∧ x ≤ 4) → (l.length : Int) ≤ l.sum ∧ l.sum ≤ 4 * l.length
  | [], _ => by decide
  | x :: l, h => by
    have a := h x (List.mem_cons_self ..)
    have b := sum_bounds (l := l) fun y hy => h y (List.mem_cons_of_mem _ hy)
    rw [List.sum_cons, List.length_cons]
    omega
theorem dx_ints {K : PySem.W.Frag} {Z : Addr → Prop} {H : Hp} : ∀ ns : List Int, DxAll K Z H (ns.map V.int) (ns.map PyData.int)
  | [] => .nil
  | n :: ns => .cons (.int n) (dx_ints ns)
theorem cut_take {xs : List V} {m : Int} (h : 0 ≤ m) : cutV xs none (some m) = xs.take m.toNat := by
  unfold cutV
  have e : HT.sIx xs.length xs.length (some m) = min m.toNat xs.length := by
    have := HT.sIx_nat xs.length xs.length m.toNat
    rw [Int.toNat_of_nonneg h] at this
    exact this
  rw [e, HT.sIx_none, List.drop_zero, Nat.sub_zero]
  rcases Nat.le_total m.toNat xs.length with l | l
  · rw [Nat.min_eq_left l]
  · rw [Nat.min_eq_right l, List.take_of_length_le (Nat.le_refl _), List.take_of_length_le l]
section
variable {P : Program} {w : World} {K : PySem.W.Frag} {mg : Str → Option Value} {base : Heap} {A : Nat → Addr} {D : Nat → FuncData}
def sp_share : Sp := fun vs H Q _ => ∃ (L F : Addr) (most : Int), vs = [.ref L, .int most] ∧ Lm H L F ∧ most < 1000000 ∧ 2 ≤ most ∧
  ∀ (H' : Hp) (p : Addr) (x y : Int), Kp L F H H' → Lm H' L F → H' p = some (.tup [.int x, .int y]) → Shr x y → y ≤ most → Q (.ref p) H'
theorem Txt.ok_share (T : Txt K mg A D) : FnOk P w K mg base CX0 3 (A 15) (D 15) ["loom", "most"] sp_share := by
  refine T.F_share.ok sc_share (fun vs H Q E h => ?_) (fun cdv Ar outer s H vs Q E hr h => ?_)
  · obtain ⟨L, F, most, rfl, _⟩ := h
    rfl
  · obtain ⟨L, F, most, rfl, hM, hm, h2, q⟩ := h
    refine ⟨_, (pss_cons (ps_set (i := 2) sc_share.nd rfl (Or.inl rfl) (pe_op op_add pe_int (pe_call (T.ok_draw) (hr.mono (by decide)) (by rfl) T.g_draw T.k_draw T.b_draw .nil pass0 (pa_cons (pv 0) (pa_cons (pe_op op_sub (pv 1) pe_int) pa_nil)))))
    (pss_one (ps_ret (pe_call (T.ok_frac) hr (by rfl) T.g_frac T.k_frac T.b_frac .nil pass0 (pa_cons (pe_op op_add pe_int (pe_call (T.ok_draw) (hr.mono (by decide)) (by rfl) T.g_draw T.k_draw T.b_draw .nil pass0 (pa_cons (pv 0) (pa_cons (pe_op op_sub (pv 2) pe_int) pa_nil)))) (pa_cons (pv 2) pa_nil)))))), ?_⟩
    refine ⟨_, rfl, _, rfl, _, _, rfl, rfl, L, F, _, rfl, hM, by omega, fun H1 k kp1 hM1 k0 kl => ⟨_, _, rfl, rfl, ?_⟩⟩
    refine ⟨_, rfl, _, rfl, _, _, rfl, rfl, L, F, _, rfl, hM1, by omega, fun H2 j kp2 hM2 j0 jl => ⟨_, _, rfl, rfl, ?_⟩⟩
    have b0 : (0 : Int) < 2 + k := by omega
    have b1 : (2 + k : Int) ≠ 0 := by omega
    have sb : Bg (2 + k) := by
      show (2 + k).natAbs < 2 ^ 8900
      exact Nat.lt_of_lt_of_le (show (2 + k).natAbs < 2 ^ 20 by omega) (Nat.pow_le_pow_right (by decide) (by decide))
    refine ⟨_, rfl, 1 + j, 2 + k, rfl, b1, sb, fun H3 t sm ht ht3 => ?_⟩
    have hy := fB_le (a := 1 + j) b1
    have lo := low_f (a := 1 + j) b1
    have hy0 := lo.1
    exact q H3 t _ _ ((kp1.trans kp2).trans (kp_same sm)) (hM2.same sm) ht3 ⟨lo, fA_pos (by omega) b0, fA_lt b0 (by omega)⟩ (by omega)
def sp_die (K : PySem.W.Frag) : Sp := fun vs H Q _ => ∃ (L F : Addr), vs = [.ref L] ∧ Lm H L F ∧
  ∀ (H' : Hp) (p : Addr) (d : PyData), Kp L F H H' → Lm H' L F → Dx K (ZL L F) H' (.ref p) d → IsDie d → Q (.ref p) H'
theorem Txt.ok_die (T : Txt K mg A D) : FnOk P w K mg base CX0 4 (A 16) (D 16) ["loom"] (sp_die K) := by
  refine T.F_die.ok sc_die (fun vs H Q E h => ?_) (fun cdv Ar outer s H vs Q E hr h => ?_)
  · obtain ⟨L, F, rfl, _⟩ := h
    rfl
  · obtain ⟨L, F, rfl, hM, q⟩ := h
    refine ⟨_, (pss_cons (ps_if (pt_cmpR op_eq (pe_call (T.ok_draw) (hr.mono (by decide)) (by rfl) T.g_draw T.k_draw T.b_draw .nil pass0 (pa_cons (pv 0) (pa_cons pe_int pa_nil))) pe_int (nomark _)) (pss_one (ps_ret (pe_tup (pa_cons pe_str (pa_cons (pe_call (T.ok_share) hr (by rfl) T.g_share T.k_share T.b_share .nil pass0 (pa_cons (pv 0) (pa_cons (pe_call (T.ok_pick) (hr.mono (by decide)) (by rfl) T.g_pick T.k_pick T.b_pick .nil pass0 (pa_cons (pv 0) (pa_cons (pe_lst (pa_cons pe_int (pa_cons pe_int (pa_cons pe_int (pa_cons pe_int pa_nil))))) pa_nil))) pa_nil))) pa_nil))))) pss_nil)
    (pss_cons (ps_set (i := 1) sc_die.nd rfl (Or.inl rfl) (pe_callB cr_sorted (by rfl) T.z_sorted (by decide +kernel) (pa_cons (pe_slice sl_list (pe_call (T.ok_mixed) (hr.mono (by decide)) (by rfl) T.g_mixed T.k_mixed T.b_mixed .nil pass0 (pa_cons (pv 0) (pa_cons (pe_listRg rfl (by rfl) T.z_list (prg_1 (by rfl) T.range pe_int)) pa_nil))) po_none (po_some (pe_call (T.ok_pick) (hr.mono (by decide)) (by rfl) T.g_pick T.k_pick T.b_pick .nil pass0 (pa_cons (pv 0) (pa_cons (pe_lst (pa_cons pe_int (pa_cons pe_int (pa_cons pe_int (pa_cons pe_int (pa_cons pe_int (pa_cons pe_int (pa_cons pe_int pa_nil)))))))) pa_nil))))) pa_nil)))
    (pss_cons (ps_set (i := 2) sc_die.nd rfl (Or.inr rfl) (pe_lc (own := [("own", 3)]) (g := gName 3) (tt := tYes) rfl sc_die.nd (pi_list (pv 1)) (blkOk_by (N := ["loom", "shown", "parts", "own", "number", "part"]) (sc := defScope s_die) (by decide +kernel)) (fun _ _ _ _ _ => pg_name (i := 3) sc_die.nd rfl (Or.inl rfl)) (fun _ _ _ _ _ => pts_nil) (fun _ _ _ _ _ => (pe_op op_add pe_int (pe_call (T.ok_draw) (hr.mono (by decide)) (by rfl) T.g_draw T.k_draw T.b_draw .nil pass0 (pa_cons (pv 0) (pa_cons pe_int pa_nil)))))))
    (pss_one (ps_ret (pe_tup (pa_cons pe_str (pa_cons (pe_callTy call_tuple_of (by rfl) T.z_tuple (by decide +kernel) (pa_cons (pe_lc (own := [("number", 4), ("part", 5)]) (g := gTup K 2 (gCons (gName 4) (gCons (gName 5) gNil))) (tt := tYes) rfl sc_die.nd (pi_zip (by rfl) T.zip (pa_cons (pv 1) (pa_cons (pv 2) pa_nil))) (blkOk_by (N := ["loom", "shown", "parts", "own", "number", "part"]) (sc := defScope s_die) (by decide +kernel)) (fun _ _ _ _ _ => (pg_tup rfl (pgs_cons (pg_name (i := 4) sc_die.nd rfl (Or.inl rfl)) (pgs_cons (pg_name (i := 5) sc_die.nd rfl (Or.inl rfl)) pgs_nil)))) (fun _ _ _ _ _ => pts_nil) (fun _ _ _ _ _ => (pe_tup (pa_cons (pv 4) (pa_cons (pe_call (T.ok_frac) (hr.mono (by decide)) (by rfl) T.g_frac T.k_frac T.b_frac .nil pass0 (pa_cons (pv 5) (pa_cons (pe_callB (show CallR _ _ (rSum K) from cr_sum rfl) (by rfl) T.z_sum (by decide +kernel) (pa_cons (pv 2) pa_nil)) pa_nil))) pa_nil))))) pa_nil)) pa_nil)))))))), ?_⟩
    refine ⟨_, rfl, L, F, 4, rfl, hM, by decide, fun H1 k kp1 hM1 k0 kl => ⟨rfl, _, rfl, ite2 (fun _ => ?_) (fun _ => ?_)⟩⟩
    · refine ⟨_, rfl, _, rfl, (by show 4 ≤ sizeLine; decide), fun p hp => ?_⟩
      have np := hM1.ne hp
      refine ⟨L, F, p, _, rfl, hM1.new hp, SqL.of upd_same, np.1, np.2, (by show 0 < 4; decide), (by show 4 < 1073741824; decide), fun H2 i x kp2 hM2 hx => ?_⟩
      have kp3 := (kp1.trans (Kp.new hp)).trans kp2
      obtain ⟨m, rfl, m2, m12⟩ : ∃ m : Int, x = .int m ∧ 2 ≤ m ∧ m ≤ 12 := by
        have hx' := List.mem_of_getElem? hx
        simp only [List.mem_cons, List.not_mem_nil, or_false] at hx'
        rcases hx' with rfl | rfl | rfl | rfl
        · exact ⟨2, rfl, by decide, by decide⟩
        · exact ⟨3, rfl, by decide, by decide⟩
        · exact ⟨5, rfl, by decide, by decide⟩
        · exact ⟨12, rfl, by decide, by decide⟩
      refine ⟨L, F, m, rfl, hM2, by omega, m2, fun H3 t x y kp4 hM3 ht sh hy => ⟨(by show 2 ≤ sizeLine; decide), fun p2 hp2 => ?_⟩⟩
      refine q _ p2 (tillD x y) ((kp3.trans kp4).trans (Kp.new hp2)) (hM3.new hp2) ?_ (.till sh (by omega))
      refine .tup (SqT.of upd_same) (.cons (.str _) (.cons (.tup (xs := [.int x, .int y]) (SqT.of ?_) (.cons (.int _) (.cons (.int _) .nil))) .nil))
      rw [upd_ne (ne_of_none ht hp2)]
      exact ht
    · refine ⟨_, rfl, 10, rfl, RgOk.of_le (by decide) (by decide) (by decide) (by decide), fun p hp => ?_⟩
      have np := hM1.ne hp
      have e10 : rgV 0 10 = ([0, 1, 2, 3, 4, 5, 6, 7, 8, 9] : List Int).map V.int := rfl
      rw [e10]
      refine ⟨L, F, p, _, (([0, 1, 2, 3, 4, 5, 6, 7, 8, 9] : List Int).map PyData.int), rfl, hM1.new hp, .inl (SqL.of upd_same), (by decide), dx_ints _, by decide, by decide, fun H2 p2 ys es kp2 hM2 _ hp2 n1 n2 dx pm => ?_⟩
      obtain ⟨ns, rfl, pmn⟩ := perm_ints pm
      have ey := ints_of_dx dx
      subst ey
      have kp3 := (kp1.trans (Kp.new hp)).trans kp2
      -- how many
      refine ⟨_, rfl, (by show 7 ≤ sizeLine; decide), fun p3 hp3 => ?_⟩
      have n3 := hM2.ne hp3
      refine ⟨L, F, p3, _, rfl, hM2.new hp3, SqL.of upd_same, n3.1, n3.2, (by show 0 < 7; decide), (by show 7 < 1073741824; decide), fun H3 i x kp4 hM3 hx => ?_⟩
      have kp5 := (kp3.trans (Kp.new hp3)).trans kp4
      obtain ⟨m, rfl, m1, m6⟩ : ∃ m : Int, x = .int m ∧ 1 ≤ m ∧ m ≤ 6 := by
        have hx' := List.mem_of_getElem? hx
        simp only [List.mem_cons, List.not_mem_nil, or_false] at hx'
        rcases hx' with rfl | rfl | rfl | rfl | rfl | rfl | rfl
        · exact ⟨1, rfl, by decide, by decide⟩
        · exact ⟨2, rfl, by decide, by decide⟩
        · exact ⟨2, rfl, by decide, by decide⟩
        · exact ⟨2, rfl, by decide, by decide⟩
        · exact ⟨3, rfl, by decide, by decide⟩
        · exact ⟨4, rfl, by decide, by decide⟩
        · exact ⟨6, rfl, by decide, by decide⟩
      have hp2' : H3 p2 = some (.lst (ns.map V.int)) := kp4 _ _ n1 n2 (same_new hp3 _ _ hp2)
      refine ⟨_, rfl, p2, _, rfl, SqL.of hp2', fun p4 hp4 => ?_⟩
      rw [cut_take (show (0 : Int) ≤ m by omega), ← List.map_take]
      have hl10 : ns.length = 10 := pmn.length_eq
      have hlt : (ns.take m.toNat).length = m.toNat := by rw [List.length_take, hl10]; omega
      refine ⟨p4, ns.take m.toNat, rfl, SqL.of upd_same, by omega, fun sh p5 pms hs hp5 => ?_⟩
      have nd : ([0, 1, 2, 3, 4, 5, 6, 7, 8, 9] : List Int).Nodup := by decide
      have ndn : ns.Nodup := pmn.nodup_iff.mpr nd
      have ndt : (ns.take m.toNat).Nodup := ndn.sublist (List.take_sublist _ _)
      have nds : sh.Nodup := pms.nodup_iff.mpr ndt
      have lsh : sh.length = m.toNat := by rw [pms.length_eq, hlt]
      have up : sh.Pairwise (· < ·) := (hs.and nds).imp fun h => Int.lt_iff_le_and_ne.mpr h
      have rng : ∀ q ∈ sh, 0 ≤ q ∧ q ≤ 9 := fun q hq => by
        have h1 := List.mem_of_mem_take (pms.subset hq)
        have h2 := pmn.subset h1
        simp only [List.mem_cons, List.not_mem_nil, or_false] at h2
        omega
      have hM4 := hM3.new (o := .lst ((ns.take m.toNat).map V.int)) hp4
      have n5 := hM4.ne hp5
      have M5 := hM4.new (o := .lst (sh.map V.int)) hp5
      have kp6 := (kp5.trans (Kp.new hp4)).trans (Kp.new (o := .lst (sh.map V.int)) hp5)
      have e5 : (upd (upd H3 p4 (.lst ((ns.take m.toNat).map V.int))) p5 (.lst (sh.map V.int))) p5 = some (.lst (sh.map V.int)) := upd_same
      revert M5 kp6 e5
      generalize upd (upd H3 p4 (HO.lst ((ns.take m.toNat).map V.int))) p5 (HO.lst (sh.map V.int)) = G
      intro M5 kp6 e5
      -- the parts
      refine ⟨.ref p5, rfl, p5, rfl, ⟨_, SqL.of e5⟩, fun D1 hD1 => ?_⟩
      have nD := M5.ne hD1
      refine lc_list (K := K) (a := p5) (xs := sh.map V.int) (fun i H' => Kp L F G H' ∧ Lm H' L F ∧ ∃ acc : List Int, H' D1 = some (.lst (acc.map V.int)) ∧ acc.length = i ∧ ∀ x ∈ acc, 1 ≤ x ∧ x ≤ 4)
        ⟨Kp.new hD1, M5.new hD1, [], upd_same, rfl, fun x hx => nomatch hx⟩ (fun i H' _ z => SqL.of (z.1 _ _ n5.1 n5.2 e5)) ?_ ?_
      · rintro i x H4 hx ⟨kp7, hM7, acc, hA, la, hb⟩
        have hi : i < sh.length := by
          have := (List.getElem?_eq_some_iff.mp hx).1
          rw [List.length_map] at this
          exact this
        refine ⟨rfl, yes_of ?_⟩
        refine ⟨_, rfl, L, F, 4, rfl, hM7, by decide, fun H5 k2 kp8 hM8 k20 k2l => ⟨_, _, rfl, rfl, _, kp8 _ _ nD.1 nD.2 hA, small1000 (by rw [List.length_map]; omega), kp_put (kp7.trans kp8) hD1, lm_put hM8 nD.1 nD.2, acc ++ [1 + k2], ?_, ?_, ?_⟩⟩
        · rw [upd_same, List.map_append]
          rfl
        · rw [List.length_append, List.length_singleton, la]
        · intro y hy
          rcases List.mem_append.mp hy with z | z
          · exact hb y z
          · rw [List.mem_singleton.mp z]
            omega
      · rintro H4 ⟨kp7, hM7, parts, hA, la, hb⟩
        rw [List.length_map] at la
        have e6 := kp7 _ _ n5.1 n5.2 e5
        have s0 := sum_bounds hb
        have s1 : 1 ≤ parts.sum ∧ parts.sum ≤ 4 * parts.length := by omega
        have sb : Bg parts.sum := by
          show (parts.sum).natAbs < 2 ^ 8900
          exact Nat.lt_of_lt_of_le (show (parts.sum).natAbs < 2 ^ 20 by omega) (Nat.pow_le_pow_right (by decide) (by decide))
        refine ⟨_, rfl, _, rfl, p5, D1, _, _, rfl, SqL.of e6, SqL.of hA, fun D2 hD2 => ?_⟩
        refine lc_it (walk_zip rfl) (fun i H' => Same H4 H' ∧ ∃ ys : List V, H' D2 = some (.lst ys) ∧ DxAll K (fun _ => False) H' ys ((sidesD (sh.zip parts) parts.sum).take i)) ⟨same_new hD2, [], upd_same, .nil⟩ (fun i H' _ z => ⟨SqL.of (z.1 _ _ e6), SqL.of (z.1 _ _ hA)⟩) ?_ ?_
        · rintro i x H5 H6 hi ⟨sm, ys, hY, dY⟩ ⟨t, x1, y1, rfl, ht, rfl, hx1, hy1⟩
          obtain ⟨n0, hn0, rfl⟩ := int_at hx1
          obtain ⟨q0, hq0, rfl⟩ := int_at hy1
          have sm6 := sm.trans (same_new (o := .tup [.int n0, .int q0]) ht)
          have hY6 : (upd H5 t (.tup [.int n0, .int q0])) D2 = some (.lst ys) := same_new ht _ _ hY
          have dY6 := dxAll_same (same_new (o := .tup [.int n0, .int q0]) ht) dY
          have hz : (sidesD (sh.zip parts) parts.sum)[i]? = some (sideD n0 (fA q0 parts.sum) (fB q0 parts.sum)) := by
            unfold sidesD
            rw [List.getElem?_map, (List.getElem?_zip_eq_some (z := (n0, q0))).mpr ⟨hn0, hq0⟩]
            rfl
          refine ⟨t, _, rfl, SqT.of upd_same, rfl, _, _, rfl, _, _, rfl, rfl, ?_⟩
          refine ⟨rfl, yes_of ?_⟩
          refine ⟨_, rfl, _, rfl, _, rfl, D1, parts, rfl, SqL.of (sm6 _ _ hA), q0, parts.sum, rfl, by omega, sb, fun H7 t7 sm7 ht7 e7 => ⟨(by show 2 ≤ sizeLine; decide), fun p8 hp8 => ?_⟩⟩
          have sm8 := sm7.trans (same_new (o := .tup [.int n0, .ref t7]) hp8)
          refine ⟨ys, sm8 _ _ hY6, ?_, same_put (sm6.trans sm8) hD2, ys ++ [.ref p8], upd_same, ?_⟩
          · have := dxAll_len dY
            rw [List.length_take] at this
            have hi' : i < sh.length := by
              have h1 := hi
              rw [List.length_map, List.length_map] at h1
              omega
            have h2 : ys.length ≤ i := by
              rw [this]
              exact Nat.min_le_left _ _
            exact small1000 (by omega)
          · rw [List.take_add_one, hz]
            refine dxAll_upd (sm8 _ _ hY6) (fun _ z => z.elim) (dxAll_app (dxAll_same sm8 dY6) (.cons ?_ .nil))
            refine .tup (SqT.of upd_same) (.cons (.int _) (.cons (.tup (xs := [.int (fA q0 parts.sum), .int (fB q0 parts.sum)]) (SqT.of ?_) (.cons (.int _) (.cons (.int _) .nil))) .nil))
            rw [upd_ne (ne_of_none e7 hp8)]
            exact e7
        · rintro H5 ⟨sm, ys, hY, dY⟩
          have lz : (sh.zip parts).length = sh.length := by rw [List.length_zip]; omega
          have full : (sidesD (sh.zip parts) parts.sum).take (min (sh.map V.int).length (parts.map V.int).length) = sidesD (sh.zip parts) parts.sum := by
            refine List.take_of_length_le ?_
            unfold sidesD
            rw [List.length_map, lz, List.length_map, List.length_map]
            omega
          rw [full] at dY
          refine ⟨D2, ys, rfl, .inl ⟨SqL.of hY, fun p9 hp9 => ⟨(by show 2 ≤ sizeLine; decide), fun p10 hp10 => ?_⟩⟩⟩
          have sm9 := same_new (o := .tup ys) hp9
          have hM5 := hM7.same sm
          have sm10 := same_new (o := .tup [.str "die", .ref p9]) hp10
          refine q _ p10 (diceD (sh.zip parts) parts.sum) (((kp6.trans kp7).trans (kp_same sm)).trans (kp_same (sm9.trans sm10))) (hM5.same (sm9.trans sm10)) ?_ (.die ?_)
          · refine .tup (SqT.of upd_same) (.cons (.str _) (.cons (.tup (SqT.of (sm10 _ _ upd_same)) ?_) .nil))
            exact dxAll_mono (fun _ _ _ z => z.elim) (dxAll_same (sm9.trans sm10) dY)
          · have m1' : (sh.zip parts).map (·.1) = sh := by rw [List.map_fst_zip]; omega
            have m2' : (sh.zip parts).map (·.2) = parts := by rw [List.map_snd_zip]; omega
            refine ⟨by rw [m1']; exact up, fun r hr' => ?_, fun r hr' => ?_, by rw [m2'], by rw [lz]; omega⟩
            · exact rng _ (by rw [← m1']; exact List.mem_map_of_mem hr')
            · exact hb _ (by rw [← m2']; exact List.mem_map_of_mem hr')
end
end Ev

set_option exponentiation.threshold 10000
namespace Ev
open PySem PySem.Spec PyProof.Rows L2
section
variable {P : Program} {w : World} {K : PySem.W.Frag} {mg : Str → Option Value} {base : Heap} {A : Nat → Addr} {D : Nat → FuncData}
/-! ### values of all kinds, as data -/
theorem upd_two {H : Hp} {p : Addr} {a b : HO} : upd (upd H p a) p b = upd H p b := by
  funext c
  by_cases h : c = p
  · rw [h, upd_same, upd_same]
  · rw [upd_ne h, upd_ne h, upd_ne h]
theorem al_eq {L F p : Addr} {H G : Hp} {ob : HO} (hG : upd H p ob = G) (hM : Lm H L F) (hp : H p = none) :
    Lm G L F ∧ Kp L F H G ∧ G p = some ob ∧ p ≠ L ∧ p ≠ F := by
  subst hG
  exact ⟨hM.new hp, Kp.new hp, upd_same, hM.ne hp⟩
def sp_odd (K : PySem.W.Frag) : Sp := fun vs H Q _ => ∃ (L F : Addr), vs = [.ref L] ∧ Lm H L F ∧
  ∀ (H' : Hp) (x : V) (d : PyData), Kp L F H H' → Lm H' L F → Dx K (ZN L F H) H' x d → Dt 20 3 d → (∀ x y, d = .tuple [x, y] → x.hasDict = false ∧ SeqAt.shaped x = true) → Q x H'
theorem Txt.ok_odd (T : Txt K mg A D) : FnOk P w K mg base CX0 3 (A 17) (D 17) ["loom"] (sp_odd K) := by
  refine T.F_odd.ok sc_odd (fun vs H Q E h => ?_) (fun cdv Ar outer s H vs Q E hr h => ?_)
  · obtain ⟨L, F, rfl, _⟩ := h
    rfl
  · obtain ⟨L, F, rfl, hM, q⟩ := h
    have hu := hu_of hr
    refine ⟨_, (pss_cons (ps_set (i := 1) sc_odd.nd rfl (Or.inl rfl) (pe_lst (pa_cons pe_non (pa_cons pe_bl (pa_cons pe_bl (pa_cons pe_int (pa_cons pe_int (pa_cons (pe_un un_neg pe_int) (pa_cons pe_int (pa_cons (pe_op op_pow pe_int pe_int) (pa_cons pe_str (pa_cons pe_str (pa_cons pe_str (pa_cons pe_str (pa_cons (pe_tup pa_nil) (pa_cons (pe_lst pa_nil) (pa_cons pe_dnewK (pa_cons (pe_tup (pa_cons pe_int pa_nil)) (pa_cons (pe_lst (pa_cons pe_int pa_nil)) (pa_cons (pe_tup (pa_cons pe_int (pa_cons pe_int pa_nil))) (pa_cons (pe_lst (pa_cons (pe_tup (pa_cons pe_int (pa_cons pe_int pa_nil))) pa_nil)) pa_nil)))))))))))))))))))))
    (pss_one (ps_ret (pe_call (T.ok_pick) hr (by rfl) T.g_pick T.k_pick T.b_pick .nil pass0 (pa_cons (pv 0) (pa_cons (pe_op op_cat (pv 1) (pe_lst (pa_cons (pe_disp (pps_cons pe_str pe_int pps_nil) (by rfl) (by rfl) (fun z => by cases z) (by decide)) (pa_cons (pe_tup (pa_cons pe_non (pa_cons pe_non pa_nil))) (pa_cons (pe_tup (pa_cons pe_str pa_nil)) (pa_cons (pe_tup (pa_cons (pe_tup pa_nil) pa_nil)) (pa_cons (pe_tup (pa_cons pe_str (pa_cons (pe_tup pa_nil) pa_nil))) (pa_cons pe_str (pa_cons (pe_tup (pa_cons pe_str (pa_cons pe_int pa_nil))) pa_nil))))))))) pa_nil)))))), ?_⟩
    have z : ∀ n : Nat, n ≤ 100 → n ≤ sizeLine := fun n h => Nat.le_trans h (by decide)
    refine ⟨_, rfl, _, _, rfl, rfl, ⟨by decide, by decide, by decide⟩, ?_⟩
    refine ⟨z 0 (by decide), fun p1 h1 => ?_⟩
    generalize g1 : upd H p1 (HO.tup []) = G1
    obtain ⟨M1, j1, e1, l1, f1⟩ := al_eq g1 hM h1
    clear g1
    refine ⟨z 0 (by decide), fun p2 h2 => ?_⟩
    generalize g2 : upd G1 p2 (HO.lst []) = G2
    obtain ⟨M2, j2, e2, l2, f2⟩ := al_eq g2 M1 h2
    clear g2
    intro p3 h3
    generalize g3 : upd G2 p3 (HO.dK []) = G3
    obtain ⟨M3, j3, e3, l3, f3⟩ := al_eq g3 M2 h3
    clear g3
    refine ⟨z 1 (by decide), fun p4 h4 => ?_⟩
    generalize g4 : upd G3 p4 (HO.tup [.int 0]) = G4
    obtain ⟨M4, j4, e4, l4, f4⟩ := al_eq g4 M3 h4
    clear g4
    refine ⟨z 1 (by decide), fun p5 h5 => ?_⟩
    generalize g5 : upd G4 p5 (HO.lst [.int 1]) = G5
    obtain ⟨M5, j5, e5, l5, f5⟩ := al_eq g5 M4 h5
    clear g5
    refine ⟨z 2 (by decide), fun p6 h6 => ?_⟩
    generalize g6 : upd G5 p6 (HO.tup [.int 1, .int 2]) = G6
    obtain ⟨M6, j6, e6, l6, f6⟩ := al_eq g6 M5 h6
    clear g6
    refine ⟨z 2 (by decide), fun p7 h7 => ?_⟩
    generalize g7 : upd G6 p7 (HO.tup [.int 1, .int 2]) = G7
    obtain ⟨M7, j7, e7, l7, f7⟩ := al_eq g7 M6 h7
    clear g7
    refine ⟨z 1 (by decide), fun p8 h8 => ?_⟩
    generalize g8 : upd G7 p8 (HO.lst [.ref p7]) = G8
    obtain ⟨M8, j8, e8, l8, f8⟩ := al_eq g8 M7 h8
    clear g8
    refine ⟨z 19 (by decide), fun p9 h9 => ?_⟩
    generalize g9 : upd G8 p9 (HO.lst [.non, .bl true, .bl false, .int 0, .int 1, .int (-1), .int 2, .int (10 ^ (40 : Int).toNat), .str "", .str "a", .str "die", .str "till", .ref p1, .ref p2, .ref p3, .ref p4, .ref p5, .ref p6, .ref p8]) = G9
    obtain ⟨M9, j9, e9, l9, f9⟩ := al_eq g9 M8 h9
    clear g9
    refine ⟨_, rfl, _, rfl, ?_⟩
    intro p10 h10
    refine ⟨upd_same, [(Sum.inr "a", .int 1)], rfl, (by show 1 ≤ 15; decide), ?_⟩
    rw [upd_two]
    generalize g10 : upd G9 p10 (HO.dK (mergeK [] [(Sum.inr "a", .int 1)])) = G10
    obtain ⟨M10, j10, e10, l10, f10⟩ := al_eq g10 M9 h10
    clear g10
    refine ⟨z 2 (by decide), fun p11 h11 => ?_⟩
    generalize g11 : upd G10 p11 (HO.tup [.non, .non]) = G11
    obtain ⟨M11, j11, e11, l11, f11⟩ := al_eq g11 M10 h11
    clear g11
    refine ⟨z 1 (by decide), fun p12 h12 => ?_⟩
    generalize g12 : upd G11 p12 (HO.tup [.str "die"]) = G12
    obtain ⟨M12, j12, e12, l12, f12⟩ := al_eq g12 M11 h12
    clear g12
    refine ⟨z 0 (by decide), fun p13 h13 => ?_⟩
    generalize g13 : upd G12 p13 (HO.tup []) = G13
    obtain ⟨M13, j13, e13, l13, f13⟩ := al_eq g13 M12 h13
    clear g13
    refine ⟨z 1 (by decide), fun p14 h14 => ?_⟩
    generalize g14 : upd G13 p14 (HO.tup [.ref p13]) = G14
    obtain ⟨M14, j14, e14, l14, f14⟩ := al_eq g14 M13 h14
    clear g14
    refine ⟨z 0 (by decide), fun p15 h15 => ?_⟩
    generalize g15 : upd G14 p15 (HO.tup []) = G15
    obtain ⟨M15, j15, e15, l15, f15⟩ := al_eq g15 M14 h15
    clear g15
    refine ⟨z 2 (by decide), fun p16 h16 => ?_⟩
    generalize g16 : upd G15 p16 (HO.tup [.str "x", .ref p15]) = G16
    obtain ⟨M16, j16, e16, l16, f16⟩ := al_eq g16 M15 h16
    clear g16
    refine ⟨z 2 (by decide), fun p17 h17 => ?_⟩
    generalize g17 : upd G16 p17 (HO.tup [.str "less", .int 0]) = G17
    obtain ⟨M17, j17, e17, l17, f17⟩ := al_eq g17 M16 h17
    clear g17
    refine ⟨z 7 (by decide), fun p18 h18 => ?_⟩
    generalize g18 : upd G17 p18 (HO.lst [.ref p10, .ref p11, .ref p12, .ref p14, .ref p16, .str "x: skip", .ref p17]) = G18
    obtain ⟨M18, j18, e18, l18, f18⟩ := al_eq g18 M17 h18
    clear g18
    have e9' := (j10.trans (j11.trans (j12.trans (j13.trans (j14.trans (j15.trans (j16.trans (j17.trans j18)))))))) p9 _ l9 f9 e9
    refine ⟨p9, p18, _, _, rfl, rfl, e9', e18, (by show 26 ≤ sizeLine; decide), fun p19 h19 => ?_⟩
    generalize g19 : upd G18 p19 (HO.lst ([.non, .bl true, .bl false, .int 0, .int 1, .int (-1), .int 2, .int (10 ^ (40 : Int).toNat), .str "", .str "a", .str "die", .str "till", .ref p1, .ref p2, .ref p3, .ref p4, .ref p5, .ref p6, .ref p8] ++ [.ref p10, .ref p11, .ref p12, .ref p14, .ref p16, .str "x: skip", .ref p17])) = G19
    obtain ⟨M19, j19, e19, l19, f19⟩ := al_eq g19 M18 h19
    have kk18 := j19
    have kk17 := j18.trans kk18
    have kk16 := j17.trans kk17
    have kk15 := j16.trans kk16
    have kk14 := j15.trans kk15
    have kk13 := j14.trans kk14
    have kk12 := j13.trans kk13
    have kk11 := j12.trans kk12
    have kk10 := j11.trans kk11
    have kk9 := j10.trans kk10
    have kk8 := j9.trans kk9
    have kk7 := j8.trans kk8
    have kk6 := j7.trans kk7
    have kk5 := j6.trans kk6
    have kk4 := j5.trans kk5
    have kk3 := j4.trans kk4
    have kk2 := j3.trans kk3
    have kk1 := j2.trans kk2
    have kk0 : Kp L F H G19 := j1.trans kk1
    have q1 := kk1 p1 _ l1 f1 e1
    have q2 := kk2 p2 _ l2 f2 e2
    have q3 := kk3 p3 _ l3 f3 e3
    have q4 := kk4 p4 _ l4 f4 e4
    have q5 := kk5 p5 _ l5 f5 e5
    have q6 := kk6 p6 _ l6 f6 e6
    have q7 := kk7 p7 _ l7 f7 e7
    have q8 := kk8 p8 _ l8 f8 e8
    have q10 := kk10 p10 _ l10 f10 e10
    have q11 := kk11 p11 _ l11 f11 e11
    have q12 := kk12 p12 _ l12 f12 e12
    have q13 := kk13 p13 _ l13 f13 e13
    have q14 := kk14 p14 _ l14 f14 e14
    have q15 := kk15 p15 _ l15 f15 e15
    have q16 := kk16 p16 _ l16 f16 e16
    have q17 := kk17 p17 _ l17 f17 e17
    refine ⟨L, F, p19, _, rfl, M19, SqL.of e19, l19, f19, (by show 0 < 26; decide), (by show 26 < 1073741824; decide), fun H2 i x kp hM2 hx => ?_⟩
    have main : ∃ d, Dx K (ZN L F H) G19 x d ∧ Dt 20 3 d ∧ (∀ x y, d = .tuple [x, y] → x.hasDict = false ∧ SeqAt.shaped x = true) := by
      have hx' := List.mem_of_getElem? hx
      simp only [List.cons_append, List.nil_append, List.mem_cons, List.not_mem_nil, or_false] at hx'
      have i2 : ∀ (a b : Int), DxAll K (ZN L F H) G19 [.int a, .int b] [.int a, .int b] := fun a b => .cons (.int _) (.cons (.int _) .nil)
      rcases hx' with rfl | rfl | rfl | rfl | rfl | rfl | rfl | rfl | rfl | rfl | rfl | rfl | rfl | rfl | rfl | rfl | rfl | rfl | rfl | rfl | rfl | rfl | rfl | rfl | rfl | rfl
      · exact ⟨_, .non, ⟨by decide +kernel, by decide +kernel, by decide +kernel⟩, by intro x y hxy; first | (cases hxy; done) | (cases hxy; exact ⟨rfl, by decide +kernel⟩)⟩
      · exact ⟨_, .bl _, ⟨by decide +kernel, by decide +kernel, by decide +kernel⟩, by intro x y hxy; first | (cases hxy; done) | (cases hxy; exact ⟨rfl, by decide +kernel⟩)⟩
      · exact ⟨_, .bl _, ⟨by decide +kernel, by decide +kernel, by decide +kernel⟩, by intro x y hxy; first | (cases hxy; done) | (cases hxy; exact ⟨rfl, by decide +kernel⟩)⟩
      · exact ⟨_, .int _, ⟨by decide +kernel, by decide +kernel, by decide +kernel⟩, by intro x y hxy; first | (cases hxy; done) | (cases hxy; exact ⟨rfl, by decide +kernel⟩)⟩
      · exact ⟨_, .int _, ⟨by decide +kernel, by decide +kernel, by decide +kernel⟩, by intro x y hxy; first | (cases hxy; done) | (cases hxy; exact ⟨rfl, by decide +kernel⟩)⟩
      · exact ⟨_, .int _, ⟨by decide +kernel, by decide +kernel, by decide +kernel⟩, by intro x y hxy; first | (cases hxy; done) | (cases hxy; exact ⟨rfl, by decide +kernel⟩)⟩
      · exact ⟨_, .int _, ⟨by decide +kernel, by decide +kernel, by decide +kernel⟩, by intro x y hxy; first | (cases hxy; done) | (cases hxy; exact ⟨rfl, by decide +kernel⟩)⟩
      · exact ⟨_, .int _, ⟨by decide +kernel, by decide +kernel, by decide +kernel⟩, by intro x y hxy; first | (cases hxy; done) | (cases hxy; exact ⟨rfl, by decide +kernel⟩)⟩
      · exact ⟨_, .str _, ⟨by decide +kernel, by decide +kernel, by decide +kernel⟩, by intro x y hxy; first | (cases hxy; done) | (cases hxy; exact ⟨rfl, by decide +kernel⟩)⟩
      · exact ⟨_, .str _, ⟨by decide +kernel, by decide +kernel, by decide +kernel⟩, by intro x y hxy; first | (cases hxy; done) | (cases hxy; exact ⟨rfl, by decide +kernel⟩)⟩
      · exact ⟨_, .str _, ⟨by decide +kernel, by decide +kernel, by decide +kernel⟩, by intro x y hxy; first | (cases hxy; done) | (cases hxy; exact ⟨rfl, by decide +kernel⟩)⟩
      · exact ⟨_, .str _, ⟨by decide +kernel, by decide +kernel, by decide +kernel⟩, by intro x y hxy; first | (cases hxy; done) | (cases hxy; exact ⟨rfl, by decide +kernel⟩)⟩
      · exact ⟨_, .tup (SqT.of q1) .nil, ⟨by decide +kernel, by decide +kernel, by decide +kernel⟩, by intro x y hxy; first | (cases hxy; done) | (cases hxy; exact ⟨rfl, by decide +kernel⟩)⟩
      · exact ⟨_, .lst q2 ⟨l2, f2, none_back j1 h2 l2 f2⟩ .nil, ⟨by decide +kernel, by decide +kernel, by decide +kernel⟩, by intro x y hxy; first | (cases hxy; done) | (cases hxy; exact ⟨rfl, by decide +kernel⟩)⟩
      · exact ⟨_, .dct q3 ⟨l3, f3, none_back (j1.trans j2) h3 l3 f3⟩ .nil, ⟨by decide +kernel, by decide +kernel, by decide +kernel⟩, by intro x y hxy; first | (cases hxy; done) | (cases hxy; exact ⟨rfl, by decide +kernel⟩)⟩
      · exact ⟨_, .tup (SqT.of q4) (.cons (.int _) .nil), ⟨by decide +kernel, by decide +kernel, by decide +kernel⟩, by intro x y hxy; first | (cases hxy; done) | (cases hxy; exact ⟨rfl, by decide +kernel⟩)⟩
      · exact ⟨_, .lst q5 ⟨l5, f5, none_back (((j1.trans j2).trans j3).trans j4) h5 l5 f5⟩ (.cons (.int _) .nil), ⟨by decide +kernel, by decide +kernel, by decide +kernel⟩, by intro x y hxy; first | (cases hxy; done) | (cases hxy; exact ⟨rfl, by decide +kernel⟩)⟩
      · exact ⟨_, .tup (SqT.of q6) (i2 _ _), ⟨by decide +kernel, by decide +kernel, by decide +kernel⟩, by intro x y hxy; first | (cases hxy; done) | (cases hxy; exact ⟨rfl, by decide +kernel⟩)⟩
      · exact ⟨_, .lst q8 ⟨l8, f8, none_back ((((((j1.trans j2).trans j3).trans j4).trans j5).trans j6).trans j7) h8 l8 f8⟩ (.cons (.tup (SqT.of q7) (i2 _ _)) .nil), ⟨by decide +kernel, by decide +kernel, by decide +kernel⟩, by intro x y hxy; first | (cases hxy; done) | (cases hxy; exact ⟨rfl, by decide +kernel⟩)⟩
      · exact ⟨_, .dct q10 ⟨l10, f10, none_back ((((((((j1.trans j2).trans j3).trans j4).trans j5).trans j6).trans j7).trans j8).trans j9) h10 l10 f10⟩ (.cons (.int _) .nil), ⟨by decide +kernel, by decide +kernel, by decide +kernel⟩, by intro x y hxy; first | (cases hxy; done) | (cases hxy; exact ⟨rfl, by decide +kernel⟩)⟩
      · exact ⟨_, .tup (SqT.of q11) (.cons .non (.cons .non .nil)), ⟨by decide +kernel, by decide +kernel, by decide +kernel⟩, by intro x y hxy; first | (cases hxy; done) | (cases hxy; exact ⟨rfl, by decide +kernel⟩)⟩
      · exact ⟨_, .tup (SqT.of q12) (.cons (.str _) .nil), ⟨by decide +kernel, by decide +kernel, by decide +kernel⟩, by intro x y hxy; first | (cases hxy; done) | (cases hxy; exact ⟨rfl, by decide +kernel⟩)⟩
      · exact ⟨_, .tup (SqT.of q14) (.cons (.tup (SqT.of q13) .nil) .nil), ⟨by decide +kernel, by decide +kernel, by decide +kernel⟩, by intro x y hxy; first | (cases hxy; done) | (cases hxy; exact ⟨rfl, by decide +kernel⟩)⟩
      · exact ⟨_, .tup (SqT.of q16) (.cons (.str _) (.cons (.tup (SqT.of q15) .nil) .nil)), ⟨by decide +kernel, by decide +kernel, by decide +kernel⟩, by intro x y hxy; first | (cases hxy; done) | (cases hxy; exact ⟨rfl, by decide +kernel⟩)⟩
      · exact ⟨_, .str _, ⟨by decide +kernel, by decide +kernel, by decide +kernel⟩, by intro x y hxy; first | (cases hxy; done) | (cases hxy; exact ⟨rfl, by decide +kernel⟩)⟩
      · exact ⟨_, .tup (SqT.of q17) (.cons (.str _) (.cons (.int _) .nil)), ⟨by decide +kernel, by decide +kernel, by decide +kernel⟩, by intro x y hxy; first | (cases hxy; done) | (cases hxy; exact ⟨rfl, by decide +kernel⟩)⟩
    obtain ⟨d, hd, dt, wk⟩ := main
    exact q H2 x d (kk0.trans kp) hM2 (dx_kpn kp M19 hd) dt wk
end
end Ev

set_option exponentiation.threshold 10000
namespace Ev
open PySem PySem.Spec PyProof.Rows L2
/-! ### the law's own look at a die -/
def wholeD (d : PyData) (lo hi : Int) : Bool :=
  match d with
  | .int i => decide (lo ≤ i) && decide (i ≤ hi)
  | _ => false
def posD : PyData → Bool
  | .int i => decide (1 ≤ i)
  | _ => false
/-- a fraction above 0, below 1 if it is asked -/
def shareD (d : PyData) (isOpen : Bool) : Bool :=
  match d with
  | .tuple [.int a, .int b] => decide (1 ≤ a) && decide (1 ≤ b) && decide (gc a b = 1) && (decide (a < b) || !isOpen)
  | _ => false
theorem int_of {d : PyData} (a : isInt d = true) (b : isBool d = false) : ∃ i, d = .int i := by
  cases d <;> first | exact ⟨_, rfl⟩ | (cases a; done) | (cases b; done)
theorem whole_no {d : PyData} (lo hi : Int) (h : isInt d = false ∨ isBool d = true) : wholeD d lo hi = false := by
  cases d <;> first | rfl | (rcases h with h | h <;> cases h)
theorem tup_of {d : PyData} (a : isTup d = true) : ∃ ds, d = .tuple ds := by
  cases d <;> first | exact ⟨_, rfl⟩ | (cases a; done)
theorem share_no {d : PyData} (o : Bool) (h : isTup d = false) : shareD d o = false := by
  cases d <;> first | rfl | cases h
theorem share_len {ds : List PyData} (o : Bool) (h : ds.length ≠ 2) : shareD (.tuple ds) o = false := by
  match ds, h with
  | [], _ => rfl
  | [a], _ => cases a <;> rfl
  | [a, b], h => exact absurd rfl h
  | a :: b :: c :: r, _ => cases a <;> first | rfl | (cases b <;> rfl)
theorem share_item {ds : List PyData} (o : Bool) {d : PyData} (m : d ∈ ds) (h : posD d = false) : shareD (.tuple ds) o = false := by
  match ds, m with
  | [], m => cases m
  | [a], m => cases a <;> rfl
  | [a, b], m =>
    cases a <;> cases b <;> first | rfl | skip
    rename_i x y
    have e : d = .int x ∨ d = .int y := by simpa using m
    show (decide (1 ≤ x) && decide (1 ≤ y) && decide (gc x y = 1) && (decide (x < y) || !o)) = false
    rcases e with rfl | rfl
    · have : decide (1 ≤ x) = false := h
      rw [this]
      rfl
    · have : decide (1 ≤ y) = false := h
      rw [this, Bool.and_false]
      rfl
  | a :: b :: c :: r, _ => cases a <;> first | rfl | (cases b <;> rfl)
theorem pos_of {d : PyData} (h : posD d = true) : ∃ i, d = .int i ∧ 1 ≤ i := by
  cases d <;> first | exact ⟨_, rfl, of_decide_eq_true h⟩ | cases h
theorem bfalse {b : Bool} (h : ¬ b = true) : b = false := by cases b <;> simp_all
section
variable {P : Program} {w : World} {K : PySem.W.Frag} {mg : Str → Option Value} {base : Heap} {A : Nat → Addr} {D : Nat → FuncData}
def sp_is_whole (K : PySem.W.Frag) : Sp := fun vs H Q _ => ∃ (Z : Addr → Prop) (v : V) (d : PyData) (lo hi : Int), vs = [v, .int lo, .int hi] ∧ Dx K Z H v d ∧ Q (.bl (wholeD d lo hi)) H
theorem Txt.ok_is_whole (T : Txt K mg A D) : FnOk P w K mg base CX0 1 (A 18) (D 18) ["value", "low", "high"] (sp_is_whole K) := by
  refine T.F_is_whole.ok sc_is_whole (fun vs H Q E h => ?_) (fun cdv Ar outer s H vs Q E hr h => ?_)
  · obtain ⟨Z, v, d, lo, hi, rfl, _⟩ := h
    rfl
  · obtain ⟨Z, v, d, lo, hi, rfl, hd, q⟩ := h
    refine ⟨_, (pss_one (ps_ret (pe_and (pe_callB call_isi (by rfl) T.z_isinstance (by decide +kernel) (pa_cons (pv 0) (pa_cons (pe_bltn (v := .ty "int") (by rfl) T.z_int (by decide +kernel) rfl) pa_nil))) (pe_and (pe_not (pe_callB call_isi (by rfl) T.z_isinstance (by decide +kernel) (pa_cons (pv 0) (pa_cons (pe_bltn (v := .ty "bool") (by rfl) T.z_bool (by decide +kernel) rfl) pa_nil)))) (pe_one (pe_chain op_le op_le (pv 1) (pv 0) (pv 2))))))), ?_⟩
    refine ⟨_, rfl, _, _, _, _, isInt d, rfl, .ty "int", dx_ty hd, kit_int d, _, rfl, ite2 (fun e1 => ?_) (fun e1 => ?_)⟩
    · refine ⟨_, rfl, _, _, _, _, isBool d, rfl, .ty "bool", dx_ty hd, kit_bool d, _, rfl, _, rfl, ite2 (fun e2 => ?_) (fun e2 => ?_)⟩
      · have nb : isBool d = false := by
          cases z : isBool d with
          | false => rfl
          | true => rw [z] at e2; exact absurd e2 (by decide)
        obtain ⟨i, rfl⟩ := int_of e1 nb
        have ev := dx_int hd
        subst ev
        refine ⟨_, rfl, _, rfl, _, _, rfl, rfl, _, rfl, ite2 (fun e3 => ?_) (fun e3 => ?_)⟩
        · refine ⟨_, rfl, _, _, rfl, rfl, ?_⟩
          have z : wholeD (.int i) lo hi = decide (i ≤ hi) := by
            show (decide (lo ≤ i) && decide (i ≤ hi)) = _
            rw [e3, Bool.true_and]
          rw [z] at q
          exact q
        · have z : wholeD (.int i) lo hi = false := by
            show (decide (lo ≤ i) && decide (i ≤ hi)) = _
            rw [bfalse e3, Bool.false_and]
          rw [z] at q
          exact q
      · have yb : isBool d = true := by
          cases z : isBool d with
          | true => rfl
          | false => rw [z] at e2; exact absurd rfl e2
        rw [whole_no lo hi (.inr yb)] at q
        exact q
    · rw [whole_no lo hi (.inl (bfalse e1))] at q
      exact q
def sp_is_share (K : PySem.W.Frag) : Sp := fun vs H Q _ => ∃ (Z : Addr → Prop) (v : V) (d : PyData) (o : Bool), vs = [v, .bl o] ∧ Dx K Z H v d ∧ Q (.bl (shareD d o)) H
theorem Txt.ok_is_share (T : Txt K mg A D) : FnOk P w K mg base CX0 2 (A 19) (D 19) ["value", "is_open"] (sp_is_share K) := by
  refine T.F_is_share.ok sc_is_share (fun vs H Q E h => ?_) (fun cdv Ar outer s H vs Q E hr h => ?_)
  · obtain ⟨Z, v, d, o, rfl, _⟩ := h
    rfl
  · obtain ⟨Z, v, d, o, rfl, hd, q⟩ := h
    refine ⟨_, (pss_cons (ps_if (PW.pt (pw_or (pt_not (pt_val (pe_callB call_isi (by rfl) T.z_isinstance (by decide +kernel) (pa_cons (pv 0) (pa_cons (pe_bltn (v := .ty "tuple") (by rfl) T.z_tuple (by decide +kernel) rfl) pa_nil))))) (pw_or1 (pt_cmpR op_ne (pe_callB call_len_seq (by rfl) T.z_len (by decide +kernel) (pa_cons (pv 0) pa_nil)) pe_int (nomark _))))) (pss_one (ps_ret pe_bl)) pss_nil)
    (pss_cons (ps_for PassesOwn.never rfl (pi_tup (pv 0)) (pg_name (i := 2) sc_is_share.nd rfl (Or.inl rfl)) (pss_one (ps_if (PW.pt (pw_or (pt_not (pt_val (pe_callB call_isi (by rfl) T.z_isinstance (by decide +kernel) (pa_cons (pv 2) (pa_cons (pe_bltn (v := .ty "int") (by rfl) T.z_int (by decide +kernel) rfl) pa_nil))))) (pw_or (pt_val (pe_callB call_isi (by rfl) T.z_isinstance (by decide +kernel) (pa_cons (pv 2) (pa_cons (pe_bltn (v := .ty "bool") (by rfl) T.z_bool (by decide +kernel) rfl) pa_nil)))) (pw_or1 (pt_cmpR op_lt (pv 2) pe_int (nomark _)))))) (pss_one (ps_ret pe_bl)) pss_nil)))
    (pss_one (ps_ret (pe_and (pe_cmpR op_eq (pe_call (T.ok_gcd) hr (by rfl) T.g_gcd T.k_gcd T.b_gcd .nil pass0 (pa_cons (pe_ix ix_tup (pv 0) pe_int (fun _ _ => rfl)) (pa_cons (pe_ix ix_tup (pv 0) pe_int (fun _ _ => rfl)) pa_nil))) pe_int (nomark _)) (pe_one (pe_or (pe_cmpR op_lt (pe_ix ix_tup (pv 0) pe_int (fun _ _ => rfl)) (pe_ix ix_tup (pv 0) pe_int (fun _ _ => rfl)) (nomark _)) (pe_one (pe_not (pv 1)))))))))), ?_⟩
    refine ⟨_, rfl, _, _, _, _, isTup d, rfl, .ty "tuple", dx_ty hd, kit_tup d, _, rfl, ite2 (fun e1 => ?_) (fun e1 => ?_)⟩
    · have nt : isTup d = false := by
        cases z : isTup d with
        | false => rfl
        | true => rw [z] at e1; exact absurd e1 (by decide)
      rw [share_no o nt] at q
      exact iteT q
    · have yt : isTup d = true := by
        cases z : isTup d with
        | true => rfl
        | false => rw [z] at e1; exact absurd rfl e1
      obtain ⟨ds, rfl⟩ := tup_of yt
      obtain ⟨a, xs, rfl, hS, dx⟩ := dx_tup hd
      have lx := dxAll_len dx
      refine ⟨_, rfl, a, xs, rfl, .inr hS, rfl, _, rfl, ite2 (fun e2 => ?_) (fun e2 => ?_)⟩
      · have n2 : ds.length ≠ 2 := fun z => vne e2 (by rw [lx, z]; rfl)
        rw [share_len o n2] at q
        exact q
      have l2 : ds.length = 2 := by
        have := V.int.inj (veq e2)
        omega
      refine ⟨_, rfl, a, rfl, ⟨_, hS⟩, for_it walk_tup (fun i σ H' => H' = H ∧ (∃ y : Option V, σ = [some (.ref a), some (.bl o), y]) ∧ ∀ j d, j < i → ds[j]? = some d → posD d = true) ⟨rfl, ⟨none, rfl⟩, fun j d h => absurd h (Nat.not_lt_zero _)⟩ (fun i σ H' _ z => by rw [z.1]; exact hS) ?_ ?_⟩
      · rintro i x σ H2 H3 hi ⟨rfl, ⟨y, rfl⟩, hp⟩ ⟨rfl, hx⟩
        obtain ⟨d, hd, dd⟩ := dxAll_get dx hx
        have hm := List.mem_of_getElem? hd
        have no : posD d = false → Q (.bl false) H3 := fun h => by
          rw [share_item o hm h] at q
          exact q
        refine ⟨_, rfl, _, _, _, _, isInt d, rfl, .ty "int", dx_ty dd, kit_int d, _, rfl, ite2 (fun e3 => ?_) (fun e3 => ?_)⟩
        · refine iteT (no ?_)
          cases d <;> first | rfl | (exact absurd (show (!true) = true from e3) (by decide))
        · refine ⟨_, rfl, _, _, _, _, isBool d, rfl, .ty "bool", dx_ty dd, kit_bool d, _, rfl, ite2 (fun e4 => ?_) (fun e4 => ?_)⟩
          · refine iteT (no ?_)
            cases d <;> first | rfl | (exact absurd (show false = true from e4) (by decide))
          · have yi : isInt d = true := by
              cases z : isInt d with
              | true => rfl
              | false => rw [z] at e3; exact absurd rfl e3
            obtain ⟨i0, rfl⟩ := int_of yi (bfalse e4)
            have ev := dx_int dd
            subst ev
            refine ⟨_, rfl, _, _, rfl, rfl, _, rfl, ite2 (fun e5 => ?_) (fun e5 => ?_)⟩
            · refine no ?_
              have := of_decide_eq_true e5
              exact decide_eq_false (by omega)
            · refine ⟨rfl, ⟨_, rfl⟩, fun j d' hj hd' => ?_⟩
              by_cases ej : j < i
              · exact hp j d' ej hd'
              · have : j = i := by omega
                rw [this, hd] at hd'
                rw [← Option.some.inj hd']
                exact decide_eq_true (by
                  have := Int.not_lt.mp fun z => e5 (decide_eq_true z)
                  omega)
      · rintro σ H2 ⟨rfl, ⟨y, rfl⟩, hp⟩
        have two : ∃ d0 d1, ds = [d0, d1] := by
          match ds, l2 with
          | [d0, d1], _ => exact ⟨d0, d1, rfl⟩
        obtain ⟨d0, d1, rfl⟩ := two
        obtain ⟨x, rfl, x1⟩ := pos_of (hp 0 d0 (by rw [lx]; exact Nat.zero_lt_succ _) rfl)
        obtain ⟨y, rfl, y1⟩ := pos_of (hp 1 d1 (by rw [lx]; exact Nat.lt_succ_self 1) rfl)
        have ex : xs = [V.int x, V.int y] := ints_of_dx (ns := [x, y]) dx
        subst ex
        have a0 : atI [V.int x, V.int y] 0 = some (.int x) := atI_nat (j := 0) rfl
        have a1 : atI [V.int x, V.int y] 1 = some (.int y) := atI_nat (j := 1) rfl
        have val : shareD (.tuple [.int x, .int y]) o = (decide (gc x y = 1) && (decide (x < y) || !o)) := by
          show (decide (1 ≤ x) && decide (1 ≤ y) && decide (gc x y = 1) && (decide (x < y) || !o)) = _
          rw [decide_eq_true x1, decide_eq_true y1]
          rfl
        rw [val] at q
        refine ⟨_, rfl, a, _, _, _, rfl, rfl, hS, a0, _, rfl, a, _, _, _, rfl, rfl, hS, a1, x, y, rfl, rfl, _, rfl, ite2 (fun e3 => ?_) (fun e3 => ?_)⟩
        · have g : gc x y = 1 := by
            have := V.int.inj (of_decide_eq_true e3)
            omega
          rw [decide_eq_true g, Bool.true_and] at q
          refine ⟨_, rfl, a, _, _, _, rfl, rfl, hS, a0, _, rfl, a, _, _, _, rfl, rfl, hS, a1, _, _, rfl, rfl, _, rfl, ite2 (fun e4 => ?_) (fun e4 => ?_)⟩
          · rw [e4, Bool.true_or] at q
            exact q
          · rw [bfalse e4, Bool.false_or] at q
            exact ⟨_, rfl, _, rfl, q⟩
        · have g : ¬ gc x y = 1 := fun z => e3 (decide_eq_true (by rw [z]; rfl))
          rw [decide_eq_false g, Bool.false_and] at q
          exact q
end
end Ev

set_option exponentiation.threshold 10000
namespace Ev
open PySem PySem.Spec PyProof.Rows L2
theorem Bg.mulW {a b : Int} (ha : Bg a) (hb : Bg b) : CMulW a b := wide_mul ha hb (by decide) (by decide) (by decide)
/-! ### the first that fails -/
def firstN (p : Nat → Bool) : Nat → Nat → Option Nat
  | _, 0 => none
  | k, n + 1 => if p k = true then some k else firstN p (k + 1) n
theorem first_some {p : Nat → Bool} : ∀ (n k i : Nat), (∀ j, k ≤ j → j < i → p j = false) → k ≤ i → i < k + n → p i = true → firstN p k n = some i
  | 0, k, i, _, h1, h2, _ => by omega
  | n + 1, k, i, h, h1, h2, hp => by
    unfold firstN
    by_cases e : k = i
    · subst e
      rw [if_pos hp]
    · rw [if_neg (by rw [h k (Nat.le_refl _) (by omega)]; exact Bool.false_ne_true)]
      exact first_some n (k + 1) i (fun j a b => h j (by omega) b) (by omega) (by omega) hp
theorem first_none {p : Nat → Bool} : ∀ (n k : Nat), (∀ j, k ≤ j → j < k + n → p j = false) → firstN p k n = none
  | 0, k, _ => rfl
  | n + 1, k, h => by
    unfold firstN
    rw [if_neg (by rw [h k (Nat.le_refl _) (by omega)]; exact Bool.false_ne_true)]
    exact first_none n (k + 1) fun j a b => h j (by omega) (by omega)
def sideOk : PyData → Bool
  | .tuple [n, s] => wholeD n 0 9 && shareD s false
  | _ => false
def numD : PyData → Int
  | .tuple [.int n, _] => n
  | _ => 0
def frD : PyData → Int × Int
  | .tuple [_, .tuple [.int a, .int b]] => (a, b)
  | _ => (0, 1)
def plusF (x y : Int × Int) : Int × Int := (fA (x.1 * y.2 + y.1 * x.2) (x.2 * y.2), fB (x.1 * y.2 + y.1 * x.2) (x.2 * y.2))
def sumF (ds : List PyData) : Int × Int := (ds.map frD).foldl plusF (0, 1)
def slipSides (ds : List PyData) : PyData :=
  match firstN (fun j => !sideOk (ds.getD j .none)) 0 ds.length with
  | some i => .tuple [.str "side", .int i]
  | none => match firstN (fun j => decide (numD (ds.getD j .none) ≤ numD (ds.getD (j - 1) .none))) 1 (ds.length - 1) with
    | some i => .tuple [.str "order", .int i]
    | none => if sumF ds = (1, 1) then .none else .str "sum"
theorem side_inv {d : PyData} (h : sideOk d = true) : ∃ n a b : Int, d = .tuple [.int n, .tuple [.int a, .int b]] ∧ 1 ≤ a ∧ 1 ≤ b ∧ gc a b = 1 ∧ 0 ≤ n ∧ n ≤ 9 := by
  match d, h with
  | .tuple [x, y], h =>
    have h' : (wholeD x 0 9 && shareD y false) = true := h
    rw [Bool.and_eq_true] at h'
    obtain ⟨h1, h2⟩ := h'
    match x, h1 with
    | .int n, h1 =>
      have h1' : (decide (0 ≤ n) && decide (n ≤ 9)) = true := h1
      rw [Bool.and_eq_true, decide_eq_true_eq, decide_eq_true_eq] at h1'
      match y, h2 with
      | .tuple [.int a, .int b], h2 =>
        have h2' : (decide (1 ≤ a) && decide (1 ≤ b) && decide (gc a b = 1) && (decide (a < b) || !false)) = true := h2
        rw [Bool.and_eq_true, Bool.and_eq_true, Bool.and_eq_true, decide_eq_true_eq, decide_eq_true_eq, decide_eq_true_eq] at h2'
        exact ⟨n, a, b, rfl, h2'.1.1.1, h2'.1.1.2, h2'.1.2, h1'.1, h1'.2⟩
theorem grow_bound {A B c d : Int} {E F : Nat} (hA : A.natAbs ≤ E) (hB : B.natAbs ≤ E) (hc : c.natAbs ≤ F) (hd : d.natAbs ≤ F) : (A * d + c * B).natAbs ≤ E * (2 * F) ∧ (B * d).natAbs ≤ E * (2 * F) := by
  have h1 : (A * d).natAbs ≤ E * F := by
    rw [Int.natAbs_mul]
    exact Nat.mul_le_mul hA hd
  have h2 : (c * B).natAbs ≤ E * F := by
    rw [Int.natAbs_mul, Nat.mul_comm]
    exact Nat.mul_le_mul hB hc
  have h3 : (B * d).natAbs ≤ E * F := by
    rw [Int.natAbs_mul]
    exact Nat.mul_le_mul hB hd
  have e : E * (2 * F) = E * F + E * F := by rw [Nat.mul_left_comm, Nat.two_mul]
  have h4 := Int.natAbs_add_le (A * d) (c * B)
  omega
theorem pow1401 (i : Nat) : 2 ^ (1401 * (i + 1)) = 2 ^ (1401 * i) * (2 * 2 ^ 1400) := by
  rw [Nat.mul_succ, Nat.pow_add]
theorem bg_of {x : Int} {i : Nat} (h : x.natAbs ≤ 2 ^ (1401 * i)) (hi : i ≤ 6) : Bg x :=
  Nat.lt_of_le_of_lt h (Nat.pow_lt_pow_right (by decide) (by omega))
theorem side_tup {d : PyData} (h : isTup d = false) : sideOk d = false := by
  cases d <;> first | rfl | cases h
theorem side_len {ds : List PyData} (h : ds.length ≠ 2) : sideOk (.tuple ds) = false := by
  match ds, h with
  | [], _ => rfl
  | [_], _ => rfl
  | [_, _], h => exact absurd rfl h
  | _ :: _ :: _ :: _, _ => rfl
section
variable {P : Program} {w : World} {K : PySem.W.Frag} {mg : Str → Option Value} {base : Heap} {A : Nat → Addr} {D : Nat → FuncData}
def sp_plus (K : PySem.W.Frag) : Sp := fun vs H Q _ => ∃ (s t : Addr) (a b c d : Int), vs = [.ref s, .ref t] ∧ SqT K H s [.int a, .int b] ∧ SqT K H t [.int c, .int d] ∧ b * d ≠ 0 ∧ Bg a ∧ Bg b ∧ Bg c ∧ Bg d ∧ Bg (b * d) ∧
  ∀ (H' : Hp) (p : Addr), Same H H' → H p = none → H' p = some (.tup [.int (fA (a * d + c * b) (b * d)), .int (fB (a * d + c * b) (b * d))]) → Q (.ref p) H'
theorem Txt.ok_plus (T : Txt K mg A D) : FnOk P w K mg base CX0 3 (A 14) (D 14) ["one", "other"] (sp_plus K) := by
  refine T.F_plus.ok sc_plus (fun vs H Q E h => ?_) (fun cdv Ar outer s H vs Q E hr h => ?_)
  · obtain ⟨s, t, a, b, c, d, rfl, _⟩ := h
    rfl
  · obtain ⟨s1, t1, a, b, c, d, rfl, h1, h2, n0, ba, bb, bc, bd, bp, q⟩ := h
    refine ⟨_, (pss_one (ps_ret (pe_call (T.ok_frac) hr (by rfl) T.g_frac T.k_frac T.b_frac .nil pass0 (pa_cons (pe_op op_add (pe_op op_mulW (pe_ix ix_tup (pv 0) pe_int (fun _ _ => rfl)) (pe_ix ix_tup (pv 1) pe_int (fun _ _ => rfl))) (pe_op op_mulW (pe_ix ix_tup (pv 1) pe_int (fun _ _ => rfl)) (pe_ix ix_tup (pv 0) pe_int (fun _ _ => rfl)))) (pa_cons (pe_op op_mulW (pe_ix ix_tup (pv 0) pe_int (fun _ _ => rfl)) (pe_ix ix_tup (pv 1) pe_int (fun _ _ => rfl))) pa_nil))))), ?_⟩
    have a0 : ∀ x y : Int, atI [V.int x, V.int y] 0 = some (.int x) := fun x y => atI_nat (j := 0) rfl
    have a1 : ∀ x y : Int, atI [V.int x, V.int y] 1 = some (.int y) := fun x y => atI_nat (j := 1) rfl
    refine ⟨_, rfl, s1, _, _, _, rfl, rfl, h1, a0 _ _, _, rfl, t1, _, _, _, rfl, rfl, h2, a1 _ _, _, _, rfl, rfl, ba.mulW bd, ?_⟩
    refine ⟨_, rfl, t1, _, _, _, rfl, rfl, h2, a0 _ _, _, rfl, s1, _, _, _, rfl, rfl, h1, a1 _ _, _, _, rfl, rfl, bc.mulW bb, _, _, rfl, rfl, ?_⟩
    refine ⟨_, rfl, s1, _, _, _, rfl, rfl, h1, a1 _ _, _, rfl, t1, _, _, _, rfl, rfl, h2, a1 _ _, _, _, rfl, rfl, bb.mulW bd, ?_⟩
    exact ⟨a * d + c * b, b * d, rfl, n0, bp, fun H' p sm hp he => q H' p sm hp he⟩
def NoZ : Addr → Prop := fun _ => False
def sp_sides_slip (K : PySem.W.Frag) : Sp := fun vs H Q _ => ∃ (Z : Addr → Prop) (v : V) (ds : List PyData), vs = [v] ∧ Dx K Z H v (.tuple ds) ∧ 1 ≤ ds.length ∧ ds.length ≤ 6 ∧ fitxs ds = true ∧
  ∀ (H' : Hp) (r : V), Same H H' → Dx K NoZ H' r (slipSides ds) → Q r H'
theorem Txt.ok_sides_slip (T : Txt K mg A D) : FnOk P w K mg base CX0 4 (A 20) (D 20) ["sides"] (sp_sides_slip K) := by
  refine T.F_sides_slip.ok sc_sides_slip (fun vs H Q E h => ?_) (fun cdv Ar outer s H vs Q E hr h => ?_)
  · obtain ⟨Z, v, ds, rfl, _⟩ := h
    rfl
  · obtain ⟨Z, v, ds, rfl, hd, l1, l6, hf, q⟩ := h
    refine ⟨_, (pss_cons (ps_for PassesOwn.never rfl (pi_enumT (by rfl) T.enumerate (pa_cons (pv 0) pa_nil)) (pg_tup rfl (pgs_cons (pg_name (i := 1) sc_sides_slip.nd rfl (Or.inl rfl)) (pgs_cons (pg_name (i := 2) sc_sides_slip.nd rfl (Or.inl rfl)) pgs_nil))) (pss_cons (ps_if (PW.pt (pw_or (pt_not (pt_val (pe_callB call_isi (by rfl) T.z_isinstance (by decide +kernel) (pa_cons (pv 2) (pa_cons (pe_bltn (v := .ty "tuple") (by rfl) T.z_tuple (by decide +kernel) rfl) pa_nil))))) (pw_or1 (pt_cmpR op_ne (pe_callB call_len_seq (by rfl) T.z_len (by decide +kernel) (pa_cons (pv 2) pa_nil)) pe_int (nomark _))))) (pss_one (ps_ret (pe_tup (pa_cons pe_str (pa_cons (pv 1) pa_nil))))) pss_nil)
    (pss_one (ps_if (PW.pt (pw_or (pt_not (pt_val (pe_call (T.ok_is_whole) (hr.mono (by decide)) (by rfl) T.g_is_whole T.k_is_whole T.b_is_whole .nil pass0 (pa_cons (pe_ix ix_tup (pv 2) pe_int (fun _ _ => rfl)) (pa_cons pe_int (pa_cons pe_int pa_nil)))))) (pw_or1 (pt_not (pt_val (pe_call (T.ok_is_share) (hr.mono (by decide)) (by rfl) T.g_is_share T.k_is_share T.b_is_share .nil pass0 (pa_cons (pe_ix ix_tup (pv 2) pe_int (fun _ _ => rfl)) (pa_cons pe_bl pa_nil)))))))) (pss_one (ps_ret (pe_tup (pa_cons pe_str (pa_cons (pv 1) pa_nil))))) pss_nil))))
    (pss_cons (ps_for PassesOwn.never rfl (pi_range2 rfl T.range (pa_cons pe_int (pa_cons (pe_callB call_len_seq (by rfl) T.z_len (by decide +kernel) (pa_cons (pv 0) pa_nil)) pa_nil))) (pg_name (i := 1) sc_sides_slip.nd rfl (Or.inl rfl)) (pss_one (ps_if (pt_cmpR op_le (pe_ix ix_tup (pe_ix ix_tup (pv 0) (pv 1) (fun _ _ => rfl)) pe_int (fun _ _ => rfl)) (pe_ix ix_tup (pe_ix ix_tup (pv 0) (pe_op op_sub (pv 1) pe_int) (fun _ _ => rfl)) pe_int (fun _ _ => rfl)) (nomark _)) (pss_one (ps_ret (pe_tup (pa_cons pe_str (pa_cons (pv 1) pa_nil))))) pss_nil)))
    (pss_cons (ps_set (i := 3) sc_sides_slip.nd rfl (Or.inl rfl) (pe_tup (pa_cons pe_int (pa_cons pe_int pa_nil))))
    (pss_cons (ps_for PassesOwn.never rfl (pi_tup (pv 0)) (pg_name (i := 2) sc_sides_slip.nd rfl (Or.inl rfl)) (pss_one (ps_set (i := 3) sc_sides_slip.nd rfl (Or.inl rfl) (pe_call (T.ok_plus) hr (by rfl) T.g_plus T.k_plus T.b_plus .nil pass0 (pa_cons (pv 3) (pa_cons (pe_ix ix_tup (pv 2) pe_int (fun _ _ => rfl)) pa_nil))))))
    (pss_one (ps_ret (pe_ifExp (pt_cmpR (op_eqD hr.units) (pv 3) (pe_tup (pa_cons pe_int (pa_cons pe_int pa_nil))) (nomark _)) pe_non pe_str))))))), ?_⟩
    obtain ⟨a, xs, rfl, hS, dx⟩ := dx_tup hd
    have lx := dxAll_len dx
    have getD_at : ∀ {i : Nat} {d : PyData}, ds[i]? = some d → ds.getD i .none = d := fun {i d} e => by
      rw [List.getD_eq_getElem?_getD, e]
      rfl
    -- the sides
    refine ⟨_, rfl, a, xs, rfl, hS, for_it walk_enT (fun i σ H' => Same H H' ∧ (∃ y1 y2 : Option V, σ = [some (.ref a), y1, y2, none]) ∧ ∀ j, j < i → sideOk (ds.getD j .none) = true)
      ⟨Same.refl _, ⟨none, none, rfl⟩, fun j h => absurd h (Nat.not_lt_zero _)⟩ (fun i σ H' _ z => Ev.Same.seqT z.1 hS) ?_ ?_⟩
    · rintro i x σ H2 H3 hi ⟨sm, ⟨y1, y2, rfl⟩, hp⟩ ⟨t, x1, x2, rfl, ht, rfl, h1, h2⟩
      cases h1
      obtain ⟨d, hdi, dd⟩ := dxAll_get dx h2
      have gd := getD_at hdi
      have sm3 := sm.trans (same_new (o := .tup [.int (i : Nat), x2]) ht)
      have dd3 := dx_same sm3 dd
      have no : sideOk d = false → ∀ H4, Same H H4 → ∀ p : Addr, H4 p = none → Q (.ref p) (upd H4 p (.tup [.str "side", .int (i : Nat)])) := fun n H4 sm4 p hp4 => by
        have e : slipSides ds = .tuple [.str "side", .int (i : Nat)] := by
          unfold slipSides
          rw [first_some ds.length 0 i (fun j _ hj => by rw [hp j hj]; rfl) (Nat.zero_le _) (by omega) (by rw [gd, n]; rfl)]
        refine q _ _ (sm4.trans (same_new hp4)) ?_
        rw [e]
        exact .tup (SqT.of upd_same) (.cons (.str _) (.cons (.int _) .nil))
      refine ⟨t, _, rfl, SqT.of upd_same, rfl, _, _, rfl, _, _, rfl, rfl, ?_⟩
      have end2 : sideOk d = false → ∀ p : Addr, (upd H2 t (.tup [.int (i : Nat), x2])) p = none → Q (.ref p) (upd (upd H2 t (.tup [.int (i : Nat), x2])) p (.tup [.str "side", .int (i : Nat)])) := fun n p hp4 => no n _ sm3 p hp4
      refine ⟨_, rfl, _, _, _, _, isTup d, rfl, .ty "tuple", dx_ty dd3, kit_tup d, _, rfl, ite2 (fun e1 => ?_) (fun e1 => ?_)⟩
      · have nt : isTup d = false := by
          cases z : isTup d with
          | false => rfl
          | true => rw [z] at e1; exact absurd e1 (by decide)
        exact iteT ⟨_, rfl, (by show 2 ≤ sizeLine; decide), end2 (side_tup nt)⟩
      · have yt : isTup d = true := by
          cases z : isTup d with
          | true => rfl
          | false => rw [z] at e1; exact absurd rfl e1
        obtain ⟨es, rfl⟩ := tup_of yt
        obtain ⟨b, ys, rfl, hB, dxb⟩ := dx_tup dd3
        have ly := dxAll_len dxb
        refine ⟨_, rfl, b, ys, rfl, .inr hB, rfl, _, rfl, ite2 (fun e2 => ?_) (fun e2 => ?_)⟩
        · have n2 : es.length ≠ 2 := fun z => vne e2 (by rw [ly, z]; rfl)
          exact ⟨_, rfl, (by show 2 ≤ sizeLine; decide), end2 (side_len n2)⟩
        have l2 : es.length = 2 := by
          have := V.int.inj (veq e2)
          omega
        have two : ∃ d0 d1, es = [d0, d1] := by
          match es, l2 with
          | [d0, d1], _ => exact ⟨d0, d1, rfl⟩
        obtain ⟨d0, d1, rfl⟩ := two
        obtain ⟨v0, hv0, dv0⟩ := dxAll_at dxb (i := 0) (d := d0) rfl
        obtain ⟨v1, hv1, dv1⟩ := dxAll_at dxb (i := 1) (d := d1) rfl
        have val : sideOk (.tuple [d0, d1]) = (wholeD d0 0 9 && shareD d1 false) := rfl
        refine ⟨_, rfl, b, _, _, _, rfl, rfl, hB, atI_nat (j := 0) hv0, Z, v0, d0, 0, 9, rfl, dv0, _, rfl, ite2 (fun e3 => ?_) (fun e3 => ?_)⟩
        · have w0 : wholeD d0 0 9 = false := by
            cases z : wholeD d0 0 9 with
            | false => rfl
            | true => rw [z] at e3; exact absurd e3 (by decide)
          exact iteT ⟨_, rfl, (by show 2 ≤ sizeLine; decide), end2 (by rw [val, w0, Bool.false_and])⟩
        · have w0 : wholeD d0 0 9 = true := by
            cases z : wholeD d0 0 9 with
            | true => rfl
            | false => rw [z] at e3; exact absurd rfl e3
          refine ⟨_, rfl, b, _, _, _, rfl, rfl, hB, atI_nat (j := 1) hv1, Z, v1, d1, false, rfl, dv1, _, rfl, ite2 (fun e4 => ?_) (fun e4 => ?_)⟩
          · have w1 : shareD d1 false = false := by
              cases z : shareD d1 false with
              | false => rfl
              | true => rw [z] at e4; exact absurd e4 (by decide)
            exact ⟨_, rfl, (by show 2 ≤ sizeLine; decide), end2 (by rw [val, w1, Bool.and_false])⟩
          · have w1 : shareD d1 false = true := by
              cases z : shareD d1 false with
              | true => rfl
              | false => rw [z] at e4; exact absurd rfl e4
            refine ⟨sm3, ⟨_, _, rfl⟩, fun j hj => ?_⟩
            by_cases ej : j < i
            · exact hp j ej
            · have : j = i := by omega
              rw [this, gd, val, w0, w1]
              rfl
    · rintro σ H2 ⟨sm, ⟨y1, y2, rfl⟩, hp⟩
      have hS2 := Ev.Same.seqT sm hS
      have dx2 := dxAll_same sm dx
      have ok : ∀ {i : Nat} {x : V}, xs[i]? = some x → ∃ n a b : Int, ds[i]? = some (.tuple [.int n, .tuple [.int a, .int b]]) ∧ 1 ≤ a ∧ 1 ≤ b ∧ a.natAbs < 2 ^ 1400 ∧ b.natAbs < 2 ^ 1400 := fun {i x} e => by
        obtain ⟨d, hdi, _⟩ := dxAll_get dx2 e
        have li : i < xs.length := (List.getElem?_eq_some_iff.mp e).1
        have h := hp i li
        rw [getD_at hdi] at h
        obtain ⟨n, a, b, rfl, a1, b1, _⟩ := side_inv h
        refine ⟨n, a, b, hdi, a1, b1, ?_⟩
        have hm := List.mem_of_getElem? hdi
        have dt : Dt (szxs ds + 1) (PyData.depthAll ds + 1) (.tuple ds) := ⟨by simp only [fitx]; exact hf, by simp only [szx]; exact Nat.le_refl _, by simp only [PyData.depth]; omega⟩
        have z := (dt.of_tuple _ hm).fx
        simp only [fitx, fitxs, Bool.and_eq_true, decide_eq_true_eq] at z
        exact ⟨z.2.1.1, z.2.1.2.1⟩
      have e1 : firstN (fun j => !sideOk (ds.getD j .none)) 0 ds.length = none := first_none _ _ fun j _ hj => by rw [hp j (by omega)]; rfl
      -- the order
      refine ⟨_, rfl, a, xs, rfl, .inr hS2, 1, xs.length, rfl, ⟨by decide, by decide, by omega, by omega⟩, for_range (lo := 1) (n := ((xs.length : Int) - 1).toNat) (fun i σ H' => H' = H2 ∧ (∃ y1 y2 : Option V, σ = [some (.ref a), y1, y2, none]) ∧ ∀ j, 1 ≤ j → j < 1 + i → decide (numD (ds.getD j .none) ≤ numD (ds.getD (j - 1) .none)) = false)
        ⟨rfl, ⟨y1, y2, rfl⟩, fun j h1 h2 => by omega⟩ ?_ ?_⟩
      · rintro i σ H3 hi ⟨rfl, ⟨z1, z2, rfl⟩, ho⟩
        have li : 1 + i < xs.length := by omega
        have hx1 : xs[1 + i]? = some xs[1 + i] := List.getElem?_eq_getElem li
        have hx0 : xs[i]? = some xs[i] := List.getElem?_eq_getElem (by omega)
        obtain ⟨n1, a1, b1, hd1, _⟩ := ok hx1
        obtain ⟨n0, a0, b0, hd0, _⟩ := ok hx0
        obtain ⟨d1, hd1', dd1⟩ := dxAll_get dx2 hx1
        obtain ⟨d0, hd0', dd0⟩ := dxAll_get dx2 hx0
        rw [hd1] at hd1'
        rw [hd0] at hd0'
        cases Option.some.inj hd1'
        cases Option.some.inj hd0'
        obtain ⟨c1, ys1, ev1, hC1, dc1⟩ := dx_tup dd1
        obtain ⟨c0, ys0, ev0, hC0, dc0⟩ := dx_tup dd0
        obtain ⟨v1, hv1, dv1⟩ := dxAll_at dc1 (i := 0) rfl
        obtain ⟨v0, hv0, dv0⟩ := dxAll_at dc0 (i := 0) rfl
        have q1 := dx_int dv1
        have q0 := dx_int dv0
        subst q1 q0
        rw [ev1] at hx1
        rw [ev0] at hx0
        have num1 : numD (ds.getD (1 + i) .none) = n1 := by rw [getD_at hd1]; rfl
        have num0 : numD (ds.getD (1 + i - 1) .none) = n0 := by
          rw [show 1 + i - 1 = i by omega, getD_at hd0]
          rfl
        refine ⟨_, rfl, _, rfl, a, xs, _, _, rfl, rfl, hS2, at_of (j := 1 + i) (by omega) hx1, c1, _, _, _, rfl, rfl, hC1, atI_nat (j := 0) hv1, ?_⟩
        refine ⟨_, rfl, _, rfl, _, _, rfl, rfl, a, xs, _, _, rfl, rfl, hS2, at_of (j := i) (by omega) hx0, c0, _, _, _, rfl, rfl, hC0, atI_nat (j := 0) hv0, ?_⟩
        refine ⟨_, _, rfl, rfl, _, rfl, ite2 (fun e => ?_) (fun e => ?_)⟩
        · refine ⟨_, rfl, (by show 2 ≤ sizeLine; decide), fun p hp5 => ?_⟩
          have e2 : slipSides ds = .tuple [.str "order", .int ((1 + i : Nat) : Int)] := by
            unfold slipSides
            rw [e1]
            dsimp only
            rw [first_some (ds.length - 1) 1 (1 + i) ho (by omega) (by omega) (by rw [num1, num0]; exact e)]
          refine q _ _ (sm.trans (same_new hp5)) ?_
          rw [e2]
          exact .tup (SqT.of upd_same) (.cons (.str _) (.cons (.int _) .nil))
        · refine ⟨rfl, ⟨_, _, rfl⟩, fun j h1 h2 => ?_⟩
          by_cases ej : j < 1 + i
          · exact ho j h1 ej
          · have : j = 1 + i := by omega
            rw [this, num1, num0]
            exact bfalse e
      · rintro σ H3 ⟨rfl, ⟨z1, z2, rfl⟩, ho⟩
        have e2 : firstN (fun j => decide (numD (ds.getD j .none) ≤ numD (ds.getD (j - 1) .none))) 1 (ds.length - 1) = none := first_none _ _ fun j h1 h2 => ho j h1 (by omega)
        have e3 : slipSides ds = if sumF ds = (1, 1) then .none else .str "sum" := by
          unfold slipSides
          rw [e1]
          dsimp only
          rw [e2]
        refine ⟨(by show 2 ≤ sizeLine; decide), fun p hp5 => ?_⟩
        have smG := sm.trans (same_new (o := .tup [.int 0, .int 1]) hp5)
        have eG : (upd H3 p (.tup [.int 0, .int 1])) p = some (.tup [.int 0, .int 1]) := upd_same
        revert smG eG
        generalize upd H3 p (HO.tup [.int 0, .int 1]) = G
        intro smG eG
        have small : (2 : Nat) ^ 1400 < 2 ^ 8900 := Nat.pow_lt_pow_right (by decide) (by decide)
        refine ⟨_, rfl, a, rfl, ⟨_, Ev.Same.seqT smG hS⟩, for_it walk_tup (fun i σ H' => Same H H' ∧ ∃ (y1 y2 : Option V) (tt : Addr) (x y : Int), σ = [some (.ref a), y1, y2, some (.ref tt)] ∧ H' tt = some (.tup [.int x, .int y]) ∧
          (x, y) = ((ds.take i).map frD).foldl plusF (0, 1) ∧ 0 < y ∧ x.natAbs ≤ 2 ^ (1401 * i) ∧ y.natAbs ≤ 2 ^ (1401 * i))
          ⟨smG, z1, z2, p, 0, 1, rfl, eG, rfl, by decide, Nat.zero_le _, Nat.le_refl _⟩ (fun i σ H' _ z => Ev.Same.seqT z.1 hS) ?_ ?_⟩
        · rintro i x σ H5 H6 hi ⟨sm5, w1, w2, tt, u, v, rfl, ht, ef, v0, bu, bv⟩ ⟨rfl, hx⟩
          obtain ⟨n, c, d, hdi, c1, d1, bc, bd⟩ := ok hx
          obtain ⟨d', hdi', dd⟩ := dxAll_get (dxAll_same sm5 dx) hx
          rw [hdi] at hdi'
          cases Option.some.inj hdi'
          obtain ⟨b, ys, rfl, hB, db⟩ := dx_tup dd
          obtain ⟨v1, hv1, dv1⟩ := dxAll_at db (i := 1) rfl
          obtain ⟨b2, ys2, rfl, hB2, db2⟩ := dx_tup dv1
          have ey : ys2 = [V.int c, V.int d] := ints_of_dx (ns := [c, d]) db2
          subst ey
          have i5 : i + 1 ≤ 6 := by omega
          obtain ⟨g1, g2⟩ := grow_bound bu bv (Nat.le_of_lt bc) (Nat.le_of_lt bd)
          rw [← pow1401] at g1 g2
          have n0 : v * d ≠ 0 := Int.mul_ne_zero (by omega) (by omega)
          refine ⟨_, rfl, _, rfl, b, _, _, _, rfl, rfl, hB, atI_nat (j := 1) hv1, tt, b2, u, v, c, d, rfl, SqT.of ht, hB2, n0, bg_of bu (by omega), bg_of bv (by omega), Nat.lt_trans bc small, Nat.lt_trans bd small, bg_of g2 i5, fun H7 p7 sm7 _ e7 => ?_⟩
          refine ⟨sm5.trans sm7, _, _, p7, _, _, rfl, e7, ?_, (low_f (a := u * d + c * v) n0).1, Nat.le_trans (fA_le n0) g1, Nat.le_trans (fB_le n0) g2⟩
          rw [List.take_add_one, hdi, List.map_append, List.foldl_append, ← ef]
          rfl
        · rintro σ H5 ⟨sm5, w1, w2, tt, u, v, rfl, ht, ef, v0, bu, bv⟩
          rw [List.take_of_length_le (by omega)] at ef
          have es : sumF ds = (u, v) := ef.symm
          rw [es] at e3
          refine ⟨_, rfl, (by show 2 ≤ sizeLine; decide), fun p6 hp6 => ?_⟩
          have sm6 := sm5.trans (same_new (o := .tup [.int 1, .int 1]) hp6)
          have ht6 : (upd H5 p6 (.tup [.int 1, .int 1])) tt = some (.tup [.int u, .int v]) := same_new hp6 _ _ ht
          refine ⟨_, _, .tup (SqT.of ht6) (.cons (.int _) (.cons (.int _) .nil)), .tup (xs := [.int 1, .int 1]) (SqT.of upd_same) (.cons (.int _) (.cons (.int _) .nil)), shaped_intsT [u, v], shaped_intsT [1, 1], _, rfl, ?_⟩
          have ev : PyData.eqv (.tuple [.int u, .int v]) (.tuple [.int 1, .int 1]) = decide ((u, v) = (1, 1)) := by
            simp [PyData.eqv, PyData.eqvAll, Bool.decide_and]
            rfl
          rw [ev]
          refine ite2 (fun e => ?_) (fun e => ?_)
          · rw [if_pos (of_decide_eq_true e)] at e3
            refine q _ _ sm6 ?_
            rw [e3]
            exact .non
          · rw [if_neg (fun z => e (decide_eq_true z))] at e3
            refine q _ _ sm6 ?_
            rw [e3]
            exact .str _
end
end Ev

set_option exponentiation.threshold 10000
namespace Ev
open PySem PySem.Spec PyProof.Rows L2
def slipDie : PyData → PyData
  | .tuple ds => if 1 ≤ ds.length ∧ ds.length ≤ 6 then slipSides ds else .str "form"
  | _ => .str "form"
/-- what keeps data from being a die -/
def slipD : PyData → PyData
  | .tuple [.str t, x] => if t = "till" then (if shareD x true = true then .none else .str "share") else if t = "die" then slipDie x else .str "form"
  | _ => .str "form"
theorem slip_till (x : PyData) : slipD (.tuple [.str "till", x]) = if shareD x true = true then .none else .str "share" := by
  show (if ("till" : Str) = "till" then (if shareD x true = true then PyData.none else .str "share") else if ("till" : Str) = "die" then slipDie x else .str "form") = _
  rw [if_pos rfl]
theorem slip_other {t : Str} (x : PyData) (h : t ≠ "till") : slipD (.tuple [.str t, x]) = if t = "die" then slipDie x else .str "form" := if_neg h
theorem slip_tup {d : PyData} (h : isTup d = false) : slipD d = .str "form" := by
  cases d <;> first | rfl | cases h
theorem slip_len {ds : List PyData} (h : ds.length ≠ 2) : slipD (.tuple ds) = .str "form" := by
  match ds, h with
  | [], _ => rfl
  | [x], _ => cases x <;> rfl
  | [_, _], h => exact absurd rfl h
  | x :: _ :: _ :: _, _ => cases x <;> rfl
theorem slip_str {x y : PyData} (h : isStr x = false) : slipD (.tuple [x, y]) = .str "form" := by
  cases x <;> first | rfl | cases h
theorem str_of {d : PyData} (a : isStr d = true) : ∃ t, d = .str t := by
  cases d <;> first | exact ⟨_, rfl⟩ | (cases a; done)
section
variable {P : Program} {w : World} {K : PySem.W.Frag} {mg : Str → Option Value} {base : Heap} {A : Nat → Addr} {D : Nat → FuncData}
def sp_die_slip (K : PySem.W.Frag) : Sp := fun vs H Q _ => ∃ (Z : Addr → Prop) (v : V) (d : PyData), vs = [v] ∧ Dx K Z H v d ∧ fitx d = true ∧ ∀ (H' : Hp) (r : V), Same H H' → Dx K NoZ H' r (slipD d) → Q r H'
theorem Txt.ok_die_slip (T : Txt K mg A D) : FnOk P w K mg base CX0 5 (A 21) (D 21) ["value"] (sp_die_slip K) := by
  refine T.F_die_slip.ok sc_die_slip (fun vs H Q E h => ?_) (fun cdv Ar outer s H vs Q E hr h => ?_)
  · obtain ⟨Z, v, d, rfl, _⟩ := h
    rfl
  · obtain ⟨Z, v, d, rfl, hd, hf, q⟩ := h
    refine ⟨_, (pss_cons (ps_if (PW.pt (pw_or (pt_not (pt_val (pe_callB call_isi (by rfl) T.z_isinstance (by decide +kernel) (pa_cons (pv 0) (pa_cons (pe_bltn (v := .ty "tuple") (by rfl) T.z_tuple (by decide +kernel) rfl) pa_nil))))) (pw_or (pt_cmpR op_ne (pe_callB call_len_seq (by rfl) T.z_len (by decide +kernel) (pa_cons (pv 0) pa_nil)) pe_int (nomark _)) (pw_or1 (pt_not (pt_val (pe_callB call_isi (by rfl) T.z_isinstance (by decide +kernel) (pa_cons (pe_ix ix_tup (pv 0) pe_int (fun _ _ => rfl)) (pa_cons (pe_bltn (v := .ty "str") (by rfl) T.z_str (by decide +kernel) rfl) pa_nil))))))))) (pss_one (ps_ret pe_str)) pss_nil)
    (pss_cons (ps_if (pt_cmpR op_eq (pe_ix ix_tup (pv 0) pe_int (fun _ _ => rfl)) pe_str (nomark _)) (pss_one (ps_ret (pe_ifExp (pt_val (pe_call (T.ok_is_share) (hr.mono (by decide)) (by rfl) T.g_is_share T.k_is_share T.b_is_share .nil pass0 (pa_cons (pe_ix ix_tup (pv 0) pe_int (fun _ _ => rfl)) (pa_cons pe_bl pa_nil)))) pe_non pe_str))) pss_nil)
    (pss_cons (ps_if (PW.pt (pw_or (pt_cmpR op_ne (pe_ix ix_tup (pv 0) pe_int (fun _ _ => rfl)) pe_str (nomark _)) (pw_or (pt_not (pt_val (pe_callB call_isi (by rfl) T.z_isinstance (by decide +kernel) (pa_cons (pe_ix ix_tup (pv 0) pe_int (fun _ _ => rfl)) (pa_cons (pe_bltn (v := .ty "tuple") (by rfl) T.z_tuple (by decide +kernel) rfl) pa_nil))))) (pw_or1 (pt_not (pt_chain op_le op_le pe_int (pe_callB call_len_seq (by rfl) T.z_len (by decide +kernel) (pa_cons (pe_ix ix_tup (pv 0) pe_int (fun _ _ => rfl)) pa_nil)) pe_int)))))) (pss_one (ps_ret pe_str)) pss_nil)
    (pss_one (ps_ret (pe_call (T.ok_sides_slip) hr (by rfl) T.g_sides_slip T.k_sides_slip T.b_sides_slip .nil pass0 (pa_cons (pe_ix ix_tup (pv 0) pe_int (fun _ _ => rfl)) pa_nil))))))), ?_⟩
    have form : slipD d = .str "form" → Q (.str "form") H := fun e => q H _ (Same.refl H) (by rw [e]; exact .str _)
    refine ⟨_, rfl, _, _, _, _, isTup d, rfl, .ty "tuple", dx_ty hd, kit_tup d, _, rfl, ite2 (fun e1 => ?_) (fun e1 => ?_)⟩
    · have nt : isTup d = false := by
        cases z : isTup d with
        | false => rfl
        | true => rw [z] at e1; exact absurd e1 (by decide)
      exact iteT (form (slip_tup nt))
    · have yt : isTup d = true := by
        cases z : isTup d with
        | true => rfl
        | false => rw [z] at e1; exact absurd rfl e1
      obtain ⟨ds, rfl⟩ := tup_of yt
      obtain ⟨a, xs, rfl, hS, dx⟩ := dx_tup hd
      have lx := dxAll_len dx
      refine ⟨_, rfl, a, xs, rfl, .inr hS, rfl, _, rfl, ite2 (fun e2 => ?_) (fun e2 => ?_)⟩
      · have n2 : ds.length ≠ 2 := fun z => vne e2 (by rw [lx, z]; rfl)
        exact iteT (form (slip_len n2))
      have l2 : ds.length = 2 := by
        have := V.int.inj (veq e2)
        omega
      have two : ∃ d0 d1, ds = [d0, d1] := by
        match ds, l2 with
        | [d0, d1], _ => exact ⟨d0, d1, rfl⟩
      obtain ⟨d0, d1, rfl⟩ := two
      obtain ⟨v0, hv0, dv0⟩ := dxAll_at dx (i := 0) (d := d0) rfl
      obtain ⟨v1, hv1, dv1⟩ := dxAll_at dx (i := 1) (d := d1) rfl
      have a0 := atI_nat (j := 0) hv0
      have a1 := atI_nat (j := 1) hv1
      refine ⟨_, rfl, a, _, _, _, rfl, rfl, hS, a0, _, _, _, _, isStr d0, rfl, .ty "str", dx_ty dv0, kit_str d0, _, rfl, ite2 (fun e3 => ?_) (fun e3 => ?_)⟩
      · have ns : isStr d0 = false := by
          cases z : isStr d0 with
          | false => rfl
          | true => rw [z] at e3; exact absurd e3 (by decide)
        exact form (slip_str ns)
      have ys : isStr d0 = true := by
        cases z : isStr d0 with
        | true => rfl
        | false => rw [z] at e3; exact absurd rfl e3
      obtain ⟨t, rfl⟩ := str_of ys
      have ev := dx_str dv0
      subst ev
      refine ⟨_, rfl, a, _, _, _, rfl, rfl, hS, a0, rfl, _, rfl, ite2 (fun e4 => ?_) (fun e4 => ?_)⟩
      · have et : t = "till" := V.str.inj (of_decide_eq_true e4)
        subst et
        refine ⟨_, rfl, a, _, _, _, rfl, rfl, hS, a1, Z, v1, d1, true, rfl, dv1, _, rfl, ite2 (fun e5 => ?_) (fun e5 => ?_)⟩
        · refine q H _ (Same.refl H) ?_
          have z : slipD (.tuple [.str "till", d1]) = .none := by
            rw [slip_till, if_pos e5]
          rw [z]
          exact .non
        · refine q H _ (Same.refl H) ?_
          have z : slipD (.tuple [.str "till", d1]) = .str "share" := by
            rw [slip_till, if_neg e5]
          rw [z]
          exact .str _
      have nt : t ≠ "till" := fun z => e4 (decide_eq_true (by rw [z]))
      have ex := slip_other d1 nt
      refine ⟨_, rfl, a, _, _, _, rfl, rfl, hS, a0, rfl, _, rfl, ite2 (fun e5 => ?_) (fun e5 => ?_)⟩
      · refine iteT (form ?_)
        rw [ex, if_neg]
        intro z
        exact vne e5 (by rw [z])
      have ed : t = "die" := V.str.inj (veq e5)
      rw [if_pos ed] at ex
      refine ⟨_, rfl, a, _, _, _, rfl, rfl, hS, a1, _, _, _, _, isTup d1, rfl, .ty "tuple", dx_ty dv1, kit_tup d1, _, rfl, ite2 (fun e6 => ?_) (fun e6 => ?_)⟩
      · have n6 : isTup d1 = false := by
          cases z : isTup d1 with
          | false => rfl
          | true => rw [z] at e6; exact absurd e6 (by decide)
        refine iteT (form ?_)
        rw [ex]
        cases d1 <;> first | rfl | cases n6
      have y6 : isTup d1 = true := by
        cases z : isTup d1 with
        | true => rfl
        | false => rw [z] at e6; exact absurd rfl e6
      obtain ⟨es, rfl⟩ := tup_of y6
      obtain ⟨b, ys, rfl, hB, dxb⟩ := dx_tup dv1
      have ly := dxAll_len dxb
      have ex' : slipD (.tuple [.str t, .tuple es]) = if 1 ≤ es.length ∧ es.length ≤ 6 then slipSides es else .str "form" := ex
      have hfe : fitxs es = true := by
        simp only [fitx, fitxs, Bool.and_eq_true] at hf
        exact hf.2.1
      refine ⟨_, rfl, a, _, _, _, rfl, rfl, hS, a1, b, ys, rfl, .inr hB, _, _, rfl, rfl, _, rfl, ite2 (fun e7 => ?_) (fun e7 => ?_)⟩
      · refine ⟨_, _, rfl, rfl, _, rfl, ite2 (fun e8 => ?_) (fun e8 => ?_)⟩
        · refine form ?_
          rw [ex', if_neg]
          rintro ⟨_, z⟩
          rw [Bool.not_eq_true', decide_eq_false_iff_not] at e8
          omega
        · have h1 : 1 ≤ es.length := by
            have := of_decide_eq_true e7
            omega
          have h6 : es.length ≤ 6 := by
            rw [Bool.not_eq_true', decide_eq_false_iff_not] at e8
            omega
          refine ⟨_, rfl, a, _, _, _, rfl, rfl, hS, a1, Z, _, es, rfl, dv1, h1, h6, hfe, fun H' r sm hr' => q H' r sm ?_⟩
          rw [ex', if_pos ⟨h1, h6⟩]
          exact hr'
      · refine ⟨_, rfl, ite2 (fun e8 => ?_) (fun e8 => absurd rfl e8)⟩
        refine form ?_
        rw [ex', if_neg]
        rintro ⟨z, _⟩
        exact e7 (decide_eq_true (by omega))
end
end Ev

set_option exponentiation.threshold 20000
namespace Ev
open PySem PySem.Spec PyProof.Rows L2
section
variable {P : Program} {w : World} {K : PySem.W.Frag} {mg : Str → Option Value} {base : Heap} {A : Nat → Addr} {D : Nat → FuncData}
/-! ### the weights of sides -/
def NoP : Addr → Prop := fun _ => False
def sp_side_weights (K : PySem.W.Frag) : Sp := fun vs H Q _ => ∃ (Z : Addr → Prop) (v : V) (l : List (Int × Int × Int)), vs = [v] ∧ Dx K Z H v (.tuple (l.map sdD)) ∧
  (∀ q ∈ l, 1 ≤ q.2.2 ∧ q.2.1.natAbs < 2 ^ 8900) ∧ wholeN l < 2 ^ 8900 ∧ l.length ≤ 1000 ∧
  ∀ (H' : Hp) (p W : Addr) (ws : List V), Same H H' → H' p = some (.tup [.ref W, .int (wholeN l)]) → H' W = some (.lst ws) → DxAll K NoP H' ws ((wts l).map fun q => prD q.1 q.2) → Q (.ref p) H'
theorem dx_sdD {K : PySem.W.Frag} {Z : Addr → Prop} {H : Hp} {v : V} {q : Int × Int × Int} (h : Dx K Z H v (sdD q)) : ∃ a b, v = .ref a ∧ SqT K H a [.int q.1, .ref b] ∧ SqT K H b [.int q.2.1, .int q.2.2] := by
  obtain ⟨a, xs, rfl, hs, hd⟩ := dx_tup h
  cases hd with
  | cons h1 r1 =>
    cases r1 with
    | cons h2 r2 =>
      cases r2
      obtain ⟨b, rfl, hb⟩ := dx_prD h2
      rw [dx_int h1] at hs
      exact ⟨a, b, rfl, hs, hb⟩
theorem sds_at {K : PySem.W.Frag} {Z : Addr → Prop} {H : Hp} {vs : List V} {l : List (Int × Int × Int)} {i : Nat} {v : V} (h : DxAll K Z H vs (l.map sdD)) (e : vs[i]? = some v) :
    ∃ q a b, l[i]? = some q ∧ v = .ref a ∧ SqT K H a [.int q.1, .ref b] ∧ SqT K H b [.int q.2.1, .int q.2.2] := by
  obtain ⟨d, h1, h2⟩ := dxAll_get h e
  rw [List.getElem?_map] at h1
  cases q : l[i]? with
  | none => rw [q] at h1; cases h1
  | some p =>
    rw [q] at h1
    cases h1
    obtain ⟨a, b, ea, hs, hb⟩ := dx_sdD h2
    exact ⟨p, a, b, rfl, ea, hs, hb⟩
theorem Txt.ok_side_weights (T : Txt K mg A D) : FnOk P w K mg base CX0 1 (A 7) (D 7) ["sides"] (sp_side_weights K) := by
  refine T.F_side_weights.ok sc_side_weights (fun vs H Q E h => ?_) (fun cdv Ar outer s H vs Q E hr h => ?_)
  · obtain ⟨Z, v, l, rfl, _⟩ := h
    rfl
  · obtain ⟨Z, v, l, rfl, hd, hl, hw, hn, q⟩ := h
    obtain ⟨a, xs, rfl, hS, dx⟩ := dx_tup hd
    have lx : xs.length = l.length := by rw [dxAll_len dx, List.length_map]
    have wp := whole_pos (l := l) fun q hq => (hl q hq).1
    have wle : ∀ i, wholeN (l.take i) ≤ wholeN l := fun i => Nat.le_of_dvd wp (whole_part l i)
    refine ⟨_, (pss_cons (ps_set (i := 1) sc_side_weights.nd rfl (Or.inr rfl) pe_int)
    (pss_cons (ps_for PassesOwn.never rfl (pi_tup (pv 0)) (pg_tup rfl (pgs_cons (pg_name (i := 2) sc_side_weights.nd rfl (Or.inl rfl)) (pgs_cons (pg_name (i := 3) sc_side_weights.nd rfl (Or.inl rfl)) pgs_nil))) (pss_one (ps_set (i := 1) sc_side_weights.nd rfl (Or.inr rfl) (pe_callBfun cr_lcm (by rfl) T.z_lcm (pa_cons (pv 1) (pa_cons (pe_ix ix_tup (pv 3) pe_int (fun _ _ => rfl)) pa_nil))))))
    (pss_one (ps_ret (pe_tup (pa_cons (pe_lc (own := [("number", 4), ("share", 3)]) (g := gTup K 2 (gCons (gName 4) (gCons (gName 3) gNil))) (tt := tYes) rfl sc_side_weights.nd (pi_tup (pv 0)) (blkOk_by (N := ["sides", "whole", "_", "share", "number"]) (sc := defScope s_side_weights) (by decide +kernel)) (fun _ _ _ _ _ => (pg_tup rfl (pgs_cons (pg_name (i := 4) sc_side_weights.nd rfl (Or.inl rfl)) (pgs_cons (pg_name (i := 3) sc_side_weights.nd rfl (Or.inl rfl)) pgs_nil)))) (fun _ _ _ _ _ => pts_nil) (fun _ _ _ _ _ => (pe_tup (pa_cons (pv 4) (pa_cons (pe_op op_mulW (pe_ix (show IxR _ (rIxT K) from ix_tup) (pv 3) pe_int (fun _ _ => rfl)) (pe_op op_fdivW (pv 1) (pe_ix (show IxR _ (rIxT K) from ix_tup) (pv 3) pe_int (fun _ _ => rfl)))) pa_nil))))) (pa_cons (pv 1) pa_nil))))))), ?_⟩
    refine ⟨_, rfl, a, rfl, ⟨_, hS⟩, for_it walk_tup (fun i σ H' => H' = H ∧ ∃ y1 y2 : Option V, σ = [some (.ref a), some (.int (wholeN (l.take i))), y1, y2, none]) ⟨rfl, none, none, rfl⟩ (fun i σ H' _ z => by rw [z.1]; exact hS) ?_ ?_⟩
    · rintro i x σ H2 H3 hi ⟨rfl, y1, y2, rfl⟩ ⟨rfl, hx⟩
      obtain ⟨c, t, t2, hc, rfl, ht, ht2⟩ := sds_at dx hx
      have hm := List.mem_of_getElem? hc
      have yl : c.2.2.natAbs ≤ wholeN l := Nat.le_of_dvd wp (whole_mem hm)
      have big : (2 : Nat) ^ 8900 ≤ 2 ^ 13000 := Nat.pow_le_pow_right (by decide) (by decide)
      refine ⟨t, _, rfl, ht, rfl, _, _, rfl, _, _, rfl, rfl, ?_⟩
      refine ⟨_, rfl, _, rfl, t2, _, _, _, rfl, rfl, ht2, ix1, _, _, rfl, ?_, ?_, rfl, some (.int c.1), some (.ref t2), ?_⟩
      · have := wle i
        show wholeN (l.take i) < 2 ^ 13000
        omega
      · omega
      · rw [whole_take hc]
        rfl
    · rintro σ H2 ⟨rfl, y1, y2, rfl⟩
      rw [lx, List.take_length]
      refine ⟨_, rfl, a, rfl, ⟨_, hS⟩, fun D1 hD1 => ?_⟩
      refine lc_it walk_tup (fun i H' => Same H2 H' ∧ ∃ ws : List V, H' D1 = some (.lst ws) ∧ DxAll K NoP H' ws (((wts l).take i).map fun q => prD q.1 q.2)) ⟨same_new hD1, [], upd_same, .nil⟩ (fun i H' _ z => Ev.Same.seqT z.1 hS) ?_ ?_
      · rintro i x H5 H6 hi ⟨sm, ws, hW, dW⟩ ⟨rfl, hx⟩
        obtain ⟨c, t, t2, hc, rfl, ht, ht2⟩ := sds_at dx hx
        have hm := List.mem_of_getElem? hc
        have yl : c.2.2.natAbs ≤ wholeN l := Nat.le_of_dvd wp (whole_mem hm)
        have y1 := (hl c hm).1
        have ql : ((wholeN l : Int) / c.2.2).natAbs < 2 ^ 8900 := by
          have h1 : (wholeN l : Int) / c.2.2 ≤ wholeN l := Int.ediv_le_self _ (by omega)
          have h2 : 0 ≤ (wholeN l : Int) / c.2.2 := Int.ediv_nonneg (by omega) (by omega)
          omega
        refine ⟨t, _, rfl, Ev.Same.seqT sm ht, rfl, _, _, rfl, _, _, rfl, rfl, ?_⟩
        refine ⟨rfl, yes_of ?_⟩
        refine ⟨_, rfl, _, rfl, t2, _, _, _, rfl, rfl, Ev.Same.seqT sm ht2, ix0, _, rfl, _, rfl, t2, _, _, _, rfl, rfl, Ev.Same.seqT sm ht2, ix1, _, _, rfl, rfl, ?_, _, _, rfl, rfl, ?_, (by show 2 ≤ sizeLine; decide), fun p8 hp8 => ?_⟩
        · exact wide_div (b := 8900) (by omega) (by omega) (by decide) (by decide)
        · exact wide_mul (hl c hm).2 ql (by decide) (by decide) (by decide)
        refine ⟨ws, same_new hp8 _ _ hW, ?_, same_put (sm.trans (same_new hp8)) hD1, ws ++ [.ref p8], upd_same, ?_⟩
        · have h1 := dxAll_len dW
          rw [List.length_map, List.length_take] at h1
          exact small1000 (by omega)
        · have hz : (wts l)[i]? = some (c.1, c.2.1 * ((wholeN l : Int) / c.2.2)) := by
            unfold wts
            rw [List.getElem?_map, hc]
            rfl
          rw [List.take_add_one, hz, List.map_append]
          have d1 : DxAll K NoP (upd H6 p8 (.tup [.int c.1, .int (c.2.1 * ((wholeN l : Int) / c.2.2))])) (ws ++ [.ref p8]) _ := dxAll_app (dxAll_new hp8 dW) (.cons (prD_dx (SqT.of upd_same)) .nil)
          refine dxAll_keep (fun a' zs e => ?_) (fun a' o z e => z.elim) d1
          rcases e with (e | ⟨ob, e⟩) | e
          · exact .inl (.inl (by rw [upd_ne (ne_of e (same_new hp8 _ _ hW) (by intro z; cases z))]; exact e))
          · exact .inl (.inr ⟨ob, by rw [upd_ne (ne_of e (same_new hp8 _ _ hW) (by intro z; cases z))]; exact e⟩)
          · exact .inr e
      · rintro H5 ⟨sm, ws, hW, dW⟩
        have full : (wts l).take xs.length = wts l := List.take_of_length_le (by unfold wts; rw [List.length_map]; omega)
        rw [full] at dW
        refine ⟨_, rfl, (by show 2 ≤ sizeLine; decide), fun p9 hp9 => ?_⟩
        exact q _ p9 D1 ws (sm.trans (same_new hp9)) upd_same (same_new hp9 _ _ hW) (dxAll_new hp9 dW)
end
end Ev

set_option exponentiation.threshold 20000
namespace Ev
open PySem PySem.Spec PyProof.Rows L2
/-! ### the program's look at a die -/
def intD : PyData → Bool
  | .int _ => true
  | _ => false
theorem intD_eq (d : PyData) : intD d = (isInt d && !isBool d) := by cases d <;> rfl
theorem intD_of {d : PyData} (h : intD d = true) : ∃ i, d = .int i := by
  cases d <;> first | exact ⟨_, rfl⟩ | cases h
theorem whole_intD {d : PyData} (lo hi : Int) (h : intD d = false) : wholeD d lo hi = false := by
  cases d <;> first | rfl | cases h
def fracD : PyData → Bool
  | .tuple [.int a, .int b] => decide (1 ≤ b) && decide (gc a b = 1)
  | _ => false
theorem fracD_tup {d : PyData} (h : isTup d = false) : fracD d = false := by
  cases d <;> first | rfl | cases h
theorem fracD_len {ds : List PyData} (h : ds.length ≠ 2) : fracD (.tuple ds) = false := by
  match ds, h with
  | [], _ => rfl
  | [a], _ => cases a <;> rfl
  | [a, b], h => exact absurd rfl h
  | a :: b :: c :: r, _ => cases a <;> first | rfl | (cases b <;> rfl)
theorem fracD_0 {a b : PyData} (h : intD a = false) : fracD (.tuple [a, b]) = false := by
  cases a <;> first | rfl | cases h
theorem fracD_1 {a b : PyData} (h : intD b = false) : fracD (.tuple [a, b]) = false := by
  cases a <;> first | rfl | (cases b <;> first | rfl | cases h)
theorem fracD_inv {d : PyData} (h : fracD d = true) : ∃ a b : Int, d = .tuple [.int a, .int b] ∧ 1 ≤ b ∧ gc a b = 1 := by
  cases d with
  | tuple ds =>
    by_cases l : ds.length = 2
    · obtain ⟨d0, d1, rfl⟩ : ∃ d0 d1, ds = [d0, d1] := by
        match ds, l with
        | [d0, d1], _ => exact ⟨d0, d1, rfl⟩
      cases e0 : intD d0 with
      | false => rw [fracD_0 e0] at h; cases h
      | true =>
        cases e1 : intD d1 with
        | false => rw [fracD_1 e1] at h; cases h
        | true =>
          obtain ⟨a, rfl⟩ := intD_of e0
          obtain ⟨b, rfl⟩ := intD_of e1
          have h' : (decide (1 ≤ b) && decide (gc a b = 1)) = true := h
          rw [Bool.and_eq_true, decide_eq_true_eq, decide_eq_true_eq] at h'
          exact ⟨a, b, rfl, h'.1, h'.2⟩
    · rw [fracD_len l] at h
      cases h
  | _ => cases h
theorem share_frac (d : PyData) (o : Bool) : shareD d o = (fracD d && (match d with | .tuple [.int a, .int b] => decide (1 ≤ a) && (decide (a < b) || !o) | _ => false)) := by
  cases f : fracD d with
  | true =>
    obtain ⟨a, b, rfl, h1, h2⟩ := fracD_inv f
    show (decide (1 ≤ a) && decide (1 ≤ b) && decide (gc a b = 1) && (decide (a < b) || !o)) = (true && (decide (1 ≤ a) && (decide (a < b) || !o)))
    rw [decide_eq_true h1, decide_eq_true h2, Bool.and_true, Bool.and_true, Bool.true_and]
  | false =>
    rw [Bool.false_and]
    refine Bool.eq_false_iff.mpr fun z => ?_
    have : fracD d = true := by
      match d, z with
      | .tuple [.int a, .int b], z =>
        have z' : (decide (1 ≤ a) && decide (1 ≤ b) && decide (gc a b = 1) && (decide (a < b) || !o)) = true := z
        rw [Bool.and_eq_true, Bool.and_eq_true, Bool.and_eq_true] at z'
        show (decide (1 ≤ b) && decide (gc a b = 1)) = true
        rw [z'.1.1.2, z'.1.2]
        rfl
    rw [f] at this
    cases this
theorem nb {b : Bool} (e : (!b) = true) : b = false := by cases b <;> simp_all
theorem bt {b : Bool} (e : ¬ (!b) = true) : b = true := by cases b <;> simp_all
theorem two_of2 {ds : List PyData} (l : ds.length = 2) : ∃ d0 d1, ds = [d0, d1] := by
  match ds, l with
  | [d0, d1], _ => exact ⟨d0, d1, rfl⟩
theorem dxAll_two {K : PySem.W.Frag} {Z : Addr → Prop} {H : Hp} {xs : List V} {d0 d1 : PyData} (h : DxAll K Z H xs [d0, d1]) : ∃ x0 x1, xs = [x0, x1] ∧ Dx K Z H x0 d0 ∧ Dx K Z H x1 d1 := by
  cases h with
  | cons h1 r1 =>
    cases r1 with
    | cons h2 r2 =>
      cases r2
      exact ⟨_, _, rfl, h1, h2⟩
section
variable {P : Program} {w : World} {K : PySem.W.Frag} {mg : Str → Option Value} {base : Heap} {A : Nat → Addr} {D : Nat → FuncData}
def sp_is_integer (K : PySem.W.Frag) : Sp := fun vs H Q _ => ∃ (Z : Addr → Prop) (v : V) (d : PyData), vs = [v] ∧ Dx K Z H v d ∧ Q (.bl (intD d)) H
theorem Txt.ok_is_integer (T : Txt K mg A D) : FnOk P w K mg base CX0 1 (A 1) (D 1) ["value"] (sp_is_integer K) := by
  refine T.F_is_integer.ok sc_is_integer (fun vs H Q E h => ?_) (fun cdv Ar outer s H vs Q E hr h => ?_)
  · obtain ⟨Z, v, d, rfl, _⟩ := h
    rfl
  · obtain ⟨Z, v, d, rfl, hd, q⟩ := h
    refine ⟨_, (pss_one (ps_ret (pe_and (pe_callB call_isi (by rfl) T.z_isinstance (by decide +kernel) (pa_cons (pv 0) (pa_cons (pe_bltn (v := .ty "int") (by rfl) T.z_int (by decide +kernel) rfl) pa_nil))) (pe_one (pe_not (pe_callB call_isi (by rfl) T.z_isinstance (by decide +kernel) (pa_cons (pv 0) (pa_cons (pe_bltn (v := .ty "bool") (by rfl) T.z_bool (by decide +kernel) rfl) pa_nil)))))))), ?_⟩
    rw [intD_eq] at q
    refine ⟨_, rfl, _, _, _, _, isInt d, rfl, .ty "int", dx_ty hd, kit_int d, _, rfl, ite2 (fun e1 => ?_) (fun e1 => ?_)⟩
    · refine ⟨_, rfl, _, _, _, _, isBool d, rfl, .ty "bool", dx_ty hd, kit_bool d, _, rfl, ?_⟩
      rw [e1, Bool.true_and] at q
      exact q
    · rw [bfalse e1, Bool.false_and] at q
      exact q
def sp_is_within (K : PySem.W.Frag) : Sp := fun vs H Q _ => ∃ (Z : Addr → Prop) (v : V) (d : PyData) (lo hi : Int), vs = [v, .int lo, .int hi] ∧ Dx K Z H v d ∧ Q (.bl (wholeD d lo hi)) H
theorem Txt.ok_is_within (T : Txt K mg A D) : FnOk P w K mg base CX0 2 (A 2) (D 2) ["value", "least", "most"] (sp_is_within K) := by
  refine T.F_is_within.ok sc_is_within (fun vs H Q E h => ?_) (fun cdv Ar outer s H vs Q E hr h => ?_)
  · obtain ⟨Z, v, d, lo, hi, rfl, _⟩ := h
    rfl
  · obtain ⟨Z, v, d, lo, hi, rfl, hd, q⟩ := h
    refine ⟨_, (pss_one (ps_ret (pe_and (pe_call (T.ok_is_integer) hr (by rfl) T.g_is_integer T.k_is_integer T.b_is_integer .nil pass0 (pa_cons (pv 0) pa_nil)) (pe_one (pe_chain op_le op_le (pv 1) (pv 0) (pv 2)))))), ?_⟩
    refine ⟨_, rfl, Z, v, d, rfl, hd, _, rfl, ite2 (fun e1 => ?_) (fun e1 => ?_)⟩
    · obtain ⟨i, rfl⟩ := intD_of e1
      have ev := dx_int hd
      subst ev
      refine ⟨_, rfl, _, rfl, _, _, rfl, rfl, _, rfl, ite2 (fun e3 => ?_) (fun e3 => ?_)⟩
      · refine ⟨_, rfl, _, _, rfl, rfl, ?_⟩
        have z : wholeD (.int i) lo hi = decide (i ≤ hi) := by
          show (decide (lo ≤ i) && decide (i ≤ hi)) = _
          rw [e3, Bool.true_and]
        rw [z] at q
        exact q
      · have z : wholeD (.int i) lo hi = false := by
          show (decide (lo ≤ i) && decide (i ≤ hi)) = _
          rw [bfalse e3, Bool.false_and]
        rw [z] at q
        exact q
    · rw [whole_intD lo hi (bfalse e1)] at q
      exact q
def sp_is_fraction (K : PySem.W.Frag) : Sp := fun vs H Q _ => ∃ (Z : Addr → Prop) (v : V) (d : PyData), vs = [v] ∧ Dx K Z H v d ∧ Q (.bl (fracD d)) H
theorem Txt.ok_is_fraction (T : Txt K mg A D) : FnOk P w K mg base CX0 2 (A 3) (D 3) ["value"] (sp_is_fraction K) := by
  refine T.F_is_fraction.ok sc_is_fraction (fun vs H Q E h => ?_) (fun cdv Ar outer s H vs Q E hr h => ?_)
  · obtain ⟨Z, v, d, rfl, _⟩ := h
    rfl
  · obtain ⟨Z, v, d, rfl, hd, q⟩ := h
    refine ⟨_, (pss_cons (ps_if (PW.pt (pw_or (pt_not (pt_val (pe_callB call_isi (by rfl) T.z_isinstance (by decide +kernel) (pa_cons (pv 0) (pa_cons (pe_bltn (v := .ty "tuple") (by rfl) T.z_tuple (by decide +kernel) rfl) pa_nil))))) (pw_or1 (pt_cmpR op_ne (pe_callB call_len_seq (by rfl) T.z_len (by decide +kernel) (pa_cons (pv 0) pa_nil)) pe_int (nomark _))))) (pss_one (ps_ret pe_bl)) pss_nil)
    (pss_cons (ps_asg (pv 0) (pg_tup rfl (pgs_cons (pg_name (i := 1) sc_is_fraction.nd rfl (Or.inl rfl)) (pgs_cons (pg_name (i := 2) sc_is_fraction.nd rfl (Or.inl rfl)) pgs_nil))))
    (pss_one (ps_ret (pe_and (pe_call (T.ok_is_integer) hr (by rfl) T.g_is_integer T.k_is_integer T.b_is_integer .nil pass0 (pa_cons (pv 1) pa_nil)) (pe_and (pe_call (T.ok_is_integer) hr (by rfl) T.g_is_integer T.k_is_integer T.b_is_integer .nil pass0 (pa_cons (pv 2) pa_nil)) (pe_and (pe_cmpR op_ge (pv 2) pe_int (nomark _)) (pe_one (pe_cmpR op_eq (pe_callBfun cr_gcd (by rfl) T.z_gcd (pa_cons (pv 1) (pa_cons (pv 2) pa_nil))) pe_int (nomark _)))))))))), ?_⟩
    refine ⟨_, rfl, _, _, _, _, isTup d, rfl, .ty "tuple", dx_ty hd, kit_tup d, _, rfl, ite2 (fun e1 => ?_) (fun e1 => ?_)⟩
    · rw [fracD_tup (nb e1)] at q
      exact iteT q
    obtain ⟨ds, rfl⟩ := tup_of (bt e1)
    obtain ⟨a, xs, rfl, hS, dx⟩ := dx_tup hd
    have lx := dxAll_len dx
    refine ⟨_, rfl, a, xs, rfl, .inr hS, rfl, _, rfl, ite2 (fun e2 => ?_) (fun e2 => ?_)⟩
    · have n2 : ds.length ≠ 2 := fun z => vne e2 (by rw [lx, z]; rfl)
      rw [fracD_len n2] at q
      exact q
    have l2 : ds.length = 2 := by
      have := V.int.inj (veq e2)
      omega
    obtain ⟨d0, d1, rfl⟩ := two_of2 l2
    obtain ⟨x0, x1, rfl, h0, h1⟩ := dxAll_two dx
    refine ⟨_, rfl, a, _, rfl, hS, rfl, _, _, rfl, _, _, rfl, rfl, ?_⟩
    refine ⟨_, rfl, Z, x0, d0, rfl, h0, _, rfl, ite2 (fun e3 => ?_) (fun e3 => ?_)⟩
    · refine ⟨_, rfl, Z, x1, d1, rfl, h1, _, rfl, ite2 (fun e4 => ?_) (fun e4 => ?_)⟩
      · obtain ⟨i, rfl⟩ := intD_of e3
        obtain ⟨j, rfl⟩ := intD_of e4
        have u0 := dx_int h0
        have u1 := dx_int h1
        subst u0 u1
        have val : fracD (.tuple [.int i, .int j]) = (decide (1 ≤ j) && decide (gc i j = 1)) := rfl
        rw [val] at q
        refine ⟨_, rfl, _, _, rfl, rfl, _, rfl, ite2 (fun e5 => ?_) (fun e5 => ?_)⟩
        · have j1 : 1 ≤ j := by
            have e6 : ¬ (j < 1) := by simpa using e5
            omega
          rw [decide_eq_true j1, Bool.true_and] at q
          refine ⟨_, rfl, _, rfl, _, _, rfl, rfl, ?_⟩
          have z : decide (V.int ((Nat.gcd i.natAbs j.natAbs : Nat) : Int) = V.int 1) = decide (gc i j = 1) := by
            by_cases g : gc i j = 1
            · rw [decide_eq_true g]
              refine decide_eq_true ?_
              show V.int ((gc i j : Nat) : Int) = _
              rw [g]
              rfl
            · rw [decide_eq_false g]
              refine decide_eq_false fun y => g ?_
              have := V.int.inj y
              unfold gc
              omega
          rw [← z] at q
          exact q
        · have j1 : ¬ 1 ≤ j := fun y => e5 (by simp; omega)
          rw [decide_eq_false j1, Bool.false_and] at q
          exact q
      · rw [fracD_1 (bfalse e4)] at q
        exact q
    · rw [fracD_0 (bfalse e3)] at q
      exact q
def sp_is_chance (K : PySem.W.Frag) : Sp := fun vs H Q _ => ∃ (Z : Addr → Prop) (v : V) (d : PyData), vs = [v] ∧ Dx K Z H v d ∧ Q (.bl (shareD d true)) H
theorem Txt.ok_is_chance (T : Txt K mg A D) : FnOk P w K mg base CX0 3 (A 4) (D 4) ["value"] (sp_is_chance K) := by
  refine T.F_is_chance.ok sc_is_chance (fun vs H Q E h => ?_) (fun cdv Ar outer s H vs Q E hr h => ?_)
  · obtain ⟨Z, v, d, rfl, _⟩ := h
    rfl
  · obtain ⟨Z, v, d, rfl, hd, q⟩ := h
    refine ⟨_, (pss_one (ps_ret (pe_and (pe_call (T.ok_is_fraction) hr (by rfl) T.g_is_fraction T.k_is_fraction T.b_is_fraction .nil pass0 (pa_cons (pv 0) pa_nil)) (pe_one (pe_chain op_lt op_lt pe_int (pe_ix ix_tup (pv 0) pe_int (fun _ _ => rfl)) (pe_ix ix_tup (pv 0) pe_int (fun _ _ => rfl))))))), ?_⟩
    rw [share_frac] at q
    refine ⟨_, rfl, Z, v, d, rfl, hd, _, rfl, ite2 (fun e1 => ?_) (fun e1 => ?_)⟩
    · obtain ⟨i, j, rfl, j1, g⟩ := fracD_inv e1
      obtain ⟨a, rfl, hS⟩ := dx_prD hd
      rw [e1, Bool.true_and] at q
      have q' : Q (V.bl (decide (1 ≤ i) && (decide (i < j) || false))) H := q
      refine ⟨_, rfl, a, _, _, _, rfl, rfl, hS, ix0, _, _, rfl, rfl, _, rfl, ite2 (fun e2 => ?_) (fun e2 => ?_)⟩
      · have i1 : 1 ≤ i := by
          have : (0 : Int) < i := of_decide_eq_true e2
          omega
        rw [decide_eq_true i1, Bool.true_and, Bool.or_false] at q'
        exact ⟨_, rfl, a, _, _, _, rfl, rfl, hS, ix1, _, _, rfl, rfl, q'⟩
      · have i1 : ¬ 1 ≤ i := fun y => e2 (decide_eq_true (by omega))
        rw [decide_eq_false i1, Bool.false_and] at q'
        exact q'
    · rw [bfalse e1, Bool.false_and] at q
      exact q
def sp_is_side (K : PySem.W.Frag) : Sp := fun vs H Q _ => ∃ (Z : Addr → Prop) (v : V) (d : PyData), vs = [v] ∧ Dx K Z H v d ∧ Q (.bl (sideOk d)) H
theorem Txt.ok_is_side (T : Txt K mg A D) : FnOk P w K mg base CX0 3 (A 6) (D 6) ["value"] (sp_is_side K) := by
  refine T.F_is_side.ok sc_is_side (fun vs H Q E h => ?_) (fun cdv Ar outer s H vs Q E hr h => ?_)
  · obtain ⟨Z, v, d, rfl, _⟩ := h
    rfl
  · obtain ⟨Z, v, d, rfl, hd, q⟩ := h
    refine ⟨_, (pss_cons (ps_if (PW.pt (pw_or (pt_not (pt_val (pe_callB call_isi (by rfl) T.z_isinstance (by decide +kernel) (pa_cons (pv 0) (pa_cons (pe_bltn (v := .ty "tuple") (by rfl) T.z_tuple (by decide +kernel) rfl) pa_nil))))) (pw_or1 (pt_cmpR op_ne (pe_callB call_len_seq (by rfl) T.z_len (by decide +kernel) (pa_cons (pv 0) pa_nil)) pe_int (nomark _))))) (pss_one (ps_ret pe_bl)) pss_nil)
    (pss_cons (ps_asg (pv 0) (pg_tup rfl (pgs_cons (pg_name (i := 1) sc_is_side.nd rfl (Or.inl rfl)) (pgs_cons (pg_name (i := 2) sc_is_side.nd rfl (Or.inl rfl)) pgs_nil))))
    (pss_one (ps_ret (pe_and (pe_call (T.ok_is_within) hr (by rfl) T.g_is_within T.k_is_within T.b_is_within .nil pass0 (pa_cons (pv 1) (pa_cons pe_int (pa_cons (pe_const (by rfl) T.c_MAX_SIDE) pa_nil)))) (pe_and (pe_call (T.ok_is_fraction) hr (by rfl) T.g_is_fraction T.k_is_fraction T.b_is_fraction .nil pass0 (pa_cons (pv 2) pa_nil)) (pe_one (pe_cmpR op_gt (pe_ix ix_tup (pv 2) pe_int (fun _ _ => rfl)) pe_int (nomark _))))))))), ?_⟩
    refine ⟨_, rfl, _, _, _, _, isTup d, rfl, .ty "tuple", dx_ty hd, kit_tup d, _, rfl, ite2 (fun e1 => ?_) (fun e1 => ?_)⟩
    · rw [side_tup (nb e1)] at q
      exact iteT q
    obtain ⟨ds, rfl⟩ := tup_of (bt e1)
    obtain ⟨a, xs, rfl, hS, dx⟩ := dx_tup hd
    have lx := dxAll_len dx
    refine ⟨_, rfl, a, xs, rfl, .inr hS, rfl, _, rfl, ite2 (fun e2 => ?_) (fun e2 => ?_)⟩
    · have n2 : ds.length ≠ 2 := fun z => vne e2 (by rw [lx, z]; rfl)
      rw [side_len n2] at q
      exact q
    have l2 : ds.length = 2 := by
      have := V.int.inj (veq e2)
      omega
    obtain ⟨d0, d1, rfl⟩ := two_of2 l2
    obtain ⟨x0, x1, rfl, h0, h1⟩ := dxAll_two dx
    have val : sideOk (.tuple [d0, d1]) = (wholeD d0 0 9 && shareD d1 false) := rfl
    rw [val, share_frac] at q
    refine ⟨_, rfl, a, _, rfl, hS, rfl, _, _, rfl, _, _, rfl, rfl, ?_⟩
    refine ⟨_, rfl, Z, x0, d0, 0, 9, rfl, h0, _, rfl, ite2 (fun e3 => ?_) (fun e3 => ?_)⟩
    · rw [e3, Bool.true_and] at q
      refine ⟨_, rfl, Z, x1, d1, rfl, h1, _, rfl, ite2 (fun e4 => ?_) (fun e4 => ?_)⟩
      · obtain ⟨i, j, rfl, j1, g⟩ := fracD_inv e4
        obtain ⟨b, rfl, hB⟩ := dx_prD h1
        rw [e4, Bool.true_and] at q
        have q' : Q (V.bl (decide (1 ≤ i) && (decide (i < j) || true))) H := q
        rw [Bool.or_true, Bool.and_true] at q'
        refine ⟨_, rfl, b, _, _, _, rfl, rfl, hB, ix0, _, _, rfl, rfl, ?_⟩
        have z : decide (1 ≤ i) = decide ((0 : Int) < i) := by
          by_cases y : 1 ≤ i
          · rw [decide_eq_true y, decide_eq_true (show (0 : Int) < i by omega)]
          · rw [decide_eq_false y, decide_eq_false (show ¬ (0 : Int) < i by omega)]
        rw [z] at q'
        exact q'
      · rw [bfalse e4, Bool.false_and] at q
        exact q
    · rw [bfalse e3, Bool.false_and] at q
      exact q
end
end Ev

set_option exponentiation.threshold 20000
namespace Ev
open PySem PySem.Spec PyProof.Rows L2
theorem plus_step {A B x y W s : Int} (hB : 0 < B) (hy : 0 < y) (e : A * W = B * s) (d : y ∣ W) :
    Low (plusF (A, B) (x, y)).1 (plusF (A, B) (x, y)).2 ∧ (plusF (A, B) (x, y)).1 * W = (plusF (A, B) (x, y)).2 * (s + x * (W / y)) := by
  obtain ⟨k, rfl⟩ := d
  have m0 : B * y ≠ 0 := Int.mul_ne_zero (by omega) (by omega)
  show Low (fA (A * y + x * B) (B * y)) (fB (A * y + x * B) (B * y)) ∧ fA (A * y + x * B) (B * y) * (y * k) = fB (A * y + x * B) (B * y) * (s + x * (y * k / y))
  refine ⟨low_f m0, ?_⟩
  have e1 := fA_mul (a := A * y + x * B) m0
  have e2 := fB_mul (a := A * y + x * B) m0
  have dn := dv_ne (a := A * y + x * B) m0
  rw [Int.mul_ediv_cancel_left _ (by omega)]
  refine Int.eq_of_mul_eq_mul_left dn ?_
  have h1 : dv (A * y + x * B) (B * y) * (fA (A * y + x * B) (B * y) * (y * k)) = (A * y + x * B) * (y * k) := by
    rw [← Int.mul_assoc, ← e1]
  have h2 : dv (A * y + x * B) (B * y) * (fB (A * y + x * B) (B * y) * (s + x * k)) = (B * y) * (s + x * k) := by
    rw [← Int.mul_assoc, ← e2]
  rw [h1, h2]
  grind
theorem sumF_inv (W : Int) : ∀ (k : List (Int × Int × Int)) (A B s : Int), Low A B → A * W = B * s → (∀ q ∈ k, 1 ≤ q.2.2 ∧ q.2.2 ∣ W) →
    Low (((k.map sdD).map frD).foldl plusF (A, B)).1 (((k.map sdD).map frD).foldl plusF (A, B)).2 ∧
    (((k.map sdD).map frD).foldl plusF (A, B)).1 * W = (((k.map sdD).map frD).foldl plusF (A, B)).2 * (s + (k.map fun q => q.2.1 * (W / q.2.2)).sum)
  | [], A, B, s, lo, e, _ => by
    refine ⟨lo, ?_⟩
    show A * W = B * (s + 0)
    rw [Int.add_zero]
    exact e
  | q :: k, A, B, s, lo, e, h => by
    obtain ⟨h1, h2⟩ := h q (List.mem_cons_self ..)
    obtain ⟨p1, p2⟩ := plus_step (x := q.2.1) lo.1 (show 0 < q.2.2 by omega) e h2
    have ih := sumF_inv W k _ _ _ p1 p2 fun x hx => h x (List.mem_cons_of_mem _ hx)
    have e5 : s + q.2.1 * (W / q.2.2) + (k.map fun q => q.2.1 * (W / q.2.2)).sum = s + ((q :: k).map fun q => q.2.1 * (W / q.2.2)).sum := by
      rw [List.map_cons, List.sum_cons, Int.add_assoc]
    rw [e5] at ih
    exact ih
theorem wts_snd (l : List (Int × Int × Int)) : (wts l).map (·.2) = l.map fun q => q.2.1 * ((wholeN l : Int) / q.2.2) := by
  unfold wts
  rw [List.map_map]
  rfl
theorem sum_one {l : List (Int × Int × Int)} (h : ∀ q ∈ l, 1 ≤ q.2.2) : sumF (l.map sdD) = (1, 1) ↔ ((wts l).map (·.2)).sum = (wholeN l : Int) := by
  have wp := whole_pos h
  have d : ∀ q ∈ l, 1 ≤ q.2.2 ∧ q.2.2 ∣ (wholeN l : Int) := fun q hq => ⟨h q hq, by
    have := whole_mem hq
    have h2 := h q hq
    have e : ((q.2.2.natAbs : Nat) : Int) = q.2.2 := by omega
    rw [← e]
    exact Int.natCast_dvd_natCast.mpr this⟩
  obtain ⟨lo, e⟩ := sumF_inv (wholeN l : Int) l 0 1 0 ⟨by decide, by decide⟩ (by rw [Int.zero_mul]; rfl) d
  rw [Int.zero_add, ← wts_snd] at e
  have es : ((l.map sdD).map frD).foldl plusF (0, 1) = sumF (l.map sdD) := rfl
  rw [es] at lo e
  generalize sumF (l.map sdD) = z at *
  obtain ⟨A, B⟩ := z
  have e' : A * (wholeN l : Int) = B * ((wts l).map (·.2)).sum := e
  have lo' : Low A B := lo
  constructor
  · intro h1
    cases h1
    omega
  · intro h1
    rw [h1] at e'
    have : A = B := Int.eq_of_mul_eq_mul_right (by omega) e'
    subst this
    obtain ⟨p, g⟩ := lo'
    rw [Nat.gcd_self] at g
    have : A = 1 := by omega
    rw [this]
/-- sides that are right, by numbers alone -/
theorem sides_as {ds : List PyData} (h : ∀ d ∈ ds, sideOk d = true) : ∃ l : List (Int × Int × Int), ds = l.map sdD ∧ ∀ q ∈ l, 1 ≤ q.2.1 ∧ 1 ≤ q.2.2 ∧ 0 ≤ q.1 ∧ q.1 ≤ 9 := by
  induction ds with
  | nil => exact ⟨[], rfl, fun q hq => nomatch hq⟩
  | cons d ds ih =>
    obtain ⟨l, rfl, hl⟩ := ih fun x hx => h x (List.mem_cons_of_mem _ hx)
    obtain ⟨n, a, b, rfl, a1, b1, _, n0, n9⟩ := side_inv (h d (List.mem_cons_self ..))
    refine ⟨(n, a, b) :: l, rfl, fun q hq => ?_⟩
    rcases List.mem_cons.mp hq with rfl | hq
    · exact ⟨a1, b1, n0, n9⟩
    · exact hl q hq
theorem fitxs_sd : ∀ {l : List (Int × Int × Int)}, fitxs (l.map sdD) = true → ∀ q ∈ l, q.2.1.natAbs < 2 ^ 1400 ∧ q.2.2.natAbs < 2 ^ 1400
  | [], _, q, h => nomatch h
  | p :: l, hf, q, h => by
    have hf' : (fitx (sdD p) && fitxs (l.map sdD)) = true := by simpa only [List.map_cons, fitxs] using hf
    rw [Bool.and_eq_true] at hf'
    rcases List.mem_cons.mp h with rfl | h
    · have z := hf'.1
      simp only [sdD, fitx, fitxs, Bool.and_eq_true, decide_eq_true_eq] at z
      exact ⟨z.2.1.1, z.2.1.2.1⟩
    · exact fitxs_sd hf'.2 q h
theorem whole_le : ∀ (l : List (Int × Int × Int)) (w n : Nat), w ≤ 2 ^ (1400 * n) → (∀ q ∈ l, q.2.2.natAbs < 2 ^ 1400) → l.foldl (fun w q => Nat.lcm w q.2.2.natAbs) w ≤ 2 ^ (1400 * (n + l.length))
  | [], w, n, h, _ => h
  | q :: l, w, n, h, hl => by
    have h1 := hl q (List.mem_cons_self ..)
    have h2 : Nat.lcm w q.2.2.natAbs ≤ 2 ^ (1400 * (n + 1)) := by
      rw [Nat.mul_succ, Nat.pow_add]
      exact Nat.le_trans (PySem.W.mc_lcm_le _ _) (Nat.mul_le_mul h (Nat.le_of_lt h1))
    have := whole_le l _ (n + 1) h2 fun x hx => hl x (List.mem_cons_of_mem _ hx)
    rw [show n + 1 + l.length = n + (q :: l).length by rw [List.length_cons]; omega] at this
    exact this
section
variable {P : Program} {w : World} {K : PySem.W.Frag} {mg : Str → Option Value} {base : Heap} {A : Nat → Addr} {D : Nat → FuncData}
def sp_sides_error (K : PySem.W.Frag) : Sp := fun vs H Q _ => ∃ (Z : Addr → Prop) (v : V) (ds : List PyData), vs = [v] ∧ Dx K Z H v (.tuple ds) ∧ 1 ≤ ds.length ∧ ds.length ≤ 6 ∧ fitxs ds = true ∧
  ∀ (H' : Hp) (r : V), Same H H' → Dx K NoZ H' r (slipSides ds) → Q r H'
theorem Txt.ok_sides_error (T : Txt K mg A D) : FnOk P w K mg base CX0 4 (A 5) (D 5) ["sides"] (sp_sides_error K) := by
  refine T.F_sides_error.ok sc_sides_error (fun vs H Q E h => ?_) (fun cdv Ar outer s H vs Q E hr h => ?_)
  · obtain ⟨Z, v, ds, rfl, _⟩ := h
    rfl
  · obtain ⟨Z, v, ds, rfl, hd, l1, l6, hf, q⟩ := h
    refine ⟨_, (pss_cons (ps_for PassesOwn.never rfl (pi_enumT (by rfl) T.enumerate (pa_cons (pv 0) pa_nil)) (pg_tup rfl (pgs_cons (pg_name (i := 1) sc_sides_error.nd rfl (Or.inl rfl)) (pgs_cons (pg_name (i := 2) sc_sides_error.nd rfl (Or.inl rfl)) pgs_nil))) (pss_one (ps_if (pt_not (pt_val (pe_call (T.ok_is_side) hr (by rfl) T.g_is_side T.k_is_side T.b_is_side .nil pass0 (pa_cons (pv 2) pa_nil)))) (pss_one (ps_ret (pe_tup (pa_cons pe_str (pa_cons (pv 1) pa_nil))))) pss_nil)))
    (pss_cons (ps_for PassesOwn.never rfl (pi_range2 rfl T.range (pa_cons pe_int (pa_cons (pe_callB call_len_seq (by rfl) T.z_len (by decide +kernel) (pa_cons (pv 0) pa_nil)) pa_nil))) (pg_name (i := 1) sc_sides_error.nd rfl (Or.inl rfl)) (pss_one (ps_if (pt_cmpR op_le (pe_ix ix_tup (pe_ix ix_tup (pv 0) (pv 1) (fun _ _ => rfl)) pe_int (fun _ _ => rfl)) (pe_ix ix_tup (pe_ix ix_tup (pv 0) (pe_op op_sub (pv 1) pe_int) (fun _ _ => rfl)) pe_int (fun _ _ => rfl)) (nomark _)) (pss_one (ps_ret (pe_tup (pa_cons pe_str (pa_cons (pv 1) pa_nil))))) pss_nil)))
    (pss_cons (ps_asg (pe_call (T.ok_side_weights) (hr.mono (by decide)) (by rfl) T.g_side_weights T.k_side_weights T.b_side_weights .nil pass0 (pa_cons (pv 0) pa_nil)) (pg_tup rfl (pgs_cons (pg_name (i := 3) sc_sides_error.nd rfl (Or.inl rfl)) (pgs_cons (pg_name (i := 4) sc_sides_error.nd rfl (Or.inl rfl)) pgs_nil))))
    (pss_cons (ps_if (pt_cmpR op_ne (pe_callB (show CallR _ _ (rSum K) from cr_sum rfl) (by rfl) T.z_sum (by decide +kernel) (pa_cons (pe_lc (own := [("_", 5), ("weight", 6)]) (g := gTup K 2 (gCons (gName 5) (gCons (gName 6) gNil))) (tt := tYes) rfl sc_sides_error.nd (pi_list (pv 3)) (blkOk_by (N := ["sides", "place", "side", "weights", "whole", "_", "weight"]) (sc := defScope s_sides_error) (by decide +kernel)) (fun _ _ _ _ _ => (pg_tup rfl (pgs_cons (pg_name (i := 5) sc_sides_error.nd rfl (Or.inl rfl)) (pgs_cons (pg_name (i := 6) sc_sides_error.nd rfl (Or.inl rfl)) pgs_nil)))) (fun _ _ _ _ _ => pts_nil) (fun _ _ _ _ _ => (pv 6))) pa_nil)) (pv 4) (nomark _)) (pss_one (ps_ret pe_str)) pss_nil)
    (pss_one (ps_ret pe_non)))))), ?_⟩
    obtain ⟨a, xs, rfl, hS, dx⟩ := dx_tup hd
    have lx := dxAll_len dx
    have getD_at : ∀ {i : Nat} {d : PyData}, ds[i]? = some d → ds.getD i .none = d := fun {i d} e => by
      rw [List.getD_eq_getElem?_getD, e]
      rfl
    refine ⟨_, rfl, a, xs, rfl, hS, for_it walk_enT (fun i σ H' => Same H H' ∧ (∃ y1 y2 : Option V, σ = [some (.ref a), y1, y2, none, none, none, none]) ∧ ∀ j, j < i → sideOk (ds.getD j .none) = true)
      ⟨Same.refl _, ⟨none, none, rfl⟩, fun j h => absurd h (Nat.not_lt_zero _)⟩ (fun i σ H' _ z => Ev.Same.seqT z.1 hS) ?_ ?_⟩
    · rintro i x σ H2 H3 hi ⟨sm, ⟨y1, y2, rfl⟩, hp⟩ ⟨t, x1, x2, rfl, ht, rfl, h1, h2⟩
      cases h1
      obtain ⟨d, hdi, dd⟩ := dxAll_get dx h2
      have gd := getD_at hdi
      have sm3 := sm.trans (same_new (o := .tup [.int (i : Nat), x2]) ht)
      have dd3 := dx_same sm3 dd
      refine ⟨t, _, rfl, SqT.of upd_same, rfl, _, _, rfl, _, _, rfl, rfl, ?_⟩
      refine ⟨_, rfl, Z, x2, d, rfl, dd3, _, rfl, ite2 (fun e1 => ?_) (fun e1 => ?_)⟩
      · refine ⟨_, rfl, (by show 2 ≤ sizeLine; decide), fun p hp4 => ?_⟩
        have e : slipSides ds = .tuple [.str "side", .int (i : Nat)] := by
          unfold slipSides
          rw [first_some ds.length 0 i (fun j _ hj => by rw [hp j hj]; rfl) (Nat.zero_le _) (by omega) (by rw [gd, nb e1]; rfl)]
        refine q _ _ (sm3.trans (same_new hp4)) ?_
        rw [e]
        exact .tup (SqT.of upd_same) (.cons (.str _) (.cons (.int _) .nil))
      · refine ⟨sm3, ⟨_, _, rfl⟩, fun j hj => ?_⟩
        by_cases ej : j < i
        · exact hp j ej
        · have : j = i := by omega
          rw [this, gd]
          exact bt e1
    rintro σ H2 ⟨sm, ⟨y1, y2, rfl⟩, hp⟩
    have hS2 := Ev.Same.seqT sm hS
    have dx2 := dxAll_same sm dx
    have e1 : firstN (fun j => !sideOk (ds.getD j .none)) 0 ds.length = none := first_none _ _ fun j _ hj => by rw [hp j (by omega)]; rfl
    obtain ⟨l, rfl, hl⟩ := sides_as (ds := ds) fun d hd => by
      obtain ⟨j, hj, e⟩ := List.getElem_of_mem hd
      have := hp j (by omega)
      rw [getD_at (List.getElem?_eq_some_iff.mpr ⟨hj, e⟩)] at this
      exact this
    have num : ∀ {j : Nat} {c : Int × Int × Int}, l[j]? = some c → numD ((l.map sdD).getD j .none) = c.1 := fun {j c} e => by
      rw [getD_at (by rw [List.getElem?_map, e]; rfl)]
      rfl
    rw [List.length_map] at l1 l6 lx
    -- the order
    refine ⟨_, rfl, a, xs, rfl, .inr hS2, 1, xs.length, rfl, ⟨by decide, by decide, by omega, by omega⟩, for_range (lo := 1) (n := ((xs.length : Int) - 1).toNat) (fun i σ H' => H' = H2 ∧ (∃ y1 y2 : Option V, σ = [some (.ref a), y1, y2, none, none, none, none]) ∧ ∀ j, 1 ≤ j → j < 1 + i → decide (numD ((l.map sdD).getD j .none) ≤ numD ((l.map sdD).getD (j - 1) .none)) = false)
      ⟨rfl, ⟨y1, y2, rfl⟩, fun j h1 h2 => by omega⟩ ?_ ?_⟩
    · rintro i σ H3 hi ⟨rfl, ⟨z1, z2, rfl⟩, ho⟩
      have li : 1 + i < xs.length := by omega
      have hx1 : xs[1 + i]? = some xs[1 + i] := List.getElem?_eq_getElem li
      have hx0 : xs[i]? = some xs[i] := List.getElem?_eq_getElem (by omega)
      obtain ⟨c1, t1, b1, hc1, ev1, ht1, _⟩ := sds_at dx2 hx1
      obtain ⟨c0, t0, b0, hc0, ev0, ht0, _⟩ := sds_at dx2 hx0
      rw [ev1] at hx1
      rw [ev0] at hx0
      have num1 := num hc1
      have num0 : numD ((l.map sdD).getD (1 + i - 1) .none) = c0.1 := by
        rw [show 1 + i - 1 = i by omega]
        exact num hc0
      refine ⟨_, rfl, _, rfl, a, xs, _, _, rfl, rfl, hS2, at_of (j := 1 + i) (by omega) hx1, t1, _, _, _, rfl, rfl, ht1, ix0, ?_⟩
      refine ⟨_, rfl, _, rfl, _, _, rfl, rfl, a, xs, _, _, rfl, rfl, hS2, at_of (j := i) (by omega) hx0, t0, _, _, _, rfl, rfl, ht0, ix0, ?_⟩
      refine ⟨_, _, rfl, rfl, _, rfl, ite2 (fun e => ?_) (fun e => ?_)⟩
      · refine ⟨_, rfl, (by show 2 ≤ sizeLine; decide), fun p hp5 => ?_⟩
        have e2 : slipSides (l.map sdD) = .tuple [.str "order", .int ((1 + i : Nat) : Int)] := by
          unfold slipSides
          rw [e1]
          dsimp only
          rw [first_some ((l.map sdD).length - 1) 1 (1 + i) ho (by omega) (by rw [List.length_map]; omega) (by rw [num1, num0]; exact e)]
        refine q _ _ (sm.trans (same_new hp5)) ?_
        rw [e2]
        exact .tup (SqT.of upd_same) (.cons (.str _) (.cons (.int _) .nil))
      · refine ⟨rfl, ⟨_, _, rfl⟩, fun j h1 h2 => ?_⟩
        by_cases ej : j < 1 + i
        · exact ho j h1 ej
        · have : j = 1 + i := by omega
          rw [this, num1, num0]
          exact bfalse e
    rintro σ H3 ⟨rfl, ⟨z1, z2, rfl⟩, ho⟩
    have e2 : firstN (fun j => decide (numD ((l.map sdD).getD j .none) ≤ numD ((l.map sdD).getD (j - 1) .none))) 1 ((l.map sdD).length - 1) = none := first_none _ _ fun j h1 h2 => ho j h1 (by rw [List.length_map] at h2; omega)
    have e3 : slipSides (l.map sdD) = if sumF (l.map sdD) = (1, 1) then .none else .str "sum" := by
      unfold slipSides
      rw [e1]
      dsimp only
      rw [e2]
    have ys : ∀ q ∈ l, 1 ≤ q.2.2 := fun q hq => (hl q hq).2.1
    have bnd := fitxs_sd hf
    have small : (2 : Nat) ^ 1400 < 2 ^ 8900 := Nat.pow_lt_pow_right (by decide) (by decide)
    have wl : wholeN l < 2 ^ 8900 := by
      have h1 := whole_le l 1 0 (Nat.le_refl _) fun q hq => (bnd q hq).2
      exact Nat.lt_of_le_of_lt h1 (Nat.pow_lt_pow_right (by decide) (by omega))
    refine ⟨_, rfl, Z, .ref a, l, rfl, dx_same sm hd, fun q hq => ⟨ys q hq, Nat.lt_trans (bnd q hq).1 small⟩, wl, by omega, fun H4 p W ws sm4 hp4 hW dW => ⟨p, _, rfl, SqT.of hp4, rfl, _, _, rfl, _, _, rfl, rfl, ?_⟩⟩
    refine ⟨_, rfl, W, rfl, ⟨_, SqL.of hW⟩, fun D1 hD1 => ?_⟩
    refine lc_it walk_list (fun i H' => Same H4 H' ∧ H' D1 = some (.lst ((((wts l).map (·.2)).take i).map V.int))) ⟨same_new hD1, upd_same⟩ (fun i H' _ z => SqL.of (z.1 _ _ hW)) ?_ ?_
    · rintro i x H5 H6 hi ⟨sm5, hL⟩ ⟨rfl, hx⟩
      obtain ⟨u, v, t, hz, rfl, ht⟩ := prs_at (dxAll_same sm5 dW) hx
      refine ⟨t, _, rfl, ht, rfl, _, _, rfl, _, _, rfl, rfl, ?_⟩
      refine ⟨rfl, yes_of ?_⟩
      refine ⟨_, rfl, _, hL, ?_, same_put sm5 hD1, ?_⟩
      · rw [List.length_map, List.length_take, List.length_map]
        have : (wts l).length = l.length := List.length_map ..
        exact small1000 (by omega)
      · rw [upd_same, List.take_add_one, List.getElem?_map, hz, List.map_append]
        rfl
    · rintro H5 ⟨sm5, hL⟩
      have lw : ws.length = ((wts l).map (·.2)).length := by rw [dxAll_len dW, List.length_map, List.length_map]
      rw [lw, List.take_length] at hL
      have smF := (sm.trans sm4).trans sm5
      refine ⟨D1, (wts l).map (·.2), rfl, SqL.of hL, _, rfl, rfl, _, rfl, ite2 (fun e => ?_) (fun e => ?_)⟩
      · refine q _ _ smF ?_
        rw [e3, if_neg (fun z => vne e (congrArg V.int ((sum_one ys).mp z)))]
        exact .str _
      · refine q _ _ smF ?_
        rw [e3, if_pos ((sum_one ys).mpr (V.int.inj (veq e)))]
        exact .non
/-- the first of two can be held against a text -/
def WordOk (d : PyData) : Prop := ∀ x y, d = .tuple [x, y] → x.hasDict = false ∧ SeqAt.shaped x = true
theorem eqv_str (d : PyData) (s : Str) : PyData.eqv d (.str s) = true ↔ d = .str s := by
  cases d <;> simp [PyData.eqv]
def sp_die_error (K : PySem.W.Frag) : Sp := fun vs H Q _ => ∃ (Z : Addr → Prop) (v : V) (d : PyData), vs = [v] ∧ Dx K Z H v d ∧ fitx d = true ∧ WordOk d ∧ ∀ (H' : Hp) (r : V), Same H H' → Dx K NoZ H' r (slipD d) → Q r H'
theorem Txt.ok_die_error (T : Txt K mg A D) : FnOk P w K mg base CX0 5 (A 0) (D 0) ["value"] (sp_die_error K) := by
  refine T.F_die_error.ok sc_die_error (fun vs H Q E h => ?_) (fun cdv Ar outer s H vs Q E hr h => ?_)
  · obtain ⟨Z, v, d, rfl, _⟩ := h
    rfl
  · obtain ⟨Z, v, d, rfl, hd, hf, hw, q⟩ := h
    refine ⟨_, (pss_cons (ps_if (PW.pt (pw_or (pt_not (pt_val (pe_callB call_isi (by rfl) T.z_isinstance (by decide +kernel) (pa_cons (pv 0) (pa_cons (pe_bltn (v := .ty "tuple") (by rfl) T.z_tuple (by decide +kernel) rfl) pa_nil))))) (pw_or1 (pt_cmpR op_ne (pe_callB call_len_seq (by rfl) T.z_len (by decide +kernel) (pa_cons (pv 0) pa_nil)) pe_int (nomark _))))) (pss_one (ps_ret pe_str)) pss_nil)
    (pss_cons (ps_asg (pv 0) (pg_tup rfl (pgs_cons (pg_name (i := 1) sc_die_error.nd rfl (Or.inl rfl)) (pgs_cons (pg_name (i := 2) sc_die_error.nd rfl (Or.inl rfl)) pgs_nil))))
    (pss_cons (ps_if (pt_cmpR (op_eqD hr.units) (pv 1) pe_str (nomark _)) (pss_one (ps_ret (pe_ifExp (pt_val (pe_call (T.ok_is_chance) (hr.mono (by decide)) (by rfl) T.g_is_chance T.k_is_chance T.b_is_chance .nil pass0 (pa_cons (pv 2) pa_nil))) pe_non pe_str))) pss_nil)
    (pss_cons (ps_if (PW.pt (pw_or (pt_cmpR (op_neD hr.units) (pv 1) pe_str (nomark _)) (pw_or (pt_not (pt_val (pe_callB call_isi (by rfl) T.z_isinstance (by decide +kernel) (pa_cons (pv 2) (pa_cons (pe_bltn (v := .ty "tuple") (by rfl) T.z_tuple (by decide +kernel) rfl) pa_nil))))) (pw_or1 (pt_not (pt_chain op_le op_le pe_int (pe_callB call_len_seq (by rfl) T.z_len (by decide +kernel) (pa_cons (pv 2) pa_nil)) (pe_const (by rfl) T.c_MAX_SIDES))))))) (pss_one (ps_ret pe_str)) pss_nil)
    (pss_one (ps_ret (pe_call (T.ok_sides_error) hr (by rfl) T.g_sides_error T.k_sides_error T.b_sides_error .nil pass0 (pa_cons (pv 2) pa_nil)))))))), ?_⟩
    have form : slipD d = .str "form" → Q (.str "form") H := fun e => q H _ (Same.refl H) (by rw [e]; exact .str _)
    refine ⟨_, rfl, _, _, _, _, isTup d, rfl, .ty "tuple", dx_ty hd, kit_tup d, _, rfl, ite2 (fun e1 => ?_) (fun e1 => ?_)⟩
    · exact iteT (form (slip_tup (nb e1)))
    obtain ⟨ds, rfl⟩ := tup_of (bt e1)
    obtain ⟨a, xs, rfl, hS, dx⟩ := dx_tup hd
    have lx := dxAll_len dx
    refine ⟨_, rfl, a, xs, rfl, .inr hS, rfl, _, rfl, ite2 (fun e2 => ?_) (fun e2 => ?_)⟩
    · have n2 : ds.length ≠ 2 := fun z => vne e2 (by rw [lx, z]; rfl)
      exact form (slip_len n2)
    have l2 : ds.length = 2 := by
      have := V.int.inj (veq e2)
      omega
    obtain ⟨d0, d1, rfl⟩ := two_of2 l2
    obtain ⟨x0, x1, rfl, h0, h1⟩ := dxAll_two dx
    obtain ⟨nd, sh⟩ := hw d0 d1 rfl
    refine ⟨_, rfl, a, _, rfl, hS, rfl, _, _, rfl, _, _, rfl, rfl, ?_⟩
    refine ⟨_, rfl, _, _, dp_of_dx h0 nd, .str _, sh, (by decide +kernel), _, rfl, ite2 (fun e3 => ?_) (fun e3 => ?_)⟩
    · have ed := (eqv_str d0 "till").mp e3
      subst ed
      rw [slip_till] at q
      refine ⟨_, rfl, Z, x1, d1, rfl, h1, _, rfl, ite2 (fun e4 => ?_) (fun e4 => ?_)⟩
      · rw [if_pos e4] at q
        exact q H _ (Same.refl H) .non
      · rw [if_neg e4] at q
        exact q H _ (Same.refl H) (.str _)
    have nt : d0 ≠ .str "till" := fun z => e3 ((eqv_str d0 "till").mpr z)
    refine ⟨_, rfl, _, _, dp_of_dx h0 nd, .str _, sh, (by decide +kernel), _, rfl, ite2 (fun e4 => ?_) (fun e4 => ?_)⟩
    · have n4 : d0 ≠ .str "die" := fun z => by
        rw [(eqv_str d0 "die").mpr z] at e4
        cases e4
      refine iteT (form ?_)
      cases d0 with
      | str t =>
        rw [slip_other d1 (fun z => nt (by rw [z])), if_neg (fun z => n4 (by rw [z]))]
      | _ => exact slip_str rfl
    have ed := (eqv_str d0 "die").mp (bt e4)
    subst ed
    have ex : slipD (.tuple [.str "die", d1]) = slipDie d1 := by
      rw [slip_other d1 (by decide), if_pos rfl]
    refine ⟨_, rfl, _, _, _, _, isTup d1, rfl, .ty "tuple", dx_ty h1, kit_tup d1, _, rfl, ite2 (fun e6 => ?_) (fun e6 => ?_)⟩
    · refine iteT (form ?_)
      rw [ex]
      have n6 := nb e6
      cases d1 <;> first | rfl | cases n6
    obtain ⟨es, rfl⟩ := tup_of (bt e6)
    obtain ⟨b, ys, rfl, hB, dxb⟩ := dx_tup h1
    have ly := dxAll_len dxb
    have ex' : slipD (.tuple [.str "die", .tuple es]) = if 1 ≤ es.length ∧ es.length ≤ 6 then slipSides es else .str "form" := ex
    have hfe : fitxs es = true := by
      simp only [fitx, fitxs, Bool.and_eq_true] at hf
      exact hf.2.1
    refine ⟨_, rfl, b, ys, rfl, .inr hB, _, _, rfl, rfl, _, rfl, ite2 (fun e7 => ?_) (fun e7 => ?_)⟩
    · refine ⟨_, _, rfl, rfl, _, rfl, ite2 (fun e8 => ?_) (fun e8 => ?_)⟩
      · refine form ?_
        rw [ex', if_neg]
        rintro ⟨_, z⟩
        rw [Bool.not_eq_true', decide_eq_false_iff_not] at e8
        omega
      · have k1 : 1 ≤ es.length := by
          have := of_decide_eq_true e7
          omega
        have k6 : es.length ≤ 6 := by
          rw [Bool.not_eq_true', decide_eq_false_iff_not] at e8
          omega
        refine ⟨_, rfl, Z, _, es, rfl, h1, k1, k6, hfe, fun H' r sm hr' => q H' r sm ?_⟩
        rw [ex', if_pos ⟨k1, k6⟩]
        exact hr'
    · refine ⟨_, rfl, ite2 (fun e8 => ?_) (fun e8 => absurd rfl e8)⟩
      refine form ?_
      rw [ex', if_neg]
      rintro ⟨z, _⟩
      exact e7 (decide_eq_true (by omega))
end
end Ev

set_option exponentiation.threshold 10000
namespace Ev
open PySem PySem.Spec PyProof.Rows L2
section
variable {P : Program} {w : World} {K : PySem.W.Frag} {mg : Str → Option Value} {base : Heap} {A : Nat → Addr} {D : Nat → FuncData}
def sp_bent_side (K : PySem.W.Frag) : Sp := fun vs H Q _ => ∃ (L F a b : Addr) (n x y : Int), vs = [.ref L, .ref a] ∧ Lm H L F ∧ SqT K H a [.int n, .ref b] ∧ SqT K H b [.int x, .int y] ∧ 0 ≤ n ∧ n ≤ 9 ∧ 1 ≤ x ∧ x ≤ 1000 ∧ 1 ≤ y ∧ y ≤ 1000 ∧
  ∀ (H' : Hp) (v : V) (d : PyData), Kp L F H H' → Lm H' L F → Dx K (ZN L F H) H' v d → Dt 30 4 d → Q v H'
theorem Txt.ok_bent_side (T : Txt K mg A D) : FnOk P w K mg base CX0 3 (A 22) (D 22) ["loom", "side"] (sp_bent_side K) := by
  refine T.F_bent_side.ok sc_bent_side (fun vs H Q E h => ?_) (fun cdv Ar outer s H vs Q E hr h => ?_)
  · obtain ⟨L, F, a, b, n, x, y, rfl, _⟩ := h
    rfl
  · obtain ⟨L, F, a, b, n, x, y, rfl, hM, hA, hB, n0, n9, x1, x2, y1, y2, q⟩ := h
    refine ⟨_, (pss_cons (ps_asg (pv 1) (pg_tup rfl (pgs_cons (pg_name (i := 2) sc_bent_side.nd rfl (Or.inl rfl)) (pgs_cons (pg_name (i := 3) sc_bent_side.nd rfl (Or.inl rfl)) pgs_nil))))
    (pss_cons (ps_set (i := 4) sc_bent_side.nd rfl (Or.inl rfl) (pe_lst (pa_cons (pe_tup (pa_cons (pe_op op_add (pv 2) pe_int) (pa_cons (pv 3) pa_nil))) (pa_cons (pe_tup (pa_cons (pe_op op_sub (pv 2) pe_int) (pa_cons (pv 3) pa_nil))) (pa_cons (pe_tup (pa_cons pe_int (pa_cons (pv 3) pa_nil))) (pa_cons (pe_tup (pa_cons pe_bl (pa_cons (pv 3) pa_nil))) (pa_cons (pe_tup (pa_cons (pv 2) (pa_cons (pe_tup (pa_cons (pe_op op_mul (pe_ix ix_tup (pv 3) pe_int (fun _ _ => rfl)) pe_int) (pa_cons (pe_op op_mul (pe_ix ix_tup (pv 3) pe_int (fun _ _ => rfl)) pe_int) pa_nil))) pa_nil))) pa_nil)))))))
    (pss_cons (ps_set (i := 4) sc_bent_side.nd rfl (Or.inl rfl) (pe_op op_cat (pv 4) (pe_lst (pa_cons (pe_tup (pa_cons (pv 2) (pa_cons (pe_tup (pa_cons pe_int (pa_cons pe_int pa_nil))) pa_nil))) (pa_cons (pe_tup (pa_cons (pv 2) (pa_cons (pe_tup (pa_cons (pe_un un_neg pe_int) (pa_cons pe_int pa_nil))) pa_nil))) (pa_cons (pe_tup (pa_cons (pv 2) (pa_cons (pe_callTy call_list_of (by rfl) T.z_list (by decide +kernel) (pa_cons (pv 3) pa_nil)) pa_nil))) (pa_cons (pe_lst (pa_cons (pv 2) (pa_cons (pv 3) pa_nil))) (pa_cons (pe_tup (pa_cons (pv 2) pa_nil)) (pa_cons (pv 2) (pa_cons pe_non pa_nil))))))))))
    (pss_cons (ps_set (i := 4) sc_bent_side.nd rfl (Or.inl rfl) (pe_op op_cat (pv 4) (pe_lst (pa_cons (pe_tup (pa_cons (pv 2) (pa_cons (pv 3) (pa_cons pe_int pa_nil)))) (pa_cons (pe_tup (pa_cons (pe_callTy call_str_int (by rfl) T.z_str (by decide +kernel) (pa_cons (pv 2) pa_nil)) (pa_cons (pv 3) pa_nil))) (pa_cons (pe_tup (pa_cons (pv 2) (pa_cons (pe_tup (pa_cons (pe_ix ix_tup (pv 3) pe_int (fun _ _ => rfl)) (pa_cons (pe_op op_add (pe_ix ix_tup (pv 3) pe_int (fun _ _ => rfl)) pe_int) pa_nil))) pa_nil))) pa_nil))))))
    (pss_cons (ps_set (i := 4) sc_bent_side.nd rfl (Or.inl rfl) (pe_op op_cat (pv 4) (pe_lst (pa_cons (pe_tup (pa_cons (pv 2) (pa_cons pe_int pa_nil))) (pa_cons (pe_tup (pa_cons (pv 2) (pa_cons (pe_revT (pv 3)) pa_nil))) pa_nil)))))
    (pss_cons (ps_set (i := 4) sc_bent_side.nd rfl (Or.inl rfl) (pe_op op_cat (pv 4) (pe_lst (pa_cons (pe_tup (pa_cons (pv 2) (pa_cons (pe_tup (pa_cons pe_bl (pa_cons pe_int pa_nil))) pa_nil))) (pa_cons (pe_tup (pa_cons (pv 2) (pa_cons (pe_tup (pa_cons pe_int (pa_cons pe_bl pa_nil))) pa_nil))) (pa_cons (pe_tup (pa_cons (pv 3) (pa_cons (pv 2) pa_nil))) (pa_cons (pe_tup (pa_cons (pv 2) (pa_cons (pe_tup (pa_cons pe_int (pa_cons pe_int pa_nil))) pa_nil))) (pa_cons (pe_tup (pa_cons pe_int (pa_cons (pv 3) pa_nil))) pa_nil))))))))
    (pss_one (ps_ret (pe_call (T.ok_pick) hr (by rfl) T.g_pick T.k_pick T.b_pick .nil pass0 (pa_cons (pv 0) (pa_cons (pv 4) pa_nil))))))))))), ?_⟩
    have z : ∀ n : Nat, n ≤ 100 → n ≤ sizeLine := fun n h => Nat.le_trans h (by decide)
    have sdt : Dt 3 0 (.str (Str.ofString (toString n))) := by
      have : n = 0 ∨ n = 1 ∨ n = 2 ∨ n = 3 ∨ n = 4 ∨ n = 5 ∨ n = 6 ∨ n = 7 ∨ n = 8 ∨ n = 9 := by omega
      rcases this with rfl | rfl | rfl | rfl | rfl | rfl | rfl | rfl | rfl | rfl <;> exact ⟨by decide +kernel, by decide +kernel, by decide +kernel⟩
    have slog : n.natAbs.log2 < 1920 := Nat.lt_trans (PySem.Flt.log2_lt_of (n := n.natAbs) (k := 10) (by decide) (by omega)) (by decide)
    refine ⟨_, rfl, a, _, rfl, hA, rfl, _, _, rfl, _, _, rfl, rfl, ?_⟩
    have M0 := hM
    have c0 : Kp L F H H := fun _ _ _ _ e => e




    refine ⟨_, rfl, _, _, rfl, rfl, _, rfl, z 2 (by decide), fun p1 h1 => ?_⟩
    generalize g1 : upd H p1 (HO.tup [V.int (n + 1), V.ref b]) = G1
    obtain ⟨M1, j1, e1, l1, f1⟩ := al_eq g1 M0 h1
    clear g1
    have c1 := c0.trans j1
    refine ⟨_, rfl, _, _, rfl, rfl, _, rfl, z 2 (by decide), fun p2 h2 => ?_⟩
    generalize g2 : upd G1 p2 (HO.tup [V.int (n - 1), V.ref b]) = G2
    obtain ⟨M2, j2, e2, l2, f2⟩ := al_eq g2 M1 h2
    clear g2
    have c2 := c1.trans j2
    refine ⟨_, rfl, z 2 (by decide), fun p3 h3 => ?_⟩
    generalize g3 : upd G2 p3 (HO.tup [V.int 10, V.ref b]) = G3
    obtain ⟨M3, j3, e3, l3, f3⟩ := al_eq g3 M2 h3
    clear g3
    have c3 := c2.trans j3
    refine ⟨_, rfl, z 2 (by decide), fun p4 h4 => ?_⟩
    generalize g4 : upd G3 p4 (HO.tup [V.bl true, V.ref b]) = G4
    obtain ⟨M4, j4, e4, l4, f4⟩ := al_eq g4 M3 h4
    clear g4
    have c4 := c3.trans j4
    refine ⟨_, rfl, _, rfl, b, _, _, _, rfl, rfl, c4.sqT hM hB, ix0, _, _, rfl, rfl, .inl ⟨by omega, by omega⟩, _, rfl, b, _, _, _, rfl, rfl, c4.sqT hM hB, ix1, _, _, rfl, rfl, .inl ⟨by omega, by omega⟩, z 2 (by decide), fun p5 h5 => ?_⟩
    generalize g5 : upd G4 p5 (HO.tup [V.int (x * 2), V.int (y * 2)]) = G5
    obtain ⟨M5, j5, e5, l5, f5⟩ := al_eq g5 M4 h5
    clear g5
    have c5 := c4.trans j5
    refine ⟨z 2 (by decide), fun p6 h6 => ?_⟩
    generalize g6 : upd G5 p6 (HO.tup [V.int n, V.ref p5]) = G6
    obtain ⟨M6, j6, e6, l6, f6⟩ := al_eq g6 M5 h6
    clear g6
    have c6 := c5.trans j6
    refine ⟨z 5 (by decide), fun p7 h7 => ?_⟩
    generalize g7 : upd G6 p7 (HO.lst [V.ref p1, V.ref p2, V.ref p3, V.ref p4, V.ref p6]) = G7
    obtain ⟨M7, j7, e7, l7, f7⟩ := al_eq g7 M6 h7
    clear g7
    have c7 := c6.trans j7
    refine ⟨_, rfl, _, rfl, z 2 (by decide), fun p8 h8 => ?_⟩
    generalize g8 : upd G7 p8 (HO.tup [V.int 0, V.int 1]) = G8
    obtain ⟨M8, j8, e8, l8, f8⟩ := al_eq g8 M7 h8
    clear g8
    have c8 := c7.trans j8
    refine ⟨z 2 (by decide), fun p9 h9 => ?_⟩
    generalize g9 : upd G8 p9 (HO.tup [V.int n, V.ref p8]) = G9
    obtain ⟨M9, j9, e9, l9, f9⟩ := al_eq g9 M8 h9
    clear g9
    have c9 := c8.trans j9
    refine ⟨_, rfl, _, rfl, z 2 (by decide), fun p10 h10 => ?_⟩
    generalize g10 : upd G9 p10 (HO.tup [V.int (-1), V.int 2]) = G10
    obtain ⟨M10, j10, e10, l10, f10⟩ := al_eq g10 M9 h10
    clear g10
    have c10 := c9.trans j10
    refine ⟨z 2 (by decide), fun p11 h11 => ?_⟩
    generalize g11 : upd G10 p11 (HO.tup [V.int n, V.ref p10]) = G11
    obtain ⟨M11, j11, e11, l11, f11⟩ := al_eq g11 M10 h11
    clear g11
    have c11 := c10.trans j11
    refine ⟨_, rfl, _, rfl, b, _, rfl, .inr (c11.sqT hM hB), fun p12 h12 => ?_⟩
    generalize g12 : upd G11 p12 (HO.lst [V.int x, V.int y]) = G12
    obtain ⟨M12, j12, e12, l12, f12⟩ := al_eq g12 M11 h12
    clear g12
    have c12 := c11.trans j12
    refine ⟨z 2 (by decide), fun p13 h13 => ?_⟩
    generalize g13 : upd G12 p13 (HO.tup [V.int n, V.ref p12]) = G13
    obtain ⟨M13, j13, e13, l13, f13⟩ := al_eq g13 M12 h13
    clear g13
    have c13 := c12.trans j13
    refine ⟨_, rfl, _, rfl, z 2 (by decide), fun p14 h14 => ?_⟩
    generalize g14 : upd G13 p14 (HO.lst [V.int n, V.ref b]) = G14
    obtain ⟨M14, j14, e14, l14, f14⟩ := al_eq g14 M13 h14
    clear g14
    have c14 := c13.trans j14
    refine ⟨_, rfl, z 1 (by decide), fun p15 h15 => ?_⟩
    generalize g15 : upd G14 p15 (HO.tup [V.int n]) = G15
    obtain ⟨M15, j15, e15, l15, f15⟩ := al_eq g15 M14 h15
    clear g15
    have c15 := c14.trans j15
    refine ⟨_, rfl, z 7 (by decide), fun p16 h16 => ?_⟩
    generalize g16 : upd G15 p16 (HO.lst [V.ref p9, V.ref p11, V.ref p13, V.ref p14, V.ref p15, V.int n, V.non]) = G16
    obtain ⟨M16, j16, e16, l16, f16⟩ := al_eq g16 M15 h16
    clear g16
    have c16 := c15.trans j16
    have a17 := (j8.trans (j9.trans (j10.trans (j11.trans (j12.trans (j13.trans (j14.trans (j15.trans j16)))))))) p7 _ l7 f7 e7
    refine ⟨p7, p16, _, _, rfl, rfl, a17, e16, (by show 12 ≤ sizeLine; decide), fun p17 h17 => ?_⟩
    generalize g17 : upd G16 p17 (HO.lst ([V.ref p1, V.ref p2, V.ref p3, V.ref p4, V.ref p6] ++ [V.ref p9, V.ref p11, V.ref p13, V.ref p14, V.ref p15, V.int n, V.non])) = G17
    obtain ⟨M17, j17, e17, l17, f17⟩ := al_eq g17 M16 h17
    clear g17
    have c17 := c16.trans j17
    refine ⟨_, rfl, _, rfl, _, rfl, z 3 (by decide), fun p18 h18 => ?_⟩
    generalize g18 : upd G17 p18 (HO.tup [V.int n, V.ref b, V.int 0]) = G18
    obtain ⟨M18, j18, e18, l18, f18⟩ := al_eq g18 M17 h18
    clear g18
    have c18 := c17.trans j18
    refine ⟨_, rfl, _, rfl, slog, _, rfl, z 2 (by decide), fun p19 h19 => ?_⟩
    generalize g19 : upd G18 p19 (HO.tup [V.str (Str.ofString (toString n)), V.ref b]) = G19
    obtain ⟨M19, j19, e19, l19, f19⟩ := al_eq g19 M18 h19
    clear g19
    have c19 := c18.trans j19
    refine ⟨_, rfl, _, rfl, b, _, _, _, rfl, rfl, c19.sqT hM hB, ix0, _, rfl, b, _, _, _, rfl, rfl, c19.sqT hM hB, ix1, _, _, rfl, rfl, z 2 (by decide), fun p20 h20 => ?_⟩
    generalize g20 : upd G19 p20 (HO.tup [V.int x, V.int (y + 1)]) = G20
    obtain ⟨M20, j20, e20, l20, f20⟩ := al_eq g20 M19 h20
    clear g20
    have c20 := c19.trans j20
    refine ⟨z 2 (by decide), fun p21 h21 => ?_⟩
    generalize g21 : upd G20 p21 (HO.tup [V.int n, V.ref p20]) = G21
    obtain ⟨M21, j21, e21, l21, f21⟩ := al_eq g21 M20 h21
    clear g21
    have c21 := c20.trans j21
    refine ⟨z 3 (by decide), fun p22 h22 => ?_⟩
    generalize g22 : upd G21 p22 (HO.lst [V.ref p18, V.ref p19, V.ref p21]) = G22
    obtain ⟨M22, j22, e22, l22, f22⟩ := al_eq g22 M21 h22
    clear g22
    have c22 := c21.trans j22
    have a23 := (j18.trans (j19.trans (j20.trans (j21.trans j22)))) p17 _ l17 f17 e17
    refine ⟨p17, p22, _, _, rfl, rfl, a23, e22, (by show 15 ≤ sizeLine; decide), fun p23 h23 => ?_⟩
    generalize g23 : upd G22 p23 (HO.lst ([V.ref p1, V.ref p2, V.ref p3, V.ref p4, V.ref p6] ++ [V.ref p9, V.ref p11, V.ref p13, V.ref p14, V.ref p15, V.int n, V.non] ++ [V.ref p18, V.ref p19, V.ref p21])) = G23
    obtain ⟨M23, j23, e23, l23, f23⟩ := al_eq g23 M22 h23
    clear g23
    have c23 := c22.trans j23
    refine ⟨_, rfl, _, rfl, z 2 (by decide), fun p24 h24 => ?_⟩
    generalize g24 : upd G23 p24 (HO.tup [V.int n, V.int 1]) = G24
    obtain ⟨M24, j24, e24, l24, f24⟩ := al_eq g24 M23 h24
    clear g24
    have c24 := c23.trans j24
    refine ⟨_, rfl, _, rfl, b, _, rfl, c24.sqT hM hB, fun p25 h25 => ?_⟩
    generalize g25 : upd G24 p25 (HO.tup ([V.int x, V.int y] : List V).reverse) = G25
    obtain ⟨M25, j25, e25, l25, f25⟩ := al_eq g25 M24 h25
    clear g25
    have c25 := c24.trans j25
    refine ⟨z 2 (by decide), fun p26 h26 => ?_⟩
    generalize g26 : upd G25 p26 (HO.tup [V.int n, V.ref p25]) = G26
    obtain ⟨M26, j26, e26, l26, f26⟩ := al_eq g26 M25 h26
    clear g26
    have c26 := c25.trans j26
    refine ⟨z 2 (by decide), fun p27 h27 => ?_⟩
    generalize g27 : upd G26 p27 (HO.lst [V.ref p24, V.ref p26]) = G27
    obtain ⟨M27, j27, e27, l27, f27⟩ := al_eq g27 M26 h27
    clear g27
    have c27 := c26.trans j27
    have a28 := (j24.trans (j25.trans (j26.trans j27))) p23 _ l23 f23 e23
    refine ⟨p23, p27, _, _, rfl, rfl, a28, e27, (by show 17 ≤ sizeLine; decide), fun p28 h28 => ?_⟩
    generalize g28 : upd G27 p28 (HO.lst ([V.ref p1, V.ref p2, V.ref p3, V.ref p4, V.ref p6] ++ [V.ref p9, V.ref p11, V.ref p13, V.ref p14, V.ref p15, V.int n, V.non] ++ [V.ref p18, V.ref p19, V.ref p21] ++ [V.ref p24, V.ref p26])) = G28
    obtain ⟨M28, j28, e28, l28, f28⟩ := al_eq g28 M27 h28
    clear g28
    have c28 := c27.trans j28
    refine ⟨_, rfl, _, rfl, z 2 (by decide), fun p29 h29 => ?_⟩
    generalize g29 : upd G28 p29 (HO.tup [V.bl true, V.int 2]) = G29
    obtain ⟨M29, j29, e29, l29, f29⟩ := al_eq g29 M28 h29
    clear g29
    have c29 := c28.trans j29
    refine ⟨z 2 (by decide), fun p30 h30 => ?_⟩
    generalize g30 : upd G29 p30 (HO.tup [V.int n, V.ref p29]) = G30
    obtain ⟨M30, j30, e30, l30, f30⟩ := al_eq g30 M29 h30
    clear g30
    have c30 := c29.trans j30
    refine ⟨_, rfl, z 2 (by decide), fun p31 h31 => ?_⟩
    generalize g31 : upd G30 p31 (HO.tup [V.int 1, V.bl true]) = G31
    obtain ⟨M31, j31, e31, l31, f31⟩ := al_eq g31 M30 h31
    clear g31
    have c31 := c30.trans j31
    refine ⟨z 2 (by decide), fun p32 h32 => ?_⟩
    generalize g32 : upd G31 p32 (HO.tup [V.int n, V.ref p31]) = G32
    obtain ⟨M32, j32, e32, l32, f32⟩ := al_eq g32 M31 h32
    clear g32
    have c32 := c31.trans j32
    refine ⟨_, rfl, _, rfl, z 2 (by decide), fun p33 h33 => ?_⟩
    generalize g33 : upd G32 p33 (HO.tup [V.ref b, V.int n]) = G33
    obtain ⟨M33, j33, e33, l33, f33⟩ := al_eq g33 M32 h33
    clear g33
    have c33 := c32.trans j33
    refine ⟨_, rfl, z 2 (by decide), fun p34 h34 => ?_⟩
    generalize g34 : upd G33 p34 (HO.tup [V.int 1, V.int 0]) = G34
    obtain ⟨M34, j34, e34, l34, f34⟩ := al_eq g34 M33 h34
    clear g34
    have c34 := c33.trans j34
    refine ⟨z 2 (by decide), fun p35 h35 => ?_⟩
    generalize g35 : upd G34 p35 (HO.tup [V.int n, V.ref p34]) = G35
    obtain ⟨M35, j35, e35, l35, f35⟩ := al_eq g35 M34 h35
    clear g35
    have c35 := c34.trans j35
    refine ⟨_, rfl, z 2 (by decide), fun p36 h36 => ?_⟩
    generalize g36 : upd G35 p36 (HO.tup [V.int 0, V.ref b]) = G36
    obtain ⟨M36, j36, e36, l36, f36⟩ := al_eq g36 M35 h36
    clear g36
    have c36 := c35.trans j36
    refine ⟨z 5 (by decide), fun p37 h37 => ?_⟩
    generalize g37 : upd G36 p37 (HO.lst [V.ref p30, V.ref p32, V.ref p33, V.ref p35, V.ref p36]) = G37
    obtain ⟨M37, j37, e37, l37, f37⟩ := al_eq g37 M36 h37
    clear g37
    have c37 := c36.trans j37
    have a38 := (j29.trans (j30.trans (j31.trans (j32.trans (j33.trans (j34.trans (j35.trans (j36.trans j37)))))))) p28 _ l28 f28 e28
    refine ⟨p28, p37, _, _, rfl, rfl, a38, e37, (by show 22 ≤ sizeLine; decide), fun p38 h38 => ?_⟩
    generalize g38 : upd G37 p38 (HO.lst ([V.ref p1, V.ref p2, V.ref p3, V.ref p4, V.ref p6] ++ [V.ref p9, V.ref p11, V.ref p13, V.ref p14, V.ref p15, V.int n, V.non] ++ [V.ref p18, V.ref p19, V.ref p21] ++ [V.ref p24, V.ref p26] ++ [V.ref p30, V.ref p32, V.ref p33, V.ref p35, V.ref p36])) = G38
    obtain ⟨M38, j38, e38, l38, f38⟩ := al_eq g38 M37 h38
    clear g38
    have c38 := c37.trans j38
    have kk38 : Kp L F G38 G38 := fun _ _ _ _ e => e
    have kk37 := j38.trans kk38
    have kk36 := j37.trans kk37
    have kk35 := j36.trans kk36
    have kk34 := j35.trans kk35
    have kk33 := j34.trans kk34
    have kk32 := j33.trans kk33
    have kk31 := j32.trans kk32
    have kk30 := j31.trans kk31
    have kk29 := j30.trans kk30
    have kk28 := j29.trans kk29
    have kk27 := j28.trans kk28
    have kk26 := j27.trans kk27
    have kk25 := j26.trans kk26
    have kk24 := j25.trans kk25
    have kk23 := j24.trans kk24
    have kk22 := j23.trans kk23
    have kk21 := j22.trans kk22
    have kk20 := j21.trans kk21
    have kk19 := j20.trans kk20
    have kk18 := j19.trans kk19
    have kk17 := j18.trans kk18
    have kk16 := j17.trans kk17
    have kk15 := j16.trans kk16
    have kk14 := j15.trans kk15
    have kk13 := j14.trans kk14
    have kk12 := j13.trans kk13
    have kk11 := j12.trans kk12
    have kk10 := j11.trans kk11
    have kk9 := j10.trans kk10
    have kk8 := j9.trans kk9
    have kk7 := j8.trans kk8
    have kk6 := j7.trans kk7
    have kk5 := j6.trans kk6
    have kk4 := j5.trans kk5
    have kk3 := j4.trans kk4
    have kk2 := j3.trans kk3
    have kk1 := j2.trans kk2
    have kk0 := j1.trans kk1
    have q1 := kk1 p1 _ l1 f1 e1
    have q2 := kk2 p2 _ l2 f2 e2
    have q3 := kk3 p3 _ l3 f3 e3
    have q4 := kk4 p4 _ l4 f4 e4
    have q5 := kk5 p5 _ l5 f5 e5
    have q6 := kk6 p6 _ l6 f6 e6
    have q7 := kk7 p7 _ l7 f7 e7
    have q8 := kk8 p8 _ l8 f8 e8
    have q9 := kk9 p9 _ l9 f9 e9
    have q10 := kk10 p10 _ l10 f10 e10
    have q11 := kk11 p11 _ l11 f11 e11
    have q12 := kk12 p12 _ l12 f12 e12
    have q13 := kk13 p13 _ l13 f13 e13
    have q14 := kk14 p14 _ l14 f14 e14
    have q15 := kk15 p15 _ l15 f15 e15
    have q16 := kk16 p16 _ l16 f16 e16
    have q17 := kk17 p17 _ l17 f17 e17
    have q18 := kk18 p18 _ l18 f18 e18
    have q19 := kk19 p19 _ l19 f19 e19
    have q20 := kk20 p20 _ l20 f20 e20
    have q21 := kk21 p21 _ l21 f21 e21
    have q22 := kk22 p22 _ l22 f22 e22
    have q23 := kk23 p23 _ l23 f23 e23
    have q24 := kk24 p24 _ l24 f24 e24
    have q25 := kk25 p25 _ l25 f25 e25
    have q26 := kk26 p26 _ l26 f26 e26
    have q27 := kk27 p27 _ l27 f27 e27
    have q28 := kk28 p28 _ l28 f28 e28
    have q29 := kk29 p29 _ l29 f29 e29
    have q30 := kk30 p30 _ l30 f30 e30
    have q31 := kk31 p31 _ l31 f31 e31
    have q32 := kk32 p32 _ l32 f32 e32
    have q33 := kk33 p33 _ l33 f33 e33
    have q34 := kk34 p34 _ l34 f34 e34
    have q35 := kk35 p35 _ l35 f35 e35
    have q36 := kk36 p36 _ l36 f36 e36
    have q37 := kk37 p37 _ l37 f37 e37
    have q38 := kk38 p38 _ l38 f38 e38
    refine ⟨_, rfl, _, rfl, L, F, p38, _, rfl, M38, SqL.of e38, l38, f38, (by show 0 < 22; decide), (by show 22 < 1073741824; decide), fun H9 i x kp hM9 hx => ?_⟩
    have main : ∃ d, Dx K (ZN L F H) G38 x d ∧ Dt 30 4 d := by
      have hx' := List.mem_of_getElem? hx
      simp only [List.cons_append, List.nil_append, List.mem_cons, List.not_mem_nil, or_false] at hx'
      rcases hx' with rfl | rfl | rfl | rfl | rfl | rfl | rfl | rfl | rfl | rfl | rfl | rfl | rfl | rfl | rfl | rfl | rfl | rfl | rfl | rfl | rfl | rfl
      · exact ⟨_, (.tup (SqT.of q1) (.cons (.int _) (.cons (prD_dx (kk0.sqT hM hB)) .nil))), (Dts.tuple (Dts.cons (dt_small (by omega)) (Dts.cons (Dts.tuple (Dts.cons (dt_small (by omega)) (Dts.cons (dt_small (by omega)) Dts.nil))) Dts.nil))).le (by decide +kernel) (by decide +kernel)⟩
      · exact ⟨_, (.tup (SqT.of q2) (.cons (.int _) (.cons (prD_dx (kk0.sqT hM hB)) .nil))), (Dts.tuple (Dts.cons (dt_small (by omega)) (Dts.cons (Dts.tuple (Dts.cons (dt_small (by omega)) (Dts.cons (dt_small (by omega)) Dts.nil))) Dts.nil))).le (by decide +kernel) (by decide +kernel)⟩
      · exact ⟨_, (.tup (SqT.of q3) (.cons (.int _) (.cons (prD_dx (kk0.sqT hM hB)) .nil))), (Dts.tuple (Dts.cons (dt_small (by decide)) (Dts.cons (Dts.tuple (Dts.cons (dt_small (by omega)) (Dts.cons (dt_small (by omega)) Dts.nil))) Dts.nil))).le (by decide +kernel) (by decide +kernel)⟩
      · exact ⟨_, (.tup (SqT.of q4) (.cons (.bl _) (.cons (prD_dx (kk0.sqT hM hB)) .nil))), (Dts.tuple (Dts.cons (dt_bool _) (Dts.cons (Dts.tuple (Dts.cons (dt_small (by omega)) (Dts.cons (dt_small (by omega)) Dts.nil))) Dts.nil))).le (by decide +kernel) (by decide +kernel)⟩
      · exact ⟨_, (.tup (SqT.of q6) (.cons (.int _) (.cons (.tup (SqT.of q5) (.cons (.int _) (.cons (.int _) .nil))) .nil))), (Dts.tuple (Dts.cons (dt_small (by omega)) (Dts.cons (Dts.tuple (Dts.cons (dt_small (by omega)) (Dts.cons (dt_small (by omega)) Dts.nil))) Dts.nil))).le (by decide +kernel) (by decide +kernel)⟩
      · exact ⟨_, (.tup (SqT.of q9) (.cons (.int _) (.cons (.tup (SqT.of q8) (.cons (.int _) (.cons (.int _) .nil))) .nil))), (Dts.tuple (Dts.cons (dt_small (by omega)) (Dts.cons (Dts.tuple (Dts.cons (dt_small (by decide)) (Dts.cons (dt_small (by decide)) Dts.nil))) Dts.nil))).le (by decide +kernel) (by decide +kernel)⟩
      · exact ⟨_, (.tup (SqT.of q11) (.cons (.int _) (.cons (.tup (SqT.of q10) (.cons (.int _) (.cons (.int _) .nil))) .nil))), (Dts.tuple (Dts.cons (dt_small (by omega)) (Dts.cons (Dts.tuple (Dts.cons (dt_small (by decide)) (Dts.cons (dt_small (by decide)) Dts.nil))) Dts.nil))).le (by decide +kernel) (by decide +kernel)⟩
      · exact ⟨_, (.tup (SqT.of q13) (.cons (.int _) (.cons (.lst q12 ⟨l12, f12, none_back c11 h12 l12 f12⟩ (.cons (.int _) (.cons (.int _) .nil))) .nil))), (Dts.tuple (Dts.cons (dt_small (by omega)) (Dts.cons (Dts.list (Dts.cons (dt_small (by omega)) (Dts.cons (dt_small (by omega)) Dts.nil))) Dts.nil))).le (by decide +kernel) (by decide +kernel)⟩
      · exact ⟨_, (.lst q14 ⟨l14, f14, none_back c13 h14 l14 f14⟩ (.cons (.int _) (.cons (prD_dx (kk0.sqT hM hB)) .nil))), (Dts.list (Dts.cons (dt_small (by omega)) (Dts.cons (Dts.tuple (Dts.cons (dt_small (by omega)) (Dts.cons (dt_small (by omega)) Dts.nil))) Dts.nil))).le (by decide +kernel) (by decide +kernel)⟩
      · exact ⟨_, (.tup (SqT.of q15) (.cons (.int _) .nil)), (Dts.tuple (Dts.cons (dt_small (by omega)) Dts.nil)).le (by decide +kernel) (by decide +kernel)⟩
      · exact ⟨_, (.int _), (dt_small (by omega)).le (by decide +kernel) (by decide +kernel)⟩
      · exact ⟨_, .non, dt_none.le (by decide +kernel) (by decide +kernel)⟩
      · exact ⟨_, (.tup (SqT.of q18) (.cons (.int _) (.cons (prD_dx (kk0.sqT hM hB)) (.cons (.int _) .nil)))), (Dts.tuple (Dts.cons (dt_small (by omega)) (Dts.cons (Dts.tuple (Dts.cons (dt_small (by omega)) (Dts.cons (dt_small (by omega)) Dts.nil))) (Dts.cons (dt_small (by decide)) Dts.nil)))).le (by decide +kernel) (by decide +kernel)⟩
      · exact ⟨_, (.tup (SqT.of q19) (.cons (.str _) (.cons (prD_dx (kk0.sqT hM hB)) .nil))), (Dts.tuple (Dts.cons sdt (Dts.cons (Dts.tuple (Dts.cons (dt_small (by omega)) (Dts.cons (dt_small (by omega)) Dts.nil))) Dts.nil))).le (by decide +kernel) (by decide +kernel)⟩
      · exact ⟨_, (.tup (SqT.of q21) (.cons (.int _) (.cons (.tup (SqT.of q20) (.cons (.int _) (.cons (.int _) .nil))) .nil))), (Dts.tuple (Dts.cons (dt_small (by omega)) (Dts.cons (Dts.tuple (Dts.cons (dt_small (by omega)) (Dts.cons (dt_small (by omega)) Dts.nil))) Dts.nil))).le (by decide +kernel) (by decide +kernel)⟩
      · exact ⟨_, (.tup (SqT.of q24) (.cons (.int _) (.cons (.int _) .nil))), (Dts.tuple (Dts.cons (dt_small (by omega)) (Dts.cons (dt_small (by decide)) Dts.nil))).le (by decide +kernel) (by decide +kernel)⟩
      · exact ⟨_, (.tup (SqT.of q26) (.cons (.int _) (.cons (.tup (SqT.of q25) (.cons (.int _) (.cons (.int _) .nil))) .nil))), (Dts.tuple (Dts.cons (dt_small (by omega)) (Dts.cons (Dts.tuple (Dts.cons (dt_small (by omega)) (Dts.cons (dt_small (by omega)) Dts.nil))) Dts.nil))).le (by decide +kernel) (by decide +kernel)⟩
      · exact ⟨_, (.tup (SqT.of q30) (.cons (.int _) (.cons (.tup (SqT.of q29) (.cons (.bl _) (.cons (.int _) .nil))) .nil))), (Dts.tuple (Dts.cons (dt_small (by omega)) (Dts.cons (Dts.tuple (Dts.cons (dt_bool _) (Dts.cons (dt_small (by decide)) Dts.nil))) Dts.nil))).le (by decide +kernel) (by decide +kernel)⟩
      · exact ⟨_, (.tup (SqT.of q32) (.cons (.int _) (.cons (.tup (SqT.of q31) (.cons (.int _) (.cons (.bl _) .nil))) .nil))), (Dts.tuple (Dts.cons (dt_small (by omega)) (Dts.cons (Dts.tuple (Dts.cons (dt_small (by decide)) (Dts.cons (dt_bool _) Dts.nil))) Dts.nil))).le (by decide +kernel) (by decide +kernel)⟩
      · exact ⟨_, (.tup (SqT.of q33) (.cons (prD_dx (kk0.sqT hM hB)) (.cons (.int _) .nil))), (Dts.tuple (Dts.cons (Dts.tuple (Dts.cons (dt_small (by omega)) (Dts.cons (dt_small (by omega)) Dts.nil))) (Dts.cons (dt_small (by omega)) Dts.nil))).le (by decide +kernel) (by decide +kernel)⟩
      · exact ⟨_, (.tup (SqT.of q35) (.cons (.int _) (.cons (.tup (SqT.of q34) (.cons (.int _) (.cons (.int _) .nil))) .nil))), (Dts.tuple (Dts.cons (dt_small (by omega)) (Dts.cons (Dts.tuple (Dts.cons (dt_small (by decide)) (Dts.cons (dt_small (by decide)) Dts.nil))) Dts.nil))).le (by decide +kernel) (by decide +kernel)⟩
      · exact ⟨_, (.tup (SqT.of q36) (.cons (.int _) (.cons (prD_dx (kk0.sqT hM hB)) .nil))), (Dts.tuple (Dts.cons (dt_small (by decide)) (Dts.cons (Dts.tuple (Dts.cons (dt_small (by omega)) (Dts.cons (dt_small (by omega)) Dts.nil))) Dts.nil))).le (by decide +kernel) (by decide +kernel)⟩
    obtain ⟨d, hd, dt⟩ := main
    exact q H9 _ d (kk0.trans kp) hM9 (dx_kpn kp M38 hd) dt
end
end Ev

set_option exponentiation.threshold 10000
namespace Ev
open PySem PySem.Spec PyProof.Rows L2
theorem cut_drop {xs : List V} {m : Nat} : cutV xs (some (m : Int)) none = xs.drop m := by
  unfold cutV
  rw [HT.sIx_nat, HT.sIx_none]
  rcases Nat.le_total m xs.length with l | l
  · rw [Nat.min_eq_left l]
    exact List.take_of_length_le (by rw [List.length_drop]; exact Nat.le_refl _)
  · rw [Nat.min_eq_right l, List.drop_eq_nil_of_le l, List.drop_eq_nil_of_le (Nat.le_refl _), List.take_nil]
theorem repl_len {α : Type} {es : List α} {d : α} {sp : Nat} (h : sp < es.length) : (es.take sp ++ [d] ++ es.drop (sp + 1)).length = es.length := by
  rw [List.length_append, List.length_append, List.length_take, List.length_drop, List.length_singleton]
  omega
theorem repl_mem {α : Type} {es : List α} {d x : α} {sp : Nat} (h : x ∈ es.take sp ++ [d] ++ es.drop (sp + 1)) : x ∈ es ∨ x = d := by
  rcases List.mem_append.mp h with h | h
  · rcases List.mem_append.mp h with h | h
    · exact .inl (List.mem_of_mem_take h)
    · exact .inr (List.mem_singleton.mp h)
  · exact .inl (List.mem_of_mem_drop h)
theorem sm21 {i : Int} (h : i.natAbs < 2 ^ 21) : i.natAbs < 2 ^ 1400 := Nat.lt_trans h (by decide +kernel)
theorem sd_side (n x y : Int) : (sideD n x y).hasDict = false ∧ SeqAt.shaped (sideD n x y) = true := by
  refine ⟨rfl, ?_⟩
  simp only [sideD, pairD, SeqAt.shaped, PyData.canLay0, PyData.canLayAll0, PyData.depth, PyData.depthAll]
  decide
theorem sides_hd (l : List (Int × Int)) (s : Int) : (PyData.tuple (sidesD l s)).hasDict = false := by
  have key : ∀ l : List (Int × Int), PyData.hasDictAll (sidesD l s) = false := by
    intro l
    induction l with
    | nil => rfl
    | cons q l ih =>
      show ((sideD q.1 (fA q.2 s) (fB q.2 s)).hasDict || PyData.hasDictAll (sidesD l s)) = false
      rw [ih]
      rfl
  exact key l
theorem sides_shaped (l : List (Int × Int)) (s : Int) : SeqAt.shaped (.tuple (sidesD l s)) = true := by
  have k1 : ∀ l : List (Int × Int), PyData.canLayAll0 (sidesD l s) = true := by
    intro l
    rw [canLayAll_mem]
    intro d hd
    unfold sidesD at hd
    obtain ⟨q, _, rfl⟩ := List.mem_map.mp hd
    rfl
  have k2 : PyData.depthAll (sidesD l s) ≤ 2 := by
    rw [depthAll_mem]
    intro d hd
    unfold sidesD at hd
    obtain ⟨q, _, rfl⟩ := List.mem_map.mp hd
    show (sideD q.1 (fA q.2 s) (fB q.2 s)).depth ≤ 2
    simp only [sideD, pairD, PyData.depth, PyData.depthAll]
    decide
  simp only [SeqAt.shaped, PyData.canLay0, k1, PyData.depth, Bool.true_and]
  exact decide_eq_true (by omega)
theorem sides_noL : ∀ (l : List (Int × Int)) (s : Int), noLs (sidesD l s) = true
  | [], _ => rfl
  | q :: l, s => by
    show (noL (sideD q.1 (fA q.2 s) (fB q.2 s)) && noLs (sidesD l s)) = true
    rw [sides_noL l s]
    rfl
theorem isdie_noL {d : PyData} (h : IsDie d) : noL d = true := by
  cases h with
  | till h b => rfl
  | @die l s h =>
    show (noL (.str "die") && (noLs (sidesD l s) && true)) = true
    rw [sides_noL]
    rfl
theorem sides_word (l : List (Int × Int)) (s : Int) : WordOk (.tuple (sidesD l s)) := by
  intro x y h
  have : x ∈ sidesD l s := by
    have e : sidesD l s = [x, y] := by injection h
    rw [e]
    exact List.mem_cons_self ..
  unfold sidesD at this
  obtain ⟨q, _, rfl⟩ := List.mem_map.mp this
  exact sd_side _ _ _
theorem side_dt {l : List (Int × Int)} {s : Int} (h : Sides l s) : ∀ d ∈ sidesD l s, Dt 30 4 d := by
  intro d hd
  unfold sidesD at hd
  obtain ⟨q, hq, rfl⟩ := List.mem_map.mp hd
  have h1 := h.num q hq
  have h2 := h.part q hq
  have h3 := sum_bounds (l := l.map (·.2)) fun x hx => by
    obtain ⟨p, hp, rfl⟩ := List.mem_map.mp hx
    exact h.part p hp
  rw [h.sum, List.length_map] at h3
  have h4 := h.len
  have s0 : s ≠ 0 := by omega
  have a1 := fA_le (a := q.2) s0
  have b1 := fB_le (a := q.2) s0
  exact (Dts.tuple (Dts.cons (dt_small (by omega)) (Dts.cons (Dts.tuple (Dts.cons (dt_small (by omega)) (Dts.cons (dt_small (by omega)) Dts.nil))) Dts.nil))).le (by decide) (by decide)
section
variable {P : Program} {w : World} {K : PySem.W.Frag} {mg : Str → Option Value} {base : Heap} {A : Nat → Addr} {D : Nat → FuncData}
def sp_bent (K : PySem.W.Frag) : Sp := fun vs H Q _ => ∃ (L F : Addr) (v : V) (d : PyData), vs = [.ref L, v] ∧ Lm H L F ∧ Dx K (ZL L F) H v d ∧ IsDie d ∧
  ∀ (H' : Hp) (r : V) (e : PyData), Kp L F H H' → Lm H' L F → Dx K (ZN L F H) H' r e → Dt 700 8 e → WordOk e → Q r H'
theorem Txt.ok_bent (T : Txt K mg A D) : FnOk P w K mg base CX0 4 (A 23) (D 23) ["loom", "die"] (sp_bent K) := by
  refine T.F_bent.ok sc_bent (fun vs H Q E h => ?_) (fun cdv Ar outer s H vs Q E hr h => ?_)
  · obtain ⟨L, F, v, d, rfl, _⟩ := h
    rfl
  · obtain ⟨L, F, v, d, rfl, hM, hd, isd, q⟩ := h
    refine ⟨_, (pss_cons (ps_if (pt_cmpR op_eq (pe_ix ix_tup (pv 1) pe_int (fun _ _ => rfl)) pe_str (nomark _)) (pss_cons (ps_set (i := 2) sc_bent.nd rfl (Or.inl rfl) (pe_lst (pa_cons (pe_tup (pa_cons pe_int (pa_cons pe_int pa_nil))) (pa_cons (pe_tup (pa_cons pe_int (pa_cons pe_int pa_nil))) (pa_cons (pe_tup (pa_cons pe_int (pa_cons pe_int pa_nil))) (pa_cons (pe_tup (pa_cons pe_int (pa_cons pe_int pa_nil))) (pa_cons (pe_tup (pa_cons (pe_un un_neg pe_int) (pa_cons pe_int pa_nil))) (pa_cons pe_int (pa_cons pe_non (pa_cons (pe_lst (pa_cons pe_int (pa_cons pe_int pa_nil))) (pa_cons (pe_tup (pa_cons pe_bl (pa_cons pe_int pa_nil))) (pa_cons (pe_tup (pa_cons pe_int (pa_cons pe_int (pa_cons pe_int pa_nil)))) (pa_cons (pe_tup (pa_cons pe_int pa_nil)) (pa_cons pe_str (pa_cons (pe_tup (pa_cons (pe_tup (pa_cons pe_int (pa_cons pe_int pa_nil))) pa_nil)) pa_nil)))))))))))))))
    (pss_cons (ps_set (i := 3) sc_bent.nd rfl (Or.inl rfl) (pe_lst (pa_cons (pe_tup (pa_cons pe_str (pa_cons (pe_call (T.ok_pick) (hr.mono (by decide)) (by rfl) T.g_pick T.k_pick T.b_pick .nil pass0 (pa_cons (pv 0) (pa_cons (pv 2) pa_nil))) pa_nil))) (pa_cons (pe_tup (pa_cons pe_str pa_nil)) (pa_cons (pe_tup (pa_cons pe_str (pa_cons (pe_ix ix_tup (pv 1) pe_int (fun _ _ => rfl)) pa_nil))) (pa_cons (pe_tup (pa_cons pe_str (pa_cons (pe_ix ix_tup (pv 1) pe_int (fun _ _ => rfl)) (pa_cons pe_int pa_nil)))) (pa_cons (pe_callTy call_list_of (by rfl) T.z_list (by decide +kernel) (pa_cons (pv 1) pa_nil)) pa_nil)))))))
    (pss_one (ps_ret (pe_call (T.ok_pick) (hr.mono (by decide)) (by rfl) T.g_pick T.k_pick T.b_pick .nil pass0 (pa_cons (pv 0) (pa_cons (pv 3) pa_nil))))))) pss_nil)
    (pss_cons (ps_par3 (i := 4) (j := 5) (l := 6) rfl sc_bent.nd rfl rfl rfl (by decide) (by decide) (by decide) rfl rfl rfl (pa_cons (pe_ix ix_tup (pv 1) pe_int (fun _ _ => rfl)) (pa_cons (pe_call (T.ok_draw) (hr.mono (by decide)) (by rfl) T.g_draw T.k_draw T.b_draw .nil pass0 (pa_cons (pv 0) (pa_cons (pe_callB call_len_seq (by rfl) T.z_len (by decide +kernel) (pa_cons (pe_ix ix_tup (pv 1) pe_int (fun _ _ => rfl)) pa_nil)) pa_nil))) (pa_cons (pe_call (T.ok_draw) (hr.mono (by decide)) (by rfl) T.g_draw T.k_draw T.b_draw .nil pass0 (pa_cons (pv 0) (pa_cons pe_int pa_nil))) pa_nil))) (by rfl))
    (C8.pss_cut (ps_if (pt_cmpR op_lt (pv 6) pe_int (nomark _)) (pss_one (ps_set (i := 4) sc_bent.nd rfl (Or.inl rfl) (pe_op op_catS (pe_op op_catS (pe_slice sl_tupS (pv 4) po_none (po_some (pv 5))) (pe_tup (pa_cons (pe_call (T.ok_bent_side) hr (by rfl) T.g_bent_side T.k_bent_side T.b_bent_side .nil pass0 (pa_cons (pv 0) (pa_cons (pe_ix ix_tup (pv 4) (pv 5) (fun _ _ => rfl)) pa_nil))) pa_nil))) (pe_slice sl_tupS (pv 4) (po_some (pe_op op_add (pv 5) pe_int)) po_none)))) pss_nil)
    (C8.pss_cut (ps_if (pt_cmpR op_in_seq (pv 6) (pe_tup (pa_cons pe_int (pa_cons pe_int pa_nil))) (by rfl)) (pss_cons (ps_set (i := 5) sc_bent.nd rfl (Or.inl rfl) (pe_call (T.ok_draw) (hr.mono (by decide)) (by rfl) T.g_draw T.k_draw T.b_draw .nil pass0 (pa_cons (pv 0) (pa_cons (pe_callB call_len_seq (by rfl) T.z_len (by decide +kernel) (pa_cons (pv 4) pa_nil)) pa_nil))))
    (pss_cons (ps_set (i := 2) sc_bent.nd rfl (Or.inl rfl) (pe_lst (pa_cons (pe_call (T.ok_odd) hr (by rfl) T.g_odd T.k_odd T.b_odd .nil pass0 (pa_cons (pv 0) pa_nil)) (pa_cons (pe_tup (pa_cons pe_int (pa_cons (pe_tup (pa_cons pe_int (pa_cons pe_int pa_nil))) pa_nil))) (pa_cons (pe_tup (pa_cons pe_int (pa_cons (pe_tup (pa_cons pe_int (pa_cons pe_int pa_nil))) pa_nil))) pa_nil)))))
    (pss_one (ps_set (i := 4) sc_bent.nd rfl (Or.inl rfl) (pe_op op_catS (pe_op op_catS (pe_slice sl_tupS (pv 4) po_none (po_some (pv 5))) (pe_tup (pa_cons (pe_call (T.ok_pick) (hr.mono (by decide)) (by rfl) T.g_pick T.k_pick T.b_pick .nil pass0 (pa_cons (pv 0) (pa_cons (pv 2) pa_nil))) pa_nil))) (pe_slice sl_tupS (pv 4) (po_some (pe_op op_add (pv 5) pe_int)) po_none)))))) pss_nil)
    (C8.pss_cut (ps_if (pt_cmpR op_eq (pv 6) pe_int (nomark _)) (pss_one (ps_set (i := 4) sc_bent.nd rfl (Or.inl rfl) (pe_call (T.ok_pick) (hr.mono (by decide)) (by rfl) T.g_pick T.k_pick T.b_pick .nil pass0 (pa_cons (pv 0) (pa_cons (pe_lst (pa_cons (pe_revT (pv 4)) (pa_cons (pe_op op_catS (pv 4) (pv 4)) (pa_cons (pe_slice sl_tupS (pv 4) (po_some pe_int) po_none) (pa_cons (pe_op op_repT (pe_slice sl_tupS (pv 4) po_none (po_some pe_int)) pe_int) (pa_cons (pe_callTy call_list_of (by rfl) T.z_list (by decide +kernel) (pa_cons (pv 4) pa_nil)) (pa_cons (pe_op op_repT (pe_tup (pa_cons (pe_tup (pa_cons pe_int (pa_cons (pe_tup (pa_cons pe_int (pa_cons pe_int pa_nil))) pa_nil))) pa_nil)) pe_int) pa_nil))))))) pa_nil))))) pss_nil)
    (C8.pss_cut (ps_if (pt_cmpR op_eq (pv 6) pe_int (nomark _)) (pss_one (ps_set (i := 4) sc_bent.nd rfl (Or.inl rfl) (pe_callTy call_tuple_of (by rfl) T.z_tuple (by decide +kernel) (pa_cons (pe_lc (own := [("number", 7)]) (g := gName 7) (tt := tYes) rfl sc_bent.nd (pi_range1 rfl T.range (pa_cons (pe_op op_sub pe_int (pe_call (T.ok_draw) (hr.mono (by decide)) (by rfl) T.g_draw T.k_draw T.b_draw .nil pass0 (pa_cons (pv 0) (pa_cons pe_int pa_nil)))) pa_nil)) (blkOk_by (N := ["loom", "die", "odd", "some", "sides", "spot", "side", "number"]) (sc := defScope s_bent) (by decide +kernel)) (fun _ _ _ _ _ => pg_name (i := 7) sc_bent.nd rfl (Or.inl rfl)) (fun _ _ _ _ _ => pts_nil) (fun _ _ _ _ _ => (pe_tup (pa_cons (pv 7) (pa_cons (pe_tup (pa_cons pe_int (pa_cons pe_int pa_nil))) pa_nil))))) pa_nil)))) pss_nil)
    (pss_cons (ps_if (pt_cmpR op_eq (pv 6) pe_int (nomark _)) (pss_cons (ps_set (i := 3) sc_bent.nd rfl (Or.inl rfl) (pe_lst (pa_cons (pe_tup (pa_cons pe_str (pa_cons (pv 4) pa_nil))) (pa_cons (pe_tup (pa_cons (pv 4) (pa_cons pe_str pa_nil))) (pa_cons (pe_lst (pa_cons pe_str (pa_cons (pv 4) pa_nil))) (pa_cons (pe_tup (pa_cons pe_str (pa_cons (pv 4) (pa_cons pe_int pa_nil)))) (pa_cons (pe_tup (pa_cons pe_str (pa_cons (pv 4) pa_nil))) (pa_cons (pe_tup (pa_cons pe_str pa_nil)) (pa_cons (pv 4) pa_nil)))))))))
    (pss_one (ps_ret (pe_call (T.ok_pick) (hr.mono (by decide)) (by rfl) T.g_pick T.k_pick T.b_pick .nil pass0 (pa_cons (pv 0) (pa_cons (pv 3) pa_nil)))))) pss_nil)
    (pss_one (ps_ret (pe_tup (pa_cons pe_str (pa_cons (pv 4) pa_nil)))))))))))), ?_⟩
    have z : ∀ n : Nat, n ≤ 100 → n ≤ sizeLine := fun n h => Nat.le_trans h (by decide)
    have M0 := hM
    have c0 : Kp L F H H := fun _ _ _ _ e => e
    have hd : Dx K (ZN L F H) H v d := dx_any hd (isdie_noL isd)
    cases isd with
    | @till x y sh yb =>
      obtain ⟨a, u, rfl, hA, hu⟩ := dx_word hd
      obtain ⟨b, rfl, hB⟩ := dx_prD hu
      have x1 := sh.pos
      have x2 := sh.lt
      refine ⟨_, rfl, a, _, _, _, rfl, rfl, hA, ix0, rfl, _, rfl, ite2 (fun _ => ?_) (fun e => absurd (decide_eq_true rfl) e)⟩
      refine ⟨z 2 (by decide), fun p1 h1 => ?_⟩
      generalize g1 : upd H p1 (HO.tup [V.int 0, V.int 1]) = G1
      obtain ⟨M1, j1, e1, l1, f1⟩ := al_eq g1 M0 h1
      clear g1
      have c1 := c0.trans j1
      refine ⟨z 2 (by decide), fun p2 h2 => ?_⟩
      generalize g2 : upd G1 p2 (HO.tup [V.int 1, V.int 1]) = G2
      obtain ⟨M2, j2, e2, l2, f2⟩ := al_eq g2 M1 h2
      clear g2
      have c2 := c1.trans j2
      refine ⟨z 2 (by decide), fun p3 h3 => ?_⟩
      generalize g3 : upd G2 p3 (HO.tup [V.int 2, V.int 4]) = G3
      obtain ⟨M3, j3, e3, l3, f3⟩ := al_eq g3 M2 h3
      clear g3
      have c3 := c2.trans j3
      refine ⟨z 2 (by decide), fun p4 h4 => ?_⟩
      generalize g4 : upd G3 p4 (HO.tup [V.int 3, V.int 2]) = G4
      obtain ⟨M4, j4, e4, l4, f4⟩ := al_eq g4 M3 h4
      clear g4
      have c4 := c3.trans j4
      refine ⟨_, rfl, z 2 (by decide), fun p5 h5 => ?_⟩
      generalize g5 : upd G4 p5 (HO.tup [V.int (-1), V.int 2]) = G5
      obtain ⟨M5, j5, e5, l5, f5⟩ := al_eq g5 M4 h5
      clear g5
      have c5 := c4.trans j5
      refine ⟨z 2 (by decide), fun p6 h6 => ?_⟩
      generalize g6 : upd G5 p6 (HO.lst [V.int 1, V.int 2]) = G6
      obtain ⟨M6, j6, e6, l6, f6⟩ := al_eq g6 M5 h6
      clear g6
      have c6 := c5.trans j6
      refine ⟨z 2 (by decide), fun p7 h7 => ?_⟩
      generalize g7 : upd G6 p7 (HO.tup [V.bl true, V.int 2]) = G7
      obtain ⟨M7, j7, e7, l7, f7⟩ := al_eq g7 M6 h7
      clear g7
      have c7 := c6.trans j7
      refine ⟨z 3 (by decide), fun p8 h8 => ?_⟩
      generalize g8 : upd G7 p8 (HO.tup [V.int 1, V.int 2, V.int 3]) = G8
      obtain ⟨M8, j8, e8, l8, f8⟩ := al_eq g8 M7 h8
      clear g8
      have c8 := c7.trans j8
      refine ⟨z 1 (by decide), fun p9 h9 => ?_⟩
      generalize g9 : upd G8 p9 (HO.tup [V.int 1]) = G9
      obtain ⟨M9, j9, e9, l9, f9⟩ := al_eq g9 M8 h9
      clear g9
      have c9 := c8.trans j9
      refine ⟨z 2 (by decide), fun p10 h10 => ?_⟩
      generalize g10 : upd G9 p10 (HO.tup [V.int 1, V.int 2]) = G10
      obtain ⟨M10, j10, e10, l10, f10⟩ := al_eq g10 M9 h10
      clear g10
      have c10 := c9.trans j10
      refine ⟨z 1 (by decide), fun p11 h11 => ?_⟩
      generalize g11 : upd G10 p11 (HO.tup [V.ref p10]) = G11
      obtain ⟨M11, j11, e11, l11, f11⟩ := al_eq g11 M10 h11
      clear g11
      have c11 := c10.trans j11
      refine ⟨z 13 (by decide), fun p12 h12 => ?_⟩
      generalize g12 : upd G11 p12 (HO.lst [V.ref p1, V.ref p2, V.ref p3, V.ref p4, V.ref p5, V.int 1, V.non, V.ref p6, V.ref p7, V.ref p8, V.ref p9, V.str "1/2", V.ref p11]) = G12
      obtain ⟨M12, j12, e12, l12, f12⟩ := al_eq g12 M11 h12
      clear g12
      have c12 := c11.trans j12
      have kk12 : Kp L F G12 G12 := fun _ _ _ _ e => e
      have kk11 := j12.trans kk12
      have kk10 := j11.trans kk11
      have kk9 := j10.trans kk10
      have kk8 := j9.trans kk9
      have kk7 := j8.trans kk8
      have kk6 := j7.trans kk7
      have kk5 := j6.trans kk6
      have kk4 := j5.trans kk5
      have kk3 := j4.trans kk4
      have kk2 := j3.trans kk3
      have kk1 := j2.trans kk2
      have kk0 := j1.trans kk1
      have q1 := kk1 p1 _ l1 f1 e1
      have q2 := kk2 p2 _ l2 f2 e2
      have q3 := kk3 p3 _ l3 f3 e3
      have q4 := kk4 p4 _ l4 f4 e4
      have q5 := kk5 p5 _ l5 f5 e5
      have q6 := kk6 p6 _ l6 f6 e6
      have q7 := kk7 p7 _ l7 f7 e7
      have q8 := kk8 p8 _ l8 f8 e8
      have q9 := kk9 p9 _ l9 f9 e9
      have q10 := kk10 p10 _ l10 f10 e10
      have q11 := kk11 p11 _ l11 f11 e11
      have q12 := kk12 p12 _ l12 f12 e12
      refine ⟨_, rfl, _, rfl, L, F, p12, _, rfl, M12, SqL.of e12, l12, f12, (by show 0 < 13; decide), (by show 13 < 1073741824; decide), fun G13 i0 u13 j13 M13 hx => ?_⟩
      have main0 : ∃ d, Dx K (ZN L F H) G12 u13 d ∧ Dt 20 3 d := by
        have hx' := List.mem_of_getElem? hx
        simp only [List.cons_append, List.nil_append, List.mem_cons, List.not_mem_nil, or_false] at hx'
        rcases hx' with rfl | rfl | rfl | rfl | rfl | rfl | rfl | rfl | rfl | rfl | rfl | rfl | rfl
        · exact ⟨_, (.tup (SqT.of q1) (.cons (.int _) (.cons (.int _) .nil))), (Dts.tuple (Dts.cons (dt_small (by decide)) (Dts.cons (dt_small (by decide)) Dts.nil))).le (by decide +kernel) (by decide +kernel)⟩
        · exact ⟨_, (.tup (SqT.of q2) (.cons (.int _) (.cons (.int _) .nil))), (Dts.tuple (Dts.cons (dt_small (by decide)) (Dts.cons (dt_small (by decide)) Dts.nil))).le (by decide +kernel) (by decide +kernel)⟩
        · exact ⟨_, (.tup (SqT.of q3) (.cons (.int _) (.cons (.int _) .nil))), (Dts.tuple (Dts.cons (dt_small (by decide)) (Dts.cons (dt_small (by decide)) Dts.nil))).le (by decide +kernel) (by decide +kernel)⟩
        · exact ⟨_, (.tup (SqT.of q4) (.cons (.int _) (.cons (.int _) .nil))), (Dts.tuple (Dts.cons (dt_small (by decide)) (Dts.cons (dt_small (by decide)) Dts.nil))).le (by decide +kernel) (by decide +kernel)⟩
        · exact ⟨_, (.tup (SqT.of q5) (.cons (.int _) (.cons (.int _) .nil))), (Dts.tuple (Dts.cons (dt_small (by decide)) (Dts.cons (dt_small (by decide)) Dts.nil))).le (by decide +kernel) (by decide +kernel)⟩
        · exact ⟨_, (.int _), (dt_small (by decide)).le (by decide +kernel) (by decide +kernel)⟩
        · exact ⟨_, .non, dt_none.le (by decide +kernel) (by decide +kernel)⟩
        · exact ⟨_, (.lst q6 ⟨l6, f6, none_back c5 h6 l6 f6⟩ (.cons (.int _) (.cons (.int _) .nil))), (Dts.list (Dts.cons (dt_small (by decide)) (Dts.cons (dt_small (by decide)) Dts.nil))).le (by decide +kernel) (by decide +kernel)⟩
        · exact ⟨_, (.tup (SqT.of q7) (.cons (.bl _) (.cons (.int _) .nil))), (Dts.tuple (Dts.cons (dt_bool _) (Dts.cons (dt_small (by decide)) Dts.nil))).le (by decide +kernel) (by decide +kernel)⟩
        · exact ⟨_, (.tup (SqT.of q8) (.cons (.int _) (.cons (.int _) (.cons (.int _) .nil)))), (Dts.tuple (Dts.cons (dt_small (by decide)) (Dts.cons (dt_small (by decide)) (Dts.cons (dt_small (by decide)) Dts.nil)))).le (by decide +kernel) (by decide +kernel)⟩
        · exact ⟨_, (.tup (SqT.of q9) (.cons (.int _) .nil)), (Dts.tuple (Dts.cons (dt_small (by decide)) Dts.nil)).le (by decide +kernel) (by decide +kernel)⟩
        · exact ⟨_, (.str _), (dt_str (by decide +kernel)).le (by decide +kernel) (by decide +kernel)⟩
        · exact ⟨_, (.tup (SqT.of q11) (.cons (.tup (SqT.of q10) (.cons (.int _) (.cons (.int _) .nil))) .nil)), (Dts.tuple (Dts.cons (Dts.tuple (Dts.cons (dt_small (by decide)) (Dts.cons (dt_small (by decide)) Dts.nil))) Dts.nil)).le (by decide +kernel) (by decide +kernel)⟩
      obtain ⟨d0, hd0, dt0⟩ := main0
      have hd0 := dx_kpn j13 M12 hd0
      have c13 := c12.trans j13
      clear hx
      refine ⟨z 2 (by decide), fun p14 h14 => ?_⟩
      generalize g14 : upd G13 p14 (HO.tup [V.str "till", u13]) = G14
      obtain ⟨M14, j14, e14, l14, f14⟩ := al_eq g14 M13 h14
      clear g14
      have c14 := c13.trans j14
      refine ⟨z 1 (by decide), fun p15 h15 => ?_⟩
      generalize g15 : upd G14 p15 (HO.tup [V.str "till"]) = G15
      obtain ⟨M15, j15, e15, l15, f15⟩ := al_eq g15 M14 h15
      clear g15
      have c15 := c14.trans j15
      refine ⟨_, rfl, a, _, _, _, rfl, rfl, c15.sqT hM hA, ix1, z 2 (by decide), fun p16 h16 => ?_⟩
      generalize g16 : upd G15 p16 (HO.tup [V.str "Till", V.ref b]) = G16
      obtain ⟨M16, j16, e16, l16, f16⟩ := al_eq g16 M15 h16
      clear g16
      have c16 := c15.trans j16
      refine ⟨_, rfl, a, _, _, _, rfl, rfl, c16.sqT hM hA, ix1, z 3 (by decide), fun p17 h17 => ?_⟩
      generalize g17 : upd G16 p17 (HO.tup [V.str "till", V.ref b, V.int 0]) = G17
      obtain ⟨M17, j17, e17, l17, f17⟩ := al_eq g17 M16 h17
      clear g17
      have c17 := c16.trans j17
      refine ⟨_, rfl, a, _, rfl, .inr (c17.sqT hM hA), fun p18 h18 => ?_⟩
      generalize g18 : upd G17 p18 (HO.lst [V.str "till", V.ref b]) = G18
      obtain ⟨M18, j18, e18, l18, f18⟩ := al_eq g18 M17 h18
      clear g18
      have c18 := c17.trans j18
      refine ⟨z 5 (by decide), fun p19 h19 => ?_⟩
      generalize g19 : upd G18 p19 (HO.lst [V.ref p14, V.ref p15, V.ref p16, V.ref p17, V.ref p18]) = G19
      obtain ⟨M19, j19, e19, l19, f19⟩ := al_eq g19 M18 h19
      clear g19
      have c19 := c18.trans j19
      have kk19 : Kp L F G19 G19 := fun _ _ _ _ e => e
      have kk18 := j19.trans kk19
      have kk17 := j18.trans kk18
      have kk16 := j17.trans kk17
      have kk15 := j16.trans kk16
      have kk14 := j15.trans kk15
      have kk13 := j14.trans kk14
      have kk12 := j13.trans kk13
      have kk11 := j12.trans kk12
      have kk10 := j11.trans kk11
      have kk9 := j10.trans kk10
      have kk8 := j9.trans kk9
      have kk7 := j8.trans kk8
      have kk6 := j7.trans kk7
      have kk5 := j6.trans kk6
      have kk4 := j5.trans kk5
      have kk3 := j4.trans kk4
      have kk2 := j3.trans kk3
      have kk1 := j2.trans kk2
      have kk0 := j1.trans kk1
      have q1 := kk1 p1 _ l1 f1 e1
      have q2 := kk2 p2 _ l2 f2 e2
      have q3 := kk3 p3 _ l3 f3 e3
      have q4 := kk4 p4 _ l4 f4 e4
      have q5 := kk5 p5 _ l5 f5 e5
      have q6 := kk6 p6 _ l6 f6 e6
      have q7 := kk7 p7 _ l7 f7 e7
      have q8 := kk8 p8 _ l8 f8 e8
      have q9 := kk9 p9 _ l9 f9 e9
      have q10 := kk10 p10 _ l10 f10 e10
      have q11 := kk11 p11 _ l11 f11 e11
      have q12 := kk12 p12 _ l12 f12 e12
      have q14 := kk14 p14 _ l14 f14 e14
      have q15 := kk15 p15 _ l15 f15 e15
      have q16 := kk16 p16 _ l16 f16 e16
      have q17 := kk17 p17 _ l17 f17 e17
      have q18 := kk18 p18 _ l18 f18 e18
      have q19 := kk19 p19 _ l19 f19 e19
      refine ⟨_, rfl, _, rfl, L, F, p19, _, rfl, M19, SqL.of e19, l19, f19, (by show 0 < 5; decide), (by show 5 < 1073741824; decide), fun H9 i x kp hM9 hx => ?_⟩
      have main : ∃ d, Dx K (ZN L F H) G19 x d ∧ Dt 700 8 d ∧ WordOk d := by
        have hx' := List.mem_of_getElem? hx
        simp only [List.cons_append, List.nil_append, List.mem_cons, List.not_mem_nil, or_false] at hx'
        rcases hx' with rfl | rfl | rfl | rfl | rfl
        · exact ⟨_, (.tup (SqT.of q14) (.cons (.str _) (.cons (dx_kpn kk13 M13 hd0) .nil))), (Dts.tuple (Dts.cons (dt_str (by decide +kernel)) (Dts.cons dt0 Dts.nil))).le (by decide +kernel) (by decide +kernel), by intro x y hxy; first | (cases hxy; done) | (cases hxy; exact ⟨rfl, by decide +kernel⟩)⟩
        · exact ⟨_, (.tup (SqT.of q15) (.cons (.str _) .nil)), (Dts.tuple (Dts.cons (dt_str (by decide +kernel)) Dts.nil)).le (by decide +kernel) (by decide +kernel), by intro x y hxy; first | (cases hxy; done) | (cases hxy; exact ⟨rfl, by decide +kernel⟩)⟩
        · exact ⟨_, (.tup (SqT.of q16) (.cons (.str _) (.cons (prD_dx (kk0.sqT hM hB)) .nil))), (Dts.tuple (Dts.cons (dt_str (by decide +kernel)) (Dts.cons (Dts.tuple (Dts.cons (dt_int (sm21 (by omega))) (Dts.cons (dt_int (sm21 (by omega))) Dts.nil))) Dts.nil))).le (by decide +kernel) (by decide +kernel), by intro x y hxy; first | (cases hxy; done) | (cases hxy; exact ⟨rfl, by decide +kernel⟩)⟩
        · exact ⟨_, (.tup (SqT.of q17) (.cons (.str _) (.cons (prD_dx (kk0.sqT hM hB)) (.cons (.int _) .nil)))), (Dts.tuple (Dts.cons (dt_str (by decide +kernel)) (Dts.cons (Dts.tuple (Dts.cons (dt_int (sm21 (by omega))) (Dts.cons (dt_int (sm21 (by omega))) Dts.nil))) (Dts.cons (dt_small (by decide)) Dts.nil)))).le (by decide +kernel) (by decide +kernel), by intro x y hxy; first | (cases hxy; done) | (cases hxy; exact ⟨rfl, by decide +kernel⟩)⟩
        · exact ⟨_, (.lst q18 ⟨l18, f18, none_back c17 h18 l18 f18⟩ (.cons (.str _) (.cons (prD_dx (kk0.sqT hM hB)) .nil))), (Dts.list (Dts.cons (dt_str (by decide +kernel)) (Dts.cons (Dts.tuple (Dts.cons (dt_int (sm21 (by omega))) (Dts.cons (dt_int (sm21 (by omega))) Dts.nil))) Dts.nil))).le (by decide +kernel) (by decide +kernel), by intro x y hxy; first | (cases hxy; done) | (cases hxy; exact ⟨rfl, by decide +kernel⟩)⟩
      obtain ⟨d, hd9, dt, wk⟩ := main
      exact q H9 _ d (kk0.trans kp) hM9 (dx_kpn kp M19 hd9) dt wk
    | @die l s hs =>
      obtain ⟨a, u, rfl, hA, hu⟩ := dx_word hd
      obtain ⟨b, xs0, rfl, hB, dx0⟩ := dx_tup hu
      have lx0 : xs0.length = l.length := by rw [dxAll_len dx0]; exact List.length_map ..
      have ll := hs.len
      have dts0 := side_dt hs
      refine ⟨_, rfl, a, _, _, _, rfl, rfl, hA, ix0, rfl, _, rfl, ite2 (fun e => absurd (V.str.inj (of_decide_eq_true e)) (by decide)) (fun _ => ?_)⟩
      refine ⟨_, rfl, a, _, _, _, rfl, rfl, hA, ix1, _, rfl, _, rfl, a, _, _, _, rfl, rfl, hA, ix1, b, xs0, rfl, .inr hB, L, F, _, rfl, hM, (by omega), fun H1 sp kp1 hM1 sp0 spl => ?_⟩
      refine ⟨_, rfl, L, F, 9, rfl, hM1, by decide, fun H2 sd kp2 hM2 sd0 sdl => ⟨_, _, _, rfl, ?_⟩⟩
      have kp12 := kp1.trans kp2
      obtain ⟨sp, rfl⟩ := Int.eq_ofNat_of_zero_le sp0
      have spl' : sp < l.length := by
        rcases spl with h | h <;> omega
      -- one side bent
      refine ⟨fun σ' H' => ∃ (t : Addr) (xs : List V) (es : List PyData), σ' = [some (.ref L), some (.ref a), none, none, some (.ref t), some (.int (sp : Int)), some (.int sd), none] ∧ Kp L F H H' ∧ Lm H' L F ∧ SqT K H' t xs ∧
        DxAll K (ZN L F H) H' xs es ∧ es.length = l.length ∧ (∀ d ∈ es, Dt 30 4 d) ∧ (sd = 7 → es = sidesD l s), ?_, ?_⟩
      · refine ⟨_, rfl, _, _, rfl, rfl, _, rfl, ite2 (fun e5 => ?_) (fun e5 => ?_)⟩
        · have s5 : sd < 5 := of_decide_eq_true e5
          have hB2 := kp12.sqT hM hB
          have dx2 := dxAll_kpn kp12 hM dx0
          refine ⟨_, rfl, _, rfl, _, rfl, b, xs0, rfl, hB2, fun H3 p3 sm3 h3 => ?_⟩
          rw [cut_take (show (0 : Int) ≤ (sp : Int) by omega), Int.toNat_natCast] at h3
          have hB3 := Ev.Same.seqT sm3 hB2
          have hM3 := hM2.same sm3
          have dx3 := dxAll_same sm3 dx2
          obtain ⟨c, hc⟩ : ∃ c, l[sp]? = some c := ⟨l[sp], List.getElem?_eq_getElem spl'⟩
          have hside : (sidesD l s)[sp]? = some (sideD c.1 (fA c.2 s) (fB c.2 s)) := by
            unfold sidesD
            rw [List.getElem?_map, hc]
            rfl
          obtain ⟨vs', hvs, dvs⟩ := dxAll_at dx3 hside
          obtain ⟨aa, bb, rfl, ha1, hb1⟩ := dx_sdD (q := (c.1, fA c.2 s, fB c.2 s)) dvs
          have hcm := List.mem_of_getElem? hc
          have n1 := hs.num c hcm
          have p1 := hs.part c hcm
          have hsum := sum_bounds (l := l.map (·.2)) fun x hx => by
            obtain ⟨p, hp, rfl⟩ := List.mem_map.mp hx
            exact hs.part p hp
          rw [hs.sum, List.length_map] at hsum
          have s0 : 0 < s := by omega
          have fa1 := fA_pos (a := c.2) (by omega) s0
          have fa2 := fA_le (a := c.2) (b := s) (by omega)
          have fb1 := (low_f (a := c.2) (b := s) (by omega)).1
          have fb2 := fB_le (a := c.2) (b := s) (by omega)
          refine ⟨_, rfl, _, rfl, _, rfl, b, xs0, _, _, rfl, rfl, hB3, at_of (j := sp) rfl hvs, L, F, aa, bb, c.1, fA c.2 s, fB c.2 s, rfl, hM3, ha1, hb1, n1.1, n1.2, by omega, by omega, by omega, by omega, fun H4 v4 d4 kp4 hM4 dx4' dt4 => ⟨z 1 (by decide), fun p5 hp5 => ?_⟩⟩
          have dx4 : Dx K (ZN L F H) H4 v4 d4 := dx_back (kp12.trans (kp_same sm3)) dx4'
          have h34 := kp4.sqT hM3 h3
          have sm5 := same_new (o := .tup [v4]) hp5
          have hl1 : (xs0.take sp).length = sp := by rw [List.length_take]; omega
          refine ⟨p3, p5, _, _, rfl, rfl, Ev.Same.seqT sm5 h34, SqT.of upd_same, (by rw [hl1]; exact z _ (by show sp + 1 ≤ 100; omega)), fun H6 p6 sm6 h6 => ?_⟩
          have hB6 := Ev.Same.seqT (sm5.trans sm6) (kp4.sqT hM3 hB3)
          refine ⟨_, rfl, _, rfl, _, _, rfl, rfl, _, rfl, b, xs0, rfl, hB6, fun H7 p7 sm7 h7 => ?_⟩
          have ec : cutV xs0 (some ((sp : Int) + 1)) none = xs0.drop (sp + 1) := cut_drop (m := sp + 1)
          have h7' : SqT K H7 p7 (xs0.drop (sp + 1)) := by
            rw [← ec]
            exact h7
          refine ⟨p6, p7, _, _, rfl, rfl, Ev.Same.seqT sm7 h6, h7', ?_, fun H8 p8 sm8 h8 => ?_⟩
          · have : (xs0.take sp ++ [v4] ++ xs0.drop (sp + 1)).length = xs0.length := repl_len (by omega)
            rw [List.length_append] at this
            exact z _ (by omega)
          · have smm := ((sm5.trans sm6).trans sm7).trans sm8
            have kpm : Kp L F H H8 := ((kp12.trans (kp_same sm3)).trans kp4).trans (kp_same smm)
            have dk := dxAll_same smm (dxAll_kpn kp4 hM3 dx3)
            refine ⟨p8, _, (sidesD l s).take sp ++ [d4] ++ (sidesD l s).drop (sp + 1), rfl, kpm, hM4.same smm, h8, dxAll_app (dxAll_app (dxAll_take sp dk) (.cons (dx_same smm dx4) .nil)) (dxAll_drop (sp + 1) dk), ?_, ?_, fun e7 => by omega⟩
            · have : (sidesD l s).length = l.length := List.length_map ..
              rw [repl_len (by omega), this]
            · intro d hd
              rcases repl_mem hd with h | h
              · exact dts0 d h
              · rw [h]
                exact dt4
        · exact ⟨b, xs0, sidesD l s, rfl, kp12, hM2, kp12.sqT hM hB, dxAll_kpn kp12 hM dx0, List.length_map .., dts0, fun _ => rfl⟩
      rintro σ' H3 ⟨t, xs, es, rfl, kp3, hM3, hT, dT, le, dte, e7⟩
      -- one side another value
      refine ⟨fun σ' H' => ∃ (t : Addr) (xs : List V) (es : List PyData) (y2 y5 : Option V), σ' = [some (.ref L), some (.ref a), y2, none, some (.ref t), y5, some (.int sd), none] ∧ Kp L F H H' ∧ Lm H' L F ∧ SqT K H' t xs ∧
        DxAll K (ZN L F H) H' xs es ∧ es.length = l.length ∧ (∀ d ∈ es, Dt 30 4 d) ∧ (sd = 7 → es = sidesD l s), ?_, ?_⟩
      · refine ⟨_, rfl, z 2 (by decide), fun p4 hp4 => ⟨p4, _, rfl, .inr (SqT.of upd_same), rfl, rfl, _, rfl, ?_⟩⟩
        have sm4 := same_new (o := .tup [.int 3, .int 4]) hp4
        have hM4 := hM3.same sm4
        have hT4 := Ev.Same.seqT sm4 hT
        have dT4 := dxAll_same sm4 dT
        have kp4 := kp3.trans (kp_same sm4)
        revert hM4 hT4 dT4 kp4
        generalize upd H3 p4 (HO.tup [.int 3, .int 4]) = G
        intro hM4 hT4 dT4 kp4
        refine ite2 (fun e34 => ?_) (fun e34 => ?_)
        · have s34 : sd ≠ 7 := fun h => by
            subst h
            exact absurd e34 (by decide)
          have lx : xs.length = l.length := by rw [dxAll_len dT4, le]
          refine ⟨_, rfl, _, rfl, t, xs, rfl, .inr hT4, L, F, _, rfl, hM4, (by omega), fun H5 sq kp5 hM5 sq0 sql => ?_⟩
          obtain ⟨sq, rfl⟩ := Int.eq_ofNat_of_zero_le sq0
          have sql' : sq < l.length := by
            rcases sql with h | h <;> omega
          refine ⟨_, rfl, L, F, rfl, hM5, fun H6 xo od kp6 hM6 dxo' dto wo => ?_⟩
          have dxo : Dx K (ZN L F H) H6 xo od := dx_back (kp4.trans kp5) dxo'
          refine ⟨z 2 (by decide), fun p7 hp7 => ⟨z 2 (by decide), fun p8 hp8 => ⟨z 2 (by decide), fun p9 hp9 => ⟨z 2 (by decide), fun p10 hp10 => ⟨z 3 (by decide), fun p11 hp11 => ?_⟩⟩⟩⟩⟩
          generalize g7 : upd H6 p7 (HO.tup [.int 1, .int 2]) = G7
          rw [g7] at hp8
          obtain ⟨M7, j7, w7, l7, f7⟩ := al_eq g7 hM6 hp7
          rw [g7] at hp9 hp10 hp11
          clear g7
          generalize g8 : upd G7 p8 (HO.tup [.int 9, .ref p7]) = G8
          obtain ⟨M8, j8, w8, l8, f8⟩ := al_eq g8 M7 hp8
          rw [g8] at hp9 hp10 hp11
          clear g8
          generalize g9 : upd G8 p9 (HO.tup [.int 1, .int 3]) = G9
          obtain ⟨M9, j9, w9, l9, f9⟩ := al_eq g9 M8 hp9
          rw [g9] at hp10 hp11
          clear g9
          generalize g10 : upd G9 p10 (HO.tup [.int 0, .ref p9]) = G10
          obtain ⟨M10, j10, w10, l10, f10⟩ := al_eq g10 M9 hp10
          rw [g10] at hp11
          clear g10
          generalize g11 : upd G10 p11 (HO.lst [xo, .ref p8, .ref p10]) = G11
          obtain ⟨M11, j11, w11, l11, f11⟩ := al_eq g11 M10 hp11
          clear g11
          have k6 : Kp L F G G11 := ((((((kp5.trans kp6).trans j7).trans j8).trans j9).trans j10).trans j11)
          have hT11 := k6.sqT hM4 hT4
          have dT11 := dxAll_kpn k6 hM4 dT4
          refine ⟨_, rfl, _, rfl, _, rfl, t, xs, rfl, hT11, fun H12 p12 sm12 h12 => ?_⟩
          rw [cut_take (show (0 : Int) ≤ (sq : Int) by omega), Int.toNat_natCast] at h12
          have M12 := M11.same sm12
          refine ⟨_, rfl, _, rfl, L, F, p11, _, rfl, M12, SqL.of (sm12 _ _ w11), l11, f11, (by show 0 < 3; decide), (by show 3 < 1073741824; decide), fun H13 i0 u kp13 M13 hx => ⟨z 1 (by decide), fun p14 hp14 => ?_⟩⟩
          have main : ∃ d, Dx K (ZN L F H) G11 u d ∧ Dt 30 4 d := by
            have hx' := List.mem_of_getElem? hx
            simp only [List.mem_cons, List.not_mem_nil, or_false] at hx'
            have kk10 := j11
            have kk9 := j10.trans kk10
            have kk8 := j9.trans kk9
            have kk7 := j8.trans kk8
            have kk6 := j7.trans kk7
            rcases hx' with rfl | rfl | rfl
            · exact ⟨od, dx_kpn kk6 hM6 dxo, dto.le (by decide) (by decide)⟩
            · exact ⟨_, .tup (SqT.of (kk8 _ _ l8 f8 w8)) (.cons (.int _) (.cons (.tup (xs := [.int 1, .int 2]) (SqT.of (kk7 _ _ l7 f7 w7)) (.cons (.int _) (.cons (.int _) .nil))) .nil)), ⟨by decide +kernel, by decide +kernel, by decide +kernel⟩⟩
            · exact ⟨_, .tup (SqT.of (kk10 _ _ l10 f10 w10)) (.cons (.int _) (.cons (.tup (xs := [.int 1, .int 3]) (SqT.of (kk9 _ _ l9 f9 w9)) (.cons (.int _) (.cons (.int _) .nil))) .nil)), ⟨by decide +kernel, by decide +kernel, by decide +kernel⟩⟩
          obtain ⟨d4, dx4, dt4⟩ := main
          have sm14 := same_new (o := .tup [u]) hp14
          have hl1 : (xs.take sq).length = sq := by rw [List.length_take]; omega
          refine ⟨p12, p14, _, _, rfl, rfl, Ev.Same.seqT sm14 (kp13.sqT M12 h12), SqT.of upd_same, (by rw [hl1]; exact z _ (by show sq + 1 ≤ 100; omega)), fun H15 p15 sm15 h15 => ?_⟩
          have k15 : Kp L F G11 H15 := ((kp_same sm12).trans kp13).trans (kp_same (sm14.trans sm15))
          refine ⟨_, rfl, _, rfl, _, _, rfl, rfl, _, rfl, t, xs, rfl, k15.sqT M11 hT11, fun H16 p16 sm16 h16 => ?_⟩
          have ec : cutV xs (some ((sq : Int) + 1)) none = xs.drop (sq + 1) := cut_drop (m := sq + 1)
          have h16' : SqT K H16 p16 (xs.drop (sq + 1)) := by
            rw [← ec]
            exact h16
          refine ⟨p15, p16, _, _, rfl, rfl, Ev.Same.seqT sm16 h15, h16', ?_, fun H17 p17 sm17 h17 => ?_⟩
          · have : (xs.take sq ++ [u] ++ xs.drop (sq + 1)).length = xs.length := repl_len (by omega)
            rw [List.length_append] at this
            exact z _ (by omega)
          · have k17 := k15.trans (kp_same (sm16.trans sm17))
            have dk := dxAll_kpn k17 M11 dT11
            refine ⟨p17, _, es.take sq ++ [d4] ++ es.drop (sq + 1), some (.ref p11), some (.int (sq : Int)), rfl, (kp4.trans k6).trans k17, ((M13.same sm14).same sm15).same (sm16.trans sm17), h17, dxAll_app (dxAll_app (dxAll_take sq dk) (.cons (dx_kpn k17 M11 dx4) .nil)) (dxAll_drop (sq + 1) dk), ?_, ?_, fun e => absurd e s34⟩
            · rw [repl_len (by omega), le]
            · intro d hd
              rcases repl_mem hd with h | h
              · exact dte d h
              · rw [h]
                exact dt4
        · exact ⟨t, xs, es, none, some (.int (sp : Int)), rfl, kp4, hM4, hT4, dT4, le, dte, e7⟩
      clear hT dT le dte e7 kp3 hM3
      rintro σ' H4 ⟨t, xs, es, y2, y5, rfl, kp4, hM4, hT, dT, le, dte, e7⟩
      -- all of them otherwise
      refine ⟨fun σ' H' => ∃ (v : V) (d : PyData) (y2 y5 : Option V), σ' = [some (.ref L), some (.ref a), y2, none, some v, y5, some (.int sd), none] ∧ Kp L F H H' ∧ Lm H' L F ∧
        Dx K (ZN L F H) H' v d ∧ Dt 600 6 d ∧ (sd = 7 → d = .tuple (sidesD l s)), ?_, ?_⟩
      · have dtl : ∀ (k : List PyData), (∀ d ∈ k, Dt 30 4 d) → k.length ≤ 14 → Dt 600 6 (.tuple k) := fun k h1 h2 =>
          (Dts.tuple (dts_all h1)).le (by have := Nat.mul_le_mul_right 30 h2; omega) (by decide)
        refine ⟨_, rfl, rfl, _, rfl, ite2 (fun e5 => ?_) (fun e5 => ?_)⟩
        · have s57 : sd ≠ 7 := fun h => by
            have : sd = 5 := V.int.inj (of_decide_eq_true e5)
            omega
          have lx : xs.length = l.length := by rw [dxAll_len dT, le]
          have zx : ∀ n, n ≤ 100 → n ≤ sizeLine := z
          have tk : cutV xs none (some 1) = xs.take 1 := cut_take (m := 1) (by decide)
          refine ⟨_, rfl, _, rfl, t, xs, rfl, hT, fun p1 hp1 => ?_⟩
          generalize g1 : upd H4 p1 (HO.tup xs.reverse) = G1
          obtain ⟨M1, j1, w1, l1, f1⟩ := al_eq g1 hM4 hp1
          clear g1
          have hT1 := j1.sqT hM4 hT
          refine ⟨_, rfl, _, rfl, t, t, xs, xs, rfl, rfl, hT1, hT1, z _ (by omega), fun G2 p2 sm2 h2 => ?_⟩
          have hT2 := Ev.Same.seqT sm2 hT1
          refine ⟨_, rfl, _, rfl, t, xs, rfl, hT2, fun G3 p3 sm3 h3 => ?_⟩
          have h3' : SqT K G3 p3 (xs.drop 1) := by
            rw [← cut_drop]
            exact h3
          have hT3 := Ev.Same.seqT sm3 hT2
          refine ⟨_, rfl, _, rfl, t, xs, rfl, hT3, fun G4 p4 sm4 h4 => ?_⟩
          rw [tk] at h4
          have hT4 := Ev.Same.seqT sm4 hT3
          have M4 := ((M1.same sm2).same sm3).same sm4
          have ne1 : xs.take 1 ≠ [] := fun h => by
            have : (xs.take 1).length = 0 := by rw [h]; rfl
            rw [List.length_take] at this
            omega
          refine ⟨p4, 2, xs.take 1, rfl, rfl, h4, ne1, by decide, by decide, by rw [List.length_take]; omega, fun p5 hp5 => ?_⟩
          generalize g5 : upd G4 p5 (HO.tup (List.replicate (2 : Int).toNat (xs.take 1)).flatten) = G5
          obtain ⟨M5, j5, w5, l5, f5⟩ := al_eq g5 M4 hp5
          clear g5
          have hT5 := j5.sqT M4 hT4
          refine ⟨_, rfl, t, xs, rfl, .inr hT5, fun p6 hp6 => ?_⟩
          generalize g6 : upd G5 p6 (HO.lst xs) = G6
          obtain ⟨M6, j6, w6, l6, f6⟩ := al_eq g6 M5 hp6
          clear g6
          refine ⟨z 2 (by decide), fun p7 hp7 => ?_⟩
          generalize g7 : upd G6 p7 (HO.tup [.int 1, .int 9]) = G7
          obtain ⟨M7, j7, w7, l7, f7⟩ := al_eq g7 M6 hp7
          clear g7
          refine ⟨z 2 (by decide), fun p8 hp8 => ?_⟩
          generalize g8 : upd G7 p8 (HO.tup [.int 9, .ref p7]) = G8
          obtain ⟨M8, j8, w8, l8, f8⟩ := al_eq g8 M7 hp8
          clear g8
          refine ⟨z 1 (by decide), fun p9 hp9 => ?_⟩
          generalize g9 : upd G8 p9 (HO.tup [.ref p8]) = G9
          obtain ⟨M9, j9, w9, l9, f9⟩ := al_eq g9 M8 hp9
          clear g9
          refine ⟨p9, 7, [.ref p8], rfl, rfl, SqT.of w9, List.cons_ne_nil _ _, by decide, by decide, by show 1 ≤ 1000; decide, fun p10 hp10 => ?_⟩
          generalize g10 : upd G9 p10 (HO.tup (List.replicate (7 : Int).toNat [V.ref p8]).flatten) = G10
          obtain ⟨M10, j10, w10, l10, f10⟩ := al_eq g10 M9 hp10
          clear g10
          refine ⟨z 6 (by decide), fun p11 hp11 => ?_⟩
          generalize g11 : upd G10 p11 (HO.lst [.ref p1, .ref p2, .ref p3, .ref p5, .ref p6, .ref p10]) = G11
          obtain ⟨M11, j11, w11, l11, f11⟩ := al_eq g11 M10 hp11
          clear g11
          refine ⟨L, F, p11, _, rfl, M11, SqL.of w11, l11, f11, (by show 0 < 6; decide), (by show 6 < 1073741824; decide), fun H9 i u kp hM9 hx => ?_⟩
          have kk10 := j11
          have kk9 := j10.trans kk10
          have kk8 := j9.trans kk9
          have kk7 := j8.trans kk8
          have kk6 := j7.trans kk7
          have kk5 := j6.trans kk6
          have kk4 := j5.trans kk5
          have kk3 := (kp_same sm4).trans kk4
          have kk2 := (kp_same sm3).trans kk3
          have kk1 := (kp_same sm2).trans kk2
          have kk0 := j1.trans kk1
          have dz := dxAll_kpn kk0 hM4 dT
          have main : ∃ d, Dx K (ZN L F H) G11 u d ∧ Dt 600 6 d := by
            have hx' := List.mem_of_getElem? hx
            simp only [List.mem_cons, List.not_mem_nil, or_false] at hx'
            rcases hx' with rfl | rfl | rfl | rfl | rfl | rfl
            · exact ⟨_, .tup (kk1.sqT M1 (SqT.of w1)) (dxAll_rev dz), dtl _ (fun d hd => dte d (List.mem_reverse.mp hd)) (by rw [List.length_reverse]; omega)⟩
            · exact ⟨_, .tup (kk2.sqT (M1.same sm2) h2) (dxAll_app dz dz), dtl _ (fun d hd => dte d (by rcases List.mem_append.mp hd with h | h <;> exact h)) (by rw [List.length_append]; omega)⟩
            · exact ⟨_, .tup (kk3.sqT ((M1.same sm2).same sm3) h3') (dxAll_drop 1 dz), dtl _ (fun d hd => dte d (List.mem_of_mem_drop hd)) (by rw [List.length_drop]; omega)⟩
            · refine ⟨.tuple (es.take 1 ++ (es.take 1 ++ [])), .tup (xs := xs.take 1 ++ (xs.take 1 ++ [])) (kk5.sqT M5 (SqT.of w5)) (dxAll_app (dxAll_take 1 dz) (dxAll_app (dxAll_take 1 dz) .nil)), dtl _ (fun d hd => dte d ?_) ?_⟩
              · rw [List.append_nil] at hd
                rcases List.mem_append.mp hd with h | h <;> exact List.mem_of_mem_take h
              · rw [List.append_nil, List.length_append, List.length_take]
                omega
            · exact ⟨_, .lst (kk6 _ _ l6 f6 w6) ⟨l6, f6, none_back (((((kp4.trans j1).trans (kp_same sm2)).trans (kp_same sm3)).trans (kp_same sm4)).trans j5) hp6 l6 f6⟩ dz, (Dts.list (dts_all dte)).le (by have := Nat.mul_le_mul_right 30 (show es.length ≤ 6 by omega); omega) (by decide)⟩
            · have one : Dx K (ZN L F H) G11 (.ref p8) (sideD 9 1 9) := .tup (SqT.of (kk8 _ _ l8 f8 w8)) (.cons (.int _) (.cons (.tup (xs := [.int 1, .int 9]) (SqT.of (kk7 _ _ l7 f7 w7)) (.cons (.int _) (.cons (.int _) .nil))) .nil))
              exact ⟨.tuple [sideD 9 1 9, sideD 9 1 9, sideD 9 1 9, sideD 9 1 9, sideD 9 1 9, sideD 9 1 9, sideD 9 1 9], .tup (xs := [.ref p8, .ref p8, .ref p8, .ref p8, .ref p8, .ref p8, .ref p8]) (SqT.of (kk10 _ _ l10 f10 w10)) (.cons one (.cons one (.cons one (.cons one (.cons one (.cons one (.cons one .nil))))))), ⟨by decide +kernel, by decide +kernel, by decide +kernel⟩⟩
          obtain ⟨d, hd, dt⟩ := main
          exact ⟨u, d, y2, y5, rfl, (kp4.trans kk0).trans kp, hM9, dx_kpn kp M11 hd, dt, fun h => absurd h s57⟩
        · exact ⟨.ref t, .tuple es, y2, y5, rfl, kp4, hM4, .tup hT dT, dtl es dte (by omega), fun h => by rw [e7 h]⟩
      clear hT dT le dte e7 kp4 hM4
      rintro σ' H5 ⟨v, d, y2, y5, rfl, kp5, hM5, dv, dtv, e7⟩
      -- seven sides, or six
      refine ⟨fun σ' H' => ∃ (v : V) (d : PyData) (y2 y5 : Option V), σ' = [some (.ref L), some (.ref a), y2, none, some v, y5, some (.int sd), none] ∧ Kp L F H H' ∧ Lm H' L F ∧
        Dx K (ZN L F H) H' v d ∧ Dt 600 6 d ∧ (sd = 7 → d = .tuple (sidesD l s)), ?_, ?_⟩
      · refine ⟨_, rfl, rfl, _, rfl, ite2 (fun e6 => ?_) (fun e6 => ?_)⟩
        · have s67 : sd ≠ 7 := fun h => by
            have : sd = 6 := V.int.inj (of_decide_eq_true e6)
            omega
          refine ⟨_, rfl, L, F, 2, rfl, hM5, by decide, fun H6 k kp6 hM6 k0 kl => ⟨_, _, rfl, rfl, ?_⟩⟩
          refine ⟨_, rfl, by omega, by omega, fun D1 hD1 => ?_⟩
          have nD := hM6.ne hD1
          refine lc_it (walk_range (lo := 0) (n := (7 - k).toNat)) (fun i H' => Same H6 H' ∧ ∃ ys : List V, H' D1 = some (.lst ys) ∧ DxAll K (fun _ => False) H' ys ((List.range i).map fun j => sideD (j : Nat) 1 7)) ⟨same_new hD1, [], upd_same, .nil⟩ (fun _ _ _ _ => trivial) ?_ ?_
          · rintro i x H7 H8 hi ⟨sm, ys, hY, dY⟩ ⟨rfl, rfl⟩
            refine ⟨rfl, yes_of ?_⟩
            refine ⟨_, rfl, z 2 (by decide), fun p8 hp8 => ⟨z 2 (by decide), fun p9 hp9 => ?_⟩⟩
            have sm8 := same_new (o := .tup [.int 1, .int 7]) hp8
            have sm9 := same_new (o := .tup [.int (0 + (i : Int)), .ref p8]) hp9
            refine ⟨ys, sm9 _ _ (sm8 _ _ hY), ?_, same_put ((sm.trans sm8).trans sm9) hD1, ys ++ [.ref p9], upd_same, ?_⟩
            · have h1 := dxAll_len dY
              rw [List.length_map, List.length_range] at h1
              exact small1000 (by omega)
            · rw [List.range_succ, List.map_append]
              refine dxAll_upd (sm9 _ _ (sm8 _ _ hY)) (fun _ z => z.elim) (dxAll_app (dxAll_same (sm8.trans sm9) dY) (.cons ?_ .nil))
              have e0 : (0 + (i : Int)) = (i : Nat) := by omega
              rw [e0] at sm9 ⊢
              exact .tup (SqT.of upd_same) (.cons (.int _) (.cons (.tup (xs := [.int 1, .int 7]) (SqT.of (sm9 _ _ upd_same)) (.cons (.int _) (.cons (.int _) .nil))) .nil))
          · rintro H7 ⟨sm, ys, hY, dY⟩
            refine ⟨D1, ys, rfl, .inl ⟨SqL.of hY, fun p9 hp9 => ?_⟩⟩
            have sm9 := same_new (o := .tup ys) hp9
            refine ⟨.ref p9, .tuple ((List.range (7 - k).toNat).map fun j => sideD (j : Nat) 1 7), y2, y5, rfl, (kp5.trans kp6).trans (kp_same (sm.trans sm9)), hM6.same (sm.trans sm9), .tup (SqT.of upd_same) (dxAll_mono (fun _ _ _ z => z.elim) (dxAll_same sm9 dY)), ?_, fun h => absurd h s67⟩
            refine (Dts.tuple (dts_all (n := 30) (k := 4) fun d hd => ?_)).le ?_ (by decide)
            · obtain ⟨j, hj, rfl⟩ := List.mem_map.mp hd
              have := List.mem_range.mp hj
              exact (Dts.tuple (Dts.cons (dt_small (by omega)) (Dts.cons (Dts.tuple (Dts.cons (dt_small (by decide)) (Dts.cons (dt_small (by decide)) Dts.nil))) Dts.nil))).le (by decide) (by decide)
            · rw [List.length_map, List.length_range]
              have := Nat.mul_le_mul_right 30 (show (7 - k).toNat ≤ 7 by omega)
              omega
        · exact ⟨v, d, y2, y5, rfl, kp5, hM5, dv, dtv, e7⟩
      clear dv dtv e7 kp5 hM5
      rintro σ' H6 ⟨v, d, y2, y5, rfl, kp6, hM6, dv, dtv, e7⟩
      refine ⟨_, rfl, rfl, _, rfl, ite2 (fun e => ?_) (fun e => ?_)⟩
      · have s7 : sd = 7 := V.int.inj (of_decide_eq_true e)
        have ed := e7 s7
        subst ed
        have M0 := hM6
        have c0 : Kp L F H H6 := kp6
        refine ⟨_, rfl, z 2 (by decide), fun p1 h1 => ?_⟩
        generalize g1 : upd H6 p1 (HO.tup [V.str "Die", v]) = G1
        obtain ⟨M1, j1, e1, l1, f1⟩ := al_eq g1 M0 h1
        clear g1
        have c1 := c0.trans j1
        refine ⟨_, rfl, z 2 (by decide), fun p2 h2 => ?_⟩
        generalize g2 : upd G1 p2 (HO.tup [v, V.str "die"]) = G2
        obtain ⟨M2, j2, e2, l2, f2⟩ := al_eq g2 M1 h2
        clear g2
        have c2 := c1.trans j2
        refine ⟨_, rfl, z 2 (by decide), fun p3 h3 => ?_⟩
        generalize g3 : upd G2 p3 (HO.lst [V.str "die", v]) = G3
        obtain ⟨M3, j3, e3, l3, f3⟩ := al_eq g3 M2 h3
        clear g3
        have c3 := c2.trans j3
        refine ⟨_, rfl, z 3 (by decide), fun p4 h4 => ?_⟩
        generalize g4 : upd G3 p4 (HO.tup [V.str "die", v, V.int 0]) = G4
        obtain ⟨M4, j4, e4, l4, f4⟩ := al_eq g4 M3 h4
        clear g4
        have c4 := c3.trans j4
        refine ⟨_, rfl, z 2 (by decide), fun p5 h5 => ?_⟩
        generalize g5 : upd G4 p5 (HO.tup [V.str "till", v]) = G5
        obtain ⟨M5, j5, e5, l5, f5⟩ := al_eq g5 M4 h5
        clear g5
        have c5 := c4.trans j5
        refine ⟨z 1 (by decide), fun p6 h6 => ?_⟩
        generalize g6 : upd G5 p6 (HO.tup [V.str "die"]) = G6
        obtain ⟨M6, j6, e6, l6, f6⟩ := al_eq g6 M5 h6
        clear g6
        have c6 := c5.trans j6
        refine ⟨_, rfl, z 7 (by decide), fun p7 h7 => ?_⟩
        generalize g7 : upd G6 p7 (HO.lst [V.ref p1, V.ref p2, V.ref p3, V.ref p4, V.ref p5, V.ref p6, v]) = G7
        obtain ⟨M7, j7, e7, l7, f7⟩ := al_eq g7 M6 h7
        clear g7
        have c7 := c6.trans j7
        have kk7 : Kp L F G7 G7 := fun _ _ _ _ e => e
        have kk6 := j7.trans kk7
        have kk5 := j6.trans kk6
        have kk4 := j5.trans kk5
        have kk3 := j4.trans kk4
        have kk2 := j3.trans kk3
        have kk1 := j2.trans kk2
        have kk0 := j1.trans kk1
        have q1 := kk1 p1 _ l1 f1 e1
        have q2 := kk2 p2 _ l2 f2 e2
        have q3 := kk3 p3 _ l3 f3 e3
        have q4 := kk4 p4 _ l4 f4 e4
        have q5 := kk5 p5 _ l5 f5 e5
        have q6 := kk6 p6 _ l6 f6 e6
        have q7 := kk7 p7 _ l7 f7 e7
        refine ⟨_, rfl, _, rfl, L, F, p7, _, rfl, M7, SqL.of e7, l7, f7, (by show 0 < 7; decide), (by show 7 < 1073741824; decide), fun H9 i x kp hM9 hx => ?_⟩
        have main7 : ∃ d, Dx K (ZN L F H) G7 x d ∧ Dt 700 8 d ∧ WordOk d := by
          have hx' := List.mem_of_getElem? hx
          simp only [List.cons_append, List.nil_append, List.mem_cons, List.not_mem_nil, or_false] at hx'
          rcases hx' with rfl | rfl | rfl | rfl | rfl | rfl | rfl
          · exact ⟨_, (.tup (SqT.of q1) (.cons (.str _) (.cons (dx_kpn kk0 M0 dv) .nil))), (Dts.tuple (Dts.cons (dt_str (by decide +kernel)) (Dts.cons dtv Dts.nil))).le (by decide +kernel) (by decide +kernel), by first | exact sides_word _ _ | (intro x y hxy; first | (cases hxy; done) | (cases hxy; exact ⟨rfl, by decide +kernel⟩) | (cases hxy; exact ⟨sides_hd _ _, sides_shaped _ _⟩))⟩
          · exact ⟨_, (.tup (SqT.of q2) (.cons (dx_kpn kk0 M0 dv) (.cons (.str _) .nil))), (Dts.tuple (Dts.cons dtv (Dts.cons (dt_str (by decide +kernel)) Dts.nil))).le (by decide +kernel) (by decide +kernel), by first | exact sides_word _ _ | (intro x y hxy; first | (cases hxy; done) | (cases hxy; exact ⟨rfl, by decide +kernel⟩) | (cases hxy; exact ⟨sides_hd _ _, sides_shaped _ _⟩))⟩
          · exact ⟨_, (.lst q3 ⟨l3, f3, none_back c2 h3 l3 f3⟩ (.cons (.str _) (.cons (dx_kpn kk0 M0 dv) .nil))), (Dts.list (Dts.cons (dt_str (by decide +kernel)) (Dts.cons dtv Dts.nil))).le (by decide +kernel) (by decide +kernel), by first | exact sides_word _ _ | (intro x y hxy; first | (cases hxy; done) | (cases hxy; exact ⟨rfl, by decide +kernel⟩) | (cases hxy; exact ⟨sides_hd _ _, sides_shaped _ _⟩))⟩
          · exact ⟨_, (.tup (SqT.of q4) (.cons (.str _) (.cons (dx_kpn kk0 M0 dv) (.cons (.int _) .nil)))), (Dts.tuple (Dts.cons (dt_str (by decide +kernel)) (Dts.cons dtv (Dts.cons (dt_small (by decide)) Dts.nil)))).le (by decide +kernel) (by decide +kernel), by first | exact sides_word _ _ | (intro x y hxy; first | (cases hxy; done) | (cases hxy; exact ⟨rfl, by decide +kernel⟩) | (cases hxy; exact ⟨sides_hd _ _, sides_shaped _ _⟩))⟩
          · exact ⟨_, (.tup (SqT.of q5) (.cons (.str _) (.cons (dx_kpn kk0 M0 dv) .nil))), (Dts.tuple (Dts.cons (dt_str (by decide +kernel)) (Dts.cons dtv Dts.nil))).le (by decide +kernel) (by decide +kernel), by first | exact sides_word _ _ | (intro x y hxy; first | (cases hxy; done) | (cases hxy; exact ⟨rfl, by decide +kernel⟩) | (cases hxy; exact ⟨sides_hd _ _, sides_shaped _ _⟩))⟩
          · exact ⟨_, (.tup (SqT.of q6) (.cons (.str _) .nil)), (Dts.tuple (Dts.cons (dt_str (by decide +kernel)) Dts.nil)).le (by decide +kernel) (by decide +kernel), by first | exact sides_word _ _ | (intro x y hxy; first | (cases hxy; done) | (cases hxy; exact ⟨rfl, by decide +kernel⟩) | (cases hxy; exact ⟨sides_hd _ _, sides_shaped _ _⟩))⟩
          · exact ⟨_, (dx_kpn kk0 M0 dv), dtv.le (by decide +kernel) (by decide +kernel), by first | exact sides_word _ _ | (intro x y hxy; first | (cases hxy; done) | (cases hxy; exact ⟨rfl, by decide +kernel⟩) | (cases hxy; exact ⟨sides_hd _ _, sides_shaped _ _⟩))⟩
        obtain ⟨d, hd9, dt, wk⟩ := main7
        exact q H9 _ d (kp6.trans (kk0.trans kp)) hM9 (dx_kpn kp M7 hd9) dt wk
      · refine ⟨_, rfl, z 2 (by decide), fun p hp => ?_⟩
        refine q _ (.ref p) (.tuple [.str "die", d]) (kp6.trans (Kp.new hp)) (hM6.new hp) (.tup (SqT.of upd_same) (.cons (.str _) (.cons (dx_same (same_new hp) dv) .nil))) ((Dts.tuple (Dts.cons (dt_str (by decide +kernel)) (Dts.cons dtv Dts.nil))).le (by decide +kernel) (by decide)) ?_
        intro x y hxy
        cases hxy
        exact ⟨rfl, by decide +kernel⟩
end
end Ev

set_option exponentiation.threshold 10000
namespace Ev
open PySem PySem.Spec PyProof.Rows L2
theorem first_lt {p : Nat → Bool} : ∀ (n k i : Nat), firstN p k n = some i → i < k + n
  | 0, k, i, h => by cases h
  | n + 1, k, i, h => by
    unfold firstN at h
    split at h
    · cases h
      omega
    · have := first_lt n (k + 1) i h
      omega
theorem slipSides_dt {ds : List PyData} (h : ds.length ≤ 6) : Dt 20 2 (slipSides ds) := by
  have key : ∀ (t : Str) (i : Nat), Dt (t.length + 1) 0 (.str t) → t.length ≤ 10 → i ≤ 20 → Dt 20 2 (.tuple [.str t, .int i]) := fun t i ht hl hi =>
    (Dts.tuple (Dts.cons ht (Dts.cons (dt_small (i := (i : Int)) (by omega)) Dts.nil))).le (by omega) (by decide)
  have ks : ∀ t : Str, Dt (t.length + 1) 0 (.str t) → t.length ≤ 10 → Dt 20 2 (.str t) := fun t ht hl => ht.le (by omega) (by decide)
  unfold slipSides
  split
  · rename_i i e
    have := first_lt _ _ _ e
    exact key "side" i (dt_str (by decide +kernel)) (by decide +kernel) (by omega)
  · split
    · rename_i i e
      have := first_lt _ _ _ e
      exact key "order" i (dt_str (by decide +kernel)) (by decide +kernel) (by omega)
    · split
      · exact dt_none.le (by decide) (by decide)
      · exact ks "sum" (dt_str (by decide +kernel)) (by decide +kernel)
theorem slip_dt (d : PyData) : Dt 20 2 (slipD d) := by
  have ks : ∀ t : Str, Dt (t.length + 1) 0 (.str t) → t.length ≤ 10 → Dt 20 2 (.str t) := fun t ht hl => ht.le (by omega) (by decide)
  have form := ks "form" (dt_str (by decide +kernel)) (by decide +kernel)
  unfold slipD
  split
  · split
    · split
      · exact dt_none.le (by decide) (by decide)
      · exact ks "share" (dt_str (by decide +kernel)) (by decide +kernel)
    · split
      · unfold slipDie
        split
        · split
          · rename_i h
            exact slipSides_dt h.2
          · exact form
        · exact form
      · exact form
  · exact form
theorem isdie_dt {d : PyData} (h : IsDie d) : Dt 700 8 d ∧ WordOk d := by
  cases h with
  | @till x y h b =>
    have h1 := h.pos
    have h2 := h.lt
    refine ⟨(Dts.tuple (Dts.cons (dt_str (by decide +kernel)) (Dts.cons (Dts.tuple (Dts.cons (dt_int (sm21 (by omega))) (Dts.cons (dt_int (sm21 (by omega))) Dts.nil))) Dts.nil))).le (by decide +kernel) (by decide), ?_⟩
    intro x y hxy
    cases hxy
    exact ⟨rfl, by decide +kernel⟩
  | @die l s h =>
    have h1 := side_dt h
    have h2 := h.len
    have h3 : (sidesD l s).length = l.length := List.length_map ..
    refine ⟨(Dts.tuple (Dts.cons (dt_str (by decide +kernel)) (Dts.cons ((Dts.tuple (dts_all h1)).le (n' := 200) (k' := 6) (by have := Nat.mul_le_mul_right 30 h2.2; omega) (by decide)) Dts.nil))).le (by decide +kernel) (by decide), ?_⟩
    intro x y hxy
    cases hxy
    exact ⟨rfl, by decide +kernel⟩
theorem far_text {k : Nat} (h : k = 9 ∨ k = 20 ∨ k = 60 ∨ k = 398) : MulOk "0" (k : Int) ∧ ("1" : Str).length + (Txt.mul "0" (k : Int)).length ≤ sizeLine ∧
    PySem.intText? (("1" : Str) ++ Txt.mul "0" (k : Int)) = some ((10 ^ k : Nat) : Int) ∧ (("1" : Str) ++ Txt.mul "0" (k : Int)).length ≤ 640 := by
  rcases h with rfl | rfl | rfl | rfl <;> exact ⟨⟨by decide +kernel, by decide +kernel, by decide +kernel⟩, by decide +kernel, by decide +kernel, by decide +kernel⟩
def noneB : PyData → Bool
  | .none => true
  | _ => false
theorem noneB_of {d : PyData} (h : noneB d = true) : d = .none := by
  cases d <;> first | rfl | cases h
def formB : PyData → Bool
  | .str t => t == "form"
  | _ => false
theorem formB_of {d : PyData} (h : formB d = true) : d = .str "form" := by
  cases d with
  | str t => rw [eq_of_beq (show (t == "form") = true from h)]
  | _ => cases h
/-- six sides, four to nine -/
def sixL : List PyData := (List.range 6).map fun (j : Nat) => sideD (4 + (j : Int)) 1 6
def sixD : PyData := .tuple [.str "die", .tuple sixL]
def sevenD : PyData := .tuple [.str "die", .tuple (sixL ++ [sideD 9 1 6])]
theorem six_slip : slipD sixD = .none := noneB_of (by decide +kernel)
theorem seven_slip : slipD sevenD = .str "form" := formB_of (by decide +kernel)
theorem word_die (d : PyData) : WordOk (.tuple [.str "die", d]) := by
  intro x y hxy
  cases hxy
  exact ⟨rfl, by decide +kernel⟩
theorem far_lt {k : Nat} (h : k = 9 ∨ k = 20 ∨ k = 60 ∨ k = 398) : 10 ^ k < 2 ^ 1398 := by
  rcases h with rfl | rfl | rfl | rfl <;> decide +kernel
section
variable {P : Program} {w : World} {K : PySem.W.Frag} {mg : Str → Option Value} {base : Heap} {A : Nat → Addr} {D : Nat → FuncData}
theorem Txt.kb_die_error (T : Txt K mg A D) : KB0 K (D 0) ["value"] ["value"] [0] := by
  obtain ⟨c1, c2, c3, c4, c5, c6, c7, c8, c9, e, lk, hcd⟩ := T.F_die_error.ex
  rw [e]
  refine ⟨fun s ws _ hl => ?_⟩
  match ws, hl with
  | [x], _ => exact .of_eq rfl
def sp_law (K : PySem.W.Frag) : Sp := fun vs H Q _ => ∃ (a : Addr) (ns : List Int), vs = [.ref a] ∧ SqL K H a (ns.map V.int) ∧ ns.length ≤ 63 ∧ ∀ H', Q (.bl true) H'
theorem Txt.ok_law (T : Txt K mg A D) : FnG P w K mg base CX0 6 (A 24) (D 24) ["script"] (sp_law K) := by
  refine okG T.F_law sc_law (fun vs H Q E h => ?_) (fun cdv Ar outer s H vs Q E hA hr h => ?_)
  · obtain ⟨a, ns, rfl, _⟩ := h
    rfl
  · obtain ⟨a0, ns, rfl, hS, hlen, q⟩ := h
    have hG : (Ar.deeper (envOfC (Str.ofString "law") (defScope s_law) s.heap.objs.size (A 24) cdv)).guards = some [] := hA
    have hu := hu_of hr
    refine ⟨_, (pss_cons (ps_set (i := 1) sc_law.nd rfl (Or.inr rfl) (pe_call (T.ok_loom) (hr.mono (by decide)) (by rfl) T.g_loom T.k_loom T.b_loom .nil pass0 (pa_cons (pv 0) pa_nil)))
    (pss_cons (ps_for PassesOwn.never rfl (pi_range1 rfl T.range (pa_cons pe_int pa_nil)) (pg_name (i := 2) sc_law.nd rfl (Or.inl rfl)) (pss_cons (ps_set (i := 3) sc_law.nd rfl (Or.inr rfl) (pe_call (T.ok_die) (hr.mono (by decide)) (by rfl) T.g_die T.k_die T.b_die .nil pass0 (pa_cons (pv 1) pa_nil)))
    (pss_cons (ps_set (i := 4) sc_law.nd rfl (Or.inl rfl) (pe_op op_cat (pe_lst (pa_cons (pv 3) (pa_cons (pe_call (T.ok_odd) (hr.mono (by decide)) (by rfl) T.g_odd T.k_odd T.b_odd .nil pass0 (pa_cons (pv 1) pa_nil)) pa_nil))) (pe_lc (own := [("again", 17)]) (g := gName 17) (tt := tYes) rfl sc_law.nd (pi_range1 rfl T.range (pa_cons pe_int pa_nil)) (blkOk_by (N := ["script", "loom", "turn", "die", "values", "nth", "value", "stood", "due", "told", "far", "below", "near", "one", "other", "sides", "six", "again", "number"]) (sc := defScope s_law) (by decide +kernel)) (fun _ _ _ _ _ => pg_name (i := 17) sc_law.nd rfl (Or.inl rfl)) (fun _ _ _ _ _ => pts_nil) (fun _ _ _ _ _ => (pe_call (T.ok_bent) (hr.mono (by decide)) (by rfl) T.g_bent T.k_bent T.b_bent .nil pass0 (pa_cons (pv 1) (pa_cons (pv 3) pa_nil)))))))
    (pss_one (ps_for PassesOwn.never rfl (pi_enum (by rfl) T.enumerate (pa_cons (pv 4) pa_nil)) (pg_tup rfl (pgs_cons (pg_name (i := 5) sc_law.nd rfl (Or.inl rfl)) (pgs_cons (pg_name (i := 6) sc_law.nd rfl (Or.inl rfl)) pgs_nil))) (pss_cons (ps_par (i := 7) (j := 8) rfl sc_law.nd rfl rfl (by decide) rfl rfl (pa_cons (pe_callB (call_reprX hG hr.units) (by rfl) T.z_repr (by decide +kernel) (pa_cons (pv 6) pa_nil)) (pa_cons (pe_callB (call_reprX hG hr.units) (by rfl) T.z_repr (by decide +kernel) (pa_cons (pe_call (T.ok_die_slip) hr (by rfl) T.g_die_slip T.k_die_slip T.b_die_slip .nil pass0 (pa_cons (pv 6) pa_nil)) pa_nil)) pa_nil)) (by rfl))
    (C8.pss_cut (ps_set (i := 9) sc_law.nd rfl (Or.inl rfl) (pe_ifExp (pt_cmpR op_eq (pv 5) (pv 2) (nomark _)) (pe_callK0 T.ok_die_error hr (by rfl) T.g_die_error T.k_die_error T.kb_die_error pass0 (pk_cons (pv 6) pk_nil)) (pe_call (T.ok_die_error) hr (by rfl) T.g_die_error T.k_die_error T.b_die_error .nil pass0 (pa_cons (pv 6) pa_nil))))
    (pss_one (ps_if (PW.pt (pw_or (pt_cmpR op_ne (pe_callB (call_reprX hG hr.units) (by rfl) T.z_repr (by decide +kernel) (pa_cons (pv 9) pa_nil)) (pv 8) (nomark _)) (pw_or (pt_cmpR op_ne (pe_callB (call_reprX hG hr.units) (by rfl) T.z_repr (by decide +kernel) (pa_cons (pe_call (T.ok_die_error) hr (by rfl) T.g_die_error T.k_die_error T.b_die_error .nil pass0 (pa_cons (pv 6) pa_nil)) pa_nil)) (pv 8) (nomark _)) (pw_or1 (pt_cmpR op_ne (pe_callB (call_reprX hG hr.units) (by rfl) T.z_repr (by decide +kernel) (pa_cons (pv 6) pa_nil)) (pv 7) (nomark _)))))) (pss_one (ps_ret pe_bl)) pss_nil)))))))))
    (pss_cons (ps_set (i := 10) sc_law.nd rfl (Or.inl rfl) (pe_callTy call_int_str (by rfl) T.z_int (by decide +kernel) (pa_cons (pe_op op_add_str pe_str (pe_op op_mulS pe_str (pe_call (T.ok_pick) (hr.mono (by decide)) (by rfl) T.g_pick T.k_pick T.b_pick .nil pass0 (pa_cons (pv 1) (pa_cons (pe_lst (pa_cons pe_int (pa_cons pe_int (pa_cons pe_int (pa_cons pe_int pa_nil))))) pa_nil))))) pa_nil)))
    (pss_cons (ps_set (i := 11) sc_law.nd rfl (Or.inl rfl) (pe_op op_add (pe_op op_mul pe_int (pv 10)) pe_int))
    (pss_cons (ps_set (i := 12) sc_law.nd rfl (Or.inl rfl) (pe_lst (pa_cons (pe_tup (pa_cons (pe_tup (pa_cons pe_int (pa_cons pe_int pa_nil))) (pa_cons (pe_tup (pa_cons (pv 10) (pa_cons (pv 11) pa_nil))) pa_nil))) (pa_cons (pe_tup (pa_cons (pe_tup (pa_cons pe_int (pa_cons pe_int pa_nil))) (pa_cons (pe_tup (pa_cons (pe_op op_add (pv 10) pe_int) (pa_cons (pv 11) pa_nil))) pa_nil))) (pa_cons (pe_tup (pa_cons (pe_tup (pa_cons (pv 10) (pa_cons (pv 11) pa_nil))) (pa_cons (pe_tup (pa_cons (pe_op op_add (pv 10) pe_int) (pa_cons (pv 11) pa_nil))) pa_nil))) pa_nil)))))
    (pss_cons (ps_for PassesOwn.never rfl (pi_list (pv 12)) (pg_tup rfl (pgs_cons (pg_name (i := 13) sc_law.nd rfl (Or.inl rfl)) (pgs_cons (pg_name (i := 14) sc_law.nd rfl (Or.inl rfl)) pgs_nil))) (pss_cons (ps_set (i := 15) sc_law.nd rfl (Or.inl rfl) (pe_tup (pa_cons (pe_tup (pa_cons pe_int (pa_cons (pv 13) pa_nil))) (pa_cons (pe_tup (pa_cons pe_int (pa_cons (pv 14) pa_nil))) pa_nil))))
    (pss_one (ps_if (pt_cmpR op_ne (pe_callB (call_reprX hG hr.units) (by rfl) T.z_repr (by decide +kernel) (pa_cons (pe_call (T.ok_die_error) hr (by rfl) T.g_die_error T.k_die_error T.b_die_error .nil pass0 (pa_cons (pe_tup (pa_cons pe_str (pa_cons (pv 15) pa_nil))) pa_nil)) pa_nil)) (pe_callB (call_reprX hG hr.units) (by rfl) T.z_repr (by decide +kernel) (pa_cons (pe_call (T.ok_die_slip) hr (by rfl) T.g_die_slip T.k_die_slip T.b_die_slip .nil pass0 (pa_cons (pe_tup (pa_cons pe_str (pa_cons (pv 15) pa_nil))) pa_nil)) pa_nil)) (nomark _)) (pss_one (ps_ret pe_bl)) pss_nil))))
    (pss_cons (ps_set (i := 16) sc_law.nd rfl (Or.inl rfl) (pe_tup (pa_cons pe_str (pa_cons (pe_callTy call_tuple_of (by rfl) T.z_tuple (by decide +kernel) (pa_cons (pe_lc (own := [("number", 18)]) (g := gName 18) (tt := tYes) rfl sc_law.nd (pi_range2 rfl T.range (pa_cons pe_int (pa_cons pe_int pa_nil))) (blkOk_by (N := ["script", "loom", "turn", "die", "values", "nth", "value", "stood", "due", "told", "far", "below", "near", "one", "other", "sides", "six", "again", "number"]) (sc := defScope s_law) (by decide +kernel)) (fun _ _ _ _ _ => pg_name (i := 18) sc_law.nd rfl (Or.inl rfl)) (fun _ _ _ _ _ => pts_nil) (fun _ _ _ _ _ => (pe_tup (pa_cons (pv 18) (pa_cons (pe_tup (pa_cons pe_int (pa_cons pe_int pa_nil))) pa_nil))))) pa_nil)) pa_nil))))
    (pss_one (ps_ret (pe_cmpR op_eq (pe_callB (call_reprX hG hr.units) (by rfl) T.z_repr (by decide +kernel) (pa_cons (pe_lst (pa_cons (pe_call (T.ok_die_error) hr (by rfl) T.g_die_error T.k_die_error T.b_die_error .nil pass0 (pa_cons (pv 16) pa_nil)) (pa_cons (pe_call (T.ok_die_error) hr (by rfl) T.g_die_error T.k_die_error T.b_die_error .nil pass0 (pa_cons (pe_tup (pa_cons pe_str (pa_cons (pe_op op_catS (pe_ix ix_tup (pv 16) pe_int (fun _ _ => rfl)) (pe_tup (pa_cons (pe_tup (pa_cons pe_int (pa_cons (pe_tup (pa_cons pe_int (pa_cons pe_int pa_nil))) pa_nil))) pa_nil))) pa_nil))) pa_nil)) pa_nil))) pa_nil)) (pe_callB (call_reprX hG hr.units) (by rfl) T.z_repr (by decide +kernel) (pa_cons (pe_lst (pa_cons pe_non (pa_cons pe_str pa_nil))) pa_nil)) (nomark _))))))))))), ?_⟩
    have z : ∀ n : Nat, n ≤ 100 → n ≤ sizeLine := fun n h => Nat.le_trans h (by decide)
    have s7 : ∀ {d : PyData}, Dt 700 8 d → d.showable = true ∧ d.shown.length ≤ sizeLine ∧ d.depth ≤ 60 := fun h => h.show (by decide) (by decide)
    have ss : ∀ d : PyData, (slipD d).showable = true ∧ (slipD d).shown.length ≤ sizeLine ∧ (slipD d).depth ≤ 60 := fun d => (slip_dt d).show (by decide) (by decide)
    refine ⟨_, rfl, a0, ns, rfl, hS, hlen, fun H0 L F _ hM _ _ => ?_⟩
    refine ⟨9, rfl, by decide, by decide, for_range (lo := 0) (n := 9) (fun i σ H' => Lm H' L F ∧ ∃ y2 y3 y4 y5 y6 y7 y8 y9 : Option V, σ = [some (.ref a0), some (.ref L), y2, y3, y4, y5, y6, y7, y8, y9, none, none, none, none, none, none, none, none, none]) ⟨hM, none, none, none, none, none, none, none, none, rfl⟩ ?_ ?_⟩
    · rintro i σ H1 hi ⟨hM1, y2, y3, y4, y5, y6, y7, y8, y9, rfl⟩
      refine ⟨_, rfl, L, F, rfl, hM1, fun H2 p2 d2 kp2 hM2 dx2 isd => ?_⟩
      refine ⟨_, rfl, _, rfl, L, F, rfl, hM2, fun H3 xo od kp3 hM3 dxo dto wo => ⟨z 2 (by decide), fun p3 hp3 => ?_⟩⟩
      have dx3 := dx_kp kp3 hM2 dx2
      have n3 := hM3.ne hp3
      have kp34 : Kp L F H3 (upd H3 p3 (.lst [.ref p2, xo])) := Kp.new hp3
      have hM4 : Lm (upd H3 p3 (.lst [.ref p2, xo])) L F := hM3.new hp3
      have e3 : (upd H3 p3 (.lst [.ref p2, xo])) p3 = some (.lst [.ref p2, xo]) := upd_same
      revert kp34 hM4 e3
      generalize upd H3 p3 (HO.lst [.ref p2, xo]) = H4
      intro kp34 hM4 e3
      have dx4 := dx_kp kp34 hM3 dx3
      have dxo4 := dx_kp kp34 hM3 (dx_zl dxo)
      refine ⟨3, rfl, by decide, by decide, fun D1 hD1 => ?_⟩
      have nD := hM4.ne hD1
      refine lc_it (walk_range (lo := 0) (n := 3)) (fun i H' => Kp L F H4 H' ∧ Lm H' L F ∧ ∃ (ys : List V) (es : List PyData), H' D1 = some (.lst ys) ∧ DxAll K (fun a => ZL L F a ∧ a ≠ D1) H' ys es ∧ ys.length = i ∧ ∀ e ∈ es, Dt 700 8 e ∧ WordOk e)
        ⟨Kp.new hD1, hM4.new hD1, [], [], upd_same, .nil, rfl, fun e he => nomatch he⟩ (fun _ _ _ _ => trivial) ?_ ?_
      · rintro j x H5 H6 hj ⟨kp5, hM5, ys, es, hY, dY, ly, hes⟩ ⟨rfl, rfl⟩
        refine ⟨rfl, yes_of ?_⟩
        refine ⟨_, rfl, _, rfl, L, F, .ref p2, d2, rfl, hM5, dx_kp kp5 hM4 dx4, isd, fun H7 r e kp7 hM7 dxe dte wke => ?_⟩
        have hY7 := kp7 _ _ nD.1 nD.2 hY
        refine ⟨ys, hY7, small1000 (by omega), kp_put (kp5.trans kp7) hD1, lm_put hM7 nD.1 nD.2, ys ++ [r], es ++ [e], upd_same, ?_, by rw [List.length_append, ly]; rfl, ?_⟩
        · have h1 : DxAll K (fun a => ZL L F a ∧ a ≠ D1) H7 ys es := dxAll_keep (fun _ _ e => kp7.sqT hM5 e) (fun _ _ z e => kp7 _ _ z.1.1 z.1.2 e) dY
          have h2 : Dx K (fun a => ZL L F a ∧ a ≠ D1) H7 r e := dx_monoL (fun a za => ⟨⟨za.1, za.2.1⟩, fun ea => by
            have := za.2.2
            rw [ea, hY] at this
            cases this⟩) dxe
          exact dxAll_upd hY7 (fun a za => za.2) (dxAll_app h1 (.cons h2 .nil))
        · intro e' he'
          rcases List.mem_append.mp he' with h | h
          · exact hes e' h
          · rw [List.mem_singleton.mp h]
            exact ⟨dte, wke⟩
      · rintro H5 ⟨kp5, hM5, ys, es, hY, dY, ly, hes⟩
        have e5 := kp5 _ _ n3.1 n3.2 e3
        refine ⟨p3, D1, _, _, rfl, rfl, e5, hY, (by rw [ly]; exact z 5 (by decide)), fun p6 hp6 => ?_⟩
        have all5 : DxAll K (ZL L F) H5 ([.ref p2, xo] ++ ys) ([d2, od] ++ es) := .cons (dx_kp kp5 hM4 dx4) (.cons (dx_kp kp5 hM4 dxo4) (dxAll_mono (fun _ _ _ z => z.1) dY))
        have dtA : ∀ e ∈ [d2, od] ++ es, Dt 700 8 e ∧ WordOk e := by
          intro e he
          rcases List.mem_append.mp he with h | h
          · rcases List.mem_cons.mp h with rfl | h
            · exact isdie_dt isd
            · rw [List.mem_singleton.mp h]
              exact ⟨dto.le (by decide) (by decide), wo⟩
          · exact hes e h
        have M6 := hM5.new (o := .lst ([.ref p2, xo] ++ ys)) hp6
        have e6 : (upd H5 p6 (.lst ([.ref p2, xo] ++ ys))) p6 = some (.lst ([.ref p2, xo] ++ ys)) := upd_same
        have all6 := dxAll_new (o := .lst ([.ref p2, xo] ++ ys)) hp6 all5
        revert M6 e6 all6
        generalize upd H5 p6 (HO.lst ([.ref p2, xo] ++ ys)) = G
        generalize ([.ref p2, xo] ++ ys : List V) = xs at *
        generalize [d2, od] ++ es = ds at *
        intro M6 e6 all6
        refine ⟨_, rfl, p6, xs, rfl, SqL.of e6, for_it walk_enum (fun j σ H' => Same G H' ∧ ∃ y5 y6 y7 y8 y9 : Option V, σ = [some (.ref a0), some (.ref L), some (.int (0 + (i : Int))), some (.ref p2), some (.ref p6), y5, y6, y7, y8, y9, none, none, none, none, none, none, none, none, none]) ⟨Same.refl _, y5, y6, y7, y8, y9, rfl⟩ (fun j σ H' _ z => SqL.of (z.1 _ _ e6)) ?_ ?_⟩
        · rintro j x σ H7 H8 hj ⟨sm7, w5, w6, w7, w8, w9, rfl⟩ ⟨t, x1, v, rfl, ht, rfl, h1, h2⟩
          cases h1
          obtain ⟨d, hd, dv⟩ := dxAll_get all6 h2
          obtain ⟨dtd, wd⟩ := dtA d (List.mem_of_getElem? hd)
          have sm8 := sm7.trans (same_new (o := .tup [.int (j : Nat), v]) ht)
          have dv8 := dx_same sm8 dv
          have et : (upd H7 t (.tup [.int (j : Nat), v])) t = some (.tup [.int (j : Nat), v]) := upd_same
          revert sm8 dv8 et
          generalize upd H7 t (HO.tup [.int (j : Nat), v]) = H8
          intro sm8 dv8 et
          obtain ⟨sh1, sh2, sh3⟩ := s7 dtd
          obtain ⟨sl1, sl2, sl3⟩ := ss d
          refine ⟨t, _, rfl, SqT.of et, rfl, _, _, rfl, _, _, rfl, rfl, ?_⟩
          refine ⟨_, rfl, v, d, _, rfl, dv8, sh1, sh2, sh3, _, rfl, ZL L F, v, d, rfl, dv8, dtd.fx, fun H9 r sm9 dr => ⟨r, slipD d, NoZ, rfl, dr, sl1, sl2, sl3, _, _, rfl, ?_⟩⟩
          have dv9 := dx_same sm9 dv8
          refine ⟨fun σ' H' => ∃ r : V, σ' = [some (.ref a0), some (.ref L), some (.int (0 + (i : Int))), some (.ref p2), some (.ref p6), some (.int (j : Nat)), some v, some (.str d.shown), some (.str (slipD d).shown), some r, none, none, none, none, none, none, none, none, none] ∧ Same H9 H' ∧ Dx K NoZ H' r (slipD d), ?_, ?_⟩
          · refine ⟨_, rfl, _, rfl, rfl, _, rfl, ite2 (fun _ => ?_) (fun _ => ?_)⟩
            · exact ⟨_, rfl, rfl, ZL L F, v, d, rfl, dv9, dtd.fx, wd, fun H10 r2 sm10 dr2 => ⟨r2, rfl, sm10, dr2⟩⟩
            · exact ⟨_, rfl, ZL L F, v, d, rfl, dv9, dtd.fx, wd, fun H10 r2 sm10 dr2 => ⟨r2, rfl, sm10, dr2⟩⟩
          rintro σ' H10 ⟨r2, rfl, sm10, dr2⟩
          have dv10 := dx_same sm10 dv9
          refine ⟨_, rfl, r2, slipD d, NoZ, rfl, dr2, sl1, sl2, sl3, _, rfl, rfl, _, rfl, ite2 (fun y => absurd rfl (vne y)) (fun _ => ?_)⟩
          refine ⟨_, rfl, ZL L F, v, d, rfl, dv10, dtd.fx, wd, fun H11 r3 sm11 dr3 => ⟨r3, slipD d, NoZ, rfl, dr3, sl1, sl2, sl3, _, rfl, rfl, _, rfl, ite2 (fun y => absurd rfl (vne y)) (fun _ => ?_)⟩⟩
          refine ⟨_, rfl, v, d, _, rfl, dx_same sm11 dv10, sh1, sh2, sh3, _, rfl, rfl, _, rfl, ite2 (fun y => absurd rfl (vne y)) (fun _ => ?_)⟩
          exact ⟨((sm8.trans sm9).trans sm10).trans sm11, _, _, _, _, _, rfl⟩
        · rintro σ H7 ⟨sm7, w5, w6, w7, w8, w9, rfl⟩
          exact ⟨M6.same sm7, _, _, _, _, _, _, _, _, rfl⟩
    · rintro σ H1 ⟨hM1, y2, y3, y4, y5, y6, y7, y8, y9, rfl⟩
      refine ⟨_, rfl, z 4 (by decide), fun p1 h1 => ?_⟩
      have n1 := hM1.ne h1
      refine ⟨L, F, p1, _, rfl, hM1.new h1, SqL.of upd_same, n1.1, n1.2, (by show 0 < 4; decide), (by show 4 < 1073741824; decide), fun H2 i0 x kp2 hM2 hx => ?_⟩
      obtain ⟨k, rfl, hk⟩ : ∃ k : Nat, x = .int (k : Int) ∧ (k = 9 ∨ k = 20 ∨ k = 60 ∨ k = 398) := by
        have hx' := List.mem_of_getElem? hx
        simp only [List.mem_cons, List.not_mem_nil, or_false] at hx'
        rcases hx' with rfl | rfl | rfl | rfl
        · exact ⟨9, rfl, by decide⟩
        · exact ⟨20, rfl, by decide⟩
        · exact ⟨60, rfl, by decide⟩
        · exact ⟨398, rfl, by decide⟩
      obtain ⟨f1, f2, f3, f4⟩ := far_text hk
      have fl := far_lt hk
      refine ⟨_, _, rfl, rfl, f1, _, _, rfl, rfl, f2, _, _, rfl, f3, f4, ?_⟩
      generalize (10 ^ k : Nat) = N at *
      have wide : ∀ c : Int, 0 ≤ c → c ≤ 2 * (N : Int) + 1 → c.natAbs < 2 ^ 1400 := fun c h0 h1 => by omega
      refine ⟨_, rfl, _, _, rfl, rfl, .inl ⟨by decide, by decide⟩, _, _, rfl, rfl, ?_⟩
      have c0 : Kp L F H2 H2 := fun _ _ _ _ e => e
      refine ⟨z 2 (by decide), fun p1 h1 => ?_⟩
      generalize g1 : upd H2 p1 (HO.tup [V.int 1, V.int 2]) = G1
      obtain ⟨M1, j1, e1, l1, f1⟩ := al_eq g1 hM2 h1
      clear g1
      have c1 := c0.trans j1
      refine ⟨_, rfl, _, rfl, z 2 (by decide), fun p2 h2 => ?_⟩
      generalize g2 : upd G1 p2 (HO.tup [V.int (N : Int), V.int (2 * (N : Int) + 1)]) = G2
      obtain ⟨M2, j2, e2, l2, f2⟩ := al_eq g2 M1 h2
      clear g2
      have c2 := c1.trans j2
      refine ⟨z 2 (by decide), fun p3 h3 => ?_⟩
      generalize g3 : upd G2 p3 (HO.tup [V.ref p1, V.ref p2]) = G3
      obtain ⟨M3, j3, e3, l3, f3⟩ := al_eq g3 M2 h3
      clear g3
      have c3 := c2.trans j3
      refine ⟨z 2 (by decide), fun p4 h4 => ?_⟩
      generalize g4 : upd G3 p4 (HO.tup [V.int 1, V.int 2]) = G4
      obtain ⟨M4, j4, e4, l4, f4⟩ := al_eq g4 M3 h4
      clear g4
      have c4 := c3.trans j4
      refine ⟨_, rfl, _, _, rfl, rfl, _, rfl, z 2 (by decide), fun p5 h5 => ?_⟩
      generalize g5 : upd G4 p5 (HO.tup [V.int ((N : Int) + 1), V.int (2 * (N : Int) + 1)]) = G5
      obtain ⟨M5, j5, e5, l5, f5⟩ := al_eq g5 M4 h5
      clear g5
      have c5 := c4.trans j5
      refine ⟨z 2 (by decide), fun p6 h6 => ?_⟩
      generalize g6 : upd G5 p6 (HO.tup [V.ref p4, V.ref p5]) = G6
      obtain ⟨M6, j6, e6, l6, f6⟩ := al_eq g6 M5 h6
      clear g6
      have c6 := c5.trans j6
      refine ⟨_, rfl, _, rfl, z 2 (by decide), fun p7 h7 => ?_⟩
      generalize g7 : upd G6 p7 (HO.tup [V.int (N : Int), V.int (2 * (N : Int) + 1)]) = G7
      obtain ⟨M7, j7, e7, l7, f7⟩ := al_eq g7 M6 h7
      clear g7
      have c7 := c6.trans j7
      refine ⟨_, rfl, _, _, rfl, rfl, _, rfl, z 2 (by decide), fun p8 h8 => ?_⟩
      generalize g8 : upd G7 p8 (HO.tup [V.int ((N : Int) + 1), V.int (2 * (N : Int) + 1)]) = G8
      obtain ⟨M8, j8, e8, l8, f8⟩ := al_eq g8 M7 h8
      clear g8
      have c8 := c7.trans j8
      refine ⟨z 2 (by decide), fun p9 h9 => ?_⟩
      generalize g9 : upd G8 p9 (HO.tup [V.ref p7, V.ref p8]) = G9
      obtain ⟨M9, j9, e9, l9, f9⟩ := al_eq g9 M8 h9
      clear g9
      have c9 := c8.trans j9
      refine ⟨z 3 (by decide), fun p10 h10 => ?_⟩
      generalize g10 : upd G9 p10 (HO.lst [V.ref p3, V.ref p6, V.ref p9]) = G10
      obtain ⟨M10, j10, e10, l10, f10⟩ := al_eq g10 M9 h10
      clear g10
      have c10 := c9.trans j10

      have k8 : Kp L F G9 G10 := j10
      have r9 := k8 _ _ l9 f9 e9
      have k7 := j9.trans k8
      have r8 := k7 _ _ l8 f8 e8
      have k6 := j8.trans k7
      have r7 := k6 _ _ l7 f7 e7
      have k5 := j7.trans k6
      have r6 := k5 _ _ l6 f6 e6
      have k4 := j6.trans k5
      have r5 := k4 _ _ l5 f5 e5
      have k3 := j5.trans k4
      have r4 := k3 _ _ l4 f4 e4
      have k2 := j4.trans k3
      have r3 := k2 _ _ l3 f3 e3
      have k1 := j3.trans k2
      have r2 := k1 _ _ l2 f2 e2
      have k0 := j2.trans k1
      have r1 := k0 _ _ l1 f1 e1
      have one : (1 : Int).natAbs < 2 ^ 1400 := Nat.one_lt_pow (by decide) (by decide)
      have two : (2 : Int).natAbs < 2 ^ 1400 := by show 2 < 2 ^ 1400; decide +kernel
      have items : ∀ x ∈ ([.ref p3, .ref p6, .ref p9] : List V), ∃ (t u w : Addr) (a b c d : Int), x = .ref t ∧ SqT K G10 t [.ref u, .ref w] ∧ SqT K G10 u [.int a, .int b] ∧ SqT K G10 w [.int c, .int d] ∧
          a.natAbs < 2 ^ 1400 ∧ b.natAbs < 2 ^ 1400 ∧ c.natAbs < 2 ^ 1400 ∧ d.natAbs < 2 ^ 1400 := by
        intro x hx
        simp only [List.mem_cons, List.not_mem_nil, or_false] at hx
        rcases hx with rfl | rfl | rfl
        · exact ⟨p3, p1, p2, _, _, _, _, rfl, SqT.of r3, SqT.of r1, SqT.of r2, one, two, wide _ (by omega) (by omega), wide _ (by omega) (by omega)⟩
        · exact ⟨p6, p4, p5, _, _, _, _, rfl, SqT.of r6, SqT.of r4, SqT.of r5, one, two, by omega, wide _ (by omega) (by omega)⟩
        · exact ⟨p9, p7, p8, _, _, _, _, rfl, SqT.of r9, SqT.of r7, SqT.of r8, wide _ (by omega) (by omega), wide _ (by omega) (by omega), by omega, wide _ (by omega) (by omega)⟩
      clear r1 r2 r3 r4 r5 r6 r7 r8 r9
      refine ⟨_, rfl, p10, rfl, ⟨_, SqL.of e10⟩, for_it walk_list (fun j σ H' => Same G10 H' ∧ ∃ y2 y3 y4 y5 y6 y7 y8 y9 y10 y11 y12 y13 y14 y15 : Option V, σ = [some (.ref a0), some (.ref L), y2, y3, y4, y5, y6, y7, y8, y9, y10, y11, y12, y13, y14, y15, none, none, none]) ⟨Same.refl _, _, _, _, _, _, _, _, _, _, _, _, _, _, _, rfl⟩ (fun j σ H' _ z => SqL.of (z.1 _ _ e10)) ?_ ?_⟩
      · rintro j x σ H3 H4 hj ⟨sm3, w2, w3, w4, w5, w6, w7, w8, w9, w10, w11, w12, w13, w14, w15, rfl⟩ ⟨rfl, hx⟩
        obtain ⟨t, u, v, a, b, c, d, rfl, ht, hu1, hw1, ba, bb, bc, bd⟩ := items x (List.mem_of_getElem? hx)
        have ht3 := Ev.Same.seqT sm3 ht
        refine ⟨t, _, rfl, ht3, rfl, _, _, rfl, _, _, rfl, rfl, ?_⟩
        refine ⟨_, rfl, z 2 (by decide), fun t1 m1 => ⟨_, rfl, z 2 (by decide), fun t2 m2 => ⟨z 2 (by decide), fun t3 m3 => ?_⟩⟩⟩
        have s1 := same_new (o := .tup [.int 0, .ref u]) m1
        have s2 := same_new (o := .tup [.int 1, .ref v]) m2
        have s3 := same_new (o := .tup [.ref t1, .ref t2]) m3
        refine ⟨_, rfl, z 2 (by decide), fun t4 m4 => ?_⟩
        have s4 := same_new (o := .tup [.str "die", .ref t3]) m4
        have s34 := s3.trans s4
        have sA := ((sm3.trans s1).trans s2).trans s34
        have dD : Dx K NoZ _ (.ref t3) (.tuple [sideD 0 a b, sideD 1 c d]) := .tup (SqT.of (s4 _ _ upd_same)) (.cons (.tup (SqT.of (s34 _ _ (s2 _ _ upd_same))) (.cons (.int _) (.cons (prD_dx (Ev.Same.seqT sA hu1)) .nil))) (.cons (.tup (SqT.of (s34 _ _ upd_same)) (.cons (.int _) (.cons (prD_dx (Ev.Same.seqT sA hw1)) .nil))) .nil))
        have dtD : Dt 700 8 (.tuple [.str "die", .tuple [sideD 0 a b, sideD 1 c d]]) :=
          (Dts.tuple (Dts.cons (dt_str (by decide +kernel)) (Dts.cons (Dts.tuple (Dts.cons (Dts.tuple (Dts.cons (dt_small (by decide)) (Dts.cons (Dts.tuple (Dts.cons (dt_int ba) (Dts.cons (dt_int bb) Dts.nil))) Dts.nil))) (Dts.cons (Dts.tuple (Dts.cons (dt_small (by decide)) (Dts.cons (Dts.tuple (Dts.cons (dt_int bc) (Dts.cons (dt_int bd) Dts.nil))) Dts.nil))) Dts.nil))) Dts.nil))).le (by decide +kernel) (by decide)
        generalize hDD : PyData.tuple [.str "die", .tuple [sideD 0 a b, sideD 1 c d]] = DD at dtD
        obtain ⟨sl1, sl2, sl3⟩ := ss DD
        have wD : WordOk DD := by rw [← hDD]; exact word_die _
        refine ⟨NoZ, _, DD, rfl, by rw [← hDD]; exact .tup (SqT.of upd_same) (.cons (.str _) (.cons dD .nil)), dtD.fx, wD, fun H9 r sm9 dr => ⟨r, slipD DD, NoZ, rfl, dr, sl1, sl2, sl3, ?_⟩⟩
        refine ⟨_, rfl, z 2 (by decide), fun t5 m5 => ?_⟩
        have s5 := same_new (o := .tup [.str "die", .ref t3]) m5
        have dD5 := dx_same (sm9.trans s5) dD
        refine ⟨NoZ, _, DD, rfl, by rw [← hDD]; exact .tup (SqT.of upd_same) (.cons (.str _) (.cons dD5 .nil)), dtD.fx, fun H10 r2 sm10 dr2 => ⟨r2, slipD DD, NoZ, rfl, dr2, sl1, sl2, sl3, rfl, _, rfl, ite2 (fun y => absurd rfl (vne y)) (fun _ => ?_)⟩⟩
        exact ⟨sA.trans ((sm9.trans s5).trans sm10), _, _, _, _, _, _, _, _, _, _, _, _, _, _, rfl⟩
      · rintro σ H3 ⟨sm3, w2, w3, w4, w5, w6, w7, w8, w9, w10, w11, w12, w13, w14, w15, rfl⟩
        refine ⟨4, 10, rfl, ⟨by decide, by decide, by decide, by decide⟩, fun D1 hD1 => ?_⟩
        refine lc_it (walk_range (lo := 4) (n := ((10 : Int) - 4).toNat)) (fun i H' => Same H3 H' ∧ ∃ ys : List V, H' D1 = some (.lst ys) ∧ ys.length = i ∧ DxAll K NoZ H' ys ((List.range i).map fun (j : Nat) => sideD (4 + (j : Int)) 1 6)) ⟨same_new hD1, [], upd_same, rfl, .nil⟩ (fun _ _ _ _ => trivial) ?_ ?_
        · rintro i x H7 H8 hi ⟨sm, ys, hY, ly, dY⟩ ⟨rfl, rfl⟩
          refine ⟨rfl, yes_of ?_⟩
          refine ⟨_, rfl, z 2 (by decide), fun p8 hp8 => ⟨z 2 (by decide), fun p9 hp9 => ?_⟩⟩
          have sm8 := same_new (o := .tup [.int 1, .int 6]) hp8
          have sm9 := same_new (o := .tup [.int (4 + (i : Int)), .ref p8]) hp9
          have hi' : i < 6 := hi
          refine ⟨ys, sm9 _ _ (sm8 _ _ hY), small1000 (by omega), same_put ((sm.trans sm8).trans sm9) hD1, ys ++ [.ref p9], upd_same, by rw [List.length_append, ly]; rfl, ?_⟩
          rw [List.range_succ, List.map_append]
          refine dxAll_upd (sm9 _ _ (sm8 _ _ hY)) (fun _ z => z.elim) (dxAll_app (dxAll_same (sm8.trans sm9) dY) (.cons ?_ .nil))
          exact .tup (SqT.of upd_same) (.cons (.int _) (.cons (.tup (xs := [.int 1, .int 6]) (SqT.of (sm9 _ _ upd_same)) (.cons (.int _) (.cons (.int _) .nil))) .nil))
        · rintro H7 ⟨sm, ys, hY, ly, dY⟩
          have ly6 : ys.length = 6 := ly
          have dY6 : DxAll K NoZ H7 ys sixL := dY
          refine ⟨D1, ys, rfl, .inl ⟨SqL.of hY, fun p9 hp9 => ⟨z 2 (by decide), fun p10 hp10 => ?_⟩⟩⟩
          have sm9 := same_new (o := .tup ys) hp9
          have sm10 := same_new (o := .tup [.str "die", .ref p9]) hp10
          have dA := dxAll_same (sm9.trans sm10) dY6
          have e9 := sm10 _ _ (upd_same (H := H7) (a := p9) (o := .tup ys))
          have e10 : (upd (upd H7 p9 (.tup ys)) p10 (.tup [.str "die", .ref p9])) p10 = some (.tup [.str "die", .ref p9]) := upd_same
          revert dA e9 e10
          generalize upd (upd H7 p9 (HO.tup ys)) p10 (HO.tup [.str "die", .ref p9]) = G
          intro dA e9 e10
          refine ⟨_, rfl, NoZ, .ref p10, sixD, rfl, .tup (SqT.of e10) (.cons (.str _) (.cons (.tup (SqT.of e9) dA) .nil)), (by decide +kernel), word_die _, fun H11 r1 sm11 dr1 => ?_⟩
          rw [six_slip] at dr1
          have er1 := dx_none dr1
          subst er1
          have e9' := sm11 _ _ e9
          have e10' := sm11 _ _ e10
          have dA' := dxAll_same sm11 dA
          refine ⟨_, rfl, p10, _, _, _, rfl, rfl, SqT.of e10', ix1, ?_⟩
          refine ⟨z 2 (by decide), fun t1 m1 => ⟨z 2 (by decide), fun t2 m2 => ⟨z 1 (by decide), fun t3 m3 => ?_⟩⟩⟩
          have s1 := same_new (o := .tup [.int 1, .int 6]) m1
          have s2 := same_new (o := .tup [.int 9, .ref t1]) m2
          have s3 := same_new (o := .tup [.ref t2]) m3
          refine ⟨p9, t3, ys, _, rfl, rfl, SqT.of (s3 _ _ (s2 _ _ (s1 _ _ e9'))), SqT.of upd_same, (by rw [ly6]; exact z 7 (by decide)), fun H12 p12 sm12 h12 => ⟨z 2 (by decide), fun t5 m5 => ?_⟩⟩
          have s5 := same_new (o := .tup [.str "die", .ref p12]) m5
          have s25 := sm12.trans s5
          have last : Dx K NoZ _ (.ref t2) (sideD 9 1 6) := .tup (SqT.of (s25 _ _ (s3 _ _ upd_same))) (.cons (.int _) (.cons (.tup (xs := [.int 1, .int 6]) (SqT.of (s25 _ _ (s3 _ _ (s2 _ _ upd_same)))) (.cons (.int _) (.cons (.int _) .nil))) .nil))
          have dB := dxAll_app (dxAll_same ((s1.trans s2).trans (s3.trans s25)) dA') (.cons last .nil)
          refine ⟨NoZ, .ref t5, sevenD, rfl, .tup (SqT.of upd_same) (.cons (.str _) (.cons (.tup (Ev.Same.seqT s5 h12) dB) .nil)), (by decide +kernel), word_die _, fun H13 r2 sm13 dr2 => ?_⟩
          rw [seven_slip] at dr2
          have er2 := dx_str dr2
          subst er2
          have dtl : Dt 700 8 (.list [.none, .str "form"]) := ⟨by decide +kernel, by decide +kernel, by decide +kernel⟩
          obtain ⟨sh1, sh2, sh3⟩ := s7 dtl
          refine ⟨z 2 (by decide), fun t6 m6 => ⟨_, .list [.none, .str "form"], fun a => a = t6, rfl, .lst upd_same rfl (.cons .non (.cons (.str _) .nil)), sh1, sh2, sh3, ?_⟩⟩
          refine ⟨z 2 (by decide), fun t7 m7 => ⟨_, .list [.none, .str "form"], fun a => a = t7, rfl, .lst upd_same rfl (.cons .non (.cons (.str _) .nil)), sh1, sh2, sh3, rfl, ?_⟩⟩
          rw [decide_eq_true rfl]
          exact q _
end
end Ev

set_option exponentiation.threshold 256
namespace Ev
open PySem PySem.Spec PyProof.Rows L2
theorem all_mk {l : PySem.W.OpenLaw} {w : World} {K : PySem.W.Frag} {h : Heap} {mg : Str → Option Value} {fa : Addr}
    (X : K.In h) (G : h.Ns mainGlobals mg) (hfa : mg "law" = some (.ref fa))
    {f0 : Addr} {od0 an0 : Option Addr} {sl0 : Array (Option Value)} {oc0 kV0 dc0 pm0 cd0 ct0 : Value}
    (a0 : PySem.W.nsIn K mainGlobals "die_error" = some (some (.ref f0)))
    (l0 : K.lookup f0 = some ⟨oc0, od0, .func (PySem.W.fnOf "die_error" "die_error" (defArgs s_die_error) (defBody s_die_error) (defScope s_die_error) .none kV0 dc0 pm0 an0 cd0 ct0), sl0⟩)
    (c0 : PySem.W.codeIn K cd0 "die_error" = true)
    (k0 : PySem.W.keepIn K (.ref f0) = true)
    {f1 : Addr} {od1 an1 : Option Addr} {sl1 : Array (Option Value)} {oc1 kV1 dc1 pm1 cd1 ct1 : Value}
    (a1 : PySem.W.nsIn K mainGlobals "is_integer" = some (some (.ref f1)))
    (l1 : K.lookup f1 = some ⟨oc1, od1, .func (PySem.W.fnOf "is_integer" "is_integer" (defArgs s_is_integer) (defBody s_is_integer) (defScope s_is_integer) .none kV1 dc1 pm1 an1 cd1 ct1), sl1⟩)
    (c1 : PySem.W.codeIn K cd1 "is_integer" = true)
    (k1 : PySem.W.keepIn K (.ref f1) = true)
    {f2 : Addr} {od2 an2 : Option Addr} {sl2 : Array (Option Value)} {oc2 kV2 dc2 pm2 cd2 ct2 : Value}
    (a2 : PySem.W.nsIn K mainGlobals "is_within" = some (some (.ref f2)))
    (l2 : K.lookup f2 = some ⟨oc2, od2, .func (PySem.W.fnOf "is_within" "is_within" (defArgs s_is_within) (defBody s_is_within) (defScope s_is_within) .none kV2 dc2 pm2 an2 cd2 ct2), sl2⟩)
    (c2 : PySem.W.codeIn K cd2 "is_within" = true)
    (k2 : PySem.W.keepIn K (.ref f2) = true)
    {f3 : Addr} {od3 an3 : Option Addr} {sl3 : Array (Option Value)} {oc3 kV3 dc3 pm3 cd3 ct3 : Value}
    (a3 : PySem.W.nsIn K mainGlobals "is_fraction" = some (some (.ref f3)))
    (l3 : K.lookup f3 = some ⟨oc3, od3, .func (PySem.W.fnOf "is_fraction" "is_fraction" (defArgs s_is_fraction) (defBody s_is_fraction) (defScope s_is_fraction) .none kV3 dc3 pm3 an3 cd3 ct3), sl3⟩)
    (c3 : PySem.W.codeIn K cd3 "is_fraction" = true)
    (k3 : PySem.W.keepIn K (.ref f3) = true)
    {f4 : Addr} {od4 an4 : Option Addr} {sl4 : Array (Option Value)} {oc4 kV4 dc4 pm4 cd4 ct4 : Value}
    (a4 : PySem.W.nsIn K mainGlobals "is_chance" = some (some (.ref f4)))
    (l4 : K.lookup f4 = some ⟨oc4, od4, .func (PySem.W.fnOf "is_chance" "is_chance" (defArgs s_is_chance) (defBody s_is_chance) (defScope s_is_chance) .none kV4 dc4 pm4 an4 cd4 ct4), sl4⟩)
    (c4 : PySem.W.codeIn K cd4 "is_chance" = true)
    (k4 : PySem.W.keepIn K (.ref f4) = true)
    {f5 : Addr} {od5 an5 : Option Addr} {sl5 : Array (Option Value)} {oc5 kV5 dc5 pm5 cd5 ct5 : Value}
    (a5 : PySem.W.nsIn K mainGlobals "_sides_error" = some (some (.ref f5)))
    (l5 : K.lookup f5 = some ⟨oc5, od5, .func (PySem.W.fnOf "_sides_error" "_sides_error" (defArgs s_sides_error) (defBody s_sides_error) (defScope s_sides_error) .none kV5 dc5 pm5 an5 cd5 ct5), sl5⟩)
    (c5 : PySem.W.codeIn K cd5 "_sides_error" = true)
    (k5 : PySem.W.keepIn K (.ref f5) = true)
    {f6 : Addr} {od6 an6 : Option Addr} {sl6 : Array (Option Value)} {oc6 kV6 dc6 pm6 cd6 ct6 : Value}
    (a6 : PySem.W.nsIn K mainGlobals "_is_side" = some (some (.ref f6)))
    (l6 : K.lookup f6 = some ⟨oc6, od6, .func (PySem.W.fnOf "_is_side" "_is_side" (defArgs s_is_side) (defBody s_is_side) (defScope s_is_side) .none kV6 dc6 pm6 an6 cd6 ct6), sl6⟩)
    (c6 : PySem.W.codeIn K cd6 "_is_side" = true)
    (k6 : PySem.W.keepIn K (.ref f6) = true)
    {f7 : Addr} {od7 an7 : Option Addr} {sl7 : Array (Option Value)} {oc7 kV7 dc7 pm7 cd7 ct7 : Value}
    (a7 : PySem.W.nsIn K mainGlobals "side_weights" = some (some (.ref f7)))
    (l7 : K.lookup f7 = some ⟨oc7, od7, .func (PySem.W.fnOf "side_weights" "side_weights" (defArgs s_side_weights) (defBody s_side_weights) (defScope s_side_weights) .none kV7 dc7 pm7 an7 cd7 ct7), sl7⟩)
    (c7 : PySem.W.codeIn K cd7 "side_weights" = true)
    (k7 : PySem.W.keepIn K (.ref f7) = true)
    {f8 : Addr} {od8 an8 : Option Addr} {sl8 : Array (Option Value)} {oc8 kV8 dc8 pm8 cd8 ct8 : Value}
    (a8 : PySem.W.nsIn K mainGlobals "_law_loom" = some (some (.ref f8)))
    (l8 : K.lookup f8 = some ⟨oc8, od8, .func (PySem.W.fnOf "_law_loom" "_law_loom" (defArgs s_loom) (defBody s_loom) (defScope s_loom) .none kV8 dc8 pm8 an8 cd8 ct8), sl8⟩)
    (c8 : PySem.W.codeIn K cd8 "_law_loom" = true)
    (k8 : PySem.W.keepIn K (.ref f8) = true)
    {f9 : Addr} {od9 an9 : Option Addr} {sl9 : Array (Option Value)} {oc9 kV9 dc9 pm9 cd9 ct9 : Value}
    (a9 : PySem.W.nsIn K mainGlobals "_law_draw" = some (some (.ref f9)))
    (l9 : K.lookup f9 = some ⟨oc9, od9, .func (PySem.W.fnOf "_law_draw" "_law_draw" (defArgs s_draw) (defBody s_draw) (defScope s_draw) .none kV9 dc9 pm9 an9 cd9 ct9), sl9⟩)
    (c9 : PySem.W.codeIn K cd9 "_law_draw" = true)
    (k9 : PySem.W.keepIn K (.ref f9) = true)
    {f10 : Addr} {od10 an10 : Option Addr} {sl10 : Array (Option Value)} {oc10 kV10 dc10 pm10 cd10 ct10 : Value}
    (a10 : PySem.W.nsIn K mainGlobals "_law_pick" = some (some (.ref f10)))
    (l10 : K.lookup f10 = some ⟨oc10, od10, .func (PySem.W.fnOf "_law_pick" "_law_pick" (defArgs s_pick) (defBody s_pick) (defScope s_pick) .none kV10 dc10 pm10 an10 cd10 ct10), sl10⟩)
    (c10 : PySem.W.codeIn K cd10 "_law_pick" = true)
    (k10 : PySem.W.keepIn K (.ref f10) = true)
    {f11 : Addr} {od11 an11 : Option Addr} {sl11 : Array (Option Value)} {oc11 kV11 dc11 pm11 cd11 ct11 : Value}
    (a11 : PySem.W.nsIn K mainGlobals "_law_mixed" = some (some (.ref f11)))
    (l11 : K.lookup f11 = some ⟨oc11, od11, .func (PySem.W.fnOf "_law_mixed" "_law_mixed" (defArgs s_mixed) (defBody s_mixed) (defScope s_mixed) .none kV11 dc11 pm11 an11 cd11 ct11), sl11⟩)
    (c11 : PySem.W.codeIn K cd11 "_law_mixed" = true)
    (k11 : PySem.W.keepIn K (.ref f11) = true)
    {f12 : Addr} {od12 an12 : Option Addr} {sl12 : Array (Option Value)} {oc12 kV12 dc12 pm12 cd12 ct12 : Value}
    (a12 : PySem.W.nsIn K mainGlobals "_law_gcd" = some (some (.ref f12)))
    (l12 : K.lookup f12 = some ⟨oc12, od12, .func (PySem.W.fnOf "_law_gcd" "_law_gcd" (defArgs s_gcd) (defBody s_gcd) (defScope s_gcd) .none kV12 dc12 pm12 an12 cd12 ct12), sl12⟩)
    (c12 : PySem.W.codeIn K cd12 "_law_gcd" = true)
    (k12 : PySem.W.keepIn K (.ref f12) = true)
    {f13 : Addr} {od13 an13 : Option Addr} {sl13 : Array (Option Value)} {oc13 kV13 dc13 pm13 cd13 ct13 : Value}
    (a13 : PySem.W.nsIn K mainGlobals "_law_frac" = some (some (.ref f13)))
    (l13 : K.lookup f13 = some ⟨oc13, od13, .func (PySem.W.fnOf "_law_frac" "_law_frac" (defArgs s_frac) (defBody s_frac) (defScope s_frac) .none kV13 dc13 pm13 an13 cd13 ct13), sl13⟩)
    (c13 : PySem.W.codeIn K cd13 "_law_frac" = true)
    (k13 : PySem.W.keepIn K (.ref f13) = true)
    {f14 : Addr} {od14 an14 : Option Addr} {sl14 : Array (Option Value)} {oc14 kV14 dc14 pm14 cd14 ct14 : Value}
    (a14 : PySem.W.nsIn K mainGlobals "_law_plus" = some (some (.ref f14)))
    (l14 : K.lookup f14 = some ⟨oc14, od14, .func (PySem.W.fnOf "_law_plus" "_law_plus" (defArgs s_plus) (defBody s_plus) (defScope s_plus) .none kV14 dc14 pm14 an14 cd14 ct14), sl14⟩)
    (c14 : PySem.W.codeIn K cd14 "_law_plus" = true)
    (k14 : PySem.W.keepIn K (.ref f14) = true)
    {f15 : Addr} {od15 an15 : Option Addr} {sl15 : Array (Option Value)} {oc15 kV15 dc15 pm15 cd15 ct15 : Value}
    (a15 : PySem.W.nsIn K mainGlobals "_law_share" = some (some (.ref f15)))
    (l15 : K.lookup f15 = some ⟨oc15, od15, .func (PySem.W.fnOf "_law_share" "_law_share" (defArgs s_share) (defBody s_share) (defScope s_share) .none kV15 dc15 pm15 an15 cd15 ct15), sl15⟩)
    (c15 : PySem.W.codeIn K cd15 "_law_share" = true)
    (k15 : PySem.W.keepIn K (.ref f15) = true)
    {f16 : Addr} {od16 an16 : Option Addr} {sl16 : Array (Option Value)} {oc16 kV16 dc16 pm16 cd16 ct16 : Value}
    (a16 : PySem.W.nsIn K mainGlobals "_law_die" = some (some (.ref f16)))
    (l16 : K.lookup f16 = some ⟨oc16, od16, .func (PySem.W.fnOf "_law_die" "_law_die" (defArgs s_die) (defBody s_die) (defScope s_die) .none kV16 dc16 pm16 an16 cd16 ct16), sl16⟩)
    (c16 : PySem.W.codeIn K cd16 "_law_die" = true)
    (k16 : PySem.W.keepIn K (.ref f16) = true)
    {f17 : Addr} {od17 an17 : Option Addr} {sl17 : Array (Option Value)} {oc17 kV17 dc17 pm17 cd17 ct17 : Value}
    (a17 : PySem.W.nsIn K mainGlobals "_law_odd" = some (some (.ref f17)))
    (l17 : K.lookup f17 = some ⟨oc17, od17, .func (PySem.W.fnOf "_law_odd" "_law_odd" (defArgs s_odd) (defBody s_odd) (defScope s_odd) .none kV17 dc17 pm17 an17 cd17 ct17), sl17⟩)
    (c17 : PySem.W.codeIn K cd17 "_law_odd" = true)
    (k17 : PySem.W.keepIn K (.ref f17) = true)
    {f18 : Addr} {od18 an18 : Option Addr} {sl18 : Array (Option Value)} {oc18 kV18 dc18 pm18 cd18 ct18 : Value}
    (a18 : PySem.W.nsIn K mainGlobals "_law_is_whole" = some (some (.ref f18)))
    (l18 : K.lookup f18 = some ⟨oc18, od18, .func (PySem.W.fnOf "_law_is_whole" "_law_is_whole" (defArgs s_is_whole) (defBody s_is_whole) (defScope s_is_whole) .none kV18 dc18 pm18 an18 cd18 ct18), sl18⟩)
    (c18 : PySem.W.codeIn K cd18 "_law_is_whole" = true)
    (k18 : PySem.W.keepIn K (.ref f18) = true)
    {f19 : Addr} {od19 an19 : Option Addr} {sl19 : Array (Option Value)} {oc19 kV19 dc19 pm19 cd19 ct19 : Value}
    (a19 : PySem.W.nsIn K mainGlobals "_law_is_share" = some (some (.ref f19)))
    (l19 : K.lookup f19 = some ⟨oc19, od19, .func (PySem.W.fnOf "_law_is_share" "_law_is_share" (defArgs s_is_share) (defBody s_is_share) (defScope s_is_share) .none kV19 dc19 pm19 an19 cd19 ct19), sl19⟩)
    (c19 : PySem.W.codeIn K cd19 "_law_is_share" = true)
    (k19 : PySem.W.keepIn K (.ref f19) = true)
    {f20 : Addr} {od20 an20 : Option Addr} {sl20 : Array (Option Value)} {oc20 kV20 dc20 pm20 cd20 ct20 : Value}
    (a20 : PySem.W.nsIn K mainGlobals "_law_sides_slip" = some (some (.ref f20)))
    (l20 : K.lookup f20 = some ⟨oc20, od20, .func (PySem.W.fnOf "_law_sides_slip" "_law_sides_slip" (defArgs s_sides_slip) (defBody s_sides_slip) (defScope s_sides_slip) .none kV20 dc20 pm20 an20 cd20 ct20), sl20⟩)
    (c20 : PySem.W.codeIn K cd20 "_law_sides_slip" = true)
    (k20 : PySem.W.keepIn K (.ref f20) = true)
    {f21 : Addr} {od21 an21 : Option Addr} {sl21 : Array (Option Value)} {oc21 kV21 dc21 pm21 cd21 ct21 : Value}
    (a21 : PySem.W.nsIn K mainGlobals "_law_die_slip" = some (some (.ref f21)))
    (l21 : K.lookup f21 = some ⟨oc21, od21, .func (PySem.W.fnOf "_law_die_slip" "_law_die_slip" (defArgs s_die_slip) (defBody s_die_slip) (defScope s_die_slip) .none kV21 dc21 pm21 an21 cd21 ct21), sl21⟩)
    (c21 : PySem.W.codeIn K cd21 "_law_die_slip" = true)
    (k21 : PySem.W.keepIn K (.ref f21) = true)
    {f22 : Addr} {od22 an22 : Option Addr} {sl22 : Array (Option Value)} {oc22 kV22 dc22 pm22 cd22 ct22 : Value}
    (a22 : PySem.W.nsIn K mainGlobals "_law_bent_side" = some (some (.ref f22)))
    (l22 : K.lookup f22 = some ⟨oc22, od22, .func (PySem.W.fnOf "_law_bent_side" "_law_bent_side" (defArgs s_bent_side) (defBody s_bent_side) (defScope s_bent_side) .none kV22 dc22 pm22 an22 cd22 ct22), sl22⟩)
    (c22 : PySem.W.codeIn K cd22 "_law_bent_side" = true)
    (k22 : PySem.W.keepIn K (.ref f22) = true)
    {f23 : Addr} {od23 an23 : Option Addr} {sl23 : Array (Option Value)} {oc23 kV23 dc23 pm23 cd23 ct23 : Value}
    (a23 : PySem.W.nsIn K mainGlobals "_law_bent" = some (some (.ref f23)))
    (l23 : K.lookup f23 = some ⟨oc23, od23, .func (PySem.W.fnOf "_law_bent" "_law_bent" (defArgs s_bent) (defBody s_bent) (defScope s_bent) .none kV23 dc23 pm23 an23 cd23 ct23), sl23⟩)
    (c23 : PySem.W.codeIn K cd23 "_law_bent" = true)
    (k23 : PySem.W.keepIn K (.ref f23) = true)
    {f24 : Addr} {od24 an24 : Option Addr} {sl24 : Array (Option Value)} {oc24 kV24 dc24 pm24 cd24 ct24 : Value}
    (a24 : PySem.W.nsIn K mainGlobals "law" = some (some (.ref f24)))
    (l24 : K.lookup f24 = some ⟨oc24, od24, .func (PySem.W.fnOf "law" "law" (defArgs s_law) (defBody s_law) (defScope s_law) .none kV24 dc24 pm24 an24 cd24 ct24), sl24⟩)
    (c24 : PySem.W.codeIn K cd24 "law" = true)
    (k24 : PySem.W.keepIn K (.ref f24) = true)
    (n_int : PySem.W.nsIn K mainGlobals "int" = some none)
    (n_len : PySem.W.nsIn K mainGlobals "len" = some none)
    (n_abs : PySem.W.nsIn K mainGlobals "abs" = some none)
    (n_repr : PySem.W.nsIn K mainGlobals "repr" = some none)
    (n_range : PySem.W.nsIn K mainGlobals "range" = some none)
    (n_isinstance : PySem.W.nsIn K mainGlobals "isinstance" = some none)
    (n_str : PySem.W.nsIn K mainGlobals "str" = some none)
    (n_list : PySem.W.nsIn K mainGlobals "list" = some none)
    (n_tuple : PySem.W.nsIn K mainGlobals "tuple" = some none)
    (n_sorted : PySem.W.nsIn K mainGlobals "sorted" = some none)
    (n_sum : PySem.W.nsIn K mainGlobals "sum" = some none)
    (n_zip : PySem.W.nsIn K mainGlobals "zip" = some none)
    (n_enumerate : PySem.W.nsIn K mainGlobals "enumerate" = some none)
    (n_bool : PySem.W.nsIn K mainGlobals "bool" = some none)
    (n_gcd : PySem.W.nsIn K mainGlobals "gcd" = some (some (.builtin "math.gcd")))
    (n_lcm : PySem.W.nsIn K mainGlobals "lcm" = some (some (.builtin "math.lcm")))
    {t_MAX_SIDE : Tok}
    (q_MAX_SIDE : PySem.W.nsIn K mainGlobals "MAX_SIDE" = some (some (.int 9 t_MAX_SIDE)))
    {t_MAX_SIDES : Tok}
    (q_MAX_SIDES : PySem.W.nsIn K mainGlobals "MAX_SIDES" = some (some (.int 6 t_MAX_SIDES)))
    : ∃ fd : FuncData, (∀ (s : Shared) (v : Value), BindsTo s fd ⟨[v], []⟩ [("script", v)]) ∧ ∀ base : Heap, K.In base → base.Ns mainGlobals mg →
      FnG l.prog w K mg base CX0 6 fa fd ["script"] (sp_law K) := by
  have e : f24 = fa := by
    cases hfa.symm.trans (PySem.W.mg_of X G a24)
    rfl
  subst e
  have T : Txt K mg (fun i => [f0, f1, f2, f3, f4, f5, f6, f7, f8, f9, f10, f11, f12, f13, f14, f15, f16, f17, f18, f19, f20, f21, f22, f23, f24].getD i 0) (fun i => [(PySem.W.fnOf "die_error" "die_error" (defArgs s_die_error) (defBody s_die_error) (defScope s_die_error) .none kV0 dc0 pm0 an0 cd0 ct0),
      (PySem.W.fnOf "is_integer" "is_integer" (defArgs s_is_integer) (defBody s_is_integer) (defScope s_is_integer) .none kV1 dc1 pm1 an1 cd1 ct1),
      (PySem.W.fnOf "is_within" "is_within" (defArgs s_is_within) (defBody s_is_within) (defScope s_is_within) .none kV2 dc2 pm2 an2 cd2 ct2),
      (PySem.W.fnOf "is_fraction" "is_fraction" (defArgs s_is_fraction) (defBody s_is_fraction) (defScope s_is_fraction) .none kV3 dc3 pm3 an3 cd3 ct3),
      (PySem.W.fnOf "is_chance" "is_chance" (defArgs s_is_chance) (defBody s_is_chance) (defScope s_is_chance) .none kV4 dc4 pm4 an4 cd4 ct4),
      (PySem.W.fnOf "_sides_error" "_sides_error" (defArgs s_sides_error) (defBody s_sides_error) (defScope s_sides_error) .none kV5 dc5 pm5 an5 cd5 ct5),
      (PySem.W.fnOf "_is_side" "_is_side" (defArgs s_is_side) (defBody s_is_side) (defScope s_is_side) .none kV6 dc6 pm6 an6 cd6 ct6),
      (PySem.W.fnOf "side_weights" "side_weights" (defArgs s_side_weights) (defBody s_side_weights) (defScope s_side_weights) .none kV7 dc7 pm7 an7 cd7 ct7),
      (PySem.W.fnOf "_law_loom" "_law_loom" (defArgs s_loom) (defBody s_loom) (defScope s_loom) .none kV8 dc8 pm8 an8 cd8 ct8),
      (PySem.W.fnOf "_law_draw" "_law_draw" (defArgs s_draw) (defBody s_draw) (defScope s_draw) .none kV9 dc9 pm9 an9 cd9 ct9),
      (PySem.W.fnOf "_law_pick" "_law_pick" (defArgs s_pick) (defBody s_pick) (defScope s_pick) .none kV10 dc10 pm10 an10 cd10 ct10),
      (PySem.W.fnOf "_law_mixed" "_law_mixed" (defArgs s_mixed) (defBody s_mixed) (defScope s_mixed) .none kV11 dc11 pm11 an11 cd11 ct11),
      (PySem.W.fnOf "_law_gcd" "_law_gcd" (defArgs s_gcd) (defBody s_gcd) (defScope s_gcd) .none kV12 dc12 pm12 an12 cd12 ct12),
      (PySem.W.fnOf "_law_frac" "_law_frac" (defArgs s_frac) (defBody s_frac) (defScope s_frac) .none kV13 dc13 pm13 an13 cd13 ct13),
      (PySem.W.fnOf "_law_plus" "_law_plus" (defArgs s_plus) (defBody s_plus) (defScope s_plus) .none kV14 dc14 pm14 an14 cd14 ct14),
      (PySem.W.fnOf "_law_share" "_law_share" (defArgs s_share) (defBody s_share) (defScope s_share) .none kV15 dc15 pm15 an15 cd15 ct15),
      (PySem.W.fnOf "_law_die" "_law_die" (defArgs s_die) (defBody s_die) (defScope s_die) .none kV16 dc16 pm16 an16 cd16 ct16),
      (PySem.W.fnOf "_law_odd" "_law_odd" (defArgs s_odd) (defBody s_odd) (defScope s_odd) .none kV17 dc17 pm17 an17 cd17 ct17),
      (PySem.W.fnOf "_law_is_whole" "_law_is_whole" (defArgs s_is_whole) (defBody s_is_whole) (defScope s_is_whole) .none kV18 dc18 pm18 an18 cd18 ct18),
      (PySem.W.fnOf "_law_is_share" "_law_is_share" (defArgs s_is_share) (defBody s_is_share) (defScope s_is_share) .none kV19 dc19 pm19 an19 cd19 ct19),
      (PySem.W.fnOf "_law_sides_slip" "_law_sides_slip" (defArgs s_sides_slip) (defBody s_sides_slip) (defScope s_sides_slip) .none kV20 dc20 pm20 an20 cd20 ct20),
      (PySem.W.fnOf "_law_die_slip" "_law_die_slip" (defArgs s_die_slip) (defBody s_die_slip) (defScope s_die_slip) .none kV21 dc21 pm21 an21 cd21 ct21),
      (PySem.W.fnOf "_law_bent_side" "_law_bent_side" (defArgs s_bent_side) (defBody s_bent_side) (defScope s_bent_side) .none kV22 dc22 pm22 an22 cd22 ct22),
      (PySem.W.fnOf "_law_bent" "_law_bent" (defArgs s_bent) (defBody s_bent) (defScope s_bent) .none kV23 dc23 pm23 an23 cd23 ct23),
      (PySem.W.fnOf "law" "law" (defArgs s_law) (defBody s_law) (defScope s_law) .none kV24 dc24 pm24 an24 cd24 ct24)].getD i (PySem.W.fnOf "die_error" "die_error" (defArgs s_die_error) (defBody s_die_error) (defScope s_die_error) .none kV0 dc0 pm0 an0 cd0 ct0)) :=
    { F_die_error := fun_mk (st := s_die_error) l0 c0 k0,
      g_die_error := PySem.W.mg_of X G a0,
      F_is_integer := fun_mk (st := s_is_integer) l1 c1 k1,
      g_is_integer := PySem.W.mg_of X G a1,
      F_is_within := fun_mk (st := s_is_within) l2 c2 k2,
      g_is_within := PySem.W.mg_of X G a2,
      F_is_fraction := fun_mk (st := s_is_fraction) l3 c3 k3,
      g_is_fraction := PySem.W.mg_of X G a3,
      F_is_chance := fun_mk (st := s_is_chance) l4 c4 k4,
      g_is_chance := PySem.W.mg_of X G a4,
      F_sides_error := fun_mk (st := s_sides_error) l5 c5 k5,
      g_sides_error := PySem.W.mg_of X G a5,
      F_is_side := fun_mk (st := s_is_side) l6 c6 k6,
      g_is_side := PySem.W.mg_of X G a6,
      F_side_weights := fun_mk (st := s_side_weights) l7 c7 k7,
      g_side_weights := PySem.W.mg_of X G a7,
      F_loom := fun_mk (st := s_loom) l8 c8 k8,
      g_loom := PySem.W.mg_of X G a8,
      F_draw := fun_mk (st := s_draw) l9 c9 k9,
      g_draw := PySem.W.mg_of X G a9,
      F_pick := fun_mk (st := s_pick) l10 c10 k10,
      g_pick := PySem.W.mg_of X G a10,
      F_mixed := fun_mk (st := s_mixed) l11 c11 k11,
      g_mixed := PySem.W.mg_of X G a11,
      F_gcd := fun_mk (st := s_gcd) l12 c12 k12,
      g_gcd := PySem.W.mg_of X G a12,
      F_frac := fun_mk (st := s_frac) l13 c13 k13,
      g_frac := PySem.W.mg_of X G a13,
      F_plus := fun_mk (st := s_plus) l14 c14 k14,
      g_plus := PySem.W.mg_of X G a14,
      F_share := fun_mk (st := s_share) l15 c15 k15,
      g_share := PySem.W.mg_of X G a15,
      F_die := fun_mk (st := s_die) l16 c16 k16,
      g_die := PySem.W.mg_of X G a16,
      F_odd := fun_mk (st := s_odd) l17 c17 k17,
      g_odd := PySem.W.mg_of X G a17,
      F_is_whole := fun_mk (st := s_is_whole) l18 c18 k18,
      g_is_whole := PySem.W.mg_of X G a18,
      F_is_share := fun_mk (st := s_is_share) l19 c19 k19,
      g_is_share := PySem.W.mg_of X G a19,
      F_sides_slip := fun_mk (st := s_sides_slip) l20 c20 k20,
      g_sides_slip := PySem.W.mg_of X G a20,
      F_die_slip := fun_mk (st := s_die_slip) l21 c21 k21,
      g_die_slip := PySem.W.mg_of X G a21,
      F_bent_side := fun_mk (st := s_bent_side) l22 c22 k22,
      g_bent_side := PySem.W.mg_of X G a22,
      F_bent := fun_mk (st := s_bent) l23 c23 k23,
      g_bent := PySem.W.mg_of X G a23,
      F_law := fun_mk (st := s_law) l24 c24 k24,
      g_law := PySem.W.mg_of X G a24,
      z_int := PySem.W.mg_none_of X G n_int,
      z_len := PySem.W.mg_none_of X G n_len,
      z_abs := PySem.W.mg_none_of X G n_abs,
      z_repr := PySem.W.mg_none_of X G n_repr,
      range := PySem.W.mg_none_of X G n_range,
      z_isinstance := PySem.W.mg_none_of X G n_isinstance,
      z_str := PySem.W.mg_none_of X G n_str,
      z_list := PySem.W.mg_none_of X G n_list,
      z_tuple := PySem.W.mg_none_of X G n_tuple,
      z_sorted := PySem.W.mg_none_of X G n_sorted,
      z_sum := PySem.W.mg_none_of X G n_sum,
      zip := PySem.W.mg_none_of X G n_zip,
      enumerate := PySem.W.mg_none_of X G n_enumerate,
      z_bool := PySem.W.mg_none_of X G n_bool,
      z_gcd := PySem.W.mg_of X G n_gcd,
      z_lcm := PySem.W.mg_of X G n_lcm,
      c_MAX_SIDE := ⟨_, PySem.W.mg_of X G q_MAX_SIDE, _, rfl⟩,
      c_MAX_SIDES := ⟨_, PySem.W.mg_of X G q_MAX_SIDES, _, rfl⟩ }
  exact ⟨_, fun s v => .of_eq rfl, fun base _ _ => T.ok_law⟩
end Ev

open PySem PySem.W PyProof.Rows in
set_option maxRecDepth 100000 in
set_option maxHeartbeats 0 in
theorem PySem.Challenge.cw_everystart_k03_what_dice_are_holds : PySem.Challenge.rw_everystart_k03_what_dice_are.Holds := by
  w_on; o_law; k_head; (case hw => w_witness2)
  k_fill
  refine Ev.walk_ofG (l := PySem.Challenge.rw_everystart_k03_what_dice_are) (n := 63) (k := 6) (x := "script") (sp := fun w => Ev.sp_law _) rfl (by decide) rfl ⟨rfl, by decide, by decide⟩ (fun w h Y => PySem.W.kIn_of Y) ?F (fun _ _ a ns hl _ hS => ⟨a, ns, rfl, hS, hl, fun _ => rfl⟩)
  case F =>
    intro w mg fa h KX G hmg
    refine' Ev.all_mk KX G hmg ?a0 ?l0 ?c0 ?k0 ?a1 ?l1 ?c1 ?k1 ?a2 ?l2 ?c2 ?k2 ?a3 ?l3 ?c3 ?k3 ?a4 ?l4 ?c4 ?k4 ?a5 ?l5 ?c5 ?k5 ?a6 ?l6 ?c6 ?k6 ?a7 ?l7 ?c7 ?k7 ?a8 ?l8 ?c8 ?k8 ?a9 ?l9 ?c9 ?k9 ?a10 ?l10 ?c10 ?k10 ?a11 ?l11 ?c11 ?k11 ?a12 ?l12 ?c12 ?k12 ?a13 ?l13 ?c13 ?k13 ?a14 ?l14 ?c14 ?k14 ?a15 ?l15 ?c15 ?k15 ?a16 ?l16 ?c16 ?k16 ?a17 ?l17 ?c17 ?k17 ?a18 ?l18 ?c18 ?k18 ?a19 ?l19 ?c19 ?k19 ?a20 ?l20 ?c20 ?k20 ?a21 ?l21 ?c21 ?k21 ?a22 ?l22 ?c22 ?k22 ?a23 ?l23 ?c23 ?k23 ?a24 ?l24 ?c24 ?k24 ?n_int ?n_len ?n_abs ?n_repr ?n_range ?n_isinstance ?n_str ?n_list ?n_tuple ?n_sorted ?n_sum ?n_zip ?n_enumerate ?n_bool ?n_gcd ?n_lcm ?q_MAX_SIDE ?q_MAX_SIDES
    (case a0 => k_is)
    (case l0 => k_is)
    (case c0 => k_is)
    (case k0 => k_is)
    (case a1 => k_is)
    (case l1 => k_is)
    (case c1 => k_is)
    (case k1 => k_is)
    (case a2 => k_is)
    (case l2 => k_is)
    (case c2 => k_is)
    (case k2 => k_is)
    (case a3 => k_is)
    (case l3 => k_is)
    (case c3 => k_is)
    (case k3 => k_is)
    (case a4 => k_is)
    (case l4 => k_is)
    (case c4 => k_is)
    (case k4 => k_is)
    (case a5 => k_is)
    (case l5 => k_is)
    (case c5 => k_is)
    (case k5 => k_is)
    (case a6 => k_is)
    (case l6 => k_is)
    (case c6 => k_is)
    (case k6 => k_is)
    (case a7 => k_is)
    (case l7 => k_is)
    (case c7 => k_is)
    (case k7 => k_is)
    (case a8 => k_is)
    (case l8 => k_is)
    (case c8 => k_is)
    (case k8 => k_is)
    (case a9 => k_is)
    (case l9 => k_is)
    (case c9 => k_is)
    (case k9 => k_is)
    (case a10 => k_is)
    (case l10 => k_is)
    (case c10 => k_is)
    (case k10 => k_is)
    (case a11 => k_is)
    (case l11 => k_is)
    (case c11 => k_is)
    (case k11 => k_is)
    (case a12 => k_is)
    (case l12 => k_is)
    (case c12 => k_is)
    (case k12 => k_is)
    (case a13 => k_is)
    (case l13 => k_is)
    (case c13 => k_is)
    (case k13 => k_is)
    (case a14 => k_is)
    (case l14 => k_is)
    (case c14 => k_is)
    (case k14 => k_is)
    (case a15 => k_is)
    (case l15 => k_is)
    (case c15 => k_is)
    (case k15 => k_is)
    (case a16 => k_is)
    (case l16 => k_is)
    (case c16 => k_is)
    (case k16 => k_is)
    (case a17 => k_is)
    (case l17 => k_is)
    (case c17 => k_is)
    (case k17 => k_is)
    (case a18 => k_is)
    (case l18 => k_is)
    (case c18 => k_is)
    (case k18 => k_is)
    (case a19 => k_is)
    (case l19 => k_is)
    (case c19 => k_is)
    (case k19 => k_is)
    (case a20 => k_is)
    (case l20 => k_is)
    (case c20 => k_is)
    (case k20 => k_is)
    (case a21 => k_is)
    (case l21 => k_is)
    (case c21 => k_is)
    (case k21 => k_is)
    (case a22 => k_is)
    (case l22 => k_is)
    (case c22 => k_is)
    (case k22 => k_is)
    (case a23 => k_is)
    (case l23 => k_is)
    (case c23 => k_is)
    (case k23 => k_is)
    (case a24 => k_is)
    (case l24 => k_is)
    (case c24 => k_is)
    (case k24 => k_is)
    (case n_int => k_is)
    (case n_len => k_is)
    (case n_abs => k_is)
    (case n_repr => k_is)
    (case n_range => k_is)
    (case n_isinstance => k_is)
    (case n_str => k_is)
    (case n_list => k_is)
    (case n_tuple => k_is)
    (case n_sorted => k_is)
    (case n_sum => k_is)
    (case n_zip => k_is)
    (case n_enumerate => k_is)
    (case n_bool => k_is)
    (case n_gcd => k_is)
    (case n_lcm => k_is)
    (case q_MAX_SIDE => k_is)
    (case q_MAX_SIDES => k_is)
