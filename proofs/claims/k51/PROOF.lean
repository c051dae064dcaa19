import PyProof.Rows.All
import Wide.All
import OpenK.AllK
import Wide.FinOn
import HandS.ForMost
import HandS.Walk
import HandS.Evl
import HandS.Wide
import HandS.SortInts
import HandS.Deep
import KE.GoesMore
import HandS.IsInst
import HandS.TupAny
import HandS.Style
import HandS.Gcd
import HandS.Rev
import HandS.More
import PySem.Challenge.RW_drawnturns_k51_whole_polynomials_at_frac
set_option Elab.async false
set_option linter.all false
set_option autoImplicit false
set_option maxRecDepth 100000
set_option maxHeartbeats 4100000
/-! Promises that know that no repr is under way: the same as FnOk where the guards are none. -/
namespace Pd
open PySem PySem.Spec L2
open PyProof.Rows hiding St

structure FnG (P : Program) (w : World) (K : PySem.W.Frag) (mg : Str → Option Value) (base : Heap) (k : Nat) (f : Addr) (fd : FuncData) (ps : List Str) (sp : Sp) : Prop where
  many : ∀ {vs H Q E}, sp vs H Q E → vs.length = ps.length
  go : ∀ {A : Around} {outer : List PySem.Env} {s : Shared} {H : Hp} {args : Args} {us : List Value} {vs : List V} {Q : VK} {E : XK}, A.guards = some [] → Room k A → Env0 P w K mg base A outer s H → BindsTo s fd args (ps.zip us) → Vals vs us → sp vs H Q E →
    codeAny (model P w) A (.call (.ref f) args) (CR CX0 outer P w H s Q E) s
variable {P : Program} {w : World} {K : PySem.W.Frag} {mg : Str → Option Value} {base : Heap} {k j : Nat} {f : Addr} {fd : FuncData} {ps : List Str} {sp sp' : Sp}
theorem FnG.deep (F : FnG P w K mg base j f fd ps sp) (h : j ≤ k) : FnG P w K mg base k f fd ps sp := ⟨F.many, fun g r => F.go g (r.mono h)⟩
theorem FnG.less (F : FnG P w K mg base k f fd ps sp) (h : ∀ {vs H Q E}, sp' vs H Q E → sp vs H Q E) : FnG P w K mg base k f fd ps sp' := ⟨fun q => F.many (h q), fun g r e b v q => F.go g r e b v (h q)⟩
theorem FnG.of (F : FnOk P w K mg base CX0 k f fd ps sp) : FnG P w K mg base k f fd ps sp := ⟨fun q => F.len _ _ _ _ q, fun _ r e b v q => F.run _ _ _ _ _ _ _ _ _ r e b v q⟩

section
variable {X : Cx} {x : Str} {p pos : Pos} {e : Expr} {es : List Expr} {t tk : TA}
/-- behind the arguments: the callee -/
theorem call_end {pins : List (Addr × Obj)} {σ : St} {H : Hp} {s : Shared} {Q : VK} {args : Args} (I : Inv X pins σ H s) (h : codeAny (model X.prog X.w) X.A (.call (.ref f) args) (CR CX0 X.stack X.prog X.w H s Q E0) s) :
    wpAny (model X.prog X.w) X.A (call (.ref f) args.pos args.kw) (EP X pins σ Q) X.xe s := by
  refine wpAny_call (codeAny_mono h ?_)
  rintro (_ | fl) s' hq
  · exact False.elim hq
  · cases fl
    case ret u => exact Inv.after I hq
    all_goals exact absurd hq id
theorem pe_callG (F : FnG X.prog X.w X.K X.mg X.base k f fd ps sp) (hA : X.A.guards = some []) (hr : Room k X.A) (hg : Gl X x) (hm : X.mg x = some (.ref f)) (hk : PySem.W.keepIn X.K (.ref f) = true) (hb : L2.Binds X.K fd ps [])
    (ha : PA X (e :: es) t) (h1 : (x == ("__debug__" : Str)) = false := by decide) (h2 : starEach (e :: es) X.env = (false, eval e X.env) :: starEach es X.env := by rfl) (h3 : (backTo pos (starEach es X.env)).any (·.1) = false := by rfl) :
    PE X (.Call (.Name x p) (e :: es) [] pos) (fun σ H Q => t σ H fun vs H1 => sp vs H1 Q E0) where
  run pins s σ H Q I h := wpAny_Call_Name_kw (ld_glob I hg hm (PySem.W.callWith_K (h₀ := X.base) I.ok.mod.kin hk
    (wpAny_mono (ha.run pos pins s σ H _ I h) (fun us s1 ⟨vs, H1, J, r, q⟩ => ⟨J.kIn, call_end (args := ⟨us, []⟩) J (by
      have hl := (r.length).symm.trans (F.many q)
      have hz := hb s1 us J.kIn (by rw [List.append_nil]; exact hl)
      rw [List.append_nil] at hz
      exact F.go hA hr J.env0 hz r q)⟩) fun _ _ z => z) h2 h3) h1)
theorem pe_callKG {ks : List Str} {gv : List Value → List Value → List Value} {gV : List V → List V → List V} {kws : List Keyword} (F : FnG X.prog X.w X.K X.mg X.base k f fd ps sp) (hA : X.A.guards = some []) (hr : Room k X.A) (hg : Gl X x) (hm : X.mg x = some (.ref f)) (hk : PySem.W.keepIn X.K (.ref f) = true) (hb : KBinds X.K fd ps ks gv gV)
    (ha : PA X (e :: es) t) (hkw : PK X kws tk) (h4 : (backToKw pos (keywordEach kws X.env)).all (·.1.isSome) = true := by rfl) (h5 : (backToKw pos (keywordEach kws X.env)).filterMap (·.1) = ks := by rfl)
    (h1 : (x == ("__debug__" : Str)) = false := by decide) (h2 : starEach (e :: es) X.env = (false, eval e X.env) :: starEach es X.env := by rfl)
    (h3 : ((backTo pos (starEach (e :: es) X.env)).any (·.1) || (backToKw pos (keywordEach kws X.env)).any (·.1.isNone)) = false := by rfl) :
    PE X (.Call (.Name x p) (e :: es) kws pos) (fun σ H Q => t σ H fun vs H1 => tk σ H1 fun zs H2 => sp (gV vs zs) H2 Q E0) where
  run pins s σ H Q I h := wpAny_Call_Name_kw (ld_glob I hg hm (PySem.W.callWith_KW (h₀ := X.base) I.ok.mod.kin hk h4
    (wpAny_mono (ha.run pos pins s σ H _ I h) (fun us s1 ⟨vs, H1, J, r, q⟩ => wpAny_mono (hkw.run pos pins s1 σ H1 _ J q) (fun ws s2 ⟨zs, H2, J2, rz, q2⟩ => ⟨J2.kIn, by
      have r2 := hb.rel r rz
      have hl := (r2.length).symm.trans (F.many q2)
      rw [h5]
      exact call_end (args := ⟨us, ks.zip ws⟩) J2 (F.go hA hr J2.env0 (hb.to s2 us ws J2.kIn hl) r2 q2)⟩) fun _ _ z => z) fun _ _ z => z) h3 h2) h1)
end

/-- a def's promise from its body -/
theorem bodyG {x qual : Str} {st : Stmt} {N : List Str} (F : Fun K x qual st f fd) (S : FnScope N ps (defScope st)) (many : ∀ {vs H Q E}, sp vs H Q E → vs.length = ps.length)
    (hb : ∀ {cdv : Value} {A : Around} {outer : List PySem.Env} {s : Shared} {H : Hp} {vs : List V} {Q : VK} {E : XK}, (A.deeper (envOfC qual (defScope st) s.heap.objs.size f cdv)).guards = some [] → Room k (A.deeper (envOfC qual (defScope st) s.heap.objs.size f cdv)) → sp vs H Q E →
      ∃ t, PSs (cxOf CX0 P w K mg base N qual (defScope st) f cdv A outer s H E).nox (defBody st) t ∧ t { nx := fun _ H' => Q .non H', rt := Q } (L2.start N vs) H) : FnG P w K mg base (k + 1) f fd ps sp := by
  obtain ⟨oc, od, kV, dc, pm, an, cdv, ct, osl, e, lk, hcd⟩ := F.ex
  subst e
  refine ⟨many, ?_⟩
  intro A outer s H args us vs Q E hA hr e0 hbd r hsp
  have keep : ∀ b o, base.get? b = some o → s.heap.get? b = some o := fun b o z => (e0.bs b o z).1
  refine codeAny_call_function hr.depth ((e0.mod.kin.keeps keep) _ _ lk) rfl S.co S.gen rfl (PySem.W.codeRec_of (e0.mod.kin.keeps keep) hcd) (hbd _ _ _ _ ?_)
  refine wpAny_newFunctionEnv_cells S.kind (fun y hy => (S.par y.1 (List.of_mem_zip (show (y.1, y.2) ∈ ps.zip us from hy)).1).imp id fun q => ⟨q, PySem.W.cellsFrom_some _ _ _ (.inl q)⟩) ?_
  rintro env rfl s1 x
  obtain ⟨t, ht, hq⟩ := hb (cdv := cdv) (A := A) (outer := outer) (s := s) (H := H) (vs := vs) (Q := Q) (E := E) (by show A.guards = _; exact hA) (hr.deeper _) hsp
  have J : Inv (cxOf CX0 P w K mg base N qual (defScope st) f cdv A outer s H E) [] (L2.start N vs) H s1 := inv_start S hr.hd e0 (many hsp) r x
  refine ⟨(e0.mod.nolimit.keeps keep).keeps x.toInCall.keep, codeAny_func (wpAny_mono (ht.nox.run [] s1 _ H _ J hq) ?_ fun _ _ z => z)⟩
  rintro fl s' hs
  cases fl
  case ret u =>
    obtain ⟨v, _, H', J2, rv, q⟩ := hs
    exact ⟨v, H', J2.os, J2.bare, J2.base, J2.hok, rv, q⟩
  case next =>
    obtain ⟨_, H', J2, q⟩ := hs
    exact ⟨.non, H', J2.os, J2.bare, J2.base, J2.hok, rfl, q⟩
  case brk => exact (hs.elim fun _ z => z.elim fun _ z => z.2).elim
  case cont => exact (hs.elim fun _ z => z.elim fun _ z => z.2).elim

/-! ### the law itself, called behind the top -/
/-- what is tracked there: the script, known to its object, unless it is one of the module's own -/
def atEntry (K : PySem.W.Frag) (a : Addr) (vs : List Value) (ns : List Int) : Hp := fun b =>
  if b = a ∧ K.lookup a = none then some (.frz { cls := .type "list", data := .seq vs.toArray } (.lst (ns.map V.int))) else none
theorem atEntry_cases (K : PySem.W.Frag) (a : Addr) (vs : List Value) (ns : List Int) (b : Addr) : atEntry K a vs ns b = none ∨ (b = a ∧ K.lookup a = none ∧ atEntry K a vs ns b = some (.frz { cls := .type "list", data := .seq vs.toArray } (.lst (ns.map V.int)))) := by
  by_cases h : b = a ∧ K.lookup a = none
  · exact .inr ⟨h.1, h.2, if_pos h⟩
  · exact .inl (if_neg h)
theorem entryG {mb : Str → Option Value} {fa a : Addr} {y : Str} {s₁ : Shared} {vs : List Value} {ns : List Int} (hr : Room k callerA) (KX : K.In s₁.heap) (hns : s₁.heap.Ns mainGlobals mg) (hmb : s₁.heap.Ns builtinsNs mb) (hbb : ∀ x : Str, x ≠ "__name__" → mb x = bootBuiltins x) (hlim : s₁.heap.NoLimit) (hgen : s₁.gens = #[])
    (ha : s₁.heap.get? a = some { cls := .type "list", data := .seq vs.toArray }) (hi : IntsAre vs ns) (hl : ns.length ≤ sizeLine)
    (F : ∀ base : Heap, K.In base → base.Ns mainGlobals mg → FnG P w K mg base k fa fd [y] sp) (hbind : ∀ (s : Shared) (u : Value), BindsTo s fd ⟨[u], []⟩ [(y, u)])
    (hsp : ∀ H : Hp, Only H → SqL K H a (ns.map V.int) → sp [.ref a] H (fun v _ => v = .bl true) fun _ _ _ => False) :
    codeAny (model P w) callerA (.call (.ref fa) ⟨[.ref a], []⟩) (fun got t => got = .ok (.ret (.bool true)) ∧ OldK s₁.heap t.heap ∧ t.os = s₁.os ∧ AllBare t.gens) s₁ := by
  have rv := vals_ints hi
  -- away from the script the heap is read as it is
  have off : ∀ {b : Addr} {o : Obj}, s₁.heap.get? b = some o → (b = a → K.lookup a ≠ none) → (hidT s₁.heap (atEntry K a vs ns)).get? b = some o := fun {b o} z n => hidT_get z (by
    rcases atEntry_cases K a vs ns b with q | ⟨q1, q2, _⟩
    · exact q
    · exact absurd q2 (n q1))
  have nsOff : ∀ {b : Addr} {m : Str → Option Value}, s₁.heap.Ns b m → (hidT s₁.heap (atEntry K a vs ns)).Ns b m := fun {b m} ⟨o, es, ep, z, d, r⟩ => ⟨o, es, ep, off z (fun q => by
    subst q
    rw [ha] at z
    cases z
    exact absurd d (fun q => nomatch q)), d, r⟩
  have kOff : K.In (hidT s₁.heap (atEntry K a vs ns)) := fun b o z => off (KX b o z) fun q => by
    rw [← q, z]
    exact fun q => nomatch q
  have scr : SqL K (atEntry K a vs ns) a (ns.map V.int) := by
    cases hk : K.lookup a with
    | none => exact .inl (.inr ⟨_, if_pos ⟨rfl, hk⟩⟩)
    | some o =>
      have z := KX a o hk
      rw [ha] at z
      cases z
      exact .inr ⟨_, vs.toArray, _, hk, rfl, rfl, rfl, by rw [List.size_toArray, hi.length]; exact hl, by simpa using rv⟩
  have okE : HOk P w (atEntry K a vs ns) s₁.heap := fun b u z => by
    rcases atEntry_cases K a vs ns b with q | ⟨rfl, _, q⟩
    · rw [q] at z
      cases z
    · rw [q] at z
      cases z
      refine ⟨ha, ?_, vs, _, rv, ha⟩
      rw [List.length_map]
      exact hl
  have only : Only (atEntry K a vs ns) := fun b => (atEntry_cases K a vs ns b).imp id fun q => ⟨_, _, q.2.2⟩
  have env : Env0 P w K mg (hidT s₁.heap (atEntry K a vs ns)) callerA [] s₁ (atEntry K a vs ns) :=
    { frames := rfl, mod := ⟨kOff, nsOff hns, ⟨mb, nsOff hmb, hbb⟩, hlim.imp fun mc q => ⟨nsOff q.1, q.2⟩⟩, bs := fun _ _ z => of_hidT z, bsz := Nat.le_of_eq (hidT_size _ _), funs := trivial, frf := (fun _ z => nomatch z), hok := okE, bare := .of_eq hgen }
  refine codeAny_mono ((F _ kOff (nsOff hns)).go (Q := fun v _ => v = .bl true) (E := fun _ _ _ => False) rfl hr env (us := [.ref a]) (vs := [.ref a]) (hbind s₁ (.ref a)) (.cons rfl .nil) (hsp _ only scr)) ?_
  rintro (_ | fl) s' h
  · exact False.elim h
  cases fl
  case ret u =>
    obtain ⟨v, H', os, bare, un, hok', r', q'⟩ := h
    cases q'
    cases r'
    refine ⟨rfl, OldK.of_keep fun b o z => ?_, os, bare⟩
    rcases atEntry_cases K a vs ns b with q | ⟨rfl, _, q⟩
    · exact un.keep b o z q (fun n => nomatch n) fun n => nomatch n
    · have z2 := (hok' b _ (un.frzs b _ _ q)).1
      rw [ha] at z
      cases z
      exact z2
  all_goals exact False.elim h
/-- the end of a row -/
theorem rowG {l : PySem.W.OpenLaw} {n : Nat} {q : Program} {loose : List Str} {XP : (Str → Option Value) → Heap → Prop} {YP : World → Heap → Prop} {d : DefRec} {KW : Params → PySem.W.Frag} {spw : PySem.W.Frag → Sp} {y : Str}
    (hn : l.most = some n) (hn2 : n ≤ sizeLine) (hdf : d.params.defaults = []) (hr : Room k callerA) (hY : ∀ (w : World) (h : Heap), YP w h → (KW w.params).In h)
    (F : ∀ (w : World) (mg : Str → Option Value) (fa : Addr) (h : Heap), (KW w.params).In h → h.Ns mainGlobals mg → mg d.name = some (.ref fa) → ∃ fd : FuncData, (∀ (s : Shared) (u : Value), BindsTo s fd ⟨[u], []⟩ [(y, u)]) ∧
      ∀ base : Heap, (KW w.params).In base → base.Ns mainGlobals mg → FnG l.prog w (KW w.params) mg base k fa fd [y] (spw (KW w.params)))
    (hsp : ∀ (K : PySem.W.Frag) (H : Hp) (a : Addr) (ns : List Int), ns.length ≤ n → Only H → SqL K H a (ns.map V.int) → spw K [.ref a] H (fun v _ => v = .bl true) fun _ _ _ => False) :
    PySem.W.WalkO q loose XP YP l.row.toRowW d [] fun g us => PySem.call g us := by
  refine Att.attach_call hn hdf ?_
  intro w s₀ s₁ mg mb fa o pm cd doc a vs ns G Y ho hd hcd hmg hobj hints hlen hgen
  obtain ⟨fd, hb, hF⟩ := F w mg fa _ (hY w _ Y) G.T.g hmg
  exact entryG hr (hY w _ Y) G.T.g G.T.b G.T.builtins G.T.nolimit hgen hobj hints (Nat.le_trans hlen hn2) hF hb fun H hO hS => hsp _ H a ns hlen hO hS
end Pd
set_option maxHeartbeats 4100000
/-! A layer of data over the hand layer: what a Python expression or statement makes of values without identity. -/
namespace Pd
open PySem PySem.Spec L2 Evl
open PyProof.Rows hiding St

/-! ### data -/
inductive D where
  | non | bl (b : Bool) | int (i : Int) | str (x : Str)
  | lst (ds : List D) | tup (ds : List D)
  | dct (kvs : List (Key × D))
  | seq (ds : List D)
  | obj
  | rp (d : PyData)

mutual
def D.py : D → Option PyData
  | .non => some .none
  | .bl b => some (.bool b)
  | .int i => some (.int i)
  | .str x => some (.str x)
  | .lst ds => match D.pys ds with | some xs => some (.list xs) | none => none
  | .tup ds => match D.pys ds with | some xs => some (.tuple xs) | none => none
  | .dct _ => none
  | .seq _ => none
  | .obj => none
  | .rp _ => none
def D.pys : List D → Option (List PyData)
  | [] => some []
  | d :: r => match D.py d, D.pys r with | some a, some b => some (a :: b) | _, _ => none
end

/-! ### outcomes: a value, nothing, a draw -/
inductive Tr (α : Type) where
  | ret (a : α)
  | fail
  | draw (m : Int) (k : Int → Tr α)
namespace Tr
variable {α β : Type}
def all (P : α → Prop) : Tr α → Prop
  | .ret a => P a
  | .fail => False
  | .draw m k => 0 < m ∧ ∀ i, 0 ≤ i → i < m → (k i).all P
def bind : Tr α → (α → Tr β) → Tr β
  | .ret a, f => f a
  | .fail, _ => .fail
  | .draw m k, f => .draw m fun i => (k i).bind f
theorem all_mono {P P' : α → Prop} : ∀ {t : Tr α}, t.all P → (∀ a, P a → P' a) → t.all P'
  | .ret _, h, f => f _ h
  | .fail, h, _ => h
  | .draw _ _, h, f => ⟨h.1, fun i h0 h1 => all_mono (h.2 i h0 h1) f⟩
theorem all_bind {P : β → Prop} {f : α → Tr β} : ∀ {t : Tr α}, (t.bind f).all P → t.all fun a => (f a).all P
  | .ret _, h => h
  | .fail, h => h
  | .draw _ _, h => ⟨h.1, fun i h0 h1 => all_bind (h.2 i h0 h1)⟩
theorem bind_all {P : β → Prop} {f : α → Tr β} : ∀ {t : Tr α}, t.all (fun a => (f a).all P) → (t.bind f).all P
  | .ret _, h => h
  | .fail, h => h
  | .draw _ _, h => ⟨h.1, fun i h0 h1 => bind_all (h.2 i h0 h1)⟩
theorem bind_assoc {γ : Type} {f : α → Tr β} {g : β → Tr γ} : ∀ {t : Tr α}, (t.bind f).bind g = t.bind fun a => (f a).bind g
  | .ret _ => rfl
  | .fail => rfl
  | .draw m k => by
    show Tr.draw m _ = Tr.draw m _
    congr 1
    funext i
    exact bind_assoc
def ofOpt : Option α → Tr α
  | some a => .ret a
  | none => .fail
def guard (b : Bool) (t : Tr α) : Tr α := if b then t else .fail
theorem guard_all {P : α → Prop} {b : Bool} {t : Tr α} (h : (guard b t).all P) : b = true ∧ t.all P := by
  cases b with
  | true => exact ⟨rfl, h⟩
  | false => exact h.elim
end Tr

/-! ### the source of draws: an object of the law's, known by what holds of it -/
structure JarK where
  J : List Addr → List (Option HO) → Prop
  there : ∀ as os, J as os → ∀ o ∈ os, o ≠ none
abbrev JA := Option (List Addr)
def fp (ja : JA) (a : Addr) : Prop := ∃ as, ja = some as ∧ a ∈ as

/-! ### values beside data -/
mutual
inductive Dq (K : PySem.W.Frag) (ja : JA) (G : Hp) : V → D → Prop
  | non : Dq K ja G .non .non
  | bl (b : Bool) : Dq K ja G (.bl b) (.bl b)
  | int (i : Int) : Dq K ja G (.int i) (.int i)
  | str (x : Str) : Dq K ja G (.str x) (.str x)
  | lst {a : Addr} {xs : List V} {ds : List D} : G a = some (.lst xs) → DqA K ja G xs ds → Dq K ja G (.ref a) (.lst ds)
  | tup {a : Addr} {xs : List V} {ds : List D} : SqT K G a xs → DqA K ja G xs ds → Dq K ja G (.ref a) (.tup ds)
  | dct {a : Addr} {ks : List Key} {xs : List V} {ds : List D} : G a = some (.dK (ks.zip xs)) → ks.length = ds.length → DqA K ja G xs ds → Dq K ja G (.ref a) (.dct (ks.zip ds))
  | seq {a : Addr} {xs : List V} {ds : List D} : SqL K G a xs → DqA K ja G xs ds → Dq K ja G (.ref a) (.seq ds)
  | obj {p : Addr} {r : List Addr} : ja = some (p :: r) → Dq K ja G (.ref p) .obj
  | rp (d : PyData) : Dq K ja G (.str d.shown) (.rp d)
inductive DqA (K : PySem.W.Frag) (ja : JA) (G : Hp) : List V → List D → Prop
  | nil : DqA K ja G [] []
  | cons {v : V} {vs : List V} {d : D} {ds : List D} : Dq K ja G v d → DqA K ja G vs ds → DqA K ja G (v :: vs) (d :: ds)
end
section
variable {K : PySem.W.Frag} {ja : JA} {G G' : Hp}
mutual
theorem Dq.mono (e : Ex G G') : ∀ {v : V} {d : D}, Dq K ja G v d → Dq K ja G' v d
  | _, _, .non => .non
  | _, _, .bl b => .bl b
  | _, _, .int i => .int i
  | _, _, .str x => .str x
  | _, _, .lst h a => .lst (e _ _ h) (DqA.mono e a)
  | _, _, .tup h a => .tup (ex_t e h) (DqA.mono e a)
  | _, _, .dct h l a => .dct (e _ _ h) l (DqA.mono e a)
  | _, _, .seq h a => .seq (ex_l e h) (DqA.mono e a)
  | _, _, .obj h => .obj h
  | _, _, .rp d => .rp d
theorem DqA.mono (e : Ex G G') : ∀ {vs : List V} {ds : List D}, DqA K ja G vs ds → DqA K ja G' vs ds
  | _, _, .nil => .nil
  | _, _, .cons h t => .cons (Dq.mono e h) (DqA.mono e t)
end
theorem DqA.length : ∀ {vs : List V} {ds : List D}, DqA K ja G vs ds → vs.length = ds.length
  | _, _, .nil => rfl
  | _, _, .cons _ t => congrArg (· + 1) t.length
theorem DqA.get : ∀ {vs : List V} {ds : List D} {i : Nat} {d : D}, DqA K ja G vs ds → ds[i]? = some d → ∃ v, vs[i]? = some v ∧ Dq K ja G v d
  | _, _, _, _, .nil, no => by simp at no
  | _, _, 0, _, .cons h _, e => by
    simp at e
    subst e
    exact ⟨_, rfl, h⟩
  | _, _, i + 1, _, .cons _ t, e => by
    obtain ⟨v, h1, h2⟩ := t.get (i := i) (by simpa using e)
    exact ⟨v, by simpa using h1, h2⟩
theorem DqA.getV : ∀ {vs : List V} {ds : List D} {i : Nat} {v : V}, DqA K ja G vs ds → vs[i]? = some v → ∃ d, ds[i]? = some d ∧ Dq K ja G v d
  | _, _, _, _, .nil, no => by simp at no
  | _, _, 0, _, .cons h _, e => by
    simp at e
    subst e
    exact ⟨_, rfl, h⟩
  | _, _, i + 1, _, .cons _ t, e => by
    obtain ⟨v, h1, h2⟩ := t.getV (i := i) (by simpa using e)
    exact ⟨v, by simpa using h1, h2⟩
theorem DqA.append : ∀ {vs ws : List V} {ds es : List D}, DqA K ja G vs ds → DqA K ja G ws es → DqA K ja G (vs ++ ws) (ds ++ es)
  | _, _, _, _, .nil, s => s
  | _, _, _, _, .cons r t, s => .cons r (t.append s)
theorem DqA.take : ∀ {vs : List V} {ds : List D} (n : Nat), DqA K ja G vs ds → DqA K ja G (vs.take n) (ds.take n)
  | _, _, 0, _ => .nil
  | _, _, _ + 1, .nil => .nil
  | _, _, n + 1, .cons r t => .cons r (t.take n)
theorem DqA.drop : ∀ {vs : List V} {ds : List D} (n : Nat), DqA K ja G vs ds → DqA K ja G (vs.drop n) (ds.drop n)
  | _, _, 0, r => r
  | _, _, _ + 1, .nil => .nil
  | _, _, n + 1, .cons _ t => t.drop n
theorem DqA.set {v : V} {d : D} (r : Dq K ja G v d) : ∀ {vs : List V} {ds : List D} (i : Nat), DqA K ja G vs ds → DqA K ja G (vs.set i v) (ds.set i d)
  | _, _, _, .nil => .nil
  | _, _, 0, .cons _ tail => .cons r tail
  | _, _, i + 1, .cons q t => .cons q (DqA.set r i t)
theorem DqA.ints : ∀ {vs : List V} {ns : List Int}, DqA K ja G vs (ns.map D.int) → vs = ns.map V.int
  | [], [], _ => rfl
  | _ :: _, [], h => nomatch h
  | [], _ :: _, h => nomatch h
  | v :: vs, n :: ns, h => by
    cases h with
    | cons h t =>
      cases h
      rw [DqA.ints t]
      rfl
theorem DqA.of_ints : ∀ {ns : List Int}, DqA K ja G (ns.map V.int) (ns.map D.int)
  | [] => .nil
  | n :: ns => .cons (.int n) DqA.of_ints

/-! to the layer's own data -/
mutual
theorem Dq.dp : ∀ {v : V} {d : D} {p : PyData}, Dq K ja G v d → d.py = some p → Dp K G v p
  | _, _, _, .non, h => by
    cases h
    exact .non
  | _, _, _, .bl b, h => by
    cases h
    exact .bl b
  | _, _, _, .int i, h => by
    cases h
    exact .int i
  | _, _, _, .str x, h => by
    cases h
    exact .str x
  | _, _, p, .lst (ds := ds) e a, h => by
    unfold D.py at h
    cases hx : D.pys ds with
    | none => rw [hx] at h; cases h
    | some xs =>
      rw [hx] at h
      cases h
      exact .lst (SqL.of e) (DqA.dp a hx)
  | _, _, p, .tup (ds := ds) e a, h => by
    unfold D.py at h
    cases hx : D.pys ds with
    | none => rw [hx] at h; cases h
    | some xs =>
      rw [hx] at h
      cases h
      exact .tup e (DqA.dp a hx)
  | _, _, _, .dct _ _ _, h => by
    unfold D.py at h
    cases h
  | _, _, _, .seq _ _, h => by
    unfold D.py at h
    cases h
  | _, _, _, .obj _, h => by
    unfold D.py at h
    cases h
  | _, _, _, .rp _, h => by
    unfold D.py at h
    cases h
theorem DqA.dp : ∀ {vs : List V} {ds : List D} {ps : List PyData}, DqA K ja G vs ds → D.pys ds = some ps → DpAll K G vs ps
  | _, _, _, .nil, h => by
    cases h
    exact .nil
  | _, _, _, .cons (d := d) (ds := ds) r t, h => by
    unfold D.pys at h
    cases h1 : d.py with
    | none => rw [h1] at h; cases h
    | some a =>
      cases h2 : D.pys ds with
      | none => rw [h1, h2] at h; cases h
      | some b =>
        rw [h1, h2] at h
        cases h
        exact .cons (Dq.dp r h1) (DqA.dp t h2)
end
end
mutual
theorem Dp.ext {K : PySem.W.Frag} {G G' : Hp} (e : Ex G G') : ∀ {v : V} {d : PyData}, Dp K G v d → Dp K G' v d
  | _, _, .non => .non
  | _, _, .bl b => .bl b
  | _, _, .int i => .int i
  | _, _, .str x => .str x
  | _, _, .lst h a => .lst (ex_l e h) (DpAll.ext e a)
  | _, _, .tup h a => .tup (ex_t e h) (DpAll.ext e a)
theorem DpAll.ext {K : PySem.W.Frag} {G G' : Hp} (e : Ex G G') : ∀ {vs : List V} {ds : List PyData}, DpAll K G vs ds → DpAll K G' vs ds
  | _, _, .nil => .nil
  | _, _, .cons h t => .cons (Dp.ext e h) (DpAll.ext e t)
end

/-! ### heaps: G what is data (never changed), H all -/
section
variable (jk : JarK) (ja : JA)
structure Base (G H : Hp) : Prop where
  ex : Ex G H
  jar : ∀ as, ja = some as → jk.J as (as.map H) ∧ ∀ a ∈ as, G a = none
structure Grow (G H G' H' : Hp) : Prop where
  g : Ex G G'
  ex : Ex G' H'
  fr : ∀ a, H a ≠ none → G' a = G a
  kp : ∀ a o, H a = some o → ¬ fp ja a → H' a = some o
  jar : ∀ as, ja = some as → jk.J as (as.map H')
end
section
variable {jk : JarK} {ja : JA} {G H G' H' G1 H1 : Hp} {p : Addr} {o : HO}
theorem jar_there {as : List Addr} (j : jk.J as (as.map H)) {a : Addr} (ha : a ∈ as) : H a ≠ none := jk.there as _ j _ (List.mem_map_of_mem ha)
theorem jar_same {as : List Addr} (j : jk.J as (as.map H)) (h : ∀ a ∈ as, H' a = H a) : jk.J as (as.map H') := by
  rw [List.map_congr_left h]
  exact j
theorem Base.grow (b : Base jk ja G H) (g : Grow jk ja G H G' H') : Base jk ja G' H' := ⟨g.ex, fun as e => by
  obtain ⟨j, h1⟩ := b.jar as e
  exact ⟨g.jar as e, fun a ha => (g.fr a (jar_there j ha)).trans (h1 a ha)⟩⟩
theorem Grow.refl (b : Base jk ja G H) : Grow jk ja G H G H := ⟨Ex.refl G, b.ex, fun _ _ => rfl, fun _ _ h _ => h, fun as e => (b.jar as e).1⟩
theorem Grow.some (g : Grow jk ja G H G' H') {a : Addr} (h : H a ≠ none) : H' a ≠ none := by
  by_cases hf : fp ja a
  · obtain ⟨as, e, hp⟩ := hf
    exact jar_there (g.jar as e) hp
  · cases e : H a with
    | none => exact absurd e h
    | some o =>
      rw [g.kp a o e hf]
      exact fun z => nomatch z
theorem Grow.trans (g : Grow jk ja G H G1 H1) (k : Grow jk ja G1 H1 G' H') : Grow jk ja G H G' H' :=
  ⟨g.g.trans k.g, k.ex, fun a h => (k.fr a (g.some h)).trans (g.fr a h), fun a o h n => k.kp a o (g.kp a o h n) n, k.jar⟩
theorem Base.free (b : Base jk ja G H) (h : H p = none) : G p = none := by
  cases e : G p with
  | none => rfl
  | some o =>
    rw [b.ex p o e] at h
    cases h
/-- what was not there is none of the source's -/
theorem Base.nofp (b : Base jk ja G H) (h : H p = none) : ¬ fp ja p := fun ⟨as, e, hp⟩ => jar_there (b.jar as e).1 hp h
theorem Base.jarNew (b : Base jk ja G H) (h : H p = none) : ∀ as, ja = some as → jk.J as (as.map (upd H p o)) := fun as e =>
  jar_same (b.jar as e).1 fun a ha => upd_ne fun z => jar_there (b.jar as e).1 ha (z ▸ h)
/-- a new object, data from now on -/
theorem Grow.new (b : Base jk ja G H) (h : H p = none) : Grow jk ja G H (upd G p o) (upd H p o) := by
  have hg := b.free h
  refine ⟨Ex.new hg, fun a u e => ?_, fun a ha => ?_, fun a u e _ => ?_, b.jarNew h⟩
  · by_cases ha : a = p
    · subst ha
      rw [upd_same] at e ⊢
      exact e
    · rw [upd_ne ha] at e ⊢
      exact b.ex a u e
  · have : a ≠ p := fun z => ha (z ▸ h)
    rw [upd_ne this]
  · rw [upd_ne (ne_of_none e h)]
    exact e
/-- a new object, not data -/
theorem Grow.newX (b : Base jk ja G H) (h : H p = none) : Grow jk ja G H G (upd H p o) :=
  ⟨Ex.refl G, b.ex.trans (Ex.new h), fun _ _ => rfl, fun a u e _ => by
    rw [upd_ne (ne_of_none e h)]
    exact e, b.jarNew h⟩
/-- a new object becomes data -/
theorem Grow.take (b : Base jk ja G H) (g : Grow jk ja G H G' H') (h : H p = none) (hg : G' p = none) (hp : H' p = Option.some o) : Grow jk ja G H (upd G' p o) H' := by
  refine ⟨g.g.trans (Ex.new hg), fun a u e => ?_, fun a ha => ?_, g.kp, g.jar⟩
  · by_cases ha : a = p
    · subst ha
      rw [upd_same] at e
      cases e
      exact hp
    · rw [upd_ne ha] at e
      exact g.ex a u e
  · have : a ≠ p := fun z => ha (z ▸ h)
    rw [upd_ne this]
    exact g.fr a ha
/-- a new object that is no data changes -/
theorem Grow.mut (b : Base jk ja G H) (g : Grow jk ja G H G' H') (h : H p = none) (hg : G' p = none) : Grow jk ja G H G' (upd H' p o) := by
  refine ⟨g.g, fun a u e => ?_, g.fr, fun a u e n => ?_, fun as e => ?_⟩
  · rw [upd_ne (ne_of_none e hg)]
    exact g.ex a u e
  · rw [upd_ne (ne_of_none e h)]
    exact g.kp a u e n
  · refine jar_same (g.jar as e) fun a ha => upd_ne fun z => ?_
    subst z
    exact jar_there (b.jar as e).1 ha h
/-- the data heap may be smaller (what is dropped is never asked again) -/
theorem Grow.back (b : Base jk ja G H) (g : Grow jk ja G H G' H') : Grow jk ja G H G H' :=
  ⟨Ex.refl G, g.g.trans g.ex, fun _ _ => rfl, g.kp, g.jar⟩
end
end Pd
set_option maxHeartbeats 4100000
/-! Judgements over data: what holds of a piece of syntax whose data meaning is m. -/
namespace Pd
open PySem PySem.Spec L2 Evl
open PyProof.Rows hiding St

/-! ### the widest readings -/
section
variable (X : Cx)
def sem (e : Expr) : TE := fun σ H Q => ∀ pins s, Inv X pins σ H s → wpAny (model X.prog X.w) X.A (eval e X.env) (EP X pins σ Q) X.xe s
def semT (e : Expr) : TT := fun σ H Q => ∀ pins s, Inv X pins σ H s → wpAny (model X.prog X.w) X.A (isTrue e X.env (eval e X.env)) (TP X pins σ Q) X.xe s
def semW (e : Expr) : TT := fun σ H Q => ∀ whole pins s, Inv X pins σ H s → wpAny (model X.prog X.w) X.A (isTrue e X.env whole) (TP X pins σ Q) X.xe s
def semP (ifs : List Expr) : TT := fun σ H Q => ∀ pins s, Inv X pins σ H s →
  wpAny (model X.prog X.w) X.A (forIn ifs true fun cond sofar => if sofar = true then do let now ← isTrue cond X.env (eval cond X.env); pure (ForInStep.yield now) else pure (ForInStep.yield sofar)) (TP X pins σ Q) X.xe s
def semA (es : List Expr) : TA := fun σ H Q => ∀ pos pins s, Inv X pins σ H s → wpAny (model X.prog X.w) X.A (spliced (backTo pos (starEach es X.env))) (AP X pins σ Q) X.xe s
def semK (kws : List Keyword) : TA := fun σ H Q => ∀ pos pins s, Inv X pins σ H s → wpAny (model X.prog X.w) X.A (evalAll ((backToKw pos (keywordEach kws X.env)).map (·.2))) (AP X pins σ Q) X.xe s
def semI (tg iter : Expr) : TI := fun σ H R => ∀ pins s, Inv X pins σ H s →
  wpAny (model X.prog X.w) X.A (eval iter X.env) (fun over t => wpAny (model X.prog X.w) X.A (pyIter over) (PIE X pins σ tg R) X.xe t) X.xe s
def semG (tg : Expr) : TG := fun v σ H Q => ∀ pins s u, Inv X pins σ H s → RelV v u → wpAny (model X.prog X.w) X.A (assign tg X.env u) (fun _ s' => ∃ σ' H', Inv X pins σ' H' s' ∧ Q σ' H') X.xe s
def semS (st : Stmt) : TS := fun D σ H => ∀ pins s, Inv X pins σ H s → wpAny (model X.prog X.w) X.A (exec st X.env) (SP X pins D) X.xe s
def semB (st : List Stmt) : TS := fun D σ H => ∀ pins s, Inv X pins σ H s → wpAny (model X.prog X.w) X.A (execs st X.env) (SP X pins D) X.xe s
variable {X}
theorem pe_sem {e : Expr} : PE X e (sem X e) := ⟨fun pins s _ _ _ I h => h pins s I⟩
theorem pt_sem {e : Expr} : PT X e (semT X e) := ⟨fun pins s _ _ _ I h => h pins s I⟩
theorem pw_sem {e : Expr} : PW X e (semW X e) := ⟨fun wh pins s _ _ _ I h => h wh pins s I⟩
theorem pts_sem {ifs : List Expr} : PTs X ifs (semP X ifs) := ⟨fun pins s _ _ _ I h => h pins s I⟩
theorem pa_sem {es : List Expr} : PA X es (semA X es) := ⟨fun pos pins s _ _ _ I h => h pos pins s I⟩
theorem pk_sem {kws : List Keyword} : PK X kws (semK X kws) := ⟨fun pos pins s _ _ _ I h => h pos pins s I⟩
theorem pi_sem {tg iter : Expr} : PI X tg iter (semI X tg iter) := ⟨fun pins s _ _ _ I h => h pins s I⟩
theorem pg_sem {tg : Expr} : PG X tg (semG X tg) := ⟨fun pins s _ _ _ u _ I r h => h pins s u I r⟩
theorem ps_sem {st : Stmt} : PS X st (semS X st) := ⟨fun pins s _ _ _ I h => h pins s I⟩
theorem pss_sem {st : List Stmt} : PSs X st (semB X st) := ⟨fun pins s _ _ _ I h => h pins s I⟩
end

/-! ### the slots beside the data -/
abbrev VE := List (Option D)
abbrev MC := VE → Tr D
abbrev ML := VE → Tr (List D)
abbrev MT := VE → Tr Bool
structure Sl (K : PySem.W.Frag) (ja : JA) (G : Hp) (ρ : VE) (σ : St) : Prop where
  len : ρ.length ≤ σ.length
  at_ : ∀ (i : Nat) (d : D), ρ[i]? = some (some d) → ∃ v, σ[i]? = some (some v) ∧ Dq K ja G v d
theorem Sl.mono {K : PySem.W.Frag} {ja : JA} {G G' : Hp} {ρ : VE} {σ : St} (s : Sl K ja G ρ σ) (e : Ex G G') : Sl K ja G' ρ σ :=
  ⟨s.len, fun i d h => let ⟨v, h1, h2⟩ := s.at_ i d h; ⟨v, h1, h2.mono e⟩⟩
theorem Sl.set {K : PySem.W.Frag} {ja : JA} {G : Hp} {ρ : VE} {σ : St} (s : Sl K ja G ρ σ) {v : V} {d : D} (h : Dq K ja G v d) (i : Nat) : Sl K ja G (ρ.set i (some d)) (σ.set i (some v)) := by
  refine ⟨by rw [List.length_set, List.length_set]; exact s.len, fun j e hj => ?_⟩
  by_cases hi : i = j
  · subst hi
    by_cases hl : i < ρ.length
    · rw [List.getElem?_set_self hl] at hj
      cases hj
      exact ⟨v, List.getElem?_set_self (Nat.lt_of_lt_of_le hl s.len), h⟩
    · rw [List.getElem?_eq_none (by rw [List.length_set]; omega)] at hj
      cases hj
  · rw [List.getElem?_set_ne hi] at hj
    obtain ⟨w, h1, h2⟩ := s.at_ j e hj
    exact ⟨w, by rw [List.getElem?_set_ne hi]; exact h1, h2⟩
def wipeE (ρ : VE) : List Nat → VE
  | [] => ρ
  | v :: vs => (wipeE ρ vs).set v none
theorem wipeE_length (ρ : VE) : ∀ vs : List Nat, (wipeE ρ vs).length = ρ.length
  | [] => rfl
  | v :: vs => by unfold wipeE; rw [List.length_set, wipeE_length ρ vs]
theorem wipeE_some {ρ : VE} {i : Nat} {d : D} : ∀ {vs : List Nat}, (wipeE ρ vs)[i]? = some (some d) → ρ[i]? = some (some d) ∧ i ∉ vs
  | [], h => ⟨h, by simp⟩
  | v :: vs, h => by
    unfold wipeE at h
    by_cases hi : v = i
    · subst hi
      by_cases hv : v < (wipeE ρ vs).length
      · rw [List.getElem?_set_self hv] at h
        cases h
      · rw [List.getElem?_eq_none (by simpa using hv)] at h
        cases h
    · rw [List.getElem?_set_ne hi] at h
      obtain ⟨h1, h2⟩ := wipeE_some h
      refine ⟨h1, ?_⟩
      simp only [not_or, List.mem_cons]
      exact ⟨fun e => hi e.symm, h2⟩
theorem Sl.wipe {K : PySem.W.Frag} {ja : JA} {G : Hp} {ρ : VE} {σ : St} (s : Sl K ja G ρ σ) (vs : List Nat) : Sl K ja G (wipeE ρ vs) (wipe σ vs) := by
  refine ⟨by rw [wipeE_length, wipe_length]; exact s.len, fun i d h => ?_⟩
  obtain ⟨h1, h2⟩ := wipeE_some h
  obtain ⟨v, h3, h4⟩ := s.at_ i d h1
  exact ⟨v, by rw [wipe_out h2]; exact h3, h4⟩
theorem wipe_set_in {σ : St} {i : Nat} {x : Option V} : ∀ {vs : List Nat}, i ∈ vs → wipe (σ.set i x) vs = wipe σ vs
  | [], h => by simp at h
  | v :: vs, h => by
    unfold wipe
    by_cases hv : i ∈ vs
    · rw [wipe_set_in hv]
    · have e : i = v := by
        rcases List.mem_cons.mp h with e | e
        · exact e
        · exact absurd e hv
      subst e
      have sw : ∀ (us : List Nat), i ∉ us → wipe (σ.set i x) us = (wipe σ us).set i x := by
        intro us
        induction us with
        | nil => intro _; rfl
        | cons u us ih =>
          intro hu
          have hne : i ≠ u := fun z => hu (z ▸ List.mem_cons_self)
          unfold wipe
          rw [ih fun z => hu (List.mem_cons_of_mem _ z), List.set_comm _ _ hne]
      rw [sw vs hv, List.set_set]
theorem wipe_wipe {σ : St} : ∀ {us vs : List Nat}, (∀ u ∈ us, u ∈ vs) → wipe (wipe σ us) vs = wipe σ vs
  | [], _, _ => rfl
  | u :: us, vs, h => by
    show wipe ((wipe σ us).set u none) vs = wipe σ vs
    rw [wipe_set_in (h u List.mem_cons_self), wipe_wipe fun z hz => h z (List.mem_cons_of_mem _ hz)]

/-! ### targets -/
inductive Pt where
  | nm (i : Nat)
  | tp (ps : List Pt)
mutual
def Pt.to : Pt → D → Option (List (Nat × D))
  | .nm i, d => some [(i, d)]
  | .tp ps, .tup ds => Pt.tos ps ds
  | .tp _, _ => none
def Pt.tos : List Pt → List D → Option (List (Nat × D))
  | [], [] => some []
  | p :: ps, d :: ds => match Pt.to p d, Pt.tos ps ds with | some a, some b => some (a ++ b) | _, _ => none
  | [], _ :: _ => none
  | _ :: _, [] => none
end
def setE (ρ : VE) (as : List (Nat × D)) : VE := as.foldl (fun r p => r.set p.1 (some p.2)) ρ
def setV (σ : St) (bs : List (Nat × V)) : St := bs.foldl (fun r p => r.set p.1 (some p.2)) σ
def PairA (K : PySem.W.Frag) (ja : JA) (G : Hp) : List (Nat × V) → List (Nat × D) → Prop := Paired fun p q => p.1 = q.1 ∧ Dq K ja G p.2 q.2
theorem PairA.append {K : PySem.W.Frag} {ja : JA} {G : Hp} : ∀ {a b : List (Nat × V)} {c d : List (Nat × D)}, PairA K ja G a c → PairA K ja G b d → PairA K ja G (a ++ b) (c ++ d)
  | _, _, _, _, .nil, h => h
  | _, _, _, _, .cons r t, h => .cons r (PairA.append t h)
theorem setV_append (σ : St) (a b : List (Nat × V)) : setV σ (a ++ b) = setV (setV σ a) b := by unfold setV; rw [List.foldl_append]
theorem Sl.sets {K : PySem.W.Frag} {ja : JA} {G : Hp} {bs : List (Nat × V)} {as : List (Nat × D)} (h : PairA K ja G bs as) : ∀ {ρ : VE} {σ : St}, Sl K ja G ρ σ → Sl K ja G (setE ρ as) (setV σ bs) := by
  induction h with
  | nil => exact fun s => s
  | cons r t ih =>
    rename_i b a xs ys
    intro ρ σ s
    obtain ⟨b1, b2⟩ := b
    obtain ⟨a1, a2⟩ := a
    obtain ⟨e, h⟩ := r
    have e : b1 = a1 := e
    subst e
    exact ih (s.set h b1)
theorem wipe_setV {vs : List Nat} : ∀ {bs : List (Nat × V)} {σ : St}, (∀ p ∈ bs, p.1 ∈ vs) → wipe (setV σ bs) vs = wipe σ vs
  | [], _, _ => rfl
  | b :: bs, σ, h => by
    show wipe (setV (σ.set b.1 (some b.2)) bs) vs = wipe σ vs
    rw [wipe_setV fun p hp => h p (List.mem_cons_of_mem _ hp), wipe_set_in (h b List.mem_cons_self)]
theorem PairA.fst {K : PySem.W.Frag} {ja : JA} {G : Hp} : ∀ {bs : List (Nat × V)} {as : List (Nat × D)} {P : Nat → Prop}, PairA K ja G bs as → (∀ p ∈ as, P p.1) → ∀ p ∈ bs, P p.1
  | _, _, _, .nil, _, p, hp => by simp at hp
  | _, _, P, .cons (a := b) r t, h, p, hp => by
    rcases List.mem_cons.mp hp with eq | hp
    · rw [eq, r.1]
      exact h _ List.mem_cons_self
    · exact PairA.fst t (fun q hq => h q (List.mem_cons_of_mem _ hq)) p hp

/-! ### the judgements -/
section
variable (X : Cx) (jk : JarK) (ja : JA)
/-- what is wanted behind data -/
def Aft (G H : Hp) (Q : VK) (d : D) : Prop := ∀ v G' H', Grow jk ja G H G' H' → Dq X.K ja G' v d → Q v H'
def AftL (G H : Hp) (Q : VK) (ds : List D) : Prop := ∀ p xs G' H', Grow jk ja G H G' H' → H p = none → G' p = none → H' p = some (.lst xs) → DqA X.K ja G' xs ds → Q (.ref p) H'
def AftT (G H : Hp) (Q : Bool → Hp → Prop) (b : Bool) : Prop := ∀ G' H', Grow jk ja G H G' H' → Q b H'
def AftA (G H : Hp) (Q : List V → Hp → Prop) (ds : List D) : Prop := ∀ vs G' H', Grow jk ja G H G' H' → DqA X.K ja G' vs ds → Q vs H'
def EOk (e : Expr) (m : MC) : Prop := ∀ ρ σ G H Q, Base jk ja G H → Sl X.K ja G ρ σ → (m ρ).all (Aft X jk ja G H Q) → sem X e σ H Q
def LOk (e : Expr) (m : ML) : Prop := ∀ ρ σ G H Q, Base jk ja G H → Sl X.K ja G ρ σ → (m ρ).all (AftL X jk ja G H Q) → sem X e σ H Q
def TOk (e : Expr) (m : MT) : Prop := ∀ ρ σ G H Q, Base jk ja G H → Sl X.K ja G ρ σ → (m ρ).all (AftT jk ja G H Q) → semT X e σ H Q
def WOk (e : Expr) (m : MT) : Prop := ∀ ρ σ G H Q, Base jk ja G H → Sl X.K ja G ρ σ → (m ρ).all (AftT jk ja G H Q) → semW X e σ H Q
def POk (ifs : List Expr) (m : MT) : Prop := ∀ ρ σ G H Q, Base jk ja G H → Sl X.K ja G ρ σ → (m ρ).all (AftT jk ja G H Q) → semP X ifs σ H Q
def AOk (es : List Expr) (m : ML) : Prop := ∀ ρ σ G H Q, Base jk ja G H → Sl X.K ja G ρ σ → (m ρ).all (AftA X jk ja G H Q) → semA X es σ H Q
def KOk (kws : List Keyword) (m : ML) : Prop := ∀ ρ σ G H Q, Base jk ja G H → Sl X.K ja G ρ σ → (m ρ).all (AftA X jk ja G H Q) → semK X kws σ H Q
/-- what is walked, item by item -/
def WalkD (J : It) (G : Hp) (ds : List D) : Prop := ∃ (Gp : Hp → Prop) (Y : Nat → Hp → V → Hp → Prop), Walk J ds.length Gp Y ∧ (∀ G1 H1, Ex G G1 → Ex G1 H1 → Gp H1) ∧
  ∀ i d H1 x H2 G1, ds[i]? = some d → Ex G G1 → Base jk ja G1 H1 → Y i H1 x H2 → ∃ G2, Grow jk ja G1 H1 G2 H2 ∧ Dq X.K ja G2 x d
def IOk (tg iter : Expr) (m : ML) : Prop := ∀ ρ σ G H (R : It → Hp → Prop), Base jk ja G H → Sl X.K ja G ρ σ → (m ρ).all (fun ds => ∀ J G' H', Grow jk ja G H G' H' → WalkD X jk ja J G' ds → R J H') → semI X tg iter σ H R
def GOk (tg : Expr) (p : Pt) : Prop := ∀ v d as σ G H (Q : St → Hp → Prop), Base jk ja G H → Dq X.K ja G v d → p.to d = some as → (∀ bs, PairA X.K ja G bs as → Q (setV σ bs) H) → semG X tg v σ H Q
def GsOk (tgs : List Expr) (ps : List Pt) : Prop := ∀ vs ds as σ G H (Q : St → Hp → Prop), Base jk ja G H → DqA X.K ja G vs ds → Pt.tos ps ds = some as → (∀ bs, PairA X.K ja G bs as → Q (setV σ bs) H) →
  ∀ pins s us, Inv X pins σ H s → Vals vs us → wpAny (model X.prog X.w) X.A (assignInOrder ((assignEach tgs X.env).map (·.2)) us) (fun _ s' => ∃ σ' H', Inv X pins σ' H' s' ∧ Q σ' H') X.xe s
end

section
variable {X : Cx} {jk : JarK} {ja : JA} {e a b : Expr} {es : List Expr} {m ma mb : MC} {pos : Pos}
theorem EOk.by {t : TE} (hp : PE X e t) (h : ∀ ρ σ G H Q, Base jk ja G H → Sl X.K ja G ρ σ → (m ρ).all (Aft X jk ja G H Q) → t σ H Q) : EOk X jk ja e m :=
  fun ρ σ G H Q b s x pins st I => hp.run pins st σ H Q I (h ρ σ G H Q b s x)
theorem LOk.by {m : ML} {t : TE} (hp : PE X e t) (h : ∀ ρ σ G H Q, Base jk ja G H → Sl X.K ja G ρ σ → (m ρ).all (AftL X jk ja G H Q) → t σ H Q) : LOk X jk ja e m :=
  fun ρ σ G H Q b s x pins st I => hp.run pins st σ H Q I (h ρ σ G H Q b s x)
theorem TOk.by {m : MT} {t : TT} (hp : PT X e t) (h : ∀ ρ σ G H Q, Base jk ja G H → Sl X.K ja G ρ σ → (m ρ).all (AftT jk ja G H Q) → t σ H Q) : TOk X jk ja e m :=
  fun ρ σ G H Q b s x pins st I => hp.run pins st σ H Q I (h ρ σ G H Q b s x)
theorem WOk.by {m : MT} {t : TT} (hp : PW X e t) (h : ∀ ρ σ G H Q, Base jk ja G H → Sl X.K ja G ρ σ → (m ρ).all (AftT jk ja G H Q) → t σ H Q) : WOk X jk ja e m :=
  fun ρ σ G H Q b s x wh pins st I => hp.run wh pins st σ H Q I (h ρ σ G H Q b s x)

/-- a new list is data -/
theorem LOk.toE {m : ML} (h : LOk X jk ja e m) : EOk X jk ja e fun ρ => (m ρ).bind fun ds => .ret (.lst ds) := fun ρ σ G H Q b s x =>
  h ρ σ G H Q b s (Tr.all_mono (Tr.all_bind x) fun ds (q : Aft X jk ja G H Q (.lst ds)) p xs G' H' g hp hg hl hd =>
    q (.ref p) (upd G' p (.lst xs)) H' (g.take b hp hg hl) (.lst upd_same (hd.mono (Ex.new hg))))

/-! ### names, constants -/
def mVar (i : Nat) : MC := fun ρ => match ρ[i]? with | some (some d) => .ret d | _ => .fail
theorem eok_var (i : Nat) {x : Str} (hN : X.N[i]? = some x := by rfl) (hv : Vis X.env.scope x := by first | exact Or.inl rfl | exact Or.inr (Or.inl rfl) | exact Or.inr (Or.inr rfl)) (hd : (x == ("__debug__" : Str)) = false := by decide)
    (hcd : (x == ("__classdict__" : Str)) = false := by decide) : EOk X jk ja (.Name x pos) (mVar i) :=
  EOk.by (pe_var hN hv hd hcd) fun ρ σ G H Q b s h => by
    unfold mVar at h
    cases e : ρ[i]? with
    | none => rw [e] at h; exact h.elim
    | some o =>
      cases o with
      | none => rw [e] at h; exact h.elim
      | some d =>
        rw [e] at h
        obtain ⟨v, h1, h2⟩ := s.at_ i d e
        exact ⟨v, h1, h v G H (Grow.refl b) h2⟩
def mC (d : D) : MC := fun _ => .ret d
theorem eok_int {i : Int} {j} : EOk X jk ja (.Constant (.int i) j pos) (mC (.int i)) := EOk.by pe_int fun ρ σ G H Q b s h => h _ G H (Grow.refl b) (.int i)
theorem eok_bl {i : Bool} {j} : EOk X jk ja (.Constant (.bool i) j pos) (mC (.bl i)) := EOk.by pe_bl fun ρ σ G H Q b s h => h _ G H (Grow.refl b) (.bl i)
theorem eok_non {j} : EOk X jk ja (.Constant .none j pos) (mC .non) := EOk.by pe_non fun ρ σ G H Q b s h => h _ G H (Grow.refl b) .non
theorem eok_str {i : Str} {j} : EOk X jk ja (.Constant (.str i) j pos) (mC (.str i)) := EOk.by pe_str fun ρ σ G H Q b s h => h _ G H (Grow.refl b) (.str i)

/-! ### operators -/
/-- a two-place operation on values does what f does on data -/
def R2Ok (X : Cx) (jk : JarK) (ja : JA) (r : R2) (f : D → D → Tr D) : Prop := ∀ G H x y d e Q, Base jk ja G H → Dq X.K ja G x d → Dq X.K ja G y e → (f d e).all (Aft X jk ja G H Q) → r x y H Q
def R2L (X : Cx) (jk : JarK) (ja : JA) (r : R2) (f : D → D → Tr (List D)) : Prop := ∀ G H x y d e Q, Base jk ja G H → Dq X.K ja G x d → Dq X.K ja G y e → (f d e).all (AftL X jk ja G H Q) → r x y H Q
def mBin (f : D → D → Tr D) (ma mb : MC) : MC := fun ρ => (ma ρ).bind fun d => (mb ρ).bind fun e => f d e
def mBinL (f : D → D → Tr (List D)) (ma mb : MC) : ML := fun ρ => (ma ρ).bind fun d => (mb ρ).bind fun e => f d e
/-- first one expression, then another -/
theorem two {β : Type} {f : D → D → Tr β} {P : β → Prop} {ρ : VE} {σ : St} {G H : Hp} {R : V → V → Hp → Prop} (ha : EOk X jk ja a ma) (hb : EOk X jk ja b mb) (bs : Base jk ja G H) (s : Sl X.K ja G ρ σ)
    (h : ((ma ρ).bind fun d => (mb ρ).bind fun e => f d e).all P) (k : ∀ x y d e G' H', Grow jk ja G H G' H' → Dq X.K ja G' x d → Dq X.K ja G' y e → (f d e).all P → R x y H') :
    sem X a σ H fun x H1 => sem X b σ H1 fun y H2 => R x y H2 :=
  ha ρ σ G H _ bs s (Tr.all_mono (Tr.all_bind h) fun d h1 x G1 H1 g1 d1 =>
    hb ρ σ G1 H1 _ (bs.grow g1) (s.mono g1.g) (Tr.all_mono (Tr.all_bind h1) fun e h2 y G2 H2 g2 d2 => k x y d e G2 H2 (g1.trans g2) (d1.mono g2.g) d2 h2))
theorem Aft.later {G H G1 H1 : Hp} {Q : VK} (g : Grow jk ja G H G1 H1) {d : D} (h : Aft X jk ja G H Q d) : Aft X jk ja G1 H1 Q d := fun v G' H' k q => h v G' H' (g.trans k) q
theorem AftL.later {G H G1 H1 : Hp} {Q : VK} (b : Base jk ja G H) (g : Grow jk ja G H G1 H1) {d : List D} (h : AftL X jk ja G H Q d) : AftL X jk ja G1 H1 Q d := fun p xs G' H' k hp hg hl q =>
  h p xs G' H' (g.trans k) (by
    cases e : H p with
    | none => rfl
    | some o => exact absurd hp (g.some (by rw [e]; exact fun z => nomatch z))) hg hl q
theorem AftT.later {G H G1 H1 : Hp} {Q : Bool → Hp → Prop} (g : Grow jk ja G H G1 H1) {d : Bool} (h : AftT jk ja G H Q d) : AftT jk ja G1 H1 Q d := fun G' H' k => h G' H' (g.trans k)
theorem AftA.later {G H G1 H1 : Hp} {Q : List V → Hp → Prop} (g : Grow jk ja G H G1 H1) {d : List D} (h : AftA X jk ja G H Q d) : AftA X jk ja G1 H1 Q d := fun v G' H' k q => h v G' H' (g.trans k) q
theorem eok_op {op : Operator} {r : R2} {f : D → D → Tr D} (ho : OpR X (binaryOp op) r) (hr : R2Ok X jk ja r f) (ha : EOk X jk ja a ma) (hb : EOk X jk ja b mb) : EOk X jk ja (.BinOp a op b pos) (mBin f ma mb) :=
  EOk.by (pe_op ho pe_sem pe_sem) fun ρ σ G H Q bs s h => two ha hb bs s h fun x y d e G' H' g d1 d2 q => hr G' H' x y d e Q (bs.grow g) d1 d2 (Tr.all_mono q fun _ z => z.later g)
theorem lok_op {op : Operator} {r : R2} {f : D → D → Tr (List D)} (ho : OpR X (binaryOp op) r) (hr : R2L X jk ja r f) (ha : EOk X jk ja a ma) (hb : EOk X jk ja b mb) : LOk X jk ja (.BinOp a op b pos) (mBinL f ma mb) :=
  LOk.by (pe_op ho pe_sem pe_sem) fun ρ σ G H Q bs s h => two ha hb bs s h fun x y d e G' H' g d1 d2 q => hr G' H' x y d e Q (bs.grow g) d1 d2 (Tr.all_mono q fun _ z => z.later bs g)
theorem eok_cmp {op : CmpOp} {r : R2} {f : D → D → Tr D} (ho : OpR X (compareOp op) r) (hr : R2Ok X jk ja r f) (ha : EOk X jk ja a ma) (hb : EOk X jk ja b mb) (hm : behindInMarks op b = false) : EOk X jk ja (.Compare a [op] [b] pos) (mBin f ma mb) :=
  EOk.by (pe_cmpR ho pe_sem pe_sem hm) fun ρ σ G H Q bs s h => two ha hb bs s h fun x y d e G' H' g d1 d2 q => hr G' H' x y d e Q (bs.grow g) d1 d2 (Tr.all_mono q fun _ z => z.later g)
theorem eok_ix {r : R2} {f : D → D → Tr D} (ho : IxR X r) (hr : R2Ok X jk ja r f) (ha : EOk X jk ja a ma) (hb : EOk X jk ja b mb) (hs : PlainIx b) : EOk X jk ja (.Subscript a b pos) (mBin f ma mb) :=
  EOk.by (pe_ix ho pe_sem pe_sem hs) fun ρ σ G H Q bs s h => two ha hb bs s h fun x y d e G' H' g d1 d2 q => hr G' H' x y d e Q (bs.grow g) d1 d2 (Tr.all_mono q fun _ z => z.later g)
def asB : D → Tr Bool
  | .bl b => .ret b
  | _ => .fail
/-- a comparison as a test -/
def mTest (m : MC) : MT := fun ρ => (m ρ).bind asB
theorem asB_all {P : Bool → Prop} {d : D} (h : (asB d).all P) : ∃ c, d = .bl c ∧ P c := by
  cases d with
  | bl c => exact ⟨c, rfl, h⟩
  | _ => exact h.elim
theorem tok_cmp {op : CmpOp} {r : R2} {f : D → D → Tr D} (ho : OpR X (compareOp op) r) (hr : R2Ok X jk ja r f) (ha : EOk X jk ja a ma) (hb : EOk X jk ja b mb) (hm : behindInMarks op b = false) : TOk X jk ja (.Compare a [op] [b] pos) (mTest (mBin f ma mb)) :=
  TOk.by (pt_cmpR ho pe_sem pe_sem hm) fun ρ σ G H Q bs s h => by
    unfold mTest mBin at h
    rw [Tr.bind_assoc] at h
    refine two (f := fun d e => (f d e).bind asB) ha hb bs s (P := AftT jk ja G H Q) (by simpa only [Tr.bind_assoc] using h) fun x y d e G' H' g d1 d2 q => hr G' H' x y d e _ (bs.grow g) d1 d2 (Tr.all_mono (Tr.all_bind q) fun z hz v G2 H2 g2 dq => ?_)
    obtain ⟨c, rfl, hc⟩ := asB_all hz
    cases dq
    exact ⟨c, rfl, hc G2 H2 (g.trans g2)⟩

/-! ### truth -/
theorem ite_all {α : Type} {P : α → Prop} {c : Prop} [Decidable c] {t : Tr α} (h : (if c then t else .fail).all P) : c ∧ t.all P := by
  by_cases hc : c
  · rw [if_pos hc] at h
    exact ⟨hc, h⟩
  · rw [if_neg hc] at h
    exact h.elim
def truD : D → Tr Bool
  | .non => .ret false
  | .bl b => .ret b
  | .int i => .ret (i != 0)
  | .str x => if x.length ≤ sizeLine then .ret ((x.length : Int) != 0) else .fail
  | .lst ds => .ret (!ds.isEmpty)
  | .tup ds => .ret (!ds.isEmpty)
  | .dct kvs => .ret (!kvs.isEmpty)
  | .seq ds => .ret (!ds.isEmpty)
  | _ => .fail
theorem isEmpty_len {α β : Type} {xs : List α} {ys : List β} (h : xs.length = ys.length) : xs.isEmpty = ys.isEmpty := by
  cases xs <;> cases ys <;> first | rfl | simp at h
theorem tru_of {G H : Hp} {v : V} {d : D} (bs : Base jk ja G H) (q : Dq X.K ja G v d) {P : Bool → Prop} (h : (truD d).all P) : ∃ k, TruV X.K v H k ∧ P k := by
  cases q with
  | non => exact ⟨false, rfl, h⟩
  | bl b => exact ⟨b, rfl, h⟩
  | int i => exact ⟨_, rfl, h⟩
  | str x =>
    have h : (if x.length ≤ sizeLine then Tr.ret ((x.length : Int) != 0) else .fail).all P := h
    obtain ⟨h1, h2⟩ := ite_all h
    exact ⟨_, ⟨h1, rfl⟩, h2⟩
  | lst e t => exact ⟨_, .inl ⟨_, sq_of (bs.ex _ _ e), rfl⟩, by rw [isEmpty_len t.length]; exact h⟩
  | tup e t => exact ⟨_, .inr (.inl ⟨_, ex_t bs.ex e, rfl⟩), by rw [isEmpty_len t.length]; exact h⟩
  | seq e t => exact ⟨_, .inl ⟨_, ex_l bs.ex e, rfl⟩, by rw [isEmpty_len t.length]; exact h⟩
  | dct e l t =>
    refine ⟨_, .inr (.inr ⟨_, bs.ex _ _ e, rfl⟩), ?_⟩
    rename_i ks xs ds
    have h : P (!(ks.zip ds).isEmpty) := h
    rw [isEmpty_len (xs := ks.zip xs) (ys := ks.zip ds) (by rw [List.length_zip, List.length_zip, t.length])]
    exact h
  | obj _ => exact h.elim
  | rp _ => exact h.elim
theorem tok_tru (ha : EOk X jk ja a ma) (he : ∀ whole, isTrue a X.env whole = (do let v ← whole; standAt a.pos; holding [v] (truthy v)) := by intro _; rfl) : TOk X jk ja a fun ρ => (ma ρ).bind truD :=
  TOk.by (pt_truth pe_sem he) fun ρ σ G H Q bs s h => ha ρ σ G H _ bs s (Tr.all_mono (Tr.all_bind h) fun d hd v G1 H1 g1 q => by
    obtain ⟨k, t, hk⟩ := tru_of (bs.grow g1) q hd
    exact ⟨k, t, hk G1 H1 g1⟩)
theorem tok_not {mt : MT} (ha : TOk X jk ja a mt) : TOk X jk ja (.UnaryOp .Not a pos) fun ρ => (mt ρ).bind fun b => .ret !b :=
  TOk.by (pt_not pt_sem) fun ρ σ G H Q bs s h => ha ρ σ G H _ bs s (Tr.all_mono (Tr.all_bind h) fun b hb => hb)
def mAnd (mt mu : MT) : MT := fun ρ => (mt ρ).bind fun b => if b = true then mu ρ else .ret false
def mOr (mt mu : MT) : MT := fun ρ => (mt ρ).bind fun b => if b = true then .ret true else mu ρ
theorem wok_and1 {mt : MT} (ha : TOk X jk ja a mt) : WOk X jk ja (.BoolOp .And [a] pos) mt := WOk.by (pw_and1 pt_sem) fun ρ σ G H Q bs s h => ha ρ σ G H Q bs s h
theorem wok_or1 {mt : MT} (ha : TOk X jk ja a mt) : WOk X jk ja (.BoolOp .Or [a] pos) mt := WOk.by (pw_or1 pt_sem) fun ρ σ G H Q bs s h => ha ρ σ G H Q bs s h
theorem wok_and {mt mu : MT} {rest : List Expr} (ha : TOk X jk ja a mt) (hb : WOk X jk ja (.BoolOp .And (b :: rest) pos) mu) : WOk X jk ja (.BoolOp .And (a :: b :: rest) pos) (mAnd mt mu) :=
  WOk.by (pw_and pt_sem pw_sem) fun ρ σ G H Q bs s h => ha ρ σ G H _ bs s (Tr.all_mono (Tr.all_bind h) fun c hc G1 H1 g1 => by
    cases c with
    | true => exact iteT (hb ρ σ G1 H1 Q (bs.grow g1) (s.mono g1.g) (Tr.all_mono hc fun _ z => z.later g1))
    | false => exact iteF (hc G1 H1 g1))
theorem wok_or {mt mu : MT} {rest : List Expr} (ha : TOk X jk ja a mt) (hb : WOk X jk ja (.BoolOp .Or (b :: rest) pos) mu) : WOk X jk ja (.BoolOp .Or (a :: b :: rest) pos) (mOr mt mu) :=
  WOk.by (pw_or pt_sem pw_sem) fun ρ σ G H Q bs s h => ha ρ σ G H _ bs s (Tr.all_mono (Tr.all_bind h) fun c hc G1 H1 g1 => by
    cases c with
    | true => exact iteT (hc G1 H1 g1)
    | false => exact iteF (hb ρ σ G1 H1 Q (bs.grow g1) (s.mono g1.g) (Tr.all_mono hc fun _ z => z.later g1)))
theorem WOk.t {mt : MT} (h : WOk X jk ja e mt) : TOk X jk ja e mt := fun ρ σ G H Q bs s x pins st I => h ρ σ G H Q bs s x _ pins st I
theorem pok_nil : POk X jk ja [] fun _ => .ret true := fun ρ σ G H Q bs s h pins st I => pts_nil.run pins st σ H Q I (h G H (Grow.refl bs))
theorem pok_one {mt : MT} (ha : TOk X jk ja a mt) : POk X jk ja [a] mt := fun ρ σ G H Q bs s h pins st I => (pts_one pt_sem).run pins st σ H Q I (ha ρ σ G H Q bs s h)
def mIf (mt : MT) (ma mb : MC) : MC := fun ρ => (mt ρ).bind fun c => if c = true then ma ρ else mb ρ
theorem eok_if {c : Expr} {mt : MT} (hc : TOk X jk ja c mt) (ha : EOk X jk ja a ma) (hb : EOk X jk ja b mb) : EOk X jk ja (.IfExp c a b pos) (mIf mt ma mb) :=
  EOk.by (pe_ifExp pt_sem pe_sem pe_sem) fun ρ σ G H Q bs s h => hc ρ σ G H _ bs s (Tr.all_mono (Tr.all_bind h) fun k hk G1 H1 g1 => by
    cases k with
    | true => exact iteT (ha ρ σ G1 H1 Q (bs.grow g1) (s.mono g1.g) (Tr.all_mono hk fun _ z => z.later g1))
    | false => exact iteF (hb ρ σ G1 H1 Q (bs.grow g1) (s.mono g1.g) (Tr.all_mono hk fun _ z => z.later g1)))

/-! ### argument lists, displays, calls -/
def mNil : ML := fun _ => .ret []
def mCons (ma : MC) (mr : ML) : ML := fun ρ => (ma ρ).bind fun d => (mr ρ).bind fun ds => .ret (d :: ds)
theorem aok_nil : AOk X jk ja [] mNil := fun ρ σ G H Q bs s h pos pins st I => pa_nil.run pos pins st σ H Q I (h [] G H (Grow.refl bs) .nil)
theorem args_cons {Q : List V → Hp → Prop} {tr : TA} {mr : ML} {ρ : VE} {σ : St} {G H : Hp} (ha : EOk X jk ja a ma) (hr : ∀ G H Q, Base jk ja G H → Sl X.K ja G ρ σ → (mr ρ).all (AftA X jk ja G H Q) → tr σ H Q) (bs : Base jk ja G H) (s : Sl X.K ja G ρ σ)
    (h : (mCons ma mr ρ).all (AftA X jk ja G H Q)) : tCons (sem X a) tr σ H Q :=
  ha ρ σ G H _ bs s (Tr.all_mono (Tr.all_bind h) fun d h1 x G1 H1 g1 d1 => hr G1 H1 _ (bs.grow g1) (s.mono g1.g) (Tr.all_mono (Tr.all_bind h1) fun ds h2 vs G2 H2 g2 d2 => h2 _ G2 H2 (g1.trans g2) (.cons (d1.mono g2.g) d2)))
theorem aok_cons {mr : ML} (ha : EOk X jk ja a ma) (hr : AOk X jk ja es mr) (hs : starEach (a :: es) X.env = (false, eval a X.env) :: starEach es X.env := by rfl) : AOk X jk ja (a :: es) (mCons ma mr) :=
  fun ρ σ G H Q bs s h pos pins st I => (pa_cons pe_sem pa_sem hs).run pos pins st σ H Q I (args_cons ha (fun G H Q b s h => hr ρ σ G H Q b s h) bs s h)
theorem kok_nil : KOk X jk ja [] mNil := fun ρ σ G H Q bs s h pos pins st I => pk_nil.run pos pins st σ H Q I (h [] G H (Grow.refl bs) .nil)
theorem kok_cons {mr : ML} {kws : List Keyword} {nm : Option Str} {kpos : Pos} (ha : EOk X jk ja a ma) (hr : KOk X jk ja kws mr) : KOk X jk ja (⟨nm, a, kpos⟩ :: kws) (mCons ma mr) :=
  fun ρ σ G H Q bs s h pos pins st I => (pk_cons pe_sem pk_sem).run pos pins st σ H Q I (args_cons ha (fun G H Q b s h => hr ρ σ G H Q b s h) bs s h)
def mTup (ml : ML) : MC := fun ρ => (ml ρ).bind fun ds => if ds.length ≤ sizeLine then .ret (.tup ds) else .fail
def mLst (ml : ML) : ML := fun ρ => (ml ρ).bind fun ds => if ds.length ≤ sizeLine then .ret ds else .fail
theorem eok_tup {ml : ML} {x1} (h : AOk X jk ja es ml) : EOk X jk ja (.Tuple es x1 pos) (mTup ml) :=
  EOk.by (pe_tup pa_sem) fun ρ σ G H Q bs s x => h ρ σ G H _ bs s (Tr.all_mono (Tr.all_bind x) fun ds hd vs G1 H1 g1 q => by
    obtain ⟨hl, hd⟩ := ite_all hd
    refine ⟨by rw [q.length]; exact hl, fun p hp => hd (.ref p) (upd G1 p (.tup vs)) _ (g1.trans (Grow.new (bs.grow g1) hp)) (.tup (st_of upd_same) (q.mono (Ex.new ((bs.grow g1).free hp))))⟩)
theorem lok_lst {ml : ML} (h : AOk X jk ja es ml) : LOk X jk ja (.List es pos) (mLst ml) :=
  LOk.by (pe_lst pa_sem) fun ρ σ G H Q bs s x => h ρ σ G H _ bs s (Tr.all_mono (Tr.all_bind x) fun ds hd vs G1 H1 g1 q => by
    obtain ⟨hl, hd⟩ := ite_all hd
    refine ⟨by rw [q.length]; exact hl, fun p hp => ?_⟩
    refine hd p vs G1 _ (g1.trans (Grow.newX (bs.grow g1) hp)) ?_ ((bs.grow g1).free hp) upd_same q
    cases e : H p with
    | none => rfl
    | some o => exact absurd hp (g1.some (by rw [e]; exact fun z => nomatch z)))

/-- the promise of a def, by what it makes of data -/
def spT (K : PySem.W.Frag) (jk : JarK) (g : List D → Tr D) : Sp := fun vs H Q _ => ∃ (ja : JA) (G : Hp) (ds : List D), Base jk ja G H ∧ DqA K ja G vs ds ∧ (g ds).all fun d => ∀ v G' H', Grow jk ja G H G' H' → Dq K ja G' v d → Q v H'
def mCall (g : List D → Tr D) (ml : ML) : MC := fun ρ => (ml ρ).bind g
variable {k : Nat} {f : Addr} {fd : FuncData} {ps : List Str} {x : Str} {p : Pos} {g : List D → Tr D} {ml mk : ML}
theorem eok_call (F : FnG X.prog X.w X.K X.mg X.base k f fd ps (spT X.K jk g)) (hA : X.A.guards = some []) (hr : Room k X.A) (hg : Gl X x) (hm : X.mg x = some (.ref f)) (hk : PySem.W.keepIn X.K (.ref f) = true) (hb : Binds X.K fd ps [])
    (ha : AOk X jk ja (a :: es) ml) (hdb : (x == ("__debug__" : Str)) = false := by decide) (he : starEach (a :: es) X.env = (false, eval a X.env) :: starEach es X.env := by rfl) (hpl : (backTo pos (starEach es X.env)).any (·.1) = false := by rfl) :
    EOk X jk ja (.Call (.Name x p) (a :: es) [] pos) (mCall g ml) :=
  EOk.by (pe_callG F hA hr hg hm hk hb pa_sem hdb he hpl) fun ρ σ G H Q bs s h => ha ρ σ G H _ bs s (Tr.all_mono (Tr.all_bind h) fun ds hd vs G1 H1 g1 q => by
    exact ⟨ja, G1, ds, bs.grow g1, q, Tr.all_mono hd fun _ z => z.later g1⟩)
/-- a call by keywords alone but the first (es) by place: the data in the parameters' order -/
theorem eok_callK {ks : List Str} {gv : List Value → List Value → List Value} {gV : List V → List V → List V} {gD : List D → List D → List D} {kws : List Keyword} (F : FnG X.prog X.w X.K X.mg X.base k f fd ps (spT X.K jk g)) (hA : X.A.guards = some []) (hr : Room k X.A) (hg : Gl X x) (hm : X.mg x = some (.ref f)) (hk : PySem.W.keepIn X.K (.ref f) = true) (hb : KBinds X.K fd ps ks gv gV)
    (hD : ∀ G vs ds ws es, DqA X.K ja G vs ds → DqA X.K ja G ws es → DqA X.K ja G (gV vs ws) (gD ds es)) (ha : AOk X jk ja (a :: es) ml) (hkw : KOk X jk ja kws mk) (hall : (backToKw pos (keywordEach kws X.env)).all (·.1.isSome) = true := by rfl) (hks : (backToKw pos (keywordEach kws X.env)).filterMap (·.1) = ks := by rfl)
    (hdb : (x == ("__debug__" : Str)) = false := by decide) (he : starEach (a :: es) X.env = (false, eval a X.env) :: starEach es X.env := by rfl)
    (hpl : ((backTo pos (starEach (a :: es) X.env)).any (·.1) || (backToKw pos (keywordEach kws X.env)).any (·.1.isNone)) = false := by rfl) :
    EOk X jk ja (.Call (.Name x p) (a :: es) kws pos) fun ρ => (ml ρ).bind fun ds => (mk ρ).bind fun es => g (gD ds es) :=
  EOk.by (pe_callKG F hA hr hg hm hk hb pa_sem pk_sem hall hks hdb he hpl) fun ρ σ G H Q bs s h => ha ρ σ G H _ bs s (Tr.all_mono (Tr.all_bind h) fun ds hd vs G1 H1 g1 q =>
    hkw ρ σ G1 H1 _ (bs.grow g1) (s.mono g1.g) (Tr.all_mono (Tr.all_bind hd) fun es he ws G2 H2 g2 q2 =>
      ⟨ja, G2, gD ds es, (bs.grow g1).grow g2, hD G2 vs ds ws es (q.mono g2.g) q2, Tr.all_mono he fun _ z => z.later (g1.trans g2)⟩))
/-- a built-in on values -/
def RCOk (X : Cx) (jk : JarK) (ja : JA) (r : List V → Hp → VK → Prop) (f : List D → Tr D) : Prop := ∀ G H vs ds Q, Base jk ja G H → DqA X.K ja G vs ds → (f ds).all (Aft X jk ja G H Q) → r vs H Q
def RCL (X : Cx) (jk : JarK) (ja : JA) (r : List V → Hp → VK → Prop) (f : List D → Tr (List D)) : Prop := ∀ G H vs ds Q, Base jk ja G H → DqA X.K ja G vs ds → (f ds).all (AftL X jk ja G H Q) → r vs H Q
theorem eok_bi {id : String} {r : List V → Hp → VK → Prop} {g : List D → Tr D} (hc : CallR X (.builtin id) r) (hr : RCOk X jk ja r g) (hg : Gl X x) (hm : X.mg x = none) (hv : bootBuiltins x = some (.builtin id)) (ha : AOk X jk ja (a :: es) ml) (hn : x ≠ "__name__" := by decide) (hdb : (x == ("__debug__" : Str)) = false := by decide)
    (he : starEach (a :: es) X.env = (false, eval a X.env) :: starEach es X.env := by rfl) (hpl : (backTo pos (starEach es X.env)).any (·.1) = false := by rfl) : EOk X jk ja (.Call (.Name x p) (a :: es) [] pos) (mCall g ml) :=
  EOk.by (pe_callB hc hg hm hv pa_sem hn hdb he hpl) fun ρ σ G H Q bs s h => ha ρ σ G H _ bs s (Tr.all_mono (Tr.all_bind h) fun ds hd vs G1 H1 g1 q => hr G1 H1 vs ds Q (bs.grow g1) q (Tr.all_mono hd fun _ z => z.later g1))
theorem eok_ty {T : String} {r : List V → Hp → VK → Prop} {g : List D → Tr D} (hc : CallR X (.type T) r) (hr : RCOk X jk ja r g) (hg : Gl X x) (hm : X.mg x = none) (hv : bootBuiltins x = some (.type T)) (ha : AOk X jk ja (a :: es) ml) (hn : x ≠ "__name__" := by decide) (hdb : (x == ("__debug__" : Str)) = false := by decide)
    (he : starEach (a :: es) X.env = (false, eval a X.env) :: starEach es X.env := by rfl) (hpl : (backTo pos (starEach es X.env)).any (·.1) = false := by rfl) : EOk X jk ja (.Call (.Name x p) (a :: es) [] pos) (mCall g ml) :=
  EOk.by (pe_callTy hc hg hm hv pa_sem hn hdb he hpl) fun ρ σ G H Q bs s h => ha ρ σ G H _ bs s (Tr.all_mono (Tr.all_bind h) fun ds hd vs G1 H1 g1 q => hr G1 H1 vs ds Q (bs.grow g1) q (Tr.all_mono hd fun _ z => z.later g1))
def mCallL (g : List D → Tr (List D)) (ml : ML) : ML := fun ρ => (ml ρ).bind g
theorem lok_bi {id : String} {r : List V → Hp → VK → Prop} {g : List D → Tr (List D)} (hc : CallR X (.builtin id) r) (hr : RCL X jk ja r g) (hg : Gl X x) (hm : X.mg x = none) (hv : bootBuiltins x = some (.builtin id)) (ha : AOk X jk ja (a :: es) ml) (hn : x ≠ "__name__" := by decide) (hdb : (x == ("__debug__" : Str)) = false := by decide)
    (he : starEach (a :: es) X.env = (false, eval a X.env) :: starEach es X.env := by rfl) (hpl : (backTo pos (starEach es X.env)).any (·.1) = false := by rfl) : LOk X jk ja (.Call (.Name x p) (a :: es) [] pos) (mCallL g ml) :=
  LOk.by (pe_callB hc hg hm hv pa_sem hn hdb he hpl) fun ρ σ G H Q bs s h => ha ρ σ G H _ bs s (Tr.all_mono (Tr.all_bind h) fun ds hd vs G1 H1 g1 q => hr G1 H1 vs ds Q (bs.grow g1) q (Tr.all_mono hd fun _ z => z.later bs g1))
theorem lok_ty {T : String} {r : List V → Hp → VK → Prop} {g : List D → Tr (List D)} (hc : CallR X (.type T) r) (hr : RCL X jk ja r g) (hg : Gl X x) (hm : X.mg x = none) (hv : bootBuiltins x = some (.type T)) (ha : AOk X jk ja (a :: es) ml) (hn : x ≠ "__name__" := by decide) (hdb : (x == ("__debug__" : Str)) = false := by decide)
    (he : starEach (a :: es) X.env = (false, eval a X.env) :: starEach es X.env := by rfl) (hpl : (backTo pos (starEach es X.env)).any (·.1) = false := by rfl) : LOk X jk ja (.Call (.Name x p) (a :: es) [] pos) (mCallL g ml) :=
  LOk.by (pe_callTy hc hg hm hv pa_sem hn hdb he hpl) fun ρ σ G H Q bs s h => ha ρ σ G H _ bs s (Tr.all_mono (Tr.all_bind h) fun ds hd vs G1 H1 g1 q => hr G1 H1 vs ds Q (bs.grow g1) q (Tr.all_mono hd fun _ z => z.later bs g1))
end
end Pd
set_option maxHeartbeats 4100000
/-! Targets, what is walked, comprehensions. -/
namespace Pd
open PySem PySem.Spec L2 Evl
open PyProof.Rows hiding St

section
variable {X : Cx} {jk : JarK} {ja : JA} {e a b : Expr} {es : List Expr} {m ma mb : MC} {pos : Pos}

/-! ### what stands behind data -/
theorem DqA.one {K : PySem.W.Frag} {ja : JA} {G : Hp} {vs : List V} {d : D} (q : DqA K ja G vs [d]) : ∃ v, vs = [v] ∧ Dq K ja G v d := by
  cases q with
  | cons r t => cases t; exact ⟨_, rfl, r⟩
theorem DqA.two {K : PySem.W.Frag} {ja : JA} {G : Hp} {vs : List V} {d e : D} (q : DqA K ja G vs [d, e]) : ∃ v w, vs = [v, w] ∧ Dq K ja G v d ∧ Dq K ja G w e := by
  cases q with
  | cons r t =>
    cases t with
    | cons r2 t => cases t; exact ⟨_, _, rfl, r, r2⟩
theorem Dq.inv_int {K : PySem.W.Frag} {ja : JA} {G : Hp} {v : V} {i : Int} (q : Dq K ja G v (.int i)) : v = .int i := by cases q; rfl
theorem Dq.inv_bl {K : PySem.W.Frag} {ja : JA} {G : Hp} {v : V} {i : Bool} (q : Dq K ja G v (.bl i)) : v = .bl i := by cases q; rfl
theorem Dq.inv_str {K : PySem.W.Frag} {ja : JA} {G : Hp} {v : V} {i : Str} (q : Dq K ja G v (.str i)) : v = .str i := by cases q; rfl
theorem Dq.inv_non {K : PySem.W.Frag} {ja : JA} {G : Hp} {v : V} (q : Dq K ja G v .non) : v = .non := by cases q; rfl
theorem Dq.inv_rp {K : PySem.W.Frag} {ja : JA} {G : Hp} {v : V} {d : PyData} (q : Dq K ja G v (.rp d)) : v = .str d.shown := by cases q; rfl
theorem Dq.inv_lst {K : PySem.W.Frag} {ja : JA} {G : Hp} {v : V} {ds : List D} (q : Dq K ja G v (.lst ds)) : ∃ a xs, v = .ref a ∧ G a = some (.lst xs) ∧ DqA K ja G xs ds := by
  cases q with
  | lst e t => exact ⟨_, _, rfl, e, t⟩
theorem Dq.inv_seq {K : PySem.W.Frag} {ja : JA} {G : Hp} {v : V} {ds : List D} (q : Dq K ja G v (.seq ds)) : ∃ a xs, v = .ref a ∧ SqL K G a xs ∧ DqA K ja G xs ds := by
  cases q with
  | seq e t => exact ⟨_, _, rfl, e, t⟩
theorem Dq.inv_tup {K : PySem.W.Frag} {ja : JA} {G : Hp} {v : V} {ds : List D} (q : Dq K ja G v (.tup ds)) : ∃ a xs, v = .ref a ∧ SqT K G a xs ∧ DqA K ja G xs ds := by
  cases q with
  | tup e t => exact ⟨_, _, rfl, e, t⟩

/-! ### targets -/
theorem gok_nm (i : Nat) {x : Str} (hN : X.N.Nodup) (hi : X.N[i]? = some x := by rfl) (hx : Loc X.env.scope x := by first | exact Or.inl rfl | exact Or.inr rfl) (hf : X.fn x = true ∨ X.env.scope.names.lookup x = some .local := by first | exact .inl rfl | exact .inr rfl) :
    GOk X jk ja (.Name x pos) (.nm i) := fun v d as σ G H Q bs r h k pins s u I ru => by
  cases h
  exact (pg_name (i := i) hN hi hx hf).run pins s σ H v u Q I ru (k [(i, v)] (.cons ⟨rfl, r⟩ .nil))
theorem gsok_nil : GsOk X jk ja [] [] := fun vs ds as σ G H Q bs r h k pins s us I ru => by
  cases r with
  | nil =>
    cases h
    exact pgs_nil.run pins s σ H [] us Q I ru ⟨rfl, k [] .nil⟩
  | cons r t => cases h
theorem gsok_cons {p : Pt} {ps : List Pt} (h1 : GOk X jk ja e p) (h2 : GsOk X jk ja es ps) (hs : (assignEach (e :: es) X.env).map (·.2) = assign e X.env :: (assignEach es X.env).map (·.2) := by rfl) : GsOk X jk ja (e :: es) (p :: ps) :=
  fun vs ds as σ G H Q bs r h k pins s us I ru => by
    cases r with
    | nil => cases h
    | cons r t =>
      rename_i v vs d ds
      unfold Pt.tos at h
      cases e1 : p.to d with
      | none => rw [e1] at h; cases h
      | some x1 =>
        cases e2 : Pt.tos ps ds with
        | none => rw [e1, e2] at h; cases h
        | some x2 =>
          rw [e1, e2] at h
          cases h
          cases ru with
          | cons ru rt =>
            rw [hs]
            refine assignInOrder_cons (thn (h1 v d x1 σ G H (fun σ' H' => ∃ b1, PairA X.K ja G b1 x1 ∧ σ' = setV σ b1 ∧ H' = H) bs r e1 (fun b1 p1 => ⟨b1, p1, rfl, rfl⟩) pins s _ I ru) fun _ s1 ⟨σ1, H1, I1, b1, p1, e3, e4⟩ => ?_)
            subst e3 e4
            exact h2 vs ds x2 _ G _ Q bs t e2 (fun b2 p2 => by
              rw [← setV_append]
              exact k _ (p1.append p2)) pins s1 _ I1 rt
theorem gok_tup {ps : List Pt} {kk : Nat} {n : Nat} (hc : X.calm = true) (h : GsOk X jk ja es ps) (hn : (assignEach es X.env).length = n := by rfl) (hst : (assignEach es X.env).findIdx? (·.1) = none := by rfl) (hps : ps.length = n := by rfl) :
    GOk X jk ja (.Tuple es kk pos) (.tp ps) := fun v d as σ G H Q bs r hto k pins s u I ru => by
  cases r with
  | tup ht hd =>
    rename_i a xs ds
    have hto : Pt.tos ps ds = some as := hto
    have hlen : ∀ (ps : List Pt) (ds : List D) (as : List (Nat × D)), Pt.tos ps ds = some as → ps.length = ds.length := by
      intro ps
      induction ps with
      | nil =>
        intro ds as h
        cases ds with
        | nil => rfl
        | cons d ds => cases h
      | cons p ps ih =>
        intro ds as h
        cases ds with
        | nil => cases h
        | cons d ds =>
          unfold Pt.tos at h
          cases e1 : p.to d with
          | none => rw [e1] at h; cases h
          | some x1 =>
            cases e2 : Pt.tos ps ds with
            | none => rw [e1, e2] at h; cases h
            | some x2 => exact congrArg (· + 1) (ih ds x2 e2)
    refine (pg_tup (X := X) (t := fun vs σ' H' Q' => ∀ pins s us, Inv X pins σ' H' s → Vals vs us → wpAny (model X.prog X.w) X.A (assignInOrder ((assignEach es X.env).map (·.2)) us) (fun _ s' => ∃ σ2 H2, Inv X pins σ2 H2 s' ∧ Q' σ2 H2) X.xe s) hc
      ⟨fun pins s σ H vs us Q I rv h => h pins s us I rv⟩ hn hst).run pins s σ H _ u Q I ru ⟨a, xs, rfl, ex_t bs.ex ht, ?_, fun pins s us I rv => h xs ds as σ G H Q bs hd hto k pins s us I rv⟩
    rw [hd.length, ← hlen ps ds as hto]
    exact hps
  | _ => cases hto

/-! ### what is walked -/
def asL : D → Tr (List D)
  | .lst ds => .ret ds
  | .tup ds => .ret ds
  | .seq ds => .ret ds
  | _ => .fail
theorem getElem?_lt {α : Type} {l : List α} {i : Nat} {x : α} (h : l[i]? = some x) : i < l.length := (List.getElem?_eq_some_iff.mp h).1
theorem walkD_at {J : It} {G : Hp} {xs : List V} {ds : List D} {Gp : Hp → Prop} (w : Walk J ds.length Gp (YAt xs)) (hG : ∀ G1 H1, Ex G G1 → Ex G1 H1 → Gp H1) (hd : DqA X.K ja G xs ds) : WalkD X jk ja J G ds :=
  ⟨Gp, YAt xs, w, hG, fun i d H1 x H2 G1 hi e b y => by
    obtain ⟨rfl, hx⟩ := y
    obtain ⟨v, hv, q⟩ := hd.get hi
    rw [hv] at hx
    cases hx
    exact ⟨G1, Grow.refl b, q.mono e⟩⟩
/-- a list or a tuple -/
def iSeq (K : PySem.W.Frag) (tl : TE) : TI := fun σ H R => tl σ H fun x H1 => ∃ a, x = .ref a ∧ (((∃ xs, SqL K H1 a xs) ∧ R (Itl K a) H1) ∨ ((∃ xs, SqT K H1 a xs) ∧ R (Itt K a) H1))
theorem pi_seq {tg l : Expr} {tl : TE} (hl : PE X l tl) : PI X tg l (iSeq X.K tl) := by
  refine ⟨fun pn s σ H R I h => ?_⟩
  refine thn (hl.run pn s σ H _ I h) fun v t1 ⟨x, Hb, inv1, rr, qq⟩ => ?_
  obtain ⟨a, e, q⟩ := qq
  subst e
  cases rr
  rcases q with ⟨⟨xs, hq⟩, q⟩ | ⟨⟨xs, hq⟩, q⟩
  · obtain ⟨cells, rv, p, hz⟩ := inv1.list hq
    refine wpAny_pyIter_list p.isList ?_
    refine ⟨t1.heap.objs.size, [t1.heap.objs.size], _, _, Hb, rfl, inv1.kept (t' := t1.toks) fun b o e => Heap.get?_push_of_some _ e, turn_list a _, ⟨_, Heap.get?_push_size _ rfl, rfl, rfl⟩, fun b hb => ?_, q⟩
    have e : b = t1.heap.objs.size := by simpa using hb
    subst e
    exact inv1.fpOk (Nat.le_refl _) (inv1.hok.fresh (Nat.le_refl _))
  · obtain ⟨cells, rv, p, hz⟩ := inv1.tuple hq
    refine wpAny_pyIter_tuple (show t1.heap.IsTuple a cells.toArray from p) ?_
    refine ⟨t1.heap.objs.size, [t1.heap.objs.size], _, _, Hb, rfl, inv1.kept (t' := t1.toks) fun b o e => Heap.get?_push_of_some _ e, turn_tuple a _, ⟨_, Heap.get?_push_size _ rfl, rfl, rfl⟩, fun b hb => ?_, q⟩
    have e : b = t1.heap.objs.size := by simpa using hb
    subst e
    exact inv1.fpOk (Nat.le_refl _) (inv1.hok.fresh (Nat.le_refl _))
theorem iok_seq {tg : Expr} (ha : EOk X jk ja a ma) : IOk X jk ja tg a fun ρ => (ma ρ).bind asL := fun ρ σ G H R bs s h pn st I =>
  (pi_seq (tg := tg) (pe_sem (X := X) (e := a))).run pn st σ H R I (ha ρ σ G H _ bs s (Tr.all_mono (Tr.all_bind h) fun d hd v G1 Hb g1 q => by
    cases q with
    | lst e t => exact ⟨_, rfl, .inl ⟨⟨_, sq_of (g1.ex _ _ e)⟩, hd (Itl X.K _) G1 Hb g1 (walkD_at (by rw [← t.length]; exact walk_list) (fun G2 H2 e1 e2 => sq_of (e2 _ _ (e1 _ _ e))) t)⟩⟩
    | seq e t => exact ⟨_, rfl, .inl ⟨⟨_, ex_l g1.ex e⟩, hd (Itl X.K _) G1 Hb g1 (walkD_at (by rw [← t.length]; exact walk_list) (fun G2 H2 e1 e2 => ex_l (e1.trans e2) e) t)⟩⟩
    | tup e t => exact ⟨_, rfl, .inr ⟨⟨_, ex_t g1.ex e⟩, hd (Itt X.K _) G1 Hb g1 (walkD_at (by rw [← t.length]; exact walk_tup) (fun G2 H2 e1 e2 => ex_t (e1.trans e2) e) t)⟩⟩
    | _ => exact hd.elim))
/-- the ints of a range -/
def rangeD (lo : Int) (n : Nat) : List D := (List.range n).map fun i => .int (lo + (i : Nat))
theorem walkD_range {G : Hp} {lo : Int} {n : Nat} : WalkD X jk ja (Itr lo n) G (rangeD lo n) := by
  have hl : (rangeD lo n).length = n := by unfold rangeD; rw [List.length_map, List.length_range]
  refine ⟨fun _ => True, YFn fun i => .int (lo + (i : Nat)), by rw [hl]; exact walk_range, fun _ _ _ _ => trivial, fun i d H1 x H2 G1 hi e b y => ?_⟩
  obtain ⟨rfl, rfl⟩ := y
  refine ⟨G1, Grow.refl b, ?_⟩
  have hn : i < n := by rw [← hl]; exact getElem?_lt hi
  unfold rangeD at hi
  rw [List.getElem?_map, List.getElem?_range hn] at hi
  cases hi
  exact .int _
def rng1 : List D → Tr (List D)
  | [.int n] => if -(2 ^ 62) ≤ n ∧ n < 2 ^ 62 then .ret (rangeD 0 n.toNat) else .fail
  | _ => .fail
theorem iok_range1 {tg : Expr} {p : Pos} {ml : ML} (hg : Gl X "range") (hm : X.mg "range" = none) (ha : AOk X jk ja [a] ml) (hs : starEach [a] X.env = [(false, eval a X.env)] := by rfl) : IOk X jk ja tg (.Call (.Name "range" p) [a] [] pos) fun ρ => (ml ρ).bind rng1 :=
  fun ρ σ G H R bs s h pins st I => (pi_range1 (tg := tg) hg hm (pa_sem (X := X)) hs).run pins st σ H R I (ha ρ σ G H _ bs s (Tr.all_mono (Tr.all_bind h) fun ds hd vs G1 H1 g1 q => by
    unfold rng1 at hd
    split at hd
    · obtain ⟨v, rfl, q1⟩ := q.one
      cases q1.inv_int
      obtain ⟨hn, hd⟩ := ite_all hd
      exact ⟨_, rfl, hn.1, hn.2, hd _ G1 H1 g1 walkD_range⟩
    · exact hd.elim))
def rng2 : List D → Tr (List D)
  | [.int i, .int j] => if -(2 ^ 62) ≤ i ∧ i < 2 ^ 62 ∧ -(2 ^ 62) ≤ j ∧ j < 2 ^ 62 then .ret (rangeD i (j - i).toNat) else .fail
  | _ => .fail
theorem iok_range2 {tg : Expr} {p : Pos} {ml : ML} (hg : Gl X "range") (hm : X.mg "range" = none) (ha : AOk X jk ja [a, b] ml) (hs : starEach [a, b] X.env = [(false, eval a X.env), (false, eval b X.env)] := by rfl) (hs2 : starEach [b] X.env = [(false, eval b X.env)] := by rfl) :
    IOk X jk ja tg (.Call (.Name "range" p) [a, b] [] pos) fun ρ => (ml ρ).bind rng2 :=
  fun ρ σ G H R bs s h pins st I => (pi_range2 (tg := tg) hg hm (pa_sem (X := X)) hs hs2).run pins st σ H R I (ha ρ σ G H _ bs s (Tr.all_mono (Tr.all_bind h) fun ds hd vs G1 H1 g1 q => by
    unfold rng2 at hd
    split at hd
    · obtain ⟨v, w, rfl, q1, q2⟩ := q.two
      cases q1.inv_int
      cases q2.inv_int
      obtain ⟨hn, hd⟩ := ite_all hd
      exact ⟨_, _, rfl, hn, hd _ G1 H1 g1 walkD_range⟩
    · exact hd.elim))
/-- enumerate -/
def enumF (n : Nat) : List D → List D
  | [] => []
  | d :: ds => .tup [.int (n : Nat), d] :: enumF (n + 1) ds
theorem enumF_length : ∀ (ds : List D) (n : Nat), (enumF n ds).length = ds.length
  | [], _ => rfl
  | _ :: ds, n => congrArg (· + 1) (enumF_length ds (n + 1))
theorem enumF_get : ∀ (ds : List D) (n i : Nat) (d : D), (enumF n ds)[i]? = some d → ∃ x, ds[i]? = some x ∧ d = .tup [.int ((n + i : Nat) : Int), x]
  | [], _, _, _, h => by simp [enumF] at h
  | x :: ds, n, 0, d, h => by
    simp [enumF] at h
    exact ⟨x, rfl, by rw [← h]; rfl⟩
  | x :: ds, n, i + 1, d, h => by
    obtain ⟨y, h1, h2⟩ := enumF_get ds (n + 1) i d (by simpa [enumF] using h)
    exact ⟨y, by simpa using h1, by rw [h2]; congr 4; omega⟩
theorem walkD_pair {J : It} {G : Hp} {xs : List V} {ds : List D} {Gp : Hp → Prop} (w : Walk J ds.length Gp (YPair (fun i => some (.int (i : Nat))) fun i => xs[i]?)) (hG : ∀ G1 H1, Ex G G1 → Ex G1 H1 → Gp H1) (hd : DqA X.K ja G xs ds) : WalkD X jk ja J G (enumF 0 ds) := by
  refine ⟨Gp, _, by rw [enumF_length]; exact w, hG, fun i d H1 x H2 G1 hi e b y => ?_⟩
  obtain ⟨T, x1, x2, rfl, nT, rfl, h1, h2⟩ := y
  obtain ⟨z, hz, rfl⟩ := enumF_get ds 0 i d hi
  obtain ⟨v, hv, q⟩ := hd.get hz
  have hv' : v = x2 := Option.some.inj (hv.symm.trans h2)
  subst hv'
  have h1' : V.int (i : Nat) = x1 := Option.some.inj h1
  subst h1'
  rw [Nat.zero_add]
  exact ⟨upd G1 T (.tup [.int (i : Nat), v]), Grow.new b nT, .tup (st_of upd_same) (.cons (.int _) (.cons (q.mono (e.trans (Ex.new (b.free nT)))) .nil))⟩
def enumD : List D → Tr (List D)
  | [.lst ds] => .ret (enumF 0 ds)
  | _ => .fail
theorem iok_enum {p tpos : Pos} {elts : List Expr} {kk : Nat} {ml : ML} (hg : Gl X "enumerate") (hm : X.mg "enumerate" = none) (ha : AOk X jk ja [a] ml) (hs : starEach [a] X.env = [(false, eval a X.env)] := by rfl) :
    IOk X jk ja (.Tuple elts kk tpos) (.Call (.Name "enumerate" p) [a] [] pos) fun ρ => (ml ρ).bind enumD :=
  fun ρ σ G H R bs s h pins st I => (pi_enum hg hm (pa_sem (X := X)) hs).run pins st σ H R I (ha ρ σ G H _ bs s (Tr.all_mono (Tr.all_bind h) fun ds hd vs G1 H1 g1 q => by
    unfold enumD at hd
    split at hd
    · obtain ⟨v, rfl, q1⟩ := q.one
      obtain ⟨a, xs, rfl, e, t⟩ := q1.inv_lst
      exact ⟨_, _, rfl, sq_of (g1.ex _ _ e), hd _ G1 H1 g1 (walkD_pair (by rw [← t.length]; exact walk_enum) (fun G2 H2 e1 e2 => sq_of (e2 _ _ (e1 _ _ e))) t)⟩
    · exact hd.elim))

/-! ### comprehensions -/
def compF (p : Pt) (vs : List Nat) (mt : MT) (me : MC) (ρ : VE) : List D → Tr (List D)
  | [] => .ret []
  | d :: ds => match p.to d with
    | none => .fail
    | some as => if as.all (fun q => vs.contains q.1) then
        (mt (setE (wipeE ρ vs) as)).bind fun c => if c = true then (me (setE (wipeE ρ vs) as)).bind fun y => (compF p vs mt me ρ ds).bind fun ys => .ret (y :: ys) else compF p vs mt me ρ ds
      else .fail
def mComp (mi : ML) (p : Pt) (vs : List Nat) (mt : MT) (me : MC) : ML := fun ρ => (mi ρ).bind fun ds => if ds.length < sizeLine then compF p vs mt me ρ ds else .fail
abbrev BlkX (X : Cx) (scope : Scope) (s : Shared) (H : Hp) (C : Addr) (cl : List (Str × Addr)) (fp : List Addr) : Cx := X.blk s H scope (compEnvC scope cl C X.env) fp
def blkG (X : Cx) (scope : Scope) (tg : Expr) : TG := fun v σ H Q => ∀ s0 H0 C cl fp, semG (BlkX X scope s0 H0 C cl fp) tg v σ H Q
def blkP (X : Cx) (scope : Scope) (ifs : List Expr) : TT := fun σ H Q => ∀ s0 H0 C cl fp, semP (BlkX X scope s0 H0 C cl fp) ifs σ H Q
def blkE (X : Cx) (scope : Scope) (e : Expr) : TE := fun σ H Q => ∀ s0 H0 C cl fp, sem (BlkX X scope s0 H0 C cl fp) e σ H Q
structure CompInv (X : Cx) (jk : JarK) (ja : JA) (p : Pt) (vs : List Nat) (mt : MT) (me : MC) (ρ : VE) (ds : List D) (G1 H1 : Hp) (Dl : Addr) (P : List D → Prop) (i : Nat) (H' : Hp) : Prop where
  ex : ∃ G' acc ac, Grow jk ja G1 H1 G' H' ∧ G' Dl = none ∧ H' Dl = some (.lst acc) ∧ DqA X.K ja G' acc ac ∧ acc.length ≤ i ∧ (compF p vs mt me ρ (ds.drop i)).all fun ys => P (ac ++ ys)
theorem lok_lc {elt tg iter : Expr} {ifs : List Expr} {scope : Scope} {own : List (Str × Nat)} {mi : ML} {p : Pt} {mt : MT} {me : MC} (hc : X.calm = true) (hN : X.N.Nodup) (hi : IOk X jk ja tg iter mi) (ok : BlkOk X.N X.env.scope scope own)
    (hg : ∀ s H C cl fp, GOk (BlkX X scope s H C cl fp) jk ja tg p) (ht : ∀ s H C cl fp, POk (BlkX X scope s H C cl fp) jk ja ifs mt) (he : ∀ s H C cl fp, EOk (BlkX X scope s H C cl fp) jk ja elt me) (hs : ∀ x, foldedSetIterable iter X.env x = pure x := by intro _; rfl) :
    LOk X jk ja (.ListComp elt [⟨tg, iter, ifs, 0⟩] scope pos) (mComp mi p (own.map (·.2)) mt me) :=
  LOk.by (pe_lc (g := blkG X scope tg) (tt := blkP X scope ifs) (te := blkE X scope elt) hc hN pi_sem ok
      (fun s0 H0 C cl fp => ⟨fun pins s σ H v u Q I r h => h s0 H0 C cl fp pins s u I r⟩) (fun s0 H0 C cl fp => ⟨fun pins s σ H Q I h => h s0 H0 C cl fp pins s I⟩) (fun s0 H0 C cl fp => ⟨fun pins s σ H Q I h => h s0 H0 C cl fp pins s I⟩) hs) fun ρ σ G H Q bs s h => by
    refine hi ρ σ G H _ bs s (Tr.all_mono (Tr.all_bind h) fun ds hd J G1 H1 g1 wk Dl hD => ?_)
    obtain ⟨hz, hd⟩ := ite_all hd
    have b1 := bs.grow g1
    obtain ⟨Gp, Y, w, hG, hy⟩ := wk
    have hHD : H Dl = none := by
      cases e : H Dl with
      | none => rfl
      | some o => exact absurd hD (g1.some (by rw [e]; exact fun z => nomatch z))
    have s1 := (s.mono g1.g).wipe (own.map (·.2))
    refine lc_it (g := blkG X scope tg) (tt := blkP X scope ifs) (te := blkE X scope elt) (vs := own.map (·.2)) (σ := σ) (D := Dl) (Qd := fun H' => Q (.ref Dl) H') w (fun i H' => CompInv X jk ja p (own.map (·.2)) mt me ρ ds G1 H1 Dl (AftL X jk ja G H Q) i H') ⟨⟨G1, [], [], Grow.newX b1 hD, b1.free hD, upd_same, .nil, Nat.zero_le _, Tr.all_mono hd fun ys h => h⟩⟩ (fun i H' _ p => ?_) (fun i x H' H2 hin pv y => ?_) fun H' pv => ?_
    · obtain ⟨G', acc, ac, g', _⟩ := p.ex
      exact hG G' H' g'.g g'.ex
    · obtain ⟨G', acc, ac, g', hgD, hlD, hacc, hai, hr⟩ := pv.ex
      have bb := b1.grow g'
      obtain ⟨d, hdi⟩ : ∃ d, ds[i]? = some d := ⟨ds[i], List.getElem?_eq_getElem hin⟩
      obtain ⟨G2, g2, dx⟩ := hy i d H' x H2 G' hdi g'.g bb y
      have b2 := bb.grow g2
      rw [List.drop_eq_getElem_cons hin, show ds[i] = d from Option.some.inj ((List.getElem?_eq_getElem hin).symm.trans hdi)] at hr
      unfold compF at hr
      cases eto : p.to d with
      | none => rw [eto] at hr; exact hr.elim
      | some as =>
        rw [eto] at hr
        obtain ⟨hall, hr⟩ := ite_all hr
        have g12 : Grow jk ja G1 H1 G2 H2 := g'.trans g2
        have stay : ∀ {G3 H3 : Hp}, Grow jk ja G2 H2 G3 H3 → G3 Dl = none ∧ H3 Dl = some (.lst acc) := fun {G3 H3} g3 => by
          have n1 : H' Dl ≠ none := by rw [hlD]; exact fun z => nomatch z
          have nf : ¬ fp ja Dl := b1.nofp hD
          have l2 : H2 Dl = some (.lst acc) := g2.kp _ _ hlD nf
          refine ⟨(g3.fr Dl (by rw [l2]; exact fun z => nomatch z)).trans ((g2.fr Dl n1).trans hgD), g3.kp _ _ l2 nf⟩
        intro s0 H0 C cl fp
        refine hg s0 H0 C cl fp x d as (wipe σ (own.map (·.2))) G2 H2 _ b2 dx eto fun bs' pb => ?_
        have hin' : ∀ q ∈ bs', q.1 ∈ own.map (·.2) := pb.fst (P := fun j => j ∈ own.map (·.2)) fun q hq => by
          have := List.all_eq_true.mp hall q hq
          simpa using this
        refine ⟨by rw [wipe_setV hin', wipe_wipe fun u hu => hu], ?_⟩
        have s2 : Sl X.K ja G2 (setE (wipeE ρ (own.map (·.2))) as) (setV (wipe σ (own.map (·.2))) bs') := (s1.mono g12.g).sets pb
        intro s0 H0 C cl fp
        refine ht s0 H0 C cl fp _ _ G2 H2 _ b2 s2 (Tr.all_mono (Tr.all_bind hr) fun c hcc G3 H3 g3 => ?_)
        cases c with
        | true =>
          refine iteT ?_
          intro s0 H0 C cl fp
          refine he s0 H0 C cl fp _ _ G3 H3 _ (b2.grow g3) (s2.mono g3.g) (Tr.all_mono (Tr.all_bind hcc) fun yd hyd v G4 H4 g4 q4 => ?_)
          obtain ⟨t1, t2⟩ := stay (g3.trans g4)
          have g14 : Grow jk ja G1 H1 G4 H4 := g12.trans (g3.trans g4)
          refine ⟨acc, t2, by omega, G4, acc ++ [v], ac ++ [yd], g14.mut b1 hD t1, t1, upd_same, (hacc.mono (g2.g.trans (g3.g.trans g4.g))).append (.cons q4 .nil), by simp; omega, Tr.all_mono (Tr.all_bind hyd) fun ys hys => ?_⟩
          have : AftL X jk ja G H Q (ac ++ (yd :: ys)) := hys
          rw [List.append_assoc]
          exact this
        | false =>
          refine iteF ?_
          obtain ⟨t1, t2⟩ := stay g3
          exact ⟨G3, acc, ac, g12.trans g3, t1, t2, hacc.mono (g2.g.trans g3.g), by omega, hcc⟩
    · obtain ⟨G', acc, ac, g', hgD, hlD, hacc, hai, hr⟩ := pv.ex
      rw [List.drop_length] at hr
      have hr : AftL X jk ja G H Q (ac ++ []) := hr
      rw [List.append_nil] at hr
      exact hr Dl acc G' H' (g1.trans g') hHD hgD hlD hacc
end
end Pd
set_option maxHeartbeats 4100000
/-! Statements: slots that hold data, and slots that hold a list of the def's own. -/
namespace Pd
open PySem PySem.Spec L2 Evl
open PyProof.Rows hiding St

inductive Sv where
  | no
  | val (d : D)
  | own (ds : List D)
abbrev SE := List Sv
def Sv.view : Sv → Option D
  | .val d => some d
  | _ => none
def view (ρ : SE) : VE := ρ.map Sv.view
inductive Out where
  | nx (ρ : SE)
  | rt (d : D)
  | bk (ρ : SE)
  | ct (ρ : SE)
abbrev MS := SE → Tr Out
def Sv.frz : Sv → Sv
  | .own ds => .val (.lst ds)
  | s => s
/-- the lists at these slots are data from now on -/
def frz (ρ : SE) : List Nat → SE
  | [] => ρ
  | i :: r => match ρ[i]? with
    | some s => frz (ρ.set i s.frz) r
    | none => frz ρ r

section
variable (X : Cx) (jk : JarK) (ja : JA)
structure StR (G0 H0 Gm G H : Hp) (ρ : SE) (σ : St) : Prop where
  grow : Grow jk ja G0 H0 G H
  mid : Ex Gm G
  len : ρ.length ≤ σ.length
  val : ∀ (i : Nat) (d : D), ρ[i]? = some (.val d) → ∃ v, σ[i]? = some (some v) ∧ Dq X.K ja G v d
  own : ∀ (i : Nat) (ds : List D), ρ[i]? = some (.own ds) → ∃ p xs, σ[i]? = some (some (.ref p)) ∧ H0 p = none ∧ G p = none ∧ H p = some (.lst xs) ∧ DqA X.K ja G xs ds
  sep : ∀ (i j : Nat) (ds es : List D), i ≠ j → ρ[i]? = some (.own ds) → ρ[j]? = some (.own es) → σ[i]? ≠ σ[j]?
def AftS (D : Ends) (G0 H0 Gm : Hp) : Out → Prop
  | .nx ρ => ∀ σ G H, StR X jk ja G0 H0 Gm G H ρ σ → D.nx σ H
  | .rt d => ∀ v G H, Grow jk ja G0 H0 G H → Dq X.K ja G v d → D.rt v H
  | .bk ρ => ∀ σ G H, StR X jk ja G0 H0 Gm G H ρ σ → D.bk σ H
  | .ct ρ => ∀ σ G H, StR X jk ja G0 H0 Gm G H ρ σ → D.ct σ H
def SOk (st : Stmt) (m : MS) : Prop := ∀ ρ σ G0 H0 Gm G H D, Base jk ja G0 H0 → StR X jk ja G0 H0 Gm G H ρ σ → (m ρ).all (AftS X jk ja D G0 H0 Gm) → semS X st D σ H
def BOk (sts : List Stmt) (m : MS) : Prop := ∀ ρ σ G0 H0 Gm G H D, Base jk ja G0 H0 → StR X jk ja G0 H0 Gm G H ρ σ → (m ρ).all (AftS X jk ja D G0 H0 Gm) → semB X sts D σ H
end

section
variable {X : Cx} {jk : JarK} {ja : JA} {G0 H0 Gm G H G' H' : Hp} {ρ : SE} {σ : St} {D : Ends}
theorem StR.base (b0 : Base jk ja G0 H0) (s : StR X jk ja G0 H0 Gm G H ρ σ) : Base jk ja G H := b0.grow s.grow
theorem StR.step (b0 : Base jk ja G0 H0) (s : StR X jk ja G0 H0 Gm G H ρ σ) (g : Grow jk ja G H G' H') : StR X jk ja G0 H0 Gm G' H' ρ σ :=
  ⟨s.grow.trans g, s.mid.trans g.g, s.len, fun i d h => let ⟨v, h1, h2⟩ := s.val i d h; ⟨v, h1, h2.mono g.g⟩, fun i ds h => by
    obtain ⟨p, xs, h1, h2, h3, h4, h5⟩ := s.own i ds h
    exact ⟨p, xs, h1, h2, (g.fr p (by rw [h4]; exact fun z => nomatch z)).trans h3, g.kp p _ h4 (b0.nofp h2), h5.mono g.g⟩, s.sep⟩
theorem getElem?_set_cases {α : Type} {l : List α} {i j : Nat} {x y : α} (h : (l.set i x)[j]? = some y) : (i = j ∧ y = x ∧ i < l.length) ∨ (i ≠ j ∧ l[j]? = some y) := by
  by_cases hi : i = j
  · subst hi
    by_cases hl : i < l.length
    · rw [List.getElem?_set_self hl] at h
      exact .inl ⟨rfl, (Option.some.inj h).symm, hl⟩
    · rw [List.getElem?_eq_none (by rw [List.length_set]; omega)] at h
      cases h
  · rw [List.getElem?_set_ne hi] at h
    exact .inr ⟨hi, h⟩
theorem StR.setV (s : StR X jk ja G0 H0 Gm G H ρ σ) {v : V} {d : Pd.D} (q : Dq X.K ja G v d) (i : Nat) : StR X jk ja G0 H0 Gm G H (ρ.set i (.val d)) (σ.set i (some v)) := by
  refine ⟨s.grow, s.mid, by rw [List.length_set, List.length_set]; exact s.len, fun j e h => ?_, fun j ds h => ?_, fun j k ds es hjk h1 h2 => ?_⟩
  · rcases getElem?_set_cases h with ⟨rfl, e1, hl⟩ | ⟨hi, h⟩
    · cases e1
      exact ⟨v, List.getElem?_set_self (Nat.lt_of_lt_of_le hl s.len), q⟩
    · obtain ⟨w, h1, h2⟩ := s.val j e h
      exact ⟨w, by rw [List.getElem?_set_ne hi]; exact h1, h2⟩
  · rcases getElem?_set_cases h with ⟨rfl, e1, hl⟩ | ⟨hi, h⟩
    · cases e1
    · obtain ⟨p, xs, h1, h2⟩ := s.own j ds h
      exact ⟨p, xs, by rw [List.getElem?_set_ne hi]; exact h1, h2⟩
  · rcases getElem?_set_cases h1 with ⟨rfl, e1, hl⟩ | ⟨hi, h1⟩
    · cases e1
    · rcases getElem?_set_cases h2 with ⟨rfl, e1, hl⟩ | ⟨hk, h2⟩
      · cases e1
      · rw [List.getElem?_set_ne hi, List.getElem?_set_ne hk]
        exact s.sep j k ds es hjk h1 h2
/-- a list of the def's own at slot i: new, or one that stood there changed -/
theorem StR.setO {p : Addr} {xs : List V} {ds : List Pd.D} (s : StR X jk ja G0 H0 Gm G H ρ σ) (b0 : Base jk ja G0 H0) (i : Nat) (h0 : H0 p = none) (hg : G p = none) (hd : DqA X.K ja G xs ds)
    (hsep : ∀ (j : Nat) (es : List Pd.D), j ≠ i → ρ[j]? = some (.own es) → σ[j]? ≠ some (some (.ref p))) : StR X jk ja G0 H0 Gm G (upd H p (.lst xs)) (ρ.set i (.own ds)) (σ.set i (some (.ref p))) := by
  refine ⟨s.grow.mut b0 h0 hg, s.mid, by rw [List.length_set, List.length_set]; exact s.len, fun j e h => ?_, fun j ds h => ?_, fun j k ds es hjk h1 h2 => ?_⟩
  · rcases getElem?_set_cases h with ⟨rfl, e1, hl⟩ | ⟨hi, h⟩
    · cases e1
    · obtain ⟨w, h1, h2⟩ := s.val j e h
      exact ⟨w, by rw [List.getElem?_set_ne hi]; exact h1, h2⟩
  · rcases getElem?_set_cases h with ⟨rfl, e1, hl⟩ | ⟨hi, h⟩
    · cases e1
      exact ⟨p, xs, List.getElem?_set_self (Nat.lt_of_lt_of_le hl s.len), h0, hg, upd_same, hd⟩
    · obtain ⟨q, ys, h1, h2, h3, h4, h5⟩ := s.own j ds h
      have hne : q ≠ p := fun z => hsep j ds (fun z => hi z.symm) h (z ▸ h1)
      exact ⟨q, ys, by rw [List.getElem?_set_ne hi]; exact h1, h2, h3, by rw [upd_ne hne]; exact h4, h5⟩
  · rcases getElem?_set_cases h1 with ⟨rfl, e1, hl⟩ | ⟨hi, h1⟩
    · rcases getElem?_set_cases h2 with ⟨rfl, e2, hl2⟩ | ⟨hk, h2⟩
      · exact absurd rfl hjk
      · rw [List.getElem?_set_self (Nat.lt_of_lt_of_le hl s.len), List.getElem?_set_ne hk]
        exact fun z => hsep k es (fun z => hk z.symm) h2 z.symm
    · rcases getElem?_set_cases h2 with ⟨rfl, e2, hl2⟩ | ⟨hk, h2⟩
      · rw [List.getElem?_set_self (Nat.lt_of_lt_of_le hl2 s.len), List.getElem?_set_ne hi]
        exact fun z => hsep j ds hjk h1 z
      · rw [List.getElem?_set_ne hi, List.getElem?_set_ne hk]
        exact s.sep j k ds es hjk h1 h2
theorem StR.frz1 (b0 : Base jk ja G0 H0) (s : StR X jk ja G0 H0 Gm G H ρ σ) {i : Nat} {x : Sv} (hi : ρ[i]? = some x) : ∃ G1, Ex G G1 ∧ StR X jk ja G0 H0 Gm G1 H (ρ.set i x.frz) σ := by
  have same : ρ.set i x = ρ := by
    obtain ⟨h1, h2⟩ := List.getElem?_eq_some_iff.mp hi
    rw [← h2]
    exact List.set_getElem_self h1
  cases x with
  | no => exact ⟨G, Ex.refl G, by show StR X jk ja G0 H0 Gm G H (ρ.set i .no) σ; rw [same]; exact s⟩
  | val d => exact ⟨G, Ex.refl G, by show StR X jk ja G0 H0 Gm G H (ρ.set i (.val d)) σ; rw [same]; exact s⟩
  | own ds =>
    obtain ⟨p, xs, h1, h2, h3, h4, h5⟩ := s.own i ds hi
    have ex1 : Ex G (upd G p (.lst xs)) := Ex.new h3
    refine ⟨upd G p (.lst xs), ex1, ?_⟩
    show StR X jk ja G0 H0 Gm _ H (ρ.set i (.val (.lst ds))) σ
    have s2 : σ.set i (some (.ref p)) = σ := by
      obtain ⟨z1, z2⟩ := List.getElem?_eq_some_iff.mp h1
      rw [← z2]
      exact List.set_getElem_self z1
    refine ⟨s.grow.take b0 h2 h3 h4, s.mid.trans ex1, by rw [List.length_set]; exact s.len, fun j e h => ?_, fun j es h => ?_, fun j k es fs hjk q1 q2 => ?_⟩
    · rcases getElem?_set_cases h with ⟨rfl, e1, hl⟩ | ⟨hi', h⟩
      · cases e1
        exact ⟨_, h1, .lst upd_same (h5.mono ex1)⟩
      · obtain ⟨w, q1, q2⟩ := s.val j e h
        exact ⟨w, q1, q2.mono ex1⟩
    · rcases getElem?_set_cases h with ⟨rfl, e1, hl⟩ | ⟨hi', h⟩
      · cases e1
      · obtain ⟨q, ys, q1, q2, q3, q4, q5⟩ := s.own j es h
        have hne : q ≠ p := fun z => s.sep i j ds es hi' hi h (by rw [h1, q1, z])
        exact ⟨q, ys, q1, q2, by rw [upd_ne hne]; exact q3, q4, q5.mono ex1⟩
    · rcases getElem?_set_cases q1 with ⟨rfl, e1, hl⟩ | ⟨hi', q1⟩
      · cases e1
      · rcases getElem?_set_cases q2 with ⟨rfl, e1, hl⟩ | ⟨hk, q2⟩
        · cases e1
        · exact s.sep j k es fs hjk q1 q2
theorem StR.frz (b0 : Base jk ja G0 H0) : ∀ (rd : List Nat) {G : Hp} {ρ : SE}, StR X jk ja G0 H0 Gm G H ρ σ → ∃ G1, Ex G G1 ∧ StR X jk ja G0 H0 Gm G1 H (Pd.frz ρ rd) σ
  | [], G, _, s => ⟨G, Ex.refl G, s⟩
  | i :: r, G, ρ, s => by
    unfold Pd.frz
    cases e : ρ[i]? with
    | none => exact StR.frz b0 r s
    | some x =>
      obtain ⟨G1, e1, s1⟩ := s.frz1 b0 e
      obtain ⟨G2, e2, s2⟩ := StR.frz b0 r s1
      exact ⟨G2, e1.trans e2, s2⟩
theorem StR.sl (s : StR X jk ja G0 H0 Gm G H ρ σ) : Sl X.K ja G (view ρ) σ :=
  ⟨by unfold view; rw [List.length_map]; exact s.len, fun i d h => by
    unfold view at h
    rw [List.getElem?_map] at h
    cases e : ρ[i]? with
    | none => rw [e] at h; cases h
    | some x =>
      rw [e] at h
      cases x with
      | val d' =>
        have : d' = d := by
          have := Option.some.inj h
          exact Option.some.inj this
        subst this
        exact s.val i d' e
      | no => cases Option.some.inj h
      | own _ => cases Option.some.inj h⟩
/-- looked at for a moment: what was data is data -/
theorem Grow.drop {G1 : Hp} (e : Ex G G1) (g : Grow jk ja G1 H G' H') : Grow jk ja G H G H' := ⟨Ex.refl G, (e.trans g.g).trans g.ex, fun _ _ => rfl, g.kp, g.jar⟩
theorem fresh0 (s : StR X jk ja G0 H0 Gm G H ρ σ) {p : Addr} (h : H p = none) : H0 p = none := by
  cases e : H0 p with
  | none => rfl
  | some o => exact absurd h (s.grow.some (by rw [e]; exact fun z => nomatch z))
end

section
variable {X : Cx} {jk : JarK} {ja : JA} {e a b : Expr} {es : List Expr} {me ma mb : MC} {ml : ML} {mt : MT} {pos : Pos} {st : Stmt} {sts body els : List Stmt} {m m1 m2 : MS}
theorem SOk.by {t : TS} (hp : PS X st t) (h : ∀ ρ σ G0 H0 Gm G H D, Base jk ja G0 H0 → StR X jk ja G0 H0 Gm G H ρ σ → (m ρ).all (AftS X jk ja D G0 H0 Gm) → t D σ H) : SOk X jk ja st m :=
  fun ρ σ G0 H0 Gm G H D b0 s x pins st I => hp.run pins st σ H D I (h ρ σ G0 H0 Gm G H D b0 s x)
theorem bok_nil : BOk X jk ja [] fun ρ => .ret (.nx ρ) := fun ρ σ G0 H0 Gm G H D b0 s h pins st I => pss_nil.run pins st σ H D I (h σ G H s)
def mSeq (m1 m2 : MS) : MS := fun ρ => (m1 ρ).bind fun o => match o with | .nx ρ' => m2 ρ' | o => .ret o
theorem bok_cons (h1 : SOk X jk ja st m1) (h2 : BOk X jk ja sts m2) : BOk X jk ja (st :: sts) (mSeq m1 m2) := fun ρ σ G0 H0 Gm G H D b0 s h pins st' I =>
  (pss_cons (ps_sem (X := X) (st := st)) (pss_sem (X := X) (st := sts))).run pins st' σ H D I (h1 ρ σ G0 H0 Gm G H _ b0 s (Tr.all_mono (Tr.all_bind h) fun o ho => by
    cases o with
    | nx ρ' => exact fun σ' G' H' s' => h2 ρ' σ' G0 H0 Gm G' H' D b0 s' ho
    | rt d => exact ho
    | bk ρ' => exact ho
    | ct ρ' => exact ho))
theorem bok_one (h1 : SOk X jk ja st m1) : BOk X jk ja [st] m1 := fun ρ σ G0 H0 Gm G H D b0 s h pins st' I =>
  (pss_one (ps_sem (X := X) (st := st))).run pins st' σ H D I (h1 ρ σ G0 H0 Gm G H D b0 s h)
theorem sok_pass : SOk X jk ja (.Pass pos) fun ρ => .ret (.nx ρ) := SOk.by ps_pass fun ρ σ G0 H0 Gm G H D b0 s h => h σ G H s
theorem sok_break : SOk X jk ja (.Break pos) fun ρ => .ret (.bk ρ) := SOk.by ps_break fun ρ σ G0 H0 Gm G H D b0 s h => h σ G H s
theorem sok_continue : SOk X jk ja (.Continue pos) fun ρ => .ret (.ct ρ) := SOk.by ps_continue fun ρ σ G0 H0 Gm G H D b0 s h => h σ G H s
/-- name = e; the lists at rd are read as data from now on -/
def mAsg (i : Nat) (rd : List Nat) (me : MC) : MS := fun ρ => (me (view (frz ρ rd))).bind fun d => .ret (.nx ((frz ρ rd).set i (.val d)))
theorem sok_asg (i : Nat) (rd : List Nat) {x : Str} {pos' : Pos} (hN : X.N.Nodup) (he : EOk X jk ja e me) (hi : X.N[i]? = some x := by rfl) (hx : Loc X.env.scope x := by first | exact Or.inl rfl | exact Or.inr rfl) (hs : swapsWith e (some (.Name x pos')) pos.line X.env = pure false := by rfl)
    (hf : X.fn x = true ∨ X.env.scope.names.lookup x = some .local := by first | exact .inl rfl | exact .inr rfl) : SOk X jk ja (.Assign [.Name x pos'] e pos) (mAsg i rd me) :=
  SOk.by (ps_set (i := i) hN hi hx pe_sem hs hf) fun ρ σ G0 H0 Gm G H D b0 s h => by
    obtain ⟨G1, e1, s1⟩ := s.frz b0 rd
    exact he _ σ G1 H _ (s1.base b0) s1.sl (Tr.all_mono (Tr.all_bind h) fun d hd v G2 H2 g2 q => hd _ G2 H2 ((s1.step b0 g2).setV q i))
/-- the same of a value without parts: the lists at rd are looked at alone -/
def flat : Pd.D → Bool
  | .non | .bl _ | .int _ | .str _ | .rp _ => true
  | _ => false
theorem flat_any {K : PySem.W.Frag} {G G' : Hp} {v : V} {d : Pd.D} (q : Dq K ja G v d) (h : flat d = true) : Dq K ja G' v d := by
  cases q with
  | non => exact .non
  | bl b => exact .bl b
  | int i => exact .int i
  | str x => exact .str x
  | rp d => exact .rp d
  | lst _ _ => cases h
  | seq _ _ => cases h
  | tup _ _ => cases h
  | dct _ _ _ => cases h
  | obj _ => cases h
def mAsgF (i : Nat) (rd : List Nat) (me : MC) : MS := fun ρ => (me (view (frz ρ rd))).bind fun d => if flat d = true then .ret (.nx (ρ.set i (.val d))) else .fail
theorem sok_asgF (i : Nat) (rd : List Nat) {x : Str} {pos' : Pos} (hN : X.N.Nodup) (he : EOk X jk ja e me) (hi : X.N[i]? = some x := by rfl) (hx : Loc X.env.scope x := by first | exact Or.inl rfl | exact Or.inr rfl) (hs : swapsWith e (some (.Name x pos')) pos.line X.env = pure false := by rfl)
    (hf : X.fn x = true ∨ X.env.scope.names.lookup x = some .local := by first | exact .inl rfl | exact .inr rfl) : SOk X jk ja (.Assign [.Name x pos'] e pos) (mAsgF i rd me) :=
  SOk.by (ps_set (i := i) hN hi hx pe_sem hs hf) fun ρ σ G0 H0 Gm G H D b0 s h => by
    obtain ⟨G1, e1, s1⟩ := s.frz b0 rd
    exact he _ σ G1 H _ (s1.base b0) s1.sl (Tr.all_mono (Tr.all_bind h) fun d hd v G2 H2 g2 q => by
      obtain ⟨hf, hd⟩ := ite_all hd
      exact hd _ G H2 ((s.step b0 (g2.drop e1)).setV (flat_any q hf) i))
/-- name = a new list -/
def mNew (i : Nat) (rd : List Nat) (ml : ML) : MS := fun ρ => (ml (view (frz ρ rd))).bind fun ds => .ret (.nx ((frz ρ rd).set i (.own ds)))
theorem StR.newO {G0 H0 Gm G H G2 H2 : Hp} {ρ : SE} {σ : St} (b0 : Base jk ja G0 H0) (s : StR X jk ja G0 H0 Gm G H ρ σ) (g : Grow jk ja G H G2 H2) {p : Addr} {xs : List V} {ds : List Pd.D} (hp : H p = none) (hg : G2 p = none) (hl : H2 p = some (.lst xs)) (q : DqA X.K ja G2 xs ds) (i : Nat) :
    StR X jk ja G0 H0 Gm G2 H2 (ρ.set i (.own ds)) (σ.set i (some (.ref p))) := by
  have h := (s.step b0 g).setO (p := p) (xs := xs) b0 i (fresh0 s hp) hg q fun j es _ ho z => by
    obtain ⟨p', ys, h1, _, _, h4, _⟩ := s.own j es ho
    rw [h1] at z
    cases z
    rw [hp] at h4
    cases h4
  have e : upd H2 p (.lst xs) = H2 := by
    funext a
    by_cases ha : a = p
    · subst ha; rw [upd_same, hl]
    · rw [upd_ne ha]
  rw [e] at h
  exact h
theorem sok_new (i : Nat) (rd : List Nat) {x : Str} {pos' : Pos} (hN : X.N.Nodup) (he : LOk X jk ja e ml) (hi : X.N[i]? = some x := by rfl) (hx : Loc X.env.scope x := by first | exact Or.inl rfl | exact Or.inr rfl) (hs : swapsWith e (some (.Name x pos')) pos.line X.env = pure false := by rfl)
    (hf : X.fn x = true ∨ X.env.scope.names.lookup x = some .local := by first | exact .inl rfl | exact .inr rfl) : SOk X jk ja (.Assign [.Name x pos'] e pos) (mNew i rd ml) :=
  SOk.by (ps_set (i := i) hN hi hx pe_sem hs hf) fun ρ σ G0 H0 Gm G H D b0 s h => by
    obtain ⟨G1, e1, s1⟩ := s.frz b0 rd
    exact he _ σ G1 H _ (s1.base b0) s1.sl (Tr.all_mono (Tr.all_bind h) fun ds hd p xs G2 H2 g2 hp hg hl q => hd _ G2 H2 (s1.newO b0 g2 hp hg hl q i))
/-- a, b = e -/
def setS (ρ : SE) (as : List (Nat × Pd.D)) : SE := as.foldl (fun r p => r.set p.1 (.val p.2)) ρ
theorem StR.setsV {G0 H0 Gm G H : Hp} {bs : List (Nat × V)} {as : List (Nat × Pd.D)} (h : PairA X.K ja G bs as) : ∀ {ρ : SE} {σ : St}, StR X jk ja G0 H0 Gm G H ρ σ → StR X jk ja G0 H0 Gm G H (setS ρ as) (Pd.setV σ bs) := by
  induction h with
  | nil => exact fun s => s
  | cons r t ih =>
    rename_i b a xs ys
    intro ρ σ s
    obtain ⟨b1, b2⟩ := b
    obtain ⟨a1, a2⟩ := a
    obtain ⟨e, h⟩ := r
    have e : b1 = a1 := e
    subst e
    exact ih (s.setV h b1)
def mUnp (p : Pt) (rd : List Nat) (me : MC) : MS := fun ρ => (me (view (frz ρ rd))).bind fun d => match p.to d with | some as => .ret (.nx (setS (frz ρ rd) as)) | none => .fail
theorem sok_unp (rd : List Nat) {tg : Expr} {p : Pt} (he : EOk X jk ja e me) (hg : GOk X jk ja tg p) (hs : swapsWithSole [tg] e pos.line X.env = pure false := by rfl) (hw : swappedStores [tg] e X.env = pure none := by rfl)
    (h1 : (assignEach [tg] X.env).map (·.2) = [assign tg X.env] := by rfl) : SOk X jk ja (.Assign [tg] e pos) (mUnp p rd me) :=
  SOk.by (ps_asg pe_sem pg_sem hs hw h1) fun ρ σ G0 H0 Gm G H D b0 s h => by
    obtain ⟨G1, e1, s1⟩ := s.frz b0 rd
    exact he _ σ G1 H _ (s1.base b0) s1.sl (Tr.all_mono (Tr.all_bind h) fun d hd v G2 H2 g2 q => by
      cases eto : p.to d with
      | none => rw [eto] at hd; exact hd.elim
      | some as =>
        rw [eto] at hd
        exact hg v d as σ G2 H2 _ ((s1.base b0).grow g2) q eto fun bs pb => hd _ G2 H2 ((s1.step b0 g2).setsV pb))
/-- a, b = e1, e2: both sides written, plain local names; each side data or a new list -/
inductive Md where
  | v (m : MC)
  | l (m : ML)
def Md.go (i : Nat) (ρv : VE) : Md → SE → Tr SE
  | .v m, ρ => (m ρv).bind fun d => .ret (ρ.set i (.val d))
  | .l m, ρ => (m ρv).bind fun ds => .ret (ρ.set i (.own ds))
def MdOk (X : Cx) (jk : JarK) (ja : JA) (e : Expr) : Md → Prop
  | .v m => EOk X jk ja e m
  | .l m => LOk X jk ja e m
def mPar (i j : Nat) (rd : List Nat) (ma mb : Md) : MS := fun ρ => (ma.go i (view (frz ρ rd)) (frz ρ rd)).bind fun ρ1 => (mb.go j (view (frz ρ rd)) ρ1).bind fun ρ2 => .ret (.nx ρ2)
/-- one side: from σ0 (what is read) and σ (what is stored so far) -/
theorem md_go {G0 H0 Gm G H : Hp} {ρv : VE} {ρ : SE} {σ0 σ : St} {ma : Md} (i : Nat) (b0 : Base jk ja G0 H0) (ha : MdOk X jk ja a ma) (hv : Sl X.K ja G ρv σ0) (s : StR X jk ja G0 H0 Gm G H ρ σ) {Q : SE → Prop} {R : VK} (h : (ma.go i ρv ρ).all Q)
    (k : ∀ v ρ2 G2 H2, Grow jk ja G H G2 H2 → Q ρ2 → StR X jk ja G0 H0 Gm G2 H2 ρ2 (σ.set i (some v)) → R v H2) : sem X a σ0 H R := by
  cases ma with
  | v m => exact ha ρv σ0 G H _ (s.base b0) hv (Tr.all_mono (Tr.all_bind h) fun d hd v G2 H2 g2 q => k v _ G2 H2 g2 hd ((s.step b0 g2).setV q i))
  | l m => exact ha ρv σ0 G H _ (s.base b0) hv (Tr.all_mono (Tr.all_bind h) fun ds hd p xs G2 H2 g2 hp hg hl q => k _ _ G2 H2 g2 hd (s.newO b0 g2 hp hg hl q i))
theorem sok_par (i j : Nat) (rd : List Nat) {x y : Str} {px py pt pt2 : Pos} {kt k2 : Nat} {ma mb : Md} (hc : X.calm = true) (hN : X.N.Nodup) (ha : MdOk X jk ja a ma) (hb : MdOk X jk ja b mb) (hw : swappedStores [.Tuple [.Name x px, .Name y py] kt pt] (.Tuple [a, b] k2 pt2) X.env = pure (some [x, y]) := by rfl)
    (hi : X.N[i]? = some x := by rfl) (hj : X.N[j]? = some y := by rfl) (hij : i ≠ j := by decide) (hx : X.env.scope.names.lookup x = some .local := by rfl) (hy : X.env.scope.names.lookup y = some .local := by rfl)
    (hs : swapsWithSole [.Tuple [.Name x px, .Name y py] kt pt] (.Tuple [a, b] k2 pt2) pos.line X.env = pure false := by rfl) (hs1 : starEach [a, b] X.env = (false, eval a X.env) :: starEach [b] X.env := by rfl) (hs2 : starEach [b] X.env = (false, eval b X.env) :: starEach [] X.env := by rfl) :
    SOk X jk ja (.Assign [.Tuple [.Name x px, .Name y py] kt pt] (.Tuple [a, b] k2 pt2) pos) (mPar i j rd ma mb) :=
  SOk.by (ps_par (i := i) (j := j) hc hN hi hj hij hx hy (pa_cons pe_sem (pa_cons pe_sem pa_nil hs2) hs1) hw hs) fun ρ σ G0 H0 Gm G H D b0 s h => by
    obtain ⟨G1, e1, s1⟩ := s.frz b0 rd
    refine md_go i b0 ha s1.sl s1 (Tr.all_bind h) fun v ρ2 G2 H2 g2 hq s2 => ?_
    exact md_go j b0 hb (s1.sl.mono g2.g) s2 (Tr.all_bind hq) fun w ρ3 G3 H3 g3 hq3 s3 => ⟨v, w, rfl, hq3 _ G3 H3 s3⟩
/-- if: the test is looked at alone -/
def mIfS (rd : List Nat) (mt : MT) (m1 m2 : MS) : MS := fun ρ => (mt (view (frz ρ rd))).bind fun c => if c = true then m1 ρ else m2 ρ
theorem sok_if (rd : List Nat) (hc : TOk X jk ja e mt) (h1 : BOk X jk ja body m1) (h2 : BOk X jk ja els m2) : SOk X jk ja (.If e body els pos) (mIfS rd mt m1 m2) :=
  SOk.by (ps_if pt_sem pss_sem pss_sem) fun ρ σ G0 H0 Gm G H D b0 s h => by
    obtain ⟨G1, e1, s1⟩ := s.frz b0 rd
    exact hc _ σ G1 H _ (s1.base b0) s1.sl (Tr.all_mono (Tr.all_bind h) fun c hc G2 H2 g2 => by
      have s2 := s.step b0 (g2.drop e1)
      cases c with
      | true => exact iteT (h1 ρ σ G0 H0 Gm G H2 D b0 s2 hc)
      | false => exact iteF (h2 ρ σ G0 H0 Gm G H2 D b0 s2 hc))
def mRet (rd : List Nat) (me : MC) : MS := fun ρ => (me (view (frz ρ rd))).bind fun d => .ret (.rt d)
theorem sok_ret (rd : List Nat) (he : EOk X jk ja e me) : SOk X jk ja (.Return (some e) pos) (mRet rd me) :=
  SOk.by (ps_ret pe_sem) fun ρ σ G0 H0 Gm G H D b0 s h => by
    obtain ⟨G1, e1, s1⟩ := s.frz b0 rd
    exact he _ σ G1 H _ (s1.base b0) s1.sl (Tr.all_mono (Tr.all_bind h) fun d hd v G2 H2 g2 q => hd v G2 H2 (s1.grow.trans g2) q)
/-- x.append(e), x an own list -/
def mApp (i : Nat) (rd : List Nat) (me : MC) : MS := fun ρ => (me (view (frz ρ rd))).bind fun d => match (frz ρ rd)[i]? with
  | some (.own ds) => if ds.length < sizeLine then .ret (.nx ((frz ρ rd).set i (.own (ds ++ [d])))) else .fail
  | _ => .fail
theorem own_sep {G0 H0 Gm G H : Hp} {ρ : SE} {σ : St} (s : StR X jk ja G0 H0 Gm G H ρ σ) {i : Nat} {ds : List Pd.D} {p : Addr} (hi : ρ[i]? = some (.own ds)) (hp : σ[i]? = some (some (.ref p))) : ∀ (j : Nat) (es : List Pd.D), j ≠ i → ρ[j]? = some (.own es) → σ[j]? ≠ some (some (.ref p)) :=
  fun j es hj ho z => s.sep j i es ds hj ho hi (z.trans hp.symm)
theorem set_self {α : Type} {l : List α} {i : Nat} {x : α} (h : l[i]? = some x) : l.set i x = l := by
  obtain ⟨h1, h2⟩ := List.getElem?_eq_some_iff.mp h
  rw [← h2]
  exact List.set_getElem_self h1
theorem sok_app (i : Nat) (rd : List Nat) {x : Str} {px pa pc : Pos} (he : EOk X jk ja e me) (hi : X.N[i]? = some x := by rfl) (hv : Vis X.env.scope x := by first | exact Or.inl rfl | exact Or.inr (Or.inl rfl) | exact Or.inr (Or.inr rfl)) (hd : (x == ("__debug__" : Str)) = false := by decide) (hcd : (x == ("__classdict__" : Str)) = false := by decide)
    (hp : PE X (.Call (.Attribute (.Name x px) "append" pa) [e] [] pc) (tBM X.K "list" rAppend (tVar i) (tCons (sem X e) tNil)))
    (hs : swapsWith (.Call (.Attribute (.Name x px) "append" pa) [e] [] pc) none pos.line X.env = pure false := by rfl) : SOk X jk ja (.Expr (.Call (.Attribute (.Name x px) "append" pa) [e] [] pc) pos) (mApp i rd me) :=
  SOk.by (ps_expr hp hs) fun ρ σ G0 H0 Gm G H D b0 s h => by
    obtain ⟨G1, e1, s1⟩ := s.frz b0 rd
    have h' := Tr.all_bind h
    -- the slot holds an own list on every way: it is read ahead of e
    cases eo : (frz ρ rd)[i]? with
    | none =>
      rw [eo] at h'
      exact absurd (Tr.all_mono h' (P' := fun _ => False) fun _ z => z) (by
        intro z
        have : ∀ t : Tr Pd.D, t.all (fun _ => False) → False := by
          intro t
          induction t with
          | ret _ => exact id
          | fail => exact id
          | draw m k ih => exact fun q => ih 0 (q.2 0 (Int.le_refl _) q.1)
        exact this _ z)
    | some o =>
      cases o with
      | own ds =>
        rw [eo] at h'
        obtain ⟨p, xs, q1, q2, q3, q4, q5⟩ := s1.own i ds eo
        refine ⟨.ref p, q1, .inl ⟨rfl, xs, sq_of q4⟩, he _ σ G1 H _ (s1.base b0) s1.sl (Tr.all_mono h' fun d hd v G2 H2 g2 q => ?_)⟩
        obtain ⟨hl, hd⟩ := ite_all hd
        have s2 := s1.step b0 g2
        obtain ⟨p', xs', r1, r2, r3, r4, r5⟩ := s2.own i ds eo
        have ep : p' = p := by rw [r1] at q1; cases q1; rfl
        subst ep
        refine ⟨p', xs', v, rfl, rfl, r4, by rw [r5.length]; exact hl, ?_⟩
        have s3 := s2.setO (xs := xs' ++ [v]) (ds := ds ++ [d]) b0 i r2 r3 (r5.append (.cons q .nil)) (own_sep s2 eo r1)
        rw [set_self r1] at s3
        exact hd _ G2 _ s3
      | no =>
        rw [eo] at h'
        exact absurd h' (by
          intro z
          have : ∀ t : Tr Pd.D, t.all (fun _ => False) → False := by
            intro t
            induction t with
            | ret _ => exact id
            | fail => exact id
            | draw m k ih => exact fun q => ih 0 (q.2 0 (Int.le_refl _) q.1)
          exact this _ z)
      | val d0 =>
        rw [eo] at h'
        exact absurd h' (by
          intro z
          have : ∀ t : Tr Pd.D, t.all (fun _ => False) → False := by
            intro t
            induction t with
            | ret _ => exact id
            | fail => exact id
            | draw m k ih => exact fun q => ih 0 (q.2 0 (Int.le_refl _) q.1)
          exact this _ z)
end
end Pd
set_option maxHeartbeats 4100000
/-! Loops, a def from its body. -/
namespace Pd
open PySem PySem.Spec L2 Evl
open PyProof.Rows hiding St
theorem no_all {α : Type} {P : α → Prop} : ∀ {t : Tr α}, t.all (fun _ => False) → P = P ∧ False
  | .ret _, h => ⟨rfl, h⟩
  | .fail, h => ⟨rfl, h⟩
  | .draw m k, h => no_all (h.2 0 (Int.le_refl _) h.1)
theorem no_all' {α : Type} {t : Tr α} (h : t.all (fun _ => False)) : False := (no_all (P := fun _ => True) h).2

section
variable {X : Cx} {jk : JarK} {ja : JA} {e a b : Expr} {es : List Expr} {me ma mb : MC} {ml mi : ML} {mt : MT} {pos : Pos} {st : Stmt} {sts body els : List Stmt} {m m1 m2 mB : MS}

theorem StR.remid {G0 H0 Gm Gn G H : Hp} {ρ : SE} {σ : St} (s : StR X jk ja G0 H0 Gm G H ρ σ) (e : Ex Gn G) : StR X jk ja G0 H0 Gn G H ρ σ := ⟨s.grow, e, s.len, s.val, s.own, s.sep⟩

/-! ### for -/
def forF (p : Pt) (mB : MS) : List D → SE → Tr Out
  | [], ρ => .ret (.nx ρ)
  | d :: ds, ρ => match p.to d with
    | none => .fail
    | some as => (mB (setS ρ as)).bind fun o => match o with
      | .nx ρ' => forF p mB ds ρ'
      | .ct ρ' => forF p mB ds ρ'
      | .bk ρ' => .ret (.nx ρ')
      | .rt d => .ret (.rt d)
def mFor (p : Pt) (rd : List Nat) (mi : ML) (mB : MS) : MS := fun ρ => (mi (view (frz ρ rd))).bind fun ds => forF p mB ds (frz ρ rd)
theorem sok_for (rd : List Nat) {tg iter : Expr} {p : Pt} (hp : PassesOwn (model X.prog X.w) X.A X.env X.xe) (hc : X.calm = true) (hi : IOk X jk ja tg iter mi) (hg : GOk X jk ja tg p) (hb : BOk X jk ja body mB)
    (hs : ∀ x, foldedSetIterable iter X.env x = pure x := by intro _; rfl) : SOk X jk ja (.For tg iter body [] pos) (mFor p rd mi mB) :=
  SOk.by (ps_for hp hc pi_sem pg_sem pss_sem hs) fun ρ σ G0 H0 Gm G H D b0 s h => by
    obtain ⟨G1, e1, s1⟩ := s.frz b0 rd
    refine hi _ σ G1 H _ (s1.base b0) s1.sl (Tr.all_mono (Tr.all_bind h) fun ds hd J G2 H2 g2 wk => ?_)
    obtain ⟨Gp, Y, w, hG, hy⟩ := wk
    have s2 := s1.step b0 g2
    refine for_it (g := semG X tg) (tb := semB X body) (D := D) w (fun i σ' H' => ∃ G' ρ', StR X jk ja G0 H0 G2 G' H' ρ' σ' ∧ (forF p mB (ds.drop i) ρ').all (AftS X jk ja D G0 H0 Gm)) ⟨G2, _, s2.remid (Ex.refl G2), hd⟩ (fun i σ' H' _ q => ?_) (fun i x σ' H' H3 hin q y => ?_) fun σ' H' q => ?_
    · obtain ⟨G', ρ', sq, _⟩ := q
      exact hG G' H' sq.mid sq.grow.ex
    · obtain ⟨G', ρ', sq, hr⟩ := q
      obtain ⟨d, hdi⟩ : ∃ d, ds[i]? = some d := ⟨ds[i], List.getElem?_eq_getElem hin⟩
      obtain ⟨G3, g3, dx⟩ := hy i d H' x H3 G' hdi sq.mid (sq.base b0) y
      have s3 := sq.step b0 g3
      rw [List.drop_eq_getElem_cons hin, show ds[i] = d from Option.some.inj ((List.getElem?_eq_getElem hin).symm.trans hdi)] at hr
      unfold forF at hr
      cases eto : p.to d with
      | none => rw [eto] at hr; exact hr.elim
      | some as =>
        rw [eto] at hr
        refine hg x d as σ' G3 H3 _ (s3.base b0) dx eto fun bs pb => ?_
        refine hb (setS ρ' as) (setV σ' bs) G0 H0 G2 G3 H3 _ b0 (s3.setsV pb) (Tr.all_mono (Tr.all_bind hr) fun o ho => ?_)
        cases o with
        | nx ρ2 => exact fun σ4 G4 H4 s4 => ⟨G4, ρ2, s4, ho⟩
        | ct ρ2 => exact fun σ4 G4 H4 s4 => ⟨G4, ρ2, s4, ho⟩
        | bk ρ2 => exact fun σ4 G4 H4 s4 => ho σ4 G4 H4 (s4.remid (s2.mid.trans s4.mid))
        | rt d => exact ho
    · obtain ⟨G', ρ', sq, hr⟩ := q
      rw [List.drop_length] at hr
      exact hr σ' G' H' (sq.remid (s2.mid.trans sq.mid))

/-! ### while -/
def whileF (rd : List Nat) (mt : MT) (mB : MS) : Nat → SE → Tr Out
  | 0, _ => .fail
  | n + 1, ρ => (mt (view (frz ρ rd))).bind fun c => if c = true then (mB ρ).bind fun o => match o with
      | .nx ρ' => whileF rd mt mB n ρ'
      | .ct ρ' => whileF rd mt mB n ρ'
      | .bk ρ' => .ret (.nx ρ')
      | .rt d => .ret (.rt d)
    else .ret (.nx ρ)
theorem sok_while (n : Nat) (rd : List Nat) (hp : PassesOwn (model X.prog X.w) X.A X.env X.xe) (hc : TOk X jk ja e mt) (hb : BOk X jk ja body mB) : SOk X jk ja (.While e body [] pos) (whileF rd mt mB n) :=
  SOk.by (ps_while hp pt_sem pss_sem) fun ρ σ G0 H0 Gm G H D b0 s h => by
    refine ⟨fun n σ' H' => ∃ G' ρ', StR X jk ja G0 H0 Gm G' H' ρ' σ' ∧ (whileF rd mt mB n ρ').all (AftS X jk ja D G0 H0 Gm), ⟨n, G, ρ, s, h⟩, fun n σ' H' q => ?_⟩
    obtain ⟨G', ρ', sq, hr⟩ := q
    cases n with
    | zero => exact hr.elim
    | succ n =>
      unfold whileF at hr
      obtain ⟨G1, e1, s1⟩ := sq.frz b0 rd
      refine hc _ σ' G1 H' _ (s1.base b0) s1.sl (Tr.all_mono (Tr.all_bind hr) fun c hcc G2 H2 g2 => ?_)
      have s2 := sq.step b0 (g2.drop e1)
      cases c with
      | true =>
        refine iteT ⟨fun σ3 H3 => ∃ G3 ρ3, StR X jk ja G0 H0 Gm G3 H3 ρ3 σ3 ∧ (whileF rd mt mB n ρ3).all (AftS X jk ja D G0 H0 Gm), fun σ3 H3 q3 => ⟨n, Nat.lt_succ_self n, q3⟩, ?_⟩
        refine hb ρ' σ' G0 H0 Gm G' H2 _ b0 s2 (Tr.all_mono (Tr.all_bind hcc) fun o ho => ?_)
        cases o with
        | nx ρ2 => exact fun σ4 G4 H4 s4 => ⟨G4, ρ2, s4, ho⟩
        | ct ρ2 => exact fun σ4 G4 H4 s4 => ⟨G4, ρ2, s4, ho⟩
        | bk ρ2 => exact fun σ4 G4 H4 s4 => ho σ4 G4 H4 s4
        | rt d => exact ho
      | false => exact iteF (hcc σ' G' H2 s2)

/-! ### name += e, of whole numbers -/
def mAug (f : Int → Int → Int) (i : Nat) (rd : List Nat) (me : MC) : MS := fun ρ => match (view ρ)[i]? with
  | some (some (.int x)) => (me (view (frz ρ rd))).bind fun d => match d with | .int y => .ret (.nx (ρ.set i (.val (.int (f x y))))) | _ => .fail
  | _ => .fail
theorem sok_aug {op : Operator} {f : Int → Int → Int} (ho : PIp X op (ipI f)) (i : Nat) (rd : List Nat) {x : Str} {pos' : Pos} (hN : X.N.Nodup) (he : EOk X jk ja e me) (hi : X.N[i]? = some x := by rfl) (hx : Loc X.env.scope x := by first | exact Or.inl rfl | exact Or.inr rfl)
    (hf : X.fn x = true ∨ X.env.scope.names.lookup x = some .local := by first | exact .inl rfl | exact .inr rfl) : SOk X jk ja (.AugAssign (.Name x pos') op e pos) (mAug f i rd me) :=
  SOk.by (ps_aug (i := i) hN hi hx pe_sem ho hf) fun ρ σ G0 H0 Gm G H D b0 s h => by
    unfold mAug at h
    split at h
    · rename_i x0 hx0
      obtain ⟨v, h1, h2⟩ := s.sl.at_ i _ hx0
      cases h2.inv_int
      obtain ⟨G1, e1, s1⟩ := s.frz b0 rd
      refine ⟨_, h1, he _ σ G1 H _ (s1.base b0) s1.sl (Tr.all_mono (Tr.all_bind h) fun d hd w G2 H2 g2 q => ?_)⟩
      split at hd
      · cases q.inv_int
        exact ⟨_, _, rfl, rfl, hd _ G H2 ((s.step b0 (g2.drop e1)).setV (.int _) i)⟩
      · exact hd.elim
    · exact h.elim

/-! ### a def -/
def startE (n : Nat) (ds : List D) : SE := ds.map Sv.val ++ List.replicate (n - ds.length) .no
def runC (n : Nat) (m : MS) : List D → Tr D := fun ds => (m (startE n ds)).bind fun o => match o with
  | .rt d => .ret d
  | .nx _ => .ret .non
  | _ => .fail
theorem start_StR {K : PySem.W.Frag} {G H : Hp} {N : List Str} {vs : List V} {ds : List D} (hK : X.K = K) (b : Base jk ja G H) (q : DqA K ja G vs ds) : StR X jk ja G H G G H (startE N.length ds) (L2.start N vs) := by
  subst hK
  have hl := q.length
  refine ⟨Grow.refl b, Ex.refl G, ?_, fun i d h => ?_, fun i es h => ?_, fun i j es fs _ h1 _ => ?_⟩
  · unfold startE L2.start
    simp only [List.length_append, List.length_map, List.length_replicate]
    omega
  · unfold startE at h
    by_cases hi : i < ds.length
    · rw [List.getElem?_append_left (by rw [List.length_map]; exact hi), List.getElem?_map] at h
      obtain ⟨x, hx⟩ : ∃ x, ds[i]? = some x := ⟨ds[i], List.getElem?_eq_getElem hi⟩
      rw [hx] at h
      cases h
      obtain ⟨v, hv, qv⟩ := q.get hx
      refine ⟨v, ?_, qv⟩
      unfold L2.start
      rw [List.getElem?_append_left (by rw [List.length_map]; omega), List.getElem?_map, hv]
      rfl
    · rw [List.getElem?_append_right (by rw [List.length_map]; omega), List.getElem?_replicate] at h
      split at h <;> cases h
  · unfold startE at h
    by_cases hi : i < ds.length
    · rw [List.getElem?_append_left (by rw [List.length_map]; exact hi), List.getElem?_map] at h
      cases hx : ds[i]? with
      | none => rw [hx] at h; cases h
      | some x => rw [hx] at h; cases h
    · rw [List.getElem?_append_right (by rw [List.length_map]; omega), List.getElem?_replicate] at h
      split at h <;> cases h
  · unfold startE at h1
    by_cases hi : i < ds.length
    · rw [List.getElem?_append_left (by rw [List.length_map]; exact hi), List.getElem?_map] at h1
      cases hx : ds[i]? with
      | none => rw [hx] at h1; cases h1
      | some x => rw [hx] at h1; cases h1
    · rw [List.getElem?_append_right (by rw [List.length_map]; omega), List.getElem?_replicate] at h1
      split at h1 <;> cases h1
end
section
variable {P : Program} {w : World} {K : PySem.W.Frag} {mg : Str → Option Value} {base : Heap} {jk : JarK}
abbrev DefX (P : Program) (w : World) (K : PySem.W.Frag) (mg : Str → Option Value) (base : Heap) (N : List Str) (qual : Str) (sc : Scope) (f : Addr) (cdv : Value) (A : Around) (outer : List PySem.Env) (s : Shared) (H : Hp) (E : XK) : Cx := (cxOf CX0 P w K mg base N qual sc f cdv A outer s H E).nox
/-- a def whose body is m: called with data it does what m says -/
theorem fn_code {x qual : Str} {st : Stmt} {f : Addr} {fd : FuncData} {N ps : List Str} {k : Nat} {m : MS} (F : Fun K x qual st f fd) (S : FnScope N ps (defScope st)) (g : List D → Tr D) (hg : ∀ ds, ds.length ≠ ps.length → g ds = .fail)
    (hgm : ∀ ds, ds.length = ps.length → g ds = runC N.length m ds)
    (hb : ∀ (cdv : Value) (A : Around) (outer : List PySem.Env) (s : Shared) (H : Hp) (E : XK) (ja : JA), (A.deeper (envOfC qual (defScope st) s.heap.objs.size f cdv)).guards = some [] → Room k (A.deeper (envOfC qual (defScope st) s.heap.objs.size f cdv)) → BOk (DefX P w K mg base N qual (defScope st) f cdv A outer s H E) jk ja (defBody st) m) :
    FnG P w K mg base (k + 1) f fd ps (spT K jk g) := by
  have hlen : ∀ vs H Q E, spT K jk g vs H Q E → vs.length = ps.length := fun vs H Q E h => by
    obtain ⟨ja, G, ds, b, q, h⟩ := h
    rw [q.length]
    by_cases hne : ds.length = ps.length
    · exact hne
    · rw [hg ds hne] at h
      exact False.elim h
  refine bodyG F S (fun {vs H Q E} h => hlen vs H Q E h) ?_
  intro cdv A outer s H vs Q E hA hr h
  have hl := hlen vs H Q E h
  obtain ⟨ja, G, ds, b, q, h⟩ := h
  rw [q.length] at hl
  rw [hgm ds hl] at h
  refine ⟨semB _ (defBody st), pss_sem, hb cdv A outer s H E ja hA hr _ _ G H G G H _ b (start_StR rfl b q) (Tr.all_mono (Tr.all_bind h) fun o ho => ?_)⟩
  cases o with
  | nx ρ => exact fun σ' G' H' s' => ho .non G' H' s'.grow .non
  | rt d => exact fun v G' H' g' q' => ho v G' H' g' q'
  | bk ρ => exact ho.elim
  | ct ρ => exact ho.elim
/-- a promise by another function that says less -/
theorem spT_imp {g g' : List D → Tr D} (h : ∀ ds (P : D → Prop), (g' ds).all P → (g ds).all P) : ∀ vs H Q E, spT K jk g' vs H Q E → spT K jk g vs H Q E := fun vs H Q E ⟨ja, G, ds, b, q, a⟩ => ⟨ja, G, ds, b, q, h ds _ a⟩
end
end Pd
set_option maxHeartbeats 4100000
/-! Operations on data. -/
namespace Pd
open PySem PySem.Spec L2 Evl
open PyProof.Rows hiding St

section
variable {X : Cx} {jk : JarK} {ja : JA}
/-- two whole numbers -/
def intF (C : Int → Int → Bool) (g : Int → Int → D) : D → D → Tr D
  | .int i, .int j => if C i j = true then .ret (g i j) else .fail
  | _, _ => .fail
theorem r2_int {C : Int → Int → Bool} {CP : Int → Int → Prop} {g : Int → Int → V} {gd : Int → Int → D} (hC : ∀ i j, C i j = true → CP i j) (hg : ∀ K ja G i j, Dq K ja G (g i j) (gd i j)) : R2Ok X jk ja (rI CP g) (intF C gd) := fun G H x y d e Q b q1 q2 h => by
  unfold intF at h
  split at h
  · cases q1.inv_int
    cases q2.inv_int
    obtain ⟨hc, h⟩ := ite_all h
    exact ⟨_, _, rfl, rfl, hC _ _ hc, h _ G H (Grow.refl b) (hg _ _ _ _ _)⟩
  · exact h.elim
def intF0 (g : Int → Int → D) : D → D → Tr D
  | .int i, .int j => .ret (g i j)
  | _, _ => .fail
theorem r2_int0 {g : Int → Int → V} {gd : Int → Int → D} (hg : ∀ K ja G i j, Dq K ja G (g i j) (gd i j)) : R2Ok X jk ja (rI0 g) (intF0 gd) := fun G H x y d e Q b q1 q2 h => by
  unfold intF0 at h
  split at h
  · cases q1.inv_int
    cases q2.inv_int
    exact ⟨_, _, rfl, rfl, h _ G H (Grow.refl b) (hg _ _ _ _ _)⟩
  · exact h.elim
def fAdd : D → D → Tr D := intF0 fun i j => .int (i + j)
def fSub : D → D → Tr D := intF0 fun i j => .int (i - j)
def fMul : D → D → Tr D := intF (fun i j => decide (i.natAbs.log2 + j.natAbs.log2 < 1000000)) fun i j => .int (i * j)
def fDiv : D → D → Tr D := intF (fun _ j => decide (0 < j) && decide (j.natAbs.log2 < 9000)) fun i j => .int (i / j)
def fMod : D → D → Tr D := intF (fun _ j => decide (0 < j)) fun i j => .int (i % j)
theorem r_add : R2Ok X jk ja (rI0 fun i j => .int (i + j)) fAdd := r2_int0 fun _ _ _ _ _ => .int _
theorem r_sub : R2Ok X jk ja (rI0 fun i j => .int (i - j)) fSub := r2_int0 fun _ _ _ _ _ => .int _
theorem r_mul : R2Ok X jk ja (rI CMulW fun i j => .int (i * j)) fMul := r2_int (fun i j h => show i.natAbs.log2 + j.natAbs.log2 < 1000000 from of_decide_eq_true h) fun _ _ _ _ _ => .int _
theorem r_div : R2Ok X jk ja (rI CDivW fun i j => .int (i / j)) fDiv := r2_int (fun i j h => by
  rw [Bool.and_eq_true] at h
  exact ⟨of_decide_eq_true h.1, of_decide_eq_true h.2⟩) fun _ _ _ _ _ => .int _
theorem r_mod : R2Ok X jk ja (rI (fun _ j => 0 < j) fun i j => .int (i % j)) fMod := r2_int (fun i j h => of_decide_eq_true h) fun _ _ _ _ _ => .int _
def fLt : D → D → Tr D := intF0 fun i j => .bl (decide (i < j))
def fLe : D → D → Tr D := intF0 fun i j => .bl (decide (i ≤ j))
def fGt : D → D → Tr D := intF0 fun i j => .bl (decide (j < i))
def fGe : D → D → Tr D := intF0 fun i j => .bl (decide (j ≤ i))
theorem r_lt : R2Ok X jk ja (rI0 fun i j => .bl (decide (i < j))) fLt := r2_int0 fun _ _ _ _ _ => .bl _
theorem r_le : R2Ok X jk ja (rI0 fun i j => .bl (decide (i ≤ j))) fLe := r2_int0 fun _ _ _ _ _ => .bl _
theorem r_gt : R2Ok X jk ja (rI0 fun i j => .bl (decide (j < i))) fGt := r2_int0 fun _ _ _ _ _ => .bl _
theorem r_ge : R2Ok X jk ja (rI0 fun i j => .bl (decide (j ≤ i))) fGe := r2_int0 fun _ _ _ _ _ => .bl _

/-! ### == and != -/
mutual
def pyEq : PyData → PyData → Bool
  | .none, .none => true
  | .bool a, .bool b => a == b
  | .int a, .int b => a == b
  | .str a, .str b => decide (a = b)
  | .list a, .list b => pyEqs a b
  | .tuple a, .tuple b => pyEqs a b
  | _, _ => false
def pyEqs : List PyData → List PyData → Bool
  | [], [] => true
  | a :: as, b :: bs => pyEq a b && pyEqs as bs
  | _, _ => false
end
mutual
theorem pyEq_eq : ∀ {a b : PyData}, pyEq a b = true → a = b
  | .none, b, h => by cases b <;> first | rfl | (simp [pyEq] at h)
  | .bool a, b, h => by cases b <;> first | (simp [pyEq] at h; rw [h]) | (simp [pyEq] at h)
  | .int a, b, h => by cases b <;> first | (simp [pyEq] at h; rw [h]) | (simp [pyEq] at h)
  | .str a, b, h => by cases b <;> first | (simp [pyEq] at h; rw [h]) | (simp [pyEq] at h)
  | .list a, b, h => by
    cases b with
    | list b => rw [pyEqs_eq (a := a) (b := b) (by simpa [pyEq] using h)]
    | _ => simp [pyEq] at h
  | .tuple a, b, h => by
    cases b with
    | tuple b => rw [pyEqs_eq (a := a) (b := b) (by simpa [pyEq] using h)]
    | _ => simp [pyEq] at h
  | .dict a, b, h => by cases b <;> simp [pyEq] at h
theorem pyEqs_eq : ∀ {a b : List PyData}, pyEqs a b = true → a = b
  | [], b, h => by cases b <;> first | rfl | (simp [pyEqs] at h)
  | x :: xs, b, h => by
    cases b with
    | nil => simp [pyEqs] at h
    | cons y ys =>
      have h : pyEq x y = true ∧ pyEqs xs ys = true := by simpa [pyEqs] using h
      rw [pyEq_eq h.1, pyEqs_eq h.2]
end
def eqB : D → D → Option Bool
  | .rp a, .rp b => if pyEq a b = true then some true else none
  | .int i, .int j => some (i == j)
  | .str x, .str y => some (decide (x = y))
  | d, e => match d.py, e.py with
    | some p, some q => if SeqAt.shaped p = true ∧ SeqAt.shaped q = true then some (PyData.eqv p q) else none
    | _, _ => none
def fEq (d e : D) : Tr D := match eqB d e with | some b => .ret (.bl b) | none => .fail
def fNe (d e : D) : Tr D := match eqB d e with | some b => .ret (.bl !b) | none => .fail
def rEq2 (K : PySem.W.Frag) : R2 := fun x y H Q => rEq x y H Q ∨ rEqD K x y H Q
def rNe2 (K : PySem.W.Frag) : R2 := fun x y H Q => rNe x y H Q ∨ rNeD K x y H Q
theorem op_eq2 (hu : X.A.units + 64 < cLine) : OpR X (compareOp .Eq) (rEq2 X.K) := op_eq.or (op_eqD hu)
theorem op_ne2 (hu : X.A.units + 64 < cLine) : OpR X (compareOp .NotEq) (rNe2 X.K) := op_ne.or (op_neD hu)
theorem eq_cases {G H : Hp} {x y : V} {d e : D} {b : Bool} (bs : Base jk ja G H) (q1 : Dq X.K ja G x d) (q2 : Dq X.K ja G y e) (h : eqB d e = some b) :
    (scal x y = true ∧ decide (x = y) = b) ∨ ∃ p q, Dp X.K H x p ∧ Dp X.K H y q ∧ SeqAt.shaped p = true ∧ SeqAt.shaped q = true ∧ PyData.eqv p q = b := by
  unfold eqB at h
  split at h
  · cases q1.inv_rp
    cases q2.inv_rp
    split at h
    · rename_i hp
      cases h
      rw [pyEq_eq hp]
      exact .inl ⟨rfl, decide_eq_true rfl⟩
    · cases h
  · cases q1.inv_int
    cases q2.inv_int
    cases h
    exact .inl ⟨rfl, dec_int⟩
  · cases q1.inv_str
    cases q2.inv_str
    cases h
    refine .inl ⟨rfl, ?_⟩
    rw [dec_str]
    exact Bool.beq_eq_decide_eq _ _
  · split at h
    · rename_i h1 h2
      split at h
      · rename_i hs
        cases h
        exact .inr ⟨_, _, Dp.ext bs.ex (q1.dp h1), Dp.ext bs.ex (q2.dp h2), hs.1, hs.2, rfl⟩
      · cases h
    · cases h
theorem r_eq : R2Ok X jk ja (rEq2 X.K) fEq := fun G H x y d e Q b q1 q2 h => by
  unfold fEq at h
  cases he : eqB d e with
  | none => rw [he] at h; exact h.elim
  | some k =>
    rw [he] at h
    have hq : Q (.bl k) H := h _ G H (Grow.refl b) (.bl k)
    rcases eq_cases b q1 q2 he with ⟨h1, h2⟩ | ⟨p, q, h1, h2, h3, h4, h5⟩
    · exact .inl ⟨h1, by rw [h2]; exact hq⟩
    · exact .inr ⟨p, q, h1, h2, h3, h4, by rw [h5]; exact hq⟩
theorem r_ne : R2Ok X jk ja (rNe2 X.K) fNe := fun G H x y d e Q b q1 q2 h => by
  unfold fNe at h
  cases he : eqB d e with
  | none => rw [he] at h; exact h.elim
  | some k =>
    rw [he] at h
    have hq : Q (.bl !k) H := h _ G H (Grow.refl b) (.bl _)
    rcases eq_cases b q1 q2 he with ⟨h1, h2⟩ | ⟨p, q, h1, h2, h3, h4, h5⟩
    · exact .inl ⟨h1, by rw [h2]; exact hq⟩
    · exact .inr ⟨p, q, h1, h2, h3, h4, by rw [h5]; exact hq⟩

/-! ### is None -/
def isNonD : D → Bool
  | .non => true
  | _ => false
theorem isNon_dec {K : PySem.W.Frag} {G : Hp} {v : V} {d : D} (q : Dq K ja G v d) : decide (v = .non) = isNonD d := by cases q <;> rfl
theorem r_isN : R2Ok X jk ja (fun x y H Q => y = .non ∧ Q (.bl (decide (x = .non))) H) fun d e => if isNonD e = true then .ret (.bl (isNonD d)) else .fail := fun G H x y d e Q b q1 q2 h => by
  obtain ⟨h1, h⟩ := ite_all h
  refine ⟨?_, by rw [isNon_dec q1]; exact h _ G H (Grow.refl b) (.bl _)⟩
  have := isNon_dec q2
  rw [h1] at this
  exact of_decide_eq_true this
theorem r_notN : R2Ok X jk ja (fun x y H Q => y = .non ∧ Q (.bl (!decide (x = .non))) H) fun d e => if isNonD e = true then .ret (.bl (!isNonD d)) else .fail := fun G H x y d e Q b q1 q2 h => by
  obtain ⟨h1, h⟩ := ite_all h
  refine ⟨?_, by rw [isNon_dec q1]; exact h _ G H (Grow.refl b) (.bl _)⟩
  have := isNon_dec q2
  rw [h1] at this
  exact of_decide_eq_true this

/-! ### in, not in -/
/-- flat data beside flat values -/
def flatD : D → Bool
  | .non | .bl _ | .int _ | .str _ => true
  | _ => false
def eqFl : D → D → Bool
  | .non, .non => true
  | .bl a, .bl b => a == b
  | .int a, .int b => a == b
  | .str a, .str b => decide (a = b)
  | .bl a, .int j => (if a then 1 else 0) == j
  | .int i, .bl b => i == (if b then 1 else 0)
  | _, _ => false
def toV : D → V
  | .non => .non
  | .bl b => .bl b
  | .int i => .int i
  | .str x => .str x
  | _ => .non
theorem toV_of {K : PySem.W.Frag} {G : Hp} {v : V} {d : D} (q : Dq K ja G v d) (h : flatD d = true) : v = toV d := by
  cases q <;> first | rfl | cases h
theorem toVs_of {K : PySem.W.Frag} {G : Hp} : ∀ {vs : List V} {ds : List D}, DqA K ja G vs ds → ds.all flatD = true → vs = ds.map toV
  | _, _, .nil, _ => rfl
  | _, _, .cons (d := d) (ds := ds) q t, h => by
    have h : flatD d = true ∧ ds.all flatD = true := by simpa using h
    rw [toV_of q h.1, toVs_of t h.2]
    rfl
theorem flat_toV {d : D} : flatV (toV d) = true := by cases d <;> rfl
theorem flat_toVs : ∀ {ds : List D}, (ds.map toV).all flatV = true
  | [] => rfl
  | d :: ds => by
    rw [List.map_cons, List.all_cons, flat_toV, flat_toVs]
    rfl
def inB : D → D → Option Bool
  | d, .lst ds => if flatD d = true ∧ ds.all flatD = true then some (inV (toV d) (ds.map toV)) else match d.py, D.pys ds with
    | some p, some qs => if SeqAt.shaped p = true ∧ SeqAt.shaped (.list qs) = true then some (qs.any fun z => PyData.eqv z p) else none
    | _, _ => none
  | d, .tup ds => if flatD d = true ∧ ds.all flatD = true then some (inV (toV d) (ds.map toV)) else none
  | _, _ => none
def fIn (d e : D) : Tr D := match inB d e with | some b => .ret (.bl b) | none => .fail
def fNotIn (d e : D) : Tr D := match inB d e with | some b => .ret (.bl !b) | none => .fail
def rIn2 (K : PySem.W.Frag) : R2 := fun x y H Q => rIn K false x y H Q ∨ rInD K x y H Q
def rNotIn2 (K : PySem.W.Frag) : R2 := fun x y H Q => rIn K true x y H Q ∨ rNotInD K x y H Q
theorem op_in2 (hu : X.A.units + 65 < cLine) : OpR X (compareOp .In) (rIn2 X.K) := op_in_seq.or (op_inD hu)
theorem op_notIn2 (hu : X.A.units + 65 < cLine) : OpR X (compareOp .NotIn) (rNotIn2 X.K) := op_notIn_seq.or (op_notInD hu)
theorem in_cases {G H : Hp} {x y : V} {d e : D} {b : Bool} (bs : Base jk ja G H) (q1 : Dq X.K ja G x d) (q2 : Dq X.K ja G y e) (h : inB d e = some b) :
    (∃ p xs, y = .ref p ∧ (SqL X.K H p xs ∨ SqT X.K H p xs) ∧ flatV x = true ∧ xs.all flatV = true ∧ inV x xs = b) ∨ ∃ p qs, Dp X.K H x p ∧ Dp X.K H y (.list qs) ∧ SeqAt.shaped p = true ∧ SeqAt.shaped (.list qs) = true ∧ (qs.any fun z => PyData.eqv z p) = b := by
  unfold inB at h
  split at h
  · obtain ⟨a, xs, rfl, e, t⟩ := q2.inv_lst
    split at h
    · rename_i hf
      cases h
      rw [toV_of q1 hf.1]
      rw [toVs_of t hf.2] at e
      exact .inl ⟨a, _, rfl, .inl (sq_of (bs.ex _ _ e)), flat_toV, flat_toVs, rfl⟩
    · split at h
      · rename_i h1 h2
        split at h
        · rename_i hs
          cases h
          exact .inr ⟨_, _, Dp.ext bs.ex (q1.dp h1), .lst (sq_of (bs.ex _ _ e)) (DpAll.ext bs.ex (t.dp h2)), hs.1, hs.2, rfl⟩
        · cases h
      · cases h
  · obtain ⟨a, xs, rfl, e, t⟩ := q2.inv_tup
    split at h
    · rename_i hf
      cases h
      rw [toV_of q1 hf.1]
      rw [toVs_of t hf.2] at e
      exact .inl ⟨a, _, rfl, .inr (ex_t bs.ex e), flat_toV, flat_toVs, rfl⟩
    · cases h
  · cases h
theorem r_in : R2Ok X jk ja (rIn2 X.K) fIn := fun G H x y d e Q b q1 q2 h => by
  unfold fIn at h
  cases he : inB d e with
  | none => rw [he] at h; exact h.elim
  | some k =>
    rw [he] at h
    have hq : Q (.bl k) H := h _ G H (Grow.refl b) (.bl k)
    rcases in_cases b q1 q2 he with ⟨p, xs, h1, h2, h3, h4, h5⟩ | ⟨p, qs, h1, h2, h3, h4, h5⟩
    · exact .inl ⟨p, xs, h1, h2, h3, h4, by show Q (.bl (inV x xs)) H; rw [h5]; exact hq⟩
    · exact .inr ⟨p, qs, h1, h2, h3, h4, by rw [h5]; exact hq⟩
theorem r_notIn : R2Ok X jk ja (rNotIn2 X.K) fNotIn := fun G H x y d e Q b q1 q2 h => by
  unfold fNotIn at h
  cases he : inB d e with
  | none => rw [he] at h; exact h.elim
  | some k =>
    rw [he] at h
    have hq : Q (.bl !k) H := h _ G H (Grow.refl b) (.bl _)
    rcases in_cases b q1 q2 he with ⟨p, xs, h1, h2, h3, h4, h5⟩ | ⟨p, qs, h1, h2, h3, h4, h5⟩
    · exact .inl ⟨p, xs, h1, h2, h3, h4, by show Q (.bl (!inV x xs)) H; rw [h5]; exact hq⟩
    · exact .inr ⟨p, qs, h1, h2, h3, h4, by rw [h5]; exact hq⟩

/-! ### places -/
def atD (ds : List D) (i : Int) : Tr D := Tr.ofOpt (atI ds i)
def fIx : D → D → Tr D
  | .lst ds, .int i => atD ds i
  | .tup ds, .int i => atD ds i
  | _, _ => .fail
theorem atI_dq {K : PySem.W.Frag} {G : Hp} {vs : List V} {ds : List D} {i : Int} {P : D → Prop} (t : DqA K ja G vs ds) (h : (atD ds i).all P) : ∃ v d, atI vs i = some v ∧ Dq K ja G v d ∧ P d := by
  unfold atD at h
  cases e : atI ds i with
  | none => rw [e] at h; exact h.elim
  | some d =>
    rw [e] at h
    unfold atI at e ⊢
    rw [t.length]
    cases ej : ixN ds.length i with
    | none => rw [ej] at e; cases e
    | some j =>
      rw [ej] at e
      obtain ⟨v, h1, h2⟩ := t.get (show ds[j]? = some d from e)
      exact ⟨v, d, h1, h2, h⟩
theorem r_ix : R2Ok X jk ja (rIx X.K) fIx := fun G H x y d e Q b q1 q2 h => by
  unfold fIx at h
  split at h
  · obtain ⟨a, xs, rfl, e, t⟩ := q1.inv_lst
    cases q2.inv_int
    obtain ⟨v, d, h1, h2, h3⟩ := atI_dq t h
    exact .inl ⟨a, xs, _, v, rfl, rfl, sq_of (b.ex _ _ e), h1, h3 v G H (Grow.refl b) h2⟩
  · obtain ⟨a, xs, rfl, e, t⟩ := q1.inv_tup
    cases q2.inv_int
    obtain ⟨v, d, h1, h2, h3⟩ := atI_dq t h
    exact .inr (.inl ⟨a, xs, _, v, rfl, rfl, ex_t b.ex e, h1, h3 v G H (Grow.refl b) h2⟩)
  · exact h.elim

/-! ### lists put together -/
def fCat : D → D → Tr (List D)
  | .lst ds, .lst es => if ds.length + es.length ≤ sizeLine then .ret (ds ++ es) else .fail
  | _, _ => .fail
theorem r_cat : R2L X jk ja rCat fCat := fun G H x y d e Q b q1 q2 h => by
  unfold fCat at h
  split at h
  · obtain ⟨a, xs, rfl, e1, t1⟩ := q1.inv_lst
    obtain ⟨a2, ys, rfl, e2, t2⟩ := q2.inv_lst
    obtain ⟨hl, h⟩ := ite_all h
    refine ⟨a, a2, xs, ys, rfl, rfl, b.ex _ _ e1, b.ex _ _ e2, by rw [t1.length, t2.length]; exact hl, fun p hp => h p _ G _ (Grow.newX b hp) hp (b.free hp) upd_same (t1.append t2)⟩
  · exact h.elim

/-! ### built-ins -/
def gLen : List D → Tr D
  | [.lst ds] => .ret (.int ds.length)
  | [.tup ds] => .ret (.int ds.length)
  | [.seq ds] => .ret (.int ds.length)
  | _ => .fail
theorem r_len : RCOk X jk ja (fun xs H Q => ∃ p ys, xs = [.ref p] ∧ (SqL X.K H p ys ∨ SqT X.K H p ys) ∧ Q (.int ys.length) H) gLen := fun G H vs ds Q b q h => by
  unfold gLen at h
  split at h
  · obtain ⟨v, rfl, q1⟩ := q.one
    obtain ⟨a, xs, rfl, e, t⟩ := q1.inv_lst
    exact ⟨a, xs, rfl, .inl (sq_of (b.ex _ _ e)), by rw [t.length]; exact h _ G H (Grow.refl b) (.int _)⟩
  · obtain ⟨v, rfl, q1⟩ := q.one
    obtain ⟨a, xs, rfl, e, t⟩ := q1.inv_tup
    exact ⟨a, xs, rfl, .inr (ex_t b.ex e), by rw [t.length]; exact h _ G H (Grow.refl b) (.int _)⟩
  · obtain ⟨v, rfl, q1⟩ := q.one
    obtain ⟨a, xs, rfl, e, t⟩ := q1.inv_seq
    exact ⟨a, xs, rfl, .inl (ex_l b.ex e), by rw [t.length]; exact h _ G H (Grow.refl b) (.int _)⟩
  · exact h.elim
def gTuple : List D → Tr D
  | [.lst ds] => .ret (.tup ds)
  | [.tup ds] => .ret (.tup ds)
  | _ => .fail
theorem r_tuple : RCOk X jk ja (fun xs H Q => ∃ p ys, xs = [.ref p] ∧ ((SqL X.K H p ys ∧ ∀ l, H l = none → Q (.ref l) (upd H l (.tup ys))) ∨ (SqT X.K H p ys ∧ Q (.ref p) H))) gTuple := fun G H vs ds Q b q h => by
  unfold gTuple at h
  split at h
  · obtain ⟨v, rfl, q1⟩ := q.one
    obtain ⟨a, xs, rfl, e, t⟩ := q1.inv_lst
    exact ⟨a, xs, rfl, .inl ⟨sq_of (b.ex _ _ e), fun l hl => h _ _ _ (Grow.new b hl) (.tup (st_of upd_same) (t.mono (Ex.new (b.free hl))))⟩⟩
  · obtain ⟨v, rfl, q1⟩ := q.one
    obtain ⟨a, xs, rfl, e, t⟩ := q1.inv_tup
    exact ⟨a, xs, rfl, .inr ⟨ex_t b.ex e, h _ G H (Grow.refl b) (.tup e t)⟩⟩
  · exact h.elim
def gList : List D → Tr (List D)
  | [.lst ds] => .ret ds
  | [.tup ds] => .ret ds
  | _ => .fail
theorem r_list : RCL X jk ja (fun xs H Q => ∃ p ys, xs = [.ref p] ∧ (SqL X.K H p ys ∨ SqT X.K H p ys) ∧ ∀ l, H l = none → Q (.ref l) (upd H l (.lst ys))) gList := fun G H vs ds Q b q h => by
  unfold gList at h
  split at h
  · obtain ⟨v, rfl, q1⟩ := q.one
    obtain ⟨a, xs, rfl, e, t⟩ := q1.inv_lst
    exact ⟨a, xs, rfl, .inl (sq_of (b.ex _ _ e)), fun l hl => h l xs G _ (Grow.newX b hl) hl (b.free hl) upd_same t⟩
  · obtain ⟨v, rfl, q1⟩ := q.one
    obtain ⟨a, xs, rfl, e, t⟩ := q1.inv_tup
    exact ⟨a, xs, rfl, .inr (ex_t b.ex e), fun l hl => h l xs G _ (Grow.newX b hl) hl (b.free hl) upd_same t⟩
  · exact h.elim
/-- the ints of a list, if they are that -/
def intsD : List D → Option (List Int)
  | [] => some []
  | .int i :: r => match intsD r with | some is => some (i :: is) | none => none
  | _ :: _ => none
theorem intsD_eq : ∀ {ds : List D} {ns : List Int}, intsD ds = some ns → ds = ns.map D.int
  | [], _, h => by cases h; rfl
  | d :: r, ns, h => by
    cases d with
    | int i =>
      unfold intsD at h
      cases e : intsD r with
      | none => rw [e] at h; cases h
      | some is =>
        rw [e] at h
        cases h
        rw [intsD_eq e]
        rfl
    | _ => cases h
def putIn (x : Int) : List Int → List Int
  | [] => [x]
  | y :: r => if x ≤ y then x :: y :: r else y :: putIn x r
def srtI : List Int → List Int
  | [] => []
  | x :: r => putIn x (srtI r)
theorem insI_perm (x : Int) : ∀ l : List Int, (putIn x l).Perm (x :: l)
  | [] => .refl _
  | y :: r => by
    unfold putIn
    split
    · exact .refl _
    · exact ((insI_perm x r).cons y).trans (.swap x y r)
theorem srtI_perm : ∀ l : List Int, (srtI l).Perm l
  | [] => .refl _
  | x :: r => (insI_perm x _).trans ((srtI_perm r).cons x)
theorem insI_mem {x z : Int} {l : List Int} (h : z ∈ putIn x l) : z = x ∨ z ∈ l := List.mem_cons.mp ((insI_perm x l).mem_iff.mp h)
theorem insI_sorted (x : Int) : ∀ {l : List Int}, l.Pairwise (· ≤ ·) → (putIn x l).Pairwise (· ≤ ·)
  | [], _ => .cons (fun _ h => nomatch h) .nil
  | y :: r, h => by
    unfold putIn
    cases h with
    | cons h1 h2 =>
      split
      · rename_i hxy
        exact .cons (fun z hz => by
          rcases List.mem_cons.mp hz with rfl | hz
          · exact hxy
          · exact Int.le_trans hxy (h1 z hz)) (.cons h1 h2)
      · rename_i hxy
        exact .cons (fun z hz => by
          rcases insI_mem hz with rfl | hz
          · omega
          · exact h1 z hz) (insI_sorted x h2)
theorem srtI_sorted : ∀ l : List Int, (srtI l).Pairwise (· ≤ ·)
  | [] => .nil
  | x :: r => insI_sorted x (srtI_sorted r)
theorem perm_sorted {a b : List Int} (hp : a.Perm b) (ha : a.Pairwise (· ≤ ·)) (hb : b.Pairwise (· ≤ ·)) : a = b := hp.eq_of_pairwise (fun _ _ _ _ h1 h2 => Int.le_antisymm h1 h2) ha hb
def gSorted : List D → Tr (List D)
  | [.lst ds] => match intsD ds with | some ns => .ret ((srtI ns).map D.int) | none => .fail
  | _ => .fail
theorem r_sorted : RCL X jk ja (rSortedI X.K) gSorted := fun G H vs ds Q b q h => by
  unfold gSorted at h
  split at h
  · obtain ⟨v, rfl, q1⟩ := q.one
    obtain ⟨a, xs, rfl, e, t⟩ := q1.inv_lst
    split at h
    · rename_i ns hn
      rw [intsD_eq hn] at t
      have := t.ints
      subst this
      refine ⟨a, ns, rfl, sq_of (b.ex _ _ e), fun ns' p hp hs hf => ?_⟩
      have : ns' = srtI ns := perm_sorted (hp.trans (srtI_perm ns).symm) hs (srtI_sorted ns)
      subst this
      exact h p _ G _ (Grow.newX b hf) hf (b.free hf) upd_same DqA.of_ints
    · exact h.elim
  · exact h.elim
def gMin2 : List D → Tr D
  | [.int i, .int j] => .ret (.int (if j < i then j else i))
  | _ => .fail
theorem r_min2 : RCOk X jk ja (fun xs H Q => ∃ i j, xs = [.int i, .int j] ∧ Q (.int (if j < i then j else i)) H) gMin2 := fun G H vs ds Q b q h => by
  unfold gMin2 at h
  split at h
  · obtain ⟨v, w, rfl, q1, q2⟩ := q.two
    cases q1.inv_int
    cases q2.inv_int
    exact ⟨_, _, rfl, h _ G H (Grow.refl b) (.int _)⟩
  · exact h.elim

/-! ### repr -/
mutual
/-- no less than the length of what repr tells -/
def wt : PyData → Nat
  | .none => 4
  | .bool _ => 5
  | .int i => i.natAbs.log2 + 2
  | .str x => (reprText x).length
  | .list xs => 2 + wts xs
  | .tuple xs => 3 + wts xs
  | .dict _ => 0
def wts : List PyData → Nat
  | [] => 0
  | x :: xs => wt x + 2 + wts xs
end
def nodict : PyData → Bool
  | .dict _ => false
  | _ => true
theorem textFrom_le : ∀ (ts : List Str) (k : Nat) (acc : Str) , (textFrom k acc ts).length ≤ acc.length + (ts.map fun t => t.length + 2).sum
  | [], k, acc => by show acc.length ≤ _; omega
  | t :: r, k, acc => by
    have ih := textFrom_le r (k + 1) (acc ++ (if k > 0 then ", " else "" : String) ++ t)
    have e : (acc ++ (if k > 0 then ", " else "" : String) ++ t).length ≤ acc.length + 2 + t.length := by
      rw [strLen_append, strLen_append]
      split
      · show acc.length + 2 + t.length ≤ _; omega
      · show acc.length + 0 + t.length ≤ _; omega
    rw [List.map_cons, List.sum_cons]
    exact Nat.le_trans ih (by omega)
theorem listText_le (ts : List Str) : (listText ts).length ≤ 2 + (ts.map fun t => t.length + 2).sum := by
  unfold listText
  rw [strLen_append]
  have := textFrom_le ts 0 "["
  have e1 : (("[" : String) : Str).length = 1 := rfl
  have e2 : (("]" : String) : Str).length = 1 := rfl
  omega
theorem piled_sum (ts : List Str) : piled ts = (ts.map fun t => t.length + 2).sum := rfl
theorem tupleText_le (ts : List Str) : (tupleText ts).length ≤ 3 + (ts.map fun t => t.length + 2).sum := by
  unfold tupleText
  rw [strLen_append, strLen_append]
  have e1 : (("(" : String) : Str).length = 1 := rfl
  have e2 : ((if ts.length == 1 then ",)" else ")" : String) : Str).length ≤ 2 := by split <;> decide
  have e3 : (Str.join ", " ts).length ≤ (ts.map fun t => t.length + 2).sum := by
    by_cases h : ts = []
    · subst h; decide
    · have := join_length_add ts h
      rw [piled_sum] at this
      omega
  omega
mutual
theorem shown_le : ∀ {d : PyData}, d.hasDict = false → d.shown.length ≤ wt d
  | .none, _ => by decide
  | .bool b, _ => by cases b <;> decide
  | .int i, _ => by
    show (Str.ofString (toString i)).length ≤ i.natAbs.log2 + 2
    have h := int_text_length_le (a := i) (k := i.natAbs.log2 + 1) (by omega) (by omega)
    rw [PySem.ofString_length]
    exact h
  | .str x, _ => Nat.le_refl _
  | .list xs, h => by
    show (listText (PyData.shownAll xs)).length ≤ 2 + wts xs
    have := shownAll_le (xs := xs) (by simpa [PyData.hasDict] using h)
    have := listText_le (PyData.shownAll xs)
    omega
  | .tuple xs, h => by
    show (tupleText (PyData.shownAll xs)).length ≤ 3 + wts xs
    have := shownAll_le (xs := xs) (by simpa [PyData.hasDict] using h)
    have := tupleText_le (PyData.shownAll xs)
    omega
  | .dict _, h => by simp [PyData.hasDict] at h
theorem shownAll_le : ∀ {xs : List PyData}, PyData.hasDictAll xs = false → ((PyData.shownAll xs).map fun t => t.length + 2).sum ≤ wts xs
  | [], _ => by show 0 ≤ 0; omega
  | x :: xs, h => by
    have h : x.hasDict = false ∧ PyData.hasDictAll xs = false := by simpa [PyData.hasDictAll] using h
    have h1 := shown_le h.1
    have h2 := shownAll_le h.2
    show (x.shown.length + 2) + ((PyData.shownAll xs).map fun t => t.length + 2).sum ≤ wt x + 2 + wts xs
    omega
end
def shOk (p : PyData) : Bool := p.showable && !p.hasDict && decide (p.depth ≤ 60) && decide (wt p ≤ sizeLine)
def gRepr : List D → Tr D
  | [.lst ds] => match D.pys ds with | some ps => if shOk (.list ps) = true then .ret (.rp (.list ps)) else .fail | none => .fail
  | [.tup ds] => match D.pys ds with | some ps => if shOk (.tuple ps) = true then .ret (.rp (.tuple ps)) else .fail | none => .fail
  | _ => .fail
def rRepr (K : PySem.W.Frag) : List V → Hp → VK → Prop := fun xs H Q => ∃ a p, xs = [.ref a] ∧ Dp K H (.ref a) p ∧ shOk p = true ∧ Q (.str p.shown) H
theorem call_repr (hA : X.A.guards = some []) (hu : X.A.units + 64 < cLine) : CallR X (.builtin "repr") (rRepr X.K) := by
  intro pn s σ H xs us Q I r h
  obtain ⟨a, p, rfl, hd, hs, q⟩ := h
  obtain ⟨u0, rfl, re⟩ := vals1 r
  cases re
  obtain ⟨as, hr⟩ := Dp.reads I p _ _ hd rfl
  unfold shOk at hs
  simp only [Bool.and_eq_true, decide_eq_true_eq, Bool.not_eq_true'] at hs
  obtain ⟨⟨⟨h1, h2⟩, h3⟩, h4⟩ := hs
  exact repr_of_reads' hr h1 (PyData.noDict_hsm h2) hA (by omega) (fun _ _ z => z) (fun h' u' tk hk => ⟨.str p.shown, H, I.kept hk, ⟨_, rfl⟩, q⟩) (Nat.le_trans (shown_le h2) h4)
theorem r_repr : RCOk X jk ja (rRepr X.K) gRepr := fun G H vs ds Q b q h => by
  unfold gRepr at h
  split at h
  · obtain ⟨v, rfl, q1⟩ := q.one
    obtain ⟨a, xs, rfl, e, t⟩ := q1.inv_lst
    split at h
    · rename_i ps hp
      obtain ⟨hs, h⟩ := ite_all h
      exact ⟨a, _, rfl, .lst (sq_of (b.ex _ _ e)) (DpAll.ext b.ex (t.dp hp)), hs, h _ G H (Grow.refl b) (.rp _)⟩
    · exact h.elim
  · obtain ⟨v, rfl, q1⟩ := q.one
    obtain ⟨a, xs, rfl, e, t⟩ := q1.inv_tup
    split at h
    · rename_i ps hp
      obtain ⟨hs, h⟩ := ite_all h
      exact ⟨a, _, rfl, .tup (ex_t b.ex e) (DpAll.ext b.ex (t.dp hp)), hs, h _ G H (Grow.refl b) (.rp _)⟩
    · exact h.elim
  · exact h.elim
end
end Pd
set_option maxHeartbeats 4100000
/-! Chains of three, dicts that are written, enumerate of a tuple. -/
namespace Pd
open PySem PySem.Spec L2 Evl
open PyProof.Rows hiding St

section
variable {X : Cx} {jk : JarK} {ja : JA} {a b c d e : Expr} {ma mb mc md : MC} {pos : Pos}
/-! ### a op b op c op d, as a test -/
def ch3d (f3 : D → D → Tr D) (md : MC) (ρ : VE) (z : D) (k : Bool) : Tr Bool := if k = true then (md ρ).bind fun u => (f3 z u).bind asB else .ret false
def ch3c (f2 f3 : D → D → Tr D) (md : MC) (ρ : VE) (y z : D) : Tr Bool := (f2 y z).bind fun r => (asB r).bind (ch3d f3 md ρ z)
def ch3k (f2 f3 : D → D → Tr D) (mc md : MC) (ρ : VE) (y : D) (k : Bool) : Tr Bool := if k = true then (mc ρ).bind (ch3c f2 f3 md ρ y) else .ret false
def ch3b (f1 f2 f3 : D → D → Tr D) (mc md : MC) (ρ : VE) (x y : D) : Tr Bool := (f1 x y).bind fun r => (asB r).bind (ch3k f2 f3 mc md ρ y)
def mChain3 (f1 f2 f3 : D → D → Tr D) (ma mb mc md : MC) : MT := fun ρ => (ma ρ).bind fun x => (mb ρ).bind (ch3b f1 f2 f3 mc md ρ x)
variable {op1 op2 op3 : CmpOp} {r1 r2 r3 : R2} {f1 f2 f3 : D → D → Tr D}
theorem tok_chain3 (ho1 : OpR X (compareOp op1) r1) (hr1 : R2Ok X jk ja r1 f1) (ho2 : OpR X (compareOp op2) r2) (hr2 : R2Ok X jk ja r2 f2) (ho3 : OpR X (compareOp op3) r3) (hr3 : R2Ok X jk ja r3 f3)
    (ha : EOk X jk ja a ma) (hb : EOk X jk ja b mb) (hc : EOk X jk ja c mc) (hd : EOk X jk ja d md) (hm : lastMarks [op1, op2, op3] [b, c, d] = false := by with_unfolding_all rfl) : TOk X jk ja (.Compare a [op1, op2, op3] [b, c, d] pos) (mChain3 f1 f2 f3 ma mb mc md) :=
  fun ρ σ G H Q bs s h pins st I => by
    refine isTrue_chain (thn (ha ρ σ G H (fun x H1 => ∃ G1 xd, Grow jk ja G H G1 H1 ∧ Dq X.K ja G1 x xd ∧ ((mb ρ).bind (ch3b f1 f2 f3 mc md ρ xd)).all (AftT jk ja G H Q)) bs s (Tr.all_mono (Tr.all_bind h) fun xd h1 x G1 H1 g1 q1 => ⟨G1, xd, g1, q1, h1⟩) pins st I) fun v s1 ⟨x, H1, I1, rv, G1, xd, g1, q1, h1⟩ => ?_) hm
    refine test_link (thn (hb ρ σ G1 H1 (fun y H2 => ∃ G2 yd, Grow jk ja G H G2 H2 ∧ Dq X.K ja G2 x xd ∧ Dq X.K ja G2 y yd ∧ (ch3b f1 f2 f3 mc md ρ xd yd).all (AftT jk ja G H Q)) (bs.grow g1) (s.mono g1.g) (Tr.all_mono (Tr.all_bind h1) fun yd h2 y G2 H2 g2 q2 => ⟨G2, yd, g1.trans g2, q1.mono g2.g, q2, h2⟩) pins s1 I1) fun u s2 ⟨y, H2, I2, ru, G2, yd, g2, q1, q2, h2⟩ => ?_)
    refine thn (ho1 pins s2 σ H2 x y v u (fun z H3 => ∃ k G3, z = .bl k ∧ Grow jk ja G H G3 H3 ∧ Dq X.K ja G3 y yd ∧ (ch3k f2 f3 mc md ρ yd k).all (AftT jk ja G H Q)) I2 rv ru (hr1 G2 H2 x y xd yd _ (bs.grow g2) q1 q2 (Tr.all_mono (Tr.all_bind h2) fun rd hrd z G3 H3 g3 q3 => by
      obtain ⟨k, rfl, hk⟩ := asB_all (Tr.all_bind hrd)
      cases q3
      exact ⟨k, G3, rfl, g2.trans g3, q2.mono g3.g, hk⟩))) fun w s3 ⟨z, H3, I3, rz, k, G3, ez, g3, q2, hk⟩ => ?_
    subst ez
    cases rz
    refine wpAny_truthy_bool ?_
    cases k with
    | false => exact ite_ff ⟨H3, I3, hk G3 H3 g3⟩
    | true =>
      refine ite_tt (test_link (thn (hc ρ σ G3 H3 (fun z H4 => ∃ G4 zd, Grow jk ja G H G4 H4 ∧ Dq X.K ja G4 y yd ∧ Dq X.K ja G4 z zd ∧ (ch3c f2 f3 md ρ yd zd).all (AftT jk ja G H Q)) (bs.grow g3) (s.mono g3.g) (Tr.all_mono (Tr.all_bind hk) fun zd h4 z G4 H4 g4 q4 => ⟨G4, zd, g3.trans g4, q2.mono g4.g, q4, h4⟩) pins s3 I3) fun w4 s4 ⟨z, H4, I4, rz, G4, zd, g4, q2, q4, h4⟩ => ?_))
      refine thn (ho2 pins s4 σ H4 y z u w4 (fun z5 H5 => ∃ k G5, z5 = .bl k ∧ Grow jk ja G H G5 H5 ∧ Dq X.K ja G5 z zd ∧ (ch3d f3 md ρ zd k).all (AftT jk ja G H Q)) I4 ru rz (hr2 G4 H4 y z yd zd _ (bs.grow g4) q2 q4 (Tr.all_mono (Tr.all_bind h4) fun rd hrd z5 G5 H5 g5 q5 => by
        obtain ⟨k, rfl, hk⟩ := asB_all (Tr.all_bind hrd)
        cases q5
        exact ⟨k, G5, rfl, g4.trans g5, q4.mono g5.g, hk⟩))) fun w5 s5 ⟨z5, H5, I5, rz5, k, G5, ez, g5, q4, hk⟩ => ?_
      subst ez
      cases rz5
      refine wpAny_truthy_bool ?_
      cases k with
      | false => exact ite_ff ⟨H5, I5, hk G5 H5 g5⟩
      | true =>
        refine ite_tt (test_last (thn (hd ρ σ G5 H5 (fun t H6 => ∃ G6 td, Grow jk ja G H G6 H6 ∧ Dq X.K ja G6 z zd ∧ Dq X.K ja G6 t td ∧ ((f3 zd td).bind asB).all (AftT jk ja G H Q)) (bs.grow g5) (s.mono g5.g) (Tr.all_mono (Tr.all_bind hk) fun td h6 t G6 H6 g6 q6 => ⟨G6, td, g5.trans g6, q4.mono g6.g, q6, h6⟩) pins s5 I5) fun w6 s6 ⟨t, H6, I6, rt, G6, td, g6, q4, q6, h6⟩ => ?_))
        refine thn (ho3 pins s6 σ H6 z t w4 w6 (fun z7 H7 => ∃ k, z7 = .bl k ∧ Q k H7) I6 rz rt (hr3 G6 H6 z t zd td _ (bs.grow g6) q4 q6 (Tr.all_mono (Tr.all_bind h6) fun rd hrd z7 G7 H7 g7 q7 => by
          obtain ⟨k, rfl, hk⟩ := asB_all hrd
          cases q7
          exact ⟨k, rfl, hk G7 H7 (g6.trans g7)⟩))) fun w7 s7 ⟨z7, H7, I7, rz7, k, ez, hk⟩ => ?_
        subst ez
        cases rz7
        exact wpAny_truthy_bool ⟨H7, I7, hk⟩

end

/-! ### enumerate of a tuple -/
set_option maxHeartbeats 1100000 in
theorem enum_new_tup (t : Addr) (items : Array Value) : Meets (Builtin.«enumerate.__new__» ⟨[.type "enumerate", .ref t], []⟩) (fun _ R s => s.heap.IsTuple t items ∧
      R (.ok (.ret (.ref (s.heap.push { cls := .type "tuple_iterator", data := .fields #[.ref t, .int 0 0] }).objs.size)))
        { s with heap := (s.heap.push { cls := .type "tuple_iterator", data := .fields #[.ref t, .int 0 0] }).push { cls := .type "enumerate", data := .fields #[.none, .bool false, .ref s.heap.objs.size, rawInt 0, .none, .none] } }) :=
  .of_wp (fun prog w A R s hh => by
    obtain ⟨hp, gs, dd, tk, os⟩ := s
    obtain ⟨hT, hR⟩ := hh
    have subE := sub_enumerate
    have it1 : ∀ {B : Around} {E : Value → Shared → Prop} {Q : Value → Shared → Prop}, Q (.ref hp.objs.size) ⟨hp.push { cls := .type "tuple_iterator", data := .fields #[.ref t, .int 0 0] }, gs, dd, tk, os⟩ → wpAny (model prog w) B (pyIter (.ref t)) Q E ⟨hp, gs, dd, tk, os⟩ :=
      fun z => wpAny_pyIter_tuple (s := ⟨hp, gs, dd, tk, os⟩) hT z
    wp_walk using it1
    refine wpAny_stack_any (fun stk => wpAny_pure ?_)
    split
    · rename_i c _ _ _ _ _
      cases (c == Value.type "enumerate")
      all_goals (wp_walk using it1; exact ⟨_, rfl, hR⟩)
    · (wp_walk using it1; exact ⟨_, rfl, hR⟩))
theorem call_enum_tup {prog : Program} {w : World} {A : Around} {E : Value → Shared → Prop} {s : Shared} {t : Addr} {items : Array Value} {Q : Value → Shared → Prop} (hT : s.heap.IsTuple t items)
    (k : ∀ h', IsEnum h' (s.heap.objs.size + 1) s.heap.objs.size 0 .none → h'.IsTupleIter s.heap.objs.size t 0 → (∀ b o, s.heap.get? b = some o → h'.get? b = some o) → Q (.ref (s.heap.objs.size + 1)) { s with heap := h' }) :
    wpAny (model prog w) A (call (.type "enumerate") [.ref t]) Q E s := by
  refine callType_new F.called_enumerate (by decide) (F.typeCall_enumerate_1 _) (F.newCall_enumerate_1 _) (fun obj => F.args_object_init_2 obj _) F.entry_enumerate_new (enum_new_tup t items) ⟨hT, ?_⟩
  have z1 := Heap.size_push s.heap { cls := .type "tuple_iterator", data := .fields #[.ref t, .int 0 0] }
  have z2 := Heap.get?_push_size (s.heap.push { cls := .type "tuple_iterator", data := .fields #[.ref t, .int 0 0] }) (o := { cls := .type "enumerate", data := .fields #[.none, .bool false, .ref s.heap.objs.size, rawInt 0, .none, .none] }) rfl
  show _ ∧ _
  rw [z1] at z2 ⊢
  exact ⟨⟨_, z2, rfl⟩, k _ z2 ⟨_, Heap.get?_push_of_some _ (Heap.get?_push_size _ rfl), rfl, rfl⟩ (fun b o x => Heap.get?_push_of_some _ (Heap.get?_push_of_some _ x))⟩
def IteT (K : PySem.W.Frag) (a : Addr) : It where
  go i H := ∃ (xs : List V) (x : V), SqT K H a xs ∧ xs[i]? = some x
  yld i H v H' := ∃ T x, v = .ref T ∧ H T = none ∧ H' = upd H T (.tup [.int (i : Nat), x]) ∧ ∀ xs, SqT K H a xs → xs[i]? = some x
  stop i H := ∃ xs : List V, SqT K H a xs ∧ xs.length = i
theorem turn_enumT {P : Program} {w : World} {K : PySem.W.Frag} {elts : List Expr} {kk : Nat} {tpos : Pos} (a e it : Addr) :
    Turn P w K (.Tuple elts kk tpos) (IteT K a) [e, it] e (fun i h => (∃ was, IsEnum h e it ((i : Nat) : Int) was) ∧ h.IsTupleIter it a i ∧ e ≠ it) where
  mem := List.mem_cons_self
  obj i h sta b hb := by
    obtain ⟨⟨was, he⟩, ⟨o, ho, hc, hd⟩, _⟩ := sta
    rcases List.mem_cons.mp hb with rfl | hb2
    · exact ⟨_, he, fun v z => nomatch z⟩
    · cases List.mem_singleton.mp hb2
      refine ⟨o, ho, fun v z => ?_⟩
      rw [hd] at z
      cases z
  keep i h h' sta k := by
    obtain ⟨⟨was, he⟩, hi, hne⟩ := sta
    exact ⟨⟨was, k e List.mem_cons_self _ he⟩, hi.at (fun o z => k it (List.mem_cons_of_mem _ List.mem_cons_self) o z), hne⟩
  item := by
    intro X hP hw hK hc i pins s σ H EE I hf sta hg
    subst hP hw hK
    obtain ⟨⟨was, he⟩, hI, hne⟩ := sta
    obtain ⟨xs, x, hq, hx⟩ := hg
    obtain ⟨cells, rvs, p, hz⟩ := I.tuple hq
    obtain ⟨u, hu, rux⟩ := rvs.get hx
    have le1 : e < s.heap.objs.size := Heap.lt_size he
    have le2 : it < s.heap.objs.size := hI.elim fun _ z => Heap.lt_size z.1
    have ane : a ≠ it := by
      rintro rfl
      obtain ⟨o1, a1, a2, _⟩ := hI
      obtain ⟨o2, b1, b2, _⟩ := p
      rw [a1] at b1
      cases b1
      rw [a2] at b2
      injection b2 with z
      exact absurd z (by decide)
    have ane2 : e ≠ a := by
      rintro rfl
      obtain ⟨o2, b1, b2, _⟩ := p
      rw [he] at b1
      cases b1
      injection b2 with z
      exact absurd z (by decide)
    have lt : i < cells.toArray.size := by simpa using getElem?_lt hu
    refine wpAny_pyNext_enum_itemD (Draws.tuple (A := X.A.in1) (show X.A.in1.handled = none from I.ok.hd hc) it a ane cells.toArray) he ⟨hI, p⟩ lt hne (by simp [hne, ane2]) fun y h' tk hy ho hst hT hsz hk => ?_
    have hy : y = u := by
      have h1 : cells[i]? = some y := by simpa using hy
      exact Option.some.inj (h1.symm.trans hu)
    subst hy
    refine ⟨_, rfl, wpAny_letOwnedTupleGo_enum (s := { s with heap := h', toks := tk + 1 }) ho (fun h2 he2 sb => ?_)⟩
    have gT : h2.get? s.heap.objs.size = some { cls := .type "tuple", data := .seq #[.int i tk, y] } := (sb.2 _ (Nat.ne_of_gt le1)).trans hT
    have neu : ObjOk X.prog X.w (upd H s.heap.objs.size (.tup [.int (i : Nat), x])) h2 s.heap.objs.size (.tup [.int (i : Nat), x]) :=
      ⟨by show 2 ≤ sizeLine; decide, [.int i tk, y], .cons ⟨_, rfl⟩ (.cons rux .nil), ⟨_, gT, rfl, _, rfl⟩⟩
    have J := I.turnedNew (t' := tk + 1) (ch := [e, it]) (fun b ob hb z => (sb.2 b (fun q => hb (q ▸ List.mem_cons_self))).trans (hk b ob (fun q => hb (q ▸ List.mem_cons_self)) (fun q => hb (q ▸ List.mem_cons_of_mem _ List.mem_cons_self)) z)) hf (Nat.le_refl _) neu
    refine ⟨.ref s.heap.objs.size, _, J, rfl, ⟨_, x, rfl, I.hok.fresh (Nat.le_refl _), rfl, fun ys hy => by rw [I.tuple_inj hy hq]; exact hx⟩, ⟨⟨y, ?_⟩, hst.1.at (fun o z => (sb.2 it hne.symm).trans z), hne⟩, fun b hb => ?_⟩
    · have e1 : ((i + 1 : Nat) : Int) = (i : Int) + 1 := by omega
      rw [e1]
      exact he2
    · have lb : b < s.heap.objs.size := by
        rcases List.mem_cons.mp hb with rfl | hb2
        · exact le1
        · cases List.mem_singleton.mp hb2
          exact le2
      rw [upd_ne (Nat.ne_of_lt lb)]
      exact (hf b hb).1
  done := by
    intro X hP hw hK hc i pins s σ H EE I hf sta hg
    subst hP hw hK
    obtain ⟨⟨was, he⟩, hI, hne⟩ := sta
    obtain ⟨xs, hq, hx⟩ := hg
    obtain ⟨cells, rvs, p, hz⟩ := I.tuple hq
    have ane : a ≠ it := by
      rintro rfl
      obtain ⟨o1, a1, a2, _⟩ := hI
      obtain ⟨o2, b1, b2, _⟩ := p
      rw [a1] at b1
      cases b1
      rw [a2] at b2
      injection b2 with z
      exact absurd z (by decide)
    have en : cells.toArray.size = i := by
      rw [List.size_toArray, ← rvs.length]
      exact hx
    have away := hf it (List.mem_cons_of_mem _ List.mem_cons_self)
    refine wpAny_pyNext_enum_endD (Draws.tuple (A := X.A.in1) (show X.A.in1.handled = none from I.ok.hd hc) it a ane cells.toArray) he (by rw [en]; exact ⟨hI, p⟩) fun h' eb => ⟨rfl, ?_⟩
    exact I.turned (t' := s.toks) (fun b o hb z => eb b o hb z) away.1 away.2.1 away.2.2.2.1 away.2.2.2.2.1 away.2.2.2.2.2
  self A i s Q EE sta h := by
    obtain ⟨⟨_, he⟩, _⟩ := sta
    exact wpAny_pyIter_enum he h
section
variable {X : Cx} {jk : JarK} {ja : JA} {a b : Expr} {ma mb : MC} {ml : ML} {pos : Pos}
def iEnumT (K : PySem.W.Frag) (ta : TA) : TI := fun σ H R => ta σ H fun vs H1 => ∃ a xs, vs = [.ref a] ∧ SqT K H1 a xs ∧ R (IteT K a) H1
theorem pi_enumT {e : Expr} {ta : TA} {p pos tpos : Pos} {elts : List Expr} {kk : Nat} (hg : Gl X "enumerate") (hm : X.mg "enumerate" = none) (ha : PA X [e] ta) (hs : starEach [e] X.env = [(false, eval e X.env)] := by rfl) :
    PI X (.Tuple elts kk tpos) (.Call (.Name "enumerate" p) [e] [] pos) (iEnumT X.K ta) where
  run pins s σ H R I h := by
    refine Call_ (ld_blt I hg hm boot_enumerate (PyProof.Rows.callWith_type1 (wpAny_mono (ha.run pos pins s σ H _ I h) ?_ fun _ _ z => z) hs rfl))
    rintro us s1 ⟨vs, H1, J, r1, a, xs, rfl, hq, q⟩
    cases r1 with
    | cons r rr =>
      cases rr
      cases r
      obtain ⟨cells, rv, tp, hz⟩ := J.tuple hq
      refine call_enum_tup (show s1.heap.IsTuple a cells.toArray from tp) fun h' he hit hk => wpAny_pyIter_enum he ?_
      have fr : ∀ b ∈ [s1.heap.objs.size + 1, s1.heap.objs.size], s1.heap.objs.size ≤ b := by
        intro b hb
        rcases List.mem_cons.mp hb with rfl | hb2
        · exact Nat.le_succ _
        · rw [show b = _ from List.mem_singleton.mp hb2]
          exact Nat.le_refl _
      exact ⟨s1.heap.objs.size + 1, [s1.heap.objs.size + 1, s1.heap.objs.size], _, _, H1, rfl, J.kept (t' := s1.toks) hk, turn_enumT a (s1.heap.objs.size + 1) s1.heap.objs.size, ⟨⟨.none, he⟩, hit, Nat.succ_ne_self _⟩, fun b hb => J.fpOk (fr b hb) (J.hok.fresh (fr b hb)), q⟩
theorem walk_enumT {K : PySem.W.Frag} {a : Addr} {xs : List V} : Walk (IteT K a) xs.length (fun H => SqT K H a xs) (YPair (fun i => some (.int (i : Nat))) (fun i => xs[i]?)) where
  goes i H hi q := ⟨xs, xs[i], q, List.getElem?_eq_getElem hi⟩
  stops H q := ⟨xs, q, rfl⟩
  yields i H v H' _ q y := by
    obtain ⟨T, z, y1, y2, y3, y4⟩ := y
    exact ⟨T, .int (i : Nat), z, y1, y2, y3, rfl, y4 xs q⟩
def enumDT : List D → Tr (List D)
  | [.tup ds] => .ret (enumF 0 ds)
  | _ => .fail
theorem iok_enumT {p tpos : Pos} {elts : List Expr} {kk : Nat} (hg : Gl X "enumerate") (hm : X.mg "enumerate" = none) (ha : AOk X jk ja [a] ml) (hs : starEach [a] X.env = [(false, eval a X.env)] := by rfl) :
    IOk X jk ja (.Tuple elts kk tpos) (.Call (.Name "enumerate" p) [a] [] pos) fun ρ => (ml ρ).bind enumDT :=
  fun ρ σ G H R bs s h pins st I => (pi_enumT hg hm (pa_sem (X := X)) hs).run pins st σ H R I (ha ρ σ G H _ bs s (Tr.all_mono (Tr.all_bind h) fun ds hd vs G1 H1 g1 q => by
    unfold enumDT at hd
    split at hd
    · obtain ⟨v, rfl, q1⟩ := q.one
      obtain ⟨a, xs, rfl, e, t⟩ := q1.inv_tup
      exact ⟨_, _, rfl, ex_t g1.ex e, hd _ G1 H1 g1 (walkD_pair (by rw [← t.length]; exact walk_enumT) (fun G2 H2 e1 e2 => ex_t (e1.trans e2) e) t)⟩
    · exact hd.elim))

/-! ### dicts -/
def keyD : D → Option Key
  | .int i => some (.inl i)
  | .str x => some (.inr x)
  | _ => none
theorem keyD_of {K : PySem.W.Frag} {G : Hp} {v : V} {d : D} {k : Key} (q : Dq K ja G v d) (h : keyD d = some k) : v = kV k := by
  cases q <;> first | (cases h; rfl) | cases h
def fDGet (d e : D) : Tr D := match d, keyD e with
  | .dct kvs, some k => match kvs.find? fun p => decide (p.1 = k) with | some p => .ret p.2 | none => .fail
  | _, _ => .fail
theorem valV_zip {K : PySem.W.Frag} {G : Hp} {k : Key} {p : Key × D} : ∀ {ks : List Key} {vs : List V} {ds : List D}, ks.length = ds.length → DqA K ja G vs ds → (ks.zip ds).find? (fun p => decide (p.1 = k)) = some p → ∃ v, valV (ks.zip vs) k = some v ∧ Dq K ja G v p.2
  | [], vs, ds, hl, t, h => by simp at h
  | k0 :: ks, [], [], hl, .nil, h => by simp at h
  | k0 :: ks, v :: vs, d :: ds, hl, .cons q t, h => by
    rw [List.zip_cons_cons, List.find?_cons] at h
    by_cases hk : k0 = k
    · rw [show decide ((k0, d).1 = k) = true from decide_eq_true hk] at h
      cases h
      exact ⟨v, valV_pos hk, q⟩
    · rw [show decide ((k0, d).1 = k) = false from decide_eq_false hk] at h
      obtain ⟨w, h1, h2⟩ := valV_zip (by simpa using hl) t h
      exact ⟨w, by rw [List.zip_cons_cons, valV_neg hk]; exact h1, h2⟩
theorem eok_dget (hu : X.A.units + 1 < cLine) (ha : EOk X jk ja a ma) (hb : EOk X jk ja b mb) (hs : NoSl b) : EOk X jk ja (.Subscript a b pos) (mBin fDGet ma mb) :=
  EOk.by (pe_dget hu pe_sem pe_sem hs) fun ρ σ G H Q bs s h => two ha hb bs s h fun x y d e G' H' g q1 q2 hh => by
    have b' := bs.grow g
    unfold fDGet at hh
    split at hh
    · rename_i kvs k hk
      split at hh
      · rename_i p hp
        cases q1 with
        | dct e l t =>
          obtain ⟨v, h1, h2⟩ := valV_zip l t hp
          exact ⟨_, v, rfl, .inl ⟨_, k, .inl (b'.ex _ _ e), keyD_of q2 hk, h1.symm⟩, hh v G' H' g h2⟩
      · exact hh.elim
    · exact hh.elim
/-- {k: v, ..} -/
def PairD (K : PySem.W.Frag) (ja : JA) (G : Hp) : List (V × V) → List (D × D) → Prop := Paired fun p q => Dq K ja G p.1 q.1 ∧ Dq K ja G p.2 q.2
abbrev MD := VE → Tr (List (D × D))
def QOk (X : Cx) (jk : JarK) (ja : JA) (pos : Pos) (keys : List (Option Expr)) (values : List Expr) (mp : MD) : Prop := ∃ trs, PPs X pos keys values trs ∧ ∀ ρ σ G H (Q : List (V × V) → Hp → Prop), Base jk ja G H → Sl X.K ja G ρ σ →
  (mp ρ).all (fun ps => ∀ vs G' H', Grow jk ja G H G' H' → PairD X.K ja G' vs ps → Q vs H') → tPairs trs σ H Q
theorem PairD.mono {K : PySem.W.Frag} {G G' : Hp} (e : Ex G G') : ∀ {vs : List (V × V)} {ds : List (D × D)}, PairD K ja G vs ds → PairD K ja G' vs ds
  | _, _, .nil => .nil
  | _, _, .cons r t => .cons ⟨r.1.mono e, r.2.mono e⟩ (PairD.mono e t)
theorem qok_nil : QOk X jk ja pos [] [] fun _ => .ret [] := ⟨[], pps_nil, fun ρ σ G H Q b s h => h [] G H (Grow.refl b) .nil⟩
theorem qok_cons {keys : List (Option Expr)} {values : List Expr} {mp : MD} (ha : EOk X jk ja a ma) (hb : EOk X jk ja b mb) (hr : QOk X jk ja pos keys values mp) : QOk X jk ja pos (some a :: keys) (b :: values) fun ρ => (ma ρ).bind fun d => (mb ρ).bind fun e => (mp ρ).bind fun r => .ret ((d, e) :: r) := by
  obtain ⟨trs, h1, h2⟩ := hr
  refine ⟨(sem X a, sem X b) :: trs, pps_cons pe_sem pe_sem h1, fun ρ σ G H Q bs s h => ?_⟩
  refine two ha hb bs s h fun x y d e G' H' g q1 q2 hh => h2 ρ σ G' H' _ (bs.grow g) (s.mono g.g) (Tr.all_mono (Tr.all_bind hh) fun r hr vs G2 H2 g2 q => hr _ G2 H2 (g.trans g2) (.cons ⟨q1.mono g2.g, q2.mono g2.g⟩ q))
def keysD : List (D × D) → Option (List Key)
  | [] => some []
  | p :: r => match keyD p.1, keysD r with | some k, some ks => some (k :: ks) | _, _ => none
theorem keysD_of {K : PySem.W.Frag} {G : Hp} : ∀ {vs : List (V × V)} {ps : List (D × D)} {ks : List Key}, PairD K ja G vs ps → keysD ps = some ks → ∃ xs, vs = (ks.zip xs).map (fun kv => (kV kv.1, kv.2)) ∧ DqA K ja G xs (ps.map (·.2)) ∧ ks.length = ps.length
  | _, _, _, .nil, h => by
    cases h
    exact ⟨[], rfl, .nil, rfl⟩
  | _, _, ks, .cons (a := v) (b := p) (l₁ := vs) (l₂ := ps) r t, h => by
    unfold keysD at h
    cases h1 : keyD p.1 with
    | none => rw [h1] at h; cases h
    | some k =>
      cases h2 : keysD ps with
      | none => rw [h1, h2] at h; cases h
      | some ks' =>
        rw [h1, h2] at h
        cases h
        obtain ⟨xs, e1, e2, e3⟩ := keysD_of t h2
        refine ⟨v.2 :: xs, ?_, .cons r.2 e2, congrArg (· + 1) e3⟩
        rw [List.zip_cons_cons, List.map_cons, ← e1, ← keyD_of r.1 h1]
theorem mergeK_nodup : ∀ (more acc : List (Key × V)), (more.map (·.1)).Nodup → (∀ k ∈ more.map (·.1), k ∉ acc.map (·.1)) → mergeK acc more = acc ++ more
  | [], acc, _, _ => by rw [List.append_nil]; rfl
  | p :: r, acc, hn, hd => by
    have h1 : putK acc p.1 p.2 = acc ++ [p] := by
      unfold putK
      rw [if_neg]
      intro h
      obtain ⟨q, hq, e⟩ := List.any_eq_true.mp h
      exact hd p.1 (by simp) (by rw [← of_decide_eq_true e]; exact List.mem_map_of_mem hq)
    show mergeK (putK acc p.1 p.2) r = acc ++ p :: r
    rw [List.map_cons, List.nodup_cons] at hn
    rw [h1, mergeK_nodup r _ hn.2 (fun k hk => by
      intro hm
      rw [List.map_append] at hm
      rcases List.mem_append.mp hm with hm | hm
      · exact hd k (by simp only [List.map_cons, List.mem_cons]; exact .inr hk) hm
      · have : k = p.1 := by simpa using hm
        exact hn.1 (this ▸ hk)), List.append_assoc]
    rfl
theorem zip_fst {α β : Type} : ∀ {ks : List α} {xs : List β}, ks.length = xs.length → (ks.zip xs).map (·.1) = ks
  | [], xs, _ => by simp
  | k :: ks, [], h => by simp at h
  | k :: ks, x :: xs, h => by rw [List.zip_cons_cons, List.map_cons, zip_fst (by simpa using h)]
def mDict (mp : MD) : MC := fun ρ => (mp ρ).bind fun ps => match keysD ps with | some ks => if ks.Nodup ∧ ks.length ≤ 15 then .ret (.dct (ks.zip (ps.map (·.2)))) else .fail | none => .fail
theorem eok_dict {keys : List (Option Expr)} {values : List Expr} {mp : MD} (h : QOk X jk ja pos keys values mp) (hall : keys.all (·.isSome) = true := by rfl) (hl : keys.length = values.length := by rfl) (h0 : keys ≠ [] := by exact List.cons_ne_nil _ _) (h15 : keys.length ≤ 15 := by decide) : EOk X jk ja (.Dict keys values pos) (mDict mp) := by
  obtain ⟨trs, h1, h2⟩ := h
  refine EOk.by (pe_disp h1 hall hl h0 h15) fun ρ σ G H Q bs s hh => fun p hp => ?_
  have g0 : Grow jk ja G H G (upd H p (.dK [])) := Grow.newX bs hp
  have hg := bs.free hp
  refine h2 ρ σ G (upd H p (.dK [])) _ (bs.grow g0) s (Tr.all_mono (Tr.all_bind hh) fun ps hps vs G2 H2 g2 q => ?_)
  have l0 : upd H p (.dK []) p = some (.dK []) := upd_same
  have l2 : H2 p = some (.dK []) := g2.kp p _ l0 (bs.nofp hp)
  have hg2 : G2 p = none := (g2.fr p (by rw [l0]; exact fun z => nomatch z)).trans hg
  cases hk : keysD ps with
  | none => rw [hk] at hps; exact hps.elim
  | some ks =>
    rw [hk] at hps
    obtain ⟨hc, hps⟩ := ite_all hps
    obtain ⟨xs, e1, e2, e3⟩ := keysD_of q hk
    have lx : ks.length = xs.length := by rw [e3, e2.length, List.length_map]
    have em : mergeK [] (ks.zip xs) = ks.zip xs := by
      rw [mergeK_nodup _ _ (by rw [zip_fst lx]; exact hc.1) (fun k _ hm => by simp at hm), List.nil_append]
    refine ⟨l2, ks.zip xs, e1, by rw [List.length_zip]; omega, ?_⟩
    rw [em]
    have g3 : Grow jk ja G H G2 (upd H2 p (.dK (ks.zip xs))) := (g0.trans g2).mut bs hp hg2
    exact hps _ (upd G2 p (.dK (ks.zip xs))) _ (g3.take bs hp hg2 upd_same) (.dct upd_same (by rw [e3, List.length_map]) (e2.mono (Ex.new hg2)))
end
end Pd
set_option maxHeartbeats 4100000
/-! Callees, by place and by names. -/
namespace Pd
open PySem PySem.Spec L2 Evl
open PyProof.Rows hiding St

def pick {α : Type} (ix : List Nat) (l : List α) : List α := ix.filterMap fun i => l[i]?
theorem pick_vals {xs : List V} {us : List Value} (r : Vals xs us) : ∀ ix : List Nat, Vals (pick ix xs) (pick ix us)
  | [] => .nil
  | i :: ix => by
    have ih := pick_vals r ix
    unfold pick at ih ⊢
    cases e : xs[i]? with
    | none =>
      rw [List.filterMap_cons_none e, List.filterMap_cons_none (r.none_of e)]
      exact ih
    | some x =>
      obtain ⟨u, h1, h2⟩ := r.get e
      rw [List.filterMap_cons_some e, List.filterMap_cons_some h1]
      exact .cons h2 ih
theorem pick_dq {K : PySem.W.Frag} {ja : JA} {G : Hp} {xs : List V} {ds : List D} (r : DqA K ja G xs ds) : ∀ ix : List Nat, DqA K ja G (pick ix xs) (pick ix ds)
  | [] => .nil
  | i :: ix => by
    have ih := pick_dq r ix
    unfold pick at ih ⊢
    cases e : xs[i]? with
    | none =>
      rw [List.filterMap_cons_none e, List.filterMap_cons_none (by
        have := r.length
        exact List.getElem?_eq_none_iff.mpr (by rw [← this]; exact List.getElem?_eq_none_iff.mp e))]
      exact ih
    | some x =>
      obtain ⟨d, h1, h2⟩ := r.getV e
      rw [List.filterMap_cons_some e, List.filterMap_cons_some h1]
      exact .cons h2 ih
def KwB (fd : FuncData) (ps ks : List Str) (ix : List Nat) : Prop := ∀ (s : Shared) (ws : List Value), ws.length = ks.length → BindsTo s fd ⟨[], ks.zip ws⟩ (ps.zip (pick ix ws))
theorem kw_binds {K : PySem.W.Frag} {x qual : Str} {st : Stmt} {f : Addr} {fd : FuncData} {ps ks : List Str} {ix : List Nat} (F : Fun K x qual st f fd)
    (h : ∀ (kV doc pm : Value) (an : Option Addr) (cdv ct : Value) (us : List Value), us.length = ks.length → bindArgs (PySem.W.fnOf x qual (defArgs st) (defBody st) (defScope st) .none kV doc pm an cdv ct) ⟨[], ks.zip us⟩ = pure (ps.zip (pick ix us))) : KwB fd ps ks ix := by
  obtain ⟨_, _, kv, dc, pv, ann, cv, tv, _, rfl, _, _⟩ := F.ex
  exact fun s ws hl => .of_eq (h kv dc pv ann cv tv ws hl)
/-- a callee: its promise by what it makes of data, and how it is reached -/
structure Cal (P : Program) (w : World) (K : PySem.W.Frag) (mg : Str → Option Value) (base : Heap) (jk : JarK) (k : Nat) (x : Str) (ps : List Str) (kws : List (List Str × List Nat)) (g : List D → Tr D) : Prop where
  ex : ∃ f fd, FnG P w K mg base k f fd ps (spT K jk g) ∧ mg x = some (.ref f) ∧ PySem.W.keepIn K (.ref f) = true ∧ L2.Binds K fd ps [] ∧ ∀ q ∈ kws, KwB fd ps q.1 q.2
theorem Cal.deep {P : Program} {w : World} {K : PySem.W.Frag} {mg : Str → Option Value} {base : Heap} {jk : JarK} {k j : Nat} {x : Str} {ps : List Str} {kws : List (List Str × List Nat)} {g : List D → Tr D} (C : Cal P w K mg base jk j x ps kws g) (h : j ≤ k) : Cal P w K mg base jk k x ps kws g := by
  obtain ⟨f, fd, F, r⟩ := C.ex
  exact ⟨f, fd, F.deep h, r⟩
/-- the same promised by another function on data that says no more -/
theorem Cal.less {P : Program} {w : World} {K : PySem.W.Frag} {mg : Str → Option Value} {base : Heap} {jk : JarK} {k : Nat} {x : Str} {ps : List Str} {kws : List (List Str × List Nat)} {g g' : List D → Tr D} (C : Cal P w K mg base jk k x ps kws g) (h : ∀ ds (Q : D → Prop), (g' ds).all Q → (g ds).all Q) : Cal P w K mg base jk k x ps kws g' := by
  obtain ⟨f, fd, F, r⟩ := C.ex
  exact ⟨f, fd, F.less (fun {vs H Q E} q => spT_imp h vs H Q E q), r⟩
section
variable {X : Cx} {jk : JarK} {ja : JA} {k : Nat} {x : Str} {ps ks : List Str} {kws : List (List Str × List Nat)} {ix : List Nat} {g : List D → Tr D} {a : Expr} {es : List Expr} {ml : ML} {p pos : Pos} {kwl : List Keyword}
theorem eok_callC (C : Cal X.prog X.w X.K X.mg X.base jk k x ps kws g) (hA : X.A.guards = some []) (hr : Room k X.A) (ha : AOk X jk ja (a :: es) ml) (hg : Gl X x := by rfl)
    (hdb : (x == ("__debug__" : Str)) = false := by decide) (he : starEach (a :: es) X.env = (false, eval a X.env) :: starEach es X.env := by rfl) (hpl : (backTo pos (starEach es X.env)).any (·.1) = false := by rfl) :
    EOk X jk ja (.Call (.Name x p) (a :: es) [] pos) (mCall g ml) := by
  obtain ⟨f, fd, F, hm, hk, hb, _⟩ := C.ex
  exact eok_call F hA hr hg hm hk hb ha hdb he hpl
def mCallN (g : List D → Tr D) (ix : List Nat) (ml : ML) : MC := fun ρ => (ml ρ).bind fun ds => g (pick ix ds)
def Len (ml : ML) (n : Nat) : Prop := ∀ {ρ : VE} {P : List D → Prop}, (ml ρ).all P → (ml ρ).all fun ds => ds.length = n ∧ P ds
theorem len_nil : Len mNil 0 := fun h => ⟨rfl, h⟩
theorem len_cons {ma : MC} {ml : ML} {n : Nat} (h : Len ml n) : Len (mCons ma ml) (n + 1) := fun {ρ P} q => Tr.bind_all (Tr.all_mono (Tr.all_bind q) fun d hd => Tr.bind_all (Tr.all_mono (h (Tr.all_bind hd)) fun ds hds => ⟨congrArg (· + 1) hds.1, hds.2⟩))
theorem eok_callN (ks : List Str) (ix : List Nat) (C : Cal X.prog X.w X.K X.mg X.base jk k x ps kws g) (hq : (ks, ix) ∈ kws) (hA : X.A.guards = some []) (hr : Room k X.A) (hkw : KOk X jk ja kwl ml) (hl : Len ml ks.length) (hg : Gl X x := by rfl)
    (h4 : (backToKw pos (keywordEach kwl X.env)).all (·.1.isSome) = true := by rfl) (h5 : (backToKw pos (keywordEach kwl X.env)).filterMap (·.1) = ks := by rfl)
    (hdb : (x == ("__debug__" : Str)) = false := by decide) (h3 : ((backTo pos (starEach [] X.env)).any (·.1) || (backToKw pos (keywordEach kwl X.env)).any (·.1.isNone)) = false := by rfl) :
    EOk X jk ja (.Call (.Name x p) [] kwl pos) (mCallN g ix ml) := by
  obtain ⟨f, fd, F, hm, hk, _, hB⟩ := C.ex
  have hB := hB _ hq
  intro ρ σ G H Q bs s h pins st I
  refine wpAny_Call_Name_kw (ld_glob I hg hm (PySem.W.callWith_KW0 (h₀ := X.base) I.ok.mod.kin hk h4 (wpAny_mono (hkw ρ σ G H (fun vs H1 => ∃ G1 ds, Grow jk ja G H G1 H1 ∧ DqA X.K ja G1 vs ds ∧ ds.length = ks.length ∧ (g (pick ix ds)).all (Aft X jk ja G H Q)) bs s (Tr.all_mono (hl (Tr.all_bind h)) fun ds hd vs G1 H1 g1 q => ⟨G1, ds, g1, q, hd.1, hd.2⟩) pos pins st I) ?_ fun _ _ z => z) h3) hdb)
  rintro ws s2 ⟨vs, H1, J, rv, G1, ds, g1, q, hlen, hd⟩
  refine ⟨J.kIn, ?_⟩
  rw [h5]
  have e1 : ws.length = ks.length := by rw [← rv.length, q.length]; exact hlen
  refine call_end (args := ⟨[], ks.zip ws⟩) J (F.go hA hr J.env0 (hB s2 ws e1) (pick_vals rv ix) ⟨ja, G1, _, bs.grow g1, pick_dq q ix, Tr.all_mono hd fun d z => ?_⟩)
  exact z.later g1
end
end Pd
set_option maxHeartbeats 4100000
/-! extend, and or not as values, and what a def's text is. -/
namespace Pd
open PySem PySem.Spec L2 Evl
open PyProof.Rows hiding St

section
variable {X : Cx} {jk : JarK} {ja : JA} {e a b : Expr} {es rest : List Expr} {me ma mb : MC} {pos : Pos} {k : Nat}
theorem u65 (hr : Room k X.A) : X.A.units + 65 < cLine := by have := hr.un; omega
def fIsN (d e : D) : Tr D := if isNonD e = true then .ret (.bl (isNonD d)) else .fail
def fNotN (d e : D) : Tr D := if isNonD e = true then .ret (.bl (!isNonD d)) else .fail
theorem asB_one {d : D} {P : Bool → Prop} {G : Hp} {v : V} (q : Dq X.K ja G v d) (h : (asB d).all P) : ∃ c, v = .bl c ∧ P c := by
  obtain ⟨c, rfl, hc⟩ := asB_all h
  cases q
  exact ⟨c, rfl, hc⟩
def mAndV (ma mb : MC) : MC := fun ρ => (ma ρ).bind fun d => (asB d).bind fun c => if c = true then mb ρ else .ret (.bl false)
def mOrV (ma mb : MC) : MC := fun ρ => (ma ρ).bind fun d => (asB d).bind fun c => if c = true then .ret (.bl true) else mb ρ
def mNotV (ma : MC) : MC := fun ρ => (ma ρ).bind fun d => (asB d).bind fun c => .ret (.bl !c)
theorem eok_one {op : BoolOp} (h : EOk X jk ja a ma) : EOk X jk ja (.BoolOp op [a] pos) ma := EOk.by (pe_one pe_sem) fun ρ σ G H Q bs s x => h ρ σ G H Q bs s x
theorem eok_andV (ha : EOk X jk ja a ma) (hb : EOk X jk ja (.BoolOp .And (b :: rest) pos) mb) : EOk X jk ja (.BoolOp .And (a :: b :: rest) pos) (mAndV ma mb) :=
  EOk.by (pe_and pe_sem pe_sem) fun ρ σ G H Q bs s h => ha ρ σ G H _ bs s (Tr.all_mono (Tr.all_bind h) fun d hd v G1 H1 g1 q => by
    obtain ⟨c, rfl, hc⟩ := asB_one q (Tr.all_bind hd)
    cases c with
    | true => exact ⟨true, rfl, iteT (hb ρ σ G1 H1 Q (bs.grow g1) (s.mono g1.g) (Tr.all_mono hc fun _ z => z.later g1))⟩
    | false => exact ⟨false, rfl, iteF (hc _ G1 H1 g1 (.bl false))⟩)
theorem eok_orV (ha : EOk X jk ja a ma) (hb : EOk X jk ja (.BoolOp .Or (b :: rest) pos) mb) : EOk X jk ja (.BoolOp .Or (a :: b :: rest) pos) (mOrV ma mb) :=
  EOk.by (pe_or pe_sem pe_sem) fun ρ σ G H Q bs s h => ha ρ σ G H _ bs s (Tr.all_mono (Tr.all_bind h) fun d hd v G1 H1 g1 q => by
    obtain ⟨c, rfl, hc⟩ := asB_one q (Tr.all_bind hd)
    cases c with
    | true => exact ⟨true, rfl, iteT (hc _ G1 H1 g1 (.bl true))⟩
    | false => exact ⟨false, rfl, iteF (hb ρ σ G1 H1 Q (bs.grow g1) (s.mono g1.g) (Tr.all_mono hc fun _ z => z.later g1))⟩)
theorem eok_notV (ha : EOk X jk ja a ma) : EOk X jk ja (.UnaryOp .Not a pos) (mNotV ma) :=
  EOk.by (pe_not pe_sem) fun ρ σ G H Q bs s h => ha ρ σ G H _ bs s (Tr.all_mono (Tr.all_bind h) fun d hd v G1 H1 g1 q => by
    obtain ⟨c, rfl, hc⟩ := asB_one q (Tr.all_bind hd)
    exact ⟨c, rfl, hc _ G1 H1 g1 (.bl _)⟩)

/-! ### short names -/
def mOfL (ml : ML) : MC := fun ρ => (ml ρ).bind fun ds => .ret (.lst ds)
theorem eok_ofL {ml : ML} (h : LOk X jk ja e ml) : EOk X jk ja e (mOfL ml) := LOk.toE h
def mTru (m : MC) : MT := fun ρ => (m ρ).bind truD
theorem tok_truth (ha : EOk X jk ja a ma) (he : ∀ whole, isTrue a X.env whole = (do let v ← whole; standAt a.pos; holding [v] (truthy v)) := by intro _; rfl) : TOk X jk ja a (mTru ma) := tok_tru ha he
def mNotT (t : MT) : MT := fun ρ => (t ρ).bind fun b => .ret !b
theorem tok_notT {mt : MT} (ha : TOk X jk ja a mt) : TOk X jk ja (.UnaryOp .Not a pos) (mNotT mt) := tok_not ha
def mYes : MT := fun _ => .ret true
theorem pok_yes : POk X jk ja [] mYes := pok_nil
def iSeqM (m : MC) : ML := fun ρ => (m ρ).bind asL
theorem iok_seqM {tg : Expr} (ha : EOk X jk ja a ma) : IOk X jk ja tg a (iSeqM ma) := iok_seq ha
def iVia (g : List D → Tr (List D)) (ml : ML) : ML := fun ρ => (ml ρ).bind g
def mSkip : MS := fun ρ => .ret (.nx ρ)
theorem bok_skip : BOk X jk ja [] mSkip := bok_nil
def mQ0 : MD := fun _ => .ret []
def mQ1 (ma mb : MC) (mp : MD) : MD := fun ρ => (ma ρ).bind fun d => (mb ρ).bind fun e => (mp ρ).bind fun r => .ret ((d, e) :: r)
theorem qok_0 : QOk X jk ja pos [] [] mQ0 := qok_nil
theorem qok_1 {keys : List (Option Expr)} {values : List Expr} {mp : MD} (ha : EOk X jk ja a ma) (hb : EOk X jk ja b mb) (hr : QOk X jk ja pos keys values mp) : QOk X jk ja pos (some a :: keys) (b :: values) (mQ1 ma mb mp) := qok_cons ha hb hr

/-! ### x.extend(e), x an own list -/
def mExt (i : Nat) (rd : List Nat) (me : MC) : MS := fun ρ => (me (view (frz ρ rd))).bind fun d => match d, (frz ρ rd)[i]? with
  | .lst es, some (.own ds) => if ds.length + es.length ≤ sizeLine then .ret (.nx ((frz ρ rd).set i (.own (ds ++ es)))) else .fail
  | _, _ => .fail
theorem sok_ext (i : Nat) (rd : List Nat) {x : Str} {px pa pc : Pos} (he : EOk X jk ja e me) (hp : PE X (.Call (.Attribute (.Name x px) "extend" pa) [e] [] pc) (tBM X.K "list" rExtend (tVar i) (tCons (sem X e) tNil)))
    (hs : swapsWith (.Call (.Attribute (.Name x px) "extend" pa) [e] [] pc) none pos.line X.env = pure false := by rfl) : SOk X jk ja (.Expr (.Call (.Attribute (.Name x px) "extend" pa) [e] [] pc) pos) (mExt i rd me) :=
  SOk.by (ps_expr hp hs) fun ρ σ G0 H0 Gm G H D b0 s h => by
    obtain ⟨G1, e1, s1⟩ := s.frz b0 rd
    have h' := Tr.all_bind h
    cases eo : (frz ρ rd)[i]? with
    | none =>
      rw [eo] at h'
      exact (no_all' (Tr.all_mono h' (P' := fun _ => False) fun d z => by cases d <;> exact z)).elim
    | some o =>
      cases o with
      | own ds =>
        rw [eo] at h'
        obtain ⟨p, xs, q1, q2, q3, q4, q5⟩ := s1.own i ds eo
        refine ⟨.ref p, q1, .inl ⟨rfl, xs, sq_of q4⟩, he _ σ G1 H _ (s1.base b0) s1.sl (Tr.all_mono h' fun d hd v G2 H2 g2 q => ?_)⟩
        split at hd
        · rename_i es ds' heq
          cases heq
          obtain ⟨b, zs, rfl, z1, z2⟩ := q.inv_lst
          obtain ⟨hl, hd⟩ := ite_all hd
          have s2 := s1.step b0 g2
          obtain ⟨p', xs', r1, r2, r3, r4, r5⟩ := s2.own i _ eo
          have ep : p' = p := by rw [r1] at q1; cases q1; rfl
          subst ep
          refine ⟨p', b, xs', zs, rfl, rfl, r4, s2.grow.ex _ _ z1, by rw [r5.length, z2.length]; exact hl, ?_⟩
          have s3 := s2.setO (xs := xs' ++ zs) (ds := _ ++ es) b0 i r2 r3 (r5.append z2) (own_sep s2 eo r1)
          rw [set_self r1] at s3
          exact hd _ G2 _ s3
        · exact hd.elim
      | no =>
        rw [eo] at h'
        exact (no_all' (Tr.all_mono h' (P' := fun _ => False) fun d z => by cases d <;> exact z)).elim
      | val d0 =>
        rw [eo] at h'
        exact (no_all' (Tr.all_mono h' (P' := fun _ => False) fun d z => by cases d <;> exact z)).elim
end

/-! ### a def of the text -/
/-- g of n parameters by its body -/
def defG (n nN : Nat) (m : MS) : List D → Tr D := fun ds => if ds.length = n then runC nN m ds else .fail
theorem cal_of {P : Program} {w : World} {K : PySem.W.Frag} {mg : Str → Option Value} {base : Heap} {jk : JarK} {k n nN : Nat} {x qual : Str} {st : Stmt} {f : Addr} {fd : FuncData} {N ps : List Str} {kws : List (List Str × List Nat)} {m : MS} (F : Fun K x qual st f fd) (S : FnScope N ps (defScope st)) (hm : mg x = some (.ref f)) (hb : L2.Binds K fd ps [])
    (hk : ∀ q ∈ kws, KwB fd ps q.1 q.2) (hn : n = ps.length) (hN : nN = N.length)
    (h : ∀ (cdv : Value) (A : Around) (outer : List PySem.Env) (s : Shared) (H : Hp) (E : XK) (ja : JA), (A.deeper (envOfC qual (defScope st) s.heap.objs.size f cdv)).guards = some [] → Room k (A.deeper (envOfC qual (defScope st) s.heap.objs.size f cdv)) → BOk (DefX P w K mg base N qual (defScope st) f cdv A outer s H E) jk ja (defBody st) m) :
    Cal P w K mg base jk (k + 1) x ps kws (defG n nN m) := by
  subst hn hN
  exact ⟨f, fd, fn_code F S (defG ps.length N.length m) (fun ds hl => if_neg hl) (fun ds hl => if_pos hl) h, hm, F.kp, hb, hk⟩
end Pd
set_option maxHeartbeats 4100000
/-! More operations: slices of lists, abs, int, powers, products with one small side. -/
namespace Pd
open PySem PySem.Spec L2 Evl
open PyProof.Rows hiding St
section
variable {X : Cx} {jk : JarK} {ja : JA} {e a b : Expr} {es rest : List Expr} {me ma mb : MC} {pos p2 : Pos} {k : Nat}
def fMulC : D → D → Tr D := intF (fun i j => (decide (-(2 ^ 64) < i) && decide (i < 2 ^ 64)) || (decide (-(2 ^ 64) < j) && decide (j < 2 ^ 64))) fun i j => .int (i * j)
theorem r_mulC : R2Ok X jk ja (rI CMul fun i j => .int (i * j)) fMulC := r2_int (fun i j h => by
  rw [Bool.or_eq_true, Bool.and_eq_true, Bool.and_eq_true] at h
  exact h.imp (fun z => ⟨of_decide_eq_true z.1, of_decide_eq_true z.2⟩) fun z => ⟨of_decide_eq_true z.1, of_decide_eq_true z.2⟩) fun _ _ _ _ _ => .int _
def fPow : D → D → Tr D := intF (fun i j => decide (0 ≤ j) && decide (j ≤ 1000000) && decide (i.natAbs < 2 ^ 64)) fun i j => .int (i ^ j.toNat)
theorem r_pow : R2Ok X jk ja (rI CPow fun i j => .int (i ^ j.toNat)) fPow := r2_int (fun i j h => by
  rw [Bool.and_eq_true, Bool.and_eq_true] at h
  exact ⟨of_decide_eq_true h.1.1, of_decide_eq_true h.1.2, of_decide_eq_true h.2⟩) fun _ _ _ _ _ => .int _
def gAbs : List D → Tr D
  | [.int i] => .ret (.int (if i < 0 then -i else i))
  | _ => .fail
theorem r_abs : RCOk X jk ja (fun xs H Q => ∃ i, xs = [.int i] ∧ Q (.int (if i < 0 then -i else i)) H) gAbs := fun G H vs ds Q b q h => by
  unfold gAbs at h
  split at h
  · obtain ⟨v, rfl, q1⟩ := q.one
    cases q1.inv_int
    exact ⟨_, rfl, h _ G H (Grow.refl b) (.int _)⟩
  · exact h.elim
def gInt : List D → Tr D
  | [.int i] => .ret (.int i)
  | [.bl c] => .ret (.int (if c then 1 else 0))
  | _ => .fail
theorem r_intc : RCOk X jk ja (fun xs H Q => (∃ i, xs = [.int i] ∧ Q (.int i) H) ∨ ∃ k, xs = [.bl k] ∧ Q (.int (if k then 1 else 0)) H) gInt := fun G H vs ds Q b q h => by
  unfold gInt at h
  split at h
  · obtain ⟨v, rfl, q1⟩ := q.one
    cases q1.inv_int
    exact .inl ⟨_, rfl, h _ G H (Grow.refl b) (.int _)⟩
  · obtain ⟨v, rfl, q1⟩ := q.one
    cases q1.inv_bl
    exact .inr ⟨_, rfl, h _ G H (Grow.refl b) (.int _)⟩
  · exact h.elim

/-! ### parts of a slice -/
abbrev MO := VE → Tr (Option Int)
def OOk (X : Cx) (jk : JarK) (ja : JA) (o : Option Expr) (mo : MO) : Prop := ∃ to, PO X o to ∧ ∀ ρ σ G H (R : Option Int → Hp → Prop), Base jk ja G H → Sl X.K ja G ρ σ → (mo ρ).all (fun i => ∀ G' H', Grow jk ja G H G' H' → R i H') → to σ H R
def mNoP : MO := fun _ => .ret none
theorem ook_none : OOk X jk ja none mNoP := ⟨tNoPart, po_none, fun ρ σ G H R b s h => h G H (Grow.refl b)⟩
def partD : D → Tr (Option Int)
  | .int i => .ret (some i)
  | _ => .fail
def mPart (me : MC) : MO := fun ρ => (me ρ).bind partD
theorem ook_some (h : EOk X jk ja e me) : OOk X jk ja (some e) (mPart me) := ⟨tPart (sem X e), po_some pe_sem, fun ρ σ G H R b s hh => h ρ σ G H _ b s (Tr.all_mono (Tr.all_bind hh) fun d hd v G' H' g q => by
  unfold partD at hd
  split at hd
  · cases q.inv_int
    exact ⟨_, rfl, hd G' H' g⟩
  · exact hd.elim)⟩
def cutD {α : Type} (xs : List α) (lo hi : Option Int) : List α := (xs.drop (HT.sIx xs.length 0 lo)).take (HT.sIx xs.length xs.length hi - HT.sIx xs.length 0 lo)
theorem DqA.cut {K : PySem.W.Frag} {G : Hp} {xs : List V} {ds : List D} (q : DqA K ja G xs ds) (lo hi : Option Int) : DqA K ja G (cutV xs lo hi) (cutD ds lo hi) := by
  unfold cutV cutD
  rw [q.length]
  exact (q.drop _).take _
def slL (d : D) (l u : Option Int) : Tr (List D) := match d with
  | .lst ds => .ret (cutD ds l u)
  | .seq ds => .ret (cutD ds l u)
  | _ => .fail
def mSlL (me : MC) (ml mu : MO) : ML := fun ρ => (me ρ).bind fun d => (ml ρ).bind fun l => (mu ρ).bind fun u => slL d l u
theorem lok_slice {lo hi : Option Expr} {ml mu : MO} (he : EOk X jk ja e me) (hl : OOk X jk ja lo ml) (hu : OOk X jk ja hi mu) : LOk X jk ja (.Subscript e (.Slice lo hi none p2) pos) (mSlL me ml mu) := by
  obtain ⟨tl, hl1, hl2⟩ := hl
  obtain ⟨tu, hu1, hu2⟩ := hu
  refine LOk.by (pe_slice sl_list pe_sem hl1 hu1) fun ρ σ G H Q bs s h => ?_
  refine he ρ σ G H _ bs s (Tr.all_mono (Tr.all_bind h) fun d hd v G1 H1 g1 q => ?_)
  refine hl2 ρ σ G1 H1 _ (bs.grow g1) (s.mono g1.g) (Tr.all_mono (Tr.all_bind hd) fun l hl G2 H2 g2 => ?_)
  refine hu2 ρ σ G2 H2 _ ((bs.grow g1).grow g2) (s.mono (g1.g.trans g2.g)) (Tr.all_mono (Tr.all_bind hl) fun u hu G3 H3 g3 => ?_)
  have g13 := g1.trans (g2.trans g3)
  have b3 := bs.grow g13
  have q3 := q.mono (g2.trans g3).g
  unfold slL at hu
  split at hu
  · obtain ⟨p, xs, rfl, e, t⟩ := q3.inv_lst
    refine ⟨p, xs, rfl, sq_of (b3.ex _ _ e), fun z hz => ?_⟩
    exact hu z _ G3 _ (g13.trans (Grow.newX b3 hz)) (by
      cases e0 : H z with
      | none => rfl
      | some o => exact absurd hz (g13.some (by rw [e0]; exact fun y => nomatch y))) (b3.free hz) upd_same (t.cut l u)
  · obtain ⟨p, xs, rfl, e, t⟩ := q3.inv_seq
    refine ⟨p, xs, rfl, ex_l b3.ex e, fun z hz => ?_⟩
    exact hu z _ G3 _ (g13.trans (Grow.newX b3 hz)) (by
      cases e0 : H z with
      | none => rfl
      | some o => exact absurd hz (g13.some (by rw [e0]; exact fun y => nomatch y))) (b3.free hz) upd_same (t.cut l u)
  · exact hu.elim
end
end Pd
set_option maxHeartbeats 410000
/-! What a meaning comes to: all its ends, step by step. AllS is no def, so that nothing unfolds it. -/
namespace Pd
open PySem PySem.Spec L2 Evl
open PyProof.Rows hiding St
structure AllS {α : Type} (P : α → Prop) (t : Tr α) : Prop where
  out : t.all P
theorem alls_ret {α : Type} {P : α → Prop} {a : α} (h : P a) : AllS P (.ret a) := ⟨h⟩
theorem alls_draw {α : Type} {P : α → Prop} {m : Int} {f : Int → Tr α} (h : 0 < m) (k : ∀ i, 0 ≤ i → i < m → AllS P (f i)) : AllS P (.draw m f) := ⟨h, fun i a b => (k i a b).out⟩
theorem alls_bind {α β : Type} {P : β → Prop} {f : α → Tr β} {t : Tr α} (h : AllS (fun a => AllS P (f a)) t) : AllS P (t.bind f) := ⟨Tr.bind_all (Tr.all_mono h.out fun _ x => x.out)⟩
theorem alls_mono {α : Type} {P P' : α → Prop} {t : Tr α} (h : AllS P t) (k : ∀ a, P a → P' a) : AllS P' t := ⟨Tr.all_mono h.out k⟩
theorem call_ret {g : List D → Tr D} {ml : ML} {ρ : VE} {ds : List D} (h : ml ρ = .ret ds) : mCall g ml ρ = g ds := by
  show (ml ρ).bind g = _
  rw [h]
  rfl
theorem via_ret {g : List D → Tr (List D)} {ml : ML} {ρ : VE} {ds : List D} (h : ml ρ = .ret ds) : iVia g ml ρ = g ds := by
  show (ml ρ).bind g = _
  rw [h]
  rfl
theorem seq_ret {m1 m2 : MS} {ρ ρ' : SE} (h : m1 ρ = .ret (.nx ρ')) : mSeq m1 m2 ρ = m2 ρ' := by
  show (m1 ρ).bind _ = _
  rw [h]
  rfl
/-- first m1, which goes on, then m2 -/
theorem seq_alls {m1 m2 : MS} {ρ : SE} {P : Out → Prop} (h : AllS (fun o => ∃ ρ', o = .nx ρ' ∧ AllS P (m2 ρ')) (m1 ρ)) : AllS P (mSeq m1 m2 ρ) := by
  show AllS P ((m1 ρ).bind _)
  refine alls_bind (alls_mono h fun o ho => ?_)
  obtain ⟨ρ', rfl, h⟩ := ho
  exact h
theorem asg_alls {i : Nat} {rd : List Nat} {me : MC} {ρ : SE} {P : Out → Prop} (h : AllS (fun d => P (.nx ((frz ρ rd).set i (.val d)))) (me (view (frz ρ rd)))) : AllS P (mAsg i rd me ρ) := by
  show AllS P ((me (view (frz ρ rd))).bind _)
  exact alls_bind (alls_mono h fun d hd => alls_ret hd)
theorem ret_alls {rd : List Nat} {me : MC} {ρ : SE} {P : Out → Prop} (h : AllS (fun d => P (.rt d)) (me (view (frz ρ rd)))) : AllS P (mRet rd me ρ) := by
  show AllS P ((me (view (frz ρ rd))).bind _)
  exact alls_bind (alls_mono h fun d hd => alls_ret hd)
theorem for_inv {p : Pt} {mB : MS} (I : SE → Prop) : ∀ (ds : List D) (ρ : SE), (∀ ρ d, I ρ → d ∈ ds → ∃ as, p.to d = some as ∧ AllS (fun o => ∃ ρ', o = .nx ρ' ∧ I ρ') (mB (setS ρ as))) → I ρ → AllS (fun o => ∃ ρ', o = .nx ρ' ∧ I ρ') (forF p mB ds ρ)
  | [], ρ, _, i => alls_ret ⟨ρ, rfl, i⟩
  | d :: ds, ρ, h, i => by
    obtain ⟨as, e, h1⟩ := h ρ d i (List.mem_cons_self ..)
    unfold forF
    rw [e]
    refine alls_bind (alls_mono h1 fun o ho => ?_)
    obtain ⟨ρ', rfl, i'⟩ := ho
    exact for_inv I ds ρ' (fun ρ d i m => h ρ d i (List.mem_cons_of_mem _ m)) i'
theorem for_alls {p : Pt} {rd : List Nat} {mi : ML} {mB : MS} {ds : List D} {ρ : SE} (I : SE → Prop) (hi : mi (view (frz ρ rd)) = .ret ds) (h : ∀ ρ d, I ρ → d ∈ ds → ∃ as, p.to d = some as ∧ AllS (fun o => ∃ ρ', o = .nx ρ' ∧ I ρ') (mB (setS ρ as))) (i0 : I (frz ρ rd)) :
    AllS (fun o => ∃ ρ', o = .nx ρ' ∧ I ρ') (mFor p rd mi mB ρ) := by
  show AllS _ ((mi (view (frz ρ rd))).bind fun ds => forF p mB ds (frz ρ rd))
  rw [hi]
  exact for_inv I ds _ h i0
theorem comp_inv {p : Pt} {vs : List Nat} {mt : MT} {me : MC} {ρ : VE} (I : D → Prop) : ∀ (ds : List D), (∀ d ∈ ds, ∃ as, p.to d = some as ∧ as.all (fun q => vs.contains q.1) = true ∧ AllS (fun c => c = true → AllS I (me (setE (wipeE ρ vs) as))) (mt (setE (wipeE ρ vs) as))) →
    AllS (fun ys => ys.length ≤ ds.length ∧ ∀ y ∈ ys, I y) (compF p vs mt me ρ ds)
  | [], _ => alls_ret ⟨Nat.le_refl _, fun y hy => by cases hy⟩
  | d :: ds, h => by
    obtain ⟨as, e, hall, h1⟩ := h d (List.mem_cons_self ..)
    have ih := comp_inv I ds fun d hd => h d (List.mem_cons_of_mem _ hd)
    unfold compF
    rw [e]
    show AllS _ (if as.all (fun q => vs.contains q.1) = true then _ else _)
    rw [if_pos hall]
    refine alls_bind (alls_mono h1 fun c hc => ?_)
    cases c with
    | true =>
      rw [if_pos rfl]
      refine alls_bind (alls_mono (hc rfl) fun y hy => alls_bind (alls_mono ih fun ys hys => alls_ret ⟨Nat.succ_le_succ hys.1, fun z hz => ?_⟩))
      rcases List.mem_cons.mp hz with eq | hz
      · rw [eq]
        exact hy
      · exact hys.2 z hz
    | false =>
      rw [if_neg (by simp)]
      exact alls_mono ih fun ys hys => ⟨Nat.le_succ_of_le hys.1, hys.2⟩
theorem comp_alls {mi : ML} {p : Pt} {vs : List Nat} {mt : MT} {me : MC} {ρ : VE} {ds : List D} (I : D → Prop) (hi : mi ρ = .ret ds) (hl : ds.length < sizeLine) (h : ∀ d ∈ ds, ∃ as, p.to d = some as ∧ as.all (fun q => vs.contains q.1) = true ∧ AllS (fun c => c = true → AllS I (me (setE (wipeE ρ vs) as))) (mt (setE (wipeE ρ vs) as))) :
    AllS (fun ys => ys.length ≤ ds.length ∧ ∀ y ∈ ys, I y) (mComp mi p vs mt me ρ) := by
  show AllS _ ((mi ρ).bind fun ds => if ds.length < sizeLine then compF p vs mt me ρ ds else .fail)
  rw [hi]
  show AllS _ (if ds.length < sizeLine then compF p vs mt me ρ ds else .fail)
  rw [if_pos hl]
  exact comp_inv I ds h
theorem def_alls {n nN : Nat} {m : MS} {ds : List D} {P : D → Prop} (hn : ds.length = n) (h : AllS (fun o => ∃ d, o = .rt d ∧ P d) (m (startE nN ds))) : AllS P (defG n nN m ds) := by
  have e : defG n nN m ds = runC nN m ds := if_pos hn
  rw [e]
  refine alls_bind (alls_mono h fun o ho => ?_)
  obtain ⟨d, rfl, hd⟩ := ho
  exact alls_ret hd
theorem isInts : ∀ {ys : List D}, (∀ y ∈ ys, ∃ i, y = .int i) → ∃ ns : List Int, ys = ns.map D.int
  | [], _ => ⟨[], rfl⟩
  | y :: ys, h => by
    obtain ⟨i, rfl⟩ := h y (List.mem_cons_self ..)
    obtain ⟨ns, rfl⟩ := isInts fun y hy => h y (List.mem_cons_of_mem _ hy)
    exact ⟨i :: ns, rfl⟩
theorem ints_mem {ns : List Int} {d : D} (h : d ∈ ns.map D.int) : ∃ i, d = .int i := by
  obtain ⟨i, _, e⟩ := List.mem_map.mp h
  exact ⟨i, e.symm⟩
theorem cutD_60 (ns : List Int) : cutD (ns.map D.int) none (some 60) = (ns.take 60).map D.int := by
  unfold cutD
  rw [show HT.sIx (ns.map D.int).length (ns.map D.int).length (some 60) = min 60 (ns.map D.int).length from HT.sIx_nat _ _ 60, HT.sIx_none]
  rw [List.drop_zero, Nat.sub_zero, List.map_take, List.length_map]
  by_cases h : 60 ≤ ns.length
  · rw [Nat.min_eq_left h]
  · rw [Nat.min_eq_right (by omega), List.take_of_length_le (by simp), List.take_of_length_le (by simp; omega)]
theorem mulC_l {c x : Int} (h : -(2 ^ 64) < c ∧ c < 2 ^ 64) : fMulC (.int c) (.int x) = .ret (.int (c * x)) := if_pos (by simp; omega)
theorem mulC_r {c x : Int} (h : -(2 ^ 64) < c ∧ c < 2 ^ 64) : fMulC (.int x) (.int c) = .ret (.int (x * c)) := if_pos (by simp; omega)
theorem mod_ret {x c : Int} (h : 0 < c) : fMod (.int x) (.int c) = .ret (.int (x % c)) := if_pos (decide_eq_true h)
theorem bin_ret {f : D → D → Tr D} {ma mb : MC} {ρ : VE} {d e : D} (h1 : ma ρ = .ret d) (h2 : mb ρ = .ret e) : mBin f ma mb ρ = f d e := by
  show (ma ρ).bind _ = _
  rw [h1]
  show (mb ρ).bind _ = _
  rw [h2]
  rfl
end Pd
set_option maxHeartbeats 4100000
/-! isinstance of a built-in class, minus, chains as values, pop of an own list. -/
namespace Pd
open PySem PySem.Spec L2 Evl
open PyProof.Rows hiding St
section
variable {X : Cx} {jk : JarK} {ja : JA} {e a b c : Expr} {es rest : List Expr} {me ma mb mc : MC} {pos p2 : Pos} {k : Nat}
/-! ### isinstance(e, T) -/
def clsD : D → Option String
  | .non => some "NoneType"
  | .bl _ => some "bool"
  | .int _ => some "int"
  | .str _ => some "str"
  | .rp _ => some "str"
  | .lst _ => some "list"
  | .seq _ => some "list"
  | .tup _ => some "tuple"
  | .dct _ => some "dict"
  | .obj => none
theorem clsD_of {G H : Hp} {v : V} {d : D} {t : String} (bs : Base jk ja G H) (q : Dq X.K ja G v d) (h : clsD d = some t) : TyX X.K H v (.type t) := by
  cases q with
  | non => cases h; exact .base .non
  | bl b => cases h; exact .base (.bl b)
  | int i => cases h; exact .base (.int i)
  | str x => cases h; exact .base (.str x)
  | rp d => cases h; exact .base (.str _)
  | lst e t => cases h; exact .base (.lst (bs.ex _ _ e))
  | seq e t =>
    cases h
    rcases ex_l bs.ex e with r | ⟨o, its, n, l1, l2, _⟩
    · rcases r with r | ⟨o, r⟩
      · exact .base (.lst r)
      · exact .base (.frz r)
    · exact .kList l1 l2
  | tup e t =>
    cases h
    rcases ex_t bs.ex e with r | ⟨o, its, n, l1, l2, _⟩
    · rcases r with r | ⟨o, r⟩
      · exact .base (.tup r)
      · exact .fTuple r
    · exact .kTuple (by assumption) (by assumption)
  | dct e l t => cases h; exact .base (.dK (bs.ex _ _ e))
  | obj _ => cases h
def isiD (T : String) (d : D) : Tr D := match clsD d with
  | some t => match kitB t T with
    | some b => .ret (.bl b)
    | none => .fail
  | none => .fail
def mIsi (T : String) (me : MC) : MC := fun ρ => (me ρ).bind (isiD T)
theorem eok_isi (T : String) {x : Str} {p q : Pos} (he : EOk X jk ja e me) (hg : Gl X "isinstance") (hm : X.mg "isinstance" = none) (hgx : Gl X x) (hmx : X.mg x = none) (hbx : bootBuiltins x = some (.type T)) (hn : x ≠ "__name__" := by decide) (hd : (x == ("__debug__" : Str)) = false := by decide)
    (hs : starEach [e, .Name x q] X.env = (false, eval e X.env) :: starEach [.Name x q] X.env := by rfl) : EOk X jk ja (.Call (.Name "isinstance" p) [e, .Name x q] [] pos) (mIsi T me) :=
  EOk.by (pe_callB call_isi hg hm PyProof.Rows.boot_isinstance (pa_cons pe_sem (pa_cons (pe_bltn (v := .ty T) hgx hmx hbx rfl hn hd) pa_nil) hs) (he := hs)) fun ρ σ G H Q bs s h => he ρ σ G H _ bs s (Tr.all_mono (Tr.all_bind h) fun d hd v G1 H1 g1 q => by
    unfold isiD at hd
    cases ht : clsD d with
    | none => rw [ht] at hd; exact hd.elim
    | some t =>
      rw [ht] at hd
      cases hk : kitB t T with
      | none =>
        have hd : (match kitB t T with | some b => Tr.ret (D.bl b) | none => .fail).all (Aft X jk ja G H Q) := hd
        rw [hk] at hd
        exact hd.elim
      | some r =>
        have hd : (match kitB t T with | some b => Tr.ret (D.bl b) | none => .fail).all (Aft X jk ja G H Q) := hd
        rw [hk] at hd
        exact ⟨v, .ty T, .type t, .type T, r, rfl, .ty T, clsD_of (bs.grow g1) q ht, kit_ty hk, hd _ G1 H1 g1 (.bl r)⟩)
/-! ### minus -/
def fNeg : D → Tr D
  | .int i => .ret (.int (-i))
  | _ => .fail
def mNeg (ma : MC) : MC := fun ρ => (ma ρ).bind fNeg
theorem eok_neg (ha : EOk X jk ja a ma) : EOk X jk ja (.UnaryOp .USub a pos) (mNeg ma) :=
  EOk.by (pe_un un_neg pe_sem) fun ρ σ G H Q bs s h => ha ρ σ G H _ bs s (Tr.all_mono (Tr.all_bind h) fun d hd v G1 H1 g1 q => by
    unfold fNeg at hd
    split at hd
    · cases q.inv_int
      exact ⟨_, rfl, hd _ G1 H1 g1 (.int _)⟩
    · exact hd.elim)
/-! ### a op b op c, a value -/
def chainD (f2 : D → D → Tr D) (mc : MC) (ρ : VE) (y r : D) : Tr D := (asB r).bind fun k => if k = true then (mc ρ).bind fun z => f2 y z else .ret (.bl false)
def mChainV (f1 f2 : D → D → Tr D) (ma mb mc : MC) : MC := fun ρ => (ma ρ).bind fun x => (mb ρ).bind fun y => (f1 x y).bind fun r => chainD f2 mc ρ y r
theorem eok_chain {op op' : CmpOp} {r r' : R2} {f1 f2 : D → D → Tr D} (ho : OpR X (compareOp op) r) (hr : R2Ok X jk ja r f1) (ho' : OpR X (compareOp op') r') (hr' : R2Ok X jk ja r' f2) (ha : EOk X jk ja a ma) (hb : EOk X jk ja b mb) (hc : EOk X jk ja c mc)
    (hm : lastMarks [op, op'] [b, c] = false := by with_unfolding_all rfl) : EOk X jk ja (.Compare a [op, op'] [b, c] pos) (mChainV f1 f2 ma mb mc) :=
  EOk.by (pe_chain ho ho' pe_sem pe_sem pe_sem hm) fun ρ σ G H Q bs s h => ha ρ σ G H _ bs s (Tr.all_mono (Tr.all_bind h) fun xd h1 x G1 H1 g1 q1 => by
    refine hb ρ σ G1 H1 _ (bs.grow g1) (s.mono g1.g) (Tr.all_mono (Tr.all_bind h1) fun yd h2 y G2 H2 g2 q2 => ?_)
    have b2 := (bs.grow g1).grow g2
    refine hr G2 H2 x y xd yd _ b2 (q1.mono g2.g) q2 (Tr.all_mono (Tr.all_bind h2) fun rd h3 z G3 H3 g3 q3 => ?_)
    have g13 := g1.trans (g2.trans g3)
    obtain ⟨c, rfl, hk⟩ := asB_one q3 (Tr.all_bind h3)
    cases c with
    | true =>
      refine ⟨true, rfl, iteT ?_⟩
      refine hc ρ σ G3 H3 _ (bs.grow g13) (s.mono g13.g) (Tr.all_mono (Tr.all_bind hk) fun wd h4 w G4 H4 g4 q4 => ?_)
      exact hr' G4 H4 y w yd wd _ ((bs.grow g13).grow g4) (q2.mono (g3.g.trans g4.g)) q4 (Tr.all_mono h4 fun d hd => hd.later (g13.trans g4))
    | false => exact ⟨false, rfl, iteF (hk _ G3 H3 g13 (.bl false))⟩)
/-! ### tuples put together, and cut -/
def fCatT (d e : D) : Tr D := match d, e with
  | .tup ds, .tup es => if ds.length + es.length ≤ sizeLine then .ret (.tup (ds ++ es)) else .fail
  | _, _ => .fail
theorem DqA.nil_of {K : PySem.W.Frag} {G : Hp} {xs : List V} {ds : List D} (t : DqA K ja G xs ds) (h : xs = []) : ds = [] := by
  subst h
  cases t
  rfl
theorem r_catT : R2Ok X jk ja (rCatA X.K) fCatT := fun G H x y d e Q b q1 q2 h => by
  unfold fCatT at h
  split at h
  · obtain ⟨hl, h⟩ := ite_all h
    obtain ⟨a, xs, rfl, e1, t1⟩ := q1.inv_tup
    obtain ⟨a2, ys, rfl, e2, t2⟩ := q2.inv_tup
    refine ⟨a, a2, xs, ys, rfl, rfl, ex_t b.ex e1, ex_t b.ex e2, by rw [t1.length, t2.length]; exact hl, fun z => ?_, fun _ z => ?_, fun _ _ p hp => ?_⟩
    · rw [t1.nil_of z, List.nil_append] at h
      exact h _ G H (Grow.refl b) (.tup e2 t2)
    · rw [t2.nil_of z, List.append_nil] at h
      exact h _ G H (Grow.refl b) (.tup e1 t1)
    · exact h _ _ _ (Grow.new b hp) (.tup (st_of upd_same) ((t1.append t2).mono (Ex.new (b.free hp))))
  · exact h.elim
def slT (d : D) (l u : Option Int) : Tr D := match d with
  | .tup ds => .ret (.tup (cutD ds l u))
  | _ => .fail
def mSlT (me : MC) (ml mu : MO) : MC := fun ρ => (me ρ).bind fun d => (ml ρ).bind fun l => (mu ρ).bind fun u => slT d l u
theorem cutD_whole {α : Type} {xs : List α} {lo hi : Option Int} (h : HT.sIx xs.length 0 lo = 0 ∧ HT.sIx xs.length xs.length hi = xs.length) : cutD xs lo hi = xs := by
  unfold cutD
  rw [h.1, h.2, List.drop_zero, Nat.sub_zero, List.take_length]
theorem eok_sliceT {lo hi : Option Expr} {ml mu : MO} (he : EOk X jk ja e me) (hl : OOk X jk ja lo ml) (hu : OOk X jk ja hi mu) : EOk X jk ja (.Subscript e (.Slice lo hi none p2) pos) (mSlT me ml mu) := by
  obtain ⟨tl, hl1, hl2⟩ := hl
  obtain ⟨tu, hu1, hu2⟩ := hu
  refine EOk.by (pe_slice sl_tupA pe_sem hl1 hu1) fun ρ σ G H Q bs s h => ?_
  refine he ρ σ G H _ bs s (Tr.all_mono (Tr.all_bind h) fun d hd v G1 H1 g1 q => ?_)
  refine hl2 ρ σ G1 H1 _ (bs.grow g1) (s.mono g1.g) (Tr.all_mono (Tr.all_bind hd) fun l hl G2 H2 g2 => ?_)
  refine hu2 ρ σ G2 H2 _ ((bs.grow g1).grow g2) (s.mono (g1.g.trans g2.g)) (Tr.all_mono (Tr.all_bind hl) fun u hu G3 H3 g3 => ?_)
  have g13 := g1.trans (g2.trans g3)
  have b3 := bs.grow g13
  have q3 := q.mono (g2.trans g3).g
  unfold slT at hu
  split at hu
  · rename_i ds
    obtain ⟨p, xs, rfl, e, t⟩ := q3.inv_tup
    refine ⟨p, xs, rfl, ex_t b3.ex e, fun hw => ?_, fun _ z hz => ?_⟩
    · rw [t.length] at hw
      have hu : (Tr.ret (D.tup (cutD ds l u))).all (Aft X jk ja G H Q) := hu
      rw [cutD_whole hw] at hu
      exact hu _ G3 H3 g13 (.tup e t)
    · exact hu _ _ _ (g13.trans (Grow.new b3 hz)) (.tup (st_of upd_same) ((t.cut l u).mono (Ex.new (b3.free hz))))
  · exact hu.elim
end
end Pd
set_option maxHeartbeats 4100000
/-! all, any, sum, max, divmod; d.get(k, x). -/
namespace Pd
open PySem PySem.Spec L2 Evl
open PyProof.Rows hiding St
section
variable {X : Cx} {jk : JarK} {ja : JA} {e a b c : Expr} {es rest : List Expr} {me ma mb mc : MC} {pos p2 : Pos} {k : Nat}
def bolsD : List D → Option (List Bool)
  | [] => some []
  | .bl b :: r => match bolsD r with | some bs => some (b :: bs) | none => none
  | _ :: _ => none
theorem bolsD_eq : ∀ {ds : List D} {bs : List Bool}, bolsD ds = some bs → ds = bs.map D.bl
  | [], bs, h => by
    cases h
    rfl
  | .bl b :: r, bs, h => by
    unfold bolsD at h
    cases hr : bolsD r with
    | none => rw [hr] at h; cases h
    | some cs =>
      rw [hr] at h
      cases h
      rw [bolsD_eq hr]
      rfl
  | .non :: _, _, h => nomatch h
  | .int _ :: _, _, h => nomatch h
  | .str _ :: _, _, h => nomatch h
  | .lst _ :: _, _, h => nomatch h
  | .tup _ :: _, _, h => nomatch h
  | .dct _ :: _, _, h => nomatch h
  | .seq _ :: _, _, h => nomatch h
  | .obj :: _, _, h => nomatch h
  | .rp _ :: _, _, h => nomatch h
theorem DqA.bols {K : PySem.W.Frag} {G : Hp} : ∀ {vs : List V} {bs : List Bool}, DqA K ja G vs (bs.map D.bl) → vs = bs.map V.bl
  | [], [], _ => rfl
  | _ :: _, [], h => nomatch h
  | [], _ :: _, h => nomatch h
  | v :: vs, n :: ns, h => by
    cases h with
    | cons h t =>
      cases h
      rw [DqA.bols t]
      rfl
def gAll : List D → Tr D
  | [.lst ds] => match bolsD ds with | some bs => .ret (.bl (bs.all id)) | none => .fail
  | _ => .fail
def gAny : List D → Tr D
  | [.lst ds] => match bolsD ds with | some bs => .ret (.bl (bs.any id)) | none => .fail
  | _ => .fail
theorem r_all : RCOk X jk ja (rAll X.K) gAll := fun G H vs ds Q b q h => by
  unfold gAll at h
  split at h
  · obtain ⟨v, rfl, q1⟩ := q.one
    obtain ⟨a, xs, rfl, e, t⟩ := q1.inv_lst
    split at h
    · rename_i bs hb
      rw [bolsD_eq hb] at t
      have := t.bols
      subst this
      exact ⟨a, bs, rfl, sq_of (b.ex _ _ e), h _ G H (Grow.refl b) (.bl _)⟩
    · exact h.elim
  · exact h.elim
theorem r_any : RCOk X jk ja (rAny X.K) gAny := fun G H vs ds Q b q h => by
  unfold gAny at h
  split at h
  · obtain ⟨v, rfl, q1⟩ := q.one
    obtain ⟨a, xs, rfl, e, t⟩ := q1.inv_lst
    split at h
    · rename_i bs hb
      rw [bolsD_eq hb] at t
      have := t.bols
      subst this
      exact ⟨a, bs, rfl, sq_of (b.ex _ _ e), h _ G H (Grow.refl b) (.bl _)⟩
    · exact h.elim
  · exact h.elim
def gSum : List D → Tr D
  | [.lst ds] => match intsD ds with | some ns => .ret (.int ns.sum) | none => .fail
  | _ => .fail
theorem r_sum : RCOk X jk ja (rSum X.K) gSum := fun G H vs ds Q b q h => by
  unfold gSum at h
  split at h
  · obtain ⟨v, rfl, q1⟩ := q.one
    obtain ⟨a, xs, rfl, e, t⟩ := q1.inv_lst
    split at h
    · rename_i ns hb
      rw [intsD_eq hb] at t
      have := t.ints
      subst this
      exact ⟨a, ns, rfl, sq_of (b.ex _ _ e), h _ G H (Grow.refl b) (.int _)⟩
    · exact h.elim
  · exact h.elim
def topI : List Int → Int
  | [] => 0
  | [x] => x
  | x :: y :: r => if topI (y :: r) < x then x else topI (y :: r)
theorem topI_ge : ∀ (ns : List Int) (y : Int), y ∈ ns → y ≤ topI ns
  | [], y, h => by cases h
  | [x], y, h => by
    rw [List.mem_singleton.mp h]
    exact Int.le_refl _
  | x :: z :: r, y, h => by
    unfold topI
    rcases List.mem_cons.mp h with eq | h2
    · rw [eq]
      split <;> omega
    · have := topI_ge (z :: r) y h2
      split <;> omega
theorem topI_mem : ∀ (ns : List Int), ns ≠ [] → topI ns ∈ ns
  | [], h => absurd rfl h
  | [x], _ => List.mem_singleton.mpr rfl
  | x :: z :: r, _ => by
    unfold topI
    split
    · exact List.mem_cons_self ..
    · exact List.mem_cons_of_mem _ (topI_mem (z :: r) (List.cons_ne_nil _ _))
def gMax : List D → Tr D
  | [.lst ds] => match intsD ds with | some ns => if 0 < ns.length then .ret (.int (topI ns)) else .fail | none => .fail
  | [.int i, .int j] => .ret (.int (if j > i then j else i))
  | _ => .fail
theorem r_max : RCOk X jk ja (fun vs H Q => rMax X.K vs H Q ∨ ∃ i j, vs = [.int i, .int j] ∧ Q (.int (if j > i then j else i)) H) gMax := fun G H vs ds Q b q h => by
  unfold gMax at h
  split at h
  · obtain ⟨v, rfl, q1⟩ := q.one
    obtain ⟨a, xs, rfl, e, t⟩ := q1.inv_lst
    split at h
    · rename_i ns hb
      obtain ⟨hl, h⟩ := ite_all h
      rw [intsD_eq hb] at t
      have := t.ints
      subst this
      refine .inl ⟨a, ns, rfl, sq_of (b.ex _ _ e), hl, fun m hm hy => ?_⟩
      have e1 : m = topI ns := Int.le_antisymm (topI_ge ns m hm) (hy _ (topI_mem ns (fun z => by rw [z] at hl; cases hl)))
      rw [e1]
      exact h _ G H (Grow.refl b) (.int _)
    · exact h.elim
  · obtain ⟨v, w, rfl, q1, q2⟩ := q.two
    cases q1.inv_int
    cases q2.inv_int
    exact .inr ⟨_, _, rfl, h _ G H (Grow.refl b) (.int _)⟩
  · exact h.elim
theorem call_maxLI (hc : X.calm = true) : CallR X (.builtin "max") (fun vs H Q => rMax X.K vs H Q ∨ ∃ i j, vs = [.int i, .int j] ∧ Q (.int (if j > i then j else i)) H) := by
  intro pn s σ H vs us Q I r h
  rcases h with h | h
  · exact cr_max hc pn s σ H vs us Q I r h
  · exact call_max2 hc pn s σ H vs us Q I r h
def gDivmod : List D → Tr D
  | [.int i, .int j] => if 0 < j ∧ j < 1073741824 then .ret (.tup [.int (i / j), .int (i % j)]) else .fail
  | _ => .fail
theorem r_divmod : RCOk X jk ja (fun xs H Q => ∃ i j, xs = [.int i, .int j] ∧ CDiv i j ∧ ∀ p, H p = none → Q (.ref p) (upd H p (.tup [.int (i / j), .int (i % j)]))) gDivmod := fun G H vs ds Q b q h => by
  unfold gDivmod at h
  split at h
  · obtain ⟨v, w, rfl, q1, q2⟩ := q.two
    cases q1.inv_int
    cases q2.inv_int
    obtain ⟨hj, h⟩ := ite_all h
    exact ⟨_, _, rfl, hj, fun p hp => h _ _ _ (Grow.new b hp) (.tup (st_of upd_same) (.cons (.int _) (.cons (.int _) .nil)))⟩
  · exact h.elim
end
end Pd
set_option maxHeartbeats 4100000
/-! d.get(k, x); name = x.pop(). -/
namespace Pd
open PySem PySem.Spec L2 Evl
open PyProof.Rows hiding St
section
variable {X : Cx} {jk : JarK} {ja : JA} {e a b c o f : Expr} {es rest : List Expr} {me ma mb mc md mx : MC} {pos p2 apos cpos : Pos} {k : Nat}
theorem valV_zipN {K : PySem.W.Frag} {G : Hp} {k : Key} : ∀ {ks : List Key} {vs : List V} {ds : List D}, ks.length = ds.length → DqA K ja G vs ds → (ks.zip ds).find? (fun p => decide (p.1 = k)) = none → valV (ks.zip vs) k = none
  | [], vs, ds, hl, t, h => rfl
  | k0 :: ks, [], [], hl, .nil, h => by simp at hl
  | k0 :: ks, v :: vs, d :: ds, hl, .cons q t, h => by
    rw [List.zip_cons_cons, List.find?_cons] at h
    by_cases hk : k0 = k
    · rw [show decide ((k0, d).1 = k) = true from decide_eq_true hk] at h
      cases h
    · rw [show decide ((k0, d).1 = k) = false from decide_eq_false hk] at h
      rw [List.zip_cons_cons, valV_neg hk]
      exact valV_zipN (by simpa using hl) t h
def getD2 (d y z : D) : Tr D := match d, keyD y with
  | .dct kvs, some k => match kvs.find? fun p => decide (p.1 = k) with | some p => .ret p.2 | none => .ret z
  | _, _ => .fail
def isDct : D → Tr D
  | .dct kvs => .ret (.dct kvs)
  | _ => .fail
def mGet2 (md me mx : MC) : MC := fun ρ => (md ρ).bind fun d => (isDct d).bind fun d => (me ρ).bind fun y => (mx ρ).bind fun z => getD2 d y z
theorem eok_get2 (hu : X.A.units + 1 < cLine) (ho : EOk X jk ja o md) (he : EOk X jk ja e me) (hf : EOk X jk ja f mx) (m : M2 X o "get" apos e f cpos) : EOk X jk ja (.Call (.Attribute o "get" apos) [e, f] [] cpos) (mGet2 md me mx) :=
  EOk.by (pe_dget2 hu pe_sem pe_sem pe_sem m) fun ρ σ G H Q bs s h => ho ρ σ G H _ bs s (Tr.all_mono (Tr.all_bind h) fun d0 h0 v G1 H1 g1 q1 => by
    have h0 := Tr.all_bind h0
    unfold isDct at h0
    split at h0
    · rename_i kvs _
      generalize hd : D.dct kvs = d at q1
      cases q1 with
      | dct e0 l t =>
        cases hd
        refine ⟨_, rfl, .inl ⟨_, .inl ((bs.grow g1).ex _ _ e0)⟩, ?_⟩
        refine he ρ σ G1 H1 _ (bs.grow g1) (s.mono g1.g) (Tr.all_mono (Tr.all_bind h0) fun yd h1 y G2 H2 g2 q2 => ?_)
        have g12 := g1.trans g2
        refine hf ρ σ G2 H2 _ (bs.grow g12) (s.mono g12.g) (Tr.all_mono (Tr.all_bind h1) fun zd h2 z G3 H3 g3 q3 => ?_)
        have g13 := g12.trans g3
        have b3 := bs.grow g13
        have e3 := b3.ex _ _ (g3.g _ _ (g2.g _ _ e0))
        unfold getD2 at h2
        split at h2
        · rename_i kvs2 k hdd hk
          cases hdd
          have hky := keyD_of (q2.mono g3.g) hk
          split at h2
          · rename_i p hp
            obtain ⟨w, w1, w2⟩ := valV_zip l (t.mono (g2.g.trans g3.g)) hp
            exact ⟨some w, .inl ⟨_, k, .inl e3, hky, w1.symm⟩, h2 w G3 H3 g13 w2⟩
          · rename_i hp
            have w1 := valV_zipN (k := k) l (t.mono (g2.g.trans g3.g)) hp
            exact ⟨none, .inl ⟨_, k, .inl e3, hky, w1.symm⟩, h2 z G3 H3 g13 q3⟩
        · exact h2.elim
      | _ => cases hd
    · exact h0.elim)
end
end Pd
set_option maxHeartbeats 4100000
/-! target = x.pop(), x an own list. -/
namespace Pd
open PySem PySem.Spec L2 Evl
open PyProof.Rows hiding St
section
variable {X : Cx} {jk : JarK} {ja : JA} {pos : Pos}
theorem DqA.dropLast {K : PySem.W.Frag} {G : Hp} {xs : List V} {ds : List D} (t : DqA K ja G xs ds) : DqA K ja G xs.dropLast ds.dropLast := by
  rw [List.dropLast_eq_take, List.dropLast_eq_take, t.length]
  exact t.take _
def mPop (p : Pt) (i : Nat) : MS := fun ρ => match ρ[i]? with
  | some (.own ds) => match ds[ds.length - 1]? with
    | some d => match p.to d with
      | some as => .ret (.nx (setS (ρ.set i (.own ds.dropLast)) as))
      | none => .fail
    | none => .fail
  | _ => .fail
theorem sok_pop (i : Nat) {x : Str} {px pa pc : Pos} {tg : Expr} {p : Pt} (hp : PE X (.Call (.Attribute (.Name x px) "pop" pa) [] [] pc) (tBM0 X.K "list" rPop (tVar i))) (hg : GOk X jk ja tg p)
    (hs : swapsWithSole [tg] (.Call (.Attribute (.Name x px) "pop" pa) [] [] pc) pos.line X.env = pure false := by rfl) (hw : swappedStores [tg] (.Call (.Attribute (.Name x px) "pop" pa) [] [] pc) X.env = pure none := by rfl)
    (h1 : (assignEach [tg] X.env).map (·.2) = [assign tg X.env] := by rfl) : SOk X jk ja (.Assign [tg] (.Call (.Attribute (.Name x px) "pop" pa) [] [] pc) pos) (mPop p i) :=
  SOk.by (ps_asg hp pg_sem hs hw h1) fun ρ σ G0 H0 Gm G H D b0 s h => by
    unfold mPop at h
    split at h
    · rename_i ds hi
      obtain ⟨a, xs, q1, q2, q3, q4, q5⟩ := s.own i ds hi
      split at h
      · rename_i d hd
        split at h
        · rename_i as eto
          obtain ⟨v, hv, qv⟩ := q5.get hd
          rw [← q5.length] at hv
          refine ⟨.ref a, q1, .inl ⟨rfl, xs, sq_of q4⟩, a, xs, v, rfl, rfl, q4, hv, ?_⟩
          have s2 := s.setO (xs := xs.dropLast) (ds := ds.dropLast) b0 i q2 q3 q5.dropLast (own_sep s hi q1)
          rw [set_self q1] at s2
          exact hg v d as σ G _ _ (s2.base b0) qv eto fun bs pb => h _ G _ (s2.setsV pb)
        · exact h.elim
      · exact h.elim
    · exact h.elim
end
end Pd
set_option maxHeartbeats 4100000
/-! A module's constants. -/
namespace Pd
open PySem PySem.Spec L2 Evl
open PyProof.Rows hiding St
/-- the module's name x holds the data d -/
def GC (K : PySem.W.Frag) (mg : Str → Option Value) (x : Str) (d : D) : Prop := ∃ v u, mg x = some u ∧ RelV v u ∧ ∀ ja G, Dq K ja G v d
theorem GC.ofInt {K : PySem.W.Frag} {mg : Str → Option Value} {x : Str} {i : Int} {t : Tok} (h : mg x = some (.int i t)) : GC K mg x (.int i) := ⟨.int i, _, h, ⟨t, rfl⟩, fun _ _ => .int i⟩
theorem GC.ofStr {K : PySem.W.Frag} {mg : Str → Option Value} {x y : Str} {t : Tok} (h : mg x = some (.str y t)) : GC K mg x (.str y) := ⟨.str y, _, h, ⟨t, rfl⟩, fun _ _ => .str y⟩
theorem GC.ofTup {K : PySem.W.Frag} {mg : Str → Option Value} {x : Str} {a : Addr} {o : Obj} {its : Array Value} {n : Nat} {xs : List V} {ds : List D} (h : mg x = some (.ref a)) (l : K.lookup a = some o) (c : o.cls = .type "tuple") (e : o.data = .seq its n) (hz : its.size ≤ sizeLine) (r : Vals xs its.toList)
    (q : ∀ ja G, DqA K ja G xs ds) : GC K mg x (.tup ds) := ⟨.ref a, _, h, rfl, fun ja G => .tup (.inr ⟨o, its, n, l, c, e, hz, r⟩) (q ja G)⟩
section
variable {X : Cx} {jk : JarK} {ja : JA} {pos : Pos}
theorem eok_gc {x : Str} {d : D} (hg : Gl X x) (c : GC X.K X.mg x d) (hd : (x == ("__debug__" : Str)) = false := by decide) : EOk X jk ja (.Name x pos) (mC d) := by
  obtain ⟨v, u, h, r, q⟩ := c
  exact EOk.by (pe_glob hg h r hd) fun ρ σ G H Q b s hh => hh v G H (Grow.refl b) (q ja G)
end
end Pd
set_option maxHeartbeats 4100000
/-! xs[::-1] of a list. -/
namespace Pd
open PySem PySem.Spec L2 Evl
open PyProof.Rows hiding St
section
variable {X : Cx} {jk : JarK} {ja : JA} {e : Expr} {me : MC} {p1 p2 p3 pos : Pos} {k : Nat}
theorem DqA.reverse {K : PySem.W.Frag} {G : Hp} : ∀ {xs : List V} {ds : List D}, DqA K ja G xs ds → DqA K ja G xs.reverse ds.reverse
  | _, _, .nil => .nil
  | _, _, .cons (v := v) (d := d) r t => by
    rw [List.reverse_cons, List.reverse_cons]
    exact t.reverse.append (.cons r .nil)
def revD : D → Tr (List D)
  | .lst ds => .ret ds.reverse
  | .seq ds => .ret ds.reverse
  | _ => .fail
def mRev (me : MC) : ML := fun ρ => (me ρ).bind revD
theorem lok_rev (he : EOk X jk ja e me) : LOk X jk ja (.Subscript e (.Slice none none (some (.UnaryOp .USub (.Constant (.int 1) k p1) p2)) p3) pos) (mRev me) :=
  LOk.by (pe_revL pe_sem) fun ρ σ G H Q bs s h => he ρ σ G H _ bs s (Tr.all_mono (Tr.all_bind h) fun d hd v G1 H1 g1 q => by
    have b1 := bs.grow g1
    have fr : ∀ z, H1 z = none → H z = none := fun z hz => by
      cases e0 : H z with
      | none => rfl
      | some o => exact absurd hz (g1.some (by rw [e0]; exact fun y => nomatch y))
    unfold revD at hd
    split at hd
    · obtain ⟨a, xs, rfl, e, t⟩ := q.inv_lst
      exact ⟨a, xs, rfl, sq_of (b1.ex _ _ e), fun z hz => hd z _ G1 _ (g1.trans (Grow.newX b1 hz)) (fr z hz) (b1.free hz) upd_same t.reverse⟩
    · obtain ⟨a, xs, rfl, e, t⟩ := q.inv_seq
      exact ⟨a, xs, rfl, ex_l b1.ex e, fun z hz => hd z _ G1 _ (g1.trans (Grow.newX b1 hz)) (fr z hz) (b1.free hz) upd_same t.reverse⟩
    · exact hd.elim)
end
end Pd
set_option maxHeartbeats 4100000
/-! x.append(y.pop(e)), both own lists. -/
namespace Pd
open PySem PySem.Spec L2 Evl
open PyProof.Rows hiding St
section
variable {X : Cx} {jk : JarK} {ja : JA} {e : Expr} {me : MC} {pos : Pos}
theorem DqA.eraseIdx {K : PySem.W.Frag} {G : Hp} : ∀ {xs : List V} {ds : List D} (k : Nat), DqA K ja G xs ds → DqA K ja G (xs.eraseIdx k) (ds.eraseIdx k)
  | _, _, _, .nil => .nil
  | _, _, 0, .cons r t => t
  | _, _, k + 1, .cons r t => .cons r (t.eraseIdx k)
def mAppPop (i j : Nat) (rd : List Nat) (me : MC) : MS := fun ρ => (me (view (frz ρ rd))).bind fun d => match d, ρ[i]?, ρ[j]? with
  | .int n, some (.own ds), some (.own es) => if 0 ≤ n ∧ n < 2 ^ 63 ∧ ds.length < sizeLine then match es[n.toNat]? with
      | some d => .ret (.nx ((ρ.set j (.own (es.eraseIdx n.toNat))).set i (.own (ds ++ [d]))))
      | none => .fail
    else .fail
  | _, _, _ => .fail
theorem sok_appPop (i j : Nat) (rd : List Nat) {x y : Str} {px py pa pb pc pd : Pos} (hij : i ≠ j) (he : EOk X jk ja e me)
    (hp : PE X (.Call (.Attribute (.Name x px) "append" pa) [.Call (.Attribute (.Name y py) "pop" pb) [e] [] pd] [] pc) (tBM X.K "list" rAppend (tVar i) (tCons (tBM X.K "list" rPopAt (tVar j) (tCons (sem X e) tNil)) tNil)))
    (hs : swapsWith (.Call (.Attribute (.Name x px) "append" pa) [.Call (.Attribute (.Name y py) "pop" pb) [e] [] pd] [] pc) none pos.line X.env = pure false := by rfl) :
    SOk X jk ja (.Expr (.Call (.Attribute (.Name x px) "append" pa) [.Call (.Attribute (.Name y py) "pop" pb) [e] [] pd] [] pc) pos) (mAppPop i j rd me) :=
  SOk.by (ps_expr hp hs) fun ρ σ G0 H0 Gm G H D b0 s h => by
    obtain ⟨G1, e1, s1⟩ := s.frz b0 rd
    have h' := Tr.all_bind h
    by_cases hi : ∃ ds, ρ[i]? = some (.own ds)
    · by_cases hj : ∃ es, ρ[j]? = some (.own es)
      · obtain ⟨ds, hi⟩ := hi
        obtain ⟨es, hj⟩ := hj
        rw [hi, hj] at h'
        obtain ⟨p, xs, p1, p2, p3, p4, p5⟩ := s.own i ds hi
        obtain ⟨q, ys, q1, q2, q3, q4, q5⟩ := s.own j es hj
        have pq : p ≠ q := fun z => s.sep i j ds es hij hi hj (by rw [p1, q1, z])
        refine ⟨.ref p, p1, .inl ⟨rfl, xs, sq_of p4⟩, .ref q, q1, .inl ⟨rfl, ys, sq_of q4⟩, he _ σ G1 H _ (s1.base b0) s1.sl (Tr.all_mono h' fun d hd v G2 H2 g2 qv => ?_)⟩
        split at hd
        · rename_i n ds' es' e3 e4
          cases e3
          cases e4
          cases qv.inv_int
          obtain ⟨hc, hd⟩ := ite_all hd
          split at hd
          · rename_i d hdd
            have s2 := s.step b0 (g2.drop e1)
            obtain ⟨q', ys', r1, r2, r3, r4, r5⟩ := s2.own j _ hj
            have eq : q' = q := by rw [r1] at q1; cases q1; rfl
            subst eq
            obtain ⟨w, hw, qw⟩ := r5.get hdd
            have hlt : n.toNat < ys'.length := getElem?_lt hw
            refine ⟨q', ys', n, n.toNat, w, rfl, rfl, r4, by omega, hc.2.1, ?_, hw, ?_⟩
            · have e5 : (if n < 0 then n + (ys'.length : Int) else n) = n := if_neg (by omega)
              show (if (decide (0 ≤ if n < 0 then n + (ys'.length : Int) else n) && decide ((if n < 0 then n + (ys'.length : Int) else n) < (ys'.length : Int))) = true then some (if n < 0 then n + (ys'.length : Int) else n).toNat else none) = some n.toNat
              rw [e5, if_pos]
              rw [decide_eq_true hc.1, decide_eq_true (show n < (ys'.length : Int) by omega)]
              rfl
            have s3 := s2.setO (xs := ys'.eraseIdx n.toNat) (ds := _) b0 j r2 r3 (r5.eraseIdx n.toNat) (own_sep s2 hj r1)
            rw [set_self r1] at s3
            have hi3 : (ρ.set j (.own (es.eraseIdx n.toNat)))[i]? = some (.own ds) := by rw [List.getElem?_set_ne hij.symm]; exact hi
            obtain ⟨p', xs', t1, t2, t3, t4, t5⟩ := s3.own i _ hi3
            have ep : p' = p := by rw [t1] at p1; cases p1; rfl
            subst ep
            refine ⟨p', xs', w, rfl, rfl, t4, by rw [t5.length]; exact hc.2.2, ?_⟩
            have s4 := s3.setO (xs := xs' ++ [w]) (ds := ds ++ [d]) b0 i t2 t3 (t5.append (.cons qw .nil)) (own_sep s3 hi3 t1)
            rw [set_self t1] at s4
            exact hd _ G _ s4
          · exact hd.elim
        · exact hd.elim
      · exact (no_all' (Tr.all_mono h' (P' := fun _ => False) fun d hd => by
          split at hd
          · rename_i e3
            exact hj ⟨_, e3⟩
          · exact hd.elim)).elim
    · exact (no_all' (Tr.all_mono h' (P' := fun _ => False) fun d hd => by
        split at hd
        · rename_i e3 _
          exact hi ⟨_, e3⟩
        · exact hd.elim)).elim
end
end Pd
set_option maxHeartbeats 4100000
/-! reversed(x) walked, math.gcd, x.pop() alone. -/
namespace Pd
open PySem PySem.Spec L2 Evl
open PyProof.Rows hiding St
section
variable {X : Cx} {jk : JarK} {ja : JA} {e a : Expr} {es : List Expr} {me ma : MC} {pos p : Pos} {x : Str}
theorem walk_revT {K : PySem.W.Frag} {a : Addr} {xs : List V} : Walk (RT.ItvT K a xs.length) xs.length (fun H => SqT K H a xs) (fun i H x H' => H' = H ∧ xs[xs.length - 1 - i]? = some x) :=
  ⟨fun i _ hi q => ⟨hi, xs, xs[xs.length - 1 - i]'(by omega), q, by simp [show xs.length - 1 - i < xs.length by omega]⟩, fun _ _ => Nat.le_refl _, fun _ _ _ _ _ q y => ⟨y.1, y.2 xs q⟩⟩
theorem walkD_rev {J : It} {G : Hp} {xs : List V} {ds : List D} {Gp : Hp → Prop} (w : Walk J ds.length Gp (fun i H x H' => H' = H ∧ xs[xs.length - 1 - i]? = some x)) (hG : ∀ G1 H1, Ex G G1 → Ex G1 H1 → Gp H1) (hd : DqA X.K ja G xs ds) : WalkD X jk ja J G ds.reverse :=
  ⟨Gp, _, by rw [List.length_reverse]; exact w, hG, fun i d H1 x H2 G1 hi e b y => by
    obtain ⟨rfl, hx⟩ := y
    have hlt := getElem?_lt hi
    rw [List.length_reverse] at hlt
    rw [List.getElem?_reverse hlt] at hi
    obtain ⟨v, hv, q⟩ := hd.get hi
    rw [hd.length, hv] at hx
    cases hx
    exact ⟨G1, Grow.refl b, q.mono e⟩⟩
def iRevM (m : MC) : ML := fun ρ => (m ρ).bind fun d => (asL d).bind fun ds => .ret ds.reverse
theorem iok_rev {tg : Expr} (hg : Gl X "reversed") (hm : X.mg "reversed" = none) (ha : EOk X jk ja a ma) (hs : starEach [a] X.env = (false, eval a X.env) :: starEach [] X.env := by rfl) : IOk X jk ja tg (.Call (.Name "reversed" p) [a] [] pos) (iRevM ma) := fun ρ σ G H R bs s h pn st I =>
  (RT.pi_revA (tg := tg) hg hm (pe_sem (X := X) (e := a)) hs).run pn st σ H R I (ha ρ σ G H _ bs s (Tr.all_mono (Tr.all_bind h) fun d hd v G1 Hb g1 q => by
    cases q with
    | lst e t => exact ⟨_, _, rfl, .inl ⟨sq_of (g1.ex _ _ e), hd (Itv X.K _ _) G1 Hb g1 (walkD_rev (by rw [← t.length]; exact walk_rev) (fun G2 H2 e1 e2 => sq_of (e2 _ _ (e1 _ _ e))) t)⟩⟩
    | seq e t => exact ⟨_, _, rfl, .inl ⟨ex_l g1.ex e, hd (Itv X.K _ _) G1 Hb g1 (walkD_rev (by rw [← t.length]; exact walk_rev) (fun G2 H2 e1 e2 => ex_l (e1.trans e2) e) t)⟩⟩
    | tup e t => exact ⟨_, _, rfl, .inr ⟨ex_t g1.ex e, hd (RT.ItvT X.K _ _) G1 Hb g1 (walkD_rev (by rw [← t.length]; exact walk_revT) (fun G2 H2 e1 e2 => ex_t (e1.trans e2) e) t)⟩⟩
    | _ => exact hd.elim))
def gGcd : List D → Tr D
  | [.int i, .int j] => .ret (.int ((Nat.gcd i.natAbs j.natAbs : Nat) : Int))
  | _ => .fail
theorem r_gcd : RCOk X jk ja rGcd gGcd := fun G H vs ds Q b q h => by
  unfold gGcd at h
  split at h
  · obtain ⟨v, u, rfl, q1, q2⟩ := q.two
    cases q1.inv_int
    cases q2.inv_int
    exact ⟨_, _, rfl, h _ G H (Grow.refl b) (.int _)⟩
  · exact h.elim
/-- a built-in function by a name of the module -/
theorem eok_bfun {id : String} {r : List V → Hp → VK → Prop} {g : List D → Tr D} {ml : ML} (hc : CallR X (.builtin id) r) (hr : RCOk X jk ja r g) (hg : Gl X x) (hm : X.mg x = some (.builtin id)) (ha : AOk X jk ja (a :: es) ml) (hdb : (x == ("__debug__" : Str)) = false := by decide)
    (he : starEach (a :: es) X.env = (false, eval a X.env) :: starEach es X.env := by rfl) (hpl : (backTo pos (starEach es X.env)).any (·.1) = false := by rfl) : EOk X jk ja (.Call (.Name x p) (a :: es) [] pos) (mCall g ml) :=
  EOk.by (pe_callBfun hc hg hm pa_sem hdb he hpl) fun ρ σ G H Q bs s h => ha ρ σ G H _ bs s (Tr.all_mono (Tr.all_bind h) fun ds hd vs G1 H1 g1 q => hr G1 H1 vs ds Q (bs.grow g1) q (Tr.all_mono hd fun _ z => z.later g1))
def mPopS (i : Nat) : MS := fun ρ => match ρ[i]? with
  | some (.own ds) => match ds[ds.length - 1]? with
    | some _ => .ret (.nx (ρ.set i (.own ds.dropLast)))
    | none => .fail
  | _ => .fail
theorem sok_popS (i : Nat) {x : Str} {px pa pc : Pos} (hp : PE X (.Call (.Attribute (.Name x px) "pop" pa) [] [] pc) (tBM0 X.K "list" rPop (tVar i)))
    (hs : swapsWith (.Call (.Attribute (.Name x px) "pop" pa) [] [] pc) none pos.line X.env = pure false := by rfl) : SOk X jk ja (.Expr (.Call (.Attribute (.Name x px) "pop" pa) [] [] pc) pos) (mPopS i) :=
  SOk.by (ps_expr hp hs) fun ρ σ G0 H0 Gm G H D b0 s h => by
    unfold mPopS at h
    split at h
    · rename_i ds hi
      obtain ⟨a, xs, q1, q2, q3, q4, q5⟩ := s.own i ds hi
      split at h
      · rename_i d hd
        obtain ⟨v, hv, qv⟩ := q5.get hd
        rw [← q5.length] at hv
        refine ⟨.ref a, q1, .inl ⟨rfl, xs, sq_of q4⟩, a, xs, v, rfl, rfl, q4, hv, ?_⟩
        have s2 := s.setO (xs := xs.dropLast) (ds := ds.dropLast) b0 i q2 q3 q5.dropLast (own_sep s hi q1)
        rw [set_self q1] at s2
        exact h _ G _ s2
      · exact h.elim
    · exact h.elim
end
end Pd
set_option maxHeartbeats 410000
/-! What a meaning without draws comes to: equations, step by step. -/
namespace Pd
open PySem PySem.Spec L2 Evl
open PyProof.Rows hiding St
theorem asg_ret {i : Nat} {rd : List Nat} {me : MC} {ρ : SE} {d : D} (h : me (view (frz ρ rd)) = .ret d) : mAsg i rd me ρ = .ret (.nx ((frz ρ rd).set i (.val d))) := by
  show (me (view (frz ρ rd))).bind _ = _
  rw [h]
  rfl
theorem ret_ret {rd : List Nat} {me : MC} {ρ : SE} {d : D} (h : me (view (frz ρ rd)) = .ret d) : mRet rd me ρ = .ret (.rt d) := by
  show (me (view (frz ρ rd))).bind _ = _
  rw [h]
  rfl
theorem def_ret {n nN : Nat} {m : MS} {ds : List D} {d : D} (hn : ds.length = n) (h : m (startE nN ds) = .ret (.rt d)) : defG n nN m ds = .ret d := by
  have e : defG n nN m ds = runC nN m ds := if_pos hn
  rw [e]
  show (m (startE nN ds)).bind _ = _
  rw [h]
  rfl
theorem unp_ret {p : Pt} {rd : List Nat} {me : MC} {ρ : SE} {d : D} {as : List (Nat × D)} (h : me (view (frz ρ rd)) = .ret d) (e : p.to d = some as) : mUnp p rd me ρ = .ret (.nx (setS (frz ρ rd) as)) := by
  show (me (view (frz ρ rd))).bind _ = _
  rw [h]
  show (match p.to d with | some as => Tr.ret (Out.nx (setS (frz ρ rd) as)) | none => .fail) = _
  rw [e]
theorem par_ret {i j : Nat} {rd : List Nat} {ma mb : MC} {ρ : SE} {d e : D} (h1 : ma (view (frz ρ rd)) = .ret d) (h2 : mb (view (frz ρ rd)) = .ret e) : mPar i j rd (.v ma) (.v mb) ρ = .ret (.nx (((frz ρ rd).set i (.val d)).set j (.val e))) := by
  show (((ma (view (frz ρ rd))).bind fun d => Tr.ret ((frz ρ rd).set i (.val d))).bind fun ρ1 => ((mb (view (frz ρ rd))).bind fun d => Tr.ret (ρ1.set j (.val d))).bind fun ρ2 => Tr.ret (Out.nx ρ2)) = _
  rw [h1, h2]
  rfl
theorem cons_ret {ma : MC} {ml : ML} {ρ : VE} {d : D} {ds : List D} (h1 : ma ρ = .ret d) (h2 : ml ρ = .ret ds) : mCons ma ml ρ = .ret (d :: ds) := by
  show (ma ρ).bind _ = _
  rw [h1]
  show (ml ρ).bind _ = _
  rw [h2]
  rfl
theorem small_le {n : Nat} (h : n ≤ 1000) : n ≤ sizeLine := Nat.le_trans h (by decide)
theorem tup_ret {ml : ML} {ρ : VE} {ds : List D} (h : ml ρ = .ret ds) (hl : ds.length ≤ 1000) : mTup ml ρ = .ret (.tup ds) := by
  show (ml ρ).bind _ = _
  rw [h]
  exact if_pos (small_le hl)
theorem ofL_ret {ml : ML} {ρ : VE} {ds : List D} (h : ml ρ = .ret ds) : mOfL ml ρ = .ret (.lst ds) := by
  show (ml ρ).bind _ = _
  rw [h]
  rfl
theorem lst_ret {ml : ML} {ρ : VE} {ds : List D} (h : ml ρ = .ret ds) (hl : ds.length ≤ 1000) : mLst ml ρ = .ret ds := by
  show (ml ρ).bind _ = _
  rw [h]
  exact if_pos (small_le hl)
theorem test_ret {m : MC} {ρ : VE} {c : Bool} (h : m ρ = .ret (.bl c)) : mTest m ρ = .ret c := by
  show (m ρ).bind _ = _
  rw [h]
  rfl
theorem and_ret {mt mu : MT} {ρ : VE} {c : Bool} (h : mt ρ = .ret c) : mAnd mt mu ρ = if c = true then mu ρ else .ret false := by
  show (mt ρ).bind _ = _
  rw [h]
  rfl
theorem drop1 {α : Type} (xs : List α) : cutD xs (some 1) none = xs.drop 1 := by
  unfold cutD
  rw [show HT.sIx xs.length 0 (some 1) = min 1 xs.length from HT.sIx_nat _ _ 1, HT.sIx_none]
  cases xs with
  | nil => rfl
  | cons x xs =>
    rw [List.length_cons, Nat.min_eq_left (by omega), List.drop_one, List.tail_cons, Nat.add_sub_cancel, List.take_length]
theorem if_ret {mt : MT} {ma mb : MC} {ρ : VE} {c : Bool} (h : mt ρ = .ret c) : mIf mt ma mb ρ = if c = true then ma ρ else mb ρ := by
  show (mt ρ).bind _ = _
  rw [h]
  rfl
theorem for_ret {p : Pt} {rd : List Nat} {mi : ML} {mB : MS} {ds : List D} {ρ : SE} (hi : mi (view (frz ρ rd)) = .ret ds) : mFor p rd mi mB ρ = forF p mB ds (frz ρ rd) := by
  show (mi (view (frz ρ rd))).bind _ = _
  rw [hi]
  rfl
/-- a walk without draws: I by what has been walked -/
theorem for_eq {α : Type} (emb : α → D) {p : Pt} {mB : MS} (I : List α → SE → Prop) (xs : List α) (h : ∀ pre x post ρ, xs = pre ++ x :: post → I pre ρ → ∃ as ρ', p.to (emb x) = some as ∧ mB (setS ρ as) = .ret (.nx ρ') ∧ I (pre ++ [x]) ρ') :
    ∀ post pre ρ, xs = pre ++ post → I pre ρ → ∃ ρ', forF p mB (post.map emb) ρ = .ret (.nx ρ') ∧ I xs ρ'
  | [], pre, ρ, e, i => ⟨ρ, rfl, by rw [e, List.append_nil]; exact i⟩
  | x :: post, pre, ρ, e, i => by
    obtain ⟨as, ρ1, e1, e2, i1⟩ := h pre x post ρ e i
    obtain ⟨ρ2, e3, i2⟩ := for_eq emb I xs h post (pre ++ [x]) ρ1 (by rw [e, List.append_assoc]; rfl) i1
    refine ⟨ρ2, ?_, i2⟩
    rw [List.map_cons]
    unfold forF
    rw [e1]
    show (mB (setS ρ as)).bind _ = _
    rw [e2]
    exact e3
theorem mul_ret {i j : Int} (h : CMulW i j) : fMul (.int i) (.int j) = .ret (.int (i * j)) := if_pos (decide_eq_true (show i.natAbs.log2 + j.natAbs.log2 < 1000000 from h))
theorem div_ret {i j : Int} (h : CDivW i j) : fDiv (.int i) (.int j) = .ret (.int (i / j)) := if_pos (by show (decide (0 < j) && decide (j.natAbs.log2 < 9000)) = true; rw [decide_eq_true h.1, decide_eq_true h.2]; rfl)
theorem add_ret {i j : Int} : fAdd (.int i) (.int j) = .ret (.int (i + j)) := rfl
theorem sub_ret {i j : Int} : fSub (.int i) (.int j) = .ret (.int (i - j)) := rfl
theorem while_stop {rd : List Nat} {mt : MT} {mB : MS} {n : Nat} {ρ : SE} (h : mt (view (frz ρ rd)) = .ret false) : whileF rd mt mB (n + 1) ρ = .ret (.nx ρ) := by
  show (mt (view (frz ρ rd))).bind _ = _
  rw [h]
  rfl
theorem while_go {rd : List Nat} {mt : MT} {mB : MS} {n : Nat} {ρ ρ' : SE} (h : mt (view (frz ρ rd)) = .ret true) (hb : mB ρ = .ret (.nx ρ')) : whileF rd mt mB (n + 1) ρ = whileF rd mt mB n ρ' := by
  show (mt (view (frz ρ rd))).bind _ = _
  rw [h]
  show (mB ρ).bind _ = _
  rw [hb]
  rfl
/-! ### sizes -/
theorem pow_le_of {d : Int} {b : Nat} (h : d.natAbs < 2 ^ b) : ∀ k : Nat, (d ^ k).natAbs ≤ 2 ^ (b * k)
  | 0 => by simp
  | k + 1 => by
    have ih := pow_le_of h k
    rw [Int.pow_succ, Int.natAbs_mul, Nat.mul_succ, Nat.pow_add]
    exact Nat.mul_le_mul ih (Nat.le_of_lt h)
theorem pow_lt_of {d : Int} {b : Nat} (h : d.natAbs < 2 ^ b) (k : Nat) : (d ^ k).natAbs < 2 ^ (b * k + 1) := by
  have := pow_le_of h k
  have : 2 ^ (b * k) < 2 ^ (b * k + 1) := Nat.pow_lt_pow_right (by decide) (Nat.lt_succ_self _)
  omega
theorem lt_pow_mono {x a b : Nat} (h : x < 2 ^ a) (k : a ≤ b) : x < 2 ^ b := Nat.lt_of_lt_of_le h (Nat.pow_le_pow_right (by decide) k)
theorem add_lt_pow {x y : Int} {a b c : Nat} (hx : x.natAbs < 2 ^ a) (hy : y.natAbs < 2 ^ b) (ha : a < c) (hb : b < c) : (x + y).natAbs < 2 ^ c := by
  obtain ⟨c, rfl⟩ : ∃ k, c = k + 1 := ⟨c - 1, by omega⟩
  have h1 := lt_pow_mono hx (Nat.lt_succ_iff.mp ha)
  have h2 := lt_pow_mono hy (Nat.lt_succ_iff.mp hb)
  have h3 := Int.natAbs_add_le x y
  rw [Nat.pow_succ]
  omega
end Pd
set_option maxHeartbeats 4100000
namespace K51
open PySem PySem.Spec L2 Evl Pd
open PyProof.Rows hiding St
def topS (i : Nat) : Stmt := PySem.Challenge.pw_drawnturns_k51_whole_polynomials_at_frac.main.body.getD i (.Pass ⟨0, 0, 0, 0⟩)
abbrev s_draw : Stmt := topS 9
theorem sc_draw : FnScope ["deck", "many", "great", "cell", "one"] ["deck", "many"] (defScope s_draw) := ⟨rfl, rfl, rfl, by decide +kernel, rfl, by decide +kernel, by decide +kernel⟩
def deckO (s t : Int) (q : Addr) : HO := .dK [(.inr (Str.ofString "great"), .ref q), (.inr (Str.ofString "seed"), .int s), (.inr (Str.ofString "turn"), .int t)]
def jk : JarK where
  J as os := ∃ p q s t ns, as = [p, q] ∧ p ≠ q ∧ ns.length ≤ 60 ∧ os = [some (deckO s t q), some (.lst (List.map V.int ns))]
  there as os h o ho := by
    obtain ⟨p, q, s, t, ns, _, _, _, rfl⟩ := h
    rcases List.mem_cons.mp ho with rfl | more
    · exact fun z => nomatch z
    · rw [List.mem_singleton.mp more]
      exact fun z => nomatch z
def g__law_draw : List D → Tr D
  | [.obj, .int m] => if m ≤ 10000000000000000000000000000000 then (if m < 2 then .ret (.int 0) else .draw m fun i => .ret (.int i)) else .fail
  | _ => .fail
def kws__law_draw : List (List Str × List Nat) := []
theorem canLay_ints : ∀ ns : List Int, PyData.canLayAll0 (ns.map PyData.int) = true
  | [] => rfl
  | n :: ns => by
    have := canLay_ints ns
    simp only [List.map_cons, PyData.canLayAll0, PyData.canLay0, Bool.and_eq_true, this]
    simp
theorem depth_ints : ∀ ns : List Int, PyData.depthAll (ns.map PyData.int) = 0
  | [] => rfl
  | n :: ns => by
    show max (PyData.depth (.int n)) (PyData.depthAll (ns.map PyData.int)) = 0
    rw [depth_ints ns]
    rfl
theorem shaped_ints (ns : List Int) : SeqAt.shaped (.list (ns.map PyData.int)) = true := by
  unfold SeqAt.shaped
  have h1 : PyData.canLay0 (.list (ns.map PyData.int)) = true := canLay_ints ns
  have h2 : PyData.depth (.list (ns.map PyData.int)) = 1 := by
    show PyData.depthAll (ns.map PyData.int) + 1 = 1
    rw [depth_ints]
  rw [h1, h2]
  rfl
theorem dp_ints {K : PySem.W.Frag} {H : Hp} : ∀ ns : List Int, DpAll K H (ns.map V.int) (ns.map PyData.int)
  | [] => .nil
  | n :: ns => .cons (.int n) (dp_ints ns)
section
variable {K : PySem.W.Frag} {mg : Str → Option Value} {base : Heap} {P : Program} {w : World}
theorem get_great {H : Hp} {p q : Addr} {s t : Int} (h : H p = some (deckO s t q)) : DGet H p (.str (Str.ofString "great")) (some (.ref q)) := .inl ⟨_, .inr _, .inl h, rfl, rfl⟩
theorem get_seed {H : Hp} {p q : Addr} {s t : Int} (h : H p = some (deckO s t q)) : DGet H p (.str (Str.ofString "seed")) (some (.int s)) := .inl ⟨_, .inr _, .inl h, rfl, rfl⟩
theorem get_turn {H : Hp} {p q : Addr} {s t : Int} (h : H p = some (deckO s t q)) : DGet H p (.str (Str.ofString "turn")) (some (.int t)) := .inl ⟨_, .inr _, .inl h, rfl, rfl⟩
theorem put_turn {H : Hp} {p q : Addr} {s t t' : Int} (h : H p = some (deckO s t q)) : DPut H p (.str (Str.ofString "turn")) (.int t') (upd H p (deckO s t' q)) := .inl ⟨_, .inr _, h, rfl, by show 3 < sizeLine; decide, rfl⟩
theorem draw_ok {f : Addr} {fd : FuncData} (F : Fun K "_law_draw" "_law_draw" s_draw f fd) (mi : mg "int" = none) : FnG P w K mg base 1 f fd ["deck", "many"] (spT K jk g__law_draw) := by
  refine bodyG F sc_draw (fun {vs H Q E} h => ?_) ?_
  · obtain ⟨ja, G, ds, b, q, h⟩ := h
    rw [q.length]
    match ds, h with
    | [.obj, .int m], h => rfl
  · intro cdv A outer s H vs Q E hA hr h
    obtain ⟨ja, G, ds, b, q, h⟩ := h
    have hu := hu_of hr
    refine ⟨_, pss_cons (ps_set (i := 2) sc_draw.nd rfl (.inl rfl) (pe_dget hu (pv 0) pe_str (fun _ _ => rfl))) (pss_cons (ps_if (pt_cmpR op_lt (pv 1) pe_int (nomark _)) (pss_one (ps_ret pe_int)) pss_nil)
      (pss_cons (ps_if (pt_cmpR (op_neD hr.units) (pv 2) (pe_lst pa_nil) (nomark _))
        (pss_cons (ps_set (i := 3) sc_draw.nd rfl (.inl rfl) (pe_bm0 PySem.F.plainAttrs_list PySem.F.slot_list_pop PySem.F.type_list_pop mt_pop (pv 2)))
        (pss_cons (ps_if (pt_cmpR op_ge (pv 3) (pv 1) (nomark _)) (pss_one (ps_expr (pe_bm PySem.F.plainAttrs_list PySem.F.slot_list_append PySem.F.type_list_append mt_append (pv 2) (pa_cons (pe_op op_fdivW (pv 3) (pv 1)) pa_nil)))) pss_nil)
        (pss_one (ps_ret (pe_op op_mod (pe_callTy call_int1 (by rfl) mi PyProof.Rows.boot_int (pa_cons (pv 3) pa_nil)) (pv 1)))))) pss_nil)
      (pss_cons (ps_dput hu (pv 0) pe_str (pe_op op_add (pe_dget hu (pv 0) pe_str (fun _ _ => rfl)) pe_int) rfl)
      (pss_cons (ps_set (i := 4) sc_draw.nd rfl (.inl rfl) (pe_op op_mod (pe_callTy call_int1 (by rfl) mi PyProof.Rows.boot_int (pa_cons (pe_op op_add (pe_dget hu (pv 0) pe_str (fun _ _ => rfl)) (pe_op op_mul pe_int (pe_dget hu (pv 0) pe_str (fun _ _ => rfl)))) pa_nil)) pe_int))
      (pss_cons (ps_set (i := 4) sc_draw.nd rfl (.inl rfl) (pe_op op_mod (pe_callTy call_int1 (by rfl) mi PyProof.Rows.boot_int (pa_cons (pe_op op_add (pe_op op_add (pe_op op_mul (pv 4) (pv 4)) (pe_op op_mul pe_int (pe_dget hu (pv 0) pe_str (fun _ _ => rfl)))) pe_int) pa_nil)) pe_int))
      (pss_cons (ps_set (i := 4) sc_draw.nd rfl (.inl rfl) (pe_op op_mod (pe_callTy call_int1 (by rfl) mi PyProof.Rows.boot_int (pa_cons (pe_op op_add (pe_op op_mul (pv 4) (pv 4)) (pe_dget hu (pv 0) pe_str (fun _ _ => rfl))) pa_nil)) pe_int))
      (pss_one (ps_ret (pe_op op_mod (pe_callTy call_int1 (by rfl) mi PyProof.Rows.boot_int (pa_cons (pe_op op_fdiv (pv 4) pe_int) pa_nil)) (pv 1)))))))))), ?_⟩
    match ds, q, h with
    | [.obj, .int m], q, h =>
      obtain ⟨hmz, h⟩ := ite_all h
      obtain ⟨v, u, rfl, q1, q2⟩ := q.two
      cases q2.inv_int
      obtain ⟨p, r, rfl, ej⟩ : ∃ p r, v = .ref p ∧ ja = some (p :: r) := by
        cases q1 with
        | obj ej => exact ⟨_, _, rfl, ej⟩
      obtain ⟨J, hG⟩ := b.jar _ ej
      obtain ⟨p', qa, sd, tn, ns, e1, hpq, h60, e2⟩ := J
      cases e1
      have e2 : [H p, H qa] = [some (deckO sd tn qa), some (.lst (ns.map V.int))] := e2
      injection e2 with hp e3
      injection e3 with hq _
      -- great = deck['great']
      refine ⟨.ref p, rfl, p, .ref qa, rfl, get_great hp, ?_⟩
      refine ⟨.int m, rfl, m, 2, rfl, rfl, _, rfl, ite2 (fun hlt => ?_) fun hge => ?_⟩
      · rw [if_pos (of_decide_eq_true hlt)] at h
        exact h (.int 0) G H (Grow.refl b) (.int 0)
      rw [if_neg (fun z => hge (decide_eq_true z))] at h
      obtain ⟨hm, h⟩ := h
      have fin : ∀ (H' : Hp) (s' t' : Int) (ns' : List Int), ns'.length ≤ 60 → H' p = some (deckO s' t' qa) → H' qa = some (.lst (ns'.map V.int)) → (∀ a o, H a = some o → a ≠ p → a ≠ qa → H' a = some o) → ∀ i, 0 ≤ i → i < m → Q (.int i) H' := by
        intro H' s' t' ns' h0 h1 h2 h3 i i0 i1
        refine h i i0 i1 (.int i) G H' ⟨Ex.refl G, fun a o e => ?_, fun _ _ => rfl, fun a o e n => ?_, fun as e => ?_⟩ (.int i)
        · refine h3 a o (b.ex a o e) (fun z => ?_) fun z => ?_
          · rw [z, hG p (by simp)] at e; cases e
          · rw [z, hG qa (by simp)] at e; cases e
        · exact h3 a o e (fun z => n ⟨_, ej, by rw [z]; simp⟩) fun z => n ⟨_, ej, by rw [z]; simp⟩
        · rw [ej] at e
          cases e
          exact ⟨p, qa, s', t', ns', rfl, hpq, h0, by show [H' p, H' qa] = _; rw [h1, h2]⟩
      obtain ⟨kk, hk⟩ : ∃ kk, (!PyData.eqv (.list (ns.map PyData.int)) (.list [])) = kk := ⟨_, rfl⟩
      -- great != []
      refine ⟨.ref qa, rfl, Nat.zero_le _, fun l hl => ?_⟩
      have lp : p ≠ l := ne_of_none hp hl
      have lq : qa ≠ l := ne_of_none hq hl
      have hp2 : upd H l (.lst []) p = some (deckO sd tn qa) := by rw [upd_ne lp]; exact hp
      have hq2 : upd H l (.lst []) qa = some (.lst (ns.map V.int)) := by rw [upd_ne lq]; exact hq
      have old2 : ∀ a o, H a = some o → upd H l (.lst []) a = some o := fun a o e => by rw [upd_ne (ne_of_none e hl)]; exact e
      refine ⟨.list (ns.map PyData.int), .list [], .lst (sq_of hq2) (dp_ints ns), .lst (sq_of upd_same) .nil, shaped_ints ns, by decide +kernel, kk, by rw [hk], ?_⟩
      generalize hH2 : upd H l (.lst []) = H2 at hp2 hq2 old2 ⊢
      rcases List.eq_nil_or_concat ns with rfl | ⟨ini, n, rfl⟩
      · cases kk with
        | true => cases hk
        | false =>
        refine iteF ?_
        -- deck['turn'] = deck['turn'] + 1
        refine ⟨.ref p, rfl, p, .int tn, rfl, get_turn hp2, tn, 1, rfl, rfl, .ref p, rfl, p, _, rfl, put_turn hp2, ?_⟩
        have hp3 : upd H2 p (deckO sd (tn + 1) qa) p = some (deckO sd (tn + 1) qa) := upd_same
        refine ⟨.ref p, rfl, p, _, rfl, get_seed hp3, .ref p, rfl, p, _, rfl, get_turn hp3, 2654435761, _, rfl, rfl, .inl ⟨by decide, by decide⟩, _, _, rfl, rfl, .inl ⟨_, rfl, _, 4294967279, rfl, rfl, (by show (0 : Int) < 4294967279; decide), ?_⟩⟩
        have b1 : 0 ≤ (sd + 2654435761 * (tn + 1)) % 4294967279 ∧ (sd + 2654435761 * (tn + 1)) % 4294967279 < 4294967279 := ⟨Int.emod_nonneg _ (by decide), Int.emod_lt_of_pos _ (by decide)⟩
        refine ⟨.int _, rfl, .int _, rfl, _, _, rfl, rfl, .inl ⟨Int.lt_of_lt_of_le (by decide) b1.1, Int.lt_trans b1.2 (by decide)⟩, .ref p, rfl, p, _, rfl, get_turn hp3, 97, _, rfl, rfl, .inl ⟨by decide, by decide⟩, _, _, rfl, rfl, _, 31, rfl, rfl, .inl ⟨_, rfl, _, 4294967231, rfl, rfl, (by show (0 : Int) < 4294967231; decide), ?_⟩⟩
        generalize hx1 : (sd + 2654435761 * (tn + 1)) % 4294967279 = x1
        have b2 : 0 ≤ (x1 * x1 + 97 * (tn + 1) + 31) % 4294967231 ∧ (x1 * x1 + 97 * (tn + 1) + 31) % 4294967231 < 4294967231 := ⟨Int.emod_nonneg _ (by decide), Int.emod_lt_of_pos _ (by decide)⟩
        refine ⟨.int _, rfl, .int _, rfl, _, _, rfl, rfl, .inl ⟨Int.lt_of_lt_of_le (by decide) b2.1, Int.lt_trans b2.2 (by decide)⟩, .ref p, rfl, p, _, rfl, get_seed hp3, _, _, rfl, rfl, .inl ⟨_, rfl, _, 4294967197, rfl, rfl, (by show (0 : Int) < 4294967197; decide), ?_⟩⟩
        refine ⟨.int _, rfl, _, 32, rfl, rfl, ⟨by decide, by decide⟩, .inl ⟨_, rfl, .int m, rfl, _, m, rfl, rfl, hm, ?_⟩⟩
        exact fin _ sd (tn + 1) [] (by decide) hp3 (by rw [upd_ne hpq.symm]; exact hq2) (fun a o e n1 n2 => by rw [upd_ne n1]; exact old2 a o e) _ (Int.emod_nonneg _ (by omega)) (Int.emod_lt_of_pos _ hm)
      · have kt : kk = true := by
          rw [← hk, List.concat_eq_append, List.map_append]
          cases ini <;> rfl
        subst kt
        refine iteT ?_
        have hq2 : H2 qa = some (.lst (ini.map V.int ++ [.int n])) := by rw [hq2, List.concat_eq_append, List.map_append]; rfl
        have lastx : (ini.map V.int ++ [V.int n])[(ini.map V.int ++ [V.int n]).length - 1]? = some (.int n) := by
          rw [List.length_append, List.length_singleton, Nat.add_sub_cancel, List.getElem?_append_right (Nat.le_refl _), Nat.sub_self]
          rfl
        have cut : (ini.map V.int ++ [V.int n]).dropLast = ini.map V.int := List.dropLast_concat
        -- cell = great.pop()
        refine ⟨.ref qa, rfl, .inl ⟨rfl, _, sq_of hq2⟩, qa, _, .int n, rfl, rfl, hq2, lastx, ?_⟩
        rw [cut]
        have hp3 : upd H2 qa (.lst (ini.map V.int)) p = some (deckO sd tn qa) := by rw [upd_ne hpq]; exact hp2
        have hq3 : upd H2 qa (.lst (ini.map V.int)) qa = some (.lst (ini.map V.int)) := upd_same
        have old3 : ∀ a o, H a = some o → a ≠ p → a ≠ qa → upd H2 qa (.lst (ini.map V.int)) a = some o := fun a o e n1 n2 => by rw [upd_ne n2]; exact old2 a o e
        refine ⟨.int n, rfl, .int m, rfl, n, m, rfl, rfl, _, rfl, ite2 (fun hle => ?_) fun hgt => ?_⟩
        · have hlen : (ini.map V.int).length < sizeLine := small1000 (by simp at h60 ⊢; omega)
          refine ⟨.ref qa, rfl, .inl ⟨rfl, _, sq_of hq3⟩, .int n, rfl, .int m, rfl, n, m, rfl, rfl, wide_div (b := 104) hm (by omega) (by decide) (by decide), qa, _, _, rfl, rfl, hq3, hlen, ?_⟩
          refine ⟨.int n, rfl, .inl ⟨n, rfl, .int m, rfl, n, m, rfl, rfl, hm, ?_⟩⟩
          exact fin _ sd tn (ini ++ [n / m]) (by simp at h60 ⊢; omega) (by rw [upd_ne hpq]; exact hp3) (by rw [upd_same, List.map_append]; rfl) (fun a o e n1 n2 => by rw [upd_ne n2]; exact old3 a o e n1 n2) _ (Int.emod_nonneg _ (by omega)) (Int.emod_lt_of_pos _ hm)
        · refine ⟨.int n, rfl, .inl ⟨n, rfl, .int m, rfl, n, m, rfl, rfl, hm, ?_⟩⟩
          exact fin _ sd tn ini (by simp at h60; omega) hp3 hq3 old3 _ (Int.emod_nonneg _ (by omega)) (Int.emod_lt_of_pos _ hm)
end
end K51
set_option maxHeartbeats 8000000
namespace K51
open PySem PySem.Spec L2 Evl Pd
open PyProof.Rows hiding St
abbrev s__law_deck : Stmt := topS 8
theorem sc__law_deck : FnScope ["script", "cells", "seed", "cell"] ["script"] (defScope s__law_deck) := ⟨rfl, rfl, rfl, by decide +kernel, rfl, by decide +kernel, by decide +kernel⟩
def kws__law_deck : List (List Str × List Nat) := []
def m__law_deck : MS :=
  (mSeq (mPar 1 2 [] (.l (mComp (iSeqM (mOfL (mSlL (mVar 0) mNoP (mPart (mC (.int 60)))))) (.nm 3) [3] mYes (mBin fAdd (mBin fMulC (mC (.int 2)) (mCall gAbs (mCons (mVar 3) mNil))) (mCall gInt (mCons (mBin fLt (mVar 3) (mC (.int 0))) mNil))))) (.v (mBin fAdd (mC (.int 15724051)) (mBin fMulC (mC (.int 7)) (mCall gLen (mCons (mVar 0) mNil))))))
    (mSeq (mFor (.nm 3) [1] (iSeqM (mVar 1))
    (mAsg 2 [] (mBin fMod (mCall gInt (mCons (mBin fAdd (mBin fAdd (mBin fMulC (mVar 2) (mC (.int 69069))) (mVar 3)) (mC (.int 1))) mNil)) (mC (.int 4294967291)))))
    (mRet [] (mDict (mQ1 (mC (.str (Str.ofString "great"))) (mOfL (mComp (iSeqM (mVar 1)) (.nm 3) [3] (mTest (mBin fGe (mVar 3) (mBin fPow (mC (.int 10)) (mC (.int 15))))) (mVar 3))) (mQ1 (mC (.str (Str.ofString "seed"))) (mVar 2) (mQ1 (mC (.str (Str.ofString "turn"))) (mC (.int 0)) mQ0)))))))
def g__law_deck : List D → Tr D := defG 1 4 m__law_deck
abbrev s_raised_value : Stmt := topS 2
theorem sc_raised_value : FnScope ["form", "number", "below", "total", "power", "coefficient"] ["form", "number", "below"] (defScope s_raised_value) := ⟨rfl, rfl, rfl, by decide +kernel, rfl, by decide +kernel, by decide +kernel⟩
def kws_raised_value : List (List Str × List Nat) := []
def m_raised_value : MS :=
  (mSeq (mAsg 3 [] (mC (.int 0)))
    (mSeq (mAsg 4 [] (mC (.int 1)))
    (mSeq (mFor (.nm 5) [] (iRevM (mVar 0))
    (mSeq (mAsg 3 [] (mBin fAdd (mBin fMul (mVar 3) (mVar 1)) (mBin fMul (mVar 5) (mVar 4))))
    (mAsg 4 [] (mBin fMul (mVar 4) (mVar 2)))))
    (mRet [] (mVar 3)))))
def g_raised_value : List D → Tr D := defG 3 6 m_raised_value
abbrev s_lowest : Stmt := topS 4
theorem sc_lowest : FnScope ["number", "below", "shared"] ["number", "below"] (defScope s_lowest) := ⟨rfl, rfl, rfl, by decide +kernel, rfl, by decide +kernel, by decide +kernel⟩
def kws_lowest : List (List Str × List Nat) := []
def m_lowest : MS :=
  (mSeq (mAsg 2 [] (mCall gGcd (mCons (mVar 0) (mCons (mVar 1) mNil))))
    (mRet [] (mTup (mCons (mBin fDiv (mVar 0) (mVar 2)) (mCons (mBin fDiv (mVar 1) (mVar 2)) mNil)))))
def g_lowest : List D → Tr D := defG 2 3 m_lowest
abbrev s_form_at : Stmt := topS 6
theorem sc_form_at : FnScope ["coefficients", "fraction", "number", "below", "power", "_"] ["coefficients", "fraction"] (defScope s_form_at) := ⟨rfl, rfl, rfl, by decide +kernel, rfl, by decide +kernel, by decide +kernel⟩
def kws_form_at : List (List Str × List Nat) := [(["fraction", "coefficients"], [1, 0])]
def m_form_at : MS :=
  (mSeq (mUnp (.tp [(.nm 2), (.nm 3)]) [] (mVar 1))
    (mSeq (mAsg 4 [] (mC (.int 1)))
    (mSeq (mFor (.nm 5) [] (iSeqM (mSlT (mVar 0) (mPart (mC (.int 1))) mNoP))
    (mAsg 4 [] (mBin fMul (mVar 4) (mVar 3))))
    (mRet [] (mCall g_lowest (mCons (mCall g_raised_value (mCons (mVar 0) (mCons (mVar 2) (mCons (mVar 3) mNil)))) (mCons (mVar 4) mNil)))))))
def g_form_at : List D → Tr D := defG 2 6 m_form_at
abbrev s__law_pick : Stmt := topS 10
theorem sc__law_pick : FnScope ["deck", "items"] ["deck", "items"] (defScope s__law_pick) := ⟨rfl, rfl, rfl, by decide +kernel, rfl, by decide +kernel, by decide +kernel⟩
def kws__law_pick : List (List Str × List Nat) := []
def m__law_pick : MS :=
  (mRet [] (mBin fIx (mVar 1) (mCall g__law_draw (mCons (mVar 0) (mCons (mCall gLen (mCons (mVar 1) mNil)) mNil)))))
def g__law_pick : List D → Tr D := defG 2 2 m__law_pick
abbrev s__law_ratio : Stmt := topS 11
theorem sc__law_ratio : FnScope ["number", "under", "one", "other", "sign"] ["number", "under"] (defScope s__law_ratio) := ⟨rfl, rfl, rfl, by decide +kernel, rfl, by decide +kernel, by decide +kernel⟩
def kws__law_ratio : List (List Str × List Nat) := []
def m__law_ratio : MS :=
  (mSeq (mPar 2 3 [] (.v (mCall gAbs (mCons (mVar 0) mNil))) (.v (mCall gAbs (mCons (mVar 1) mNil))))
    (mSeq (whileF [] (mTest (mBin fGt (mVar 3) (mC (.int 0)))) (mPar 2 3 [] (.v (mVar 3)) (.v (mBin fMod (mCall gInt (mCons (mVar 2) mNil)) (mVar 3)))) 20000)
    (mSeq (mAsg 4 [] (mIf (mTest (mBin fGt (mVar 1) (mC (.int 0)))) (mC (.int 1)) (mNeg (mC (.int 1)))))
    (mRet [] (mTup (mCons (mBin fDiv (mBin fMul (mVar 4) (mVar 0)) (mVar 2)) (mCons (mBin fDiv (mCall gAbs (mCons (mVar 1) mNil)) (mVar 2)) mNil)))))))
def g__law_ratio : List D → Tr D := defG 2 5 m__law_ratio
abbrev s__law_cut : Stmt := topS 12
theorem sc__law_cut : FnScope ["items", "found"] ["items"] (defScope s__law_cut) := ⟨rfl, rfl, rfl, by decide +kernel, rfl, by decide +kernel, by decide +kernel⟩
def kws__law_cut : List (List Str × List Nat) := []
def m__law_cut : MS :=
  (mSeq (mNew 1 [] (mCallL gList (mCons (mVar 0) mNil)))
    (mSeq (whileF [1] (mAnd (mTest (mBin fNe (mVar 1) (mOfL (mLst mNil)))) (mTest (mBin fEq (mBin fIx (mVar 1) (mNeg (mC (.int 1)))) (mC (.int 0))))) (mPopS 1) 13)
    (mRet [1] (mCall gTuple (mCons (mVar 1) mNil)))))
def g__law_cut : List D → Tr D := defG 1 2 m__law_cut
abbrev s__law_summed : Stmt := topS 13
theorem sc__law_summed : FnScope ["items", "fraction", "total", "under", "power", "own"] ["items", "fraction"] (defScope s__law_summed) := ⟨rfl, rfl, rfl, by decide +kernel, rfl, by decide +kernel, by decide +kernel⟩
def kws__law_summed : List (List Str × List Nat) := []
def m__law_summed : MS :=
  (mSeq (mUnp (.tp [(.nm 2), (.nm 3), (.nm 4)]) [] (mTup (mCons (mC (.int 0)) (mCons (mC (.int 1)) (mCons (mC (.int 1)) mNil)))))
    (mSeq (mFor (.nm 5) [] (iSeqM (mVar 0))
    (mSeq (mPar 2 3 [] (.v (mBin fAdd (mBin fMul (mVar 2) (mBin fIx (mVar 1) (mC (.int 1)))) (mBin fMul (mVar 5) (mVar 4)))) (.v (mBin fMul (mVar 3) (mBin fIx (mVar 1) (mC (.int 1))))))
    (mAsg 4 [] (mBin fMul (mVar 4) (mBin fIx (mVar 1) (mC (.int 0)))))))
    (mRet [] (mCall g__law_ratio (mCons (mBin fMul (mVar 2) (mBin fIx (mVar 1) (mC (.int 1)))) (mCons (mVar 3) mNil))))))
def g__law_summed : List D → Tr D := defG 2 6 m__law_summed
abbrev s__law_drawn_form : Stmt := topS 14
theorem sc__law_drawn_form : FnScope ["deck", "sort", "found", "turn", "own"] ["deck"] (defScope s__law_drawn_form) := ⟨rfl, rfl, rfl, by decide +kernel, rfl, by decide +kernel, by decide +kernel⟩
def kws__law_drawn_form : List (List Str × List Nat) := []
def m__law_drawn_form : MS :=
  (mSeq (mAsg 1 [] (mCall g__law_pick (mCons (mVar 0) (mCons (mOfL (mLst (mCons (mC (.int 3)) (mCons (mC (.int 9)) (mCons (mBin fPow (mC (.int 10)) (mC (.int 6))) (mCons (mBin fPow (mC (.int 10)) (mC (.int 18))) mNil)))))) mNil))))
    (mSeq (mNew 2 [] (mLst mNil))
    (mSeq (mFor (.nm 3) [] (iVia rng1 (mCons (mCall g__law_draw (mCons (mVar 0) (mCons (mC (.int 12)) mNil))) mNil))
    (mSeq (mAsg 4 [] (mBin fSub (mCall g__law_draw (mCons (mVar 0) (mCons (mBin fAdd (mBin fMulC (mC (.int 2)) (mVar 1)) (mC (.int 1))) mNil))) (mVar 1)))
    (mApp 2 [] (mCall g__law_pick (mCons (mVar 0) (mCons (mOfL (mLst (mCons (mVar 4) (mCons (mVar 4) (mCons (mC (.int 0)) (mCons (mVar 1) (mCons (mBin fSub (mC (.int 0)) (mVar 1)) mNil))))))) mNil))))))
    (mRet [2] (mCall g__law_cut (mCons (mVar 2) mNil))))))
def g__law_drawn_form : List D → Tr D := defG 1 5 m__law_drawn_form
abbrev s__law_any_fraction : Stmt := topS 15
theorem sc__law_any_fraction : FnScope ["deck", "way", "most"] ["deck"] (defScope s__law_any_fraction) := ⟨rfl, rfl, rfl, by decide +kernel, rfl, by decide +kernel, by decide +kernel⟩
def kws__law_any_fraction : List (List Str × List Nat) := []
def m__law_any_fraction : MS :=
  (mSeq (mAsg 1 [] (mCall g__law_draw (mCons (mVar 0) (mCons (mC (.int 6)) mNil))))
    (mSeq (mIfS [] (mTest (mBin fEq (mVar 1) (mC (.int 0)))) (mRet [] (mCall g__law_pick (mCons (mVar 0) (mCons (mOfL (mLst (mCons (mTup (mCons (mC (.int 0)) (mCons (mC (.int 1)) mNil))) (mCons (mTup (mCons (mC (.int 1)) (mCons (mC (.int 1)) mNil))) (mCons (mTup (mCons (mNeg (mC (.int 1))) (mCons (mC (.int 1)) mNil))) (mCons (mTup (mCons (mC (.int 1)) (mCons (mC (.int 2)) mNil))) (mCons (mTup (mCons (mC (.int 2)) (mCons (mC (.int 1)) mNil))) (mCons (mTup (mCons (mBin fPow (mC (.int 10)) (mC (.int 6))) (mCons (mC (.int 1)) mNil))) mNil)))))))) mNil)))) mSkip)
    (mSeq (mAsg 2 [] (mIf (mTest (mBin fGt (mVar 1) (mC (.int 2)))) (mCall g__law_pick (mCons (mVar 0) (mCons (mOfL (mLst (mCons (mC (.int 9)) (mCons (mC (.int 99)) (mCons (mBin fPow (mC (.int 10)) (mC (.int 30))) mNil))))) mNil))) (mC (.int 9))))
    (mRet [] (mCall g__law_ratio (mCons (mBin fSub (mCall g__law_draw (mCons (mVar 0) (mCons (mBin fMulC (mC (.int 3)) (mVar 2)) mNil))) (mVar 2)) (mCons (mBin fAdd (mC (.int 1)) (mCall g__law_draw (mCons (mVar 0) (mCons (mVar 2) mNil)))) mNil)))))))
def g__law_any_fraction : List D → Tr D := defG 1 3 m__law_any_fraction
abbrev s__law_is_told : Stmt := topS 16
theorem sc__law_is_told : FnScope ["items", "fraction", "is_named", "before", "due", "told_so"] ["items", "fraction", "is_named"] (defScope s__law_is_told) := ⟨rfl, rfl, rfl, by decide +kernel, rfl, by decide +kernel, by decide +kernel⟩
def kws__law_is_told : List (List Str × List Nat) := []
def m__law_is_told : MS :=
  (mSeq (mPar 3 4 [] (.v (mCall gRepr (mCons (mOfL (mLst (mCons (mVar 0) (mCons (mVar 1) mNil)))) mNil))) (.v (mCall g__law_summed (mCons (mVar 0) (mCons (mVar 1) mNil)))))
    (mSeq (mAsg 5 [] (mIf (mTru (mVar 2)) (mCallN g_form_at [1, 0] (mCons (mVar 1) (mCons (mVar 0) mNil))) (mCall g_form_at (mCons (mVar 0) (mCons (mVar 1) mNil)))))
    (mRet [] (mAndV (mBin fEq (mCall gRepr (mCons (mOfL (mLst (mCons (mVar 5) (mCons (mCall g_form_at (mCons (mVar 0) (mCons (mVar 1) mNil))) mNil)))) mNil)) (mCall gRepr (mCons (mOfL (mLst (mCons (mVar 4) (mCons (mVar 4) mNil)))) mNil))) (mBin fEq (mCall gRepr (mCons (mOfL (mLst (mCons (mVar 0) (mCons (mVar 1) mNil)))) mNil)) (mVar 3))))))
def g__law_is_told : List D → Tr D := defG 3 6 m__law_is_told
section
variable {K : PySem.W.Frag} {mg : Str → Option Value} {base : Heap} {P : Program} {w : World} {jk : JarK}
theorem cal__law_deck {f : Addr} {fd : FuncData} (F : Fun K "_law_deck" "_law_deck" s__law_deck f fd) (hm : mg "_law_deck" = some (.ref f))  (b_abs : mg "abs" = none) (b_int : mg "int" = none) (b_len : mg "len" = none) : Cal P w K mg base jk 1 "_law_deck" ["script"] kws__law_deck g__law_deck := by
  refine cal_of F sc__law_deck hm (F.binds fun _ _ _ _ _ _ us hl => match us, hl with | [_], _ => rfl) ?_ rfl rfl fun cdv A outer s H E ja hA hr => ?_
  · intro q hq
    cases hq
  · have nd : (DefX P w K mg base ["script", "cells", "seed", "cell"] "_law_deck" (defScope s__law_deck) f cdv A outer s H E).N.Nodup := sc__law_deck.nd
    exact (bok_cons (sok_par 1 2 [] (ma := (.l (mComp (iSeqM (mOfL (mSlL (mVar 0) mNoP (mPart (mC (.int 60)))))) (.nm 3) [3] mYes (mBin fAdd (mBin fMulC (mC (.int 2)) (mCall gAbs (mCons (mVar 3) mNil))) (mCall gInt (mCons (mBin fLt (mVar 3) (mC (.int 0))) mNil)))))) (mb := (.v (mBin fAdd (mC (.int 15724051)) (mBin fMulC (mC (.int 7)) (mCall gLen (mCons (mVar 0) mNil)))))) rfl nd (lok_lc (own := [(("cell" : Str), 3)]) rfl nd (iok_seqM (eok_ofL (lok_slice (eok_var 0) ook_none (ook_some eok_int)))) (blkOk_by (N := ["script", "cells", "seed", "cell"]) (sc := defScope s__law_deck) (by decide +kernel)) (fun _ _ _ _ _ => (gok_nm 3 nd)) (fun _ _ _ _ _ => pok_yes) (fun _ _ _ _ _ => (eok_op op_add r_add (eok_op op_mul r_mulC eok_int (eok_bi call_abs r_abs (by rfl) b_abs PyProof.Rows.boot_abs (aok_cons (eok_var 3) aok_nil))) (eok_ty call_int1 r_intc (by rfl) b_int PyProof.Rows.boot_int (aok_cons (eok_cmp op_lt r_lt (eok_var 3) eok_int (nomark _)) aok_nil))))) (eok_op op_add r_add eok_int (eok_op op_mul r_mulC eok_int (eok_bi call_len_seq r_len (by rfl) b_len PySem.boot_len (aok_cons (eok_var 0) aok_nil)))))
    (bok_cons (sok_for [1] PassesOwn.never rfl (iok_seqM (eok_var 1)) (gok_nm 3 nd)
    (bok_one (sok_asg 2 [] nd (eok_op op_mod r_mod (eok_ty call_int1 r_intc (by rfl) b_int PyProof.Rows.boot_int (aok_cons (eok_op op_add r_add (eok_op op_add r_add (eok_op op_mul r_mulC (eok_var 2) eok_int) (eok_var 3)) eok_int) aok_nil)) eok_int))))
    (bok_one (sok_ret [] (eok_dict (qok_1 eok_str (eok_ofL (lok_lc (own := [(("cell" : Str), 3)]) rfl nd (iok_seqM (eok_var 1)) (blkOk_by (N := ["script", "cells", "seed", "cell"]) (sc := defScope s__law_deck) (by decide +kernel)) (fun _ _ _ _ _ => (gok_nm 3 nd)) (fun _ _ _ _ _ => (pok_one (tok_cmp op_ge r_ge (eok_var 3) (eok_op op_pow r_pow eok_int eok_int) (nomark _)))) (fun _ _ _ _ _ => (eok_var 3)))) (qok_1 eok_str (eok_var 2) (qok_1 eok_str eok_int qok_0))))))))
theorem cal_raised_value {f : Addr} {fd : FuncData} (F : Fun K "raised_value" "raised_value" s_raised_value f fd) (hm : mg "raised_value" = some (.ref f))  (b_reversed : mg "reversed" = none) : Cal P w K mg base jk 1 "raised_value" ["form", "number", "below"] kws_raised_value g_raised_value := by
  refine cal_of F sc_raised_value hm (F.binds fun _ _ _ _ _ _ us hl => match us, hl with | [_, _, _], _ => rfl) ?_ rfl rfl fun cdv A outer s H E ja hA hr => ?_
  · intro q hq
    cases hq
  · have nd : (DefX P w K mg base ["form", "number", "below", "total", "power", "coefficient"] "raised_value" (defScope s_raised_value) f cdv A outer s H E).N.Nodup := sc_raised_value.nd
    exact (bok_cons (sok_asg 3 [] nd eok_int)
    (bok_cons (sok_asg 4 [] nd eok_int)
    (bok_cons (sok_for [] PassesOwn.never rfl (iok_rev (by rfl) b_reversed (eok_var 0)) (gok_nm 5 nd)
    (bok_cons (sok_asg 3 [] nd (eok_op op_add r_add (eok_op op_mulW r_mul (eok_var 3) (eok_var 1)) (eok_op op_mulW r_mul (eok_var 5) (eok_var 4))))
    (bok_one (sok_asg 4 [] nd (eok_op op_mulW r_mul (eok_var 4) (eok_var 2))))))
    (bok_one (sok_ret [] (eok_var 3))))))
theorem cal_lowest {f : Addr} {fd : FuncData} (F : Fun K "lowest" "lowest" s_lowest f fd) (hm : mg "lowest" = some (.ref f))   (x_gcd : mg "gcd" = some (.builtin "math.gcd")) : Cal P w K mg base jk 1 "lowest" ["number", "below"] kws_lowest g_lowest := by
  refine cal_of F sc_lowest hm (F.binds fun _ _ _ _ _ _ us hl => match us, hl with | [_, _], _ => rfl) ?_ rfl rfl fun cdv A outer s H E ja hA hr => ?_
  · intro q hq
    cases hq
  · have nd : (DefX P w K mg base ["number", "below", "shared"] "lowest" (defScope s_lowest) f cdv A outer s H E).N.Nodup := sc_lowest.nd
    exact (bok_cons (sok_asg 2 [] nd (eok_bfun cr_gcd r_gcd (by rfl) x_gcd (aok_cons (eok_var 0) (aok_cons (eok_var 1) aok_nil))))
    (bok_one (sok_ret [] (eok_tup (aok_cons (eok_op op_fdivW r_div (eok_var 0) (eok_var 2)) (aok_cons (eok_op op_fdivW r_div (eok_var 1) (eok_var 2)) aok_nil))))))
theorem cal_form_at {f : Addr} {fd : FuncData} (F : Fun K "form_at" "form_at" s_form_at f fd) (hm : mg "form_at" = some (.ref f)) (C_lowest : Cal P w K mg base jk 1 "lowest" ["number", "below"] kws_lowest g_lowest) (C_raised_value : Cal P w K mg base jk 1 "raised_value" ["form", "number", "below"] kws_raised_value g_raised_value)  : Cal P w K mg base jk 2 "form_at" ["coefficients", "fraction"] kws_form_at g_form_at := by
  refine cal_of F sc_form_at hm (F.binds fun _ _ _ _ _ _ us hl => match us, hl with | [_, _], _ => rfl) ?_ rfl rfl fun cdv A outer s H E ja hA hr => ?_
  · intro q hq
    simp only [kws_form_at, List.mem_cons, List.not_mem_nil, or_false] at hq
    subst hq
    exact kw_binds F fun _ _ _ _ _ _ us hl => match us, hl with | [_, _], _ => rfl
  · have nd : (DefX P w K mg base ["coefficients", "fraction", "number", "below", "power", "_"] "form_at" (defScope s_form_at) f cdv A outer s H E).N.Nodup := sc_form_at.nd
    exact (bok_cons (sok_unp [] (eok_var 1) (gok_tup rfl (gsok_cons (gok_nm 2 nd) (gsok_cons (gok_nm 3 nd) gsok_nil))))
    (bok_cons (sok_asg 4 [] nd eok_int)
    (bok_cons (sok_for [] PassesOwn.never rfl (iok_seqM (eok_sliceT (eok_var 0) (ook_some eok_int) ook_none)) (gok_nm 5 nd)
    (bok_one (sok_asg 4 [] nd (eok_op op_mulW r_mul (eok_var 4) (eok_var 3)))))
    (bok_one (sok_ret [] (eok_callC C_lowest hA hr (aok_cons (eok_callC C_raised_value hA hr (aok_cons (eok_var 0) (aok_cons (eok_var 2) (aok_cons (eok_var 3) aok_nil)))) (aok_cons (eok_var 4) aok_nil))))))))
theorem cal__law_pick {f : Addr} {fd : FuncData} (F : Fun K "_law_pick" "_law_pick" s__law_pick f fd) (hm : mg "_law_pick" = some (.ref f)) (C__law_draw : Cal P w K mg base jk 1 "_law_draw" ["deck", "many"] kws__law_draw g__law_draw) (b_len : mg "len" = none) : Cal P w K mg base jk 2 "_law_pick" ["deck", "items"] kws__law_pick g__law_pick := by
  refine cal_of F sc__law_pick hm (F.binds fun _ _ _ _ _ _ us hl => match us, hl with | [_, _], _ => rfl) ?_ rfl rfl fun cdv A outer s H E ja hA hr => ?_
  · intro q hq
    cases hq
  · have nd : (DefX P w K mg base ["deck", "items"] "_law_pick" (defScope s__law_pick) f cdv A outer s H E).N.Nodup := sc__law_pick.nd
    exact (bok_one (sok_ret [] (eok_ix ix_seq r_ix (eok_var 1) (eok_callC C__law_draw hA hr (aok_cons (eok_var 0) (aok_cons (eok_bi call_len_seq r_len (by rfl) b_len PySem.boot_len (aok_cons (eok_var 1) aok_nil)) aok_nil))) (fun _ _ => rfl))))
theorem cal__law_ratio {f : Addr} {fd : FuncData} (F : Fun K "_law_ratio" "_law_ratio" s__law_ratio f fd) (hm : mg "_law_ratio" = some (.ref f))  (b_abs : mg "abs" = none) (b_int : mg "int" = none) : Cal P w K mg base jk 1 "_law_ratio" ["number", "under"] kws__law_ratio g__law_ratio := by
  refine cal_of F sc__law_ratio hm (F.binds fun _ _ _ _ _ _ us hl => match us, hl with | [_, _], _ => rfl) ?_ rfl rfl fun cdv A outer s H E ja hA hr => ?_
  · intro q hq
    cases hq
  · have nd : (DefX P w K mg base ["number", "under", "one", "other", "sign"] "_law_ratio" (defScope s__law_ratio) f cdv A outer s H E).N.Nodup := sc__law_ratio.nd
    exact (bok_cons (sok_par 2 3 [] (ma := (.v (mCall gAbs (mCons (mVar 0) mNil)))) (mb := (.v (mCall gAbs (mCons (mVar 1) mNil)))) rfl nd (eok_bi call_abs r_abs (by rfl) b_abs PyProof.Rows.boot_abs (aok_cons (eok_var 0) aok_nil)) (eok_bi call_abs r_abs (by rfl) b_abs PyProof.Rows.boot_abs (aok_cons (eok_var 1) aok_nil)))
    (bok_cons (sok_while 20000 [] PassesOwn.never (tok_cmp op_gt r_gt (eok_var 3) eok_int (nomark _)) (bok_one (sok_par 2 3 [] (ma := (.v (mVar 3))) (mb := (.v (mBin fMod (mCall gInt (mCons (mVar 2) mNil)) (mVar 3)))) rfl nd (eok_var 3) (eok_op op_mod r_mod (eok_ty call_int1 r_intc (by rfl) b_int PyProof.Rows.boot_int (aok_cons (eok_var 2) aok_nil)) (eok_var 3)))))
    (bok_cons (sok_asg 4 [] nd (eok_if (tok_cmp op_gt r_gt (eok_var 1) eok_int (nomark _)) eok_int (eok_neg eok_int)))
    (bok_one (sok_ret [] (eok_tup (aok_cons (eok_op op_fdivW r_div (eok_op op_mulW r_mul (eok_var 4) (eok_var 0)) (eok_var 2)) (aok_cons (eok_op op_fdivW r_div (eok_bi call_abs r_abs (by rfl) b_abs PyProof.Rows.boot_abs (aok_cons (eok_var 1) aok_nil)) (eok_var 2)) aok_nil))))))))
theorem cal__law_cut {f : Addr} {fd : FuncData} (F : Fun K "_law_cut" "_law_cut" s__law_cut f fd) (hm : mg "_law_cut" = some (.ref f))  (b_list : mg "list" = none) (b_tuple : mg "tuple" = none) : Cal P w K mg base jk 1 "_law_cut" ["items"] kws__law_cut g__law_cut := by
  refine cal_of F sc__law_cut hm (F.binds fun _ _ _ _ _ _ us hl => match us, hl with | [_], _ => rfl) ?_ rfl rfl fun cdv A outer s H E ja hA hr => ?_
  · intro q hq
    cases hq
  · have nd : (DefX P w K mg base ["items", "found"] "_law_cut" (defScope s__law_cut) f cdv A outer s H E).N.Nodup := sc__law_cut.nd
    exact (bok_cons (sok_new 1 [] nd (lok_ty call_list_of r_list (by rfl) b_list PyProof.Rows.boot_list (aok_cons (eok_var 0) aok_nil)))
    (bok_cons (sok_while 13 [1] PassesOwn.never (WOk.t (wok_and (tok_cmp (op_ne2 hr.units) r_ne (eok_var 1) (eok_ofL (lok_lst aok_nil)) (nomark _)) (wok_and1 (tok_cmp (op_eq2 hr.units) r_eq (eok_ix ix_seq r_ix (eok_var 1) (eok_neg eok_int) (fun _ _ => rfl)) eok_int (nomark _))))) (bok_one (sok_popS 1 (pe_bm0 PySem.F.plainAttrs_list PySem.F.slot_list_pop PySem.F.type_list_pop mt_pop (pv 1)))))
    (bok_one (sok_ret [1] (eok_ty call_tuple_of r_tuple (by rfl) b_tuple PyProof.Rows.boot_tuple (aok_cons (eok_var 1) aok_nil))))))
theorem cal__law_summed {f : Addr} {fd : FuncData} (F : Fun K "_law_summed" "_law_summed" s__law_summed f fd) (hm : mg "_law_summed" = some (.ref f)) (C__law_ratio : Cal P w K mg base jk 1 "_law_ratio" ["number", "under"] kws__law_ratio g__law_ratio)  : Cal P w K mg base jk 2 "_law_summed" ["items", "fraction"] kws__law_summed g__law_summed := by
  refine cal_of F sc__law_summed hm (F.binds fun _ _ _ _ _ _ us hl => match us, hl with | [_, _], _ => rfl) ?_ rfl rfl fun cdv A outer s H E ja hA hr => ?_
  · intro q hq
    cases hq
  · have nd : (DefX P w K mg base ["items", "fraction", "total", "under", "power", "own"] "_law_summed" (defScope s__law_summed) f cdv A outer s H E).N.Nodup := sc__law_summed.nd
    exact (bok_cons (sok_unp [] (eok_tup (aok_cons eok_int (aok_cons eok_int (aok_cons eok_int aok_nil)))) (gok_tup rfl (gsok_cons (gok_nm 2 nd) (gsok_cons (gok_nm 3 nd) (gsok_cons (gok_nm 4 nd) gsok_nil)))))
    (bok_cons (sok_for [] PassesOwn.never rfl (iok_seqM (eok_var 0)) (gok_nm 5 nd)
    (bok_cons (sok_par 2 3 [] (ma := (.v (mBin fAdd (mBin fMul (mVar 2) (mBin fIx (mVar 1) (mC (.int 1)))) (mBin fMul (mVar 5) (mVar 4))))) (mb := (.v (mBin fMul (mVar 3) (mBin fIx (mVar 1) (mC (.int 1)))))) rfl nd (eok_op op_add r_add (eok_op op_mulW r_mul (eok_var 2) (eok_ix ix_seq r_ix (eok_var 1) eok_int (fun _ _ => rfl))) (eok_op op_mulW r_mul (eok_var 5) (eok_var 4))) (eok_op op_mulW r_mul (eok_var 3) (eok_ix ix_seq r_ix (eok_var 1) eok_int (fun _ _ => rfl))))
    (bok_one (sok_asg 4 [] nd (eok_op op_mulW r_mul (eok_var 4) (eok_ix ix_seq r_ix (eok_var 1) eok_int (fun _ _ => rfl)))))))
    (bok_one (sok_ret [] (eok_callC C__law_ratio hA hr (aok_cons (eok_op op_mulW r_mul (eok_var 2) (eok_ix ix_seq r_ix (eok_var 1) eok_int (fun _ _ => rfl))) (aok_cons (eok_var 3) aok_nil)))))))
theorem cal__law_drawn_form {f : Addr} {fd : FuncData} (F : Fun K "_law_drawn_form" "_law_drawn_form" s__law_drawn_form f fd) (hm : mg "_law_drawn_form" = some (.ref f)) (C__law_cut : Cal P w K mg base jk 2 "_law_cut" ["items"] kws__law_cut g__law_cut) (C__law_draw : Cal P w K mg base jk 2 "_law_draw" ["deck", "many"] kws__law_draw g__law_draw) (C__law_pick : Cal P w K mg base jk 2 "_law_pick" ["deck", "items"] kws__law_pick g__law_pick) (b_range : mg "range" = none) : Cal P w K mg base jk 3 "_law_drawn_form" ["deck"] kws__law_drawn_form g__law_drawn_form := by
  refine cal_of F sc__law_drawn_form hm (F.binds fun _ _ _ _ _ _ us hl => match us, hl with | [_], _ => rfl) ?_ rfl rfl fun cdv A outer s H E ja hA hr => ?_
  · intro q hq
    cases hq
  · have nd : (DefX P w K mg base ["deck", "sort", "found", "turn", "own"] "_law_drawn_form" (defScope s__law_drawn_form) f cdv A outer s H E).N.Nodup := sc__law_drawn_form.nd
    exact (bok_cons (sok_asg 1 [] nd (eok_callC C__law_pick hA hr (aok_cons (eok_var 0) (aok_cons (eok_ofL (lok_lst (aok_cons eok_int (aok_cons eok_int (aok_cons (eok_op op_pow r_pow eok_int eok_int) (aok_cons (eok_op op_pow r_pow eok_int eok_int) aok_nil)))))) aok_nil))))
    (bok_cons (sok_new 2 [] nd (lok_lst aok_nil))
    (bok_cons (sok_for [] PassesOwn.never rfl (iok_range1 (by rfl) b_range (aok_cons (eok_callC C__law_draw hA hr (aok_cons (eok_var 0) (aok_cons eok_int aok_nil))) aok_nil)) (gok_nm 3 nd)
    (bok_cons (sok_asg 4 [] nd (eok_op op_sub r_sub (eok_callC C__law_draw hA hr (aok_cons (eok_var 0) (aok_cons (eok_op op_add r_add (eok_op op_mul r_mulC eok_int (eok_var 1)) eok_int) aok_nil))) (eok_var 1)))
    (bok_one (sok_app 2 [] (eok_callC C__law_pick hA hr (aok_cons (eok_var 0) (aok_cons (eok_ofL (lok_lst (aok_cons (eok_var 4) (aok_cons (eok_var 4) (aok_cons eok_int (aok_cons (eok_var 1) (aok_cons (eok_op op_sub r_sub eok_int (eok_var 1)) aok_nil))))))) aok_nil))) (hp := pe_bm PySem.F.plainAttrs_list PySem.F.slot_list_append PySem.F.type_list_append mt_append (pv 2) (pa_cons pe_sem pa_nil))))))
    (bok_one (sok_ret [2] (eok_callC C__law_cut hA hr (aok_cons (eok_var 2) aok_nil)))))))
theorem cal__law_any_fraction {f : Addr} {fd : FuncData} (F : Fun K "_law_any_fraction" "_law_any_fraction" s__law_any_fraction f fd) (hm : mg "_law_any_fraction" = some (.ref f)) (C__law_draw : Cal P w K mg base jk 2 "_law_draw" ["deck", "many"] kws__law_draw g__law_draw) (C__law_pick : Cal P w K mg base jk 2 "_law_pick" ["deck", "items"] kws__law_pick g__law_pick) (C__law_ratio : Cal P w K mg base jk 2 "_law_ratio" ["number", "under"] kws__law_ratio g__law_ratio)  : Cal P w K mg base jk 3 "_law_any_fraction" ["deck"] kws__law_any_fraction g__law_any_fraction := by
  refine cal_of F sc__law_any_fraction hm (F.binds fun _ _ _ _ _ _ us hl => match us, hl with | [_], _ => rfl) ?_ rfl rfl fun cdv A outer s H E ja hA hr => ?_
  · intro q hq
    cases hq
  · have nd : (DefX P w K mg base ["deck", "way", "most"] "_law_any_fraction" (defScope s__law_any_fraction) f cdv A outer s H E).N.Nodup := sc__law_any_fraction.nd
    exact (bok_cons (sok_asg 1 [] nd (eok_callC C__law_draw hA hr (aok_cons (eok_var 0) (aok_cons eok_int aok_nil))))
    (bok_cons (sok_if [] (tok_cmp (op_eq2 hr.units) r_eq (eok_var 1) eok_int (nomark _)) (bok_one (sok_ret [] (eok_callC C__law_pick hA hr (aok_cons (eok_var 0) (aok_cons (eok_ofL (lok_lst (aok_cons (eok_tup (aok_cons eok_int (aok_cons eok_int aok_nil))) (aok_cons (eok_tup (aok_cons eok_int (aok_cons eok_int aok_nil))) (aok_cons (eok_tup (aok_cons (eok_neg eok_int) (aok_cons eok_int aok_nil))) (aok_cons (eok_tup (aok_cons eok_int (aok_cons eok_int aok_nil))) (aok_cons (eok_tup (aok_cons eok_int (aok_cons eok_int aok_nil))) (aok_cons (eok_tup (aok_cons (eok_op op_pow r_pow eok_int eok_int) (aok_cons eok_int aok_nil))) aok_nil)))))))) aok_nil))))) bok_skip)
    (bok_cons (sok_asg 2 [] nd (eok_if (tok_cmp op_gt r_gt (eok_var 1) eok_int (nomark _)) (eok_callC C__law_pick hA hr (aok_cons (eok_var 0) (aok_cons (eok_ofL (lok_lst (aok_cons eok_int (aok_cons eok_int (aok_cons (eok_op op_pow r_pow eok_int eok_int) aok_nil))))) aok_nil))) eok_int))
    (bok_one (sok_ret [] (eok_callC C__law_ratio hA hr (aok_cons (eok_op op_sub r_sub (eok_callC C__law_draw hA hr (aok_cons (eok_var 0) (aok_cons (eok_op op_mul r_mulC eok_int (eok_var 2)) aok_nil))) (eok_var 2)) (aok_cons (eok_op op_add r_add eok_int (eok_callC C__law_draw hA hr (aok_cons (eok_var 0) (aok_cons (eok_var 2) aok_nil)))) aok_nil))))))))
theorem cal__law_is_told {f : Addr} {fd : FuncData} (F : Fun K "_law_is_told" "_law_is_told" s__law_is_told f fd) (hm : mg "_law_is_told" = some (.ref f)) (C__law_summed : Cal P w K mg base jk 2 "_law_summed" ["items", "fraction"] kws__law_summed g__law_summed) (C_form_at : Cal P w K mg base jk 2 "form_at" ["coefficients", "fraction"] kws_form_at g_form_at) (b_repr : mg "repr" = none) : Cal P w K mg base jk 3 "_law_is_told" ["items", "fraction", "is_named"] kws__law_is_told g__law_is_told := by
  refine cal_of F sc__law_is_told hm (F.binds fun _ _ _ _ _ _ us hl => match us, hl with | [_, _, _], _ => rfl) ?_ rfl rfl fun cdv A outer s H E ja hA hr => ?_
  · intro q hq
    cases hq
  · have nd : (DefX P w K mg base ["items", "fraction", "is_named", "before", "due", "told_so"] "_law_is_told" (defScope s__law_is_told) f cdv A outer s H E).N.Nodup := sc__law_is_told.nd
    exact (bok_cons (sok_par 3 4 [] (ma := (.v (mCall gRepr (mCons (mOfL (mLst (mCons (mVar 0) (mCons (mVar 1) mNil)))) mNil)))) (mb := (.v (mCall g__law_summed (mCons (mVar 0) (mCons (mVar 1) mNil))))) rfl nd (eok_bi (call_repr hA hr.units) r_repr (by rfl) b_repr PyProof.Rows.boot_repr (aok_cons (eok_ofL (lok_lst (aok_cons (eok_var 0) (aok_cons (eok_var 1) aok_nil)))) aok_nil)) (eok_callC C__law_summed hA hr (aok_cons (eok_var 0) (aok_cons (eok_var 1) aok_nil))))
    (bok_cons (sok_asg 5 [] nd (eok_if (tok_truth (eok_var 2)) (eok_callN [("fraction" : Str), ("coefficients" : Str)] [1, 0] C_form_at (by simp [kws_form_at]) hA hr (kok_cons (eok_var 1) (kok_cons (eok_var 0) kok_nil)) (len_cons (len_cons len_nil))) (eok_callC C_form_at hA hr (aok_cons (eok_var 0) (aok_cons (eok_var 1) aok_nil)))))
    (bok_one (sok_ret [] (eok_andV (eok_cmp (op_eq2 hr.units) r_eq (eok_bi (call_repr hA hr.units) r_repr (by rfl) b_repr PyProof.Rows.boot_repr (aok_cons (eok_ofL (lok_lst (aok_cons (eok_var 5) (aok_cons (eok_callC C_form_at hA hr (aok_cons (eok_var 0) (aok_cons (eok_var 1) aok_nil))) aok_nil)))) aok_nil)) (eok_bi (call_repr hA hr.units) r_repr (by rfl) b_repr PyProof.Rows.boot_repr (aok_cons (eok_ofL (lok_lst (aok_cons (eok_var 4) (aok_cons (eok_var 4) aok_nil)))) aok_nil)) (nomark _)) (eok_one (eok_cmp (op_eq2 hr.units) r_eq (eok_bi (call_repr hA hr.units) r_repr (by rfl) b_repr PyProof.Rows.boot_repr (aok_cons (eok_ofL (lok_lst (aok_cons (eok_var 0) (aok_cons (eok_var 1) aok_nil)))) aok_nil)) (eok_var 3) (nomark _))))))))
end
end K51
set_option maxHeartbeats 410000
namespace K51
open PySem PySem.Spec L2 Evl Pd
open PyProof.Rows hiding St
def deckD (bs : List Int) (s : Int) : D := .dct [(.inr (Str.ofString "great"), .lst (bs.map D.int)), (.inr (Str.ofString "seed"), .int s), (.inr (Str.ofString "turn"), .int 0)]
def mCells : ML := mComp (iSeqM (mOfL (mSlL (mVar 0) mNoP (mPart (mC (.int 60)))))) (.nm 3) [3] mYes (mBin fAdd (mBin fMulC (mC (.int 2)) (mCall gAbs (mCons (mVar 3) mNil))) (mCall gInt (mCons (mBin fLt (mVar 3) (mC (.int 0))) mNil)))
def mSeed : MC := mBin fAdd (mC (.int 15724051)) (mBin fMulC (mC (.int 7)) (mCall gLen (mCons (mVar 0) mNil)))
def mStir : MC := mBin fMod (mCall gInt (mCons (mBin fAdd (mBin fAdd (mBin fMulC (mVar 2) (mC (.int 69069))) (mVar 3)) (mC (.int 1))) mNil)) (mC (.int 4294967291))
def mGreat : ML := mComp (iSeqM (mVar 1)) (.nm 3) [3] (mTest (mBin fGe (mVar 3) (mBin fPow (mC (.int 10)) (mC (.int 15))))) (mVar 3)
def mOut : MC := mDict (mQ1 (mC (.str (Str.ofString "great"))) (mOfL mGreat) (mQ1 (mC (.str (Str.ofString "seed"))) (mVar 2) (mQ1 (mC (.str (Str.ofString "turn"))) (mC (.int 0)) mQ0)))
theorem m_deck : m__law_deck = mSeq (mPar 1 2 [] (.l mCells) (.v mSeed)) (mSeq (mFor (.nm 3) [1] (iSeqM (mVar 1)) (mAsg 2 [] mStir)) (mRet [] mOut)) := rfl
theorem cells_alls {ns : List Int} (hl : ns.length ≤ 63) : AllS (fun ys => ∃ bs : List Int, bs.length ≤ 60 ∧ ys = bs.map D.int) (mCells [some (.seq (ns.map D.int)), none, none, none]) := by
  have hi : iSeqM (mOfL (mSlL (mVar 0) mNoP (mPart (mC (.int 60))))) [some (.seq (ns.map D.int)), none, none, none] = .ret ((ns.take 60).map D.int) := by
    rw [← cutD_60]
    rfl
  have h60 : ((ns.take 60).map D.int).length ≤ 60 := by rw [List.length_map]; exact List.length_take_le ..
  refine alls_mono (comp_alls (fun y => ∃ i, y = .int i) hi (small1000 (by omega)) fun d hd => ?_) fun ys h => ?_
  · obtain ⟨i, rfl⟩ := ints_mem hd
    refine ⟨[(3, .int i)], rfl, rfl, alls_ret fun _ => ?_⟩
    rw [show setE (wipeE [some (D.seq (ns.map D.int)), none, none, none] [3]) [(3, D.int i)] = [some (.seq (ns.map D.int)), none, none, some (.int i)] from rfl]
    have e1 : mBin fMulC (mC (.int 2)) (mCall gAbs (mCons (mVar 3) mNil)) [some (.seq (ns.map D.int)), none, none, some (.int i)] = .ret (.int (2 * if i < 0 then -i else i)) := (bin_ret (d := .int 2) (e := .int (if i < 0 then -i else i)) rfl rfl).trans (mulC_l (by decide))
    rw [bin_ret (d := .int _) (e := .int (if decide (i < 0) then 1 else 0)) e1 rfl]
    exact alls_ret ⟨_, rfl⟩
  · obtain ⟨bs, rfl⟩ := isInts h.2
    have := h.1
    rw [List.length_map] at this
    exact ⟨bs, Nat.le_trans this h60, rfl⟩
theorem seed_ret {ns : List Int} : mSeed [some (.seq (ns.map D.int)), none, none, none] = .ret (.int (15724051 + 7 * ((ns.map D.int).length : Int))) := by
  have e1 : mBin fMulC (mC (.int 7)) (mCall gLen (mCons (mVar 0) mNil)) [some (.seq (ns.map D.int)), none, none, none] = .ret (.int (7 * ((ns.map D.int).length : Int))) := (bin_ret (d := .int 7) (e := .int ((ns.map D.int).length : Int)) rfl rfl).trans (mulC_l (by decide))
  exact bin_ret (d := .int 15724051) rfl e1
theorem stir_ret {a b : Option D} {s i : Int} : mStir [a, b, some (.int s), some (.int i)] = .ret (.int ((s * 69069 + i + 1) % 4294967291)) := by
  have e1 : mBin fMulC (mVar 2) (mC (.int 69069)) [a, b, some (.int s), some (.int i)] = .ret (.int (s * 69069)) := (bin_ret (d := .int s) (e := .int 69069) rfl rfl).trans (mulC_r (by decide))
  have e2 : mBin fAdd (mBin fMulC (mVar 2) (mC (.int 69069))) (mVar 3) [a, b, some (.int s), some (.int i)] = .ret (.int (s * 69069 + i)) := bin_ret (e := .int i) e1 rfl
  have e3 : mBin fAdd (mBin fAdd (mBin fMulC (mVar 2) (mC (.int 69069))) (mVar 3)) (mC (.int 1)) [a, b, some (.int s), some (.int i)] = .ret (.int (s * 69069 + i + 1)) := bin_ret (e := .int 1) e2 rfl
  have e4 : mCons (mBin fAdd (mBin fAdd (mBin fMulC (mVar 2) (mC (.int 69069))) (mVar 3)) (mC (.int 1))) mNil [a, b, some (.int s), some (.int i)] = .ret [.int (s * 69069 + i + 1)] := by
    show (mBin fAdd _ _ _).bind _ = _
    rw [e3]
    rfl
  exact (bin_ret (e := .int 4294967291) ((call_ret e4).trans (by rfl)) rfl).trans (mod_ret (by decide))
theorem par_lv {i j : Nat} {ml : ML} {mb : MC} {ρ : SE} {d : D} {Pl : List D → Prop} (h1 : AllS Pl (ml (view ρ))) (h2 : mb (view ρ) = .ret d) : AllS (fun o => ∃ ds, Pl ds ∧ o = .nx ((ρ.set i (.own ds)).set j (.val d))) (mPar i j [] (.l ml) (.v mb) ρ) := by
  show AllS _ (((ml (view ρ)).bind fun ds => Tr.ret (ρ.set i (.own ds))).bind fun ρ1 => ((mb (view ρ)).bind fun d => Tr.ret (ρ1.set j (.val d))).bind fun ρ2 => Tr.ret (Out.nx ρ2))
  rw [h2]
  exact alls_bind (alls_bind (alls_mono h1 fun ds hds => alls_ret (alls_ret ⟨ds, hds, rfl⟩)))
theorem out_of {ml : ML} {m2 : MC} {ρ : VE} {s : Int} {Pl : List D → Prop} (h : AllS Pl (ml ρ)) (hs : m2 ρ = .ret (.int s)) :
    AllS (fun d => ∃ ds, Pl ds ∧ d = .dct [(.inr (Str.ofString "great"), .lst ds), (.inr (Str.ofString "seed"), .int s), (.inr (Str.ofString "turn"), .int 0)])
      (mDict (mQ1 (mC (.str (Str.ofString "great"))) (mOfL ml) (mQ1 (mC (.str (Str.ofString "seed"))) m2 (mQ1 (mC (.str (Str.ofString "turn"))) (mC (.int 0)) mQ0))) ρ) := by
  have e2 : mQ1 (mC (.str (Str.ofString "seed"))) m2 (mQ1 (mC (.str (Str.ofString "turn"))) (mC (.int 0)) mQ0) ρ = .ret [(.str (Str.ofString "seed"), .int s), (.str (Str.ofString "turn"), .int 0)] := by
    show (m2 ρ).bind _ = _
    rw [hs]
    rfl
  refine alls_bind ?_
  show AllS _ ((mOfL ml ρ).bind fun e => (mQ1 (mC (.str (Str.ofString "seed"))) m2 (mQ1 (mC (.str (Str.ofString "turn"))) (mC (.int 0)) mQ0) ρ).bind fun r => .ret ((D.str (Str.ofString "great"), e) :: r))
  rw [e2]
  refine alls_bind ?_
  show AllS _ ((ml ρ).bind fun ds => Tr.ret (D.lst ds))
  refine alls_bind (alls_mono h fun ds hds => alls_ret (alls_ret ?_))
  have e3 : keysD [(D.str (Str.ofString "great"), D.lst ds), (.str (Str.ofString "seed"), .int s), (.str (Str.ofString "turn"), .int 0)] = some [.inr (Str.ofString "great"), .inr (Str.ofString "seed"), .inr (Str.ofString "turn")] := rfl
  rw [e3]
  show AllS _ (if ([.inr (Str.ofString "great"), .inr (Str.ofString "seed"), .inr (Str.ofString "turn")] : List Key).Nodup ∧ ([.inr (Str.ofString "great"), .inr (Str.ofString "seed"), .inr (Str.ofString "turn")] : List Key).length ≤ 15 then _ else _)
  rw [if_pos (by decide)]
  exact alls_ret ⟨ds, hds, rfl⟩
theorem great_alls {a b : Option D} {bs : List Int} {s : Int} (hl : bs.length ≤ 60) : AllS (fun ys => ∃ gs : List Int, gs.length ≤ 60 ∧ ys = gs.map D.int) (mGreat [a, some (.lst (bs.map D.int)), some (.int s), b]) := by
  have hi : iSeqM (mVar 1) [a, some (.lst (bs.map D.int)), some (.int s), b] = .ret (bs.map D.int) := rfl
  refine alls_mono (comp_alls (fun y => ∃ i, y = .int i) hi (small1000 (by rw [List.length_map]; omega)) fun d hd => ?_) fun ys h => ?_
  · obtain ⟨i, rfl⟩ := ints_mem hd
    refine ⟨[(3, .int i)], rfl, rfl, ?_⟩
    rw [show setE (wipeE [a, some (D.lst (bs.map D.int)), some (.int s), b] [3]) [(3, D.int i)] = [a, some (.lst (bs.map D.int)), some (.int s), some (.int i)] from rfl]
    have e1 : mBin fPow (mC (.int 10)) (mC (.int 15)) [a, some (.lst (bs.map D.int)), some (.int s), some (.int i)] = .ret (.int (10 ^ 15)) := by rfl
    have e2 : mTest (mBin fGe (mVar 3) (mBin fPow (mC (.int 10)) (mC (.int 15)))) [a, some (.lst (bs.map D.int)), some (.int s), some (.int i)] = .ret (decide ((10 ^ 15 : Int) ≤ i)) := by
      show (mBin fGe (mVar 3) (mBin fPow (mC (.int 10)) (mC (.int 15))) _).bind asB = _
      rw [bin_ret (d := .int i) rfl e1]
      rfl
    rw [e2]
    exact alls_ret fun _ => alls_ret ⟨i, rfl⟩
  · obtain ⟨gs, rfl⟩ := isInts h.2
    have := h.1
    rw [List.length_map, List.length_map] at this
    exact ⟨gs, Nat.le_trans this hl, rfl⟩
/-- what the tray is, for any script -/
theorem deck_all {ns : List Int} (hl : ns.length ≤ 63) : AllS (fun d => ∃ gs s, gs.length ≤ 60 ∧ d = deckD gs s) (g__law_deck [.seq (ns.map D.int)]) := by
  have e0 : g__law_deck = defG 1 4 m__law_deck := rfl
  rw [e0, m_deck]
  refine def_alls rfl ?_
  rw [show startE 4 [D.seq (ns.map D.int)] = [.val (.seq (ns.map D.int)), .no, .no, .no] from rfl]
  refine seq_alls (alls_mono (par_lv (ρ := [.val (.seq (ns.map D.int)), .no, .no, .no]) (cells_alls hl) seed_ret) fun o ho => ?_)
  obtain ⟨ds, ⟨bs, hb, rfl⟩, rfl⟩ := ho
  refine ⟨_, rfl, ?_⟩
  rw [show (List.set [Sv.val (D.seq (ns.map D.int)), .no, .no, .no] 1 (.own (bs.map D.int))).set 2 (.val (.int (15724051 + 7 * ((ns.map D.int).length : Int)))) = [.val (.seq (ns.map D.int)), .own (bs.map D.int), .val (.int (15724051 + 7 * ((ns.map D.int).length : Int))), .no] from rfl]
  refine seq_alls (alls_mono (for_alls (ds := bs.map D.int) (fun ρ => ∃ s y, ρ = [.val (.seq (ns.map D.int)), .val (.lst (bs.map D.int)), .val (.int s), y]) rfl (fun ρ d i m => ?_) ⟨_, _, rfl⟩) fun o ho => ?_)
  · obtain ⟨s, y, rfl⟩ := i
    obtain ⟨n, rfl⟩ := ints_mem m
    refine ⟨[(3, .int n)], rfl, ?_⟩
    refine asg_alls ?_
    rw [show view (frz (setS [Sv.val (D.seq (ns.map D.int)), .val (.lst (bs.map D.int)), .val (.int s), y] [(3, D.int n)]) []) = [some (.seq (ns.map D.int)), some (.lst (bs.map D.int)), some (.int s), some (.int n)] from rfl, stir_ret]
    exact alls_ret ⟨_, rfl, _, _, rfl⟩
  · obtain ⟨ρ', rfl, s, y, rfl⟩ := ho
    refine ⟨_, rfl, ret_alls (alls_mono (out_of (s := s) (great_alls (bs := bs) hb) rfl) fun d hd => ?_)⟩
    obtain ⟨ds, ⟨gs, hg, rfl⟩, rfl⟩ := hd
    exact ⟨_, rfl, gs, s, hg, rfl⟩
end K51
set_option maxHeartbeats 410000
namespace K51
open PySem PySem.Spec L2 Evl Pd
open PyProof.Rows hiding St
section
variable {K : PySem.W.Frag} {ja : JA} {G H : Hp}
theorem inv_dct {v : V} {kvs : List (Key × D)} (q : Dq K ja G v (.dct kvs)) : ∃ (a : Addr) (xs : List V), v = .ref a ∧ G a = some (.dK ((kvs.map (·.1)).zip xs)) ∧ DqA K ja G xs (kvs.map (·.2)) := by
  generalize e : D.dct kvs = d at q
  cases q with
  | dct h l t =>
    rename_i a ks xs ds
    cases e
    have e1 : (ks.zip ds).map (·.1) = ks := zip_fst l
    have e2 : (ks.zip ds).map (·.2) = ds := by
      rw [← List.unzip_snd, List.unzip_zip_right (by omega)]
    rw [e1, e2]
    exact ⟨a, xs, rfl, h, t⟩
  | _ => cases e
theorem deck_at {v : V} {gs : List Int} {s : Int} (q : Dq K ja G v (deckD gs s)) (e : Ex G H) : ∃ p r, v = .ref p ∧ p ≠ r ∧ H p = some (deckO s 0 r) ∧ H r = some (.lst (gs.map V.int)) := by
  obtain ⟨p, xs, rfl, hp, t⟩ := inv_dct q
  have t : DqA K ja G xs [.lst (gs.map D.int), .int s, .int 0] := t
  cases t with
  | cons t1 t =>
    cases t with
    | cons t2 t =>
      cases t with
      | cons t3 t =>
        cases t
        cases t2.inv_int
        cases t3.inv_int
        obtain ⟨r, ys, rfl, hr, ty⟩ := t1.inv_lst
        cases ty.ints
        refine ⟨p, r, rfl, fun z => ?_, e _ _ hp, e _ _ hr⟩
        rw [z, hr] at hp
        cases hp
theorem start_deck {p q : Addr} {s : Int} {bs : List Int} (hpq : p ≠ q) (hb : bs.length ≤ 60) (e1 : H p = some (deckO s 0 q)) (e2 : H q = some (.lst (List.map V.int bs))) : Base jk (some [p, q]) (fun _ => none) H := by
  refine ⟨fun a o h => ?_, fun as h => ?_⟩
  · cases h
  · cases h
    refine ⟨⟨p, q, s, 0, bs, rfl, hpq, hb, ?_⟩, fun _ _ => rfl⟩
    show [H p, H q] = _
    rw [e1, e2]
end
section
variable {K : PySem.W.Frag} {mg : Str → Option Value} {base : Heap} {P : Program} {w : World}
/-- a tray made of the script, ready to draw from -/
def spDeck (K : PySem.W.Frag) : Sp := fun vs H Q _ => ∃ (a : Addr) (ns : List Int), vs = [.ref a] ∧ SqL K H a (ns.map V.int) ∧ ns.length ≤ 63 ∧ ∀ H' p r, Base jk (some [p, r]) (fun _ => none) H' → Q (.ref p) H'
theorem deck_ok {f : Addr} {fd : FuncData} {jk0 : JarK} (F : FnG P w K mg base 1 f fd ["script"] (spT K jk0 g__law_deck)) : FnG P w K mg base 1 f fd ["script"] (spDeck K) := F.less fun {vs H Q E} h => by
  obtain ⟨a, ns, rfl, hS, hl, q⟩ := h
  refine ⟨none, H, [.seq (ns.map D.int)], ⟨Ex.refl H, fun as e => by cases e⟩, .cons (.seq hS DqA.of_ints) .nil, Tr.all_mono (deck_all hl).out fun d hd v G' H' g qd => ?_⟩
  obtain ⟨gs, s, hg, rfl⟩ := hd
  obtain ⟨p, r, rfl, hpr, e1, e2⟩ := deck_at qd g.ex
  exact q H' p r (start_deck hpr hg e1 e2)
end
end K51
set_option maxHeartbeats 410000
namespace K51
open PySem PySem.Spec L2 Evl Pd
open PyProof.Rows hiding St
/-! ### sums of powers -/
def horn (n d : Int) : List Int → Int
  | [] => 0
  | c :: cs => horn n d cs * n + c * d ^ cs.length
theorem horn_snoc (n d : Int) : ∀ (cs : List Int) (c : Int), horn n d (cs ++ [c]) = horn n d cs * d + c * n ^ cs.length
  | [], c => by simp [horn]
  | a :: cs, c => by
    show horn n d (cs ++ [c]) * n + a * d ^ (cs ++ [c]).length = (horn n d cs * n + a * d ^ cs.length) * d + c * n ^ (a :: cs).length
    rw [horn_snoc n d cs c, List.length_append, List.length_singleton, List.length_cons, Int.pow_succ, Int.pow_succ, Int.add_mul, Int.add_mul]
    have e1 : horn n d cs * d * n = horn n d cs * n * d := by rw [Int.mul_assoc, Int.mul_comm d n, ← Int.mul_assoc]
    have e2 : c * n ^ cs.length * n = c * (n ^ cs.length * n) := Int.mul_assoc _ _ _
    have e3 : a * d ^ cs.length * d = a * (d ^ cs.length * d) := Int.mul_assoc _ _ _
    rw [e1, e2, e3]
    omega
structure Fr (n d : Int) : Prop where
  pos : 0 < d
  dn : d.natAbs < 2 ^ 102
  nn : n.natAbs < 2 ^ 102
structure Cf (cs : List Int) : Prop where
  len : cs.length ≤ 12
  sz : ∀ c ∈ cs, c.natAbs < 2 ^ 62
theorem horn_lt {n d : Int} (f : Fr n d) : ∀ {cs : List Int}, (∀ c ∈ cs, c.natAbs < 2 ^ 62) → (horn n d cs).natAbs < 2 ^ (62 + 103 * cs.length)
  | [], _ => by
    show Int.natAbs 0 < _
    exact Nat.two_pow_pos _
  | c :: cs, h => by
    have ih := horn_lt f (cs := cs) fun x hx => h x (List.mem_cons_of_mem _ hx)
    have h1 : (horn n d cs * n).natAbs < 2 ^ (62 + 103 * cs.length + 102) := wide_lt ih f.nn
    have h2 : (c * d ^ cs.length).natAbs < 2 ^ (62 + (102 * cs.length + 1)) := wide_lt (h c (List.mem_cons_self ..)) (pow_lt_of f.dn _)
    have e : 62 + 103 * (c :: cs).length = 62 + 103 * cs.length + 103 := by rw [List.length_cons]; omega
    rw [e]
    exact add_lt_pow h1 h2 (by omega) (by omega)
theorem pow_pos' {d : Int} (h : 0 < d) : ∀ k : Nat, 0 < d ^ k
  | 0 => by rw [Int.pow_zero]; decide
  | k + 1 => by
    rw [Int.pow_succ]
    exact Int.mul_pos (pow_pos' h k) h
/-! ### lowest terms -/
def gcdI (x y : Int) : Int := ((Nat.gcd x.natAbs y.natAbs : Nat) : Int)
def low (x y : Int) : D := .tup [.int (x / gcdI x y), .int (y / gcdI x y)]
theorem gcdI_pos {x y : Int} (h : 0 < y) : 0 < gcdI x y := by
  have : 0 < Nat.gcd x.natAbs y.natAbs := Nat.gcd_pos_of_pos_right _ (by omega)
  unfold gcdI
  omega
theorem gcdI_le {x y : Int} (h : 0 < y) : gcdI x y ≤ y := by
  have : Nat.gcd x.natAbs y.natAbs ≤ y.natAbs := Nat.gcd_le_right _ (by omega)
  unfold gcdI
  omega
theorem gcdI_lt {x y : Int} {b : Nat} (h : 0 < y) (hb : y.natAbs < 2 ^ b) : (gcdI x y).natAbs < 2 ^ b := by
  have h1 := gcdI_le (x := x) h
  have h2 := gcdI_pos (x := x) h
  omega
theorem gcdI_scale {x y d : Int} (h : 0 < d) : gcdI (x * d) (y * d) = gcdI x y * d := by
  unfold gcdI
  rw [Int.natAbs_mul, Int.natAbs_mul, Nat.gcd_mul_right, Int.natCast_mul]
  congr 1
  omega
theorem low_scale {x y d : Int} (h : 0 < d) : low (x * d) (y * d) = low x y := by
  unfold low
  rw [gcdI_scale h, Int.mul_ediv_mul_of_pos_left _ _ h, Int.mul_ediv_mul_of_pos_left _ _ h]
theorem lowest_ret {x y : Int} (h : 0 < y) (hb : y.natAbs < 2 ^ 2000) : g_lowest [.int x, .int y] = .ret (low x y) := by
  have e0 : g_lowest = defG 2 3 m_lowest := rfl
  rw [e0]
  refine def_ret rfl ?_
  rw [show startE 3 [D.int x, D.int y] = [.val (.int x), .val (.int y), .no] from rfl]
  unfold m_lowest
  have e1 : mCall gGcd (mCons (mVar 0) (mCons (mVar 1) mNil)) (view (frz [Sv.val (.int x), .val (.int y), .no] [])) = .ret (.int (gcdI x y)) := rfl
  rw [seq_ret (asg_ret e1)]
  rw [show (frz [Sv.val (.int x), .val (.int y), .no] []).set 2 (.val (.int (gcdI x y))) = [.val (.int x), .val (.int y), .val (.int (gcdI x y))] from rfl]
  have w : CDivW x (gcdI x y) := wide_div (gcdI_pos h) (gcdI_lt h hb) (by decide) (by decide)
  have w2 : CDivW y (gcdI x y) := wide_div (gcdI_pos h) (gcdI_lt h hb) (by decide) (by decide)
  refine ret_ret (tup_ret (ds := [.int (x / gcdI x y), .int (y / gcdI x y)]) (cons_ret ?_ (cons_ret ?_ rfl)) (by show 2 ≤ 1000; decide))
  · exact (bin_ret (d := .int x) (e := .int (gcdI x y)) rfl rfl).trans (div_ret w)
  · exact (bin_ret (d := .int y) (e := .int (gcdI x y)) rfl rfl).trans (div_ret w2)
/-! ### the law's own way -/
def ET : MT := mTest (mBin fGt (mVar 3) (mC (.int 0)))
def EB : MS := mPar 2 3 [] (.v (mVar 3)) (.v (mBin fMod (mCall gInt (mCons (mVar 2) mNil)) (mVar 3)))
def est (x y : Int) (a b : Nat) : SE := [.val (.int x), .val (.int y), .val (.int (a : Int)), .val (.int (b : Int)), .no]
theorem ET_ret (x y : Int) (a b : Nat) : ET (view (frz (est x y a b) [])) = .ret (decide ((0 : Int) < (b : Int))) := by
  unfold ET est
  rfl
theorem EB_ret (x y : Int) (a b : Nat) (h : 0 < b) : EB (est x y a b) = .ret (.nx (est x y b (a % b))) := by
  unfold EB est
  have e2 : mBin fMod (mCall gInt (mCons (mVar 2) mNil)) (mVar 3) (view (frz [Sv.val (.int x), .val (.int y), .val (.int (a : Int)), .val (.int (b : Int)), .no] [])) = .ret (.int (((a % b : Nat) : Int))) :=
    (bin_ret (d := .int (a : Int)) (e := .int (b : Int)) rfl rfl).trans ((mod_ret (by omega)).trans (by rw [Int.natCast_emod]))
  exact par_ret (d := .int (b : Int)) rfl e2
theorem half {a b k : Nat} (hz : 0 < b) (hb : b < 2 ^ (k + 1)) (h : 0 < a % b) : b % (a % b) < 2 ^ k := by
  have h1 : a % b < b := Nat.mod_lt _ hz
  generalize a % b = r at h h1
  rw [Nat.pow_succ] at hb
  by_cases hr : r ≤ 2 ^ k
  · exact Nat.lt_of_lt_of_le (Nat.mod_lt _ h) hr
  · have e : b % r = b - r := by
      rw [Nat.mod_eq_sub_mod (Nat.le_of_lt h1), Nat.mod_eq_of_lt (by omega)]
    omega
theorem eu_ret (x y : Int) : ∀ (k fuel a b : Nat), b < 2 ^ k → 2 * k + 1 ≤ fuel → whileF [] ET EB fuel (est x y a b) = .ret (.nx (est x y (Nat.gcd a b) 0)) := by
  have stop : ∀ fuel a, 1 ≤ fuel → whileF [] ET EB fuel (est x y a 0) = .ret (.nx (est x y a 0)) := fun fuel a h => by
    obtain ⟨f, rfl⟩ : ∃ f, fuel = f + 1 := ⟨fuel - 1, by omega⟩
    exact while_stop (ET_ret x y a 0)
  have go : ∀ fuel a b, 0 < b → 1 ≤ fuel → whileF [] ET EB fuel (est x y a b) = whileF [] ET EB (fuel - 1) (est x y b (a % b)) := fun fuel a b hb h => by
    obtain ⟨f, rfl⟩ : ∃ f, fuel = f + 1 := ⟨fuel - 1, by omega⟩
    refine while_go ((ET_ret x y a b).trans ?_) (EB_ret x y a b hb)
    rw [decide_eq_true (by omega)]
  intro k
  induction k with
  | zero =>
    intro fuel a b hb hf
    have : b = 0 := by simp at hb; omega
    subst this
    rw [stop fuel a (by omega), Nat.gcd_zero_right]
  | succ k ih =>
    intro fuel a b hb hf
    rcases Nat.eq_zero_or_pos b with z | z
    · subst z
      rw [stop fuel a (by omega), Nat.gcd_zero_right]
    · rw [go fuel a b z (by omega)]
      rcases Nat.eq_zero_or_pos (a % b) with z2 | z2
      · rw [z2, stop _ b (by omega)]
        have : Nat.gcd a b = b := by rw [Nat.gcd_comm, Nat.gcd_rec, z2, Nat.gcd_zero_left]
        rw [this]
      · rw [go _ b (a % b) z2 (by omega), ih (fuel - 1 - 1) (a % b) (b % (a % b)) (half z hb z2) (by omega)]
        have e1 : Nat.gcd (a % b) (b % (a % b)) = Nat.gcd b (a % b) := by rw [Nat.gcd_comm b, Nat.gcd_rec (a % b) b, Nat.gcd_comm]
        have e2 : Nat.gcd b (a % b) = Nat.gcd a b := by rw [Nat.gcd_comm a b, Nat.gcd_rec b a, Nat.gcd_comm]
        rw [e1, e2]
theorem m_ratio : m__law_ratio = mSeq (mPar 2 3 [] (.v (mCall gAbs (mCons (mVar 0) mNil))) (.v (mCall gAbs (mCons (mVar 1) mNil))))
    (mSeq (whileF [] ET EB 20000)
    (mSeq (mAsg 4 [] (mIf (mTest (mBin fGt (mVar 1) (mC (.int 0)))) (mC (.int 1)) (mNeg (mC (.int 1)))))
    (mRet [] (mTup (mCons (mBin fDiv (mBin fMul (mVar 4) (mVar 0)) (mVar 2)) (mCons (mBin fDiv (mCall gAbs (mCons (mVar 1) mNil)) (mVar 2)) mNil)))))) := rfl
theorem abs_nat (i : Int) : (if i < 0 then -i else i) = ((i.natAbs : Nat) : Int) := by split <;> omega
theorem ratio_ret {x y : Int} (h : 0 < y) (hx : x.natAbs < 2 ^ 2000) (hb : y.natAbs < 2 ^ 2000) : g__law_ratio [.int x, .int y] = .ret (low x y) := by
  have e0 : g__law_ratio = defG 2 5 m__law_ratio := rfl
  rw [e0, m_ratio]
  refine def_ret rfl ?_
  rw [show startE 5 [D.int x, D.int y] = [.val (.int x), .val (.int y), .no, .no, .no] from rfl]
  have e1 : ∀ i : Int, gAbs [.int i] = .ret (.int ((i.natAbs : Nat) : Int)) := fun i => by
    show Tr.ret (D.int (if i < 0 then -i else i)) = _
    rw [abs_nat]
  have a1 : mCall gAbs (mCons (mVar 0) mNil) (view (frz [Sv.val (.int x), .val (.int y), .no, .no, .no] [])) = .ret (.int ((x.natAbs : Nat) : Int)) := (call_ret (ds := [.int x]) rfl).trans (e1 x)
  have a2 : mCall gAbs (mCons (mVar 1) mNil) (view (frz [Sv.val (.int x), .val (.int y), .no, .no, .no] [])) = .ret (.int ((y.natAbs : Nat) : Int)) := (call_ret (ds := [.int y]) rfl).trans (e1 y)
  rw [seq_ret (par_ret a1 a2)]
  rw [show ((frz [Sv.val (.int x), .val (.int y), .no, .no, .no] []).set 2 (.val (.int ((x.natAbs : Nat) : Int)))).set 3 (.val (.int ((y.natAbs : Nat) : Int))) = est x y x.natAbs y.natAbs from rfl]
  rw [seq_ret (eu_ret x y 2000 20000 _ _ hb (by omega))]
  have e3 : (est x y (Nat.gcd x.natAbs y.natAbs) 0) = [.val (.int x), .val (.int y), .val (.int (gcdI x y)), .val (.int 0), .no] := rfl
  rw [e3]
  have s1 : mIf (mTest (mBin fGt (mVar 1) (mC (.int 0)))) (mC (.int 1)) (mNeg (mC (.int 1))) (view (frz [Sv.val (.int x), .val (.int y), .val (.int (gcdI x y)), .val (.int 0), .no] [])) = .ret (.int 1) := by
    rw [if_ret (c := true)]
    · rfl
    · refine test_ret ((bin_ret (d := .int y) (e := .int 0) rfl rfl).trans ?_)
      show Tr.ret (D.bl (decide (0 < y))) = _
      rw [decide_eq_true h]
  rw [seq_ret (asg_ret s1)]
  rw [show (frz [Sv.val (.int x), .val (.int y), .val (.int (gcdI x y)), .val (.int 0), .no] []).set 4 (.val (.int 1)) = [.val (.int x), .val (.int y), .val (.int (gcdI x y)), .val (.int 0), .val (.int 1)] from rfl]
  have w : CDivW x (gcdI x y) := wide_div (gcdI_pos h) (gcdI_lt h hb) (by decide) (by decide)
  have w2 : CDivW y (gcdI x y) := wide_div (gcdI_pos h) (gcdI_lt h hb) (by decide) (by decide)
  have w3 : CMulW 1 x := wide_mul (a := 1) (b := 2000) (by decide) hx (by decide) (by decide) (by decide)
  refine ret_ret (tup_ret (ds := [.int (x / gcdI x y), .int (y / gcdI x y)]) (cons_ret ?_ (cons_ret ?_ rfl)) (by show 2 ≤ 1000; decide))
  · have m1 : mBin fMul (mVar 4) (mVar 0) (view (frz [Sv.val (.int x), .val (.int y), .val (.int (gcdI x y)), .val (.int 0), .val (.int 1)] [])) = .ret (.int x) := (bin_ret (d := .int 1) (e := .int x) rfl rfl).trans ((mul_ret w3).trans (by rw [Int.one_mul]))
    exact (bin_ret (e := .int (gcdI x y)) m1 rfl).trans (div_ret w)
  · have m1 : mCall gAbs (mCons (mVar 1) mNil) (view (frz [Sv.val (.int x), .val (.int y), .val (.int (gcdI x y)), .val (.int 0), .val (.int 1)] [])) = .ret (.int y) := (call_ret (ds := [.int y]) rfl).trans ((e1 y).trans (by rw [show ((y.natAbs : Nat) : Int) = y by omega]))
    exact (bin_ret (e := .int (gcdI x y)) m1 rfl).trans (div_ret w2)
/-! ### the value of a form -/
def RB : MS := mSeq (mAsg 3 [] (mBin fAdd (mBin fMul (mVar 3) (mVar 1)) (mBin fMul (mVar 5) (mVar 4)))) (mAsg 4 [] (mBin fMul (mVar 4) (mVar 2)))
theorem m_raised : m_raised_value = mSeq (mAsg 3 [] (mC (.int 0))) (mSeq (mAsg 4 [] (mC (.int 1))) (mSeq (mFor (.nm 5) [] (iRevM (mVar 0)) RB) (mRet [] (mVar 3)))) := rfl
theorem asg_bin {i : Nat} {me : MC} {ρ : SE} {d : D} (h : me (view ρ) = .ret d) : mAsg i [] me ρ = .ret (.nx (ρ.set i (.val d))) := asg_ret h
theorem RB_ret {F : D} {n d t p c : Int} (w1 : CMulW t n) (w2 : CMulW c p) (w3 : CMulW p d) :
    RB [.val F, .val (.int n), .val (.int d), .val (.int t), .val (.int p), .val (.int c)] = .ret (.nx [.val F, .val (.int n), .val (.int d), .val (.int (t * n + c * p)), .val (.int (p * d)), .val (.int c)]) := by
  unfold RB
  have e1 : mBin fMul (mVar 3) (mVar 1) (view [.val F, .val (.int n), .val (.int d), .val (.int t), .val (.int p), .val (.int c)]) = .ret (.int (t * n)) := (bin_ret (d := .int t) (e := .int n) rfl rfl).trans (mul_ret w1)
  have e2 : mBin fMul (mVar 5) (mVar 4) (view [.val F, .val (.int n), .val (.int d), .val (.int t), .val (.int p), .val (.int c)]) = .ret (.int (c * p)) := (bin_ret (d := .int c) (e := .int p) rfl rfl).trans (mul_ret w2)
  rw [seq_ret (asg_bin ((bin_ret e1 e2).trans add_ret))]
  rw [show List.set [Sv.val F, .val (.int n), .val (.int d), .val (.int t), .val (.int p), .val (.int c)] 3 (.val (.int (t * n + c * p))) = [.val F, .val (.int n), .val (.int d), .val (.int (t * n + c * p)), .val (.int p), .val (.int c)] from rfl]
  have e3 : mBin fMul (mVar 4) (mVar 2) (view [.val F, .val (.int n), .val (.int d), .val (.int (t * n + c * p)), .val (.int p), .val (.int c)]) = .ret (.int (p * d)) := (bin_ret (d := .int p) (e := .int d) rfl rfl).trans (mul_ret w3)
  exact asg_bin e3
theorem len_of {cs pre post : List Int} {x : Int} (e : cs = pre ++ x :: post) (h : cs.length ≤ 12) : pre.length < 12 := by
  subst e
  simp at h
  omega
theorem raised_ret {cs : List Int} {n d : Int} (f : Fr n d) (c : Cf cs) : g_raised_value [.tup (cs.map D.int), .int n, .int d] = .ret (.int (horn n d cs)) := by
  have e0 : g_raised_value = defG 3 6 m_raised_value := rfl
  rw [e0, m_raised]
  refine def_ret rfl ?_
  generalize hF : D.tup (cs.map D.int) = F
  rw [show startE 6 [F, D.int n, D.int d] = [.val F, .val (.int n), .val (.int d), .no, .no, .no] from rfl]
  rw [seq_ret (asg_ret (d := .int 0) rfl), seq_ret (asg_ret (d := .int 1) rfl)]
  rw [show (frz ((frz [Sv.val F, .val (.int n), .val (.int d), .no, .no, .no] []).set 3 (.val (.int 0))) []).set 4 (.val (.int 1)) = [.val F, .val (.int n), .val (.int d), .val (.int 0), .val (.int 1), .no] from rfl]
  have hi : iRevM (mVar 0) (view (frz [.val F, .val (.int n), .val (.int d), .val (.int 0), .val (.int 1), .no] [])) = .ret (cs.reverse.map D.int) := by
    subst hF
    rw [List.map_reverse]
    rfl
  have lp := for_eq D.int (p := .nm 5) (mB := RB) (fun pre ρ => ∃ x, ρ = [.val F, .val (.int n), .val (.int d), .val (.int (horn n d pre.reverse)), .val (.int (d ^ pre.length)), x]) cs.reverse (fun pre x post ρ e i => ?_) cs.reverse [] [.val F, .val (.int n), .val (.int d), .val (.int 0), .val (.int 1), .no] rfl ⟨.no, by rw [List.length_nil, Int.pow_zero]; rfl⟩
  · obtain ⟨ρ', h1, y, rfl⟩ := lp
    rw [seq_ret ((for_ret hi).trans h1), List.reverse_reverse]
    exact ret_ret rfl
  · obtain ⟨y, rfl⟩ := i
    have hl : pre.length < 12 := len_of e (by rw [List.length_reverse]; exact c.len)
    have hx : ∀ z ∈ x :: pre.reverse, z.natAbs < 2 ^ 62 := fun z hz => c.sz z (List.mem_reverse.mp (by
      rw [e]
      rcases List.mem_cons.mp hz with rfl | hz
      · simp
      · exact List.mem_append_left _ (List.mem_reverse.mp hz)))
    have h1 : (horn n d pre.reverse).natAbs < 2 ^ (62 + 103 * pre.length) := by
      have := horn_lt f (cs := pre.reverse) fun z hz => hx z (List.mem_cons_of_mem _ hz)
      rw [List.length_reverse] at this
      exact this
    have h2 := pow_lt_of f.dn pre.length
    have h3 := hx x (List.mem_cons_self ..)
    refine ⟨[(5, .int x)], _, rfl, RB_ret (wide_mul h1 f.nn (by omega) (by decide) (by omega)) (wide_mul h3 h2 (by decide) (by omega) (by omega)) (wide_mul h2 f.dn (by omega) (by decide) (by omega)), .val (.int x), ?_⟩
    rw [List.reverse_append, List.length_append, List.length_singleton, Int.pow_succ, show horn n d ([x].reverse ++ pre.reverse) = horn n d pre.reverse * n + x * d ^ pre.reverse.length from rfl, List.length_reverse]
def FB : MS := mAsg 4 [] (mBin fMul (mVar 4) (mVar 3))
theorem m_form : m_form_at = mSeq (mUnp (.tp [(.nm 2), (.nm 3)]) [] (mVar 1)) (mSeq (mAsg 4 [] (mC (.int 1))) (mSeq (mFor (.nm 5) [] (iSeqM (mSlT (mVar 0) (mPart (mC (.int 1))) mNoP)) FB)
    (mRet [] (mCall g_lowest (mCons (mCall g_raised_value (mCons (mVar 0) (mCons (mVar 2) (mCons (mVar 3) mNil)))) (mCons (mVar 4) mNil)))))) := rfl
theorem form_ret {cs : List Int} {n d : Int} (f : Fr n d) (c : Cf cs) : g_form_at [.tup (cs.map D.int), .tup [.int n, .int d]] = .ret (low (horn n d cs) (d ^ (cs.length - 1))) := by
  have e0 : g_form_at = defG 2 6 m_form_at := rfl
  rw [e0, m_form]
  refine def_ret rfl ?_
  generalize hF : D.tup (cs.map D.int) = F
  rw [show startE 6 [F, .tup [.int n, .int d]] = [.val F, .val (.tup [.int n, .int d]), .no, .no, .no, .no] from rfl]
  rw [seq_ret (unp_ret (d := .tup [.int n, .int d]) (as := [(2, .int n), (3, .int d)]) rfl rfl), seq_ret (asg_ret (d := .int 1) rfl)]
  rw [show (frz (setS (frz [Sv.val F, .val (.tup [.int n, .int d]), .no, .no, .no, .no] []) [(2, .int n), (3, .int d)]) []).set 4 (.val (.int 1)) = [.val F, .val (.tup [.int n, .int d]), .val (.int n), .val (.int d), .val (.int 1), .no] from rfl]
  have hi : iSeqM (mSlT (mVar 0) (mPart (mC (.int 1))) mNoP) (view (frz [.val F, .val (.tup [.int n, .int d]), .val (.int n), .val (.int d), .val (.int 1), .no] [])) = .ret ((cs.drop 1).map D.int) := by
    subst hF
    rw [List.map_drop, ← drop1]
    rfl
  have lp := for_eq D.int (p := .nm 5) (mB := FB) (fun pre ρ => ∃ x, ρ = [.val F, .val (.tup [.int n, .int d]), .val (.int n), .val (.int d), .val (.int (d ^ pre.length)), x]) (cs.drop 1) (fun pre x post ρ e i => ?_) (cs.drop 1) [] [.val F, .val (.tup [.int n, .int d]), .val (.int n), .val (.int d), .val (.int 1), .no] rfl ⟨.no, by rw [List.length_nil, Int.pow_zero]⟩
  · obtain ⟨ρ', h1, y, rfl⟩ := lp
    rw [seq_ret ((for_ret hi).trans h1), List.length_drop]
    have h2 := pow_lt_of f.dn (cs.length - 1)
    have h3 := c.len
    have e1 : mCall g_raised_value (mCons (mVar 0) (mCons (mVar 2) (mCons (mVar 3) mNil))) (view (frz [.val F, .val (.tup [.int n, .int d]), .val (.int n), .val (.int d), .val (.int (d ^ (cs.length - 1))), y] [])) = .ret (.int (horn n d cs)) := by
      subst hF
      exact (call_ret (ds := [.tup (cs.map D.int), .int n, .int d]) rfl).trans (raised_ret f c)
    exact ret_ret ((call_ret (cons_ret e1 (cons_ret (d := .int (d ^ (cs.length - 1))) rfl rfl))).trans (lowest_ret (pow_pos' f.pos _) (lt_pow_mono h2 (by omega))))
  · obtain ⟨y, rfl⟩ := i
    have hl : pre.length < 12 := len_of e (by rw [List.length_drop]; have := c.len; omega)
    have h2 := pow_lt_of f.dn pre.length
    refine ⟨[(5, .int x)], _, rfl, asg_bin ((bin_ret (d := .int (d ^ pre.length)) (e := .int d) rfl rfl).trans (mul_ret (wide_mul h2 f.dn (by omega) (by decide) (by omega)))), .val (.int x), ?_⟩
    rw [List.length_append, List.length_singleton, Int.pow_succ]
    rfl
/-! ### the law's own sum -/
def SB : MS := mSeq (mPar 2 3 [] (.v (mBin fAdd (mBin fMul (mVar 2) (mBin fIx (mVar 1) (mC (.int 1)))) (mBin fMul (mVar 5) (mVar 4)))) (.v (mBin fMul (mVar 3) (mBin fIx (mVar 1) (mC (.int 1)))))) (mAsg 4 [] (mBin fMul (mVar 4) (mBin fIx (mVar 1) (mC (.int 0)))))
theorem m_summed : m__law_summed = mSeq (mUnp (.tp [(.nm 2), (.nm 3), (.nm 4)]) [] (mTup (mCons (mC (.int 0)) (mCons (mC (.int 1)) (mCons (mC (.int 1)) mNil))))) (mSeq (mFor (.nm 5) [] (iSeqM (mVar 0)) SB)
    (mRet [] (mCall g__law_ratio (mCons (mBin fMul (mVar 2) (mBin fIx (mVar 1) (mC (.int 1)))) (mCons (mVar 3) mNil))))) := rfl
def sst (F : D) (n d t u p : Int) (x : Sv) : SE := [.val F, .val (.tup [.int n, .int d]), .val (.int t), .val (.int u), .val (.int p), x]
theorem SB_ret {F : D} {n d t u p c : Int} (w1 : CMulW t d) (w2 : CMulW c p) (w3 : CMulW u d) (w4 : CMulW p n) : SB (sst F n d t u p (.val (.int c))) = .ret (.nx (sst F n d (t * d + c * p) (u * d) (p * n) (.val (.int c)))) := by
  unfold SB sst
  have e1 : mBin fMul (mVar 2) (mBin fIx (mVar 1) (mC (.int 1))) (view (frz [.val F, .val (.tup [.int n, .int d]), .val (.int t), .val (.int u), .val (.int p), .val (.int c)] [])) = .ret (.int (t * d)) := (bin_ret (d := .int t) (e := .int d) rfl rfl).trans (mul_ret w1)
  have e2 : mBin fMul (mVar 5) (mVar 4) (view (frz [.val F, .val (.tup [.int n, .int d]), .val (.int t), .val (.int u), .val (.int p), .val (.int c)] [])) = .ret (.int (c * p)) := (bin_ret (d := .int c) (e := .int p) rfl rfl).trans (mul_ret w2)
  have e3 : mBin fMul (mVar 3) (mBin fIx (mVar 1) (mC (.int 1))) (view (frz [.val F, .val (.tup [.int n, .int d]), .val (.int t), .val (.int u), .val (.int p), .val (.int c)] [])) = .ret (.int (u * d)) := (bin_ret (d := .int u) (e := .int d) rfl rfl).trans (mul_ret w3)
  rw [seq_ret (par_ret ((bin_ret e1 e2).trans add_ret) e3)]
  rw [show ((frz [Sv.val F, .val (.tup [.int n, .int d]), .val (.int t), .val (.int u), .val (.int p), .val (.int c)] []).set 2 (.val (.int (t * d + c * p)))).set 3 (.val (.int (u * d))) = [.val F, .val (.tup [.int n, .int d]), .val (.int (t * d + c * p)), .val (.int (u * d)), .val (.int p), .val (.int c)] from rfl]
  have e4 : mBin fMul (mVar 4) (mBin fIx (mVar 1) (mC (.int 0))) (view [.val F, .val (.tup [.int n, .int d]), .val (.int (t * d + c * p)), .val (.int (u * d)), .val (.int p), .val (.int c)]) = .ret (.int (p * n)) := (bin_ret (d := .int p) (e := .int n) rfl rfl).trans (mul_ret w4)
  exact asg_bin e4
theorem summed_ret {cs : List Int} {n d : Int} (f : Fr n d) (c : Cf cs) : g__law_summed [.tup (cs.map D.int), .tup [.int n, .int d]] = .ret (low (horn n d cs * d) (d ^ cs.length)) := by
  have e0 : g__law_summed = defG 2 6 m__law_summed := rfl
  rw [e0, m_summed]
  refine def_ret rfl ?_
  generalize hF : D.tup (cs.map D.int) = F
  rw [show startE 6 [F, .tup [.int n, .int d]] = [.val F, .val (.tup [.int n, .int d]), .no, .no, .no, .no] from rfl]
  rw [seq_ret (unp_ret (d := .tup [.int 0, .int 1, .int 1]) (as := [(2, .int 0), (3, .int 1), (4, .int 1)]) (tup_ret (ds := [.int 0, .int 1, .int 1]) rfl (by show 3 ≤ 1000; decide)) rfl)]
  rw [show setS (frz [Sv.val F, .val (.tup [.int n, .int d]), .no, .no, .no, .no] []) [(2, .int 0), (3, .int 1), (4, .int 1)] = sst F n d 0 1 1 .no from rfl]
  have hi : iSeqM (mVar 0) (view (frz (sst F n d 0 1 1 .no) [])) = .ret (cs.map D.int) := by
    subst hF
    unfold sst
    rfl
  have h12 := c.len
  have lp := for_eq D.int (p := .nm 5) (mB := SB) (fun pre ρ => ∃ x, ρ = sst F n d (horn n d pre) (d ^ pre.length) (n ^ pre.length) x) cs (fun pre x post ρ e i => ?_) cs [] (sst F n d 0 1 1 .no) rfl ⟨.no, by rw [List.length_nil, Int.pow_zero, Int.pow_zero]; rfl⟩
  · obtain ⟨ρ', h1, y, rfl⟩ := lp
    rw [seq_ret ((for_ret hi).trans h1)]
    have h2 := pow_lt_of f.dn cs.length
    have h3 := horn_lt f c.sz
    have e1 : mBin fMul (mVar 2) (mBin fIx (mVar 1) (mC (.int 1))) (view (frz (sst F n d (horn n d cs) (d ^ cs.length) (n ^ cs.length) y) [])) = .ret (.int (horn n d cs * d)) := by
      unfold sst
      exact (bin_ret (d := .int (horn n d cs)) (e := .int d) rfl rfl).trans (mul_ret (wide_mul h3 f.dn (by omega) (by decide) (by omega)))
    refine ret_ret ((call_ret (cons_ret e1 (cons_ret (d := .int (d ^ cs.length)) (by unfold sst; rfl) rfl))).trans (ratio_ret (pow_pos' f.pos _) (lt_pow_mono (wide_lt h3 f.dn) (by omega)) (lt_pow_mono h2 (by omega))))
  · obtain ⟨y, rfl⟩ := i
    have hl : pre.length < 12 := len_of e c.len
    have hm : ∀ z ∈ pre, z.natAbs < 2 ^ 62 := fun z hz => c.sz z (by rw [e]; exact List.mem_append_left _ hz)
    have hx : x.natAbs < 2 ^ 62 := c.sz x (by rw [e]; simp)
    have h1 := horn_lt f hm
    have h2 := pow_lt_of f.dn pre.length
    have h3 := pow_lt_of f.nn pre.length
    have st : SB (setS (sst F n d (horn n d pre) (d ^ pre.length) (n ^ pre.length) y) [(5, .int x)]) = .ret (.nx (sst F n d (horn n d pre * d + x * n ^ pre.length) (d ^ pre.length * d) (n ^ pre.length * n) (.val (.int x)))) :=
      SB_ret (wide_mul h1 f.dn (by omega) (by decide) (by omega)) (wide_mul hx h3 (by decide) (by omega) (by omega)) (wide_mul h2 f.dn (by omega) (by decide) (by omega)) (wide_mul h3 f.nn (by omega) (by decide) (by omega))
    exact ⟨[(5, .int x)], _, rfl, st, .val (.int x), by rw [horn_snoc, List.length_append, List.length_singleton, Int.pow_succ, Int.pow_succ]⟩
/-- the two ways come to the same -/
theorem low_same {n d : Int} (f : Fr n d) : ∀ cs : List Int, low (horn n d cs * d) (d ^ cs.length) = low (horn n d cs) (d ^ (cs.length - 1))
  | [] => by
    show low (0 * d) (d ^ 0) = low 0 (d ^ 0)
    rw [Int.zero_mul]
  | c :: cs => by
    rw [List.length_cons, Nat.add_sub_cancel, Int.pow_succ]
    exact low_scale f.pos
end K51
set_option maxHeartbeats 410000
namespace K51
open PySem PySem.Spec L2 Evl Pd
open PyProof.Rows hiding St
/-! ### repr of a list of two tuples of whole numbers -/
def dat (xs ys : List Int) : PyData := .list [.tuple (xs.map PyData.int), .tuple (ys.map PyData.int)]
theorem pys_ints : ∀ xs : List Int, D.pys (xs.map D.int) = some (xs.map PyData.int)
  | [] => rfl
  | x :: xs => by
    show (match D.py (.int x), D.pys (xs.map D.int) with | some a, some b => some (a :: b) | _, _ => none) = _
    rw [pys_ints xs]
    rfl
theorem show_ints : ∀ {xs : List Int}, (∀ x ∈ xs, x.natAbs < 2 ^ 1900) → PyData.showableAll (xs.map PyData.int) = true
  | [], _ => rfl
  | x :: xs, h => by
    show (decide (x.natAbs.log2 < 1920) && PyData.showableAll (xs.map PyData.int)) = true
    have h1 : x.natAbs.log2 < 1900 := PySem.Flt.log2_lt_of (by decide) (h x (List.mem_cons_self ..))
    rw [show_ints fun y hy => h y (List.mem_cons_of_mem _ hy), decide_eq_true (by omega)]
    rfl
theorem nodict_ints : ∀ xs : List Int, PyData.hasDictAll (xs.map PyData.int) = false
  | [] => rfl
  | x :: xs => by
    show (false || PyData.hasDictAll (xs.map PyData.int)) = false
    rw [nodict_ints xs]
    rfl
theorem wts_ints : ∀ {xs : List Int}, (∀ x ∈ xs, x.natAbs < 2 ^ 1900) → wts (xs.map PyData.int) ≤ xs.length * 1904
  | [], _ => by show 0 ≤ _; omega
  | x :: xs, h => by
    show x.natAbs.log2 + 2 + 2 + wts (xs.map PyData.int) ≤ (x :: xs).length * 1904
    have h1 : x.natAbs.log2 < 1900 := PySem.Flt.log2_lt_of (by decide) (h x (List.mem_cons_self ..))
    have := wts_ints fun y hy => h y (List.mem_cons_of_mem _ hy)
    rw [List.length_cons]
    omega
theorem sizeLine_big : 50000 ≤ sizeLine := by decide
theorem sh_dat {xs ys : List Int} (h1 : ∀ x ∈ xs, x.natAbs < 2 ^ 1900) (h2 : ∀ x ∈ ys, x.natAbs < 2 ^ 1900) (l1 : xs.length ≤ 12) (l2 : ys.length ≤ 12) : shOk (dat xs ys) = true := by
  unfold shOk dat
  have e1 : PyData.showable (.list [.tuple (xs.map PyData.int), .tuple (ys.map PyData.int)]) = true := by
    show (PyData.showableAll (xs.map PyData.int) && (PyData.showableAll (ys.map PyData.int) && true)) = true
    rw [show_ints h1, show_ints h2]
    rfl
  have e2 : PyData.hasDict (.list [.tuple (xs.map PyData.int), .tuple (ys.map PyData.int)]) = false := by
    show (PyData.hasDictAll (xs.map PyData.int) || (PyData.hasDictAll (ys.map PyData.int) || false)) = false
    rw [nodict_ints, nodict_ints]
    rfl
  have e3 : PyData.depth (.list [.tuple (xs.map PyData.int), .tuple (ys.map PyData.int)]) = 2 := by
    show max (PyData.depthAll (xs.map PyData.int) + 1) (max (PyData.depthAll (ys.map PyData.int) + 1) 0) + 1 = 2
    rw [depth_ints, depth_ints]
    rfl
  have e4 : wt (.list [.tuple (xs.map PyData.int), .tuple (ys.map PyData.int)]) ≤ sizeLine := by
    show 2 + (3 + wts (xs.map PyData.int) + 2 + (3 + wts (ys.map PyData.int) + 2 + 0)) ≤ sizeLine
    have := wts_ints h1
    have := wts_ints h2
    have := sizeLine_big
    omega
  rw [e1, e2, e3, decide_eq_true e4]
  rfl
theorem repr_two {xs ys : List Int} (h : shOk (dat xs ys) = true) : gRepr [.lst [.tup (xs.map D.int), .tup (ys.map D.int)]] = .ret (.rp (dat xs ys)) := by
  have e : D.pys [.tup (xs.map D.int), .tup (ys.map D.int)] = some [.tuple (xs.map PyData.int), .tuple (ys.map PyData.int)] := by
    show (match (match D.pys (xs.map D.int) with | some a => some (PyData.tuple a) | none => none), (match (match D.pys (ys.map D.int) with | some a => some (PyData.tuple a) | none => none), D.pys [] with | some a, some b => some (a :: b) | _, _ => none) with | some a, some b => some (a :: b) | _, _ => none) = _
    rw [pys_ints, pys_ints]
    rfl
  show (match D.pys [.tup (xs.map D.int), .tup (ys.map D.int)] with | some ps => if shOk (.list ps) = true then Tr.ret (D.rp (.list ps)) else .fail | none => .fail) = _
  rw [e]
  exact if_pos h
theorem pyEqs_ints : ∀ xs : List Int, pyEqs (xs.map PyData.int) (xs.map PyData.int) = true
  | [] => rfl
  | x :: xs => by
    show ((x == x) && pyEqs (xs.map PyData.int) (xs.map PyData.int)) = true
    rw [pyEqs_ints xs]
    simp
theorem eq_dat (xs ys : List Int) : fEq (.rp (dat xs ys)) (.rp (dat xs ys)) = .ret (.bl true) := by
  have e : pyEq (dat xs ys) (dat xs ys) = true := by
    show (pyEqs (xs.map PyData.int) (xs.map PyData.int) && (pyEqs (ys.map PyData.int) (ys.map PyData.int) && true)) = true
    rw [pyEqs_ints, pyEqs_ints]
    rfl
  show (match (if pyEq (dat xs ys) (dat xs ys) = true then some true else none) with | some b => Tr.ret (D.bl b) | none => .fail) = _
  rw [if_pos e]
theorem ediv_small {x g : Int} {b : Nat} (h : x.natAbs < 2 ^ b) : (x / g).natAbs < 2 ^ b := Nat.lt_of_le_of_lt (Int.natAbs_ediv_le_natAbs x g) h
def REP : MC := mCall gRepr (mCons (mOfL (mLst (mCons (mVar 0) (mCons (mVar 1) mNil)))) mNil)
def FAT : MC := mCall g_form_at (mCons (mVar 0) (mCons (mVar 1) mNil))
def FAN : MC := mCallN g_form_at [1, 0] (mCons (mVar 1) (mCons (mVar 0) mNil))
def REQ : MC := mBin fEq (mCall gRepr (mCons (mOfL (mLst (mCons (mVar 5) (mCons FAT mNil)))) mNil)) (mCall gRepr (mCons (mOfL (mLst (mCons (mVar 4) (mCons (mVar 4) mNil)))) mNil))
theorem m_told : m__law_is_told = mSeq (mPar 3 4 [] (.v REP) (.v (mCall g__law_summed (mCons (mVar 0) (mCons (mVar 1) mNil))))) (mSeq (mAsg 5 [] (mIf (mTru (mVar 2)) FAN FAT)) (mRet [] (mAndV REQ (mBin fEq REP (mVar 3))))) := rfl
theorem two_ret {ma mb : MC} {ρ : VE} {d e : D} (h1 : ma ρ = .ret d) (h2 : mb ρ = .ret e) : mCons (mOfL (mLst (mCons ma (mCons mb mNil)))) mNil ρ = .ret [.lst [d, e]] :=
  cons_ret (ofL_ret (lst_ret (cons_ret h1 (cons_ret h2 rfl)) (by show 2 ≤ 1000; decide))) rfl
theorem told_ret {cs : List Int} {n d : Int} (f : Fr n d) (c : Cf cs) (b : Bool) : g__law_is_told [.tup (cs.map D.int), .tup [.int n, .int d], .bl b] = .ret (.bl true) := by
  have e0 : g__law_is_told = defG 3 6 m__law_is_told := rfl
  rw [e0, m_told]
  refine def_ret rfl ?_
  obtain ⟨p, q, hlow, hp, hq⟩ : ∃ p q : Int, low (horn n d cs) (d ^ (cs.length - 1)) = .tup ([p, q].map D.int) ∧ p.natAbs < 2 ^ 1900 ∧ q.natAbs < 2 ^ 1900 := by
    have h1 := horn_lt f c.sz
    have h2 := pow_lt_of f.dn (cs.length - 1)
    have h3 := c.len
    exact ⟨_, _, rfl, ediv_small (lt_pow_mono h1 (by omega)), ediv_small (lt_pow_mono h2 (by omega))⟩
  have hs := (summed_ret f c).trans (congrArg Tr.ret ((low_same f cs).trans hlow))
  have hf := (form_ret f c).trans (congrArg Tr.ret hlow)
  have r1 : gRepr [.lst [.tup (cs.map D.int), .tup ([n, d].map D.int)]] = .ret (.rp (dat cs [n, d])) := repr_two (sh_dat (fun x hx => lt_pow_mono (c.sz x hx) (by omega)) (fun x hx => by
    rcases List.mem_cons.mp hx with rfl | hx
    · exact lt_pow_mono f.nn (by omega)
    · rw [List.mem_singleton.mp hx]
      exact lt_pow_mono f.dn (by omega)) c.len (by show 2 ≤ 12; decide))
  have hpq : ∀ x ∈ [p, q], x.natAbs < 2 ^ 1900 := fun x hx => by
    rcases List.mem_cons.mp hx with rfl | hx
    · exact hp
    · rw [List.mem_singleton.mp hx]
      exact hq
  have r2 : gRepr [.lst [.tup ([p, q].map D.int), .tup ([p, q].map D.int)]] = .ret (.rp (dat [p, q] [p, q])) := repr_two (sh_dat hpq hpq (by show 2 ≤ 12; decide) (by show 2 ≤ 12; decide))
  rw [show D.tup [.int n, .int d] = .tup ([n, d].map D.int) from rfl] at hs hf ⊢
  generalize hF : D.tup (cs.map D.int) = F at hs hf r1 ⊢
  generalize hG : D.tup ([n, d].map D.int) = fr at hs hf r1 ⊢
  generalize hV : D.tup ([p, q].map D.int) = V at hs hf r2 ⊢
  rw [show startE 6 [F, fr, .bl b] = [.val F, .val fr, .val (.bl b), .no, .no, .no] from rfl]
  have v1 : REP (view (frz [Sv.val F, .val fr, .val (.bl b), .no, .no, .no] [])) = .ret (.rp (dat cs [n, d])) := (call_ret (two_ret (d := F) (e := fr) rfl rfl)).trans r1
  have v2 : mCall g__law_summed (mCons (mVar 0) (mCons (mVar 1) mNil)) (view (frz [Sv.val F, .val fr, .val (.bl b), .no, .no, .no] [])) = .ret V := (call_ret (ds := [F, fr]) rfl).trans hs
  rw [seq_ret (par_ret v1 v2)]
  rw [show ((frz [Sv.val F, .val fr, .val (.bl b), .no, .no, .no] []).set 3 (.val (.rp (dat cs [n, d])))).set 4 (.val V) = [.val F, .val fr, .val (.bl b), .val (.rp (dat cs [n, d])), .val V, .no] from rfl]
  have fa : ∀ ρ : VE, mVar 0 ρ = .ret F → mVar 1 ρ = .ret fr → FAT ρ = .ret V := fun ρ h0 h1 => (call_ret (cons_ret h0 (cons_ret h1 rfl))).trans hf
  have fn : ∀ ρ : VE, mVar 0 ρ = .ret F → mVar 1 ρ = .ret fr → FAN ρ = .ret V := fun ρ h0 h1 => by
    show (mCons (mVar 1) (mCons (mVar 0) mNil) ρ).bind _ = _
    rw [cons_ret h1 (cons_ret h0 rfl)]
    exact hf
  have v3 : mIf (mTru (mVar 2)) FAN FAT (view (frz [Sv.val F, .val fr, .val (.bl b), .val (.rp (dat cs [n, d])), .val V, .no] [])) = .ret V := by
    rw [if_ret (c := b) rfl]
    split
    · exact fn _ rfl rfl
    · exact fa _ rfl rfl
  rw [seq_ret (asg_ret v3)]
  rw [show (frz [Sv.val F, .val fr, .val (.bl b), .val (.rp (dat cs [n, d])), .val V, .no] []).set 5 (.val V) = [.val F, .val fr, .val (.bl b), .val (.rp (dat cs [n, d])), .val V, .val V] from rfl]
  refine ret_ret ?_
  have w1 : REQ (view (frz [Sv.val F, .val fr, .val (.bl b), .val (.rp (dat cs [n, d])), .val V, .val V] [])) = .ret (.bl true) :=
    (bin_ret ((call_ret (two_ret (d := V) (e := V) rfl (fa _ rfl rfl))).trans r2) ((call_ret (two_ret (d := V) (e := V) rfl rfl)).trans r2)).trans (eq_dat _ _)
  have w2 : mBin fEq REP (mVar 3) (view (frz [Sv.val F, .val fr, .val (.bl b), .val (.rp (dat cs [n, d])), .val V, .val V] [])) = .ret (.bl true) :=
    (bin_ret ((call_ret (two_ret (d := F) (e := fr) rfl rfl)).trans r1) (e := .rp (dat cs [n, d])) rfl).trans (eq_dat _ _)
  show (REQ _).bind _ = _
  rw [w1]
  exact w2
end K51
set_option maxHeartbeats 410000
namespace K51
open PySem PySem.Spec L2 Evl Pd
open PyProof.Rows hiding St
/-! ### draws -/
theorem alls_bin {f : D → D → Tr D} {ma mb : MC} {ρ : VE} {d : D} {P : D → Prop} (h1 : ma ρ = .ret d) (h2 : AllS (fun e => AllS P (f d e)) (mb ρ)) : AllS P (mBin f ma mb ρ) := by
  show AllS P ((ma ρ).bind _)
  rw [h1]
  show AllS P ((mb ρ).bind fun e => f d e)
  exact alls_bind h2
theorem alls_binL {f : D → D → Tr D} {ma mb : MC} {ρ : VE} {e : D} {P : D → Prop} (h1 : AllS (fun d => AllS P (f d e)) (ma ρ)) (h2 : mb ρ = .ret e) : AllS P (mBin f ma mb ρ) := by
  refine alls_bind (alls_mono h1 fun d hd => ?_)
  rw [h2]
  exact hd
theorem alls_call {g : List D → Tr D} {ml : ML} {ρ : VE} {ds : List D} {P : D → Prop} (h : ml ρ = .ret ds) (k : AllS P (g ds)) : AllS P (mCall g ml ρ) := by
  rw [call_ret h]
  exact k
theorem alls_cons {ma : MC} {ml : ML} {ρ : VE} {Pa : D → Prop} {Pl : List D → Prop} (h1 : AllS Pa (ma ρ)) (h2 : AllS Pl (ml ρ)) : AllS (fun ds => ∃ d es, ds = d :: es ∧ Pa d ∧ Pl es) (mCons ma ml ρ) :=
  alls_bind (alls_mono h1 fun d hd => alls_bind (alls_mono h2 fun es hes => alls_ret ⟨d, es, rfl, hd, hes⟩))
theorem alls_of {α : Type} {P : α → Prop} {t : Tr α} {a : α} (h : t = .ret a) (k : P a) : AllS P t := by
  rw [h]
  exact alls_ret k
theorem draw_alls {m : Int} (h0 : 0 < m) (h : m ≤ 10000000000000000000000000000000) : AllS (fun d => ∃ i, 0 ≤ i ∧ i < m ∧ d = .int i) (g__law_draw [.obj, .int m]) := by
  show AllS _ (if m ≤ 10000000000000000000000000000000 then (if m < 2 then Tr.ret (D.int 0) else Tr.draw m fun i => Tr.ret (D.int i)) else Tr.fail)
  rw [if_pos h]
  split
  · exact alls_ret ⟨0, Int.le_refl _, h0, rfl⟩
  · exact alls_draw h0 fun i a b => alls_ret ⟨i, a, b, rfl⟩
theorem at_nat {ds : List D} {i : Int} (h0 : 0 ≤ i) (h1 : i < ds.length) : ∃ d, d ∈ ds ∧ fIx (.lst ds) (.int i) = .ret d := by
  have hlt : i.toNat < ds.length := by omega
  refine ⟨ds[i.toNat], List.getElem_mem hlt, ?_⟩
  show Tr.ofOpt (atI ds i) = _
  have e : atI ds i = some ds[i.toNat] := by
    unfold atI ixN
    rw [if_pos h0, if_pos h1]
    exact List.getElem?_eq_getElem hlt
  rw [e]
  rfl
theorem pick_alls {ds : List D} (h0 : 0 < ds.length) (h : ds.length ≤ 1000) : AllS (fun d => d ∈ ds) (g__law_pick [.obj, .lst ds]) := by
  have e0 : g__law_pick = defG 2 2 m__law_pick := rfl
  rw [e0]
  refine def_alls rfl ?_
  rw [show startE 2 [D.obj, D.lst ds] = [.val .obj, .val (.lst ds)] from rfl]
  unfold m__law_pick
  refine ret_alls (alls_bin (d := .lst ds) rfl (alls_call (ds := [.obj, .int ds.length]) rfl ?_))
  refine alls_mono (draw_alls (by omega) (by omega)) fun e he => ?_
  obtain ⟨i, i0, i1, rfl⟩ := he
  obtain ⟨d, hd, e⟩ := at_nat i0 i1
  exact alls_of e ⟨_, rfl, hd⟩
/-! ### noughts behind -/
def CT : MT := mAnd (mTest (mBin fNe (mVar 1) (mOfL (mLst mNil)))) (mTest (mBin fEq (mBin fIx (mVar 1) (mNeg (mC (.int 1)))) (mC (.int 0))))
theorem m_cut : m__law_cut = mSeq (mNew 1 [] (mCallL gList (mCons (mVar 0) mNil))) (mSeq (whileF [1] CT (mPopS 1) 13) (mRet [1] (mCall gTuple (mCons (mVar 1) mNil)))) := rfl
theorem ne_nil (xs : List Int) : fNe (.lst (xs.map D.int)) (.lst []) = .ret (.bl (decide (xs ≠ []))) := by
  have e : D.py (.lst (xs.map D.int)) = some (.list (xs.map PyData.int)) := by
    show (match D.pys (xs.map D.int) with | some a => some (PyData.list a) | none => none) = _
    rw [pys_ints]
  have e2 : D.py (.lst []) = some (.list []) := rfl
  show (match (match D.py (.lst (xs.map D.int)), D.py (.lst []) with
    | some p, some q => if SeqAt.shaped p = true ∧ SeqAt.shaped q = true then some (PyData.eqv p q) else none
    | _, _ => none) with | some b => Tr.ret (D.bl !b) | none => .fail) = _
  rw [e, e2]
  show (match (if SeqAt.shaped (.list (xs.map PyData.int)) = true ∧ SeqAt.shaped (.list []) = true then some (PyData.eqv (.list (xs.map PyData.int)) (.list [])) else none) with | some b => Tr.ret (D.bl !b) | none => .fail) = _
  rw [if_pos ⟨shaped_ints xs, by decide +kernel⟩]
  cases xs with
  | nil => rfl
  | cons x xs => rfl
theorem CT_nil {L : D} : CT (view (frz [Sv.val L, .own []] [1])) = .ret false := by
  unfold CT
  rw [and_ret (test_ret ((bin_ret (d := .lst []) (e := .lst []) rfl rfl).trans (ne_nil [])))]
  rfl
theorem CT_snoc {L : D} {xs : List Int} {x : Int} : CT (view (frz [Sv.val L, .own ((xs ++ [x]).map D.int)] [1])) = .ret (x == 0) := by
  unfold CT
  have hv : view (frz [Sv.val L, .own ((xs ++ [x]).map D.int)] [1]) = [some L, some (.lst ((xs ++ [x]).map D.int))] := rfl
  rw [hv, and_ret (test_ret ((bin_ret (d := .lst ((xs ++ [x]).map D.int)) (e := .lst []) rfl rfl).trans (ne_nil _))), decide_eq_true (by simp), if_pos rfl]
  have e : mBin fIx (mVar 1) (mNeg (mC (.int 1))) [some L, some (.lst ((xs ++ [x]).map D.int))] = .ret (.int x) := by
    refine (bin_ret (d := .lst ((xs ++ [x]).map D.int)) (e := .int (-1)) rfl rfl).trans ?_
    show Tr.ofOpt (atI ((xs ++ [x]).map D.int) (-1)) = _
    have e : atI ((xs ++ [x]).map D.int) (-1) = some (.int x) := by
      unfold atI ixN
      rw [if_neg (by decide), if_pos (by simp; omega), List.length_map, List.length_append, List.length_singleton]
      show ((xs ++ [x]).map D.int)[(-1 + ((xs.length + 1 : Nat) : Int)).toNat]? = _
      rw [show (-1 + ((xs.length + 1 : Nat) : Int)).toNat = xs.length by omega, List.getElem?_map, List.getElem?_append_right (Nat.le_refl _), Nat.sub_self]
      rfl
    rw [e]
    rfl
  exact test_ret ((bin_ret e (e := .int 0) rfl).trans rfl)
theorem cut_loop {L : D} : ∀ (n : Nat) (xs : List Int), xs.length < n → ∃ ys : List Int, ys.length ≤ xs.length ∧ (∀ y ∈ ys, y ∈ xs) ∧ whileF [1] CT (mPopS 1) n [Sv.val L, .own (xs.map D.int)] = .ret (.nx [Sv.val L, .own (ys.map D.int)])
  | 0, xs, h => by omega
  | n + 1, xs, h => by
    rcases List.eq_nil_or_concat xs with rfl | ⟨ini, x, rfl⟩
    · exact ⟨[], Nat.le_refl _, fun y hy => hy, while_stop CT_nil⟩
    · rw [List.concat_eq_append] at h ⊢
      rw [List.length_append, List.length_singleton] at h ⊢
      by_cases hx : (x == 0) = true
      · obtain ⟨ys, h1, h2, h3⟩ := cut_loop (L := L) n ini (by omega)
        refine ⟨ys, by omega, fun y hy => List.mem_append_left _ (h2 y hy), ?_⟩
        refine (while_go (CT_snoc.trans (by rw [hx])) (ρ' := [Sv.val L, .own (ini.map D.int)]) ?_).trans h3
        unfold mPopS
        show (match ((ini ++ [x]).map D.int)[((ini ++ [x]).map D.int).length - 1]? with
          | some _ => Tr.ret (Out.nx (List.set [Sv.val L, .own ((ini ++ [x]).map D.int)] 1 (.own ((ini ++ [x]).map D.int).dropLast)))
          | none => .fail) = _
        rw [List.map_append, List.length_append, List.map_singleton, List.length_singleton, Nat.add_sub_cancel, List.getElem?_append_right (Nat.le_refl _), Nat.sub_self, List.dropLast_concat]
        rfl
      · refine ⟨ini ++ [x], by rw [List.length_append, List.length_singleton]; omega, fun y hy => hy, while_stop (CT_snoc.trans ?_)⟩
        rw [Bool.eq_false_iff.mpr hx]
theorem cut_ret {xs : List Int} (h : xs.length ≤ 12) : ∃ ys : List Int, ys.length ≤ xs.length ∧ (∀ y ∈ ys, y ∈ xs) ∧ g__law_cut [.lst (xs.map D.int)] = .ret (.tup (ys.map D.int)) := by
  obtain ⟨ys, h1, h2, h3⟩ := cut_loop (L := .lst (xs.map D.int)) 13 xs (by omega)
  refine ⟨ys, h1, h2, ?_⟩
  have e0 : g__law_cut = defG 1 2 m__law_cut := rfl
  rw [e0, m_cut]
  refine def_ret rfl ?_
  rw [show startE 2 [D.lst (xs.map D.int)] = [.val (.lst (xs.map D.int)), .no] from rfl]
  have s1 : mNew 1 [] (mCallL gList (mCons (mVar 0) mNil)) [Sv.val (.lst (xs.map D.int)), .no] = .ret (.nx [Sv.val (.lst (xs.map D.int)), .own (xs.map D.int)]) := rfl
  rw [seq_ret s1, seq_ret h3]
  exact ret_ret rfl
/-! ### a drawn form -/
def small (c : Int) : Prop := c.natAbs ≤ 1000000000000000000
theorem small_lt {c : Int} (h : small c) : c.natAbs < 2 ^ 62 := Nat.lt_of_le_of_lt h (by decide)
def SORT : MC := mCall g__law_pick (mCons (mVar 0) (mCons (mOfL (mLst (mCons (mC (.int 3)) (mCons (mC (.int 9)) (mCons (mBin fPow (mC (.int 10)) (mC (.int 6))) (mCons (mBin fPow (mC (.int 10)) (mC (.int 18))) mNil)))))) mNil))
def OWN : MC := mBin fSub (mCall g__law_draw (mCons (mVar 0) (mCons (mBin fAdd (mBin fMulC (mC (.int 2)) (mVar 1)) (mC (.int 1))) mNil))) (mVar 1)
def ONE : MC := mCall g__law_pick (mCons (mVar 0) (mCons (mOfL (mLst (mCons (mVar 4) (mCons (mVar 4) (mCons (mC (.int 0)) (mCons (mVar 1) (mCons (mBin fSub (mC (.int 0)) (mVar 1)) mNil))))))) mNil))
def DB : MS := mSeq (mAsg 4 [] OWN) (mApp 2 [] ONE)
theorem m_drawn : m__law_drawn_form = mSeq (mAsg 1 [] SORT) (mSeq (mNew 2 [] (mLst mNil)) (mSeq (mFor (.nm 3) [] (iVia rng1 (mCons (mCall g__law_draw (mCons (mVar 0) (mCons (mC (.int 12)) mNil))) mNil)) DB) (mRet [2] (mCall g__law_cut (mCons (mVar 2) mNil))))) := rfl
theorem app_alls {i : Nat} {rd : List Nat} {me : MC} {ρ : SE} {ds : List D} {P : Out → Prop} (hi : (frz ρ rd)[i]? = some (.own ds)) (hl : ds.length < 1000) (h : AllS (fun d => P (.nx ((frz ρ rd).set i (.own (ds ++ [d]))))) (me (view (frz ρ rd)))) : AllS P (mApp i rd me ρ) := by
  show AllS P ((me (view (frz ρ rd))).bind fun d => match (frz ρ rd)[i]? with
    | some (.own ds) => if ds.length < sizeLine then Tr.ret (Out.nx ((frz ρ rd).set i (.own (ds ++ [d])))) else .fail
    | _ => .fail)
  rw [hi]
  refine alls_bind (alls_mono h fun d hd => ?_)
  show AllS P (if ds.length < sizeLine then Tr.ret (Out.nx ((frz ρ rd).set i (.own (ds ++ [d])))) else .fail)
  rw [if_pos (small1000 (Nat.le_of_lt hl))]
  exact alls_ret hd
theorem for_invn {p : Pt} {mB : MS} (N : Nat) (I : Nat → SE → Prop) : ∀ (ds : List D) (k : Nat) (ρ : SE), k + ds.length ≤ N → (∀ k ρ d, k < N → I k ρ → d ∈ ds → ∃ as, p.to d = some as ∧ AllS (fun o => ∃ ρ', o = .nx ρ' ∧ I (k + 1) ρ') (mB (setS ρ as))) → I k ρ → AllS (fun o => ∃ ρ', o = .nx ρ' ∧ I (k + ds.length) ρ') (forF p mB ds ρ)
  | [], k, ρ, _, _, i => alls_ret ⟨ρ, rfl, i⟩
  | d :: ds, k, ρ, hN, h, i => by
    rw [List.length_cons] at hN
    obtain ⟨as, e, h1⟩ := h k ρ d (by omega) i (List.mem_cons_self ..)
    unfold forF
    rw [e]
    refine alls_bind (alls_mono h1 fun o ho => ?_)
    obtain ⟨ρ', rfl, i'⟩ := ho
    refine alls_mono (for_invn N I ds (k + 1) ρ' (by omega) (fun k ρ d n i m => h k ρ d n i (List.mem_cons_of_mem _ m)) i') fun o ho => ?_
    rw [List.length_cons, show k + (ds.length + 1) = k + 1 + ds.length by omega]
    exact ho
def DR (s : Int) (fs : List Int) (x y : Sv) : SE := [.val .obj, .val (.int s), .own (fs.map D.int), x, y]
theorem DB_alls {s : Int} (h0 : 0 < s) (hs : s ≤ 1000000000000000000) {fs : List Int} (hl : fs.length < 1000) (hf : ∀ c ∈ fs, small c) {x y : Sv} : AllS (fun o => ∃ ρ', o = .nx ρ' ∧ ∃ gs x y, gs.length = fs.length + 1 ∧ (∀ c ∈ gs, small c) ∧ ρ' = DR s gs x y) (DB (DR s fs x y)) := by
  unfold DB DR
  have a1 : mBin fAdd (mBin fMulC (mC (.int 2)) (mVar 1)) (mC (.int 1)) (view (frz [.val .obj, .val (.int s), .own (fs.map D.int), x, y] [])) = .ret (.int (2 * s + 1)) :=
    (bin_ret ((bin_ret (d := .int 2) (e := .int s) rfl rfl).trans (mulC_l (by decide))) (e := .int 1) rfl).trans add_ret
  have a2 : AllS (fun d => ∃ i, small i ∧ d = .int i) (OWN (view (frz [.val .obj, .val (.int s), .own (fs.map D.int), x, y] []))) := by
    unfold OWN
    refine alls_binL (e := .int s) (alls_call (ds := [.obj, .int (2 * s + 1)]) (cons_ret rfl (cons_ret a1 rfl)) (alls_mono (draw_alls (by omega) (by omega)) fun d hd => ?_)) rfl
    obtain ⟨i, i0, i1, rfl⟩ := hd
    exact alls_of sub_ret ⟨_, by unfold small; omega, rfl⟩
  refine seq_alls (asg_alls (alls_mono a2 fun d hd => ?_))
  obtain ⟨i, hi, rfl⟩ := hd
  refine ⟨_, rfl, ?_⟩
  rw [show (frz [Sv.val .obj, .val (.int s), .own (fs.map D.int), x, y] []).set 4 (.val (.int i)) = [.val .obj, .val (.int s), .own (fs.map D.int), x, .val (.int i)] from rfl]
  refine app_alls (ds := fs.map D.int) rfl (by rw [List.length_map]; exact hl) ?_
  unfold ONE
  refine alls_call (ds := [.obj, .lst [.int i, .int i, .int 0, .int s, .int (0 - s)]]) (cons_ret rfl (cons_ret (ofL_ret (lst_ret (ds := [.int i, .int i, .int 0, .int s, .int (0 - s)]) rfl (by show 5 ≤ 1000; decide))) rfl)) (alls_mono (pick_alls (by show 0 < 5; decide) (by show 5 ≤ 1000; decide)) fun d hd => ?_)
  obtain ⟨j, hj, rfl⟩ : ∃ j, small j ∧ d = .int j := by
    simp only [List.mem_cons, List.not_mem_nil, or_false] at hd
    rcases hd with h | h | h | h | h
    · exact ⟨_, hi, h⟩
    · exact ⟨_, hi, h⟩
    · exact ⟨_, by unfold small; decide, h⟩
    · exact ⟨_, by unfold small; omega, h⟩
    · exact ⟨_, by unfold small; omega, h⟩
  refine ⟨_, rfl, fs ++ [j], x, .val (.int i), by rw [List.length_append, List.length_singleton], fun c hc => ?_, ?_⟩
  · rcases List.mem_append.mp hc with hc | hc
    · exact hf c hc
    · rw [List.mem_singleton.mp hc]
      exact hj
  · rw [List.map_append]
    rfl
theorem drawn_alls : AllS (fun d => ∃ cs : List Int, cs.length ≤ 11 ∧ (∀ c ∈ cs, small c) ∧ d = .tup (cs.map D.int)) (g__law_drawn_form [.obj]) := by
  have e0 : g__law_drawn_form = defG 1 5 m__law_drawn_form := rfl
  rw [e0, m_drawn]
  refine def_alls rfl ?_
  rw [show startE 5 [D.obj] = [.val .obj, .no, .no, .no, .no] from rfl]
  have s1 : AllS (fun d => ∃ s : Int, 0 < s ∧ s ≤ 1000000000000000000 ∧ d = .int s) (SORT (view (frz [Sv.val .obj, .no, .no, .no, .no] []))) := by
    unfold SORT
    refine alls_call (ds := [.obj, .lst [.int 3, .int 9, .int (10 ^ 6), .int (10 ^ 18)]]) (cons_ret rfl (cons_ret (ofL_ret (lst_ret (ds := [.int 3, .int 9, .int (10 ^ 6), .int (10 ^ 18)]) (by rfl) (by show 4 ≤ 1000; decide))) rfl)) (alls_mono (pick_alls (by show 0 < 4; decide) (by show 4 ≤ 1000; decide)) fun d hd => ?_)
    simp only [List.mem_cons, List.not_mem_nil, or_false] at hd
    rcases hd with h | h | h | h
    · exact ⟨_, by decide, by decide, h⟩
    · exact ⟨_, by decide, by decide, h⟩
    · exact ⟨_, by decide, by decide, h⟩
    · exact ⟨_, by decide, by decide, h⟩
  refine seq_alls (asg_alls (alls_mono s1 fun d hd => ?_))
  obtain ⟨s, h0, hs, rfl⟩ := hd
  refine ⟨_, rfl, ?_⟩
  rw [show (frz [Sv.val .obj, .no, .no, .no, .no] []).set 1 (.val (.int s)) = [.val .obj, .val (.int s), .no, .no, .no] from rfl]
  have s2 : mNew 2 [] (mLst mNil) [Sv.val .obj, .val (.int s), .no, .no, .no] = .ret (.nx (DR s [] .no .no)) := rfl
  rw [seq_ret s2]
  refine seq_alls ?_
  show AllS _ ((iVia rng1 (mCons (mCall g__law_draw (mCons (mVar 0) (mCons (mC (.int 12)) mNil))) mNil) (view (frz (DR s [] .no .no) []))).bind fun ds => forF (.nm 3) DB ds (frz (DR s [] .no .no) []))
  refine alls_bind ?_
  have s3 : AllS (fun ds => ds.length ≤ 11) (iVia rng1 (mCons (mCall g__law_draw (mCons (mVar 0) (mCons (mC (.int 12)) mNil))) mNil) (view (frz (DR s [] .no .no) []))) := by
    show AllS _ ((mCons (mCall g__law_draw (mCons (mVar 0) (mCons (mC (.int 12)) mNil))) mNil _).bind rng1)
    refine alls_bind (alls_mono (alls_cons (Pl := fun es => es = []) (alls_call (ds := [.obj, .int 12]) (by unfold DR; rfl) (draw_alls (by decide) (by decide))) (alls_of rfl rfl)) fun ds hds => ?_)
    obtain ⟨d, es, rfl, ⟨i, i0, i1, rfl⟩, rfl⟩ := hds
    show AllS _ (if -(2 ^ 62) ≤ i ∧ i < 2 ^ 62 then Tr.ret (rangeD 0 i.toNat) else .fail)
    rw [if_pos (by omega)]
    refine alls_ret ?_
    unfold rangeD
    rw [List.length_map, List.length_range]
    omega
  refine alls_mono s3 fun ds hds => ?_
  refine alls_mono (for_invn 11 (fun k ρ => ∃ gs x y, gs.length = k ∧ (∀ c ∈ gs, small c) ∧ ρ = DR s gs x y) ds 0 _ (by omega) (fun k ρ d n i m => ⟨[(3, d)], rfl, ?_⟩) ⟨[], .no, .no, rfl, fun c hc => (by cases hc), rfl⟩) fun o ho => ?_
  · obtain ⟨gs, x, y, h1, h2, rfl⟩ := i
    have e : setS (DR s gs x y) [(3, d)] = DR s gs (.val d) y := rfl
    rw [e]
    refine alls_mono (DB_alls h0 hs (by omega) h2) fun o ho => ?_
    obtain ⟨ρ', rfl, hs, x, y, h3, h4, rfl⟩ := ho
    exact ⟨_, rfl, hs, x, y, by omega, h4, rfl⟩
  · obtain ⟨ρ', rfl, gs, x, y, h1, h2, rfl⟩ := ho
    refine ⟨_, rfl, ?_⟩
    obtain ⟨ys, l1, l2, l3⟩ := cut_ret (xs := gs) (by omega)
    refine ret_alls (alls_call (ds := [.lst (gs.map D.int)]) (by unfold DR; rfl) (alls_of l3 ⟨_, rfl, ys, by omega, fun c hc => h2 c (l2 c hc), rfl⟩))
end K51
set_option maxHeartbeats 410000
namespace K51
open PySem PySem.Spec L2 Evl Pd
open PyProof.Rows hiding St
theorem ifS_ret {rd : List Nat} {mt : MT} {m1 m2 : MS} {ρ : SE} {c : Bool} (h : mt (view (frz ρ rd)) = .ret c) : mIfS rd mt m1 m2 ρ = if c = true then m1 ρ else m2 ρ := by
  show (mt (view (frz ρ rd))).bind _ = _
  rw [h]
  rfl
theorem seq_rt {m1 m2 : MS} {ρ : SE} {P : Out → Prop} (h : AllS (fun o => ∃ d, o = .rt d ∧ P (.rt d)) (m1 ρ)) : AllS P (mSeq m1 m2 ρ) := by
  show AllS P ((m1 ρ).bind _)
  refine alls_bind (alls_mono h fun o ho => ?_)
  obtain ⟨d, rfl, hd⟩ := ho
  exact alls_ret hd
theorem par_alls {i j : Nat} {rd : List Nat} {ma mb : MC} {ρ : SE} {Pa Pb : D → Prop} (h1 : AllS Pa (ma (view (frz ρ rd)))) (h2 : AllS Pb (mb (view (frz ρ rd)))) : AllS (fun o => ∃ d e, Pa d ∧ Pb e ∧ o = .nx (((frz ρ rd).set i (.val d)).set j (.val e))) (mPar i j rd (.v ma) (.v mb) ρ) := by
  show AllS _ (((ma (view (frz ρ rd))).bind fun d => Tr.ret ((frz ρ rd).set i (.val d))).bind fun ρ1 => ((mb (view (frz ρ rd))).bind fun d => Tr.ret (ρ1.set j (.val d))).bind fun ρ2 => Tr.ret (Out.nx ρ2))
  exact alls_bind (alls_bind (alls_mono h1 fun d hd => alls_ret (alls_bind (alls_bind (alls_mono h2 fun e he => alls_ret (alls_ret ⟨d, e, hd, he, rfl⟩))))))
theorem alls_if {mt : MT} {ma mb : MC} {ρ : VE} {c : Bool} {P : D → Prop} (h : mt ρ = .ret c) (h1 : c = true → AllS P (ma ρ)) (h2 : c = false → AllS P (mb ρ)) : AllS P (mIf mt ma mb ρ) := by
  rw [if_ret h]
  cases c with
  | true => exact h1 rfl
  | false => exact h2 rfl
/-! ### a drawn fraction -/
def isFr (v : D) : Prop := ∃ n d, Fr n d ∧ v = .tup [.int n, .int d]
theorem ratio_fr {a b : Int} (ha : a.natAbs < 2 ^ 102) (h0 : 0 < b) (hb : b.natAbs < 2 ^ 102) : ∃ v, isFr v ∧ g__law_ratio [.int a, .int b] = .ret v := by
  refine ⟨low a b, ⟨_, _, ⟨?_, ediv_small hb, ediv_small ha⟩, rfl⟩, ratio_ret h0 (lt_pow_mono ha (by omega)) (lt_pow_mono hb (by omega))⟩
  have h1 := gcdI_le (x := a) h0
  have h2 := gcdI_pos (x := a) h0
  have h3 : 1 ≤ b / gcdI a b := Int.le_ediv_of_mul_le h2 (by omega)
  omega
def SIX : MC := mCall g__law_pick (mCons (mVar 0) (mCons (mOfL (mLst (mCons (mTup (mCons (mC (.int 0)) (mCons (mC (.int 1)) mNil))) (mCons (mTup (mCons (mC (.int 1)) (mCons (mC (.int 1)) mNil))) (mCons (mTup (mCons (mNeg (mC (.int 1))) (mCons (mC (.int 1)) mNil))) (mCons (mTup (mCons (mC (.int 1)) (mCons (mC (.int 2)) mNil))) (mCons (mTup (mCons (mC (.int 2)) (mCons (mC (.int 1)) mNil))) (mCons (mTup (mCons (mBin fPow (mC (.int 10)) (mC (.int 6))) (mCons (mC (.int 1)) mNil))) mNil)))))))) mNil))
def MOST : MC := mIf (mTest (mBin fGt (mVar 1) (mC (.int 2)))) (mCall g__law_pick (mCons (mVar 0) (mCons (mOfL (mLst (mCons (mC (.int 9)) (mCons (mC (.int 99)) (mCons (mBin fPow (mC (.int 10)) (mC (.int 30))) mNil))))) mNil))) (mC (.int 9))
def NUM : MC := mBin fSub (mCall g__law_draw (mCons (mVar 0) (mCons (mBin fMulC (mC (.int 3)) (mVar 2)) mNil))) (mVar 2)
def UND : MC := mBin fAdd (mC (.int 1)) (mCall g__law_draw (mCons (mVar 0) (mCons (mVar 2) mNil)))
theorem m_any : m__law_any_fraction = mSeq (mAsg 1 [] (mCall g__law_draw (mCons (mVar 0) (mCons (mC (.int 6)) mNil)))) (mSeq (mIfS [] (mTest (mBin fEq (mVar 1) (mC (.int 0)))) (mRet [] SIX) mSkip) (mSeq (mAsg 2 [] MOST) (mRet [] (mCall g__law_ratio (mCons NUM (mCons UND mNil)))))) := rfl
def sixD : List D := [.tup [.int 0, .int 1], .tup [.int 1, .int 1], .tup [.int (-1), .int 1], .tup [.int 1, .int 2], .tup [.int 2, .int 1], .tup [.int (10 ^ 6), .int 1]]
theorem fr_mk {n d : Int} (h : 0 < d) (h1 : d ≤ 1000000) (h2 : -1000000 ≤ n) (h3 : n ≤ 1000000) : isFr (.tup [.int n, .int d]) :=
  ⟨n, d, ⟨h, Nat.lt_of_le_of_lt (m := 1000000) (by omega) (by decide), Nat.lt_of_le_of_lt (m := 1000000) (by omega) (by decide)⟩, rfl⟩
theorem six_alls {x y : Sv} : AllS isFr (SIX (view (frz [Sv.val .obj, x, y] []))) := by
  unfold SIX
  refine alls_call (ds := [.obj, .lst sixD]) (cons_ret rfl (cons_ret (ofL_ret (lst_ret (ds := sixD) (by rfl) (by show 6 ≤ 1000; decide))) rfl)) (alls_mono (pick_alls (by show 0 < 6; decide) (by show 6 ≤ 1000; decide)) fun d hd => ?_)
  unfold sixD at hd
  simp only [List.mem_cons, List.not_mem_nil, or_false] at hd
  rcases hd with h | h | h | h | h | h
  all_goals
    rw [h]
    exact fr_mk (by decide) (by decide) (by decide) (by decide)
theorem most_alls {i : Int} {y : Sv} : AllS (fun d => ∃ m : Int, 9 ≤ m ∧ m ≤ 1000000000000000000000000000000 ∧ d = .int m) (MOST (view (frz [Sv.val .obj, .val (.int i), y] []))) := by
  unfold MOST
  refine alls_if (c := decide (2 < i)) rfl (fun _ => ?_) fun _ => alls_ret ⟨9, by decide, by decide, rfl⟩
  refine alls_call (ds := [.obj, .lst [.int 9, .int 99, .int (10 ^ 30)]]) (cons_ret rfl (cons_ret (ofL_ret (lst_ret (ds := [.int 9, .int 99, .int (10 ^ 30)]) (by rfl) (by show 3 ≤ 1000; decide))) rfl)) (alls_mono (pick_alls (by show 0 < 3; decide) (by show 3 ≤ 1000; decide)) fun d hd => ?_)
  simp only [List.mem_cons, List.not_mem_nil, or_false] at hd
  rcases hd with h | h | h
  · exact ⟨_, by decide, by decide, h⟩
  · exact ⟨_, by decide, by decide, h⟩
  · exact ⟨_, by decide, by decide, h⟩
theorem any_alls : AllS isFr (g__law_any_fraction [.obj]) := by
  have e0 : g__law_any_fraction = defG 1 3 m__law_any_fraction := rfl
  rw [e0, m_any]
  refine def_alls rfl ?_
  rw [show startE 3 [D.obj] = [.val .obj, .no, .no] from rfl]
  refine seq_alls (asg_alls (alls_call (ds := [.obj, .int 6]) rfl (alls_mono (draw_alls (by decide) (by decide)) fun d hd => ?_)))
  obtain ⟨i, i0, i1, rfl⟩ := hd
  refine ⟨_, rfl, ?_⟩
  rw [show (frz [Sv.val .obj, .no, .no] []).set 1 (.val (.int i)) = [.val .obj, .val (.int i), .no] from rfl]
  have t1 : mTest (mBin fEq (mVar 1) (mC (.int 0))) (view (frz [Sv.val .obj, .val (.int i), .no] [])) = .ret (i == 0) := rfl
  by_cases h : (i == 0) = true
  · refine seq_rt ?_
    rw [ifS_ret t1, if_pos h]
    exact ret_alls (alls_mono six_alls fun d hd => ⟨_, rfl, _, rfl, hd⟩)
  · rw [seq_ret (ρ' := [Sv.val .obj, .val (.int i), .no]) ((ifS_ret t1).trans (by rw [if_neg h]; rfl))]
    refine seq_alls (asg_alls (alls_mono most_alls fun d hd => ?_))
    obtain ⟨m, m0, m1, rfl⟩ := hd
    refine ⟨_, rfl, ?_⟩
    rw [show (frz [Sv.val .obj, .val (.int i), .no] []).set 2 (.val (.int m)) = [.val .obj, .val (.int i), .val (.int m)] from rfl]
    refine ret_alls ?_
    have b1 : AllS (fun d => ∃ a : Int, a.natAbs < 2 ^ 102 ∧ d = .int a) (NUM (view (frz [Sv.val .obj, .val (.int i), .val (.int m)] []))) := by
      unfold NUM
      refine alls_binL (e := .int m) (alls_call (ds := [.obj, .int (3 * m)]) (cons_ret rfl (cons_ret ((bin_ret (d := .int 3) (e := .int m) rfl rfl).trans (mulC_l (by decide))) rfl)) (alls_mono (draw_alls (by omega) (by omega)) fun d hd => ?_)) rfl
      obtain ⟨j, j0, j1, rfl⟩ := hd
      exact alls_of sub_ret ⟨_, Nat.lt_of_le_of_lt (m := 2000000000000000000000000000000) (by omega) (by decide), rfl⟩
    have b2 : AllS (fun d => ∃ b : Int, 0 < b ∧ b.natAbs < 2 ^ 102 ∧ d = .int b) (UND (view (frz [Sv.val .obj, .val (.int i), .val (.int m)] []))) := by
      unfold UND
      refine alls_bin (d := .int 1) rfl (alls_call (ds := [.obj, .int m]) rfl (alls_mono (draw_alls (by omega) (by omega)) fun d hd => ?_))
      obtain ⟨j, j0, j1, rfl⟩ := hd
      exact alls_of add_ret ⟨_, by omega, Nat.lt_of_le_of_lt (m := 2000000000000000000000000000000) (by omega) (by decide), rfl⟩
    show AllS _ ((mCons NUM (mCons UND mNil) _).bind g__law_ratio)
    refine alls_bind (alls_mono (alls_cons b1 (alls_cons (Pl := fun es => es = []) b2 (alls_of rfl rfl))) fun ds hds => ?_)
    obtain ⟨d, es, rfl, ⟨a, ha, rfl⟩, d2, es2, rfl, ⟨b, hb0, hb, rfl⟩, rfl⟩ := hds
    obtain ⟨v, hv, e⟩ := ratio_fr ha hb0 hb
    exact alls_of e ⟨_, rfl, hv⟩
/-! ### the law -/
abbrev s_law : Stmt := topS 17
theorem sc_law : FnScope ["script", "deck", "turn", "items", "fraction"] ["script"] (defScope s_law) := ⟨rfl, rfl, rfl, by decide +kernel, rfl, by decide +kernel, by decide +kernel⟩
def RF : MS := mRet [] (mC (.bl false))
def TOLD1 : MC := mCall g__law_is_told (mCons (mVar 3) (mCons (mVar 4) (mCons (mBin fEq (mBin fMod (mVar 2) (mC (.int 5))) (mC (.int 1))) mNil)))
def MORE : MC := mIf (mTest (mBin fNe (mVar 3) (mTup mNil))) (mBin fCatT (mTup (mCons (mC (.int 0)) mNil)) (mVar 3)) (mTup mNil)
def TOLD2 : MC := mCall g__law_is_told (mCons MORE (mCons (mVar 4) (mCons (mC (.bl false)) mNil)))
def T2 : MT := mAnd (mTest (mBin fLt (mCall gLen (mCons (mVar 3) mNil)) (mC (.int 11)))) (mNotT (mTru TOLD2))
def LB : MS := mSeq (mPar 3 4 [] (.v (mCall g__law_drawn_form (mCons (mVar 1) mNil))) (.v (mCall g__law_any_fraction (mCons (mVar 1) mNil)))) (mSeq (mIfS [] (mNotT (mTru TOLD1)) RF mSkip) (mIfS [] T2 RF mSkip))
def LE : MC := mCall g__law_is_told (mCons (mTup mNil) (mCons (mCall g__law_any_fraction (mCons (mVar 1) mNil)) (mCons (mC (.bl false)) mNil)))
def mLaw : MS := mSeq (mFor (.nm 2) [] (iVia rng1 (mCons (mC (.int 14)) mNil)) LB) (mRet [] LE)
def LR (x y z : Sv) : SE := [.no, .val .obj, x, y, z]
theorem not_true {m : MC} {ρ : VE} (h : m ρ = .ret (.bl true)) : mNotT (mTru m) ρ = .ret false := by
  show ((m ρ).bind truD).bind _ = _
  rw [h]
  rfl
theorem cf_of {cs : List Int} (h1 : cs.length ≤ 12) (h2 : ∀ c ∈ cs, small c) : Cf cs := ⟨h1, fun c hc => small_lt (h2 c hc)⟩
theorem ne_tup (xs : List Int) : fNe (.tup (xs.map D.int)) (.tup []) = .ret (.bl (decide (xs ≠ []))) := by
  have e : D.py (.tup (xs.map D.int)) = some (.tuple (xs.map PyData.int)) := by
    show (match D.pys (xs.map D.int) with | some a => some (PyData.tuple a) | none => none) = _
    rw [pys_ints]
  have e2 : D.py (.tup []) = some (.tuple []) := rfl
  have sh : SeqAt.shaped (.tuple (xs.map PyData.int)) = true := by
    have := shaped_ints xs
    exact this
  show (match (match D.py (.tup (xs.map D.int)), D.py (.tup []) with
    | some p, some q => if SeqAt.shaped p = true ∧ SeqAt.shaped q = true then some (PyData.eqv p q) else none
    | _, _ => none) with | some b => Tr.ret (D.bl !b) | none => .fail) = _
  rw [e, e2]
  show (match (if SeqAt.shaped (.tuple (xs.map PyData.int)) = true ∧ SeqAt.shaped (.tuple []) = true then some (PyData.eqv (.tuple (xs.map PyData.int)) (.tuple [])) else none) with | some b => Tr.ret (D.bl !b) | none => .fail) = _
  rw [if_pos ⟨sh, by decide +kernel⟩]
  cases xs with
  | nil => rfl
  | cons x xs => rfl
theorem LB_alls {t : Int} {y z : Sv} : AllS (fun o => ∃ ρ', o = .nx ρ' ∧ ∃ x y z, ρ' = LR x y z) (LB (LR (.val (.int t)) y z)) := by
  unfold LB LR
  refine seq_alls (alls_mono (par_alls (alls_call (ds := [.obj]) rfl drawn_alls) (alls_call (ds := [.obj]) rfl any_alls)) fun o ho => ?_)
  obtain ⟨d, e, ⟨cs, h1, h2, rfl⟩, ⟨n, dd, f, rfl⟩, rfl⟩ := ho
  refine ⟨_, rfl, ?_⟩
  have c : Cf cs := cf_of (by omega) h2
  rw [show ((frz [Sv.no, .val .obj, .val (.int t), y, z] []).set 3 (.val (.tup (cs.map D.int)))).set 4 (.val (.tup [.int n, .int dd])) = [.no, .val .obj, .val (.int t), .val (.tup (cs.map D.int)), .val (.tup [.int n, .int dd])] from rfl]
  have q1 : mBin fEq (mBin fMod (mVar 2) (mC (.int 5))) (mC (.int 1)) (view (frz [Sv.no, .val .obj, .val (.int t), .val (.tup (cs.map D.int)), .val (.tup [.int n, .int dd])] [])) = .ret (.bl (t % 5 == 1)) :=
    (bin_ret ((bin_ret (d := .int t) (e := .int 5) rfl rfl).trans (mod_ret (by decide))) (e := .int 1) rfl).trans rfl
  have q2 : TOLD1 (view (frz [Sv.no, .val .obj, .val (.int t), .val (.tup (cs.map D.int)), .val (.tup [.int n, .int dd])] [])) = .ret (.bl true) :=
    (call_ret (cons_ret (d := .tup (cs.map D.int)) rfl (cons_ret (d := .tup [.int n, .int dd]) rfl (cons_ret q1 rfl)))).trans (told_ret f c _)
  rw [seq_ret (ρ' := [Sv.no, .val .obj, .val (.int t), .val (.tup (cs.map D.int)), .val (.tup [.int n, .int dd])]) ((ifS_ret (not_true q2)).trans rfl)]
  have q3 : T2 (view (frz [Sv.no, .val .obj, .val (.int t), .val (.tup (cs.map D.int)), .val (.tup [.int n, .int dd])] [])) = .ret false := by
    unfold T2
    rw [and_ret (c := decide (((cs.map D.int).length : Int) < 11)) rfl]
    split
    · rename_i hl
      have hl := of_decide_eq_true hl
      rw [List.length_map] at hl
      have q4 : ∃ ds : List Int, Cf ds ∧ MORE (view (frz [Sv.no, .val .obj, .val (.int t), .val (.tup (cs.map D.int)), .val (.tup [.int n, .int dd])] [])) = .ret (.tup (ds.map D.int)) := by
        unfold MORE
        rw [if_ret (test_ret ((bin_ret (d := .tup (cs.map D.int)) (e := .tup []) rfl (tup_ret (ds := []) rfl (by show 0 ≤ 1000; decide))).trans (ne_tup cs)))]
        split
        · refine ⟨0 :: cs, cf_of (by rw [List.length_cons]; omega) fun c hc => ?_, ?_⟩
          · rcases List.mem_cons.mp hc with rfl | hc
            · unfold small; decide
            · exact h2 c hc
          · refine (bin_ret (d := .tup [.int 0]) (e := .tup (cs.map D.int)) (tup_ret (ds := [.int 0]) rfl (by show 1 ≤ 1000; decide)) rfl).trans ?_
            show (if [D.int 0].length + (cs.map D.int).length ≤ sizeLine then Tr.ret (D.tup ([D.int 0] ++ cs.map D.int)) else .fail) = _
            rw [if_pos (small_le (by rw [List.length_map, List.length_singleton]; omega))]
            rfl
        · exact ⟨[], cf_of (by show 0 ≤ 12; decide) fun c hc => (by cases hc), tup_ret (ds := []) rfl (by show 0 ≤ 1000; decide)⟩
      obtain ⟨ds, cd, q4⟩ := q4
      exact not_true ((call_ret (cons_ret q4 (cons_ret (d := .tup [.int n, .int dd]) rfl (cons_ret (d := .bl false) rfl rfl)))).trans (told_ret f cd _))
    · rfl
  exact alls_of ((ifS_ret q3).trans rfl) ⟨_, rfl, _, _, _, rfl⟩
theorem law_all : AllS (fun o => o = .rt (.bl true)) (mLaw (LR .no .no .no)) := by
  unfold mLaw
  refine seq_alls (alls_mono (for_alls (ds := rangeD 0 14) (fun ρ => ∃ x y z, ρ = LR x y z) rfl (fun ρ d i m => ?_) ⟨_, _, _, rfl⟩) fun o ho => ?_)
  · obtain ⟨x, y, z, rfl⟩ := i
    obtain ⟨t, rfl⟩ : ∃ t, d = .int t := by
      unfold rangeD at m
      obtain ⟨j, _, e⟩ := List.mem_map.mp m
      exact ⟨_, e.symm⟩
    refine ⟨[(2, .int t)], rfl, ?_⟩
    have e : setS (LR x y z) [(2, .int t)] = LR (.val (.int t)) y z := rfl
    rw [e]
    exact LB_alls
  · obtain ⟨ρ', rfl, x, y, z, rfl⟩ := ho
    refine ⟨_, rfl, ret_alls ?_⟩
    unfold LE
    show AllS _ ((mCons (mTup mNil) (mCons (mCall g__law_any_fraction (mCons (mVar 1) mNil)) (mCons (mC (.bl false)) mNil)) _).bind g__law_is_told)
    have l1 : AllS (fun d => d = .tup (([] : List Int).map D.int)) (mTup mNil (view (frz (LR x y z) []))) := alls_of (tup_ret (ds := []) rfl (by show 0 ≤ 1000; decide)) rfl
    refine alls_bind (alls_mono (alls_cons l1 (alls_cons (alls_call (ds := [.obj]) (by unfold LR; rfl) any_alls) (alls_cons (Pl := fun es => es = []) (alls_of (a := .bl false) rfl (P := fun d => d = .bl false) rfl) (alls_of rfl rfl)))) fun ds hds => ?_)
    obtain ⟨_, _, rfl, rfl, _, _, rfl, ⟨n, d, f, rfl⟩, _, _, rfl, rfl, rfl⟩ := hds
    exact alls_of (told_ret f (cf_of (by show 0 ≤ 12; decide) fun c hc => (by cases hc)) false) rfl
end K51
set_option maxHeartbeats 410000
namespace K51
open PySem PySem.Spec L2 Evl Pd
open PyProof.Rows hiding St
def spLaw (K : PySem.W.Frag) : Sp := fun vs H Q _ => ∃ (at0 : Addr) (ks : List Int), vs = [.ref at0] ∧ SqL K H at0 (ks.map V.int) ∧ ks.length ≤ 63 ∧ ∀ H', Q (.bl true) H'
section
variable {K : PySem.W.Frag} {mg : Str → Option Value} {base : Heap} {P : Program} {w : World}
theorem rest_ok (C__law_drawn_form : Cal P w K mg base jk 5 "_law_drawn_form" ["deck"] kws__law_drawn_form g__law_drawn_form) (C__law_any_fraction : Cal P w K mg base jk 5 "_law_any_fraction" ["deck"] kws__law_any_fraction g__law_any_fraction) (C__law_is_told : Cal P w K mg base jk 5 "_law_is_told" ["items", "fraction", "is_named"] kws__law_is_told g__law_is_told) (b_range : mg "range" = none) (b_len : mg "len" = none)
    (f : Addr) (cdv : Value) (A : Around) (outer : List PySem.Env) (s : Shared) (H : Hp) (E : XK) (ja : JA) (hA : (A.deeper (envOfC "law" (defScope s_law) s.heap.objs.size f cdv)).guards = some []) (hr : Room 5 (A.deeper (envOfC "law" (defScope s_law) s.heap.objs.size f cdv))) :
    BOk (DefX P w K mg base ["script", "deck", "turn", "items", "fraction"] "law" (defScope s_law) f cdv A outer s H E) jk ja (defBody s_law).tail mLaw := by
  have nd : (DefX P w K mg base ["script", "deck", "turn", "items", "fraction"] "law" (defScope s_law) f cdv A outer s H E).N.Nodup := sc_law.nd
  exact (bok_cons (sok_for [] PassesOwn.never rfl (iok_range1 (by rfl) b_range (aok_cons eok_int aok_nil)) (gok_nm 2 nd)
    (bok_cons (sok_par 3 4 [] (ma := (.v (mCall g__law_drawn_form (mCons (mVar 1) mNil)))) (mb := (.v (mCall g__law_any_fraction (mCons (mVar 1) mNil)))) rfl nd (eok_callC C__law_drawn_form hA hr (aok_cons (eok_var 1) aok_nil)) (eok_callC C__law_any_fraction hA hr (aok_cons (eok_var 1) aok_nil)))
    (bok_cons (sok_if [] (tok_notT (tok_truth (eok_callC C__law_is_told hA hr (aok_cons (eok_var 3) (aok_cons (eok_var 4) (aok_cons (eok_cmp (op_eq2 hr.units) r_eq (eok_op op_mod r_mod (eok_var 2) eok_int) eok_int (nomark _)) aok_nil)))))) (bok_one (sok_ret [] eok_bl)) bok_skip)
    (bok_one (sok_if [] (WOk.t (wok_and (tok_cmp op_lt r_lt (eok_bi call_len_seq r_len (by rfl) b_len PySem.boot_len (aok_cons (eok_var 3) aok_nil)) eok_int (nomark _)) (wok_and1 (tok_notT (tok_truth (eok_callC C__law_is_told hA hr (aok_cons (eok_if (tok_cmp (op_ne2 hr.units) r_ne (eok_var 3) (eok_tup aok_nil) (nomark _)) (eok_op op_catA r_catT (eok_tup (aok_cons eok_int aok_nil)) (eok_var 3)) (eok_tup aok_nil)) (aok_cons (eok_var 4) (aok_cons eok_bl aok_nil))))))))) (bok_one (sok_ret [] eok_bl)) bok_skip)))))
    (bok_one (sok_ret [] (eok_callC C__law_is_told hA hr (aok_cons (eok_tup aok_nil) (aok_cons (eok_callC C__law_any_fraction hA hr (aok_cons (eok_var 1) aok_nil)) (aok_cons eok_bl aok_nil)))))))
theorem law_ok {f fk : Addr} {fd fdk : FuncData} (F : Fun K "law" "law" s_law f fd) (Dk : FnG P w K mg base 5 fk fdk ["script"] (spDeck K)) (hm : mg "_law_deck" = some (.ref fk)) (kp : PySem.W.keepIn K (.ref fk) = true) (bd : L2.Binds K fdk ["script"] [])
    (C1 : Cal P w K mg base jk 5 "_law_drawn_form" ["deck"] kws__law_drawn_form g__law_drawn_form) (C2 : Cal P w K mg base jk 5 "_law_any_fraction" ["deck"] kws__law_any_fraction g__law_any_fraction) (C3 : Cal P w K mg base jk 5 "_law_is_told" ["items", "fraction", "is_named"] kws__law_is_told g__law_is_told) (b_range : mg "range" = none) (b_len : mg "len" = none) : FnG P w K mg base 6 f fd ["script"] (spLaw K) := by
  refine bodyG F sc_law (fun {vs H Q E} h => ?_) ?_
  · obtain ⟨a, ns, rfl, _⟩ := h
    rfl
  · intro cdv A outer s H vs Q E hA hr h
    obtain ⟨a, ns, rfl, hS, hl, q⟩ := h
    refine ⟨_, pss_cons (ps_set (i := 1) sc_law.nd rfl (.inl rfl) (pe_callG Dk hA hr (by rfl) hm kp bd (pa_cons (pv 0) pa_nil))) pss_sem, ?_⟩
    refine ⟨.ref a, rfl, a, ns, rfl, hS, hl, fun H1 p qa b0 => ?_⟩
    have s0 : StR (DefX P w K mg base ["script", "deck", "turn", "items", "fraction"] "law" (defScope s_law) f cdv A outer s H E) jk (some [p, qa]) (fun _ => none) H1 (fun _ => none) (fun _ => none) H1 (LR .no .no .no) [some (.ref a), some (.ref p), none, none, none] := by
      unfold LR
      refine ⟨Grow.refl b0, Ex.refl _, Nat.le_refl 5, fun i d h => ?_, fun i ds h => ?_, fun i j ds es _ h1 _ => ?_⟩
      · match i, h with
        | 0, h => cases h
        | 1, h =>
          cases h
          exact ⟨.ref p, rfl, .obj rfl⟩
        | 2, h => cases h
        | 3, h => cases h
        | 4, h => cases h
        | n + 5, h => cases h
      · match i, h with
        | 0, h => cases h
        | 1, h => cases h
        | 2, h => cases h
        | 3, h => cases h
        | 4, h => cases h
        | n + 5, h => cases h
      · match i, h1 with
        | 0, h => cases h
        | 1, h => cases h
        | 2, h => cases h
        | 3, h => cases h
        | 4, h => cases h
        | n + 5, h => cases h
    refine rest_ok C1 C2 C3 b_range b_len f cdv A outer s H E (some [p, qa]) hA hr _ _ _ _ _ _ _ _ b0 s0 (Tr.all_mono law_all.out fun o ho => ?_)
    rw [ho]
    exact fun v G' H' g' q' => by
      cases q'
      exact q H'
end
end K51
set_option maxHeartbeats 400000
namespace K51
open PySem PySem.Spec L2 Evl Pd
open PyProof.Rows hiding St
section
variable {P : Program} {w : World} {K : PySem.W.Frag} {mg : Str → Option Value} {base : Heap}
theorem all_ok {f1 : Addr} {d1 : FuncData} (F1 : Fun K "raised_value" "raised_value" s_raised_value f1 d1) (m1 : mg "raised_value" = some (.ref f1)) {f2 : Addr} {d2 : FuncData} (F2 : Fun K "lowest" "lowest" s_lowest f2 d2) (m2 : mg "lowest" = some (.ref f2)) {f3 : Addr} {d3 : FuncData} (F3 : Fun K "form_at" "form_at" s_form_at f3 d3) (m3 : mg "form_at" = some (.ref f3)) {f4 : Addr} {d4 : FuncData} (F4 : Fun K "_law_deck" "_law_deck" s__law_deck f4 d4) (m4 : mg "_law_deck" = some (.ref f4)) {f5 : Addr} {d5 : FuncData} (F5 : Fun K "_law_draw" "_law_draw" s_draw f5 d5) (m5 : mg "_law_draw" = some (.ref f5)) {f6 : Addr} {d6 : FuncData} (F6 : Fun K "_law_pick" "_law_pick" s__law_pick f6 d6) (m6 : mg "_law_pick" = some (.ref f6)) {f7 : Addr} {d7 : FuncData} (F7 : Fun K "_law_ratio" "_law_ratio" s__law_ratio f7 d7) (m7 : mg "_law_ratio" = some (.ref f7)) {f8 : Addr} {d8 : FuncData} (F8 : Fun K "_law_cut" "_law_cut" s__law_cut f8 d8) (m8 : mg "_law_cut" = some (.ref f8)) {f9 : Addr} {d9 : FuncData} (F9 : Fun K "_law_summed" "_law_summed" s__law_summed f9 d9) (m9 : mg "_law_summed" = some (.ref f9)) {f10 : Addr} {d10 : FuncData} (F10 : Fun K "_law_drawn_form" "_law_drawn_form" s__law_drawn_form f10 d10) (m10 : mg "_law_drawn_form" = some (.ref f10)) {f11 : Addr} {d11 : FuncData} (F11 : Fun K "_law_any_fraction" "_law_any_fraction" s__law_any_fraction f11 d11) (m11 : mg "_law_any_fraction" = some (.ref f11)) {f12 : Addr} {d12 : FuncData} (F12 : Fun K "_law_is_told" "_law_is_told" s__law_is_told f12 d12) (m12 : mg "_law_is_told" = some (.ref f12)) {f13 : Addr} {d13 : FuncData} (F13 : Fun K "law" "law" s_law f13 d13) (b_abs : mg "abs" = none) (b_int : mg "int" = none) (b_len : mg "len" = none) (b_list : mg "list" = none) (b_range : mg "range" = none) (b_repr : mg "repr" = none) (b_reversed : mg "reversed" = none) (b_tuple : mg "tuple" = none) (x_gcd : mg "gcd" = some (.builtin "math.gcd")) : FnG P w K mg base 6 f13 d13 ["script"] (spLaw K) := by
  have C1 := cal_raised_value (P := P) (w := w) (base := base) (jk := jk) F1 m1 b_reversed
  have C2 := cal_lowest (P := P) (w := w) (base := base) (jk := jk) F2 m2 x_gcd
  have C3 := cal_form_at F3 m3 C2 C1
  obtain ⟨fk, dk, Fk, mk, kpk, Bk, _⟩ := cal__law_deck (P := P) (w := w) (base := base) (jk := jk) F4 m4 b_abs b_int b_len
  have B5 := F5.binds (ps := ["deck", "many"]) fun _ _ _ _ _ _ us hl => match us, hl with | [_, _], _ => rfl
  have C5 : Cal P w K mg base jk 1 "_law_draw" ["deck", "many"] kws__law_draw g__law_draw := ⟨f5, d5, draw_ok F5 b_int, m5, F5.kp, B5, fun q hq => by cases hq⟩
  have C6 := cal__law_pick F6 m6 C5 b_len
  have C7 := cal__law_ratio (P := P) (w := w) (base := base) (jk := jk) F7 m7 b_abs b_int
  have C8 := cal__law_cut (P := P) (w := w) (base := base) (jk := jk) F8 m8 b_list b_tuple
  have C9 := cal__law_summed F9 m9 C7
  have C10 := cal__law_drawn_form F10 m10 (C8.deep (by decide)) (C5.deep (by decide)) C6 b_range
  have C11 := cal__law_any_fraction F11 m11 (C5.deep (by decide)) C6 (C7.deep (by decide))
  have C12 := cal__law_is_told F12 m12 C9 C3 b_repr
  exact law_ok F13 ((deck_ok Fk).deep (by decide)) mk kpk Bk (C10.deep (by decide)) (C11.deep (by decide)) (C12.deep (by decide)) b_range b_len
end
theorem all_mk {l : PySem.W.OpenLaw} {w : World} {K : PySem.W.Frag} {h : Heap} {mg : Str → Option Value} {fa : Addr} (X : K.In h) (G : h.Ns mainGlobals mg) (hfa : mg "law" = some (.ref fa))
    {f1 : Addr} {od1 an1 : Option Addr} {sl1 : Array (Option Value)} {oc1 kV1 dc1 pm1 cd1 ct1 : Value} {f2 : Addr} {od2 an2 : Option Addr} {sl2 : Array (Option Value)} {oc2 kV2 dc2 pm2 cd2 ct2 : Value} {f3 : Addr} {od3 an3 : Option Addr} {sl3 : Array (Option Value)} {oc3 kV3 dc3 pm3 cd3 ct3 : Value} {f4 : Addr} {od4 an4 : Option Addr} {sl4 : Array (Option Value)} {oc4 kV4 dc4 pm4 cd4 ct4 : Value} {f5 : Addr} {od5 an5 : Option Addr} {sl5 : Array (Option Value)} {oc5 kV5 dc5 pm5 cd5 ct5 : Value} {f6 : Addr} {od6 an6 : Option Addr} {sl6 : Array (Option Value)} {oc6 kV6 dc6 pm6 cd6 ct6 : Value} {f7 : Addr} {od7 an7 : Option Addr} {sl7 : Array (Option Value)} {oc7 kV7 dc7 pm7 cd7 ct7 : Value} {f8 : Addr} {od8 an8 : Option Addr} {sl8 : Array (Option Value)} {oc8 kV8 dc8 pm8 cd8 ct8 : Value} {f9 : Addr} {od9 an9 : Option Addr} {sl9 : Array (Option Value)} {oc9 kV9 dc9 pm9 cd9 ct9 : Value} {f10 : Addr} {od10 an10 : Option Addr} {sl10 : Array (Option Value)} {oc10 kV10 dc10 pm10 cd10 ct10 : Value} {f11 : Addr} {od11 an11 : Option Addr} {sl11 : Array (Option Value)} {oc11 kV11 dc11 pm11 cd11 ct11 : Value} {f12 : Addr} {od12 an12 : Option Addr} {sl12 : Array (Option Value)} {oc12 kV12 dc12 pm12 cd12 ct12 : Value} {f13 : Addr} {od13 an13 : Option Addr} {sl13 : Array (Option Value)} {oc13 kV13 dc13 pm13 cd13 ct13 : Value}
    (a1 : PySem.W.nsIn K mainGlobals "raised_value" = some (some (.ref f1))) (l1 : K.lookup f1 = some ⟨oc1, od1, .func (PySem.W.fnOf "raised_value" "raised_value" (defArgs s_raised_value) (defBody s_raised_value) (defScope s_raised_value) .none kV1 dc1 pm1 an1 cd1 ct1), sl1⟩) (c1 : PySem.W.codeIn K cd1 "raised_value" = true) (k1 : PySem.W.keepIn K (.ref f1) = true)
    (a2 : PySem.W.nsIn K mainGlobals "lowest" = some (some (.ref f2))) (l2 : K.lookup f2 = some ⟨oc2, od2, .func (PySem.W.fnOf "lowest" "lowest" (defArgs s_lowest) (defBody s_lowest) (defScope s_lowest) .none kV2 dc2 pm2 an2 cd2 ct2), sl2⟩) (c2 : PySem.W.codeIn K cd2 "lowest" = true) (k2 : PySem.W.keepIn K (.ref f2) = true)
    (a3 : PySem.W.nsIn K mainGlobals "form_at" = some (some (.ref f3))) (l3 : K.lookup f3 = some ⟨oc3, od3, .func (PySem.W.fnOf "form_at" "form_at" (defArgs s_form_at) (defBody s_form_at) (defScope s_form_at) .none kV3 dc3 pm3 an3 cd3 ct3), sl3⟩) (c3 : PySem.W.codeIn K cd3 "form_at" = true) (k3 : PySem.W.keepIn K (.ref f3) = true)
    (a4 : PySem.W.nsIn K mainGlobals "_law_deck" = some (some (.ref f4))) (l4 : K.lookup f4 = some ⟨oc4, od4, .func (PySem.W.fnOf "_law_deck" "_law_deck" (defArgs s__law_deck) (defBody s__law_deck) (defScope s__law_deck) .none kV4 dc4 pm4 an4 cd4 ct4), sl4⟩) (c4 : PySem.W.codeIn K cd4 "_law_deck" = true) (k4 : PySem.W.keepIn K (.ref f4) = true)
    (a5 : PySem.W.nsIn K mainGlobals "_law_draw" = some (some (.ref f5))) (l5 : K.lookup f5 = some ⟨oc5, od5, .func (PySem.W.fnOf "_law_draw" "_law_draw" (defArgs s_draw) (defBody s_draw) (defScope s_draw) .none kV5 dc5 pm5 an5 cd5 ct5), sl5⟩) (c5 : PySem.W.codeIn K cd5 "_law_draw" = true) (k5 : PySem.W.keepIn K (.ref f5) = true)
    (a6 : PySem.W.nsIn K mainGlobals "_law_pick" = some (some (.ref f6))) (l6 : K.lookup f6 = some ⟨oc6, od6, .func (PySem.W.fnOf "_law_pick" "_law_pick" (defArgs s__law_pick) (defBody s__law_pick) (defScope s__law_pick) .none kV6 dc6 pm6 an6 cd6 ct6), sl6⟩) (c6 : PySem.W.codeIn K cd6 "_law_pick" = true) (k6 : PySem.W.keepIn K (.ref f6) = true)
    (a7 : PySem.W.nsIn K mainGlobals "_law_ratio" = some (some (.ref f7))) (l7 : K.lookup f7 = some ⟨oc7, od7, .func (PySem.W.fnOf "_law_ratio" "_law_ratio" (defArgs s__law_ratio) (defBody s__law_ratio) (defScope s__law_ratio) .none kV7 dc7 pm7 an7 cd7 ct7), sl7⟩) (c7 : PySem.W.codeIn K cd7 "_law_ratio" = true) (k7 : PySem.W.keepIn K (.ref f7) = true)
    (a8 : PySem.W.nsIn K mainGlobals "_law_cut" = some (some (.ref f8))) (l8 : K.lookup f8 = some ⟨oc8, od8, .func (PySem.W.fnOf "_law_cut" "_law_cut" (defArgs s__law_cut) (defBody s__law_cut) (defScope s__law_cut) .none kV8 dc8 pm8 an8 cd8 ct8), sl8⟩) (c8 : PySem.W.codeIn K cd8 "_law_cut" = true) (k8 : PySem.W.keepIn K (.ref f8) = true)
    (a9 : PySem.W.nsIn K mainGlobals "_law_summed" = some (some (.ref f9))) (l9 : K.lookup f9 = some ⟨oc9, od9, .func (PySem.W.fnOf "_law_summed" "_law_summed" (defArgs s__law_summed) (defBody s__law_summed) (defScope s__law_summed) .none kV9 dc9 pm9 an9 cd9 ct9), sl9⟩) (c9 : PySem.W.codeIn K cd9 "_law_summed" = true) (k9 : PySem.W.keepIn K (.ref f9) = true)
    (a10 : PySem.W.nsIn K mainGlobals "_law_drawn_form" = some (some (.ref f10))) (l10 : K.lookup f10 = some ⟨oc10, od10, .func (PySem.W.fnOf "_law_drawn_form" "_law_drawn_form" (defArgs s__law_drawn_form) (defBody s__law_drawn_form) (defScope s__law_drawn_form) .none kV10 dc10 pm10 an10 cd10 ct10), sl10⟩) (c10 : PySem.W.codeIn K cd10 "_law_drawn_form" = true) (k10 : PySem.W.keepIn K (.ref f10) = true)
    (a11 : PySem.W.nsIn K mainGlobals "_law_any_fraction" = some (some (.ref f11))) (l11 : K.lookup f11 = some ⟨oc11, od11, .func (PySem.W.fnOf "_law_any_fraction" "_law_any_fraction" (defArgs s__law_any_fraction) (defBody s__law_any_fraction) (defScope s__law_any_fraction) .none kV11 dc11 pm11 an11 cd11 ct11), sl11⟩) (c11 : PySem.W.codeIn K cd11 "_law_any_fraction" = true) (k11 : PySem.W.keepIn K (.ref f11) = true)
    (a12 : PySem.W.nsIn K mainGlobals "_law_is_told" = some (some (.ref f12))) (l12 : K.lookup f12 = some ⟨oc12, od12, .func (PySem.W.fnOf "_law_is_told" "_law_is_told" (defArgs s__law_is_told) (defBody s__law_is_told) (defScope s__law_is_told) .none kV12 dc12 pm12 an12 cd12 ct12), sl12⟩) (c12 : PySem.W.codeIn K cd12 "_law_is_told" = true) (k12 : PySem.W.keepIn K (.ref f12) = true)
    (a13 : PySem.W.nsIn K mainGlobals "law" = some (some (.ref f13))) (l13 : K.lookup f13 = some ⟨oc13, od13, .func (PySem.W.fnOf "law" "law" (defArgs s_law) (defBody s_law) (defScope s_law) .none kV13 dc13 pm13 an13 cd13 ct13), sl13⟩) (c13 : PySem.W.codeIn K cd13 "law" = true) (k13 : PySem.W.keepIn K (.ref f13) = true)
    (z1 : PySem.W.nsIn K mainGlobals "abs" = some none) (z2 : PySem.W.nsIn K mainGlobals "int" = some none) (z3 : PySem.W.nsIn K mainGlobals "len" = some none) (z4 : PySem.W.nsIn K mainGlobals "list" = some none) (z5 : PySem.W.nsIn K mainGlobals "range" = some none) (z6 : PySem.W.nsIn K mainGlobals "repr" = some none) (z7 : PySem.W.nsIn K mainGlobals "reversed" = some none) (z8 : PySem.W.nsIn K mainGlobals "tuple" = some none) (g1 : PySem.W.nsIn K mainGlobals "gcd" = some (some (.builtin "math.gcd"))) :
    ∃ fd : FuncData, (∀ (s : Shared) (v : Value), BindsTo s fd ⟨[v], []⟩ [("script", v)]) ∧ ∀ base : Heap, K.In base → base.Ns mainGlobals mg → FnG l.prog w K mg base 6 fa fd ["script"] (spLaw K) := by
  have e := hfa.symm.trans (PySem.W.mg_of X G a13)
  cases e
  have F1 := fun_mk (st := s_raised_value) l1 c1 k1
  have F2 := fun_mk (st := s_lowest) l2 c2 k2
  have F3 := fun_mk (st := s_form_at) l3 c3 k3
  have F4 := fun_mk (st := s__law_deck) l4 c4 k4
  have F5 := fun_mk (st := s_draw) l5 c5 k5
  have F6 := fun_mk (st := s__law_pick) l6 c6 k6
  have F7 := fun_mk (st := s__law_ratio) l7 c7 k7
  have F8 := fun_mk (st := s__law_cut) l8 c8 k8
  have F9 := fun_mk (st := s__law_summed) l9 c9 k9
  have F10 := fun_mk (st := s__law_drawn_form) l10 c10 k10
  have F11 := fun_mk (st := s__law_any_fraction) l11 c11 k11
  have F12 := fun_mk (st := s__law_is_told) l12 c12 k12
  have F13 := fun_mk (st := s_law) l13 c13 k13
  exact ⟨PySem.W.fnOf "law" "law" (defArgs s_law) (defBody s_law) (defScope s_law) .none kV13 dc13 pm13 an13 cd13 ct13, fun s v => .of_eq rfl, fun base _ _ => all_ok F1 (PySem.W.mg_of X G a1) F2 (PySem.W.mg_of X G a2) F3 (PySem.W.mg_of X G a3) F4 (PySem.W.mg_of X G a4) F5 (PySem.W.mg_of X G a5) F6 (PySem.W.mg_of X G a6) F7 (PySem.W.mg_of X G a7) F8 (PySem.W.mg_of X G a8) F9 (PySem.W.mg_of X G a9) F10 (PySem.W.mg_of X G a10) F11 (PySem.W.mg_of X G a11) F12 (PySem.W.mg_of X G a12) F13 (PySem.W.mg_none_of X G z1) (PySem.W.mg_none_of X G z2) (PySem.W.mg_none_of X G z3) (PySem.W.mg_none_of X G z4) (PySem.W.mg_none_of X G z5) (PySem.W.mg_none_of X G z6) (PySem.W.mg_none_of X G z7) (PySem.W.mg_none_of X G z8) (PySem.W.mg_of X G g1)⟩
end K51
open PySem PySem.W PyProof.Rows
set_option maxHeartbeats 0 in
theorem PySem.Challenge.cw_drawnturns_k51_whole_polynomials_at_frac_holds : PySem.Challenge.rw_drawnturns_k51_whole_polynomials_at_frac.Holds := by
  w_on; o_law; k_head; (case hw => w_witness2)
  k_fill
  refine Pd.rowG (l := PySem.Challenge.rw_drawnturns_k51_whole_polynomials_at_frac) (n := 63) (k := 6) (y := "script") (spw := K51.spLaw) rfl (by decide) rfl ⟨rfl, by decide, by decide⟩ (fun w h Y => PySem.W.kIn_of Y) ?F (fun _ _ a ns hl _ hS => ⟨a, ns, rfl, hS, hl, fun _ => rfl⟩)
  case F =>
    intro w mg fa h KX G hmg
    refine' K51.all_mk KX G hmg ?a1 ?l1 ?c1 ?k1 ?a2 ?l2 ?c2 ?k2 ?a3 ?l3 ?c3 ?k3 ?a4 ?l4 ?c4 ?k4 ?a5 ?l5 ?c5 ?k5 ?a6 ?l6 ?c6 ?k6 ?a7 ?l7 ?c7 ?k7 ?a8 ?l8 ?c8 ?k8 ?a9 ?l9 ?c9 ?k9 ?a10 ?l10 ?c10 ?k10 ?a11 ?l11 ?c11 ?k11 ?a12 ?l12 ?c12 ?k12 ?a13 ?l13 ?c13 ?k13 ?z1 ?z2 ?z3 ?z4 ?z5 ?z6 ?z7 ?z8 ?g1
    (case a1 => k_is); (case l1 => k_is); (case c1 => k_is); (case k1 => k_is); (case a2 => k_is); (case l2 => k_is); (case c2 => k_is); (case k2 => k_is); (case a3 => k_is); (case l3 => k_is); (case c3 => k_is); (case k3 => k_is); (case a4 => k_is); (case l4 => k_is); (case c4 => k_is); (case k4 => k_is); (case a5 => k_is); (case l5 => k_is); (case c5 => k_is); (case k5 => k_is); (case a6 => k_is); (case l6 => k_is); (case c6 => k_is); (case k6 => k_is); (case a7 => k_is); (case l7 => k_is); (case c7 => k_is); (case k7 => k_is); (case a8 => k_is); (case l8 => k_is); (case c8 => k_is); (case k8 => k_is); (case a9 => k_is); (case l9 => k_is); (case c9 => k_is); (case k9 => k_is); (case a10 => k_is); (case l10 => k_is); (case c10 => k_is); (case k10 => k_is); (case a11 => k_is); (case l11 => k_is); (case c11 => k_is); (case k11 => k_is); (case a12 => k_is); (case l12 => k_is); (case c12 => k_is); (case k12 => k_is); (case a13 => k_is); (case l13 => k_is); (case c13 => k_is); (case k13 => k_is); (case z1 => k_is); (case z2 => k_is); (case z3 => k_is); (case z4 => k_is); (case z5 => k_is); (case z6 => k_is); (case z7 => k_is); (case z8 => k_is); (case g1 => k_is)
