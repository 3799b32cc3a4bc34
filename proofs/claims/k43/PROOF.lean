import PyProof.Rows.All
import Wide.All
import OpenK.AllK
import Wide.FinOn
import HandS.ForMost
import HandS.ForExc
import HandS.ExcInit
import HandS.Wide
import HandS.IsInst
import HandS.Style
import HandS.StrMore
import HandS.RaiseMore
import HandS.Gcd
import PyProof.ListStr
import HandS.Conv
import HandS.ExcCtx
import HandS.Replace
import PyProof.Rows.SortShellAny
import KE.KExcSuper
import HandS.HotCalls
import HandS.ExcField
import KE.KExcIs
import HandS.Codes
import HandS.ExcOwn
import KE.GoesComp
import HandS.Defaults
import HandS.More
import HandS.CallSlots
import KE.GoesMore
import KE.GoesZip
import KE.GoesEnum
import PyProof.StrOps2
import KE.OsRunLaw
import PySem.Challenge.RW_notbehind_k43_fill_shares
set_option Elab.async false
set_option linter.all false
set_option maxRecDepth 100000
set_option maxHeartbeats 2000000
/-! Nb: data without addresses over the layer's heaps. -/
namespace Nb
open PySem PySem.Spec PyProof.Rows L2
abbrev St := L2.St
/-- data: what a Python value says, tuples and lists by their items -/
inductive D where
  | non | bl (b : Bool) | int (i : Int) | str (x : Str) | ty (n : String)
  | tup (ds : List D) | lst (ds : List D)
  | sto
  | exc (n : Str) (fs : List (Str × D))
  | ins (n : Str) (fs : List (Str × D))
  | dct
/-- what is true of the store's number at k -/
def SOK (k : Nat) (z : Int) : Prop := match k with
  | 0 => 5 ≤ z
  | 1 => 0 ≤ z
  | 2 => 0 ≤ z ∧ z < 2 ^ 61
  | _ => True
def InvS (ns : List Int) : Prop := (5 ≤ ns.length ∧ ns.length ≤ 100000) ∧ ∀ k z, ns[k]? = some z → SOK k z
/-- what stays fixed for a run: the written part, the module's names, the store's address, the exception at hand (its address, class, dict) -/
structure RC where
  K : PySem.W.Frag
  mg : Str → Option Value
  st : Option Addr
  hx : Option (Addr × Addr × Option Addr)
/-- a tuple that is read: tracked and not of M's, or of the written part -/
def TAt (K : PySem.W.Frag) (M : Addr → Prop) (H : Hp) (a : Addr) (xs : List V) : Prop := (Rd H a (.tup xs) ∧ ¬ M a) ∨ SqT K (fun _ => none) a xs
mutual
inductive Rep (R : RC) (M : Addr → Prop) (H : Hp) : V → D → Prop
  | non : Rep R M H .non .non
  | bl (b : Bool) : Rep R M H (.bl b) (.bl b)
  | int (i : Int) : Rep R M H (.int i) (.int i)
  | str (x : Str) : Rep R M H (.str x) (.str x)
  | ty (n : String) : Rep R M H (.ty n) (.ty n)
  | tup {a : Addr} {xs : List V} {ds : List D} : TAt R.K M H a xs → RepL R M H xs ds → Rep R M H (.ref a) (.tup ds)
  | lst {a : Addr} {xs : List V} {ds : List D} : H a = some (.lst xs) → ¬ M a → RepL R M H xs ds → Rep R M H (.ref a) (.lst ds)
  | sto {a : Addr} : R.st = some a → Rep R M H (.ref a) .sto
  | exc0 {a C : Addr} {n : Str} : R.hx = some (a, C, none) → R.mg n = some (.ref C) → Rep R M H (.ref a) (.exc n [])
  | excF {a C d : Addr} {n : Str} {fv : List (Str × V)} {fs : List (Str × D)} : R.hx = some (a, C, some d) → R.mg n = some (.ref C) → H d = some (.xd fv) → ¬ M d → RepF R M H fv fs → Rep R M H (.ref a) (.exc n fs)
  | ins {a C dx : Addr} {n : Str} {fv : List (Str × V)} {fs : List (Str × D)} : H a = some (.ins C dx fv) → ¬ M a → R.mg n = some (.ref C) → RepF R M H fv fs → Rep R M H (.ref a) (.ins n fs)
  | dct {a : Addr} {kvs : List (Key × V)} : H a = some (.dK kvs) → ¬ M a → Rep R M H (.ref a) .dct
inductive RepL (R : RC) (M : Addr → Prop) (H : Hp) : List V → List D → Prop
  | nil : RepL R M H [] []
  | cons {v : V} {d : D} {vs : List V} {ds : List D} : Rep R M H v d → RepL R M H vs ds → RepL R M H (v :: vs) (d :: ds)
inductive RepF (R : RC) (M : Addr → Prop) (H : Hp) : List (Str × V) → List (Str × D) → Prop
  | nil : RepF R M H [] []
  | cons {f : Str} {v : V} {d : D} {vs : List (Str × V)} {ds : List (Str × D)} : Rep R M H v d → RepF R M H vs ds → RepF R M H ((f, v) :: vs) ((f, d) :: ds)
end
/-- what was tracked and is not of M's stands; what is newly of M' was not tracked -/
structure Keep (M M' : Addr → Prop) (H H' : Hp) : Prop where
  k : ∀ a o, H a = some o → ¬ M a → H' a = some o
  m : ∀ a, M' a → M a ∨ H a = none
theorem Keep.refl (M : Addr → Prop) (H : Hp) : Keep M M H H := ⟨fun _ _ h _ => h, fun _ h => .inl h⟩
theorem Keep.trans {M M1 M2 : Addr → Prop} {H H1 H2 : Hp} (a : Keep M M1 H H1) (b : Keep M1 M2 H1 H2) : Keep M M2 H H2 := by
  refine ⟨fun x o h n => b.k x o (a.k x o h n) fun z => ?_, fun x h => ?_⟩
  · rcases a.m x z with z | z
    · exact n z
    · rw [h] at z; cases z
  · rcases b.m x h with z | z
    · exact a.m x z
    · by_cases q : M x
      · exact .inl q
      · refine .inr ?_
        cases e : H x with
        | none => rfl
        | some o => rw [a.k x o e q] at z; cases z
section
variable {R : RC} {M M' : Addr → Prop} {H H' : Hp}
theorem Keep.not (k : Keep M M' H H') {a : Addr} {o : HO} (e : H a = some o) (n : ¬ M a) : ¬ M' a := fun z => by
  rcases k.m a z with z | z
  · exact n z
  · rw [e] at z; cases z
theorem TAt.keep {K : PySem.W.Frag} {a : Addr} {xs : List V} (k : Keep M M' H H') (h : TAt K M H a xs) : TAt K M' H' a xs := by
  rcases h with ⟨h, n⟩ | h
  · rcases h with h | ⟨o, h⟩
    · exact .inl ⟨.inl (k.k a _ h n), k.not h n⟩
    · exact .inl ⟨.inr ⟨o, k.k a _ h n⟩, k.not h n⟩
  · exact .inr h
theorem TAt.sq {K : PySem.W.Frag} {a : Addr} {xs : List V} (h : TAt K M H a xs) : SqT K H a xs := by
  rcases h with ⟨h, _⟩ | h | h
  · exact .inl h
  · rcases h with h | ⟨_, h⟩ <;> cases h
  · exact .inr h
mutual
theorem Rep.keep (k : Keep M M' H H') : ∀ {v : V} {d : D}, Rep R M H v d → Rep R M' H' v d
  | _, _, .non => .non
  | _, _, .bl b => .bl b
  | _, _, .int i => .int i
  | _, _, .str x => .str x
  | _, _, .ty n => .ty n
  | _, _, .tup t l => .tup (t.keep k) (RepL.keep k l)
  | _, _, .lst e n l => .lst (k.k _ _ e n) (k.not e n) (RepL.keep k l)
  | _, _, .sto e => .sto e
  | _, _, .exc0 a b => .exc0 a b
  | _, _, .excF a b c n l => .excF a b (k.k _ _ c n) (k.not c n) (RepF.keep k l)
  | _, _, .ins e n b l => .ins (k.k _ _ e n) (k.not e n) b (RepF.keep k l)
  | _, _, .dct e n => .dct (k.k _ _ e n) (k.not e n)
theorem RepL.keep (k : Keep M M' H H') : ∀ {v : List V} {d : List D}, RepL R M H v d → RepL R M' H' v d
  | _, _, .nil => .nil
  | _, _, .cons a b => .cons (Rep.keep k a) (RepL.keep k b)
theorem RepF.keep (k : Keep M M' H H') : ∀ {v : List (Str × V)} {d : List (Str × D)}, RepF R M H v d → RepF R M' H' v d
  | _, _, .nil => .nil
  | _, _, .cons a b => .cons (Rep.keep k a) (RepF.keep k b)
end
theorem RepL.length : ∀ {v : List V} {d : List D}, RepL R M H v d → v.length = d.length
  | _, _, .nil => rfl
  | _, _, .cons _ b => by rw [List.length_cons, List.length_cons, RepL.length b]
theorem RepL.append : ∀ {v w : List V} {d e : List D}, RepL R M H v d → RepL R M H w e → RepL R M H (v ++ w) (d ++ e)
  | _, _, _, _, .nil, q => q
  | _, _, _, _, .cons a b, q => .cons a (RepL.append b q)
theorem RepL.get : ∀ {vs : List V} {ds : List D} {i : Nat} {d : D}, RepL R M H vs ds → ds[i]? = some d → ∃ v, vs[i]? = some v ∧ Rep R M H v d
  | _, _, _, _, .nil, e => by simp at e
  | _, _, 0, _, .cons a _, e => by simp at e; subst e; exact ⟨_, rfl, a⟩
  | _, _, i + 1, _, .cons _ b, e => by
    obtain ⟨v, h1, h2⟩ := RepL.get (i := i) b (by simpa using e)
    exact ⟨v, by simpa using h1, h2⟩
theorem RepL.drop : ∀ {vs : List V} {ds : List D} (i : Nat), RepL R M H vs ds → RepL R M H (vs.drop i) (ds.drop i)
  | _, _, 0, q => q
  | _, _, _ + 1, .nil => .nil
  | _, _, i + 1, .cons _ b => RepL.drop i b
theorem RepL.take : ∀ {vs : List V} {ds : List D} (i : Nat), RepL R M H vs ds → RepL R M H (vs.take i) (ds.take i)
  | _, _, 0, _ => .nil
  | _, _, _ + 1, .nil => .nil
  | _, _, i + 1, .cons a b => .cons a (RepL.take i b)
theorem RepL.eraseIdx : ∀ {vs : List V} {ds : List D} (i : Nat), RepL R M H vs ds → RepL R M H (vs.eraseIdx i) (ds.eraseIdx i)
  | _, _, _, .nil => .nil
  | _, _, 0, .cons _ b => b
  | _, _, i + 1, .cons a b => .cons a (RepL.eraseIdx i b)
theorem RepL.set {v : V} {d : D} (q : Rep R M H v d) : ∀ {vs : List V} {ds : List D} (i : Nat), RepL R M H vs ds → RepL R M H (vs.set i v) (ds.set i d)
  | _, _, _, .nil => .nil
  | _, _, 0, .cons _ b => .cons q b
  | _, _, i + 1, .cons a b => .cons a (RepL.set q i b)
theorem RepL.reverse : ∀ {vs : List V} {ds : List D}, RepL R M H vs ds → RepL R M H vs.reverse ds.reverse
  | _, _, .nil => .nil
  | _, _, .cons a b => by
    rw [List.reverse_cons, List.reverse_cons]
    exact (RepL.reverse b).append (.cons a .nil)
theorem RepL.ints (ns : List Int) : RepL R M H (ns.map V.int) (ns.map D.int) := by
  induction ns with
  | nil => exact .nil
  | cons n ns ih => exact .cons (.int n) ih
theorem RepL.intsV : ∀ {ns : List Int} {vs : List V}, RepL R M H vs (ns.map D.int) → vs = ns.map V.int
  | [], _, h => by cases h; rfl
  | n :: ns, _, h => by
    cases h with
    | cons a b =>
      cases a
      rw [RepL.intsV b]
      rfl
end
/-! ### the store, the steps of an expression -/
/-- the store's list bears its word -/
def HInv (R : RC) (H : Hp) : Prop := ∀ a, R.st = some a → ∃ ns : List Int, H a = some (.lst (ns.map V.int)) ∧ InvS ns
/-- what an expression may change: the store; new things come -/
structure Stp (R : RC) (H H' : Hp) : Prop where
  k : ∀ a o, H a = some o → R.st ≠ some a → H' a = some o
  s : HInv R H → HInv R H'
theorem Stp.refl (R : RC) (H : Hp) : Stp R H H := ⟨fun _ _ h _ => h, id⟩
theorem Stp.trans {R : RC} {H H1 H2 : Hp} (a : Stp R H H1) (b : Stp R H1 H2) : Stp R H H2 := ⟨fun x o h n => b.k x o (a.k x o h n) n, fun h => b.s (a.s h)⟩
theorem Stp.new {R : RC} {H : Hp} {p : Addr} {o : HO} (h : H p = none) : Stp R H (upd H p o) := by
  refine ⟨fun a u e _ => by rw [upd_ne (ne_of_none e h)]; exact e, fun q a e => ?_⟩
  obtain ⟨ns, h1, h2⟩ := q a e
  exact ⟨ns, by rw [upd_ne (ne_of_none h1 h)]; exact h1, h2⟩
theorem Stp.none {R : RC} {H H' : Hp} (hi : HInv R H) (k : Stp R H H') {a : Addr} (h : H' a = none) : H a = none := by
  cases e : H a with
  | none => rfl
  | some o =>
    by_cases q : R.st = some a
    · obtain ⟨ns, h1, _⟩ := k.s hi a q
      rw [h1] at h; cases h
    · rw [k.k a o e q] at h; cases h
theorem Stp.keep {R : RC} {M : Addr → Prop} {H H' : Hp} (k : Stp R H H') (hm : ∀ a, R.st = some a → M a) : Keep M M H H' :=
  ⟨fun a o h n => k.k a o h fun z => n (hm a z), fun _ h => .inl h⟩
/-! ### a def's activation -/
structure Act where
  R : RC
  H0 : Hp
  M0 : Addr → Prop
  fr : Bool
/-- what holds of an activation at its start -/
structure Act.Ok (A : Act) : Prop where
  inv : HInv A.R A.H0
  st : ∀ a, A.R.st = some a → A.M0 a
  m : ∀ a, A.M0 a → A.H0 a ≠ none
/-- a slot: nothing is known; data; a list of the def's own that may change -/
inductive SD where
  | un | val (d : D) | own (ds : List D)
abbrev DEnv := List SD
def IsOwn (σ : St) (env : DEnv) (a : Addr) : Prop := ∃ (i : Nat) (ds : List D), env[i]? = some (.own ds) ∧ σ[i]? = some (some (.ref a))
def MM (A : Act) (σ : St) (env : DEnv) (a : Addr) : Prop := A.M0 a ∨ IsOwn σ env a
structure ERep (A : Act) (H : Hp) (σ : St) (env : DEnv) : Prop where
  ok : A.Ok
  len : env.length = σ.length
  val : ∀ (i : Nat) (d : D), env[i]? = some (.val d) → ∃ v, σ[i]? = some (some v) ∧ Rep A.R (MM A σ env) H v d
  own : ∀ (i : Nat) (ds : List D), env[i]? = some (.own ds) → ∃ a vs, σ[i]? = some (some (.ref a)) ∧ H a = some (.lst vs) ∧ RepL A.R (MM A σ env) H vs ds ∧ ¬ A.M0 a ∧ A.H0 a = none
  one : ∀ (i j : Nat) (ds es : List D) (a : Addr), env[i]? = some (.own ds) → env[j]? = some (.own es) → σ[i]? = some (some (.ref a)) → σ[j]? = some (some (.ref a)) → i = j
  base : Stp A.R A.H0 H
section
variable {A : Act} {H H' : Hp} {σ : St} {env : DEnv}
theorem ERep.inv (E : ERep A H σ env) : HInv A.R H := E.base.s E.ok.inv
theorem ERep.mst (E : ERep A H σ env) : ∀ a, A.R.st = some a → MM A σ env a := fun a h => .inl (E.ok.st a h)
theorem ERep.keep (E : ERep A H σ env) (k : Stp A.R H H') : Keep (MM A σ env) (MM A σ env) H H' := k.keep E.mst
theorem ERep.mtrk (E : ERep A H σ env) {a : Addr} (h : MM A σ env a) : H a ≠ none := by
  rcases h with h | ⟨i, ds, h1, h2⟩
  · intro z
    exact E.ok.m a h (Stp.none E.ok.inv E.base z)
  · obtain ⟨b, vs, e1, e2, _⟩ := E.own i ds h1
    rw [h2] at e1
    cases e1
    rw [e2]
    intro z
    cases z
theorem ERep.fresh (E : ERep A H σ env) {a : Addr} (h : H a = none) : ¬ MM A σ env a := fun z => E.mtrk z h
theorem ERep.stp (E : ERep A H σ env) (k : Stp A.R H H') : ERep A H' σ env := by
  have kk := E.keep k
  refine ⟨E.ok, E.len, fun i d h => ?_, fun i ds h => ?_, E.one, E.base.trans k⟩
  · obtain ⟨v, h1, h2⟩ := E.val i d h
    exact ⟨v, h1, h2.keep kk⟩
  · obtain ⟨a, vs, h1, h2, h3, h4, h5⟩ := E.own i ds h
    exact ⟨a, vs, h1, k.k a _ h2 fun z => h4 (E.ok.st a z), h3.keep kk, h4, h5⟩
end
/-! ### the judgements -/
abbrev Ex := Str × List (Str × D)
def XRep (R : RC) (M : Addr → Prop) (H : Hp) (cls : Value) (dd : Option Addr) (x : Ex) : Prop :=
  ∃ C, cls = .ref C ∧ R.mg x.1 = some (.ref C) ∧ ((x.2 = [] ∧ dd = none) ∨ ∃ d fv, dd = some d ∧ H d = some (.xd fv) ∧ ¬ M d ∧ RepF R M H fv x.2)
abbrev DE := DEnv → (D → Prop) → (Ex → Prop) → Prop
abbrev DL := DEnv → (List D → Prop) → (Ex → Prop) → Prop
abbrev DB := DEnv → (Bool → Prop) → (Ex → Prop) → Prop
structure KEnd where
  nx : DEnv → Prop
  rt : D → DEnv → Prop
  bk : DEnv → Prop := fun _ => False
  ct : DEnv → Prop := fun _ => False
  ex : Ex → DEnv → Prop
abbrev DS := KEnd → DEnv → Prop
/-- what the def hands back: data; where fr is told, a new list -/
def RetRep (A : Act) (H : Hp) (v : V) (d : D) : Prop := if A.fr = true then ∃ p vs ds, v = .ref p ∧ d = .lst ds ∧ A.H0 p = none ∧ H p = some (.lst vs) ∧ RepL A.R (fun a => A.M0 a ∨ a = p) H vs ds else Rep A.R A.M0 H v d
def XOut (A : Act) (W : WX) (σ : St) (env : DEnv) (H : Hp) (Ed : Ex → Prop) : Prop := ∀ x cls dd H', Stp A.R H H' → XRep A.R (MM A σ env) H' cls dd x → Ed x → W cls dd σ H'
def toE (A : Act) (W : WX) (g : DE) : TE := fun σ H Q => ∃ (env : DEnv) (Qd : D → Prop) (Ed : Ex → Prop), ERep A H σ env ∧ g env Qd Ed ∧
  (∀ v d H', Stp A.R H H' → Rep A.R (MM A σ env) H' v d → Qd d → Q v H') ∧ XOut A W σ env H Ed
def toL (A : Act) (W : WX) (g : DL) : TA := fun σ H Q => ∃ (env : DEnv) (Qd : List D → Prop) (Ed : Ex → Prop), ERep A H σ env ∧ g env Qd Ed ∧
  (∀ v d H', Stp A.R H H' → RepL A.R (MM A σ env) H' v d → Qd d → Q v H') ∧ XOut A W σ env H Ed
def toB (A : Act) (W : WX) (g : DB) : TT := fun σ H Q => ∃ (env : DEnv) (Qd : Bool → Prop) (Ed : Ex → Prop), ERep A H σ env ∧ g env Qd Ed ∧
  (∀ b H', Stp A.R H H' → Qd b → Q b H') ∧ XOut A W σ env H Ed
def toS (A : Act) (W : WX) (s : DS) : TS := fun De σ H => ∃ (env : DEnv) (K : KEnd), ERep A H σ env ∧ s K env ∧
  (∀ σ' H' env', Keep (MM A σ env) (MM A σ' env') H H' → ERep A H' σ' env' → K.nx env' → De.nx σ' H') ∧
  (∀ σ' H' env', Keep (MM A σ env) (MM A σ' env') H H' → ERep A H' σ' env' → K.bk env' → De.bk σ' H') ∧
  (∀ σ' H' env', Keep (MM A σ env) (MM A σ' env') H H' → ERep A H' σ' env' → K.ct env' → De.ct σ' H') ∧
  (∀ v d σ' H' env', ERep A H' σ' env' → RetRep A H' v d → K.rt d env' → De.rt v H') ∧
  (∀ x cls dd σ' H' env', Keep (MM A σ env) (MM A σ' env') H H' → ERep A H' σ' env' → XRep A.R (MM A σ' env') H' cls dd x → K.ex x env' → W cls dd σ' H')
structure GE (X : Cx) (A : Act) (W : WX) (e : Expr) (g : DE) : Prop where
  p : PE X e (toE A W g)
structure GL (X : Cx) (A : Act) (W : WX) (es : List Expr) (g : DL) : Prop where
  p : PA X es (toL A W g)
structure GT (X : Cx) (A : Act) (W : WX) (e : Expr) (g : DB) : Prop where
  p : PT X e (toB A W g)
structure GS (X : Cx) (A : Act) (W : WX) (s : Stmt) (g : DS) : Prop where
  p : PS X s (toS A W g)
structure GSs (X : Cx) (A : Act) (W : WX) (s : List Stmt) (g : DS) : Prop where
  p : PSs X s (toS A W g)
section
variable {X : Cx} {A : Act} {W : WX}
theorem pe_imp {e : Expr} {t t' : TE} (h : PE X e t) (i : ∀ σ H Q, t' σ H Q → t σ H Q) : PE X e t' := ⟨fun pins s σ H Q I w => h.run pins s σ H Q I (i σ H Q w)⟩
theorem pa_imp {e : List Expr} {t t' : TA} (h : PA X e t) (i : ∀ σ H Q, t' σ H Q → t σ H Q) : PA X e t' := ⟨fun pos pins s σ H Q I w => h.run pos pins s σ H Q I (i σ H Q w)⟩
theorem pt_imp {e : Expr} {t t' : TT} (h : PT X e t) (i : ∀ σ H Q, t' σ H Q → t σ H Q) : PT X e t' := ⟨fun pins s σ H Q I w => h.run pins s σ H Q I (i σ H Q w)⟩
theorem ps_imp {e : Stmt} {t t' : TS} (h : PS X e t) (i : ∀ De σ H, t' De σ H → t De σ H) : PS X e t' := ⟨fun pins s σ H De I w => h.run pins s σ H De I (i De σ H w)⟩
theorem pss_imp {e : List Stmt} {t t' : TS} (h : PSs X e t) (i : ∀ De σ H, t' De σ H → t De σ H) : PSs X e t' := ⟨fun pins s σ H De I w => h.run pins s σ H De I (i De σ H w)⟩
theorem XOut.stp {σ : St} {env : DEnv} {H H' : Hp} {Ed : Ex → Prop} (x : XOut A W σ env H Ed) (k : Stp A.R H H') : XOut A W σ env H' Ed := fun e cls dd H2 k2 r q => x e cls dd H2 (k.trans k2) r q
/-- a part of an expression, its value handed on -/
theorem toE_step {g : DE} {σ : St} {H : Hp} {env : DEnv} {Q : VK} {Qd : D → Prop} {Ed : Ex → Prop} (E : ERep A H σ env) (h : g env Qd Ed) (x : XOut A W σ env H Ed)
    (k : ∀ v d H', Stp A.R H H' → ERep A H' σ env → XOut A W σ env H' Ed → Rep A.R (MM A σ env) H' v d → Qd d → Q v H') : toE A W g σ H Q :=
  ⟨env, Qd, Ed, E, h, fun v d H' s r q => k v d H' s (E.stp s) (x.stp s) r q, x⟩
/-! ### arguments -/
def dnil : DL := fun _ Q _ => Q []
def dcons (g : DE) (gs : DL) : DL := fun env Q Ed => g env (fun d => gs env (fun ds => Q (d :: ds)) Ed) Ed
theorem gl_nil : GL X A W [] dnil := ⟨pa_imp pa_nil fun σ H Q ⟨env, Qd, Ed, E, h, q, x⟩ => q [] [] H (Stp.refl _ _) .nil h⟩
theorem gl_cons {e : Expr} {es : List Expr} {g : DE} {gs : DL} (h1 : GE X A W e g) (h2 : GL X A W es gs) (hs : starEach (e :: es) X.env = (false, eval e X.env) :: starEach es X.env := by rfl) : GL X A W (e :: es) (dcons g gs) := by
  refine ⟨pa_imp (pa_cons h1.p h2.p hs) fun σ H Q ⟨env, Qd, Ed, E, h, q, x⟩ => toE_step E h x fun v d H' s E' x' r h' => ?_⟩
  exact ⟨env, _, Ed, E', h', fun vs ds H2 s2 r2 q2 => q _ _ H2 (s.trans s2) (.cons (r.keep (E'.keep s2)) r2) q2, x'⟩
/-! ### names, constants -/
def dvar (i : Nat) : DE := fun env Q _ => match env[i]? with
  | some (.val d) => Q d
  | _ => False
def dk (d : D) : DE := fun _ Q _ => Q d
theorem ge_var {i : Nat} {e : Expr} (h : PE X e (tVar i)) : GE X A W e (dvar i) := by
  refine ⟨pe_imp h fun σ H Q ⟨env, Qd, Ed, E, h, q, x⟩ => ?_⟩
  unfold dvar at h
  cases e : env[i]? with
  | none => rw [e] at h; exact h.elim
  | some s =>
    rw [e] at h
    cases s with
    | un => exact h.elim
    | own ds => exact h.elim
    | val d =>
      obtain ⟨v, h1, h2⟩ := E.val i d e
      exact ⟨v, h1, q v d H (Stp.refl _ _) h2 h⟩
/-- a constant: a value that means the same in every heap -/
theorem ge_const {v : V} {d : D} {e : Expr} (h : PE X e (tC v)) (r : ∀ M H, Rep A.R M H v d) : GE X A W e (dk d) :=
  ⟨pe_imp h fun σ H Q ⟨env, Qd, Ed, E, h, q, x⟩ => q v d H (Stp.refl _ _) (r _ _) h⟩
theorem ge_int {i : Int} {j pos} : GE X A W (.Constant (.int i) j pos) (dk (.int i)) := ge_const pe_int fun _ _ => .int i
theorem ge_str {z : Str} {j pos} : GE X A W (.Constant (.str z) j pos) (dk (.str z)) := ge_const pe_str fun _ _ => .str z
theorem ge_bl {b : Bool} {j pos} : GE X A W (.Constant (.bool b) j pos) (dk (.bl b)) := ge_const pe_bl fun _ _ => .bl b
theorem ge_non {j pos} : GE X A W (.Constant .none j pos) (dk .non) := ge_const pe_non fun _ _ => .non
/-! ### displays -/
abbrev LINE : Nat := 16777216
theorem line_is : (sizeLine : Nat) = LINE := sizeLine_eq
theorem TAt.new {K : PySem.W.Frag} {M : Addr → Prop} {H : Hp} {p : Addr} {xs : List V} (n : ¬ M p) : TAt K M (upd H p (.tup xs)) p xs := .inl ⟨.inl upd_same, n⟩
def dtup (gs : DL) : DE := fun env Q Ed => gs env (fun ds => ds.length ≤ LINE ∧ Q (.tup ds)) Ed
def dlst (gs : DL) : DE := fun env Q Ed => gs env (fun ds => ds.length ≤ LINE ∧ Q (.lst ds)) Ed
theorem ge_tup {es : List Expr} {k pos} {gs : DL} (h : GL X A W es gs) : GE X A W (.Tuple es k pos) (dtup gs) := by
  refine ⟨pe_imp (pe_tup h.p) fun σ H Q ⟨env, Qd, Ed, E, h, q, x⟩ => ?_⟩
  refine ⟨env, _, Ed, E, h, fun vs ds H' s r hq => ⟨by rw [r.length, line_is]; exact hq.1, fun p hp => ?_⟩, x⟩
  have E' := E.stp s
  have s2 : Stp A.R H' (upd H' p (.tup vs)) := Stp.new hp
  exact q _ _ _ (s.trans s2) (.tup (TAt.new (E'.fresh hp)) (r.keep (E'.keep s2))) hq.2
theorem ge_lst {es : List Expr} {pos} {gs : DL} (h : GL X A W es gs) : GE X A W (.List es pos) (dlst gs) := by
  refine ⟨pe_imp (pe_lst h.p) fun σ H Q ⟨env, Qd, Ed, E, h, q, x⟩ => ?_⟩
  refine ⟨env, _, Ed, E, h, fun vs ds H' s r hq => ⟨by rw [r.length, line_is]; exact hq.1, fun p hp => ?_⟩, x⟩
  have E' := E.stp s
  have s2 : Stp A.R H' (upd H' p (.lst vs)) := Stp.new hp
  exact q _ _ _ (s.trans s2) (.lst upd_same (E'.fresh hp) (r.keep (E'.keep s2))) hq.2
/-! ### operators by values -/
/-- f says of data what r asks of values -/
def OpD (A : Act) (r : R2) (f : D → D → (D → Prop) → Prop) : Prop := ∀ (M : Addr → Prop) (H : Hp) (x y : V) (d e : D) (Q : VK) (Qd : D → Prop), (∀ a, A.R.st = some a → M a) → (∀ a, H a = none → ¬ M a) → Rep A.R M H x d → Rep A.R M H y e → f d e Qd →
  (∀ v d' H', Stp A.R H H' → Rep A.R M H' v d' → Qd d' → Q v H') → r x y H Q
def dop (f : D → D → (D → Prop) → Prop) (ga gb : DE) : DE := fun env Q Ed => ga env (fun x => gb env (fun y => f x y Q) Ed) Ed
theorem tOp_of {r : R2} {f : D → D → (D → Prop) → Prop} {ga gb : DE} (o : OpD A r f) {σ : St} {H : Hp} {Q : VK} (h : toE A W (dop f ga gb) σ H Q) : tOp r (toE A W ga) (toE A W gb) σ H Q := by
  obtain ⟨env, Qd, Ed, E, h, q, x⟩ := h
  refine toE_step E h x fun v d H1 s1 E1 x1 r1 h1 => toE_step E1 h1 x1 fun w e H2 s2 E2 x2 r2 h2 => ?_
  exact o _ H2 v w d e Q Qd E2.mst (fun a z => E2.fresh z) (r1.keep (E1.keep s2)) r2 h2 fun u d' H3 s3 r3 q3 => q u d' H3 ((s1.trans s2).trans s3) r3 q3
theorem ge_bin {op : Operator} {r : R2} {f : D → D → (D → Prop) → Prop} {a b : Expr} {pos} {ga gb : DE} (o : OpR X (binaryOp op) r) (od : OpD A r f) (ha : GE X A W a ga) (hb : GE X A W b gb) : GE X A W (.BinOp a op b pos) (dop f ga gb) :=
  ⟨pe_imp (pe_op o ha.p hb.p) fun _ _ _ h => tOp_of od h⟩
theorem ge_cmp {op : CmpOp} {r : R2} {f : D → D → (D → Prop) → Prop} {a b : Expr} {pos} {ga gb : DE} (o : OpR X (compareOp op) r) (od : OpD A r f) (ha : GE X A W a ga) (hb : GE X A W b gb) (hm : behindInMarks op b = false) : GE X A W (.Compare a [op] [b] pos) (dop f ga gb) :=
  ⟨pe_imp (pe_cmpR o ha.p hb.p hm) fun _ _ _ h => tOp_of od h⟩
def dtest (g : DE) : DB := fun env Q Ed => g env (fun d => match d with
  | .bl b => Q b
  | _ => False) Ed
theorem gt_cmp {op : CmpOp} {r : R2} {f : D → D → (D → Prop) → Prop} {a b : Expr} {pos} {ga gb : DE} (o : OpR X (compareOp op) r) (od : OpD A r f) (ha : GE X A W a ga) (hb : GE X A W b gb) (hm : behindInMarks op b = false) : GT X A W (.Compare a [op] [b] pos) (dtest (dop f ga gb)) := by
  refine ⟨pt_imp (pt_cmpR o ha.p hb.p hm) fun σ H Q ⟨env, Qd, Ed, E, h, q, x⟩ => tOp_of od ⟨env, _, Ed, E, h, fun v d H' s r hd => ?_, x⟩⟩
  cases d <;> first | exact hd.elim | skip
  cases r
  exact ⟨_, rfl, q _ H' s hd⟩
theorem ge_sub {r : R2} {f : D → D → (D → Prop) → Prop} {a b : Expr} {pos} {ga gb : DE} (o : IxR X r) (od : OpD A r f) (ha : GE X A W a ga) (hb : GE X A W b gb) (hs : PlainIx b) : GE X A W (.Subscript a b pos) (dop f ga gb) :=
  ⟨pe_imp (pe_ix o ha.p hb.p hs) fun _ _ _ h => tOp_of od h⟩
theorem OpD.or {r r' : R2} {f f' : D → D → (D → Prop) → Prop} (a : OpD A r f) (b : OpD A r' f') : OpD A (fun x y H Q => r x y H Q ∨ r' x y H Q) (fun x y Q => f x y Q ∨ f' x y Q) := fun M H x y d e Q Qd h1 h2 h3 h4 h5 h6 =>
  h5.elim (fun z => .inl (a M H x y d e Q Qd h1 h2 h3 h4 z h6)) fun z => .inr (b M H x y d e Q Qd h1 h2 h3 h4 z h6)
end
end Nb
set_option maxRecDepth 100000
set_option maxHeartbeats 2000000
/-! Nb: statements. -/
namespace Nb
open PySem PySem.Spec PyProof.Rows L2
section
variable {A : Act} {H H' : Hp} {σ : St} {env : DEnv}
theorem get_set {α : Type} (l : List α) (i j : Nat) (x : α) : (l.set i x)[j]? = if i = j ∧ j < l.length then some x else l[j]? := by
  rw [List.getElem?_set]
  by_cases h : i = j
  · subst h
    by_cases h2 : i < l.length
    · simp [h2]
    · simp [h2, List.getElem?_eq_none (Nat.le_of_not_lt h2)]
  · simp [h]
/-- a slot takes data -/
theorem mm_set {i : Nat} {v : V} {d : D} {a : Addr} (hl : env.length = σ.length) (h : MM A (σ.set i (some v)) (env.set i (.val d)) a) : MM A σ env a := by
  rcases h with h | ⟨j, ds, h1, h2⟩
  · exact .inl h
  · refine .inr ⟨j, ds, ?_⟩
    rw [get_set] at h1 h2
    by_cases c : i = j ∧ j < env.length
    · rw [if_pos c] at h1; cases h1
    · rw [if_neg c] at h1
      rw [if_neg (by rw [← hl]; exact c)] at h2
      exact ⟨h1, h2⟩
theorem keep_sub {M M' : Addr → Prop} {H : Hp} (h : ∀ a, M' a → M a) : Keep M M' H H := ⟨fun _ _ e _ => e, fun a z => .inl (h a z)⟩
theorem ERep.set {i : Nat} {v : V} {d : D} (E : ERep A H σ env) (r : Rep A.R (MM A σ env) H v d) : ERep A H (σ.set i (some v)) (env.set i (.val d)) := by
  have ks : Keep (MM A σ env) (MM A (σ.set i (some v)) (env.set i (.val d))) H H := keep_sub fun a => mm_set E.len
  refine ⟨E.ok, by rw [List.length_set, List.length_set]; exact E.len, fun j e h => ?_, fun j ds h => ?_, fun j k ds es a h1 h2 h3 h4 => ?_, E.base⟩
  · rw [get_set] at h
    by_cases c : i = j ∧ j < env.length
    · rw [if_pos c] at h
      cases h
      exact ⟨v, by rw [get_set, if_pos (by rw [← E.len]; exact c)], r.keep ks⟩
    · rw [if_neg c] at h
      obtain ⟨w, h1, h2⟩ := E.val j e h
      exact ⟨w, by rw [get_set, if_neg (by rw [← E.len]; exact c)]; exact h1, h2.keep ks⟩
  · rw [get_set] at h
    by_cases c : i = j ∧ j < env.length
    · rw [if_pos c] at h; cases h
    · rw [if_neg c] at h
      obtain ⟨a, vs, h1, h2, h3, h4, h5⟩ := E.own j ds h
      exact ⟨a, vs, by rw [get_set, if_neg (by rw [← E.len]; exact c)]; exact h1, h2, h3.keep ks, h4, h5⟩
  · rw [get_set] at h1 h2 h3 h4
    by_cases c : i = j ∧ j < env.length
    · rw [if_pos c] at h1; cases h1
    · by_cases c2 : i = k ∧ k < env.length
      · rw [if_pos c2] at h2; cases h2
      · rw [if_neg c] at h1
        rw [if_neg c2] at h2
        rw [if_neg (by rw [← E.len]; exact c)] at h3
        rw [if_neg (by rw [← E.len]; exact c2)] at h4
        exact E.one j k ds es a h1 h2 h3 h4
theorem ERep.setKeep {i : Nat} {v : V} {d : D} (E : ERep A H σ env) : Keep (MM A σ env) (MM A (σ.set i (some v)) (env.set i (.val d))) H H := keep_sub fun a => mm_set E.len
/-- a slot takes a new list of the def's own -/
theorem ERep.setOwn {i : Nat} {p : Addr} {vs : List V} {ds : List D} (E : ERep A H σ env) (hp : H p = none) (h0 : Stp A.R H H') (hq : H' p = some (.lst vs)) (r : RepL A.R (fun a => MM A σ env a ∨ a = p) H' vs ds) :
    ERep A H' (σ.set i (some (.ref p))) (env.set i (.own ds)) ∧ Keep (MM A σ env) (MM A (σ.set i (some (.ref p))) (env.set i (.own ds))) H H' := by
  have E' := E.stp h0
  have mm : ∀ a, MM A (σ.set i (some (.ref p))) (env.set i (.own ds)) a → MM A σ env a ∨ a = p := fun a h => by
    rcases h with h | ⟨j, es, h1, h2⟩
    · exact .inl (.inl h)
    · rw [get_set] at h1 h2
      by_cases c : i = j ∧ j < env.length
      · rw [if_pos (by rw [← E.len]; exact c)] at h2
        cases h2
        exact .inr rfl
      · rw [if_neg c] at h1
        rw [if_neg (by rw [← E.len]; exact c)] at h2
        exact .inl (.inr ⟨j, es, h1, h2⟩)
  have kk : Keep (MM A σ env) (MM A (σ.set i (some (.ref p))) (env.set i (.own ds))) H H' := ⟨(E.keep h0).k, fun a z => (mm a z).elim .inl fun e => .inr (by rw [e]; exact hp)⟩
  have k2 : Keep (fun a => MM A σ env a ∨ a = p) (MM A (σ.set i (some (.ref p))) (env.set i (.own ds))) H' H' := keep_sub mm
  have np : ¬ MM A σ env p := E.fresh hp
  have n0 : A.H0 p = none := Stp.none E.ok.inv E.base hp
  refine ⟨⟨E.ok, by rw [List.length_set, List.length_set]; exact E.len, fun j e h => ?_, fun j es h => ?_, fun j k es fs a h1 h2 h3 h4 => ?_, E'.base⟩, kk⟩
  · rw [get_set] at h
    by_cases c : i = j ∧ j < env.length
    · rw [if_pos c] at h; cases h
    · rw [if_neg c] at h
      obtain ⟨w, h1, h2⟩ := E.val j e h
      exact ⟨w, by rw [get_set, if_neg (by rw [← E.len]; exact c)]; exact h1, h2.keep kk⟩
  · rw [get_set] at h
    by_cases c : i = j ∧ j < env.length
    · rw [if_pos c] at h
      cases h
      exact ⟨p, vs, by rw [get_set, if_pos (by rw [← E.len]; exact c)], hq, r.keep k2, fun z => np (.inl z), n0⟩
    · rw [if_neg c] at h
      obtain ⟨a, ws, h1, h2, h3, h4, h5⟩ := E.own j es h
      exact ⟨a, ws, by rw [get_set, if_neg (by rw [← E.len]; exact c)]; exact h1, h0.k a _ h2 fun z => h4 (E.ok.st a z), h3.keep kk, h4, h5⟩
  · rw [get_set] at h1 h2 h3 h4
    by_cases c : i = j ∧ j < env.length
    · by_cases c2 : i = k ∧ k < env.length
      · exact c.1.symm.trans c2.1
      · rw [if_pos (by rw [← E.len]; exact c)] at h3
        rw [if_neg c2] at h2
        rw [if_neg (by rw [← E.len]; exact c2)] at h4
        cases h3
        exact absurd (.inr ⟨k, fs, h2, h4⟩) np
    · rw [if_neg c] at h1
      rw [if_neg (by rw [← E.len]; exact c)] at h3
      by_cases c2 : i = k ∧ k < env.length
      · rw [if_pos (by rw [← E.len]; exact c2)] at h4
        cases h4
        exact absurd (.inr ⟨j, es, h1, h3⟩) np
      · rw [if_neg c2] at h2
        rw [if_neg (by rw [← E.len]; exact c2)] at h4
        exact E.one j k es fs a h1 h2 h3 h4
/-- a list of the def's own changes -/
theorem ERep.mut {i : Nat} {a : Addr} {us vs : List V} {ds es : List D} (E : ERep A H σ env) (h1 : env[i]? = some (.own ds)) (h2 : σ[i]? = some (some (.ref a))) (r : RepL A.R (MM A σ env) H vs es) :
    ERep A (upd H a (.lst vs)) σ (env.set i (.own es)) ∧ Keep (MM A σ env) (MM A σ (env.set i (.own es))) H (upd H a (.lst vs)) := by
  obtain ⟨b, ws, e1, e2, e3, e4, e5⟩ := E.own i ds h1
  rw [h2] at e1
  cases e1
  have hi : i < env.length := (List.getElem?_eq_some_iff.mp h1).1
  have ma : MM A σ env a := .inr ⟨i, ds, h1, h2⟩
  have mm : ∀ b, MM A σ (env.set i (.own es)) b → MM A σ env b := fun b h => by
    rcases h with h | ⟨j, fs, q1, q2⟩
    · exact .inl h
    · rw [get_set] at q1
      by_cases c : i = j ∧ j < env.length
      · rw [← c.1] at q2
        exact .inr ⟨i, ds, h1, q2⟩
      · rw [if_neg c] at q1
        exact .inr ⟨j, fs, q1, q2⟩
  have kk : Keep (MM A σ env) (MM A σ (env.set i (.own es))) H (upd H a (.lst vs)) := ⟨fun b o e n => by rw [upd_ne (fun z => n (by rw [z]; exact ma))]; exact e, fun b z => .inl (mm b z)⟩
  refine ⟨⟨E.ok, by rw [List.length_set]; exact E.len, fun j e h => ?_, fun j fs h => ?_, fun j k fs gs b q1 q2 q3 q4 => ?_, ⟨fun b o e n => ?_, fun hi b hb => ?_⟩⟩, kk⟩
  · rw [get_set] at h
    by_cases c : i = j ∧ j < env.length
    · rw [if_pos c] at h; cases h
    · rw [if_neg c] at h
      obtain ⟨w, q1, q2⟩ := E.val j e h
      exact ⟨w, q1, q2.keep kk⟩
  · rw [get_set] at h
    by_cases c : i = j ∧ j < env.length
    · rw [if_pos c] at h
      cases h
      exact ⟨a, vs, by rw [← c.1]; exact h2, upd_same, r.keep kk, e4, e5⟩
    · rw [if_neg c] at h
      obtain ⟨b, ys, q1, q2, q3, q4, q5⟩ := E.own j fs h
      refine ⟨b, ys, q1, ?_, q3.keep kk, q4, q5⟩
      rw [upd_ne]
      · exact q2
      · intro z
        rw [z] at q1
        exact c ⟨E.one i j ds fs a h1 h h2 q1, (List.getElem?_eq_some_iff.mp h).1⟩
  · have g : ∀ {j : Nat} {fs : List D}, (env.set i (.own es))[j]? = some (.own fs) → ∃ fs', env[j]? = some (.own fs') := fun {j fs} q => by
      rw [get_set] at q
      by_cases c : i = j ∧ j < env.length
      · exact ⟨ds, by rw [← c.1]; exact h1⟩
      · rw [if_neg c] at q
        exact ⟨fs, q⟩
    obtain ⟨f1, q1⟩ := g q1
    obtain ⟨f2, q2⟩ := g q2
    exact E.one j k f1 f2 b q1 q2 q3 q4
  · rw [upd_ne (fun z => by rw [z, e5] at e; cases e)]
    exact E.base.k b o e n
  · obtain ⟨ns, z1, z2⟩ := E.base.s hi b hb
    refine ⟨ns, ?_, z2⟩
    rw [upd_ne (fun z => e4 (by rw [← z]; exact E.ok.st b hb))]
    exact z1
/-- a list of the def's own is let go: it changes no more -/
theorem ERep.freeze {i : Nat} {ds : List D} (E : ERep A H σ env) (h1 : env[i]? = some (.own ds)) :
    ERep A H σ (env.set i (.val (.lst ds))) ∧ Keep (MM A σ env) (MM A σ (env.set i (.val (.lst ds)))) H H := by
  obtain ⟨a, ws, e1, e2, e3, e4, e5⟩ := E.own i ds h1
  have hi : i < env.length := (List.getElem?_eq_some_iff.mp h1).1
  have mm : ∀ b, MM A σ (env.set i (.val (.lst ds))) b → MM A σ env b ∧ b ≠ a := fun b h => by
    rcases h with h | ⟨j, fs, q1, q2⟩
    · exact ⟨.inl h, fun z => e4 (by rw [← z]; exact h)⟩
    · rw [get_set] at q1
      by_cases c : i = j ∧ j < env.length
      · rw [if_pos c] at q1; cases q1
      · rw [if_neg c] at q1
        exact ⟨.inr ⟨j, fs, q1, q2⟩, fun z => c ⟨E.one i j ds fs a h1 q1 e1 (by rw [← z]; exact q2), (List.getElem?_eq_some_iff.mp q1).1⟩⟩
  have kk : Keep (MM A σ env) (MM A σ (env.set i (.val (.lst ds)))) H H := keep_sub fun b h => (mm b h).1
  refine ⟨⟨E.ok, by rw [List.length_set]; exact E.len, fun j e h => ?_, fun j fs h => ?_, fun j k fs gs b q1 q2 q3 q4 => ?_, E.base⟩, kk⟩
  · rw [get_set] at h
    by_cases c : i = j ∧ j < env.length
    · rw [if_pos c] at h
      cases h
      exact ⟨.ref a, by rw [← c.1]; exact e1, .lst e2 (fun z => (mm a z).2 rfl) (e3.keep kk)⟩
    · rw [if_neg c] at h
      obtain ⟨w, q1, q2⟩ := E.val j e h
      exact ⟨w, q1, q2.keep kk⟩
  · rw [get_set] at h
    by_cases c : i = j ∧ j < env.length
    · rw [if_pos c] at h; cases h
    · rw [if_neg c] at h
      obtain ⟨b, ys, q1, q2, q3, q4, q5⟩ := E.own j fs h
      exact ⟨b, ys, q1, q2, q3.keep kk, q4, q5⟩
  · have g : ∀ {j : Nat} {fs : List D}, (env.set i (.val (.lst ds)))[j]? = some (.own fs) → env[j]? = some (.own fs) := fun {j fs} q => by
      rw [get_set] at q
      by_cases c : i = j ∧ j < env.length
      · rw [if_pos c] at q; cases q
      · rw [if_neg c] at q
        exact q
    exact E.one j k fs gs b (g q1) (g q2) q3 q4
/-- a slot is forgotten -/
theorem ERep.forget {i : Nat} (E : ERep A H σ env) : ERep A H (σ.set i none) (env.set i .un) ∧ Keep (MM A σ env) (MM A (σ.set i none) (env.set i .un)) H H := by
  have mm : ∀ b, MM A (σ.set i none) (env.set i .un) b → MM A σ env b := fun b h => by
    rcases h with h | ⟨j, fs, q1, q2⟩
    · exact .inl h
    · rw [get_set] at q1 q2
      by_cases c : i = j ∧ j < env.length
      · rw [if_pos c] at q1; cases q1
      · rw [if_neg c] at q1
        rw [if_neg (by rw [← E.len]; exact c)] at q2
        exact .inr ⟨j, fs, q1, q2⟩
  have kk : Keep (MM A σ env) (MM A (σ.set i none) (env.set i .un)) H H := keep_sub mm
  refine ⟨⟨E.ok, by rw [List.length_set, List.length_set]; exact E.len, fun j e h => ?_, fun j fs h => ?_, fun j k fs gs b q1 q2 q3 q4 => ?_, E.base⟩, kk⟩
  · rw [get_set] at h
    by_cases c : i = j ∧ j < env.length
    · rw [if_pos c] at h; cases h
    · rw [if_neg c] at h
      obtain ⟨w, q1, q2⟩ := E.val j e h
      exact ⟨w, by rw [get_set, if_neg (by rw [← E.len]; exact c)]; exact q1, q2.keep kk⟩
  · rw [get_set] at h
    by_cases c : i = j ∧ j < env.length
    · rw [if_pos c] at h; cases h
    · rw [if_neg c] at h
      obtain ⟨b, ys, q1, q2, q3, q4, q5⟩ := E.own j fs h
      exact ⟨b, ys, by rw [get_set, if_neg (by rw [← E.len]; exact c)]; exact q1, q2, q3.keep kk, q4, q5⟩
  · rw [get_set] at q1 q2 q3 q4
    by_cases c : i = j ∧ j < env.length
    · rw [if_pos c] at q1; cases q1
    · by_cases c2 : i = k ∧ k < env.length
      · rw [if_pos c2] at q2; cases q2
      · rw [if_neg c] at q1
        rw [if_neg c2] at q2
        rw [if_neg (by rw [← E.len]; exact c)] at q3
        rw [if_neg (by rw [← E.len]; exact c2)] at q4
        exact E.one j k fs gs b q1 q2 q3 q4
/-- data for the caller -/
theorem ERep.toRep0 (E : ERep A H σ env) {v : V} {d : D} (r : Rep A.R (MM A σ env) H v d) : Rep A.R A.M0 H v d := r.keep (keep_sub fun _ z => .inl z)
theorem ERep.retRep (E : ERep A H σ env) (hf : A.fr = false) {v : V} {d : D} (r : Rep A.R (MM A σ env) H v d) : RetRep A H v d := by
  unfold RetRep
  rw [hf, if_neg Bool.false_ne_true]
  exact E.toRep0 r
end
section
variable {X : Cx} {A : Act} {W : WX}
/-! ### blocks -/
def dnext : DS := fun K env => K.nx env
def dseq (s t : DS) : DS := fun K env => s { K with nx := fun env' => t K env' } env
theorem gss_nil : GSs X A W [] dnext := ⟨pss_imp pss_nil fun De σ H ⟨env, K, E, h, q, _⟩ => q σ H env (Keep.refl _ _) E h⟩
theorem gss_one {st : Stmt} {s : DS} (h : GS X A W st s) : GSs X A W [st] s := ⟨pss_one h.p⟩
theorem gss_cons {st : Stmt} {rest : List Stmt} {s t : DS} (h1 : GS X A W st s) (h2 : GSs X A W rest t) : GSs X A W (st :: rest) (dseq s t) := by
  refine ⟨pss_imp (pss_cons h1.p h2.p) fun De σ H ⟨env, K, E, h, q1, q2, q3, q4, q5⟩ => ?_⟩
  refine ⟨env, _, E, h, fun σ' H' env' kk E' h' => ?_, q2, q3, q4, q5⟩
  exact ⟨env', K, E', h', fun σ2 H2 env2 k2 => q1 σ2 H2 env2 (kk.trans k2), fun σ2 H2 env2 k2 => q2 σ2 H2 env2 (kk.trans k2), fun σ2 H2 env2 k2 => q3 σ2 H2 env2 (kk.trans k2), q4, fun x c dd σ2 H2 env2 k2 => q5 x c dd σ2 H2 env2 (kk.trans k2)⟩
/-- the way from a statement's end to the end of an expression in it -/
theorem xout_of {K : KEnd} {σ : St} {H : Hp} {env : DEnv} (E : ERep A H σ env)
    (q : ∀ x cls dd σ' H' env', Keep (MM A σ env) (MM A σ' env') H H' → ERep A H' σ' env' → XRep A.R (MM A σ' env') H' cls dd x → K.ex x env' → W cls dd σ' H') : XOut A W σ env H fun x => K.ex x env :=
  fun x cls dd H' s r e => q x cls dd σ H' env (E.keep s) (E.stp s) r e
/-! ### x = e -/
def dasg (i : Nat) (g : DE) : DS := fun K env => g env (fun d => K.nx (env.set i (.val d))) fun x => K.ex x env
theorem gs_asg {i : Nat} {x : Str} {e : Expr} {g : DE} {pos pos' : Pos} (he : GE X A W e g) (hN : X.N.Nodup) (hi : X.N[i]? = some x) (hx : Loc X.env.scope x) (hs : swapsWith e (some (.Name x pos')) pos.line X.env = pure false := by rfl)
    (hf : X.fn x = true ∨ X.env.scope.names.lookup x = some .local := by first | exact .inl rfl | exact .inr rfl | assumption) : GS X A W (.Assign [.Name x pos'] e pos) (dasg i g) := by
  refine ⟨ps_imp (ps_set hN hi hx he.p hs hf) fun De σ H ⟨env, K, E, h, q1, q2, q3, q4, q5⟩ => ?_⟩
  refine toE_step E h (xout_of E q5) fun v d H1 s E1 _ r h1 => ?_
  exact q1 _ H1 _ ((E.keep s).trans E1.setKeep) (E1.set r) h1
/-! ### new lists -/
abbrev DF := DEnv → (List D → Prop) → (Ex → Prop) → Prop
def toF (A : Act) (W : WX) (g : DF) : TE := fun σ H Q => ∃ (env : DEnv) (Qd : List D → Prop) (Ed : Ex → Prop), ERep A H σ env ∧ g env Qd Ed ∧
  (∀ p vs ds H', H p = none → Stp A.R H H' → H' p = some (.lst vs) → RepL A.R (fun a => MM A σ env a ∨ a = p) H' vs ds → Qd ds → Q (.ref p) H') ∧ XOut A W σ env H Ed
structure GF (X : Cx) (A : Act) (W : WX) (e : Expr) (g : DF) : Prop where
  p : PE X e (toF A W g)
def dfv (g : DF) : DE := fun env Q Ed => g env (fun ds => Q (.lst ds)) Ed
theorem GF.e {e : Expr} {g : DF} (h : GF X A W e g) : GE X A W e (dfv g) := by
  refine ⟨pe_imp h.p fun σ H Q ⟨env, Qd, Ed, E, h, q, x⟩ => ⟨env, _, Ed, E, h, fun p vs ds H' hp s e r hq => ?_, x⟩⟩
  have E' := E.stp s
  exact q _ _ H' s (.lst e (E.fresh hp) (r.keep (keep_sub fun a z => .inl z))) hq
def dflst (gs : DL) : DF := fun env Q Ed => gs env (fun ds => ds.length ≤ LINE ∧ Q ds) Ed
theorem gf_lst {es : List Expr} {pos} {gs : DL} (h : GL X A W es gs) : GF X A W (.List es pos) (dflst gs) := by
  refine ⟨pe_imp (pe_lst h.p) fun σ H Q ⟨env, Qd, Ed, E, h, q, x⟩ => ?_⟩
  refine ⟨env, _, Ed, E, h, fun vs ds H' s r hq => ⟨by rw [r.length, line_is]; exact hq.1, fun p hp => ?_⟩, x⟩
  have E' := E.stp s
  have s2 : Stp A.R H' (upd H' p (.lst vs)) := Stp.new hp
  refine q p vs ds _ (Stp.none E.inv s hp) (s.trans s2) upd_same (r.keep ⟨(E'.keep s2).k, fun a z => ?_⟩) hq.2
  rcases z with z | z
  · exact .inl z
  · exact .inr (by rw [z]; exact hp)
def dasgO (i : Nat) (g : DF) : DS := fun K env => g env (fun ds => K.nx (env.set i (.own ds))) fun x => K.ex x env
theorem gs_asgO {i : Nat} {x : Str} {e : Expr} {g : DF} {pos pos' : Pos} (he : GF X A W e g) (hN : X.N.Nodup) (hi : X.N[i]? = some x) (hx : Loc X.env.scope x) (hs : swapsWith e (some (.Name x pos')) pos.line X.env = pure false := by rfl)
    (hf : X.fn x = true ∨ X.env.scope.names.lookup x = some .local := by first | exact .inl rfl | exact .inr rfl | assumption) : GS X A W (.Assign [.Name x pos'] e pos) (dasgO i g) := by
  refine ⟨ps_imp (ps_set hN hi hx he.p hs hf) fun De σ H ⟨env, K, E, h, q1, q2, q3, q4, q5⟩ => ?_⟩
  refine ⟨env, _, _, E, h, fun p vs ds H' hp s e r hq => ?_, xout_of E q5⟩
  obtain ⟨E2, k2⟩ := E.setOwn (i := i) hp s e r
  exact q1 _ H' _ k2 E2 hq
/-! ### if, return, raise -/
def dif (c : DB) (s t : DS) : DS := fun K env => c env (fun b => if b = true then s K env else t K env) fun x => K.ex x env
theorem gs_if {c : Expr} {a b : List Stmt} {pos : Pos} {gc : DB} {s t : DS} (hc : GT X A W c gc) (ha : GSs X A W a s) (hb : GSs X A W b t) : GS X A W (.If c a b pos) (dif gc s t) := by
  refine ⟨ps_imp (ps_if hc.p ha.p hb.p) fun De σ H ⟨env, K, E, h, q1, q2, q3, q4, q5⟩ => ?_⟩
  refine ⟨env, _, _, E, h, fun d H' s2 hd => ?_, xout_of E q5⟩
  have E' := E.stp s2
  have kk := E.keep s2
  have go : ∀ {u : DS}, u K env → toS A W u De σ H' := fun hu => ⟨env, K, E', hu, fun σ2 H2 env2 k2 => q1 σ2 H2 env2 (kk.trans k2), fun σ2 H2 env2 k2 => q2 σ2 H2 env2 (kk.trans k2), fun σ2 H2 env2 k2 => q3 σ2 H2 env2 (kk.trans k2), q4, fun x c dd σ2 H2 env2 k2 => q5 x c dd σ2 H2 env2 (kk.trans k2)⟩
  cases d with
  | true => exact go hd
  | false => exact go hd
def dret (g : DE) : DS := fun K env => g env (fun d => K.rt d env) fun x => K.ex x env
theorem gs_ret {e : Expr} {g : DE} {pos : Pos} (he : GE X A W e g) (hf : A.fr = false := by rfl) : GS X A W (.Return (some e) pos) (dret g) := by
  refine ⟨ps_imp (ps_ret he.p) fun De σ H ⟨env, K, E, h, q1, q2, q3, q4, q5⟩ => ?_⟩
  refine toE_step E h (xout_of E q5) fun v d H1 s E1 _ r h1 => ?_
  exact q4 v d σ H1 env E1 (E1.retRep hf r) h1
def dretN : DS := fun K env => K.rt .non env
/-- a new list is handed back -/
def dretF (g : DF) : DS := fun K env => g env (fun ds => K.rt (.lst ds) env) fun x => K.ex x env
theorem gs_retF {e : Expr} {g : DF} {pos : Pos} (he : GF X A W e g) (hf : A.fr = true := by rfl) : GS X A W (.Return (some e) pos) (dretF g) := by
  refine ⟨ps_imp (ps_ret he.p) fun De σ H ⟨env, K, E, h, q1, q2, q3, q4, q5⟩ => ?_⟩
  refine ⟨env, _, _, E, h, fun p vs ds H' hp s e r hq => ?_, xout_of E q5⟩
  refine q4 _ _ σ H' env (E.stp s) ?_ hq
  unfold RetRep
  rw [hf, if_pos rfl]
  exact ⟨p, vs, ds, rfl, rfl, Stp.none E.ok.inv E.base hp, e, r.keep (keep_sub fun a z => z.elim (fun z => .inl (.inl z)) .inr)⟩
/-- a list of the def's own is handed back -/
def dretO (i : Nat) : DS := fun K env => match env[i]? with
  | some (.own ds) => K.rt (.lst ds) env
  | _ => False
theorem gs_retO {i : Nat} {e : Expr} {pos : Pos} (he : PE X e (tVar i)) : GS X A W (.Return (some e) pos) (dretO i) := by
  refine ⟨ps_imp (ps_ret he) fun De σ H ⟨env, K, E, h, q1, q2, q3, q4, q5⟩ => ?_⟩
  unfold dretO at h
  cases e1 : env[i]? with
  | none => rw [e1] at h; exact h.elim
  | some s =>
    rw [e1] at h
    cases s with
    | un => exact h.elim
    | val d => exact h.elim
    | own ds =>
      obtain ⟨a, vs, h1, h2, h3, h4, h5⟩ := E.own i ds e1
      refine ⟨.ref a, h1, q4 _ _ σ H env E ?_ h⟩
      unfold RetRep
      by_cases c : A.fr = true
      · rw [if_pos c]
        exact ⟨a, vs, ds, rfl, rfl, h5, h2, h3.keep (keep_sub fun b z => z.elim .inl fun z => by rw [z]; exact .inr ⟨i, ds, e1, h1⟩)⟩
      · rw [if_neg c]
        exact .lst h2 h4 (h3.keep (keep_sub fun b z => .inl z))
/-- from here on slot i's list changes no more -/
def dfreeze (i : Nat) (s : DS) : DS := fun K env => match env[i]? with
  | some (.own ds) => s K (env.set i (.val (.lst ds)))
  | _ => False
theorem gss_freeze {i : Nat} {st : List Stmt} {s : DS} (h : GSs X A W st s) : GSs X A W st (dfreeze i s) := by
  refine ⟨pss_imp h.p fun De σ H ⟨env, K, E, h, q1, q2, q3, q4, q5⟩ => ?_⟩
  unfold dfreeze at h
  cases e1 : env[i]? with
  | none => rw [e1] at h; exact h.elim
  | some z =>
    rw [e1] at h
    cases z with
    | un => exact h.elim
    | val d => exact h.elim
    | own ds =>
      obtain ⟨E2, kk⟩ := E.freeze e1
      exact ⟨_, K, E2, h, fun σ2 H2 env2 k2 => q1 σ2 H2 env2 (kk.trans k2), fun σ2 H2 env2 k2 => q2 σ2 H2 env2 (kk.trans k2), fun σ2 H2 env2 k2 => q3 σ2 H2 env2 (kk.trans k2), q4, fun x c dd σ2 H2 env2 k2 => q5 x c dd σ2 H2 env2 (kk.trans k2)⟩
def dexpr (g : DE) : DS := fun K env => g env (fun _ => K.nx env) fun x => K.ex x env
theorem gs_expr {e : Expr} {g : DE} {pos : Pos} (he : GE X A W e g) (hs : swapsWith e none pos.line X.env = pure false := by rfl) : GS X A W (.Expr e pos) (dexpr g) := by
  refine ⟨ps_imp (ps_expr he.p hs) fun De σ H ⟨env, K, E, h, q1, q2, q3, q4, q5⟩ => ?_⟩
  exact toE_step E h (xout_of E q5) fun v d H1 s E1 _ r h1 => q1 σ H1 env (E.keep s) E1 h1
/-! ### lists of one's own that change -/
def dapp (i : Nat) (g : DE) : DS := fun K env => match env[i]? with
  | some (.own ds) => g env (fun d => ds.length < LINE ∧ K.nx (env.set i (.own (ds ++ [d])))) fun x => K.ex x env
  | _ => False
theorem own_of {env : DEnv} {i : Nat} {f : List D → Prop} (h : match env[i]? with
  | some (.own ds) => f ds
  | _ => False) : ∃ ds, env[i]? = some (.own ds) ∧ f ds := by
  cases e1 : env[i]? with
  | none => rw [e1] at h; exact h.elim
  | some z =>
    rw [e1] at h
    cases z with
    | un => exact h.elim
    | val d => exact h.elim
    | own ds => exact ⟨ds, rfl, h⟩
theorem gs_app {i : Nat} {o e : Expr} {g : DE} {pos cpos apos : Pos} (ho : PE X o (tVar i)) (he : GE X A W e g)
    (hS : ∀ te, PE X o (tVar i) → PE X e te → PS X (.Expr (.Call (.Attribute o "append" apos) [e] [] cpos) pos) (tDrop (tBM X.K "list" rAppend (tVar i) (tCons te tNil))) := by
      exact fun te ho h => ps_expr (pe_bm PySem.F.plainAttrs_list PySem.F.slot_list_append PySem.F.type_list_append mt_append ho (pa_cons h pa_nil))) :
    GS X A W (.Expr (.Call (.Attribute o "append" apos) [e] [] cpos) pos) (dapp i g) := by
  refine ⟨ps_imp (hS _ ho he.p) fun De σ H ⟨env, K, E, h, q1, q2, q3, q4, q5⟩ => ?_⟩
  obtain ⟨ds, e1, h⟩ := own_of h
  obtain ⟨a, vs, h1, h2, h3, h4, h5⟩ := E.own i ds e1
  refine ⟨.ref a, h1, .inl ⟨rfl, _, SqL.of h2⟩, toE_step E h (xout_of E q5) fun v d H1 s E1 _ r hq => ?_⟩
  obtain ⟨hz, hq⟩ := hq
  have g2 : H1 a = some (.lst vs) := s.k a _ h2 fun z => h4 (E.ok.st a z)
  refine ⟨a, vs, v, rfl, rfl, g2, by rw [h3.length, line_is]; exact hz, ?_⟩
  obtain ⟨E2, k2⟩ := E1.mut (us := vs) e1 h1 ((h3.keep (E.keep s)).append (.cons r .nil))
  exact q1 _ _ _ ((E.keep s).trans k2) E2 hq
/-- xs[k] = e -/
def dseti (i : Nat) (gk g : DE) : DS := fun K env => match env[i]? with
  | some (.own ds) => g env (fun d => gk env (fun k => ∃ n : Int, k = .int n ∧ ∃ j, ixN ds.length n = some j ∧ K.nx (env.set i (.own (ds.set j d)))) fun x => K.ex x env) fun x => K.ex x env
  | _ => False
theorem gs_seti {i : Nat} {o k e : Expr} {gk g : DE} {pos spos : Pos} (ho : PE X o (tVar i)) (hk : GE X A W k gk) (he : GE X A W e g) (hg : ∀ ti, PE X o (tVar i) → PE X k ti → PG X (.Subscript o k spos) (gSub (tVar i) ti rSetL) := by exact fun ti ho h => pg_sub ho h set_list)
    (hs : swapsWithSole [.Subscript o k spos] e pos.line X.env = pure false := by rfl) (hw : swappedStores [.Subscript o k spos] e X.env = pure none := by rfl)
    (h1 : (assignEach [.Subscript o k spos] X.env).map (·.2) = [assign (.Subscript o k spos) X.env] := by rfl) : GS X A W (.Assign [.Subscript o k spos] e pos) (dseti i gk g) := by
  refine ⟨ps_imp (ps_asg he.p (hg _ ho hk.p) hs hw h1) fun De σ H ⟨env, K, E, h, q1, q2, q3, q4, q5⟩ => ?_⟩
  obtain ⟨ds, e1, h⟩ := own_of h
  obtain ⟨a, vs, h1, h2, h3, h4, h5⟩ := E.own i ds e1
  refine toE_step E h (xout_of E q5) fun v d H1 s E1 x1 r hq => ?_
  refine ⟨.ref a, h1, toE_step E1 hq x1 fun kv kd H2 s2 E2 _ rk hq2 => ?_⟩
  obtain ⟨n, rfl, j, hj, hq3⟩ := hq2
  cases rk
  have g2 : H2 a = some (.lst vs) := (s.trans s2).k a _ h2 fun z => h4 (E.ok.st a z)
  refine ⟨a, vs, n, j, rfl, rfl, g2, by rw [h3.length]; exact hj, ?_⟩
  obtain ⟨E3, k3⟩ := E2.mut (us := vs) e1 h1 (RepL.set (r.keep (E1.keep s2)) j (h3.keep (E.keep (s.trans s2))))
  exact q1 _ _ _ ((E.keep (s.trans s2)).trans k3) E3 hq3
/-- xs.reverse() and its like: a method that changes the list alone, by its items -/
def dmut (i : Nat) (f : List D → List D) : DS := fun K env => match env[i]? with
  | some (.own ds) => (f ds).length ≤ LINE ∧ K.nx (env.set i (.own (f ds)))
  | _ => False
/-! ### targets -/
abbrev DG := D → DEnv → (DEnv → Prop) → Prop
abbrev DGs := List D → DEnv → (DEnv → Prop) → Prop
/-- but for the slots js all is as it was -/
def Only (js : List Nat) (σ σ' : St) : Prop := σ'.length = σ.length ∧ ∀ k, k ∉ js → σ'[k]? = σ[k]?
def toG (A : Act) (js : List Nat) (tg : DG) : TG := fun v σ H Q => ∃ (env : DEnv) (d : D) (Qe : DEnv → Prop), ERep A H σ env ∧ Rep A.R (MM A σ env) H v d ∧ tg d env Qe ∧
  ∀ σ' env', ERep A H σ' env' → Keep (MM A σ env) (MM A σ' env') H H → Only js σ σ' → Qe env' → Q σ' H
def toGs (A : Act) (js : List Nat) (tg : DGs) : TGs := fun vs σ H Q => ∃ (env : DEnv) (ds : List D) (Qe : DEnv → Prop), ERep A H σ env ∧ RepL A.R (MM A σ env) H vs ds ∧ tg ds env Qe ∧
  ∀ σ' env', ERep A H σ' env' → Keep (MM A σ env) (MM A σ' env') H H → Only js σ σ' → Qe env' → Q σ' H
structure GG (X : Cx) (A : Act) (js : List Nat) (t : Expr) (tg : DG) : Prop where
  p : PG X t (toG A js tg)
structure GGs (X : Cx) (A : Act) (js : List Nat) (t : List Expr) (tg : DGs) : Prop where
  p : PGs X t (toGs A js tg)
def dname (i : Nat) : DG := fun d env Q => Q (env.set i (.val d))
theorem gg_name {i : Nat} {x : Str} {pos : Pos} (hN : X.N.Nodup) (hi : X.N[i]? = some x) (hx : Loc X.env.scope x) (hf : X.fn x = true ∨ X.env.scope.names.lookup x = some .local := by first | exact .inl rfl | exact .inr rfl | assumption) :
    GG X A [i] (.Name x pos) (dname i) :=
  ⟨⟨fun pins s σ H v u Q I r ⟨env, d, Qe, E, rd, h, q⟩ => (pg_name hN hi hx hf).run pins s σ H v u Q I r (q _ _ (E.set rd) E.setKeep ⟨List.length_set, fun k hk => by
    rw [List.getElem?_set_ne]
    intro z
    exact hk (by rw [z]; exact List.mem_singleton_self _)⟩ h)⟩⟩
def dgnil : DGs := fun ds env Q => ds = [] ∧ Q env
def dgcons (t : DG) (u : DGs) : DGs := fun ds env Q => match ds with
  | [] => False
  | d :: r => t d env fun env' => u r env' Q
theorem ggs_nil : GGs X A [] [] dgnil := by
  refine ⟨⟨fun pins s σ H vs us Q I r ⟨env, ds, Qe, E, rd, h, q⟩ => pgs_nil.run pins s σ H vs us Q I r ?_⟩⟩
  obtain ⟨rfl, h⟩ := h
  cases rd
  exact ⟨rfl, q σ env E (Keep.refl _ _) ⟨rfl, fun _ _ => rfl⟩ h⟩
theorem pg_imp {e : Expr} {t t' : TG} (h : PG X e t) (i : ∀ v σ H Q, t' v σ H Q → t v σ H Q) : PG X e t' := ⟨fun pins s σ H v u Q I r w => h.run pins s σ H v u Q I r (i v σ H Q w)⟩
theorem pgs_imp {e : List Expr} {t t' : TGs} (h : PGs X e t) (i : ∀ v σ H Q, t' v σ H Q → t v σ H Q) : PGs X e t' := ⟨fun pins s σ H v u Q I r w => h.run pins s σ H v u Q I r (i v σ H Q w)⟩
theorem ggs_cons {e : Expr} {es : List Expr} {t : DG} {u : DGs} {js ks : List Nat} (h1 : GG X A js e t) (h2 : GGs X A ks es u) (hs : (assignEach (e :: es) X.env).map (·.2) = assign e X.env :: (assignEach es X.env).map (·.2) := by rfl) : GGs X A (js ++ ks) (e :: es) (dgcons t u) := by
  refine ⟨pgs_imp (pgs_cons h1.p h2.p hs) fun vs σ H Q ⟨env, ds, Qe, E, rd, h, q⟩ => ?_⟩
  cases rd with
  | nil => exact h.elim
  | @cons v d vs ds r rr =>
    refine ⟨v, vs, rfl, env, d, _, E, r, h, fun σ' env' E' k' o' h' => ?_⟩
    exact ⟨env', ds, Qe, E', rr.keep k', h', fun σ2 env2 E2 k2 o2 h2 => q σ2 env2 E2 (k'.trans k2) ⟨o2.1.trans o'.1, fun k hk => (o2.2 k fun z => hk (List.mem_append_right _ z)).trans (o'.2 k fun z => hk (List.mem_append_left _ z))⟩ h2⟩
/-- a, b = a tuple of as many -/
def dgtup (n : Nat) (u : DGs) : DG := fun d env Q => match d with
  | .tup ds => ds.length = n ∧ u ds env Q
  | _ => False
theorem gg_tup {es : List Expr} {k : Nat} {u : DGs} {n : Nat} {pos : Pos} {js : List Nat} (hc : X.calm = true) (hK : A.R.K = X.K) (h : GGs X A js es u) (hn : (assignEach es X.env).length = n := by rfl) (hst : (assignEach es X.env).findIdx? (·.1) = none := by rfl) :
    GG X A js (.Tuple es k pos) (dgtup n u) := by
  refine ⟨pg_imp (pg_tup hc h.p hn hst) fun v σ H Q ⟨env, d, Qe, E, r, h, q⟩ => ?_⟩
  match d, r, h with
  | .tup ds, .tup (a := a) (xs := xs) ta rl, h => exact ⟨a, xs, rfl, by rw [← hK]; exact ta.sq, by rw [rl.length]; exact h.1, env, ds, Qe, E, rl, h.2, q⟩
/-- target = e, any target -/
def dasgG (t : DG) (g : DE) : DS := fun K env => g env (fun d => t d env K.nx) fun x => K.ex x env
theorem gs_asgG {tg e : Expr} {t : DG} {g : DE} {pos : Pos} {js : List Nat} (he : GE X A W e g) (ht : GG X A js tg t) (hs : swapsWithSole [tg] e pos.line X.env = pure false := by rfl) (hw : swappedStores [tg] e X.env = pure none := by rfl)
    (h1 : (assignEach [tg] X.env).map (·.2) = [assign tg X.env] := by rfl) : GS X A W (.Assign [tg] e pos) (dasgG t g) := by
  refine ⟨ps_imp (ps_asg he.p ht.p hs hw h1) fun De σ H ⟨env, K, E, h, q1, q2, q3, q4, q5⟩ => ?_⟩
  refine toE_step E h (xout_of E q5) fun v d H1 s E1 _ r h1 => ?_
  exact ⟨env, d, K.nx, E1, r, h1, fun σ' env' E' k' _ h' => q1 σ' H1 env' ((E.keep s).trans k') E' h'⟩
/-! ### what is walked -/
/-- J yields the data ds one after the other, whatever happens meanwhile outside of M -/
structure Walk (R : RC) (M : Addr → Prop) (H : Hp) (J : It) (ds : List D) : Prop where
  yld : ∀ (M' : Addr → Prop) (H' : Hp), Keep M M' H H' → (∀ a, H' a = none → ¬ M' a) → HInv R H' → ∀ i d, ds[i]? = some d → J.go i H' ∧ ∀ x H2, J.yld i H' x H2 → Stp R H' H2 ∧ Rep R M' H2 x d
  stop : ∀ (M' : Addr → Prop) (H' : Hp), Keep M M' H H' → J.stop ds.length H'
abbrev DI := DL
def toI (A : Act) (W : WX) (g : DI) : TI := fun σ H Q => ∃ (env : DEnv) (Qd : List D → Prop) (Ed : Ex → Prop), ERep A H σ env ∧ g env Qd Ed ∧
  (∀ J ds H', Stp A.R H H' → Walk A.R (MM A σ env) H' J ds → Qd ds → Q J H') ∧ XOut A W σ env H Ed
structure GI (X : Cx) (A : Act) (W : WX) (tg it : Expr) (g : DI) : Prop where
  p : PI X tg it (toI A W g)
theorem pi_imp {tg e : Expr} {t t' : TI} (h : PI X tg e t) (i : ∀ σ H Q, t' σ H Q → t σ H Q) : PI X tg e t' := ⟨fun pins s σ H Q I w => h.run pins s σ H Q I (i σ H Q w)⟩
def diL (g : DE) : DI := fun env Q Ed => g env (fun d => match d with
  | .lst ds => Q ds
  | _ => False) Ed
theorem walk_list {R : RC} {M : Addr → Prop} {H : Hp} {a : Addr} {xs : List V} {ds : List D} (K : PySem.W.Frag) (h : H a = some (.lst xs)) (n : ¬ M a) (r : RepL R M H xs ds) : Walk R M H (Itl K a) ds := by
  have key : ∀ {M' : Addr → Prop} {H' : Hp}, Keep M M' H H' → H' a = some (.lst xs) := fun k => k.k a _ h n
  have uniq : ∀ {H' : Hp} {ys : List V}, H' a = some (.lst xs) → Rd H' a (.lst ys) → xs = ys := fun {H' ys} e h => by
    rcases h with h | ⟨o, h⟩
    · rw [e] at h; cases h; rfl
    · rw [e] at h; cases h
  refine ⟨fun M' H' k hf hi i d e => ?_, fun M' H' k => ⟨xs, SqL.of (key k), by rw [r.length]; exact Nat.le_refl _⟩⟩
  obtain ⟨v, h1, h2⟩ := r.get e
  refine ⟨⟨xs, v, SqL.of (key k), h1⟩, fun x H2 y => ?_⟩
  obtain ⟨e2, y⟩ := y
  subst e2
  have e3 := y xs (SqL.of (key k))
  rw [h1] at e3
  cases e3
  exact ⟨Stp.refl _ _, h2.keep k⟩
theorem gi_list {tg e : Expr} {g : DE} (h : GE X A W e g) : GI X A W tg e (diL g) := by
  refine ⟨pi_imp (pi_list h.p) fun σ H Q ⟨env, Qd, Ed, E, h, q, x⟩ => ?_⟩
  refine toE_step E h x fun v d H1 s E1 _ r hd => ?_
  cases r <;> first | exact hd.elim | skip
  rename_i a xs ds e1 n rl
  exact ⟨a, rfl, ⟨xs, SqL.of e1⟩, q _ ds H1 s (walk_list _ e1 n rl) hd⟩
def diT (g : DE) : DI := fun env Q Ed => g env (fun d => match d with
  | .tup ds => Q ds
  | _ => False) Ed
theorem gi_tup {tg e : Expr} {g : DE} (hK : A.R.K = X.K) (h : GE X A W e g) : GI X A W tg e (diT g) := by
  refine ⟨pi_imp (pi_tup h.p) fun σ H Q ⟨env, Qd, Ed, E, h, q, x⟩ => ?_⟩
  refine toE_step E h x fun v d H1 s E1 _ r hd => ?_
  cases r <;> first | exact hd.elim | skip
  rename_i a xs ds ta rl
  refine ⟨a, rfl, ⟨xs, by rw [← hK]; exact ta.sq⟩, q _ ds H1 s ⟨fun M' H' k hf hi i d e => ?_, fun M' H' k => ⟨xs, by rw [← hK]; exact (ta.keep k).sq, by rw [rl.length]; exact Nat.le_refl _⟩⟩ hd⟩
  obtain ⟨v, h1, h2⟩ := rl.get e
  refine ⟨⟨xs, v, by rw [← hK]; exact (ta.keep k).sq, h1⟩, fun x H2 y => ?_⟩
  obtain ⟨e2, y⟩ := y
  subst e2
  have e3 := y xs (by rw [← hK]; exact (ta.keep k).sq)
  rw [h1] at e3
  cases e3
  exact ⟨Stp.refl _ _, h2.keep k⟩
def rngD (lo : Int) (n : Nat) : List D := (List.range n).map fun (i : Nat) => D.int (lo + (i : Int))
theorem rngD_get {lo : Int} {n i : Nat} : (rngD lo n)[i]? = if i < n then some (.int (lo + (i : Int))) else none := by
  unfold rngD
  rw [List.getElem?_map]
  by_cases h : i < n
  · rw [List.getElem?_range h, if_pos h]
    rfl
  · rw [List.getElem?_eq_none (by rw [List.length_range]; omega), if_neg h]
    rfl
theorem rngD_len {lo : Int} {n : Nat} : (rngD lo n).length = n := by
  unfold rngD
  rw [List.length_map, List.length_range]
theorem walk_rng {R : RC} {M : Addr → Prop} {H : Hp} (lo : Int) (n : Nat) : Walk R M H (Itr lo n) (rngD lo n) := by
  refine ⟨fun M' H' k hf hi i d e => ?_, fun M' H' k => by rw [rngD_len]; exact Nat.le_refl _⟩
  rw [rngD_get] at e
  by_cases c : i < n
  · rw [if_pos c] at e
    cases e
    refine ⟨c, fun x H2 y => ?_⟩
    obtain ⟨rfl, rfl⟩ := y
    exact ⟨Stp.refl _ _, .int _⟩
  · rw [if_neg c] at e; cases e
def diR1 (gs : DL) : DI := fun env Q Ed => gs env (fun ds => match ds with
  | [.int j] => -(2 ^ 62) ≤ j ∧ j < 2 ^ 62 ∧ Q (rngD 0 j.toNat)
  | _ => False) Ed
def diR2 (gs : DL) : DI := fun env Q Ed => gs env (fun ds => match ds with
  | [.int i, .int j] => (-(2 ^ 62) ≤ i ∧ i < 2 ^ 62 ∧ -(2 ^ 62) ≤ j ∧ j < 2 ^ 62) ∧ Q (rngD i (j - i).toNat)
  | _ => False) Ed
theorem gi_rng1 {tg a : Expr} {gs : DL} {p pos : Pos} (hg : Gl X "range") (hm : X.mg "range" = none) (ha : GL X A W [a] gs) (hs : starEach [a] X.env = [(false, eval a X.env)] := by rfl) : GI X A W tg (.Call (.Name "range" p) [a] [] pos) (diR1 gs) := by
  refine ⟨pi_imp (pi_range1 hg hm ha.p hs) fun σ H Q ⟨env, Qd, Ed, E, h, q, x⟩ => ⟨env, _, Ed, E, h, fun vs ds H' s r hd => ?_, x⟩⟩
  match ds, r, hd with
  | [.int j], .cons (.int _) .nil, hd => exact ⟨j, rfl, hd.1, hd.2.1, q _ _ H' s (walk_rng 0 j.toNat) hd.2.2⟩
/-- the signs of a text -/
def sgnD (x : Str) : List D := x.cps.toList.map fun c => .str ⟨#[c]⟩
def diS (g : DE) : DI := fun env Q Ed => g env (fun d => match d with
  | .str x => Q (sgnD x)
  | _ => False) Ed
/-! ### for -/
@[irreducible] def dfor (gi : DI) (t : DG) (s : DS) : DS := fun K env => gi env (fun ds => ∃ I : Nat → DEnv → Prop, I 0 env ∧
  (∀ i d env', ds[i]? = some d → I i env' → t d env' fun env2 => s { K with nx := I (i + 1), ct := I (i + 1), bk := K.nx } env2) ∧ ∀ env', I ds.length env' → K.nx env') fun x => K.ex x env
theorem gs_for {tg iter : Expr} {body : List Stmt} {gi : DI} {t : DG} {s : DS} {pos : Pos} {js : List Nat} (hp : PassesOwn (model X.prog X.w) X.A X.env X.xe) (hc : X.calm = true) (hi : GI X A W tg iter gi) (ht : GG X A js tg t) (hb : GSs X A W body s)
    (hs : ∀ x, foldedSetIterable iter X.env x = pure x := by intro _; rfl) : GS X A W (.For tg iter body [] pos) (dfor gi t s) := by
  refine ⟨ps_imp (ps_for hp hc hi.p ht.p hb.p hs) fun De σ H ⟨env, K, E, h, q1, q2, q3, q4, q5⟩ => ?_⟩
  unfold dfor at h
  refine ⟨env, _, _, E, h, fun J ds H1 s1 wk hd => ?_, xout_of E q5⟩
  obtain ⟨I, i0, it, ie⟩ := hd
  have E1 := E.stp s1
  have k1 := E.keep s1
  refine ⟨fun i m σ' H' => m = ds.length - i ∧ i ≤ ds.length ∧ ∃ env', ERep A H' σ' env' ∧ Keep (MM A σ env) (MM A σ' env') H1 H' ∧ I i env', ⟨ds.length, rfl, Nat.zero_le _, env, E1, Keep.refl _ _, i0⟩, ?_⟩
  rintro i m σ' H' ⟨rfl, hi, env', E', k', hI⟩
  by_cases hlt : i < ds.length
  · have e : ds[i]? = some ds[i] := List.getElem?_eq_getElem hlt
    obtain ⟨g1, g2⟩ := wk.yld _ H' k' (fun a z => E'.fresh z) E'.inv i _ e
    refine .inr ⟨g1, fun σ2 H2 => ∃ env2, ERep A H2 σ2 env2 ∧ Keep (MM A σ env) (MM A σ2 env2) H1 H2 ∧ I (i + 1) env2, fun σ2 H2 ⟨env2, E2, k2, h2⟩ => ⟨_, by omega, rfl, hlt, env2, E2, k2, h2⟩, fun x H2 y => ?_⟩
    obtain ⟨s2, rx⟩ := g2 x H2 y
    have E2 := E'.stp s2
    have k2 := k'.trans (E'.keep s2)
    refine ⟨env', _, _, E2, rx, it i _ env' e hI, fun σ3 env3 E3 k3 _ h3 => ?_⟩
    have k4 := k2.trans k3
    exact ⟨env3, _, E3, h3, fun σ4 H4 env4 kk EE hh => ⟨env4, EE, k4.trans kk, hh⟩, fun σ4 H4 env4 kk EE hh => q1 σ4 H4 env4 (k1.trans (k4.trans kk)) EE hh, fun σ4 H4 env4 kk EE hh => ⟨env4, EE, k4.trans kk, hh⟩, q4,
      fun x c dd σ4 H4 env4 kk => q5 x c dd σ4 H4 env4 (k1.trans (k4.trans kk))⟩
  · have e : i = ds.length := by omega
    subst e
    exact .inl ⟨wk.stop _ H' k', q1 σ' H' env' (k1.trans k') E' (ie env' hI)⟩
/-! ### while -/
@[irreducible] def dwhile (c : DB) (s : DS) : DS := fun K env => ∃ I : Nat → DEnv → Prop, (∃ m, I m env) ∧ ∀ m env', I m env' → c env' (fun b => if b = true then
    s { K with nx := fun e => ∃ m', m' < m ∧ I m' e, ct := fun e => ∃ m', m' < m ∧ I m' e, bk := K.nx } env' else K.nx env') fun x => K.ex x env'
theorem gs_while {c : Expr} {body : List Stmt} {gc : DB} {s : DS} {pos : Pos} (hp : PassesOwn (model X.prog X.w) X.A X.env X.xe) (hc : GT X A W c gc) (hb : GSs X A W body s) : GS X A W (.While c body [] pos) (dwhile gc s) := by
  refine ⟨ps_imp (ps_while hp hc.p hb.p) fun De σ H ⟨env, K, E, h, q1, q2, q3, q4, q5⟩ => ?_⟩
  unfold dwhile at h
  obtain ⟨I, ⟨m0, i0⟩, turn⟩ := h
  refine ⟨fun m σ' H' => ∃ env', ERep A H' σ' env' ∧ Keep (MM A σ env) (MM A σ' env') H H' ∧ I m env', ⟨m0, env, E, Keep.refl _ _, i0⟩, ?_⟩
  rintro m σ' H' ⟨env', E', k', hI⟩
  refine ⟨env', _, _, E', turn m env' hI, fun b H1 s1 hb => ?_, fun x c dd H2 s2 r e => q5 x c dd σ' H2 env' (k'.trans (E'.keep s2)) (E'.stp s2) r e⟩
  have E1 := E'.stp s1
  have k1 := k'.trans (E'.keep s1)
  cases b with
  | true =>
    dsimp only
    rw [if_pos rfl] at hb ⊢
    refine ⟨fun σ2 H2 => ∃ m', m' < m ∧ ∃ env2, ERep A H2 σ2 env2 ∧ Keep (MM A σ env) (MM A σ2 env2) H H2 ∧ I m' env2, fun σ2 H2 h => h, env', _, E1, hb, fun σ4 H4 env4 kk EE ⟨m', hm, hh⟩ => ⟨m', hm, env4, EE, k1.trans kk, hh⟩,
      fun σ4 H4 env4 kk EE hh => q1 σ4 H4 env4 (k1.trans kk) EE hh, fun σ4 H4 env4 kk EE ⟨m', hm, hh⟩ => ⟨m', hm, env4, EE, k1.trans kk, hh⟩, q4, fun x c dd σ4 H4 env4 kk => q5 x c dd σ4 H4 env4 (k1.trans kk)⟩
  | false =>
    dsimp only
    rw [if_neg Bool.false_ne_true] at hb ⊢
    exact q1 σ' H1 env' k1 E1 hb
end
end Nb
set_option maxRecDepth 100000
set_option maxHeartbeats 2000000
/-! Nb: operators, calls of built-ins, comprehensions. -/
namespace Nb
open PySem PySem.Spec PyProof.Rows L2
section
variable {X : Cx} {A : Act} {W : WX}
/-! ### + -/
def dAdd (x y : D) (Q : D → Prop) : Prop := match x, y with
  | .int i, .int j => Q (.int (i + j))
  | .str i, .str j => i.length + j.length ≤ LINE ∧ Q (.str (i ++ j))
  | .lst i, .lst j => i.length + j.length ≤ LINE ∧ Q (.lst (i ++ j))
  | .tup i, .tup j => i ≠ [] ∧ i.length + j.length ≤ LINE ∧ Q (.tup (i ++ j))
  | _, _ => False
def rAddAll (K : PySem.W.Frag) : R2 := fun x y H Q => rI0 (fun i j => .int (i + j)) x y H Q ∨ ((∃ i j, x = .str i ∧ y = .str j ∧ i.length + j.length ≤ sizeLine ∧ Q (.str (i ++ j)) H) ∨ (rCat x y H Q ∨ rCatT K x y H Q))
theorem op_addAll : OpR X (binaryOp .Add) (rAddAll X.K) := op_add.or (op_add_str.or (op_cat.or op_catT))
theorem od_add : OpD A (rAddAll A.R.K) dAdd := by
  intro M H x y d e Q Qd hst hf rx ry h k
  match d, e, rx, ry, h with
  | .int i, .int j, .int _, .int _, h => exact .inl ⟨i, j, rfl, rfl, k _ _ H (Stp.refl _ _) (.int _) h⟩
  | .str i, .str j, .str _, .str _, h => exact .inr (.inl ⟨i, j, rfl, rfl, by rw [line_is]; exact h.1, k _ _ H (Stp.refl _ _) (.str _) h.2⟩)
  | .lst i, .lst j, .lst (a := a) (xs := xs) e1 n1 r1, .lst (a := b) (xs := ys) e2 n2 r2, h =>
    refine .inr (.inr (.inl ⟨a, b, xs, ys, rfl, rfl, e1, e2, by rw [r1.length, r2.length, line_is]; exact h.1, fun p hp => ?_⟩))
    have s : Stp A.R H (upd H p (.lst (xs ++ ys))) := Stp.new hp
    exact k _ _ _ s (.lst upd_same (hf p hp) ((r1.append r2).keep (s.keep hst))) h.2
  | .tup i, .tup j, .tup (a := a) (xs := xs) t1 r1, .tup (a := b) (xs := ys) t2 r2, h =>
    have hx : xs ≠ [] := fun z => h.1 (by cases r1 with
      | nil => rfl
      | cons _ _ => cases z)
    refine .inr (.inr (.inr ⟨a, b, xs, ys, rfl, rfl, t1.sq, t2.sq, hx, by rw [r1.length, r2.length, line_is]; exact h.2.1, fun z => ?_, fun z p hp => ?_⟩))
    · subst z
      cases r2
      refine k _ _ H (Stp.refl _ _) (.tup t1 r1) ?_
      have := h.2.2
      rw [List.append_nil] at this
      exact this
    · have s : Stp A.R H (upd H p (.tup (xs ++ ys))) := Stp.new hp
      exact k _ _ _ s (.tup (TAt.new (hf p hp)) ((r1.append r2).keep (s.keep hst))) h.2.2
theorem ge_add {a b : Expr} {pos} {ga gb : DE} (ha : GE X A W a ga) (hb : GE X A W b gb) (hK : A.R.K = X.K := by rfl) : GE X A W (.BinOp a .Add b pos) (dop dAdd ga gb) := ge_bin op_addAll (hK ▸ od_add) ha hb
/-! ### ints -/
theorem od_I {C : Int → Int → Prop} {g : Int → Int → V} {gd : Int → Int → D} (hg : ∀ (M : Addr → Prop) (H : Hp) i j, Rep A.R M H (g i j) (gd i j)) : OpD A (rI C g) (fun x y Q => match x, y with
  | .int i, .int j => C i j ∧ Q (gd i j)
  | _, _ => False) := by
  intro M H x y d e Q Qd hst hf rx ry h k
  match d, e, rx, ry, h with
  | .int i, .int j, .int _, .int _, h => exact ⟨i, j, rfl, rfl, h.1, k _ _ H (Stp.refl _ _) (hg _ _ _ _) h.2⟩
theorem od_I0 {g : Int → Int → V} {gd : Int → Int → D} (hg : ∀ (M : Addr → Prop) (H : Hp) i j, Rep A.R M H (g i j) (gd i j)) : OpD A (rI0 g) (fun x y Q => match x, y with
  | .int i, .int j => Q (gd i j)
  | _, _ => False) := by
  intro M H x y d e Q Qd hst hf rx ry h k
  match d, e, rx, ry, h with
  | .int i, .int j, .int _, .int _, h => exact ⟨i, j, rfl, rfl, k _ _ H (Stp.refl _ _) (hg _ _ _ _) h⟩
def dII (C : Int → Int → Prop) (g : Int → Int → Int) (x y : D) (Q : D → Prop) : Prop := match x, y with
  | .int i, .int j => C i j ∧ Q (.int (g i j))
  | _, _ => False
def dI0 (g : Int → Int → Int) (x y : D) (Q : D → Prop) : Prop := match x, y with
  | .int i, .int j => Q (.int (g i j))
  | _, _ => False
def dB0 (g : Int → Int → Bool) (x y : D) (Q : D → Prop) : Prop := match x, y with
  | .int i, .int j => Q (.bl (g i j))
  | _, _ => False
abbrev CMulA (i j : Int) : Prop := CMul i j ∨ CMulW i j
abbrev CDivA (i j : Int) : Prop := CDiv i j ∨ CDivW i j
abbrev CPos (_ j : Int) : Prop := 0 < j
abbrev dSub := dI0 fun i j => i - j
abbrev dFdiv := dII CDivA fun i j => i / j
abbrev dMod := dII CPos fun i j => i % j
abbrev dPow := dII CPow fun i j => i ^ j.toNat
theorem op_mulA : OpR X (binaryOp .Mult) (rI CMulA fun i j => .int (i * j)) := opI fun _ _ _ _ _ _ _ hc q => mul_int q (hc.elim CMul.ok CMulW.ok)
theorem op_fdivA : OpR X (binaryOp .FloorDiv) (rI CDivA fun i j => .int (i / j)) := by
  intro pins s σ H x y v u Q I rx ry h
  obtain ⟨i, j, rfl, rfl, hc, q⟩ := h
  rcases hc with hc | hc
  · exact op_fdiv pins s σ H _ _ v u Q I rx ry ⟨i, j, rfl, rfl, hc, q⟩
  · exact op_fdivW pins s σ H _ _ v u Q I rx ry ⟨i, j, rfl, rfl, hc, q⟩
/-- products: of ints; a list n times -/
def dMul (x y : D) (Q : D → Prop) : Prop := match x, y with
  | .int i, .int j => CMulA i j ∧ Q (.int (i * j))
  | .lst xs, .int j => (-(2 ^ 63) ≤ j ∧ j < 2 ^ 63 ∧ xs.length * j.toNat ≤ LINE) ∧ Q (.lst (List.replicate j.toNat xs).flatten)
  | _, _ => False
def rMulAll : R2 := fun x y H Q => rI CMulA (fun i j => .int (i * j)) x y H Q ∨ rRep x y H Q
theorem op_mulAll : OpR X (binaryOp .Mult) rMulAll := op_mulA.or op_rep
theorem RepL.rep {R : RC} {M : Addr → Prop} {H : Hp} {vs : List V} {ds : List D} (r : RepL R M H vs ds) : ∀ n : Nat, RepL R M H (List.replicate n vs).flatten (List.replicate n ds).flatten
  | 0 => .nil
  | n + 1 => by
    rw [List.replicate_succ, List.replicate_succ, List.flatten_cons, List.flatten_cons]
    exact r.append (RepL.rep r n)
theorem od_mul : OpD A rMulAll dMul := by
  intro M H x y d e Q Qd hst hf rx ry h k
  match d, e, rx, ry, h with
  | .int i, .int j, .int _, .int _, h => exact .inl ⟨i, j, rfl, rfl, h.1, k _ _ H (Stp.refl _ _) (.int _) h.2⟩
  | .lst xs, .int j, .lst (a := a) (xs := vs) e1 n1 r1, .int _, h =>
    refine .inr ⟨a, j, vs, rfl, rfl, e1, h.1.1, h.1.2.1, by rw [r1.length, line_is]; exact h.1.2.2, fun p hp => ?_⟩
    have s : Stp A.R H (upd H p (.lst (List.replicate j.toNat vs).flatten)) := Stp.new hp
    exact k _ _ _ s (.lst upd_same (hf p hp) ((r1.rep _).keep (s.keep hst))) h.2
theorem ge_mul {a b : Expr} {pos} {ga gb : DE} (ha : GE X A W a ga) (hb : GE X A W b gb) : GE X A W (.BinOp a .Mult b pos) (dop dMul ga gb) := ge_bin op_mulAll od_mul ha hb
theorem ge_subI {a b : Expr} {pos} {ga gb : DE} (ha : GE X A W a ga) (hb : GE X A W b gb) : GE X A W (.BinOp a .Sub b pos) (dop dSub ga gb) := ge_bin op_sub (od_I0 fun _ _ _ _ => .int _) ha hb
theorem ge_fdiv {a b : Expr} {pos} {ga gb : DE} (ha : GE X A W a ga) (hb : GE X A W b gb) : GE X A W (.BinOp a .FloorDiv b pos) (dop dFdiv ga gb) := ge_bin op_fdivA (od_I fun _ _ _ _ => .int _) ha hb
theorem ge_mod {a b : Expr} {pos} {ga gb : DE} (ha : GE X A W a ga) (hb : GE X A W b gb) : GE X A W (.BinOp a .Mod b pos) (dop dMod ga gb) := ge_bin op_mod (od_I fun _ _ _ _ => .int _) ha hb
theorem ge_pow {a b : Expr} {pos} {ga gb : DE} (ha : GE X A W a ga) (hb : GE X A W b gb) : GE X A W (.BinOp a .Pow b pos) (dop dPow ga gb) := ge_bin op_pow (od_I fun _ _ _ _ => .int _) ha hb
def dNeg (g : DE) : DE := fun env Q Ed => g env (fun d => match d with
  | .int i => Q (.int (-i))
  | _ => False) Ed
theorem ge_neg {a : Expr} {pos} {g : DE} (h : GE X A W a g) : GE X A W (.UnaryOp .USub a pos) (dNeg g) := by
  refine ⟨pe_imp (pe_un un_neg h.p) fun σ H Q ⟨env, Qd, Ed, E, h, q, x⟩ => toE_step E h x fun v d H1 s E1 _ r hd => ?_⟩
  match d, r, hd with
  | .int i, .int _, hd => exact ⟨i, rfl, q _ _ H1 s (.int _) hd⟩
abbrev dLt := dB0 fun i j => decide (i < j)
abbrev dLe := dB0 fun i j => decide (i ≤ j)
abbrev dGt := dB0 fun i j => decide (j < i)
abbrev dGe := dB0 fun i j => decide (j ≤ i)
/-! ### data as the library's data, ==, != -/
mutual
def D.py : D → Option PyData
  | .non => some .none
  | .bl b => some (.bool b)
  | .int i => some (.int i)
  | .str x => some (.str x)
  | .tup ds => (D.pys ds).map .tuple
  | .lst ds => (D.pys ds).map .list
  | .ty _ => none
  | .sto => none
  | .exc _ _ => none
  | .ins _ _ => none
  | .dct => none
def D.pys : List D → Option (List PyData)
  | [] => some []
  | d :: ds => (D.py d).bind fun x => (D.pys ds).map fun xs => x :: xs
end
mutual
theorem Rep.dp {R : RC} {M : Addr → Prop} {H : Hp} : ∀ {v : V} {d : D} {p : PyData}, Rep R M H v d → D.py d = some p → Dp R.K H v p
  | _, _, _, .non, e => by rw [D.py] at e; cases e; exact .non
  | _, _, _, .bl b, e => by rw [D.py] at e; cases e; exact .bl b
  | _, _, _, .int i, e => by rw [D.py] at e; cases e; exact .int i
  | _, _, _, .str x, e => by rw [D.py] at e; cases e; exact .str x
  | _, _, _, .ty n, e => by rw [D.py] at e; cases e
  | _, .tup ds, p, .tup t r, e => by
    rw [D.py] at e
    cases c : D.pys ds with
    | none => rw [c] at e; cases e
    | some ps =>
      rw [c] at e
      cases e
      exact .tup t.sq (RepL.dp r c)
  | _, .lst ds, p, .lst e1 n r, e => by
    rw [D.py] at e
    cases c : D.pys ds with
    | none => rw [c] at e; cases e
    | some ps =>
      rw [c] at e
      cases e
      exact .lst (SqL.of e1) (RepL.dp r c)
  | _, _, _, .sto _, e => by rw [D.py] at e; cases e
  | _, _, _, .exc0 _ _, e => by rw [D.py] at e; cases e
  | _, _, _, .excF _ _ _ _ _, e => by rw [D.py] at e; cases e
  | _, _, _, .ins _ _ _ _, e => by rw [D.py] at e; cases e
  | _, _, _, .dct _ _, e => by rw [D.py] at e; cases e
theorem RepL.dp {R : RC} {M : Addr → Prop} {H : Hp} : ∀ {v : List V} {d : List D} {p : List PyData}, RepL R M H v d → D.pys d = some p → DpAll R.K H v p
  | _, _, _, .nil, e => by rw [D.pys] at e; cases e; exact .nil
  | _, d :: ds, _, .cons a b, e => by
    rw [D.pys] at e
    cases c1 : D.py d with
    | none => rw [c1] at e; cases e
    | some x =>
      rw [c1, Option.bind_some] at e
      cases c2 : D.pys ds with
      | none => rw [c2] at e; cases e
      | some xs =>
        rw [c2] at e
        cases e
        exact .cons (Rep.dp a c1) (RepL.dp b c2)
end
/-- a shape that the comparison may walk -/
def Shp (d : D) : Prop := ∃ p, D.py d = some p ∧ SeqAt.shaped p = true
def D.eqv (d e : D) : Bool := match D.py d, D.py e with
  | some a, some b => PyData.eqv a b
  | _, _ => false
/-- kinds whose comparison asks no shape -/
def scD : D → D → Bool
  | .int _, .int _ | .str _, .str _ | .bl _, .bl _ | .non, .non | .non, .int _ | .int _, .non | .non, .str _ | .str _, .non | .non, .bl _ | .bl _, .non | .int _, .str _ | .str _, .int _ => true
  | _, _ => false
def dEq (x y : D) (Q : D → Prop) : Prop := (scD x y = true ∨ (Shp x ∧ Shp y)) ∧ Q (.bl (D.eqv x y))
def dNe (x y : D) (Q : D → Prop) : Prop := (scD x y = true ∨ (Shp x ∧ Shp y)) ∧ Q (.bl (!D.eqv x y))
theorem eqv_int (i j : Int) : D.eqv (.int i) (.int j) = (i == j) := rfl
theorem eqv_str (i j : Str) : D.eqv (.str i) (.str j) = (i == j) := rfl
theorem eqv_bl (i j : Bool) : D.eqv (.bl i) (.bl j) = (i == j) := rfl
theorem op_eqA (hu : X.A.units + 64 < cLine) : OpR X (compareOp .Eq) (fun x y H Q => rEq x y H Q ∨ rEqD X.K x y H Q) := op_eq.or (op_eqD hu)
theorem op_neA (hu : X.A.units + 64 < cLine) : OpR X (compareOp .NotEq) (fun x y H Q => rNe x y H Q ∨ rNeD X.K x y H Q) := op_ne.or (op_neD hu)
theorem scd_eq {R : RC} {M : Addr → Prop} {H : Hp} {x y : V} {d e : D} (rx : Rep R M H x d) (ry : Rep R M H y e) (h : scD d e = true) : scal x y = true ∧ D.eqv d e = decide (x = y) := by
  cases rx <;> cases ry <;> first | (exact absurd h (by decide)) | (cases h) | skip
  all_goals first
    | exact ⟨rfl, rfl⟩
    | (refine ⟨rfl, ?_⟩; first | (rw [dec_int]; rfl) | (rw [dec_str]; rfl) | (rw [dec_bl]; rfl))
theorem od_eq : OpD A (fun x y H Q => rEq x y H Q ∨ rEqD A.R.K x y H Q) dEq := by
  intro M H x y d e Q Qd hst hf rx ry h k
  obtain ⟨h1, h2⟩ := h
  rcases h1 with h1 | ⟨⟨p, hp, sp⟩, q, hq, sq⟩
  · obtain ⟨z1, z2⟩ := scd_eq rx ry h1
    refine .inl ⟨z1, k _ _ H (Stp.refl _ _) (.bl _) ?_⟩
    rw [← z2]
    exact h2
  · refine .inr ⟨p, q, rx.dp hp, ry.dp hq, sp, sq, k _ _ H (Stp.refl _ _) (.bl _) ?_⟩
    unfold D.eqv at h2
    rw [hp, hq] at h2
    exact h2
theorem od_ne : OpD A (fun x y H Q => rNe x y H Q ∨ rNeD A.R.K x y H Q) dNe := by
  intro M H x y d e Q Qd hst hf rx ry h k
  obtain ⟨h1, h2⟩ := h
  rcases h1 with h1 | ⟨⟨p, hp, sp⟩, q, hq, sq⟩
  · obtain ⟨z1, z2⟩ := scd_eq rx ry h1
    refine .inl ⟨z1, k _ _ H (Stp.refl _ _) (.bl _) ?_⟩
    rw [← z2]
    exact h2
  · refine .inr ⟨p, q, rx.dp hp, ry.dp hq, sp, sq, k _ _ H (Stp.refl _ _) (.bl _) ?_⟩
    unfold D.eqv at h2
    rw [hp, hq] at h2
    exact h2
/-- is None -/
def dIsN (x y : D) (Q : D → Prop) : Prop := match x, y with
  | .non, .non => Q (.bl true)
  | _, .non => Q (.bl false)
  | _, _ => False
def dNotN (x y : D) (Q : D → Prop) : Prop := match x, y with
  | .non, .non => Q (.bl false)
  | _, .non => Q (.bl true)
  | _, _ => False
theorem od_isN : OpD A (fun x y H Q => y = .non ∧ Q (.bl (decide (x = .non))) H) dIsN := by
  intro M H x y d e Q Qd hst hf rx ry h k
  cases ry <;> first | (cases rx <;> exact h.elim) | skip
  cases rx <;> exact ⟨rfl, k _ _ H (Stp.refl _ _) (.bl _) h⟩
/-! ### in -/
def D.flat : D → Bool
  | .non | .bl _ | .int _ | .str _ => true
  | _ => false
def D.inl (x : D) (ds : List D) : Bool := ds.any fun y => D.eqv y x
def hasS (i j : Str) : Bool := !(Builtin.Str.occurrences j i 0 j.length 1).isEmpty
def dIn (x y : D) (Q : D → Prop) : Prop := match x, y with
  | .str i, .str j => Q (.bl (hasS i j))
  | x, .lst ds => (x.flat = true ∧ ds.all D.flat = true) ∧ Q (.bl (x.inl ds))
  | x, .tup ds => (x.flat = true ∧ ds.all D.flat = true) ∧ Q (.bl (x.inl ds))
  | _, _ => False
def dNotIn (x y : D) (Q : D → Prop) : Prop := dIn x y fun d => match d with
  | .bl b => Q (.bl (!b))
  | _ => False
/-! ### comparisons: as values and as tests -/
structure CMP (X : Cx) (A : Act) (op : CmpOp) (f : D → D → (D → Prop) → Prop) : Prop where
  ex : ∃ r, OpR X (compareOp op) r ∧ OpD A r f
theorem cm_eq (hu : X.A.units + 64 < cLine) (hK : A.R.K = X.K := by rfl) : CMP X A .Eq dEq := ⟨_, op_eqA hu, hK ▸ od_eq⟩
theorem cm_ne (hu : X.A.units + 64 < cLine) (hK : A.R.K = X.K := by rfl) : CMP X A .NotEq dNe := ⟨_, op_neA hu, hK ▸ od_ne⟩
theorem cm_lt : CMP X A .Lt dLt := ⟨_, op_lt, od_I0 fun _ _ _ _ => .bl _⟩
theorem cm_le : CMP X A .LtE dLe := ⟨_, op_le, od_I0 fun _ _ _ _ => .bl _⟩
theorem cm_gt : CMP X A .Gt dGt := ⟨_, op_gt, od_I0 fun _ _ _ _ => .bl _⟩
theorem cm_ge : CMP X A .GtE dGe := ⟨_, op_ge, od_I0 fun _ _ _ _ => .bl _⟩
theorem cm_isN : CMP X A .Is dIsN := ⟨_, op_isN, od_isN⟩
theorem ge_c {op : CmpOp} {f : D → D → (D → Prop) → Prop} {a b : Expr} {pos} {ga gb : DE} (c : CMP X A op f) (ha : GE X A W a ga) (hb : GE X A W b gb) (hm : behindInMarks op b = false := by first | exact nomark _ | rfl) : GE X A W (.Compare a [op] [b] pos) (dop f ga gb) := by
  obtain ⟨r, o, od⟩ := c.ex
  exact ge_cmp o od ha hb hm
theorem gt_c {op : CmpOp} {f : D → D → (D → Prop) → Prop} {a b : Expr} {pos} {ga gb : DE} (c : CMP X A op f) (ha : GE X A W a ga) (hb : GE X A W b gb) (hm : behindInMarks op b = false := by first | exact nomark _ | rfl) : GT X A W (.Compare a [op] [b] pos) (dtest (dop f ga gb)) := by
  obtain ⟨r, o, od⟩ := c.ex
  exact gt_cmp o od ha hb hm
/-- a op b op' c -/
def dchain (f f' : D → D → (D → Prop) → Prop) (ga gb gc : DE) : DE := fun env Q Ed => ga env (fun x => gb env (fun y => f x y fun z => match z with
  | .bl b => if b = true then gc env (fun w => f' y w Q) Ed else Q (.bl false)
  | _ => False) Ed) Ed
/-! ### tests -/
def dtruth (g : DE) : DB := fun env Q Ed => g env (fun d => match d with
  | .bl b => Q b
  | _ => False) Ed
theorem gt_val {e : Expr} {g : DE} (h : GE X A W e g) (he : ∀ whole, isTrue e X.env whole = (do let v ← whole; standAt e.pos; holding [v] (truthy v)) := by intro _; rfl) : GT X A W e (dtruth g) := by
  refine ⟨pt_imp (pt_val h.p he) fun σ H Q ⟨env, Qd, Ed, E, h, q, x⟩ => toE_step E h x fun v d H1 s E1 _ r hd => ?_⟩
  match d, r, hd with
  | .bl b, .bl _, hd => exact ⟨b, rfl, q b H1 s hd⟩
theorem toB_step {g : DB} {σ : St} {H : Hp} {env : DEnv} {Q : Bool → Hp → Prop} {Qd : Bool → Prop} {Ed : Ex → Prop} (E : ERep A H σ env) (h : g env Qd Ed) (x : XOut A W σ env H Ed)
    (k : ∀ b H', Stp A.R H H' → ERep A H' σ env → XOut A W σ env H' Ed → Qd b → Q b H') : toB A W g σ H Q :=
  ⟨env, Qd, Ed, E, h, fun b H' s q => k b H' s (E.stp s) (x.stp s) q, x⟩
structure GW (X : Cx) (A : Act) (W : WX) (e : Expr) (g : DB) : Prop where
  p : PW X e (toB A W g)
theorem pw_imp {e : Expr} {t t' : TT} (h : PW X e t) (i : ∀ σ H Q, t' σ H Q → t σ H Q) : PW X e t' := ⟨fun wh pins s σ H Q I w => h.run wh pins s σ H Q I (i σ H Q w)⟩
def dand (g u : DB) : DB := fun env Q Ed => g env (fun b => if b = true then u env Q Ed else Q false) Ed
def dor (g u : DB) : DB := fun env Q Ed => g env (fun b => if b = true then Q true else u env Q Ed) Ed
def dnot (g : DB) : DB := fun env Q Ed => g env (fun b => Q (!b)) Ed
theorem gw_and1 {a : Expr} {pos} {g : DB} (h : GT X A W a g) : GW X A W (.BoolOp .And [a] pos) g := ⟨pw_and1 h.p⟩
theorem gw_or1 {a : Expr} {pos} {g : DB} (h : GT X A W a g) : GW X A W (.BoolOp .Or [a] pos) g := ⟨pw_or1 h.p⟩
theorem gw_and {a b : Expr} {rest : List Expr} {pos} {g u : DB} (h : GT X A W a g) (k : GW X A W (.BoolOp .And (b :: rest) pos) u) : GW X A W (.BoolOp .And (a :: b :: rest) pos) (dand g u) := by
  refine ⟨pw_imp (pw_and h.p k.p) fun σ H Q ⟨env, Qd, Ed, E, h, q, x⟩ => toB_step E h x fun c H1 s E1 x1 hd => ?_⟩
  cases c with
  | true => exact ⟨env, Qd, Ed, E1, hd, fun b H2 s2 qd => q b H2 (s.trans s2) qd, x1⟩
  | false => exact q false H1 s hd
theorem gw_or {a b : Expr} {rest : List Expr} {pos} {g u : DB} (h : GT X A W a g) (k : GW X A W (.BoolOp .Or (b :: rest) pos) u) : GW X A W (.BoolOp .Or (a :: b :: rest) pos) (dor g u) := by
  refine ⟨pw_imp (pw_or h.p k.p) fun σ H Q ⟨env, Qd, Ed, E, h, q, x⟩ => toB_step E h x fun c H1 s E1 x1 hd => ?_⟩
  cases c with
  | false => exact ⟨env, Qd, Ed, E1, hd, fun b H2 s2 qd => q b H2 (s.trans s2) qd, x1⟩
  | true => exact q true H1 s hd
theorem GW.t {e : Expr} {g : DB} (h : GW X A W e g) : GT X A W e g := ⟨h.p.pt⟩
theorem gt_not {a : Expr} {pos} {g : DB} (h : GT X A W a g) : GT X A W (.UnaryOp .Not a pos) (dnot g) :=
  ⟨pt_imp (pt_not h.p) fun σ H Q ⟨env, Qd, Ed, E, h, q, x⟩ => toB_step E h x fun b H1 s _ _ hd => q _ H1 s hd⟩
/-- and, or, not as values (of truths) -/
def dandV (g u : DE) : DE := fun env Q Ed => g env (fun d => match d with
  | .bl b => if b = true then u env Q Ed else Q (.bl false)
  | _ => False) Ed
def dorV (g u : DE) : DE := fun env Q Ed => g env (fun d => match d with
  | .bl b => if b = true then Q (.bl true) else u env Q Ed
  | _ => False) Ed
def dnotV (g : DE) : DE := fun env Q Ed => g env (fun d => match d with
  | .bl b => Q (.bl (!b))
  | _ => False) Ed
theorem ge_not {a : Expr} {pos} {g : DE} (h : GE X A W a g) (hP : ∀ t, PE X a t → PE X (.UnaryOp .Not a pos) (tNotV t) := by exact fun t h => pe_not h) : GE X A W (.UnaryOp .Not a pos) (dnotV g) := by
  refine ⟨pe_imp (hP _ h.p) fun σ H Q ⟨env, Qd, Ed, E, h, q, x⟩ => toE_step E h x fun v d H1 s E1 _ r hd => ?_⟩
  match d, r, hd with
  | .bl b, .bl _, hd => exact ⟨b, rfl, q _ _ H1 s (.bl _) hd⟩
theorem ge_and {a b : Expr} {rest : List Expr} {pos} {g u : DE} (h : GE X A W a g) (k : GE X A W (.BoolOp .And (b :: rest) pos) u) (hP : ∀ t u, PE X a t → PE X (.BoolOp .And (b :: rest) pos) u → PE X (.BoolOp .And (a :: b :: rest) pos) (tAndV t u) := by exact fun t u h k => pe_and h k) :
    GE X A W (.BoolOp .And (a :: b :: rest) pos) (dandV g u) := by
  refine ⟨pe_imp (hP _ _ h.p k.p) fun σ H Q ⟨env, Qd, Ed, E, h, q, x⟩ => toE_step E h x fun v d H1 s E1 x1 r hd => ?_⟩
  match d, r, hd with
  | .bl true, .bl _, hd => exact ⟨true, rfl, iteT ⟨env, Qd, Ed, E1, hd, fun v d H2 s2 r q2 => q v d H2 (s.trans s2) r q2, x1⟩⟩
  | .bl false, .bl _, hd => exact ⟨false, rfl, iteF (q _ _ H1 s (.bl _) hd)⟩
theorem ge_one {a : Expr} {op} {pos} {g : DE} (h : GE X A W a g) (hP : ∀ t, PE X a t → PE X (.BoolOp op [a] pos) t := by exact fun t h => pe_one h) : GE X A W (.BoolOp op [a] pos) g := ⟨hP _ h.p⟩
def difE (c : DB) (g u : DE) : DE := fun env Q Ed => c env (fun b => if b = true then g env Q Ed else u env Q Ed) Ed
theorem ge_ifExp {c a b : Expr} {pos} {gc : DB} {g u : DE} (hc : GT X A W c gc) (ha : GE X A W a g) (hb : GE X A W b u) : GE X A W (.IfExp c a b pos) (difE gc g u) := by
  refine ⟨pe_imp (pe_ifExp hc.p ha.p hb.p) fun σ H Q ⟨env, Qd, Ed, E, h, q, x⟩ => toB_step E h x fun b H1 s E1 x1 hd => ?_⟩
  cases b with
  | true => exact ⟨env, Qd, Ed, E1, hd, fun v d H2 s2 r q2 => q v d H2 (s.trans s2) r q2, x1⟩
  | false => exact ⟨env, Qd, Ed, E1, hd, fun v d H2 s2 r q2 => q v d H2 (s.trans s2) r q2, x1⟩
end
end Nb
set_option maxRecDepth 100000
set_option maxHeartbeats 2000000
/-! Nb: items, slices, calls, comprehensions, defs. -/
namespace Nb
open PySem PySem.Spec PyProof.Rows L2
section
variable {X : Cx} {A : Act} {W : WX}
/-! ### xs[i] -/
def dIx (x y : D) (Q : D → Prop) : Prop := match x, y with
  | .lst ds, .int i => ∃ d, atI ds i = some d ∧ Q d
  | .tup ds, .int i => ∃ d, atI ds i = some d ∧ Q d
  | .str z, .int i => z.length ≤ LINE ∧ ∃ c, atI z.cps.toList i = some c ∧ Q (.str ⟨#[c]⟩)
  | _, _ => False
theorem RepL.atI {R : RC} {M : Addr → Prop} {H : Hp} {vs : List V} {ds : List D} (r : RepL R M H vs ds) {i : Int} {d : D} (h : L2.atI ds i = some d) : ∃ v, L2.atI vs i = some v ∧ Rep R M H v d := by
  unfold L2.atI at h ⊢
  rw [r.length]
  cases e : ixN ds.length i with
  | none => rw [e] at h; cases h
  | some j =>
    rw [e, Option.bind_some] at h
    obtain ⟨v, h1, h2⟩ := r.get h
    exact ⟨v, by rw [Option.bind_some]; exact h1, h2⟩
theorem od_ix : OpD A (rIx A.R.K) dIx := by
  intro M H x y d e Q Qd hst hf rx ry h k
  match d, e, rx, ry, h with
  | .lst ds, .int i, .lst (a := a) (xs := xs) e1 n r, .int _, ⟨d, h1, h2⟩ =>
    obtain ⟨v, h3, h4⟩ := r.atI h1
    exact .inl ⟨a, xs, i, v, rfl, rfl, SqL.of e1, h3, k _ _ H (Stp.refl _ _) h4 h2⟩
  | .tup ds, .int i, .tup (a := a) (xs := xs) t r, .int _, ⟨d, h1, h2⟩ =>
    obtain ⟨v, h3, h4⟩ := r.atI h1
    exact .inr (.inl ⟨a, xs, i, v, rfl, rfl, t.sq, h3, k _ _ H (Stp.refl _ _) h4 h2⟩)
  | .str z, .int i, .str _, .int _, ⟨hz, c, h1, h2⟩ => exact .inr (.inr ⟨z, i, c, rfl, rfl, by rw [line_is]; exact hz, h1, k _ _ H (Stp.refl _ _) (.str _) h2⟩)
theorem ge_ix {a b : Expr} {pos} {ga gb : DE} (ha : GE X A W a ga) (hb : GE X A W b gb) (hs : PlainIx b := by exact fun _ _ => rfl) (hK : A.R.K = X.K := by rfl) : GE X A W (.Subscript a b pos) (dop dIx ga gb) := ge_sub ix_seq (hK ▸ od_ix) ha hb hs
/-- an item of a list of the def's own -/
def dixO (i : Nat) (g : DE) : DE := fun env Q Ed => match env[i]? with
  | some (.own ds) => g env (fun d => match d with
    | .int n => ∃ y, atI ds n = some y ∧ Q y
    | _ => False) Ed
  | _ => False
theorem ge_ixO {i : Nat} {a b : Expr} {pos} {g : DE} (ha : PE X a (tVar i)) (hb : GE X A W b g) (hs : PlainIx b := by exact fun _ _ => rfl) : GE X A W (.Subscript a b pos) (dixO i g) := by
  refine ⟨pe_imp (pe_ix ix_list ha hb.p hs) fun σ H Q ⟨env, Qd, Ed, E, h, q, x⟩ => ?_⟩
  obtain ⟨ds, e1, h⟩ := own_of h
  obtain ⟨a, vs, h1, h2, h3, h4, h5⟩ := E.own i ds e1
  refine ⟨.ref a, h1, toE_step E h x fun v d H1 s E1 _ r hd => ?_⟩
  match d, r, hd with
  | .int n, .int _, ⟨y, h6, h7⟩ =>
    obtain ⟨v, h8, h9⟩ := (h3.keep (E.keep s)).atI h6
    exact ⟨a, vs, n, v, rfl, rfl, SqL.of (s.k a _ h2 fun z => h4 (E.ok.st a z)), h8, q _ _ H1 s h9 h7⟩
/-! ### slices -/
abbrev DO := DEnv → (Option Int → Prop) → (Ex → Prop) → Prop
def donone : DO := fun _ Q _ => Q none
def dosome (g : DE) : DO := fun env Q Ed => g env (fun d => match d with
  | .int i => Q (some i)
  | _ => False) Ed
def cutD (xs : List D) (lo hi : Option Int) : List D := (xs.drop (HT.sIx xs.length 0 lo)).take (HT.sIx xs.length xs.length hi - HT.sIx xs.length 0 lo)
def dSl (g : DE) (l u : DO) : DE := fun env Q Ed => g env (fun d => l env (fun lo => u env (fun hi => match d with
  | .lst ds => Q (.lst (cutD ds lo hi))
  | .str z => z.length ≤ LINE ∧ Q (.str (cutS z lo hi))
  | _ => False) Ed) Ed) Ed
/-! ### calls by values -/
def CallD (A : Act) (r : List V → Hp → VK → Prop) (f : List D → (D → Prop) → Prop) : Prop := ∀ (M : Addr → Prop) (H : Hp) (xs : List V) (ds : List D) (Q : VK) (Qd : D → Prop), (∀ a, A.R.st = some a → M a) → (∀ a, H a = none → ¬ M a) → RepL A.R M H xs ds → f ds Qd →
  (∀ v d' H', Stp A.R H H' → Rep A.R M H' v d' → Qd d' → Q v H') → r xs H Q
def dcb (f : List D → (D → Prop) → Prop) (gs : DL) : DE := fun env Q Ed => gs env (fun ds => f ds Q) Ed
theorem toL_step {g : DL} {σ : St} {H : Hp} {env : DEnv} {Q : List V → Hp → Prop} {Qd : List D → Prop} {Ed : Ex → Prop} (E : ERep A H σ env) (h : g env Qd Ed) (x : XOut A W σ env H Ed)
    (k : ∀ v d H', Stp A.R H H' → ERep A H' σ env → XOut A W σ env H' Ed → RepL A.R (MM A σ env) H' v d → Qd d → Q v H') : toL A W g σ H Q :=
  ⟨env, Qd, Ed, E, h, fun v d H' s r q => k v d H' s (E.stp s) (x.stp s) r q, x⟩
theorem ge_cb {r : List V → Hp → VK → Prop} {f : List D → (D → Prop) → Prop} {e : Expr} {gs : DL} {es : List Expr} (hP : ∀ t, PA X es t → PE X e (tCB r t)) (c : CallD A r f) (ha : GL X A W es gs) : GE X A W e (dcb f gs) := by
  refine ⟨pe_imp (hP _ ha.p) fun σ H Q ⟨env, Qd, Ed, E, h, q, x⟩ => toL_step E h x fun vs ds H1 s E1 _ rl hd => ?_⟩
  exact c _ H1 vs ds Q Qd E1.mst (fun a z => E1.fresh z) rl hd fun v d H2 s2 r2 q2 => q v d H2 (s.trans s2) r2 q2
structure BLT (X : Cx) (A : Act) (f : Value) (g : List D → (D → Prop) → Prop) : Prop where
  ex : ∃ r, CallR X f r ∧ CallD A r g
theorem ge_blt {id : String} {f : List D → (D → Prop) → Prop} {x : Str} {p pos : Pos} {e : Expr} {es : List Expr} {gs : DL} (c : BLT X A (.builtin id) f) (hg : Gl X x) (hm : X.mg x = none) (hv : bootBuiltins x = some (.builtin id)) (ha : GL X A W (e :: es) gs)
    (hP : ∀ r t, Gl X x → X.mg x = none → bootBuiltins x = some (.builtin id) → CallR X (.builtin id) r → PA X (e :: es) t → PE X (.Call (.Name x p) (e :: es) [] pos) (tCB r t) := by exact fun r t hg hm hv c h => pe_callB c hg hm hv h) : GE X A W (.Call (.Name x p) (e :: es) [] pos) (dcb f gs) := by
  obtain ⟨r, cr, cd⟩ := c.ex
  exact ge_cb (fun t h => hP r t hg hm hv cr h) cd ha
theorem ge_bltT {T : String} {f : List D → (D → Prop) → Prop} {x : Str} {p pos : Pos} {e : Expr} {es : List Expr} {gs : DL} (c : BLT X A (.type T) f) (hg : Gl X x) (hm : X.mg x = none) (hv : bootBuiltins x = some (.type T)) (ha : GL X A W (e :: es) gs)
    (hP : ∀ r t, Gl X x → X.mg x = none → bootBuiltins x = some (.type T) → CallR X (.type T) r → PA X (e :: es) t → PE X (.Call (.Name x p) (e :: es) [] pos) (tCB r t) := by exact fun r t hg hm hv c h => pe_callTy c hg hm hv h) : GE X A W (.Call (.Name x p) (e :: es) [] pos) (dcb f gs) := by
  obtain ⟨r, cr, cd⟩ := c.ex
  exact ge_cb (fun t h => hP r t hg hm hv cr h) cd ha
def fLen (ds : List D) (Q : D → Prop) : Prop := match ds with
  | [.str x] => x.length ≤ LINE ∧ Q (.int x.length)
  | [.lst xs] => Q (.int xs.length)
  | [.tup xs] => Q (.int xs.length)
  | _ => False
theorem b_len (hK : A.R.K = X.K := by rfl) : BLT X A (.builtin "len") fLen := by
  refine ⟨_, call_len, ?_⟩
  intro M H xs ds Q Qd hst hf r h k
  match ds, r, h with
  | [.str x], .cons (.str _) .nil, h => exact ⟨.str x, x.length, rfl, ⟨by rw [line_is]; exact h.1, rfl⟩, k _ _ H (Stp.refl _ _) (.int _) h.2⟩
  | [.lst ds], .cons (.lst (a := a) (xs := vs) e n rl) .nil, h => exact ⟨.ref a, vs.length, rfl, .inl ⟨vs, SqL.of e, rfl⟩, by rw [rl.length]; exact k _ _ H (Stp.refl _ _) (.int _) h⟩
  | [.tup ds], .cons (.tup (a := a) (xs := vs) t rl) .nil, h => exact ⟨.ref a, vs.length, rfl, .inr ⟨vs, by rw [← hK]; exact t.sq, rfl⟩, by rw [rl.length]; exact k _ _ H (Stp.refl _ _) (.int _) h⟩
/-- len of a list of the def's own -/
def dlenO (i : Nat) : DE := fun env Q _ => match env[i]? with
  | some (.own ds) => Q (.int ds.length)
  | _ => False
theorem ge_lenO {i : Nat} {e : Expr} {p pos : Pos} (ho : PE X e (tVar i)) (hg : Gl X "len") (hm : X.mg "len" = none)
    (hP : ∀ r t, Gl X "len" → X.mg "len" = none → CallR X (.builtin "len") r → PA X [e] t → PE X (.Call (.Name "len" p) [e] [] pos) (tCB r t) := by exact fun r t hg hm c h => pe_callB c hg hm PySem.boot_len h)
    (hA : PE X e (tVar i) → PA X [e] (tCons (tVar i) tNil) := by exact fun h => pa_cons h pa_nil) : GE X A W (.Call (.Name "len" p) [e] [] pos) (dlenO i) := by
  refine ⟨pe_imp (hP _ _ hg hm call_len (hA ho)) fun σ H Q ⟨env, Qd, Ed, E, h, q, x⟩ => ?_⟩
  obtain ⟨ds, e1, h⟩ := own_of h
  obtain ⟨a, vs, h1, h2, h3, h4, h5⟩ := E.own i ds e1
  exact ⟨.ref a, h1, .ref a, vs.length, rfl, .inl ⟨vs, SqL.of h2, rfl⟩, by rw [h3.length]; exact q _ _ H (Stp.refl _ _) (.int _) h⟩
def fInt (ds : List D) (Q : D → Prop) : Prop := match ds with
  | [.int i] => Q (.int i)
  | [.bl b] => Q (.int (if b then 1 else 0))
  | [.str x] => ∃ n, PySem.intText? x = some n ∧ x.length ≤ 640 ∧ Q (.int n)
  | _ => False
theorem b_int : BLT X A (.type "int") fInt := by
  refine ⟨_, call_int1.or call_int_str, ?_⟩
  intro M H xs ds Q Qd hst hf r h k
  match ds, r, h with
  | [.int i], .cons (.int _) .nil, h => exact .inl (.inl ⟨i, rfl, k _ _ H (Stp.refl _ _) (.int _) h⟩)
  | [.bl b], .cons (.bl _) .nil, h => exact .inl (.inr ⟨b, rfl, k _ _ H (Stp.refl _ _) (.int _) h⟩)
  | [.str x], .cons (.str _) .nil, ⟨n, h1, h2, h3⟩ => exact .inr ⟨x, n, rfl, h1, h2, k _ _ H (Stp.refl _ _) (.int _) h3⟩
def fStr (ds : List D) (Q : D → Prop) : Prop := match ds with
  | [.int i] => i.natAbs.log2 < 1920 ∧ Q (.str (toString i))
  | [.str x] => Q (.str x)
  | _ => False
def fAbs (ds : List D) (Q : D → Prop) : Prop := match ds with
  | [.int i] => Q (.int (if i < 0 then -i else i))
  | _ => False
theorem b_abs : BLT X A (.builtin "abs") fAbs := by
  refine ⟨_, call_abs, ?_⟩
  intro M H xs ds Q Qd hst hf r h k
  match ds, r, h with
  | [.int i], .cons (.int _) .nil, h => exact ⟨i, rfl, k _ _ H (Stp.refl _ _) (.int _) h⟩
def fMax (ds : List D) (Q : D → Prop) : Prop := match ds with
  | [.int i, .int j] => Q (.int (if j > i then j else i))
  | _ => False
def fMin (ds : List D) (Q : D → Prop) : Prop := match ds with
  | [.int i, .int j] => Q (.int (if j < i then j else i))
  | _ => False
/-- all, any of a list of truths -/
def fAll (ds : List D) (Q : D → Prop) : Prop := match ds with
  | [.lst xs] => ∃ bs : List Bool, xs = bs.map D.bl ∧ Q (.bl (bs.all id))
  | _ => False
/-- list(x), tuple(x) of a list, a tuple -/
def fList (ds : List D) (Q : D → Prop) : Prop := match ds with
  | [.lst xs] => Q (.lst xs)
  | [.tup xs] => Q (.lst xs)
  | [.str z] => z.length ≤ LINE ∧ Q (.lst (sgnD z))
  | _ => False
def rListS : List V → Hp → VK → Prop := fun xs H Q => ∃ z : Str, xs = [.str z] ∧ z.length ≤ sizeLine ∧ ∀ l, H l = none → Q (.ref l) (upd H l (.lst (z.cps.toList.map fun c => V.str ⟨#[c]⟩)))
theorem signs_vals {z : Str} {acc : Array Value} (h : ItemsOf (SignAt z) acc z.cps.size) : Vals (z.cps.toList.map fun c => V.str ⟨#[c]⟩) acc.toList := by
  obtain ⟨h1, h2⟩ := h
  have key : ∀ (l : List Nat) (us : List Value), l.length = us.length → (∀ (j : Nat) (u : Value), us[j]? = some u → ∃ c t, l[j]? = some c ∧ u = Value.str ⟨#[c]⟩ t) → Vals (l.map fun c => V.str ⟨#[c]⟩) us := by
    intro l
    induction l with
    | nil =>
      intro us hl _
      cases us with
      | nil => exact .nil
      | cons _ _ => cases hl
    | cons c l ih =>
      intro us hl hq
      cases us with
      | nil => cases hl
      | cons u us =>
        obtain ⟨c', t, e1, e2⟩ := hq 0 u rfl
        cases e1
        exact .cons ⟨t, e2⟩ (ih us (by simpa using hl) fun j w hw => hq (j + 1) w (by simpa using hw))
  refine key _ _ (by rw [Array.length_toList, Array.length_toList, h1]) fun j u hu => ?_
  obtain ⟨c, t, e1, e2⟩ := h2 j u (by rw [← Array.getElem?_toList]; exact hu)
  exact ⟨c, t, by rw [Array.getElem?_toList]; exact e1, e2⟩
theorem call_listS (hc : X.calm = true) : CallR X (.type "list") rListS := by
  intro pins s σ H xs us Q I r h
  obtain ⟨z, rfl, hz, q⟩ := h
  obtain ⟨u, rfl, t, rfl⟩ := vals1 r
  refine call_list_str (I.ok.hd hc) z t (fun h' tk acc c k e hi => ?_) hz
  have rv := signs_vals hi
  refine ⟨.ref _, _, I.laid (t' := tk) (o := .lst (z.cps.toList.map fun c => V.str ⟨#[c]⟩)) k (Nat.le_refl _) ⟨?_, acc.toList, c, rv, e⟩, rfl, q _ (I.hok.fresh (Nat.le_refl _))⟩
  rw [List.length_map, Array.length_toList]
  exact hz
theorem rep_signs {R : RC} {M : Addr → Prop} {H : Hp} (l : List Nat) : RepL R M H (l.map fun c => V.str ⟨#[c]⟩) (l.map fun c => D.str ⟨#[c]⟩) := by
  induction l with
  | nil => exact .nil
  | cons c l ih => exact .cons (.str _) ih
def fTuple (ds : List D) (Q : D → Prop) : Prop := match ds with
  | [.lst xs] => Q (.tup xs)
  | [.tup xs] => Q (.tup xs)
  | _ => False
theorem b_tuple (hK : A.R.K = X.K := by rfl) : BLT X A (.type "tuple") fTuple := by
  refine ⟨_, call_tuple_of, ?_⟩
  intro M H xs ds Q Qd hst hf r h k
  match ds, r, h with
  | [.lst ds], .cons (.lst (a := a) (xs := vs) e n rl) .nil, h =>
    refine ⟨a, vs, rfl, .inl ⟨SqL.of e, fun p hp => ?_⟩⟩
    have s : Stp A.R H (upd H p (.tup vs)) := Stp.new hp
    exact k _ _ _ s (.tup (TAt.new (hf p hp)) (rl.keep (s.keep hst))) h
  | [.tup ds], .cons (.tup (a := a) (xs := vs) t rl) .nil, h =>
    exact ⟨a, vs, rfl, .inr ⟨by rw [← hK]; exact t.sq, k _ _ H (Stp.refl _ _) (.tup t rl) h⟩⟩
/-! ### isinstance with a built-in type -/
def D.tyn : D → Option String
  | .non => some "NoneType" | .bl _ => some "bool" | .int _ => some "int" | .str _ => some "str" | .tup _ => some "tuple" | .lst _ => some "list" | .dct => some "dict"
  | _ => none
theorem tyx_of {R : RC} {M : Addr → Prop} {H : Hp} {v : V} {d : D} {t : String} (r : Rep R M H v d) (h : d.tyn = some t) : TyX R.K H v (.type t) := by
  cases r <;> first | (cases h; done) | skip
  · cases h; exact .base .non
  · cases h; exact .base (.bl _)
  · cases h; exact .base (.int _)
  · cases h; exact .base (.str _)
  · cases h
    rename_i a xs ds ta rl
    rcases ta with ⟨h, _⟩ | h | ⟨o, its, n, h1, h2, h3⟩
    · rcases h with h | ⟨o, h⟩
      · exact .base (.tup h)
      · exact .fTuple h
    · rcases h with h | ⟨_, h⟩ <;> cases h
    · exact .kTuple h1 h2
  · cases h
    exact .base (.lst (by assumption))
  · cases h
    exact .base (.dK (by assumption))
def fIsi (ds : List D) (Q : D → Prop) : Prop := match ds with
  | [x, .ty T] => ∃ t b, x.tyn = some t ∧ kitB t T = some b ∧ Q (.bl b)
  | _ => False
theorem b_isi (hK : A.R.K = X.K := by rfl) : BLT X A (.builtin "isinstance") fIsi := by
  refine ⟨_, call_isi, ?_⟩
  intro M H xs ds Q Qd hst hf r h k
  match ds, r, h with
  | [x, .ty T], .cons rx (.cons (.ty _) .nil), ⟨t, b, h1, h2, h3⟩ =>
    exact ⟨_, .ty T, _, _, b, rfl, .ty T, by rw [← hK]; exact tyx_of rx h1, kit_ty h2, k _ _ H (Stp.refl _ _) (.bl _) h3⟩
def fGcd (ds : List D) (Q : D → Prop) : Prop := match ds with
  | [.int i, .int j] => Q (.int ((Nat.gcd i.natAbs j.natAbs : Nat) : Int))
  | _ => False
theorem b_gcd : BLT X A (.builtin "math.gcd") fGcd := by
  refine ⟨_, cr_gcd, ?_⟩
  intro M H xs ds Q Qd hst hf r h k
  match ds, r, h with
  | [.int i, .int j], .cons (.int _) (.cons (.int _) .nil), h => exact ⟨i, j, rfl, k _ _ H (Stp.refl _ _) (.int _) h⟩
/-! ### methods of texts with one argument -/
def dm1 (f : D → D → (D → Prop) → Prop) (g u : DE) : DE := fun env Q Ed => g env (fun x => match x with
  | .str z => u env (fun y => f (.str z) y Q) Ed
  | _ => False) Ed
def fJoin (x y : D) (Q : D → Prop) : Prop := match x, y with
  | .str a, .lst ds => ∃ ys : List Str, ds = ys.map D.str ∧ (ys.map (·.length)).sum + ys.length * a.length ≤ LINE ∧ Q (.str (Txt.join a ys))
  | .str a, .tup ds => ∃ ys : List Str, ds = ys.map D.str ∧ (ys.map (·.length)).sum + ys.length * a.length ≤ LINE ∧ Q (.str (Txt.join a ys))
  | _, _ => False
/-! ### [e for t in it if c] -/
/-- the slots of a block's own names forgotten -/
def wipeD (env : DEnv) : List Nat → DEnv
  | [] => env
  | v :: vs => (wipeD env vs).set v .un
theorem ERep.wipe {H : Hp} {σ : St} {env : DEnv} (E : ERep A H σ env) : ∀ vs : List Nat, ERep A H (L2.wipe σ vs) (wipeD env vs) ∧ Keep (MM A σ env) (MM A (L2.wipe σ vs) (wipeD env vs)) H H
  | [] => ⟨E, Keep.refl _ _⟩
  | v :: vs => by
    obtain ⟨E1, k1⟩ := ERep.wipe E vs
    obtain ⟨E2, k2⟩ := E1.forget (i := v)
    exact ⟨E2, k1.trans k2⟩
structure GTs (X : Cx) (A : Act) (W : WX) (ifs : List Expr) (g : DB) : Prop where
  p : PTs X ifs (toB A W g)
theorem pts_imp {e : List Expr} {t t' : TT} (h : PTs X e t) (i : ∀ σ H Q, t' σ H Q → t σ H Q) : PTs X e t' := ⟨fun pins s σ H Q I w => h.run pins s σ H Q I (i σ H Q w)⟩
def dyes : DB := fun _ Q _ => Q true
theorem gts_nil : GTs X A W [] dyes := ⟨pts_imp pts_nil fun σ H Q ⟨env, Qd, Ed, E, h, q, x⟩ => q true H (Stp.refl _ _) h⟩
theorem gts_one {c : Expr} {g : DB} (h : GT X A W c g) : GTs X A W [c] g := ⟨pts_one h.p⟩
end
end Nb
set_option maxRecDepth 100000
set_option maxHeartbeats 2000000
/-! Nb: blocks that make lists. -/
namespace Nb
open PySem PySem.Spec PyProof.Rows L2
def unown : SD → SD
  | .own _ => .un
  | x => x
/-- the slots in a block: its own names are forgotten, lists that may change too -/
def blkD (env : DEnv) (vs : List Nat) : DEnv := (wipeD env vs).map unown
theorem unown_own {x : SD} {ds : List D} (h : unown x = .own ds) : False := by
  cases x <;> cases h
theorem unown_val {x : SD} {d : D} (h : unown x = .val d) : x = .val d := by
  cases x <;> first | exact h | cases h
theorem blk_no {env : DEnv} {vs : List Nat} {i : Nat} {ds : List D} (h : (blkD env vs)[i]? = some (.own ds)) : False := by
  unfold blkD at h
  rw [List.getElem?_map] at h
  cases e : (wipeD env vs)[i]? with
  | none => rw [e] at h; cases h
  | some x =>
    rw [e] at h
    exact unown_own (Option.some.inj h)
theorem blk_val {env : DEnv} {vs : List Nat} {i : Nat} {d : D} (h : (blkD env vs)[i]? = some (.val d)) : (wipeD env vs)[i]? = some (.val d) := by
  unfold blkD at h
  rw [List.getElem?_map] at h
  cases e : (wipeD env vs)[i]? with
  | none => rw [e] at h; cases h
  | some x =>
    rw [e] at h
    rw [unown_val (Option.some.inj h)]
theorem wipeD_val {env : DEnv} {i : Nat} {d : D} : ∀ {vs : List Nat}, (wipeD env vs)[i]? = some (.val d) → env[i]? = some (.val d) ∧ i ∉ vs
  | [], h => ⟨h, by simp⟩
  | v :: vs, h => by
    unfold wipeD at h
    rw [get_set] at h
    by_cases c : v = i ∧ i < (wipeD env vs).length
    · rw [if_pos c] at h; cases h
    · rw [if_neg c] at h
      obtain ⟨h1, h2⟩ := wipeD_val h
      refine ⟨h1, fun z => ?_⟩
      rcases List.mem_cons.mp z with z | z
      · exact c ⟨z.symm, (List.getElem?_eq_some_iff.mp h).1⟩
      · exact h2 z
theorem wipeD_len {env : DEnv} : ∀ {vs : List Nat}, (wipeD env vs).length = env.length
  | [] => rfl
  | v :: vs => by
    unfold wipeD
    rw [List.length_set, wipeD_len]
theorem wipe_out {σ : St} {i : Nat} : ∀ {vs : List Nat}, i ∉ vs → (L2.wipe σ vs)[i]? = σ[i]?
  | [], _ => rfl
  | v :: vs, h => by
    unfold L2.wipe
    rw [List.getElem?_set_ne fun z => h (by rw [z]; exact List.mem_cons_self)]
    exact wipe_out fun z => h (List.mem_cons_of_mem _ z)
theorem wipe_in {σ : St} {i : Nat} : ∀ {vs : List Nat}, i ∈ vs → i < σ.length → (L2.wipe σ vs)[i]? = some none
  | v :: vs, h, hl => by
    unfold L2.wipe
    rw [get_set]
    by_cases c : v = i
    · rw [if_pos ⟨c, by rw [wipe_length]; exact hl⟩]
    · rw [if_neg fun z => c z.1]
      rcases List.mem_cons.mp h with z | z
      · exact absurd z.symm c
      · exact wipe_in z hl
theorem only_wipe {js vs : List Nat} {σ σ' : St} (o : Only js (L2.wipe σ vs) σ') (h : ∀ j ∈ js, j ∈ vs) : L2.wipe σ' vs = L2.wipe σ vs := by
  have hl : σ'.length = σ.length := o.1.trans (wipe_length σ vs)
  refine List.ext_getElem? fun i => ?_
  by_cases c : i ∈ vs
  · by_cases q : i < σ.length
    · rw [wipe_in c q, wipe_in c (by rw [hl]; exact q)]
    · rw [List.getElem?_eq_none (by rw [wipe_length, hl]; omega), List.getElem?_eq_none (by rw [wipe_length]; omega)]
  · rw [wipe_out c, o.2 i fun z => c (h i z)]
/-- the activation of a block: all that may change is out of its reach -/
abbrev Act.blk (A : Act) (H : Hp) (M : Addr → Prop) : Act := ⟨A.R, H, M, false⟩
section
variable {A : Act} {H H' H3 : Hp} {σ : St} {env : DEnv} {D0 : Addr}
abbrev MB (A : Act) (σ : St) (env : DEnv) (D0 : Addr) (a : Addr) : Prop := MM A σ env a ∨ a = D0
theorem ERep.block (E : ERep A H σ env) (hD : H D0 = none) (s : Stp A.R H H') (h0 : H' D0 ≠ none) (vs : List Nat) :
    ERep (A.blk H' (MB A σ env D0)) H' (L2.wipe σ vs) (blkD env vs) := by
  refine ⟨⟨s.s E.inv, fun a h => .inl (E.mst a h), fun a h => ?_⟩, by unfold blkD; rw [List.length_map, wipeD_len, wipe_length]; exact E.len, fun i d h => ?_, fun i ds h => (blk_no h).elim, fun i j ds es a h => (blk_no h).elim, Stp.refl _ _⟩
  · rcases h with h | h
    · exact (E.stp s).mtrk h
    · rw [h]; exact h0
  obtain ⟨h1, h2⟩ := wipeD_val (blk_val h)
  obtain ⟨v, h3, h4⟩ := E.val i d h1
  refine ⟨v, by rw [wipe_out h2]; exact h3, h4.keep ⟨fun a o e n => s.k a o e fun z => n (E.mst a z), fun a z => ?_⟩⟩
  rcases z with z | ⟨j, ds, z, _⟩
  · rcases z with z | z
    · exact .inl z
    · exact .inr (by rw [z]; exact hD)
  · exact (blk_no z).elim
end
section
variable {X : Cx} {A : Act} {W : WX}
abbrev W0 : WX := fun _ _ _ _ => False
theorem xout0 {A : Act} {σ : St} {env : DEnv} {H : Hp} : XOut A W0 σ env H fun _ => False := fun _ _ _ _ _ _ h => h
@[irreducible] def dlc (gi : DI) (t : DG) (c : DB) (ge : DE) (vs : List Nat) : DF := fun env Q Ed => gi env (fun ds => ∃ I : Nat → List D → Prop, I 0 [] ∧
  (∀ i d acc, ds[i]? = some d → I i acc → t d (blkD env vs) fun env2 => c env2 (fun b => if b = true then ge env2 (fun y => acc.length < LINE ∧ I (i + 1) (acc ++ [y])) (fun _ => False) else I (i + 1) acc) fun _ => False) ∧
  ∀ acc, I ds.length acc → Q acc) Ed
theorem lc_of {gi : DI} {t : DG} {c : DB} {ge : DE} {vs js : List Nat} {wi : TI} {g : TG} {tt : TT} {te : TE} (hj : ∀ j ∈ js, j ∈ vs) {σ : St} {H : Hp} {Q : VK}
    (hi : ∀ σ H Q, toI A W gi σ H Q → wi σ H Q)
    (hg : ∀ (B : Act), B.R = A.R → ∀ v σ H Q, toG B js t v σ H Q → g v σ H Q) (ht : ∀ (B : Act), B.R = A.R → ∀ σ H Q, toB B W0 c σ H Q → tt σ H Q) (he : ∀ (B : Act), B.R = A.R → ∀ σ H Q, toE B W0 ge σ H Q → te σ H Q)
    (h : toF A W (dlc gi t c ge vs) σ H Q) : tLc wi g tt te vs σ H Q := by
  obtain ⟨env, Qd, Ed, E, h, q, x⟩ := h
  unfold dlc at h
  refine hi σ H _ ⟨env, _, Ed, E, h, fun J ds H1 s1 wk hd D0 hD => ?_, x⟩
  obtain ⟨I, i0, it, ie⟩ := hd
  have E1 := E.stp s1
  have nst : A.R.st ≠ some D0 := fun z => by
    obtain ⟨ns, e, _⟩ := E1.inv D0 z
    rw [hD] at e; cases e
  have ups : ∀ {H2 : Hp} {ys : List V}, Stp A.R H1 H2 → Stp A.R H1 (upd H2 D0 (.lst ys)) := fun {H2 ys} s => ⟨fun a o e n => by rw [upd_ne (ne_of_none e hD)]; exact s.k a o e n, fun z a e => by
    obtain ⟨ns, e1, e2⟩ := s.s z a e
    exact ⟨ns, by rw [upd_ne fun z => nst (by rw [e, z])]; exact e1, e2⟩⟩
  refine ⟨fun i m H => m = ds.length - i ∧ i ≤ ds.length ∧ ∃ av ad, H D0 = some (.lst av) ∧ RepL A.R (MB A σ env D0) H av ad ∧ I i ad ∧ Stp A.R H1 H, ⟨ds.length, rfl, Nat.zero_le _, [], [], upd_same, .nil, i0, ups (Stp.refl _ _)⟩, ?_⟩
  rintro i m H2 ⟨rfl, hi2, av, ad, h2, ra, hI, s2⟩
  have kk : Keep (MM A σ env) (MB A σ env D0) H1 H2 := ⟨(E1.keep s2).k, fun a z => z.elim .inl fun z => .inr (by rw [z]; exact hD)⟩
  by_cases hlt : i < ds.length
  · have e : ds[i]? = some ds[i] := List.getElem?_eq_getElem hlt
    have E2 := E1.stp s2
    obtain ⟨g1, g2⟩ := wk.yld _ H2 kk (fun a z w => w.elim (fun w => E2.fresh z w) fun w => by rw [w, h2] at z; cases z) E2.inv i _ e
    refine .inr ⟨g1, fun H' => ∃ av ad, H' D0 = some (.lst av) ∧ RepL A.R (MB A σ env D0) H' av ad ∧ I (i + 1) ad ∧ Stp A.R H1 H', fun H' h => ⟨ds.length - (i + 1), by omega, rfl, hlt, h⟩, fun x H' y => ?_⟩
    obtain ⟨s3, rx⟩ := g2 x H' y
    have EB := (E1.block hD s2 (by rw [h2]; exact fun z => by cases z) vs).stp s3
    refine hg (A.blk H2 (MB A σ env D0)) rfl x _ H' _ ⟨blkD env vs, _, _, EB, rx.keep (keep_sub fun a z => z.elim id fun z => (let ⟨j, ds, z, _⟩ := z; blk_no z).elim), it i _ ad e hI, fun σ2 env2 E3 k3 o3 h3 => ⟨only_wipe o3 hj, ?_⟩⟩
    refine ht (A.blk H2 (MB A σ env D0)) rfl σ2 H' _ ⟨env2, _, _, E3, h3, fun b H4 s4 hb => ?_, xout0⟩
    have E4 := E3.stp s4
    cases b with
    | false =>
      simp only [Bool.false_eq_true, if_false] at hb ⊢
      have s5 : Stp A.R H2 H4 := s3.trans s4
      exact ⟨av, ad, s5.k D0 _ h2 nst, ra.keep (s5.keep fun a z => .inl (E1.mst a z)), hb, s2.trans s5⟩
    | true =>
      simp only [if_true] at hb ⊢
      refine he (A.blk H2 (MB A σ env D0)) rfl σ2 H4 _ ⟨env2, _, _, E4, hb, fun y d H5 s5 r hq => ?_, xout0⟩
      have s6 : Stp A.R H2 H5 := (s3.trans s4).trans s5
      have h6 := s6.k D0 _ h2 nst
      have r6 := ra.keep (s6.keep fun a z => .inl (E1.mst a z))
      refine ⟨av, h6, by rw [ra.length, line_is]; exact hq.1, av ++ [y], ad ++ [d], upd_same, ?_, hq.2, ups (s2.trans s6)⟩
      have r7 : Rep A.R (MB A σ env D0) H5 y d := r.keep (keep_sub fun a z => .inl z)
      exact (r6.append (.cons r7 .nil)).keep ⟨fun a o e n => by rw [upd_ne fun z => n (.inr z)]; exact e, fun a z => .inl z⟩
  · have e : i = ds.length := by omega
    subst e
    exact .inl ⟨wk.stop _ H2 kk, q D0 av ad H2 (Stp.none E.inv s1 hD) (s1.trans s2) h2 ra (ie ad hI)⟩
/-- [e for t in it if c] -/
theorem gf_lc {elt tg iter : Expr} {ifs : List Expr} {scope : Scope} {own : List (Str × Nat)} {pos : Pos} {gi : DI} {t : DG} {c : DB} {ge : DE} {js : List Nat} (hc : X.calm = true) (hN : X.N.Nodup) (hi : GI X A W tg iter gi) (ok : blkC X.N X.env.scope scope own = true)
    (hj : ∀ j ∈ js, j ∈ own.map (·.2))
    (hg : ∀ (B : Act), B.R = A.R → ∀ (s : Shared) (H : Hp) (C : Addr) (cl : List (Str × Addr)) (fp : List Addr), GG (X.blk s H scope (compEnvC scope cl C X.env) fp) B js tg t)
    (ht : ∀ (B : Act), B.R = A.R → ∀ (s : Shared) (H : Hp) (C : Addr) (cl : List (Str × Addr)) (fp : List Addr), GTs (X.blk s H scope (compEnvC scope cl C X.env) fp) B W0 ifs c)
    (he : ∀ (B : Act), B.R = A.R → ∀ (s : Shared) (H : Hp) (C : Addr) (cl : List (Str × Addr)) (fp : List Addr), GE (X.blk s H scope (compEnvC scope cl C X.env) fp) B W0 elt ge)
    (hs : ∀ x, foldedSetIterable iter X.env x = pure x := by intro _; rfl) : GF X A W (.ListComp elt [⟨tg, iter, ifs, 0⟩] scope pos) (dlc gi t c ge (own.map (·.2))) := by
  refine ⟨pe_imp (pe_lc (wi := toI A W gi) (g := fun v σ H Q => ∃ B : Act, B.R = A.R ∧ toG B js t v σ H Q) (tt := fun σ H Q => ∃ B : Act, B.R = A.R ∧ toB B W0 c σ H Q) (te := fun σ H Q => ∃ B : Act, B.R = A.R ∧ toE B W0 ge σ H Q) hc hN hi.p (blkOk_by ok) ?_ ?_ ?_ hs) fun σ H Q h => ?_⟩
  · exact fun s H C cl fp => ⟨fun pins s' σ H' v u Q I r ⟨B, e, w⟩ => (hg B e s H C cl fp).p.run pins s' σ H' v u Q I r w⟩
  · exact fun s H C cl fp => ⟨fun pins s' σ H' Q I ⟨B, e, w⟩ => (ht B e s H C cl fp).p.run pins s' σ H' Q I w⟩
  · exact fun s H C cl fp => ⟨fun pins s' σ H' Q I ⟨B, e, w⟩ => (he B e s H C cl fp).p.run pins s' σ H' Q I w⟩
  · exact lc_of hj (fun _ _ _ h => h) (fun B e v σ H Q h => ⟨B, e, h⟩) (fun B e σ H Q h => ⟨B, e, h⟩) (fun B e σ H Q h => ⟨B, e, h⟩) h
/-- name = [..] on one line -/
theorem gs_asgLc {i : Nat} {y : Str} {py : Pos} {elt tg iter : Expr} {ifs : List Expr} {scope : Scope} {own : List (Str × Nat)} {pos spos : Pos} {gi : DI} {t : DG} {c : DB} {ge : DE} {js : List Nat} (hc : X.calm = true) (hN : X.N.Nodup) (hy : X.N[i]? = some y) (hyl : X.env.scope.names.lookup y = some .local)
    (hsw : swapsWith (.ListComp elt [⟨tg, iter, ifs, 0⟩] scope pos) (some (.Name y py)) spos.line X.env = pure true) (hi : GI X A W tg iter gi) (ok : blkC X.N X.env.scope scope own = true)
    (hj : ∀ j ∈ js, j ∈ own.map (·.2))
    (hg : ∀ (B : Act), B.R = A.R → ∀ (s : Shared) (H : Hp) (C : Addr) (cl : List (Str × Addr)) (fp : List Addr), GG (X.blk s H scope (compEnvC scope cl C X.env) fp) B js tg t)
    (ht : ∀ (B : Act), B.R = A.R → ∀ (s : Shared) (H : Hp) (C : Addr) (cl : List (Str × Addr)) (fp : List Addr), GTs (X.blk s H scope (compEnvC scope cl C X.env) fp) B W0 ifs c)
    (he : ∀ (B : Act), B.R = A.R → ∀ (s : Shared) (H : Hp) (C : Addr) (cl : List (Str × Addr)) (fp : List Addr), GE (X.blk s H scope (compEnvC scope cl C X.env) fp) B W0 elt ge)
    (hs : ∀ x, foldedSetIterable iter X.env x = pure x := by intro _; rfl) : GS X A W (.Assign [.Name y py] (.ListComp elt [⟨tg, iter, ifs, 0⟩] scope pos) spos) (dasgO i (dlc gi t c ge (own.map (·.2)))) := by
  refine ⟨ps_imp (ps_setLc (wi := toI A W gi) (g := fun v σ H Q => ∃ B : Act, B.R = A.R ∧ toG B js t v σ H Q) (tt := fun σ H Q => ∃ B : Act, B.R = A.R ∧ toB B W0 c σ H Q) (te := fun σ H Q => ∃ B : Act, B.R = A.R ∧ toE B W0 ge σ H Q) hc hN hy hyl hsw hi.p (blkOk_by ok) ?_ ?_ ?_ hs) fun De σ H ⟨env, K, E, h, q1, q2, q3, q4, q5⟩ => ?_⟩
  · exact fun s H C cl fp => ⟨fun pins s' σ H' v u Q I r ⟨B, e, w⟩ => (hg B e s H C cl fp).p.run pins s' σ H' v u Q I r w⟩
  · exact fun s H C cl fp => ⟨fun pins s' σ H' Q I ⟨B, e, w⟩ => (ht B e s H C cl fp).p.run pins s' σ H' Q I w⟩
  · exact fun s H C cl fp => ⟨fun pins s' σ H' Q I ⟨B, e, w⟩ => (he B e s H C cl fp).p.run pins s' σ H' Q I w⟩
  · refine lc_of hj (fun _ _ _ h => h) (fun B e v σ H Q h => ⟨B, e, h⟩) (fun B e σ H Q h => ⟨B, e, h⟩) (fun B e σ H Q h => ⟨B, e, h⟩) ⟨env, _, _, E, h, fun p vs ds H' hp s e r hq => ?_, xout_of E q5⟩
    obtain ⟨E2, k2⟩ := E.setOwn (i := i) hp s e r
    exact q1 _ H' _ k2 E2 hq
end
end Nb
set_option maxRecDepth 100000
set_option maxHeartbeats 2000000
/-! Nb: promises, calls. -/
namespace Nb
open PySem PySem.Spec PyProof.Rows L2
/-- exceptions whose context is none -/
abbrev Takes (X : Cx) (W : WX) : Prop := L2N.Takes X W
abbrev Zc (cls : Value) (d : Option Addr) : Obj → Prop := L2N.Zn cls d
theorem Zc.steady {cls : Value} {d : Option Addr} : PySem.PXN.Steady1 (Zc cls d) := L2N.Zn.steady
/-- around a body nothing is let out -/
theorem takesN {X : Cx} : Takes X (fun _ _ _ _ => False) := fun _ _ x => by
  obtain ⟨_, _, _, _, _, _, _, _, _, _, _, _, _, _, _, _, z⟩ := x
  exact z.elim
theorem _root_.L2.Fun.okN {P : Program} {w : World} {K : PySem.W.Frag} {mg : Str → Option Value} {base : Heap} {x qual : Str} {st : Stmt} {f : Addr} {fd : FuncData} {N ps : List Str} {k : Nat} {sp : Sp} (F : Fun K x qual st f fd) (S : FnScope N ps (defScope st)) (len : ∀ vs H Q E, sp vs H Q E → vs.length = ps.length)
    (hbody : ∀ (cdv : Value) (A : Around) (outer : List Env) (s : Shared) (H : Hp) (vs : List V) (Q : VK) (E : XK), Room k (A.deeper (envOfC qual (defScope st) s.heap.objs.size f cdv)) → sp vs H Q E → ∃ t, PSs (cxOf (L2N.CX P w) P w K mg base N qual (defScope st) f cdv A outer s H E) (defBody st) t ∧ t { nx := fun _ H' => Q .non H', rt := Q } (L2.start N vs) H) :
    FnOk P w K mg base (L2N.CX P w) (k + 1) f fd ps sp := by
  obtain ⟨oc, od, kV, doc, pm, an, cdv, ct, osl, rfl, lk, hcd⟩ := F.ex
  exact fn_of lk hcd S len fun A outer s H vs Q E hr h => hbody cdv A outer s H vs Q E hr h
/-- what a def says of data: its arguments, what it may hand back, what it may raise -/
abbrev DSp := List D → (D → Prop) → (Ex → Prop) → Prop
def OutRep (R : RC) (M : Addr → Prop) (H H' : Hp) (fr : Bool) (v : V) (d : D) : Prop :=
  if fr = true then ∃ p vs ds, v = .ref p ∧ d = .lst ds ∧ H p = none ∧ H' p = some (.lst vs) ∧ RepL R (fun a => M a ∨ a = p) H' vs ds else Rep R M H' v d
def spD (K : PySem.W.Frag) (mg : Str → Option Value) (fr : Bool) (S : DSp) : Sp := fun vs H Q E => ∃ (R : RC) (M : Addr → Prop) (ds : List D) (Qd : D → Prop) (Ed : Ex → Prop),
  (R.K = K ∧ R.mg = mg ∧ R.hx = none) ∧ HInv R H ∧ (∀ a, R.st = some a → M a) ∧ (∀ a, M a → H a ≠ none) ∧ RepL R M H vs ds ∧ S ds Qd Ed ∧
  (∀ v d H', Stp R H H' → OutRep R M H H' fr v d → Qd d → Q v H') ∧ ∀ x cls dd H', Stp R H H' → XRep R M H' cls dd x → Ed x → E cls dd H'
def startD (N : List Str) (ds : List D) : DEnv := ds.map SD.val ++ List.replicate (N.length - ds.length) .un
theorem erep_start {A : Act} (ok : A.Ok) {N : List Str} {vs : List V} {ds : List D} (r : RepL A.R A.M0 A.H0 vs ds) : ERep A A.H0 (L2.start N vs) (startD N ds) := by
  have hl := r.length
  have no : ∀ {i : Nat} {es : List D}, (startD N ds)[i]? = some (.own es) → False := fun {i es} h => by
    unfold startD at h
    rw [List.getElem?_append] at h
    split at h
    · rw [List.getElem?_map] at h
      cases e : ds[i]? with
      | none => rw [e] at h; cases h
      | some d => rw [e] at h; cases h
    · rw [List.getElem?_replicate] at h
      split at h <;> cases h
  refine ⟨ok, by unfold L2.start startD; simp [hl], fun i d h => ?_, fun i es h => (no h).elim, fun i j es fs a h => (no h).elim, Stp.refl _ _⟩
  unfold startD at h
  rw [List.getElem?_append] at h
  split at h
  · rename_i hi
    rw [List.length_map] at hi
    rw [List.getElem?_map] at h
    cases e : ds[i]? with
    | none => rw [e] at h; cases h
    | some d' =>
      rw [e] at h
      cases h
      obtain ⟨v, h1, h2⟩ := r.get e
      refine ⟨v, ?_, h2.keep (keep_sub fun a z => ?_)⟩
      · unfold L2.start
        rw [List.getElem?_append_left (by rw [List.length_map, hl]; exact hi), List.getElem?_map, h1]
        rfl
      · rcases z with z | ⟨j, es, z, _⟩
        · exact z
        · exact (no z).elim
  · rw [List.getElem?_replicate] at h
    split at h <;> cases h
section
variable {X : Cx} {A : Act} {W : WX}
def dcall (S : DSp) (gs : DL) : DE := fun env Q Ed => gs env (fun ds => S ds Q Ed) Ed
def dcallF (S : DSp) (gs : DL) : DF := fun env Q Ed => gs env (fun ds => S ds (fun d => match d with
  | .lst es => Q es
  | _ => False) Ed) Ed
/-- what a call wants of its place -/
structure CallOk (X : Cx) (W : WX) (x : Str) (fr : Bool) (S : DSp) : Prop where
  ex : ∃ k f fd ps, FnOk X.prog X.w X.K X.mg X.base (L2N.CX X.prog X.w) k f fd ps (spD X.K X.mg fr S) ∧ Room k X.A ∧ Gl X x ∧ X.mg x = some (.ref f) ∧ PySem.W.keepIn X.K (.ref f) = true ∧ Binds X.K fd ps [] ∧ (∀ σ, PassesAt (L2N.CX X.prog X.w) X σ (WE W σ)) ∧ (x == ("__debug__" : Str)) = false
theorem spD_of {fr : Bool} {S : DSp} {σ : St} {H1 : Hp} {env : DEnv} {vs : List V} {ds : List D} {Q : VK} {Qd : D → Prop} {Ed : Ex → Prop} {K : PySem.W.Frag} {mg : Str → Option Value} (hK : A.R.K = K) (hm : A.R.mg = mg) (h0 : A.R.hx = none) (E1 : ERep A H1 σ env) (r : RepL A.R (MM A σ env) H1 vs ds) (hS : S ds Qd Ed)
    (q : ∀ v d H', Stp A.R H1 H' → OutRep A.R (MM A σ env) H1 H' fr v d → Qd d → Q v H') (x : XOut A W σ env H1 Ed) : spD K mg fr S vs H1 Q (WE W σ) :=
  ⟨A.R, MM A σ env, ds, Qd, Ed, ⟨hK, hm, h0⟩, E1.inv, E1.mst, fun a z => E1.mtrk z, r, hS, q, fun e cls dd H' s2 r2 hq => x e cls dd H' s2 r2 hq⟩
theorem ge_call {x : Str} {S : DSp} {e : Expr} {es : List Expr} {gs : DL} {p pos : Pos} (c : CallOk X W x false S) (ha : GL X A W (e :: es) gs) (h0 : A.R.hx = none) (hK : A.R.K = X.K := by rfl) (hm : A.R.mg = X.mg := by rfl)
    (he : starEach (e :: es) X.env = (false, eval e X.env) :: starEach es X.env := by rfl) (hpl : (backTo pos (starEach es X.env)).any (·.1) = false := by rfl) : GE X A W (.Call (.Name x p) (e :: es) [] pos) (dcall S gs) := by
  obtain ⟨k, f, fd, ps, F, hr, hg, hmx, hk, hb, hx, hd⟩ := c.ex
  refine ⟨pe_imp (pe_callS F hr hg hmx hk hb hx ha.p hd he hpl) fun σ H Q ⟨env, Qd, Ed, E, h, q, x⟩ => ?_⟩
  refine ⟨env, _, Ed, E, h, fun vs ds H1 s r hS => spD_of hK hm h0 (E.stp s) r hS (fun v d H' s2 r2 hq => ?_) (x.stp s), x⟩
  unfold OutRep at r2
  rw [if_neg Bool.false_ne_true] at r2
  exact q v d H' (s.trans s2) r2 hq
theorem gf_call {x : Str} {S : DSp} {e : Expr} {es : List Expr} {gs : DL} {p pos : Pos} (c : CallOk X W x true S) (ha : GL X A W (e :: es) gs) (h0 : A.R.hx = none) (hK : A.R.K = X.K := by rfl) (hm : A.R.mg = X.mg := by rfl)
    (he : starEach (e :: es) X.env = (false, eval e X.env) :: starEach es X.env := by rfl) (hpl : (backTo pos (starEach es X.env)).any (·.1) = false := by rfl) : GF X A W (.Call (.Name x p) (e :: es) [] pos) (dcallF S gs) := by
  obtain ⟨k, f, fd, ps, F, hr, hg, hmx, hk, hb, hx, hd⟩ := c.ex
  refine ⟨pe_imp (pe_callS F hr hg hmx hk hb hx ha.p hd he hpl) fun σ H Q ⟨env, Qd, Ed, E, h, q, x⟩ => ?_⟩
  refine ⟨env, _, Ed, E, h, fun vs ds H1 s r hS => spD_of hK hm h0 (E.stp s) r hS (fun v d H' s2 r2 hq => ?_) (x.stp s), x⟩
  unfold OutRep at r2
  rw [if_pos rfl] at r2
  obtain ⟨p, us, es', rfl, rfl, hp, h1, r3⟩ := r2
  exact q p us es' H' (Stp.none E.inv s hp) (s.trans s2) h1 r3 hq
end
/-- what is wanted at the ends of a def -/
def endD (fr : Bool) (Qd : D → Prop) (Ed : Ex → Prop) : KEnd := { nx := fun _ => fr = false ∧ Qd .non, rt := fun d _ => Qd d, ex := fun x _ => Ed x }
section
variable {P : Program} {w : World} {K : PySem.W.Frag} {mg : Str → Option Value} {base : Heap}
/-- a def holds its promise: its body as a term of rules, and the reading of that term over data -/
theorem fn_ok {x qual : Str} {st : Stmt} {f : Addr} {fd : FuncData} {N ps : List Str} {k : Nat} {fr : Bool} {S : DSp} (F : Fun K x qual st f fd) (sc : FnScope N ps (defScope st)) (len : ∀ ds Qd Ed, S ds Qd Ed → ds.length = ps.length)
    (hb : ∀ (cdv : Value) (Ar : Around) (outer : List Env) (s : Shared) (H : Hp) (E : XK) (R : RC) (M : Addr → Prop) (ds : List D) (Qd : D → Prop) (Ed : Ex → Prop), Room k (Ar.deeper (envOfC qual (defScope st) s.heap.objs.size f cdv)) → R.K = K → R.mg = mg → R.hx = none → S ds Qd Ed →
      ∃ g, GSs (cxOf (L2N.CX P w) P w K mg base N qual (defScope st) f cdv Ar outer s H E) ⟨R, H, M, fr⟩ (fun cls d _ H => E cls d H) (defBody st) g ∧ g (endD fr Qd Ed) (startD N ds)) :
    FnOk P w K mg base (L2N.CX P w) (k + 1) f fd ps (spD K mg fr S) := by
  refine F.okN sc (fun vs H Q E ⟨R, M, ds, Qd, Ed, _, _, _, _, r, h, _⟩ => r.length.trans (len _ _ _ h)) fun cdv Ar outer s H vs Q E hr ⟨R, M, ds, Qd, Ed, ⟨hK, hm, hx⟩, hi, hM1, hM2, r, h, q, x⟩ => ?_
  obtain ⟨g, G, hg⟩ := hb cdv Ar outer s H E R M ds Qd Ed hr hK hm hx h
  refine ⟨_, G.p, ?_⟩
  have ok : Act.Ok ⟨R, H, M, fr⟩ := ⟨hi, hM1, hM2⟩
  have E0 : ERep ⟨R, H, M, fr⟩ H (L2.start N vs) (startD N ds) := erep_start (A := ⟨R, H, M, fr⟩) ok r
  have sub : ∀ {σ' : St} {env' : DEnv}, ∀ a, M a → MM ⟨R, H, M, fr⟩ σ' env' a := fun a z => .inl z
  refine ⟨startD N ds, endD fr Qd Ed, E0, hg, fun σ' H' env' _ E' hq => ?_, fun _ _ _ _ _ hq => hq.elim, fun _ _ _ _ _ hq => hq.elim, fun v d σ' H' env' E' rr hq => ?_, fun e cls dd σ' H' env' _ E' rx hq => ?_⟩
  · refine q .non .non H' E'.base ?_ hq.2
    unfold OutRep
    rw [hq.1, if_neg Bool.false_ne_true]
    exact .non
  · exact q v d H' E'.base rr hq
  · refine x e cls dd H' E'.base ?_ hq
    obtain ⟨C, h1, h2, h3⟩ := rx
    refine ⟨C, h1, h2, h3.imp id fun ⟨d, fv, a1, a2, a3, a4⟩ => ⟨d, fv, a1, a2, fun z => a3 (.inl z), a4.keep (keep_sub fun a z => .inl z)⟩⟩
end
end Nb
set_option maxRecDepth 100000
set_option maxHeartbeats 2000000
/-! Nb: defs by name. -/
namespace Nb
open PySem PySem.Spec PyProof.Rows L2
/-- the def that stands under the name x, and what it promises, with room for k calls -/
structure Has (P : Program) (w : World) (K : PySem.W.Frag) (mg : Str → Option Value) (base : Heap) (x : Str) (k : Nat) (fr : Bool) (S : DSp) : Prop where
  ex : ∃ f fd ps, FnOk P w K mg base (L2N.CX P w) k f fd ps (spD K mg fr S) ∧ mg x = some (.ref f) ∧ PySem.W.keepIn K (.ref f) = true ∧ Binds K fd ps []
theorem Has.mono {P : Program} {w : World} {K : PySem.W.Frag} {mg : Str → Option Value} {base : Heap} {x : Str} {j k : Nat} {fr : Bool} {S : DSp} (h : Has P w K mg base x j fr S) (hk : j ≤ k) : Has P w K mg base x k fr S := by
  obtain ⟨f, fd, ps, F, a, b, c⟩ := h.ex
  exact ⟨f, fd, ps, F.mono hk, a, b, c⟩
/-- a weaker promise -/
theorem Has.imp {P : Program} {w : World} {K : PySem.W.Frag} {mg : Str → Option Value} {base : Heap} {x : Str} {k : Nat} {fr : Bool} {S S' : DSp} (h : Has P w K mg base x k fr S) (i : ∀ ds Q E, S' ds Q E → S ds Q E) : Has P w K mg base x k fr S' := by
  obtain ⟨f, fd, ps, F, a, b, c⟩ := h.ex
  exact ⟨f, fd, ps, F.imp fun vs H Q E ⟨R, M, ds, Qd, Ed, h1, h2, h3, h4, h5, h6, h7⟩ => ⟨R, M, ds, Qd, Ed, h1, h2, h3, h4, h5, i _ _ _ h6, h7⟩, a, b, c⟩
theorem Has.call {X : Cx} {W : WX} {x : Str} {k : Nat} {fr : Bool} {S : DSp} (h : Has X.prog X.w X.K X.mg X.base x k fr S) (hr : Room k X.A) (tk : Takes X W) (hg : Gl X x := by rfl) (hd : (x == ("__debug__" : Str)) = false := by decide) : CallOk X W x fr S := by
  obtain ⟨f, fd, ps, F, a, b, c⟩ := h.ex
  exact ⟨k, f, fd, ps, F, hr, hg, a, b, c, fun σ => L2N.passAt tk σ, hd⟩
/-- a def of the text becomes one that has its promise -/
theorem Fun.has {P : Program} {w : World} {K : PySem.W.Frag} {mg : Str → Option Value} {base : Heap} {x qual : Str} {st : Stmt} {f : Addr} {fd : FuncData} {ps : List Str} {k : Nat} {fr : Bool} {S : DSp} (F : Fun K x qual st f fd) (hm : mg x = some (.ref f)) (hb : Binds K fd ps [])
    (o : FnOk P w K mg base (L2N.CX P w) k f fd ps (spD K mg fr S)) : Has P w K mg base x k fr S := ⟨f, fd, ps, o, hm, F.kp, hb⟩
/-- a module's constant -/
theorem ge_glob {X : Cx} {A : Act} {W : WX} {x : Str} {v : V} {d : D} {u : Value} {pos : Pos} (hg : Gl X x) (hm : X.mg x = some u) (r : RelV v u) (rd : ∀ M H, Rep A.R M H v d) (hd : (x == ("__debug__" : Str)) = false := by decide) : GE X A W (.Name x pos) (dk d) := ge_const (pe_glob hg hm r hd) rd
end Nb
set_option maxRecDepth 100000
set_option maxHeartbeats 2000000
/-! Nb: more of values. -/
namespace Nb
open PySem PySem.Spec PyProof.Rows L2
theorem room_units {k : Nat} {A : Around} (r : Room k A) : A.units + 64 < cLine := by
  have := r.un
  omega
section
variable {X : Cx} {A : Act} {W : WX}
/-- a built-in class as a value -/
theorem ge_tyc {x : Str} {n : String} {pos : Pos} (hg : Gl X x) (hm : X.mg x = none) (hv : bootBuiltins x = some (.type n) := by decide +kernel) (hP : Gl X x → X.mg x = none → bootBuiltins x = some (.type n) → PE X (.Name x pos) (tC (.ty n)) := by exact fun hg hm hv => pe_bltn hg hm hv rfl) : GE X A W (.Name x pos) (dk (.ty n)) :=
  ge_const (hP hg hm hv) fun _ _ => .ty n
/-- text.index(text) -/
def fIndex (x y : D) (Q : D → Prop) : Prop := match x, y with
  | .str a, .str b => ∃ i rest, Builtin.Str.occurrences a b 0 a.length 1 = i :: rest ∧ Q (.int (i : Nat))
  | _, _ => False
end
end Nb
set_option maxRecDepth 100000
set_option maxHeartbeats 2000000
/-! Nb: sorted(text), text.index(text), text[::-1]. -/
namespace Nb
open PySem PySem.Spec PyProof.Rows L2
section
variable {X : Cx} {A : Act} {W : WX}
def signsS (z : Str) : List Str := z.cps.toList.map fun c => (⟨#[c]⟩ : Str)
theorem sgnD_eq (z : Str) : sgnD z = (signsS z).map D.str := by
  unfold sgnD signsS
  rw [List.map_map]
  rfl
def fSortT (ds : List D) (Q : List D → Prop) : Prop := match ds with
  | [.str z] => z.length ≤ LINE ∧ ∀ ss : List Str, ss.Perm (signsS z) → sortedS ss = true → Q (ss.map D.str)
  | _ => False
def dcbF (f : List D → (List D → Prop) → Prop) (gs : DL) : DF := fun env Q Ed => gs env (fun ds => f ds Q) Ed
/-- list(x), a new list -/
def fListF (ds : List D) (Q : List D → Prop) : Prop := match ds with
  | [.lst xs] => Q xs
  | [.tup xs] => Q xs
  | [.str z] => z.length ≤ LINE ∧ Q (sgnD z)
  | _ => False
end
end Nb
set_option maxRecDepth 100000
set_option maxHeartbeats 2000000
/-! Nb: text[::-1], list(..), xs.append(ys.pop(k)). -/
namespace Nb
open PySem PySem.Spec PyProof.Rows L2
section
variable {X : Cx} {A : Act} {W : WX}
/-- the text behind [::-1] -/
def revS (z : Str) : Str := ⟨((Builtin.Str.strSliceIndices none none (-1) z.length).filterMap (z.cps[·]?)).toArray⟩
def dRev (g : DE) : DE := fun env Q Ed => g env (fun d => match d with
  | .str z => (revS z).length ≤ LINE ∧ Q (.str (revS z))
  | _ => False) Ed
/-- xs.append(ys.pop(k)) -/
def dappPop (i j : Nat) (g : DE) : DS := fun K env => match env[i]? with
  | some (.own ds) => (match env[j]? with
    | some (.own es) => g env (fun d => match d with
      | .int n => -(2 ^ 63) ≤ n ∧ n < 2 ^ 63 ∧ ∃ k y, seqIndex? n es.length = some k ∧ es[k]? = some y ∧ ds.length < LINE ∧ K.nx ((env.set j (.own (es.eraseIdx k))).set i (.own (ds ++ [y])))
      | _ => False) fun x => K.ex x env
    | _ => False)
  | _ => False
theorem gs_appPop {i j : Nat} {o r e : Expr} {g : DE} {pos cpos apos cpos2 apos2 : Pos} (hij : i ≠ j) (ho : PE X o (tVar i)) (hr : PE X r (tVar j)) (he : GE X A W e g)
    (hS : ∀ te, PE X o (tVar i) → PE X r (tVar j) → PE X e te → PS X (.Expr (.Call (.Attribute o "append" apos) [.Call (.Attribute r "pop" apos2) [e] [] cpos2] [] cpos) pos) (tDrop (tBM X.K "list" rAppend (tVar i) (tCons (tBM X.K "list" rPopAt (tVar j) (tCons te tNil)) tNil))) := by
      exact fun te ho hr h => ps_expr (pe_bm PySem.F.plainAttrs_list PySem.F.slot_list_append PySem.F.type_list_append mt_append ho (pa_cons (pe_bm PySem.F.plainAttrs_list PySem.F.slot_list_pop PySem.F.type_list_pop mt_popAt hr (pa_cons h pa_nil)) pa_nil))) :
    GS X A W (.Expr (.Call (.Attribute o "append" apos) [.Call (.Attribute r "pop" apos2) [e] [] cpos2] [] cpos) pos) (dappPop i j g) := by
  refine ⟨ps_imp (hS _ ho hr he.p) fun De σ H ⟨env, K, E, h, q1, q2, q3, q4, q5⟩ => ?_⟩
  obtain ⟨ds, e1, h⟩ := own_of h
  obtain ⟨es, e2, h⟩ := own_of h
  obtain ⟨a, vs, h1, h2, h3, h4, h5⟩ := E.own i ds e1
  obtain ⟨b, ws, g1, g2, g3, g4, g5⟩ := E.own j es e2
  refine ⟨.ref a, h1, .inl ⟨rfl, _, SqL.of h2⟩, .ref b, g1, .inl ⟨rfl, _, SqL.of g2⟩, toE_step E h (xout_of E q5) fun v d H1 s E1 _ rv hq => ?_⟩
  match d, rv, hq with
  | .int n, .int _, ⟨z1, z2, k, y, hk, hy, hl, hn⟩ =>
    have b2 : H1 b = some (.lst ws) := s.k b _ g2 fun z => g4 (E.ok.st b z)
    have a2 : H1 a = some (.lst vs) := s.k a _ h2 fun z => h4 (E.ok.st a z)
    have rw1 := g3.keep (E.keep s)
    obtain ⟨u, hu, ru⟩ := rw1.get hy
    have hab : a ≠ b := fun z => by
      subst z
      exact hij (E.one i j ds es a e1 e2 h1 g1)
    refine ⟨b, ws, n, k, u, rfl, rfl, b2, z1, z2, by rw [g3.length]; exact hk, hu, ?_⟩
    obtain ⟨E2, k2⟩ := E1.mut (us := ws) e2 g1 (rw1.eraseIdx k)
    have e3 : (env.set j (.own (es.eraseIdx k)))[i]? = some (.own ds) := by
      rw [List.getElem?_set_ne (Ne.symm hij)]
      exact e1
    have a3 : upd H1 b (.lst (ws.eraseIdx k)) a = some (.lst vs) := by rw [upd_ne hab]; exact a2
    refine ⟨a, vs, u, rfl, rfl, a3, by rw [h3.length, line_is]; exact hl, ?_⟩
    obtain ⟨E3, k3⟩ := E2.mut (us := vs) e3 h1 (((h3.keep (E.keep s)).keep k2).append (.cons (ru.keep k2) .nil))
    exact q1 _ _ _ (((E.keep s).trans k2).trans k3) E3 hn
/-- list(x), a new list -/
theorem gf_list {p pos : Pos} {e : Expr} {g : DE} (hc : X.calm = true) (hm : X.mg "list" = none) (he : GE X A W e g) (hK : A.R.K = X.K := by rfl)
    (hP : ∀ r t, X.mg "list" = none → CallR X (.type "list") r → PA X [e] t → PE X (.Call (.Name "list" p) [e] [] pos) (tCB r t) := by exact fun r t hm c h => pe_callTy c (by rfl) hm PyProof.Rows.boot_list h)
    (hA : GE X A W e g → GL X A W [e] (dcons g dnil) := by exact fun h => gl_cons h gl_nil) : GF X A W (.Call (.Name "list" p) [e] [] pos) (dcbF fListF (dcons g dnil)) := by
  refine ⟨pe_imp (hP _ _ hm (call_list_of.or (call_listS hc)) (hA he).p) fun σ H Q ⟨env, Qd, Ed, E, h, q, x⟩ => toL_step E h x fun vs ds H1 s1 E1 x1 r h1 => ?_⟩
  have fin : ∀ {us : List V} {es : List D}, RepL A.R (MM A σ env) H1 us es → Qd es → ∀ p, H1 p = none → Q (.ref p) (upd H1 p (.lst us)) := fun {us es} r hq p hp => by
    have s : Stp A.R H1 (upd H1 p (.lst us)) := Stp.new hp
    exact q p _ _ _ (Stp.none E.inv s1 hp) (s1.trans s) upd_same (r.keep ⟨(E1.keep s).k, fun a z => z.elim .inl fun z => .inr (by rw [z]; exact hp)⟩) hq
  match ds, r, h1 with
  | [.lst ds], .cons (.lst (a := a) (xs := vs) e n rl) .nil, h => exact .inl ⟨a, vs, rfl, .inl (SqL.of e), fin rl h⟩
  | [.tup ds], .cons (.tup (a := a) (xs := vs) t rl) .nil, h => exact .inl ⟨a, vs, rfl, .inr (by rw [← hK]; exact t.sq), fin rl h⟩
  | [.str z], .cons (.str _) .nil, h => exact .inr ⟨z, rfl, by rw [line_is]; exact h.1, fin (rep_signs _) h.2⟩
end
end Nb
set_option maxRecDepth 100000
set_option maxHeartbeats 2000000
/-! Nb: own exceptions whose __init__ calls super().__init__ with a text, then stores its fields. -/
namespace Nb
open PySem PySem.Spec PyProof.Rows L2 PySem.W PySem.Calls
/-- what the written part says of such a class, at C; of its __init__, at fI; of the cell that holds the class -/
structure SupTxt (P : Program) (K : PySem.W.Frag) (mg : Str → Option Value) (x : Str) (C fI : Addr) (fs : List Str) (st : Stmt) : Prop where
  gC : mg x = some (.ref C)
  cls : ∃ nm q N bs bm sn sub ab col dd k0 k1 k2 k3 k5, K.lookup C = some (excClassObj nm q C N bs bm true sn sub ab col dd k0 k1 k2 k3 k5 "ValueError.__new__") ∧ PySem.HandSPX.refsVE bm = true
  sa : findIn K (.ref C) "__setattr__" = some (some (.builtin "object.__setattr__"))
  ga : findIn K (.ref C) "__getattribute__" = some (some (.builtin "BaseException.__getattribute__"))
  gg : findIn K (.ref C) "__getattr__" = some none
  noN : ∀ f ∈ fs, findIn K (.ref C) f = some none
  iC : findIn K (.ref C) "__init__" = some (some (.ref fI))
  tC : typeIn K (.ref fI) = some (.type "function")
  kC : keepIn K (.ref C) = true
  exC : subIn K (.ref C) (.type "BaseException") = some true
  veC : subIn K (.ref C) (.type "ValueError") = some true
  tyC : typeIn K (.ref C) = some (.type "type")
  hdC : hasDictIn K C = true
  te : exmOne K (.ref C) (.ref C) = some true
  sup : ks_superIn K C C "__init__" = some (some (.builtin "ValueError.__init__"))
  sCC : mroIn K C (.ref C) = some true
  opq : nsIn K cStatics "thirdparty.any" = some none
  sN : mg "super" = none
  top : (P.main.scope.names.lookup ("super" : Str)).isSome = false
  fn : ∃ (cc cda : Addr) (oc : Value) (od : Option Addr) (doc pm : Value) (an : Option Addr) (ct : Value) (osl : Array (Option Value)) (qual : Str) (ccl cl : Value) (cdd cld : Option Addr) (ccs csl : Array (Option Value)) (vs : Array Value) (file : Str) (tf : Tok),
    K.lookup fI = some ⟨oc, od, .func (ksFn "__init__" qual (defArgs st) (defBody st) (defScope st) .none .none doc pm an (.ref cda) ct cc), osl⟩ ∧ codeIn K (.ref cda) qual = true ∧
    K.lookup cc = some ⟨cl, cld, .cell (some (.ref C)), csl⟩ ∧ K.lookup cda = some ⟨ccl, cdd, .fields vs, ccs⟩ ∧ vs[2]? = some (.str file tf) ∧ ((P.main.file : Str) == file) = true
/-- the module's names and the built-ins, in the heap -/
structure NsAt (mg : Str → Option Value) (h : Heap) : Prop where
  g : h.Ns mainGlobals mg
  b : ∃ mb, h.Ns builtinsNs mb ∧ ∀ x : Str, x ≠ "__name__" → mb x = bootBuiltins x
section
variable {prog : Program} {w : World} {A : Around} {E : Value → Shared → Prop} {s : Shared} {K : PySem.W.Frag} {mg : Str → Option Value} {C fI : Addr}
/-- super().__init__('..') in a class of own exceptions -/
theorem sup_init {x : Addr} {t0 cda cc L : Addr} {body : List Stmt} {q : Str} {scope : Scope} {fd : FuncData} {ar : Arg} {m : Str → Option Value} {vs : Array Value} {file : Str} {tf : Tok} {oc ccl cl : Value} {od cdd cld : Option Addr} {osl ccs csl : Array (Option Value)}
    {msg : Str} {j : Nat} {p0 p1 p2 p3 p4 p5 : Pos} {cn : Str} {fs : List Str} {st : Stmt} {Q : Flow → Shared → Prop} (T : SupTxt prog K mg cn C fI fs st) (X : K.In s.heap) (N : NsAt mg s.heap) (hx : s.heap.get? x = some (PySem.HandSPX.excO C t0)) (hL : s.heap.Ns L m)
    (hf : K.lookup fI = some ⟨oc, od, .func fd, osl⟩) (hp : (fd.params.posonlyargs ++ fd.params.args).head? = some ar) (hv : m ar.arg = some (.ref x))
    (hcode : K.lookup cda = some ⟨ccl, cdd, .fields vs, ccs⟩) (hvs : vs[2]? = some (.str file tf)) (hfile : ((prog.main.file : Str) == file) = true) (hcell : K.lookup cc = some ⟨cl, cld, .cell (some (.ref C)), csl⟩)
    (hks : scope.names.lookup ("super" : Str) = some .globalImplicit) (hkc : scope.names.lookup ("__class__" : Str) = some .free) (hka : scope.names.lookup ar.arg = some .local) (hk : scope.kind = .function) {pl : Sem Bool}
    (he : eval (.Call (.Attribute (.Call (.Name "super" p0) [] [] p1) "__init__" p2) [.Constant (.str msg) j p3] [] p4) (ksEnv q scope L fI (.ref cda) cc) = (do
      let ov ← attributeBase (.Call (.Name "super" p0) [] [] p1) "__init__" (ksEnv q scope L fI (.ref cda) cc) (eval (.Call (.Name "super" p0) [] [] p1) (ksEnv q scope L fI (.ref cda) cc))
      standAt p2.atName
      let (f, first) ← holding [ov] (getMethod ov "__init__" pl)
      callWith p4 f first (backTo p4 (starEach [.Constant (.str msg) j p3] (ksEnv q scope L fI (.ref cda) cc))) []))
    (h : ∀ h' tk t', (∀ b o, b ≠ x → s.heap.get? b = some o → h'.get? b = some o) → h'.get? x = some (PySem.HandSPX.excO C t') → s.heap.objs.size ≤ h'.objs.size → Q .next { s with heap := h', toks := tk }) :
    _root_.PySem.wpAt (model prog w) A (.func body (ksEnv q scope L fI (.ref cda) cc)) (exec (.Expr (.Call (.Attribute (.Call (.Name "super" p0) [] [] p1) "__init__" p2) [.Constant (.str msg) j p3] [] p4) p5) (ksEnv q scope L fI (.ref cda) cc)) Q E s := by
  refine ks_wpAt_Expr_any ?_ (by show (scope.kind == .module && _) = false; rw [hk]; rfl) (by rfl)
  refine ks_wpAt_MethodCall (pl := pl) ?_ he
  obtain ⟨nm, qn, N', bs, bm, sn, sub, ab, col, dd, k0, k1, k2, k3, k5, hC, hbm⟩ := T.cls
  have hCh := X _ _ hC
  obtain ⟨hh, g, d, t, os⟩ := s
  have I : InstAt hh x (PySem.HandSPX.excO C t0) C none := ⟨hx, rfl, rfl, trivial⟩
  refine ks_wpAt_super_base (env := ksEnv q scope L fI (.ref cda) cc) hks hkc (by decide) rfl (X _ _ hf) rfl hp rfl (X _ _ hcode) rfl hvs hfile T.top ?_
  obtain ⟨mb, hb1, hb2⟩ := N.b
  refine ks_loadName_global hk hks (loadGlobal_builtin (env := ksEnv q scope L fI (.ref cda) cc) N.g T.sN hb1 ((hb2 "super" (by decide)).trans (show bootBuiltins "super" = some (.type "super") by decide +kernel)) ⟨rfl, ?_⟩)
  refine wpAny_loadName_free hk hkc rfl ⟨_, X _ _ hcell, rfl⟩ ?_
  refine wpAny_loadName_local hk hka hL hv ?_
  refine ks_wpAny_isType_cls hCh rfl ⟨rfl, ?_⟩
  refine ks_wpAny_call_super hCh rfl I.at_ I.cls (fun c e => by cases e) (looks_mroIn X T.sCC) (fun h1 e1 k1' => ?_)
  -- the object of super's: its __init__
  have X1 : K.In h1 := X.keeps k1'
  have I1 : InstAt h1 x (PySem.HandSPX.excO C t0) C none := ⟨k1' _ _ hx, rfl, rfl, trivial⟩
  have hcl : clsIn K C = some { name := nm, bases := bs, mro := .ref C :: bm, ns := N', qualname := qn, hasDict := true, slotNames := sn, subclasses := sub, abstract := ab, collection := col, hasDel := false } := by unfold clsIn; rw [hC] <;> rfl
  have hsup := T.sup
  unfold ks_superIn at hsup
  rw [hcl] at hsup
  have hI : Looks (model prog w) h1 (isInstance (.ref x) (.type "ValueError")) true := I1.type.andThen (looks_subIn X1 T.veC)
  refine kxs_getMethod kxs_ValueError e1 (looks_opaque X1 T.opq) (l₀ := .ref C :: bm) ?_ rfl X1 hsup hI (ks_ne X1 I1 hcl) (by decide) ?_
  · exact fun A Q E s k q => wpAny_bind ((looks_clsIn X1 hcl) A _ E s k (wpAny_pure q))
  have hmw : (h1.push (kxs_mw "ValueError.__init__" x)).get? h1.objs.size = some (kxs_mw "ValueError.__init__" x) := Heap.get?_push_size _ rfl
  refine kxs_callWith (i := "ValueError.__init__") (x := x) (by rfl) ?_
  refine evalArgs_plain (rest := []) (spliced_cons ?_)
  simp only [Bool.false_eq_true, if_false]
  refine wpAny_Constant_str (spliced_nil ⟨hmw, ?_⟩)
  have hC2 : (h1.push (kxs_mw "ValueError.__init__" x)).get? C = some (excClassObj nm qn C N' bs bm true sn sub ab col dd k0 k1 k2 k3 k5 "ValueError.__new__") := Heap.get?_push_of_some _ (k1' _ _ hCh)
  have hx2 : (h1.push (kxs_mw "ValueError.__init__" x)).get? x = some (PySem.HandSPX.excO C t0) := Heap.get?_push_of_some _ (k1' _ _ hx)
  show wpAny _ _ (call (.ref h1.objs.size) [.str msg (t + 1)]) _ _ _
  refine wpAny_call (codeAny_of_tree ?_)
  show wpAny _ A.in1 (callAny (.ref h1.objs.size) ⟨[.str msg (t + 1)], []⟩) _ _ _
  simp only [callAny]
  refine wpAny_bind (wpAny_load hmw ?_)
  simp only [kxs_mw, show (Value.type "method-wrapper" == Value.type "method" || Value.type "method-wrapper" == Value.type "builtin_function_or_method" || Value.type "method-wrapper" == Value.type "method-wrapper") = true by decide, if_true]
  refine KFB.if_so (by decide) ?_
  refine wpAny_bind (check_bound_init PySem.F.excBase_ValueError.toExcCallFacts hC2 hx2 rfl ?_)
  refine wpAny_bind (wpAny_pure (wpAny_pure ?_))
  refine ⟨plainId_quiet PySem.F.excBase_ValueError.init.plain _, codeAny_builtin PySem.F.excBase_ValueError.initEntry ?_⟩
  refine exc_init_tree (cls := .ref C) (t0 := t0) (dv := none) (c2 := .none) (c3 := .none) (b4 := .bool false) hx2 (by show 1 ≤ sizeLine; rw [sizeLine_eq]; omega) fun h' k3 e3 e4 => ?_
  refine h h' _ _ (fun b o hb e => k3 b o hb (Heap.get?_push_of_some _ (k1' b o e))) e3 ?_
  have z1 := Heap.lt_size e1
  have z2 := Heap.lt_size e4
  have z3 : (h1.push (kxs_mw "ValueError.__init__" x)).objs.size = h1.objs.size + 1 := size_push' _ _
  have z4 : (h1.push (kxs_mw "ValueError.__init__" x)).objs.size < h'.objs.size := z2
  have z5 : hh.objs.size < h1.objs.size := z1
  show hh.objs.size ≤ h'.objs.size
  omega
theorem kept_but {K : Frag} {h h' : Heap} {x : Addr} (X : K.In h) (hx : K.lookup x = none) (k : ∀ b o, b ≠ x → h.get? b = some o → h'.get? b = some o) : K.In h' := fun a o e =>
  k a o (fun z => by rw [z, hx] at e; cases e) (X a o e)
/-- a made one -/
theorem ctx_of {o : Obj} {fv : Array Value} (h : o.data = .fields fv) (e : fv[2]? = some .none) : PySem.PXN.CtxN o := fun vs q => by
  rw [h] at q
  cases q
  exact e
end
section
variable {X : Cx} {A : Act} {C fI : Addr}
theorem nsAt_of {pins : List (Addr × Obj)} {σ : St} {H : Hp} {s : Shared} (I : Inv X pins σ H s) : NsAt X.mg s.heap := by
  obtain ⟨mb, h1, h2⟩ := I.ok.mod.blt
  exact ⟨I.ok.mod.glob.keeps I.bk, mb, h1.keeps I.bk, h2⟩
/-- raise C(e): data -/
def draise1 (x f : Str) (g : DE) : DS := fun K env => g env (fun d => K.ex (x, [(f, d)]) env) fun e => K.ex e env
end
end Nb
set_option maxRecDepth 100000
set_option maxHeartbeats 2000000
/-! Nb: what is caught: the suite, the defs that it calls, isinstance, fields. -/
namespace Nb
open PySem PySem.Spec PyProof.Rows L2
mutual
def D.noexc : D → Bool
  | .exc _ _ => false
  | .tup ds => D.noexcL ds
  | .lst ds => D.noexcL ds
  | .ins _ fs => D.noexcF fs
  | _ => true
def D.noexcL : List D → Bool
  | [] => true
  | d :: ds => D.noexc d && D.noexcL ds
def D.noexcF : List (Str × D) → Bool
  | [] => true
  | (_, d) :: ds => D.noexc d && D.noexcF ds
end
def RC.hold (R : RC) (h : Option (Addr × Addr × Option Addr)) : RC := { R with hx := h }
section
variable {R : RC} {M : Addr → Prop} {H : Hp} {h : Option (Addr × Addr × Option Addr)}
mutual
/-- data that is no exception's means the same whatever exception is at hand -/
theorem Rep.hold : ∀ {v : V} {d : D}, Rep R M H v d → D.noexc d = true → Rep (R.hold h) M H v d
  | _, _, .non, _ => .non
  | _, _, .bl b, _ => .bl b
  | _, _, .int i, _ => .int i
  | _, _, .str x, _ => .str x
  | _, _, .ty n, _ => .ty n
  | _, _, .tup t l, e => .tup t (RepL.hold l (by unfold D.noexc at e; exact e))
  | _, _, .lst t n l, e => .lst t n (RepL.hold l (by unfold D.noexc at e; exact e))
  | _, _, .sto e, _ => .sto e
  | _, _, .exc0 _ _, e => by unfold D.noexc at e; cases e
  | _, _, .excF _ _ _ _ _, e => by unfold D.noexc at e; cases e
  | _, _, .ins t n b l, e => .ins t n b (RepF.hold l (by unfold D.noexc at e; exact e))
  | _, _, .dct t n, _ => .dct t n
theorem RepL.hold : ∀ {v : List V} {d : List D}, RepL R M H v d → D.noexcL d = true → RepL (R.hold h) M H v d
  | _, _, .nil, _ => .nil
  | _, _, .cons a b, e => by
    unfold D.noexcL at e
    rw [Bool.and_eq_true] at e
    exact .cons (Rep.hold a e.1) (RepL.hold b e.2)
theorem RepF.hold : ∀ {v : List (Str × V)} {d : List (Str × D)}, RepF R M H v d → D.noexcF d = true → RepF (R.hold h) M H v d
  | _, _, .nil, _ => .nil
  | _, _, .cons a b, e => by
    unfold D.noexcF at e
    rw [Bool.and_eq_true] at e
    exact .cons (Rep.hold a e.1) (RepF.hold b e.2)
end
mutual
theorem Rep.none0 (e : R.hx = none) : ∀ {v : V} {d : D}, Rep R M H v d → D.noexc d = true
  | _, _, .non => rfl
  | _, _, .bl b => rfl
  | _, _, .int i => rfl
  | _, _, .str x => rfl
  | _, _, .ty n => rfl
  | _, _, .tup t l => by unfold D.noexc; exact RepL.none0 e l
  | _, _, .lst t n l => by unfold D.noexc; exact RepL.none0 e l
  | _, _, .sto _ => rfl
  | _, _, .exc0 q _ => by rw [e] at q; cases q
  | _, _, .excF q _ _ _ _ => by rw [e] at q; cases q
  | _, _, .ins t n b l => by unfold D.noexc; exact RepF.none0 e l
  | _, _, .dct _ _ => rfl
theorem RepL.none0 (e : R.hx = none) : ∀ {v : List V} {d : List D}, RepL R M H v d → D.noexcL d = true
  | _, _, .nil => rfl
  | _, _, .cons a b => by unfold D.noexcL; rw [Rep.none0 e a, RepL.none0 e b]; rfl
theorem RepF.none0 (e : R.hx = none) : ∀ {v : List (Str × V)} {d : List (Str × D)}, RepF R M H v d → D.noexcF d = true
  | _, _, .nil => rfl
  | _, _, .cons a b => by unfold D.noexcF; rw [Rep.none0 e a, RepF.none0 e b]; rfl
end
end
/-- the activation within a suite -/
abbrev Act.hold (A : Act) (h : Option (Addr × Addr × Option Addr)) : Act := ⟨A.R.hold h, A.H0, A.M0, A.fr⟩
section
variable {A : Act} {H H' : Hp} {σ : St} {env : DEnv}
theorem Stp.hold {R : RC} {h : Option (Addr × Addr × Option Addr)} (s : Stp R H H') : Stp (R.hold h) H H' := ⟨s.k, s.s⟩
theorem Stp.unhold {R : RC} {h : Option (Addr × Addr × Option Addr)} (s : Stp (R.hold h) H H') : Stp R H H' := ⟨s.k, s.s⟩
theorem ERep.hold (E : ERep A H σ env) (e : A.R.hx = none) (h : Option (Addr × Addr × Option Addr)) : ERep (A.hold h) H σ env := by
  refine ⟨⟨E.ok.inv, E.ok.st, E.ok.m⟩, E.len, fun i d q => ?_, fun i ds q => ?_, E.one, E.base.hold⟩
  · obtain ⟨v, h1, h2⟩ := E.val i d q
    exact ⟨v, h1, h2.hold (h2.none0 e)⟩
  · obtain ⟨a, vs, h1, h2, h3, h4, h5⟩ := E.own i ds q
    exact ⟨a, vs, h1, h2, h3.hold (h3.none0 e), h4, h5⟩
theorem ERep.blank {A : Act} {H : Hp} (ok : A.Ok) (b : Stp A.R A.H0 H) (σ : St) : ERep A H σ (List.replicate σ.length .un) := by
  have no : ∀ {i : Nat} {x : SD}, (List.replicate σ.length SD.un)[i]? = some x → x = .un := fun {i x} h => by
    rw [List.getElem?_replicate] at h
    split at h <;> cases h
    rfl
  exact ⟨ok, List.length_replicate, fun i d h => (by cases no h), fun i ds h => (by cases no h), fun i j ds es a h => (by cases no h), b⟩
theorem RepF.hold0 {R : RC} {M : Addr → Prop} {v : List (Str × V)} {d : List (Str × D)} (r : RepF R M H v d) (e : R.hx = none) (h : Option (Addr × Addr × Option Addr)) : RepF (R.hold h) M H v d := r.hold (r.none0 e)
end
section
variable {X : Cx} {A : Act} {W : WX}
/-- try: body, except x as n: suite, where the suite hands back something -/
@[irreducible] def dtry (ok : Str → Prop) (i : Nat) (s u : DS) : DS := fun K env => s { K with ex := fun x env' => ok x.1 ∧ u { nx := fun _ => False, rt := fun d _ => d.noexc = true ∧ ∀ e, K.rt d e, ex := fun _ _ => False } (env'.set i (.val (.exc x.1 x.2))) } env
theorem gs_try {x n : Str} {c : Value} {i : Nat} {body suite : List Stmt} {b₀ : Stmt} {np pos pos' : Pos} {ok : Str → Prop} {s u : DS} (h0 : A.R.hx = none) (hfr : A.fr = false) (hs : X.stack = X.env :: X.outer) (hf : X.env.frame = some X.env.locals) (hN : X.N.Nodup) (hi : X.N[i]? = some n) (hln : X.env.kindOf n = some .local) (hc : Names X x c) (tk : Takes X W)
    (hex : ∀ m C, ok m → A.R.mg m = some (.ref C) → PySem.W.exmOne X.K (.ref C) c = some true)
    (hb : ∀ (W : WX) (pn : List (Addr × Obj)) (xe : Value → Shared → Prop), Takes (X.tr pn xe) W → PassesOwn (model X.prog X.w) X.A X.env xe → GSs (X.tr pn xe) A W body s)
    (hsu : ∀ (a C : Addr) (oe : Obj) (d : Option Addr) (pn : List (Addr × Obj)), Zc (.ref C) d oe → (∃ vs, oe.data = .fields vs) → GSs (X.suite a ((a, oe) :: pn)) (A.hold (some (a, C, d))) W0 (b₀ :: suite) u) :
    GS X A W (.Try body [.ExceptHandler (some (.Name x np)) (some n) (b₀ :: suite) pos'] [] [] pos) (dtry ok i s u) := by
  refine ⟨ps_imp (L2N.ps_try_as (tb := fun W => toS A W s) (ts := fun a cls d => fun De σ H => ∃ C, cls = .ref C ∧ toS (A.hold (some (a, C, d))) W0 u De σ H) (Wout := W) hs hf hN hi hln hc tk (fun W pn xe t p => (hb W pn xe t p).p) (fun a oe cls d pn hz hv => ?_)) fun De σ H ⟨env, K, E, h, q1, q2, q3, q4, q5⟩ => ?_⟩
  · exact ⟨fun pins s' σ H De I ⟨C, e, w⟩ => by subst e; exact (hsu a C oe d pn hz hv).p.run pins s' σ H De I w⟩
  · unfold dtry at h
    refine ⟨env, _, E, h, q1, q2, q3, q4, fun e cls dd σ' H' env' kk E' rx ⟨ho, hu⟩ => ?_⟩
    obtain ⟨C, rfl, hm, hd⟩ := rx
    refine ⟨true, hex _ C ho hm, fun _ a ha => ⟨C, rfl, ?_⟩, fun z => Bool.noConfusion z⟩
    have Eh := E'.hold h0 (some (a, C, dd))
    have rx : Rep (A.hold (some (a, C, dd))).R (MM (A.hold (some (a, C, dd))) σ' env') H' (.ref a) (.exc e.1 e.2) := by
      rcases hd with ⟨h1, h2⟩ | ⟨d, fv, h1, h2, h3, h4⟩
      · subst h2
        rw [h1]
        exact .exc0 rfl hm
      · subst h1
        exact .excF rfl hm h2 h3 (h4.hold0 h0 _)
    refine ⟨_, _, Eh.set (i := i) rx, hu, fun _ _ _ _ _ z => z.elim, fun _ _ _ _ _ z => z.elim, fun _ _ _ _ _ z => z.elim, fun v d σ2 H2 env2 E2 rr hq => ?_, fun _ _ _ _ _ _ _ _ _ z => z.elim⟩
    refine q4 v d σ2 H2 _ (ERep.blank E'.ok E2.base.unhold σ2) ?_ (hq.2 _)
    unfold RetRep at rr ⊢
    rw [hfr, if_neg Bool.false_ne_true] at rr ⊢
    have z := rr.hold (h := none) hq.1
    have e0 : (A.R.hold (some (a, C, dd))).hold none = A.R := by
      have e1 : A.R.hold none = A.R := by
        show ({ A.R with hx := none } : RC) = A.R
        rw [← h0]
      exact e1
    exact e0 ▸ z
end
end Nb
set_option maxRecDepth 100000
set_option maxHeartbeats 2000000
/-! Nb: defs that a suite calls; isinstance of the exception, its fields. -/
namespace Nb
open PySem PySem.Spec PyProof.Rows L2
/-- the context holds the exception at a -/
structure ExcAt (X : Cx) (a C : Addr) (d : Option Addr) : Prop where
  ex : (∃ oe vs, (a, oe) ∈ X.pn ∧ Zc (.ref C) d oe ∧ oe.data = .fields vs)
  hh : X.A.handled = some (.ref a)
theorem ExcAt.suite {X : Cx} {a C : Addr} {oe : Obj} {d : Option Addr} {pn : List (Addr × Obj)} (hz : Zc (.ref C) d oe) (hv : ∃ vs, oe.data = .fields vs) : ExcAt (X.suite a ((a, oe) :: pn)) a C d :=
  let ⟨vs, e⟩ := hv
  ⟨⟨oe, vs, List.mem_cons_self, hz, e⟩, rfl⟩
theorem ExcAt.hot {X : Cx} {a C : Addr} {d : Option Addr} (x : ExcAt X a C d) : L2H.HotC X :=
  let ⟨oe, vs, m, z, e⟩ := x.ex
  ⟨(a, oe), ⟨x.hh, vs, e, z.2.2 vs e⟩, m⟩
/-- a class whose instances are asked in a suite -/
structure XCls (K : PySem.W.Frag) (C : Addr) : Prop where
  cl : (PySem.W.clsIn K C).isSome = true
  ga : PySem.W.findIn K (.ref C) "__getattribute__" = some (some (.builtin "BaseException.__getattribute__"))
  gg : PySem.W.findIn K (.ref C) "__getattr__" = some none
  sb : PySem.W.subIn K (.ref C) (.type "BaseException") = some true
  hd : PySem.W.hasDictIn K C = true
  ca : PySem.W.findIn K (.ref C) "__class__" = some (some (.builtin "object.__class__"))
  sp : PySem.W.specialIn K (.builtin "object.__class__") "__get__" = some (some (.builtin "getset_descriptor.__get__"))
  tk : PySem.W.takesIn K (.builtin "object.__class__") = some true
  mo : PySem.W.mroIn K C (.type "object") = some true
/-- the exception's object in the heap, its dict too -/
theorem inst_at {X : Cx} {pins : List (Addr × Obj)} {σ : St} {H : Hp} {s : Shared} {a C : Addr} {d : Option Addr} (I : Inv X pins σ H s) (x : ExcAt X a C d) (hd : ∀ dd, d = some dd → ∃ fs, H dd = some (.xd fs)) : ∃ oe od, PySem.W.InstAt s.heap a oe C od := by
  obtain ⟨oe, vs, h1, h2, h3⟩ := x.ex
  obtain ⟨hg, _⟩ := I.pin (a, oe) (List.mem_append_left _ h1)
  have hn : PySem.W.notCls oe = true := by unfold PySem.W.notCls; rw [h3] <;> rfl
  cases d with
  | none => exact ⟨oe, none, hg, h2.1, hn, by rw [h2.2.1]; trivial⟩
  | some dd =>
    obtain ⟨fs, hf⟩ := hd dd rfl
    obtain ⟨mA, hns, _⟩ := I.hok dd _ hf
    obtain ⟨od, ho, _⟩ := lookIn_ns hns
    exact ⟨oe, some od, hg, h2.1, hn, by rw [h2.2.1]; exact ho⟩
/-- isinstance(e, c) -/
def rIsX (K : PySem.W.Frag) (a C : Addr) (d : Option Addr) : List V → Hp → VK → Prop := fun xs H Q => XCls K C ∧ (∀ dd, d = some dd → ∃ fs, H dd = some (.xd fs)) ∧ ∃ (c : V) (cv : Value) (b : Bool), xs = [.ref a, c] ∧ (∀ u, RelV c u → u = cv) ∧ PySem.W.kitOne K (.ref C) cv = some b ∧ Q (.bl b) H
theorem call_isX {X : Cx} {a C : Addr} {d : Option Addr} (x : ExcAt X a C d) : CallR X (.builtin "isinstance") (rIsX X.K a C d) := by
  intro pins s σ H xs us Q I r ⟨c, hd, cc, cv, b, e1, hcv, hk, q⟩
  subst e1
  match us, r with
  | [_, _], .cons rx (.cons rt .nil) =>
    obtain rfl := hcv _ rt
    cases rx
    obtain ⟨oe, od, J⟩ := inst_at I x hd
    exact PySem.W.kia_one (PySem.W.kitx_exc c.cl c.ga c.gg c.sb c.ca c.sp c.tk c.mo) I.kIn J hk (fun z => nomatch z) fun tk => ⟨.bl b, H, I.kept (t' := tk) fun _ _ z => z, rfl, q⟩
section
variable {X : Cx} {A : Act} {W : WX}
def disX (ok : Str → Prop) (S : Str → Bool) (g : DE) : DE := fun env Q Ed => g env (fun d => match d with
  | .exc n _ => ok n ∧ Q (.bl (S n))
  | _ => False) Ed
theorem exc_dict {R : RC} {M : Addr → Prop} {H : Hp} {v : V} {n : Str} {fs : List (Str × D)} (r : Rep R M H v (.exc n fs)) : ∃ a C d, v = .ref a ∧ R.hx = some (a, C, d) ∧ R.mg n = some (.ref C) ∧ (∀ dd, d = some dd → ∃ fv, H dd = some (.xd fv)) := by
  cases r with
  | exc0 h1 h2 => exact ⟨_, _, _, rfl, h1, h2, fun dd z => by cases z⟩
  | excF h1 h2 h3 h4 h5 => exact ⟨_, _, _, rfl, h1, h2, fun dd z => by cases z; exact ⟨_, h3⟩⟩
theorem ge_isX {a C : Addr} {d : Option Addr} {e ce : Expr} {g : DE} {cx : V} {cv : Value} {ok : Str → Prop} {S : Str → Bool} {p pos : Pos} (hx : A.R.hx = some (a, C, d)) (x : ExcAt X a C d) (c : ∀ n, ok n → A.R.mg n = some (.ref C) → XCls X.K C) (hg : Gl X "isinstance") (hm : X.mg "isinstance" = none) (he : GE X A W e g)
    (hc : PE X ce (tC cx)) (hcv : ∀ u, RelV cx u → u = cv) (hS : ∀ n, ok n → A.R.mg n = some (.ref C) → PySem.W.kitOne X.K (.ref C) cv = some (S n))
    (hP : ∀ r t, Gl X "isinstance" → X.mg "isinstance" = none → CallR X (.builtin "isinstance") r → PA X [e, ce] t → PE X (.Call (.Name "isinstance" p) [e, ce] [] pos) (tCB r t) := by exact fun r t hg hm c h => pe_callB c hg hm (by decide +kernel) h)
    (hA : ∀ te tc, PE X e te → PE X ce tc → PA X [e, ce] (tCons te (tCons tc tNil)) := by exact fun te tc h1 h2 => pa_cons h1 (pa_cons h2 pa_nil)) :
    GE X A W (.Call (.Name "isinstance" p) [e, ce] [] pos) (disX ok S g) := by
  refine ⟨pe_imp (hP _ _ hg hm (call_isX x) (hA _ _ he.p hc)) fun σ H Q ⟨env, Qd, Ed, E, h, q, xo⟩ => toE_step E h xo fun v dd H1 s1 E1 x1 r hd => ?_⟩
  match dd, r, hd with
  | .exc n fs, r, ⟨ho, hq⟩ =>
    obtain ⟨a', C', d', rfl, e1, e2, e3⟩ := exc_dict r
    rw [hx] at e1
    cases e1
    exact ⟨c n ho e2, e3, cx, cv, S n, rfl, hcv, hS n ho e2, q _ _ H1 s1 (.bl _) hq⟩
/-- e.f -/
def dxf (ok : Str → Prop) (f : Str) (g : DE) : DE := fun env Q Ed => g env (fun d => match d with
  | .exc n fs => ok n ∧ ∃ v, fs.lookup f = some v ∧ Q v
  | _ => False) Ed
theorem RepF.look {R : RC} {M : Addr → Prop} {H : Hp} {f : Str} {d : D} : ∀ {fv : List (Str × V)} {fs : List (Str × D)}, RepF R M H fv fs → fs.lookup f = some d → ∃ v, fv.lookup f = some v ∧ Rep R M H v d
  | _, _, .nil, e => by cases e
  | _, _, .cons (f := k) (v := v) a b, e => by
    by_cases c : (f == k) = true
    · rw [List.lookup, c] at e ⊢
      cases e
      exact ⟨v, rfl, a⟩
    · have c' : (f == k) = false := by simpa using c
      rw [List.lookup, c'] at e ⊢
      exact RepF.look b e
theorem ge_xf {a C : Addr} {d : Option Addr} {e : Expr} {g : DE} {f : Str} {ok : Str → Prop} {pos : Pos} (hx : A.R.hx = some (a, C, d)) (x : ExcAt X a C d) (c : ∀ n, ok n → A.R.mg n = some (.ref C) → XCls X.K C) (he : GE X A W e g) (hno : ∀ n, ok n → A.R.mg n = some (.ref C) → PySem.W.findIn X.K (.ref C) f = some none)
    (hb : attributeBase e f X.env (eval e X.env) = eval e X.env := by rfl) : GE X A W (.Attribute e f pos) (dxf ok f g) := by
  refine ⟨⟨fun pins s σ H Q I ⟨env, Qd, Ed, E, h, q, xo⟩ => ?_⟩⟩
  have go : toE A W g σ H fun v H1 => ∃ dd fv w, v = .ref a ∧ d = some dd ∧ H1 dd = some (.xd fv) ∧ fv.lookup f = some w ∧ XCls X.K C ∧ PySem.W.findIn X.K (.ref C) f = some none ∧ Q w H1 := by
    refine toE_step E h xo fun v dd H1 s1 E1 x1 r hd => ?_
    match dd, r, hd with
    | .exc n fs, r, ⟨ho, w, hl, hq⟩ =>
      cases r with
      | exc0 h1 h2 => cases hl
      | excF h1 h2 h3 h4 h5 =>
        rw [hx] at h1
        cases h1
        obtain ⟨u, hu, ru⟩ := h5.look hl
        exact ⟨_, _, u, rfl, rfl, h3, hu, c n ho h2, hno n ho h2, q u w H1 s1 ru hq⟩
  refine attr_of hb (thn (he.p.run pins s σ H _ I go) fun u s1 hh => ?_)
  obtain ⟨v, H1, I1, rv, dd, fv, w, e1, e2, e3, e4, c, e5, hq⟩ := hh
  subst e1
  subst e2
  obtain rfl : u = Value.ref a := rv
  obtain ⟨oe, vs, m1, m2, m3⟩ := x.ex
  obtain ⟨hget, _⟩ := I1.pin (a, oe) (List.mem_append_left _ m1)
  obtain ⟨mA, hns, hr⟩ := I1.hok dd _ e3
  obtain ⟨od, ho, hl⟩ := lookIn_ns hns
  obtain ⟨y, hy, ry⟩ := RelO.some_of (v := w) (o := mA f) (by rw [← e4]; exact hr f)
  have J : PySem.W.InstAt s1.heap a oe C (some od) := ⟨hget, m2.1, by unfold PySem.W.notCls; rw [m3] <;> rfl, by rw [m2.2.1]; exact ho⟩
  exact HandSPX.exc_get I1.kIn J c.ga c.gg c.sb (PySem.W.findObj_own c.hd e5 rfl (by rw [hl, hy])) (handed_of ry) ⟨w, H1, I1.tok _, ry, hq⟩
end
end Nb
set_option maxRecDepth 100000
set_option maxHeartbeats 2000000
/-! Nb: defs that a suite calls. -/
namespace Nb
open PySem PySem.Spec PyProof.Rows L2
def spQ (K : PySem.W.Frag) (mg : Str → Option Value) (fr : Bool) (S : DSp) (p : Addr × Obj) : Sp := fun vs H Q E => ∃ (R : RC) (M : Addr → Prop) (ds : List D) (Qd : D → Prop) (C : Addr) (d : Option Addr),
  (R.K = K ∧ R.mg = mg) ∧ (R.hx = some (p.1, C, d) ∧ Zc (.ref C) d p.2 ∧ ∃ ws, p.2.data = .fields ws) ∧ HInv R H ∧ (∀ a, R.st = some a → M a) ∧ (∀ a, M a → H a ≠ none) ∧ RepL R M H vs ds ∧ S ds Qd (fun _ => False) ∧
  ∀ v d H', Stp R H H' → OutRep R M H H' fr v d → Qd d → Q v H'
structure FnQ (P : Program) (w : World) (K : PySem.W.Frag) (mg : Str → Option Value) (base : Heap) (k : Nat) (f : Addr) (fd : FuncData) (ps : List Str) (fr : Bool) (S : DSp) : Prop where
  len : ∀ ds Qd Ed, S ds Qd Ed → ds.length = ps.length
  run : ∀ (Ar : Around) (outer : List Env) (s : Shared) (H : Hp) (args : Args) (us : List Value) (vs : List V) (Q : VK) (E : XK) (p : Addr × Obj), L2H.RoomH k Ar → Ar.handled = some (.ref p.1) → L2H.PinOk outer H s p → Env0 P w K mg base Ar outer s H → BindsTo s fd args (ps.zip us) → Vals vs us →
    spQ K mg fr S p vs H Q E → codeAny (model P w) Ar (.call (.ref f) args) (CR (L2N.CX P w) outer P w H s Q E) s
structure HasQ (P : Program) (w : World) (K : PySem.W.Frag) (mg : Str → Option Value) (base : Heap) (x : Str) (k : Nat) (fr : Bool) (S : DSp) : Prop where
  ex : ∃ f fd ps, FnQ P w K mg base k f fd ps fr S ∧ mg x = some (.ref f) ∧ PySem.W.keepIn K (.ref f) = true ∧ Binds K fd ps []
section
variable {P : Program} {w : World} {K : PySem.W.Frag} {mg : Str → Option Value} {base : Heap}
/-- the context of such a def's body -/
abbrev cxQ (P : Program) (w : World) (K : PySem.W.Frag) (mg : Str → Option Value) (base : Heap) (N : List Str) (qual : Str) (scope : Scope) (f : Addr) (cd : Value) (A : Around) (outer : List Env) (s : Shared) (H : Hp) (E : XK) (p : Addr × Obj) : Cx :=
  { cxOf (L2N.CX P w) P w K mg base N qual scope f cd A outer s H E with calm := false, pn := [p] }
theorem fnq_ok {x qual : Str} {st : Stmt} {f : Addr} {fd : FuncData} {N ps : List Str} {k : Nat} {fr : Bool} {S : DSp} (F : Fun K x qual st f fd) (sc : FnScope N ps (defScope st)) (len : ∀ ds Qd Ed, S ds Qd Ed → ds.length = ps.length)
    (hb : ∀ (cdv : Value) (Ar : Around) (outer : List Env) (s : Shared) (H : Hp) (E : XK) (R : RC) (M : Addr → Prop) (ds : List D) (Qd : D → Prop) (p : Addr × Obj) (C : Addr) (d : Option Addr), L2H.RoomH k (Ar.deeper (envOfC qual (defScope st) s.heap.objs.size f cdv)) → R.K = K → R.mg = mg →
      R.hx = some (p.1, C, d) → Zc (.ref C) d p.2 → (∃ ws, p.2.data = .fields ws) → (Ar.deeper (envOfC qual (defScope st) s.heap.objs.size f cdv)).handled = some (.ref p.1) → S ds Qd (fun _ => False) →
      ∃ g, GSs (cxQ P w K mg base N qual (defScope st) f cdv Ar outer s H E p) ⟨R, H, M, fr⟩ W0 (defBody st) g ∧ g (endD fr Qd fun _ => False) (startD N ds)) :
    FnQ P w K mg base (k + 1) f fd ps fr S := by
  obtain ⟨oc, od, kV, doc, pm, an, cdv, ct, osl, rfl, lk, hcd⟩ := F.ex
  refine ⟨len, fun Ar outer s H args us vs Q E p hr hhd hpin e0 hbi r ⟨R, M, ds, Qd, C, d, ⟨hK, hm⟩, ⟨hx, hz, hw⟩, hi, hM1, hM2, rr, hS, q⟩ => ?_⟩
  have inK : K.In s.heap := e0.mod.kin.keeps fun b o e => (e0.bs b o e).1
  have nolim : s.heap.NoLimit := e0.mod.nolimit.keeps fun b o e => (e0.bs b o e).1
  have kinds : ∀ y ∈ ps.zip us, (defScope st).names.lookup y.1 = some .local ∨ ((defScope st).names.lookup y.1 = some .cell ∧ ((cellsFrom (s.heap.objs.size + 1) (defScope st).names []).lookup y.1).isSome = true) := by
    rintro ⟨n, v⟩ hy
    rcases sc.par n (List.of_mem_zip hy).1 with z | z
    · exact Or.inl z
    · exact Or.inr ⟨z, PySem.W.cellsFrom_some _ _ _ (Or.inl z)⟩
  refine codeAny_call_function hr.depth (inK _ _ lk) rfl sc.co sc.gen rfl (PySem.W.codeRec_of inK hcd) (hbi _ _ _ _ (wpAny_newFunctionEnv_cells sc.kind kinds fun env he s1 y => ?_))
  subst he
  refine ⟨nolim.keeps y.toInCall.keep, codeAny_func ?_⟩
  obtain ⟨g, G, hg⟩ := hb cdv Ar outer s H E R M ds Qd p C d (hr.deeper _) hK hm hx hz hw hhd hS
  have I : Inv (cxQ P w K mg base N qual (defScope st) f cdv Ar outer s H E p) [] (L2.start N vs) H s1 := L2H.inv_startH sc hpin e0 (rr.length.trans (len _ _ _ hS)) r y
  have ok : Act.Ok ⟨R, H, M, fr⟩ := ⟨hi, hM1, hM2⟩
  have Es : ERep ⟨R, H, M, fr⟩ H (L2.start N vs) (startD N ds) := erep_start (A := ⟨R, H, M, fr⟩) ok rr
  have want : toS ⟨R, H, M, fr⟩ W0 g { nx := fun _ H' => Q .non H', rt := Q } (L2.start N vs) H := by
    refine ⟨startD N ds, _, Es, hg, fun σ' H' env' _ E' hq => ?_, fun _ _ _ _ _ z => z.elim, fun _ _ _ _ _ z => z.elim, fun v d σ' H' env' E' ro hq => q v d H' E'.base ro hq, fun _ _ _ _ _ _ _ _ _ z => z.elim⟩
    refine q .non .non H' E'.base ?_ hq.2
    unfold OutRep
    rw [hq.1, if_neg Bool.false_ne_true]
    exact .non
  refine wpAny_mono (G.p.run [] s1 (L2.start N vs) H _ I want) (fun fl s' hs => ?_) fun _ _ z => z
  cases fl with
  | ret u => exact (let ⟨v, σ', H', J, rv, qq⟩ := hs; ⟨v, H', J.os, J.bare, J.base, J.hok, rv, qq⟩)
  | next => exact (let ⟨σ', H', J, qq⟩ := hs; ⟨V.non, H', J.os, J.bare, J.base, J.hok, rfl, qq⟩)
  | brk => exact (let ⟨_, _, _, z⟩ := hs; False.elim z)
  | cont => exact (let ⟨_, _, _, z⟩ := hs; False.elim z)
end
section
variable {X : Cx} {A : Act} {W : WX}
/-- the promise at a call in a suite -/
theorem pe_callQ {x : Str} {k : Nat} {fr : Bool} {S : DSp} {e : Expr} {es : List Expr} {t : TA} {q pos : Pos} {a C : Addr} {d : Option Addr} {oe : Obj} (h : HasQ X.prog X.w X.K X.mg X.base x k fr S) (hr : L2H.RoomH k X.A) (hhd : X.A.handled = some (.ref a)) (hp : (a, oe) ∈ X.pn) (hg : Gl X x) (ha : PA X (e :: es) t) (hdb : (x == ("__debug__" : Str)) = false)
    (he : starEach (e :: es) X.env = (false, eval e X.env) :: starEach es X.env) (hpl : (backTo pos (starEach es X.env)).any (·.1) = false) :
    PE X (.Call (.Name x q) (e :: es) [] pos) (fun σ H Q => t σ H fun vs H1 => spQ X.K X.mg fr S (a, oe) vs H1 Q (fun _ _ _ => False)) := by
  obtain ⟨f, fd, ps, F, hm, hk, hb⟩ := h.ex
  refine ⟨fun pins s σ H Q I w => ?_⟩
  refine wpAny_Call_Name_kw (ld_glob I hg hm ?_ hdb)
  refine PySem.W.callWith_K (h₀ := X.base) I.ok.mod.kin hk (thn (ha.run pos pins s σ H _ I w) fun us s1 ⟨vs, H1, I1, r, w1⟩ => ⟨I1.kIn, ?_⟩) he hpl
  have n1 : us.length = ps.length := by
    obtain ⟨R, M, ds, Qd, C', d', _, _, _, _, _, rr, hS, _⟩ := w1
    rw [← r.length, rr.length]
    exact F.len _ _ _ hS
  have b := hb s1 us I1.kIn (by rw [List.append_nil]; exact n1)
  rw [List.append_nil] at b
  obtain ⟨g1, g2, g3, g4, g5⟩ := I1.pin (a, oe) (List.mem_append_left _ hp)
  have pin : L2H.PinOk X.stack H1 s1 (a, oe) := ⟨g1, g2, fun z => (List.mem_cons.mp (I1.stkSub a z)).elim g3 g4, g5⟩
  show wpAny (model X.prog X.w) X.A (call (.ref f) ([] ++ us)) _ _ _
  refine wpAny_call (codeAny_mono (F.run X.A X.stack s1 H1 ⟨us, []⟩ us vs Q (fun _ _ _ => False) (a, oe) hr hhd pin I1.env0 b r w1) fun r2 s' hq => ?_)
  cases r2 with
  | error e =>
    obtain ⟨_, _, _, _, _, _, _, _, _, _, _, _, z⟩ := hq
    exact z.elim
  | ok fl =>
    cases fl with
    | ret u => exact I1.after hq
    | next => exact hq.elim
    | brk => exact hq.elim
    | cont => exact hq.elim
def dcallQ (S : DSp) (gs : DL) : DE := fun env Q Ed => gs env (fun ds => S ds Q fun _ => False) Ed
def dcallQF (S : DSp) (gs : DL) : DF := fun env Q Ed => gs env (fun ds => S ds (fun d => match d with
  | .lst es => Q es
  | _ => False) fun _ => False) Ed
theorem spQ_of {fr : Bool} {S : DSp} {σ : St} {H1 : Hp} {env : DEnv} {vs : List V} {ds : List D} {Q : VK} {Qd : D → Prop} {K : PySem.W.Frag} {mg : Str → Option Value} {a C : Addr} {oe : Obj} {d : Option Addr} (hK : A.R.K = K) (hm : A.R.mg = mg) (hx : A.R.hx = some (a, C, d)) (hz : Zc (.ref C) d oe) (hv : ∃ ws, oe.data = .fields ws)
    (E1 : ERep A H1 σ env) (r : RepL A.R (MM A σ env) H1 vs ds) (hS : S ds Qd fun _ => False) (q : ∀ v d H', Stp A.R H1 H' → OutRep A.R (MM A σ env) H1 H' fr v d → Qd d → Q v H') : spQ K mg fr S (a, oe) vs H1 Q fun _ _ _ => False :=
  ⟨A.R, MM A σ env, ds, Qd, C, d, ⟨hK, hm⟩, ⟨hx, hz, hv⟩, E1.inv, E1.mst, fun a z => E1.mtrk z, r, hS, q⟩
theorem ge_callQ {x : Str} {k : Nat} {S : DSp} {e : Expr} {es : List Expr} {gs : DL} {q pos : Pos} {a C : Addr} {d : Option Addr} (h : HasQ X.prog X.w X.K X.mg X.base x k false S) (hr : L2H.RoomH k X.A) (hx : A.R.hx = some (a, C, d)) (xa : ExcAt X a C d) (ha : GL X A W (e :: es) gs) (hK : A.R.K = X.K := by rfl) (hm : A.R.mg = X.mg := by rfl) (hg : Gl X x := by rfl)
    (hdb : (x == ("__debug__" : Str)) = false := by decide) (he : starEach (e :: es) X.env = (false, eval e X.env) :: starEach es X.env := by rfl) (hpl : (backTo pos (starEach es X.env)).any (·.1) = false := by rfl) : GE X A W (.Call (.Name x q) (e :: es) [] pos) (dcallQ S gs) := by
  obtain ⟨oe, vs, m1, m2, m3⟩ := xa.ex
  refine ⟨pe_imp (pe_callQ (oe := oe) (a := a) (C := C) (d := d) h hr xa.hh m1 hg ha.p hdb he hpl) fun σ H Q ⟨env, Qd, Ed, E, w, q, xo⟩ => ?_⟩
  refine ⟨env, _, Ed, E, w, fun us ds H1 s r hS => spQ_of hK hm hx m2 ⟨vs, m3⟩ (E.stp s) r hS fun v dd H' s2 r2 hq => ?_, xo⟩
  unfold OutRep at r2
  rw [if_neg Bool.false_ne_true] at r2
  exact q v dd H' (s.trans s2) r2 hq
end
end Nb
set_option maxRecDepth 100000
set_option maxHeartbeats 2000000
/-! Nb: exceptions by the names of their classes. -/
namespace Nb
open PySem PySem.Spec PyProof.Rows L2
/-- the classes of the exceptions that are raised: what is asked of their instances -/
structure Kinds (K : PySem.W.Frag) (mg : Str → Option Value) (ok : Str → Prop) : Prop where
  cls : ∀ n C, ok n → mg n = some (.ref C) → XCls K C
/-- isinstance(e, x), x an own class -/
structure IsC (K : PySem.W.Frag) (mg : Str → Option Value) (ok : Str → Prop) (x : Str) (S : Str → Bool) : Prop where
  ex : ∃ C', mg x = some (.ref C') ∧ ∀ n C, ok n → mg n = some (.ref C) → PySem.W.kitOne K (.ref C) (.ref C') = some (S n)
/-- except x -/
structure CatchC (K : PySem.W.Frag) (mg : Str → Option Value) (ok : Str → Prop) (x : Str) : Prop where
  ex : ∃ C', mg x = some (.ref C') ∧ ∀ n C, ok n → mg n = some (.ref C) → PySem.W.exmOne K (.ref C) (.ref C') = some true
section
variable {X : Cx} {A : Act} {W : WX}
theorem ge_isC {a C : Addr} {d : Option Addr} {e : Expr} {g : DE} {x : Str} {ok : Str → Prop} {S : Str → Bool} {p p2 pos : Pos} (hx : A.R.hx = some (a, C, d)) (xa : ExcAt X a C d) (k : Kinds X.K X.mg ok) (i : IsC X.K X.mg ok x S) (hm : X.mg "isinstance" = none) (he : GE X A W e g) (hR : A.R.mg = X.mg := by rfl) (hg : Gl X "isinstance" := by rfl)
    (hgx : Gl X x := by rfl) (hd : (x == ("__debug__" : Str)) = false := by decide)
    (hP : ∀ r t, Gl X "isinstance" → X.mg "isinstance" = none → CallR X (.builtin "isinstance") r → PA X [e, .Name x p2] t → PE X (.Call (.Name "isinstance" p) [e, .Name x p2] [] pos) (tCB r t) := by exact fun r t hg hm c h => pe_callB c hg hm (by decide +kernel) h)
    (hA : ∀ te tc, PE X e te → PE X (.Name x p2) tc → PA X [e, .Name x p2] (tCons te (tCons tc tNil)) := by exact fun te tc h1 h2 => pa_cons h1 (pa_cons h2 pa_nil)) :
    GE X A W (.Call (.Name "isinstance" p) [e, .Name x p2] [] pos) (disX ok S g) := by
  obtain ⟨C', h1, h2⟩ := i.ex
  refine ge_isX (cx := .ref C') (cv := .ref C') hx xa (fun n ho hn => k.cls n C ho (by rw [← hR]; exact hn)) hg hm he (pe_glob hgx h1 rfl hd) (fun u r => r) (fun n ho hn => h2 n C ho (by rw [← hR]; exact hn)) hP hA
/-- isinstance(e, ValueError) -/
theorem ge_isV {a C : Addr} {d : Option Addr} {e : Expr} {g : DE} {x : Str} {T : String} {ok : Str → Prop} {S : Str → Bool} {p p2 pos : Pos} (hx : A.R.hx = some (a, C, d)) (xa : ExcAt X a C d) (k : Kinds X.K X.mg ok) (i : ∀ n C, ok n → X.mg n = some (.ref C) → PySem.W.kitOne X.K (.ref C) (.type T) = some (S n)) (hm : X.mg "isinstance" = none) (hx2 : X.mg x = none) (he : GE X A W e g) (hv : bootBuiltins x = some (.type T)) (hR : A.R.mg = X.mg := by rfl) (hg : Gl X "isinstance" := by rfl)
    (hgx : Gl X x := by rfl) (hc : Gl X x → X.mg x = none → bootBuiltins x = some (.type T) → PE X (.Name x p2) (tC (.ty T)) := by exact fun hg hm hv => pe_bltn hg hm hv rfl)
    (hP : ∀ r t, Gl X "isinstance" → X.mg "isinstance" = none → CallR X (.builtin "isinstance") r → PA X [e, .Name x p2] t → PE X (.Call (.Name "isinstance" p) [e, .Name x p2] [] pos) (tCB r t) := by exact fun r t hg hm c h => pe_callB c hg hm (by decide +kernel) h)
    (hA : ∀ te tc, PE X e te → PE X (.Name x p2) tc → PA X [e, .Name x p2] (tCons te (tCons tc tNil)) := by exact fun te tc h1 h2 => pa_cons h1 (pa_cons h2 pa_nil)) :
    GE X A W (.Call (.Name "isinstance" p) [e, .Name x p2] [] pos) (disX ok S g) :=
  ge_isX (cx := .ty T) (cv := .type T) hx xa (fun n ho hn => k.cls n C ho (by rw [← hR]; exact hn)) hg hm he (hc hgx hx2 hv) (fun u r => r) (fun n ho hn => i n C ho (by rw [← hR]; exact hn)) hP hA
theorem ge_fld {a C : Addr} {d : Option Addr} {e : Expr} {g : DE} {f : Str} {ok : Str → Prop} {pos : Pos} (hx : A.R.hx = some (a, C, d)) (xa : ExcAt X a C d) (k : Kinds X.K X.mg ok) (hno : ∀ n C, ok n → X.mg n = some (.ref C) → PySem.W.findIn X.K (.ref C) f = some none) (he : GE X A W e g) (hR : A.R.mg = X.mg := by rfl)
    (hb : attributeBase e f X.env (eval e X.env) = eval e X.env := by rfl) : GE X A W (.Attribute e f pos) (dxf ok f g) :=
  ge_xf hx xa (fun n ho hn => k.cls n C ho (by rw [← hR]; exact hn)) he (fun n ho hn => hno n C ho (by rw [← hR]; exact hn)) hb
theorem gs_tryC {x n : Str} {i : Nat} {body suite : List Stmt} {b₀ : Stmt} {np pos pos' : Pos} {ok : Str → Prop} {s u : DS} (hc : CatchC X.K X.mg ok x) (h0 : A.R.hx = none) (tk : Takes X W) (hN : X.N.Nodup) (hi : X.N[i]? = some n)
    (hb : ∀ (W : WX) (pn : List (Addr × Obj)) (xe : Value → Shared → Prop), Takes (X.tr pn xe) W → PassesOwn (model X.prog X.w) X.A X.env xe → GSs (X.tr pn xe) A W body s)
    (hsu : ∀ (a C : Addr) (oe : Obj) (d : Option Addr) (pn : List (Addr × Obj)), Zc (.ref C) d oe → (∃ vs, oe.data = .fields vs) → GSs (X.suite a ((a, oe) :: pn)) (A.hold (some (a, C, d))) W0 (b₀ :: suite) u) (hR : A.R.mg = X.mg := by rfl) (hfr : A.fr = false := by rfl)
    (hs : X.stack = X.env :: X.outer := by rfl) (hf : X.env.frame = some X.env.locals := by rfl) (hln : X.env.kindOf n = some .local := by rfl) (hg : Gl X x := by rfl) (hd : (x == ("__debug__" : Str)) = false := by decide) :
    GS X A W (.Try body [.ExceptHandler (some (.Name x np)) (some n) (b₀ :: suite) pos'] [] [] pos) (dtry ok i s u) := by
  obtain ⟨C', h1, h2⟩ := hc.ex
  exact gs_try (c := .ref C') h0 hfr hs hf hN hi hln ⟨hg, hd, .inl h1⟩ tk (fun m C ho hm => h2 m C ho (by rw [← hR]; exact hm)) hb hsu
end
end Nb
namespace Nb
open PySem PySem.Spec PyProof.Rows L2
theorem room_unitsH {k : Nat} {A : Around} (r : L2H.RoomH k A) : A.units + 64 < cLine := by
  have := r.un
  omega
theorem roomS {k : Nat} {A : Around} {m : Option Value} (r : Room k A) : L2H.RoomH k (A.mark m) := ⟨r.dp, r.un⟩
theorem ExcAt.pin {X : Cx} {p : Addr × Obj} {C : Addr} {d : Option Addr} (hz : Zc (.ref C) d p.2) (hw : ∃ ws, p.2.data = .fields ws) (hh : X.A.handled = some (.ref p.1)) (hp : X.pn = [p] := by rfl) : ExcAt X p.1 C d :=
  let ⟨ws, e⟩ := hw
  ⟨⟨p.2, ws, by rw [hp]; exact List.mem_cons_self, hz, e⟩, hh⟩
end Nb
set_option maxRecDepth 100000
set_option maxHeartbeats 2000000
/-! Nb: the store. -/
namespace Nb
open PySem PySem.Spec PyProof.Rows L2
section
variable {A : Act} {H : Hp} {σ : St} {env : DEnv}
/-- the store's list as it stands -/
theorem ERep.sto (E : ERep A H σ env) {i : Nat} (h : env[i]? = some (.val .sto)) : ∃ a ns, A.R.st = some a ∧ σ[i]? = some (some (.ref a)) ∧ H a = some (.lst (ns.map V.int)) ∧ InvS ns := by
  obtain ⟨v, h1, h2⟩ := E.val i _ h
  cases h2 with
  | sto e =>
    obtain ⟨ns, h3, h4⟩ := E.inv _ e
    exact ⟨_, ns, e, h1, h3, h4⟩
/-- the store takes other numbers -/
theorem Stp.sto {R : RC} {a : Addr} {ns : List Int} (e : R.st = some a) (h : InvS ns) : Stp R H (upd H a (.lst (ns.map V.int))) := by
  refine ⟨fun b o q n => ?_, fun _ b q => ?_⟩
  · rw [upd_ne fun z => n (by rw [z]; exact e)]
    exact q
  · rw [e] at q
    cases q
    exact ⟨ns, upd_same, h⟩
end
theorem InvS.set {ns : List Int} {k : Nat} {z : Int} (h : InvS ns) (hz : SOK k z) : InvS (ns.set k z) := by
  refine ⟨by rw [List.length_set]; exact h.1, fun j y e => ?_⟩
  rw [get_set] at e
  split at e
  · rename_i c
    cases e
    rw [← c.1]
    exact hz
  · exact h.2 j y e
section
variable {X : Cx} {A : Act} {W : WX}
/-- store[k], k a constant -/
def dixS (i k : Nat) : DE := fun env Q _ => env[i]? = some (.val .sto) ∧ ∀ z, SOK k z → Q (.int z)
theorem ixn_nat {n k : Nat} (h : k < n) : ixN n (k : Nat) = some k := by
  unfold ixN
  rw [if_pos (by omega)]
  have h1 : (k : Int) < n := by omega
  first
  | (rw [if_pos (by omega)]; simp)
  | simp [h1]
theorem ge_ixS {i k : Nat} {c : Int} {a : Expr} {j : Nat} {p pos : Pos} (ha : PE X a (tVar i)) (hk : k < 5 := by decide) (hc : c = (k : Nat) := by rfl) : GE X A W (.Subscript a (.Constant (.int c) j p) pos) (dixS i k) := by
  refine ⟨pe_imp (pe_ix ix_seq ha pe_int (fun _ _ => rfl)) fun σ H Q ⟨env, Qd, Ed, E, ⟨h, hq⟩, q, x⟩ => ?_⟩
  subst hc
  obtain ⟨b, ns, h1, h2, h3, h4⟩ := E.sto h
  have hlt : k < ns.length := by have := h4.1.1; omega
  refine ⟨.ref b, h2, .inl ⟨b, ns.map V.int, (k : Nat), .int ns[k], rfl, rfl, SqL.of h3, ?_, q _ _ H (Stp.refl _ _) (.int _) (hq _ (h4.2 k _ (List.getElem?_eq_getElem hlt)))⟩⟩
  unfold L2.atI
  rw [List.length_map, ixn_nat hlt, Option.bind_some, List.getElem?_map, List.getElem?_eq_getElem hlt]
  rfl
/-- store[k] = e -/
def dsetS (i k : Nat) (g : DE) : DS := fun K env => env[i]? = some (.val .sto) ∧ g env (fun d => match d with
  | .int z => SOK k z ∧ K.nx env
  | _ => False) fun x => K.ex x env
theorem gs_setS {i k : Nat} {c : Int} {o e : Expr} {g : DE} {j : Nat} {p pos spos : Pos} (ho : PE X o (tVar i)) (he : GE X A W e g) (hk : k < 5 := by decide) (hc : c = (k : Nat) := by rfl)
    (hg : PE X o (tVar i) → PG X (.Subscript o (.Constant (.int c) j p) spos) (gSub (tVar i) (tC (.int c)) rSetL) := by exact fun ho => pg_sub ho pe_int set_list)
    (hs : swapsWithSole [.Subscript o (.Constant (.int c) j p) spos] e pos.line X.env = pure false := by rfl) (hw : swappedStores [.Subscript o (.Constant (.int c) j p) spos] e X.env = pure none := by rfl)
    (h1 : (assignEach [.Subscript o (.Constant (.int c) j p) spos] X.env).map (·.2) = [assign (.Subscript o (.Constant (.int c) j p) spos) X.env] := by rfl) : GS X A W (.Assign [.Subscript o (.Constant (.int c) j p) spos] e pos) (dsetS i k g) := by
  refine ⟨ps_imp (ps_asg he.p (hg ho) hs hw h1) fun De σ H ⟨env, K, E, ⟨h, hq⟩, q1, q2, q3, q4, q5⟩ => ?_⟩
  refine toE_step E hq (xout_of E q5) fun v d H1 s E1 x1 r hd => ?_
  match d, r, hd with
  | .int z, .int _, ⟨hz, hn⟩ =>
    obtain ⟨b, ns, e1, e2, e3, e4⟩ := E1.sto h
    have hlt : k < ns.length := by have := e4.1.1; omega
    refine ⟨.ref b, e2, b, ns.map V.int, c, k, rfl, rfl, e3, by rw [List.length_map, hc]; exact ixn_nat hlt, ?_⟩
    have s2 : Stp A.R H1 (upd H1 b (.lst ((ns.set k z).map V.int))) := Stp.sto e1 (e4.set hz)
    rw [List.map_set] at s2
    exact q1 σ _ env ((E.keep s).trans (E1.keep s2)) (E1.stp s2) hn
/-- new = xs + ys -/
def dAddF (x y : D) (Q : List D → Prop) : Prop := match x, y with
  | .lst i, .lst j => i.length + j.length ≤ LINE ∧ Q (i ++ j)
  | _, _ => False
def dopF (f : D → D → (List D → Prop) → Prop) (ga gb : DE) : DF := fun env Q Ed => ga env (fun x => gb env (fun y => f x y Q) Ed) Ed
end
/-! ### a new store is lent -/
abbrev RC.with (R : RC) (a : Addr) : RC := { R with st := some a }
section
variable {R : RC} {M : Addr → Prop} {H : Hp} {a : Addr}
mutual
theorem Rep.with (e : R.st = none) : ∀ {v : V} {d : D}, Rep R M H v d → Rep (R.with a) M H v d
  | _, _, .non => .non
  | _, _, .bl b => .bl b
  | _, _, .int i => .int i
  | _, _, .str x => .str x
  | _, _, .ty n => .ty n
  | _, _, .tup t l => .tup t (RepL.with e l)
  | _, _, .lst t n l => .lst t n (RepL.with e l)
  | _, _, .sto q => by rw [e] at q; cases q
  | _, _, .exc0 x y => .exc0 x y
  | _, _, .excF x y z n l => .excF x y z n (RepF.with e l)
  | _, _, .ins t n b l => .ins t n b (RepF.with e l)
  | _, _, .dct t n => .dct t n
theorem RepL.with (e : R.st = none) : ∀ {v : List V} {d : List D}, RepL R M H v d → RepL (R.with a) M H v d
  | _, _, .nil => .nil
  | _, _, .cons x y => .cons (Rep.with e x) (RepL.with e y)
theorem RepF.with (e : R.st = none) : ∀ {v : List (Str × V)} {d : List (Str × D)}, RepF R M H v d → RepF (R.with a) M H v d
  | _, _, .nil => .nil
  | _, _, .cons x y => .cons (Rep.with e x) (RepF.with e y)
end
end
end Nb
set_option maxRecDepth 100000
set_option maxHeartbeats 2000000
/-! Nb: a number is drawn from the store. -/
namespace Nb
open PySem PySem.Spec PyProof.Rows L2
/-- the store's place lies within -/
def InS (i : Nat) (σ : St) (H : Hp) : Prop := ∃ (a : Addr) (ns : List Int) (z : Int), σ[i]? = some (some (.ref a)) ∧ H a = some (.lst (ns.map V.int)) ∧ ns[0]? = some z ∧ 5 ≤ z ∧ z < (ns.length : Int)
/-- a test behind which, where it holds, more is known -/
def toBF (A : Act) (W : WX) (g : DB) (φ : St → Hp → Prop) : TT := fun σ H Q => ∃ (env : DEnv) (Qd : Bool → Prop) (Ed : Ex → Prop), ERep A H σ env ∧ g env Qd Ed ∧
  (∀ b H', Stp A.R H H' → Qd b → (b = true → φ σ H') → Q b H') ∧ XOut A W σ env H Ed
section
variable {X : Cx} {A : Act} {W : WX}
structure GWF (X : Cx) (A : Act) (W : WX) (e : Expr) (g : DB) (φ : St → Hp → Prop) : Prop where
  p : PW X e (toBF A W g φ)
theorem gwf_and {a b : Expr} {rest : List Expr} {pos} {g u : DB} {φ : St → Hp → Prop} (h : GT X A W a g) (k : GWF X A W (.BoolOp .And (b :: rest) pos) u φ) : GWF X A W (.BoolOp .And (a :: b :: rest) pos) (dand g u) φ := by
  refine ⟨pw_imp (pw_and h.p k.p) fun σ H Q ⟨env, Qd, Ed, E, h, q, x⟩ => toB_step E h x fun c H1 s E1 x1 hd => ?_⟩
  cases c with
  | true => exact ⟨env, Qd, Ed, E1, hd, fun b H2 s2 qd hf => q b H2 (s.trans s2) qd hf, x1⟩
  | false => exact q false H1 s hd fun z => Bool.noConfusion z
/-- store[0] < len(store) -/
def dinS (i : Nat) : DB := fun env Q _ => env[i]? = some (.val .sto) ∧ ∀ b, Q b
theorem gwf_in {i : Nat} {a e : Expr} {c : Int} {j : Nat} {p p1 p2 p3 pos bpos : Pos} (ha : PE X a (tVar i)) (he : PE X e (tVar i)) (hc : c = 0) (hg : Gl X "len") (hm : X.mg "len" = none) (hK : A.R.K = X.K)
    (hP : PE X e (tVar i) → Gl X "len" → X.mg "len" = none → PE X (.Call (.Name "len" p1) [e] [] p2) (tCB (fun xs H Q => ∃ p ys, xs = [.ref p] ∧ (SqL X.K H p ys ∨ SqT X.K H p ys) ∧ Q (.int ys.length) H) (tCons (tVar i) tNil)) := by exact fun h hg hm => pe_callB call_len_seq hg hm PySem.boot_len (pa_cons h pa_nil))
    (hM : behindInMarks .Lt (.Call (.Name "len" p1) [e] [] p2) = false := by first | exact nomark _ | rfl) :
    GWF X A W (.BoolOp .And [.Compare (.Subscript a (.Constant (.int c) j p) p3) [.Lt] [.Call (.Name "len" p1) [e] [] p2] pos] bpos) (dinS i) (InS i) := by
  refine ⟨pw_imp (pw_and1 (pt_cmpR op_lt (pe_ix ix_seq ha pe_int (fun _ _ => rfl)) (hP he hg hm) hM)) fun σ H Q ⟨env, Qd, Ed, E, ⟨h, hq⟩, q, x⟩ => ?_⟩
  subst hc
  obtain ⟨b, ns, h1, h2, h3, h4⟩ := E.sto h
  have hlt : 0 < ns.length := by have := h4.1.1; omega
  have h0 : ns[0]? = some ns[0] := List.getElem?_eq_getElem hlt
  have h5 : 5 ≤ ns[0] := h4.2 0 _ h0
  refine ⟨.ref b, h2, .inl ⟨b, ns.map V.int, 0, .int ns[0], rfl, rfl, SqL.of h3, ?_, ?_⟩⟩
  · unfold L2.atI
    rw [List.length_map, show (0 : Int) = ((0 : Nat) : Int) from rfl, ixn_nat hlt, Option.bind_some, List.getElem?_map, h0] <;> rfl
  · refine ⟨.ref b, h2, b, ns.map V.int, rfl, .inl (SqL.of h3), ?_⟩
    refine ⟨ns[0], _, rfl, rfl, _, rfl, ?_⟩
    refine q _ H (Stp.refl _ _) (hq _) fun e => ⟨b, ns, ns[0], h2, h3, h0, h5, ?_⟩
    have := of_decide_eq_true e
    rw [List.length_map] at this
    exact this
/-- if ..: x = int(store[store[0]]); rest -/
def difS (i j : Nat) (c : DB) (s t : DS) : DS := fun K env => env[i]? = some (.val .sto) ∧ c env (fun b => if b = true then ∀ z : Int, s K (env.set j (.val (.int z))) else t K env) fun x => K.ex x env
theorem gs_ifS {i j : Nat} {x : Str} {test a b : Expr} {rest els : List Stmt} {gc : DB} {s t : DS} {cc : Int} {kk : Nat} {p0 p1 p2 p3 p4 p5 p6 pos : Pos} (hT : GWF X A W test gc (InS i)) (ha : PE X a (tVar i)) (hb : PE X b (tVar i)) (hc : cc = 0) (hg : Gl X "int") (hm : X.mg "int" = none) (hN : X.N.Nodup) (hi : X.N[j]? = some x) (hx : Loc X.env.scope x)
    (hr : GSs X A W rest s) (ht : GSs X A W els t)
    (hP : PE X a (tVar i) → PE X b (tVar i) → Gl X "int" → X.mg "int" = none → ∃ r, CallR X (.type "int") r ∧ (∀ z H Q, Q (.int z) H → r [.int z] H Q) ∧ PE X (.Call (.Name "int" p1) [.Subscript a (.Subscript b (.Constant (.int cc) kk p4) p3) p2] [] p5) (tCB r (tCons (tOp (rIx X.K) (tVar i) (tOp (rIx X.K) (tVar i) (tC (.int cc)))) tNil)) := by
      exact fun ha hb hg hm => ⟨_, call_int1, fun z H Q h => .inl ⟨z, rfl, h⟩, pe_callTy call_int1 hg hm PyProof.Rows.boot_int (pa_cons (pe_ix ix_seq ha (pe_ix ix_seq hb pe_int (fun _ _ => rfl)) (fun _ _ => rfl)) pa_nil)⟩)
    (hs : swapsWith (.Call (.Name "int" p1) [.Subscript a (.Subscript b (.Constant (.int cc) kk p4) p3) p2] [] p5) (some (.Name x p0)) p6.line X.env = pure false := by rfl) (hf : X.fn x = true ∨ X.env.scope.names.lookup x = some .local := by first | exact .inl rfl | exact .inr rfl | assumption) :
    GS X A W (.If test (.Assign [.Name x p0] (.Call (.Name "int" p1) [.Subscript a (.Subscript b (.Constant (.int cc) kk p4) p3) p2] [] p5) p6 :: rest) els pos) (difS i j gc s t) := by
  obtain ⟨r, hr1, hr2, hE⟩ := hP ha hb hg hm
  refine ⟨ps_imp (ps_if hT.p.pt (pss_cons (ps_set hN hi hx hE hs hf) hr.p) ht.p) fun De σ H ⟨env, K, E, ⟨he, h⟩, q1, q2, q3, q4, q5⟩ => ?_⟩
  refine ⟨env, _, _, E, h, fun d H' s2 hd hφ => ?_, xout_of E q5⟩
  have E' := E.stp s2
  have kk := E.keep s2
  cases d with
  | false =>
    simp only [Bool.false_eq_true, if_false] at hd ⊢
    exact ⟨env, K, E', hd, fun σ2 H2 env2 k2 => q1 σ2 H2 env2 (kk.trans k2), fun σ2 H2 env2 k2 => q2 σ2 H2 env2 (kk.trans k2), fun σ2 H2 env2 k2 => q3 σ2 H2 env2 (kk.trans k2), q4, fun x c dd σ2 H2 env2 k2 => q5 x c dd σ2 H2 env2 (kk.trans k2)⟩
  | true =>
    simp only [if_true] at hd ⊢
    obtain ⟨a', ns, z, g1, g2, g3, g4, g5⟩ := hφ rfl
    subst hc
    have hz : ∃ n : Nat, z = (n : Nat) ∧ n < ns.length := ⟨z.toNat, by omega, by omega⟩
    obtain ⟨n, rfl, hn⟩ := hz
    have h0 : 0 < ns.length := by omega
    have r0 : L2.atI (ns.map V.int) (0 : Int) = some (.int (n : Nat)) := by
      unfold L2.atI
      rw [List.length_map, show (0 : Int) = ((0 : Nat) : Int) from rfl, ixn_nat h0, Option.bind_some, List.getElem?_map, g3] <;> rfl
    have r1 : L2.atI (ns.map V.int) ((n : Nat) : Int) = some (.int ns[n]) := by
      unfold L2.atI
      rw [List.length_map, ixn_nat hn, Option.bind_some, List.getElem?_map, List.getElem?_eq_getElem hn] <;> rfl
    refine ⟨.ref a', g1, .ref a', g1, .inl ⟨a', _, 0, _, rfl, rfl, SqL.of g2, r0, .inl ⟨a', _, (n : Nat), _, rfl, rfl, SqL.of g2, r1, hr2 _ _ _ ?_⟩⟩⟩
    have E2 := E'.set (i := j) (v := .int ns[n]) (d := .int ns[n]) (.int _)
    have k3 : Keep (MM A σ env) (MM A (σ.set j (some (.int ns[n]))) (env.set j (.val (.int ns[n])))) H H' := kk.trans E'.setKeep
    exact ⟨_, K, E2, hd _, fun σ2 H2 env2 k2 => q1 σ2 H2 env2 (k3.trans k2), fun σ2 H2 env2 k2 => q2 σ2 H2 env2 (k3.trans k2), fun σ2 H2 env2 k2 => q3 σ2 H2 env2 (k3.trans k2), q4, fun x c dd σ2 H2 env2 k2 => q5 x c dd σ2 H2 env2 (k3.trans k2)⟩
end
end Nb
set_option maxRecDepth 100000
set_option maxHeartbeats 2000000
/-! Nb: texts by their signs. -/
namespace Nb
open PySem PySem.Spec PyProof.Rows L2 TL
theorem atI_nat {α : Type} {l : List α} {k : Nat} (h : k < l.length) : L2.atI l (k : Nat) = some l[k] := by
  unfold L2.atI
  rw [ixn_nat h, Option.bind_some, List.getElem?_eq_getElem h]
theorem atI_int {α : Type} {l : List α} {i : Int} (h0 : 0 ≤ i) (h : i < (l.length : Int)) : ∃ c, L2.atI l i = some c ∧ c ∈ l ∧ l[i.toNat]? = some c := by
  have hk : i.toNat < l.length := by omega
  refine ⟨l[i.toNat], ?_, List.getElem_mem hk, List.getElem?_eq_getElem hk⟩
  have e : ((i.toNat : Nat) : Int) = i := by omega
  have := atI_nat hk
  rw [e] at this
  exact this
end Nb
namespace Nb
open PySem PySem.Spec PyProof.Rows L2 TL
theorem perm_erase {α : Type} : ∀ {l : List α} {k : Nat} (h : k < l.length), (l[k] :: l.eraseIdx k).Perm l
  | a :: l, 0, _ => List.Perm.refl _
  | a :: l, k + 1, h => (List.Perm.swap a _ _).trans ((perm_erase (l := l) (k := k) (by simpa using h)).cons a)
/-! loops, blocks: what one shows -/
theorem for_r1 {gs : DL} {s : DS} {K : KEnd} {env : DEnv} {j : Nat} {n : Int} (I : Nat → DEnv → Prop) (hg : ∀ (Q : List D → Prop) (Ed : Ex → Prop), Q [.int n] → gs env Q Ed) (h1 : -(2 ^ 62) ≤ n) (h2 : n < 2 ^ 62) (h0 : I 0 env)
    (step : ∀ (i : Nat) (env' : DEnv), i < n.toNat → I i env' → s { K with nx := I (i + 1), ct := I (i + 1), bk := K.nx } (env'.set j (.val (.int (i : Nat))))) (fin : ∀ env', I n.toNat env' → K.nx env') : dfor (diR1 gs) (dname j) s K env := by
  unfold dfor
  refine hg _ _ ⟨h1, h2, I, h0, fun i d env' e hi => ?_, fun env' hi => fin env' (by rw [rngD_len] at hi; exact hi)⟩
  rw [rngD_get] at e
  by_cases c : i < n.toNat
  · rw [if_pos c] at e
    cases e
    rw [Int.zero_add]
    exact step i env' c hi
  · rw [if_neg c] at e; cases e
theorem for_l {gi : DI} {t : DG} {s : DS} {K : KEnd} {env : DEnv} {ds : List D} (I : Nat → DEnv → Prop) (hg : ∀ (Q : List D → Prop) (Ed : Ex → Prop), Q ds → gi env Q Ed) (h0 : I 0 env)
    (step : ∀ (i : Nat) (d : D) (env' : DEnv), ds[i]? = some d → I i env' → t d env' fun env2 => s { K with nx := I (i + 1), ct := I (i + 1), bk := K.nx } env2) (fin : ∀ env', I ds.length env' → K.nx env') : dfor gi t s K env := by
  unfold dfor
  exact hg _ _ ⟨I, h0, step, fin⟩
theorem dlc_map {gi : DI} {t : DG} {ge : DE} {vs : List Nat} {env : DEnv} {Q : List D → Prop} {Ed : Ex → Prop} {ds : List D} (f : D → D) (hgi : ∀ Q' : List D → Prop, Q' ds → gi env Q' Ed) (hl : ds.length ≤ LINE)
    (he : ∀ d ∈ ds, ∀ Q' : D → Prop, Q' (f d) → t d (blkD env vs) fun env2 => ge env2 Q' fun _ => False) (hq : Q (ds.map f)) : dlc gi t dyes ge vs env Q Ed := by
  unfold dlc
  refine hgi _ ⟨fun i acc => acc = (ds.take i).map f ∧ i ≤ ds.length, ⟨rfl, Nat.zero_le _⟩, fun i d acc e ⟨ha, hi⟩ => ?_, fun acc ⟨ha, _⟩ => ?_⟩
  · have hm : d ∈ ds := List.mem_of_getElem? e
    have hlt : i < ds.length := (List.getElem?_eq_some_iff.mp e).1
    simp only [dyes, if_true]
    refine he d hm _ ⟨?_, ?_, hlt⟩
    · rw [ha, List.length_map, List.length_take]
      omega
    · rw [ha, List.take_add_one, e, List.map_append]
      rfl
  · rw [ha, List.take_length]
    exact hq
end Nb
set_option maxRecDepth 100000
set_option maxHeartbeats 2000000
/-! Nb: lists of texts compared; what is sorted. -/
namespace Nb
open PySem PySem.Spec PyProof.Rows L2 TL
theorem pys_strs : ∀ l : List Str, D.pys (l.map D.str) = some (l.map PyData.str)
  | [] => rfl
  | x :: l => by
    rw [List.map_cons, D.pys, pys_strs l]
    rfl
theorem eqvAll_strs : ∀ a b : List Str, PyData.eqvAll (a.map .str) (b.map .str) = decide (a = b)
  | [], [] => rfl
  | [], _ :: _ => rfl
  | _ :: _, [] => rfl
  | x :: a, y :: b => by
    rw [List.map_cons, List.map_cons, PyData.eqvAll, eqvAll_strs a b, PyData.eqv]
    by_cases h1 : x = y
    · by_cases h2 : a = b
      · simp [h1, h2]
      · simp [h1, h2]
    · simp [h1]
theorem eqv_strs (a b : List Str) : D.eqv (.lst (a.map D.str)) (.lst (b.map D.str)) = decide (a = b) := by
  unfold D.eqv
  rw [D.py, D.py, pys_strs, pys_strs]
  show PyData.eqv (.list _) (.list _) = _
  rw [PyData.eqv]
  exact eqvAll_strs a b
end Nb
namespace Nb
open PySem PySem.Spec PyProof.Rows L2 TL
end Nb
set_option maxRecDepth 100000
set_option maxHeartbeats 2000000
/-! Nb: the law: its script is read once, then all is drawn from the store. -/
namespace Nb
open PySem PySem.Spec PyProof.Rows L2
/-- the script's numbers are laid out, a new list -/
def spStore (K : PySem.W.Frag) : Sp := fun vs H Q _ => ∃ (a : Addr) (ns : List Int), vs = [.ref a] ∧ SqL K H a (ns.map V.int) ∧ ns.length ≤ 63 ∧ ∀ (H' : Hp) (p : Addr) (ms : List Int), H' p = some (.lst (ms.map V.int)) → InvS ms → Q (.ref p) H'
/-- the law: called with the script, it answers True -/
def spLaw (K : PySem.W.Frag) : Sp := fun vs H Q _ => ∃ (a : Addr) (ns : List Int), vs = [.ref a] ∧ SqL K H a (ns.map V.int) ∧ ns.length ≤ 63 ∧ ∀ H', Q (.bl true) H'
theorem SqL.up {K : PySem.W.Frag} {H : Hp} {a p : Addr} {xs : List V} {o : HO} (h : SqL K H a xs) (hp : H p = none) : SqL K (upd H p o) a xs := by
  rcases h with h | h
  · rcases h with h | ⟨u, h⟩
    · exact .inl (.inl (by rw [upd_ne (ne_of_none h hp)]; exact h))
    · exact .inl (.inr ⟨u, by rw [upd_ne (ne_of_none h hp)]; exact h⟩)
  · exact .inr h
section
variable {X : Cx}
/-- the rest of a law, whatever activation it is told for -/
theorem rest_act {W : WX} {g : DS} {K : PySem.W.Frag} {mg : Str → Option Value} {body : List Stmt} (h : ∀ B : Act, B.R.K = K → B.R.mg = mg → B.R.hx = none → B.fr = false → GSs X B W body g) :
    PSs X body (fun De σ H => ∃ B : Act, (B.R.K = K ∧ B.R.mg = mg ∧ B.R.hx = none ∧ B.fr = false) ∧ toS B W g De σ H) :=
  ⟨fun pins s σ H De I ⟨B, ⟨h1, h2, h3, h4⟩, w⟩ => (h B h1 h2 h3 h4).p.run pins s σ H De I w⟩
end
/-- behind the law's first statement -/
theorem toS_store {W : WX} {g : DS} {De : Ends} {σ : St} {H1 : Hp} {K : PySem.W.Frag} {mg : Str → Option Value} {p : Addr} {ms : List Int} {N : Nat} (h1 : H1 p = some (.lst (ms.map V.int))) (hI : InvS ms) (hl : σ.length = N + 2) (hp : σ[1]? = some (some (.ref p)))
    (hg : g { nx := fun _ => False, rt := fun d _ => d = .bl true, ex := fun _ _ => False } (.un :: .val .sto :: List.replicate N .un)) (q : ∀ H', De.rt (.bl true) H') :
    ∃ B : Act, (B.R.K = K ∧ B.R.mg = mg ∧ B.R.hx = none ∧ B.fr = false) ∧ toS B W g De σ H1 := by
  have env_at : ∀ {i : Nat} {x : SD}, ((SD.un :: .val .sto :: List.replicate N .un : DEnv))[i]? = some x → x = .un ∨ (i = 1 ∧ x = .val .sto) := fun {i x} h => by
    match i, h with
    | 0, h => cases h; exact .inl rfl
    | 1, h => cases h; exact .inr ⟨rfl, rfl⟩
    | i + 2, h =>
      have h' : (List.replicate N SD.un)[i]? = some x := h
      rw [List.getElem?_replicate] at h'
      split at h'
      · cases h'; exact .inl rfl
      · cases h'
  have no : ∀ {i : Nat} {es : List D}, ((SD.un :: .val .sto :: List.replicate N .un : DEnv))[i]? = some (.own es) → False := fun {i es} h => by
    rcases env_at h with z | ⟨_, z⟩ <;> cases z
  refine ⟨⟨⟨K, mg, some p, none⟩, H1, fun b => b = p, false⟩, ⟨rfl, rfl, rfl, rfl⟩, _, _, ⟨⟨fun a e => ?_, fun a e => ?_, fun a e => ?_⟩, ?_, fun i d h => ?_, fun i es h => (no h).elim, fun i j es fs a h => (no h).elim, Stp.refl _ _⟩, hg, fun _ _ _ _ _ z => z.elim, fun _ _ _ _ _ z => z.elim, fun _ _ _ _ _ z => z.elim, fun v d σ' H' env' E' rr hq => ?_, fun _ _ _ _ _ _ _ _ _ z => z.elim⟩
  · cases e
    exact ⟨ms, h1, hI⟩
  · cases e
    rfl
  · obtain rfl : a = p := e
    show H1 a ≠ none
    rw [h1]
    intro z
    cases z
  · rw [hl, List.length_cons, List.length_cons, List.length_replicate]
  · rcases env_at h with z | ⟨rfl, z⟩
    · cases z
    · cases z
      exact ⟨_, hp, .sto rfl⟩
  · unfold RetRep at rr
    rw [if_neg Bool.false_ne_true] at rr
    obtain rfl : d = .bl true := hq
    cases rr
    exact q H'
/-- nothing leaves a law -/
theorem cx_no {P : Program} {w : World} {H : Hp} {s : Shared} {e : Value} {s' : Shared} (h : L2N.CX P w [] H s (fun _ _ _ => False) e s') : False := by
  obtain ⟨_, _, _, _, _, _, _, _, _, _, _, _, z⟩ := h
  exact z
end Nb
set_option maxRecDepth 100000
set_option maxHeartbeats 2000000
/-! Nb: own exceptions whose __init__ stores any number of fields; raise without fields; what is never reached; gcd; sum. -/
namespace Nb
open PySem PySem.Spec PyProof.Rows L2 PySem.W PySem.Calls
inductive Asgs : List Stmt → List (Str × Str) → Prop
  | nil : Asgs [] []
  | cons {f a : Str} {q1 q2 q3 q4 : Pos} {ss : List Stmt} {ps : List (Str × Str)} (ha : (a == ("__debug__" : Str)) = false) (hs : ∀ env : Env, swapsWith (.Name a q3) (some (.Attribute (.Name "self" q1) f q2)) q4.line env = pure false) (t : Asgs ss ps) : Asgs (.Assign [.Attribute (.Name "self" q1) f q2] (.Name a q3) q4 :: ss) ((f, a) :: ps)
/-- the fields one after the other -/
def putAll (mL : Str → Option Value) : List (Str × Str) → (Str → Option Value) → Str → Option Value
  | [], m => m
  | (f, a) :: ps, m => putAll mL ps fun y => if y = f then mL a else m y
abbrev excD (C dx t1 : Addr) : Obj := { cls := .ref C, dict := some dx, data := .fields #[.ref t1, .none, .none, .none, .bool false, .none] }
section
variable {prog : Program} {w : World} {A : Around} {E : Value → Shared → Prop} {K : PySem.W.Frag} {C fI : Addr}
theorem asgs_old {x dx t1 L : Addr} {qual : Str} {scope : Scope} {cda cc : Addr} {mL : Str → Option Value} {cd : ClassData} {g : Array GenState} {dr : Drawn} {os : OsState} {Q : Flow → Shared → Prop}
    (hk : scope.kind = .function) (ls : scope.names.lookup ("self" : Str) = some .local) (hself : mL "self" = some (.ref x)) (hcl : clsIn K C = some cd) (hbm : PySem.HandSPX.refsVE cd.mro = true) (hh : cd.hasDict = true) (sa : findIn K (.ref C) "__setattr__" = some (some (.builtin "object.__setattr__"))) (hxK : K.lookup dx = none) (hLd : L ≠ dx) (hxd : x ≠ dx) :
    ∀ {ss : List Stmt} {ps : List (Str × Str)}, Asgs ss ps → (∀ p ∈ ps, scope.names.lookup p.2 = some .local ∧ (mL p.2).isSome = true ∧ findIn K (.ref C) p.1 = some none) → ∀ {h : Heap} {tk : Nat} {m0 : Str → Option Value} {nl : List Str}, K.In h → h.get? x = some (excD C dx t1) → h.Ns1 dx m0 → Within m0 nl → nl.length + ps.length ≤ 1000 → h.Ns L mL →
      (∀ h' tk', (∀ b o, b ≠ dx → h.get? b = some o → h'.get? b = some o) → h'.Ns1 dx (putAll mL ps m0) → Q .next ⟨h', g, dr, tk', os⟩) →
      wpAny (model prog w) A (execs ss (ksEnv qual scope L fI (.ref cda) cc)) Q E ⟨h, g, dr, tk, os⟩ := by
  intro ss ps as
  induction as with
  | nil => intro _ h tk m0 nl _ _ hn _ _ _ hq; exact wpAny_execs_nil (hq h tk (fun _ _ _ e => e) hn)
  | @cons f a q1 q2 q3 q4 ss ps ha hs t ih =>
    intro hp h tk m0 nl X hx hn hw hz hns hq
    obtain ⟨la, va, no⟩ := hp _ List.mem_cons_self
    obtain ⟨v, hv⟩ := Option.isSome_iff_exists.mp va
    refine wpAny_execs_cons (plainObj_wpAny_Assign_Attribute ?_ (hs _))
    refine wpAny_Name ?_ ha
    refine wpAny_loadName_local (env := ksEnv qual scope L fI (.ref cda) cc) (m := mL) hk la hns hv ?_
    refine wpAny_Name ?_ (by decide)
    refine wpAny_loadName_local (env := ksEnv qual scope L fI (.ref cda) cc) (m := mL) hk ls hns hself ?_
    obtain ⟨oD, esD, epD, hoD, hdD, _⟩ := hn.count hw
    refine set_plain X (ox := excD C dx t1) (od := some oD) ⟨hx, rfl, rfl, hoD⟩ sa ?_
    refine PySem.OEX.osa_old X hx hn hw (by simp only [List.length_cons] at hz; omega) hcl hbm hh no (fun h3 tk3 k3 hn3 => ?_)
    show wpAny _ _ (execs _ _) _ _ _
    have X3 : K.In h3 := kept_but X hxK k3
    refine ih (fun p hp' => hp p (List.mem_cons_of_mem _ hp')) (nl := f :: nl) X3 (k3 _ _ hxd hx) hn3 (Within.cons f v hw) (by simp only [List.length_cons] at hz ⊢; omega) (hns.at fun o e => k3 L o hLd e) fun h' tk' k' hn' => ?_
    refine hq h' tk' (fun b o hb e => k' b o hb (k3 b o hb e)) ?_
    show h'.Ns1 dx (putAll mL ps fun y => if y = f then mL a else m0 y)
    rw [hv]
    exact hn'
end
/-- the text of an __init__ with the fields ps (field, parameter) -/
structure InitN (st : Stmt) (f0 a0 : Str) (ps : List (Str × Str)) : Prop where
  ex : ∃ (msg : Str) (j : Nat) (p0 p1 p2 p3 p4 p5 q1 q2 q3 q4 : Pos) (ss : List Stmt) (a1 : Pos) (ars : List Arg), defBody st = .Expr (.Call (.Attribute (.Call (.Name "super" p0) [] [] p1) "__init__" p2) [.Constant (.str msg) j p3] [] p4) p5 :: .Assign [.Attribute (.Name "self" q1) f0 q2] (.Name a0 q3) q4 :: ss ∧ Asgs ss ps ∧
    ((defArgs st).posonlyargs ++ (defArgs st).args).head? = some { arg := "self", annotation := none, pos := a1 } ∧ (a0 == ("__debug__" : Str)) = false ∧
    (∀ a ∈ a0 :: ps.map (·.2), (defScope st).names.lookup a = some .local) ∧ (defScope st).names.lookup ("self" : Str) = some .local ∧ (defScope st).names.lookup ("super" : Str) = some .globalImplicit ∧ (defScope st).names.lookup ("__class__" : Str) = some .free ∧ (defScope st).kind = .function ∧
    (defScope st).isCoroutine = false ∧ (defScope st).isGenerator = false ∧ (∀ y ∈ (defScope st).names, y.2 ≠ .cell) ∧
    (∀ (qual : Str) (doc pm cdv ct : Value) (an : Option Addr) (cc : Addr) (x : Value) (vs : List Value), vs.length = ps.length + 1 → bindArgs (ksFn "__init__" qual (defArgs st) (defBody st) (defScope st) .none .none doc pm an cdv ct cc) ⟨x :: vs, []⟩ = pure ((("self" : Str), x) :: (a0 :: ps.map (·.2)).zip vs : List (Str × Value))) ∧
    (∀ env : Env, swapsWith (.Name a0 q3) (some (.Attribute (.Name "self" q1) f0 q2)) q4.line env = pure false) ∧
    (∀ (env : Env), ∃ pl : Sem Bool, eval (.Call (.Attribute (.Call (.Name "super" p0) [] [] p1) "__init__" p2) [.Constant (.str msg) j p3] [] p4) env = (do
      let ov ← attributeBase (.Call (.Name "super" p0) [] [] p1) "__init__" env (eval (.Call (.Name "super" p0) [] [] p1) env)
      standAt p2.atName
      let (f, first) ← holding [ov] (getMethod ov "__init__" pl)
      callWith p4 f first (backTo p4 (starEach [.Constant (.str msg) j p3] env)) []))
  nd : (("self" : Str) :: a0 :: ps.map (·.2)).Nodup
  few : ps.length ≤ 100
theorem lookup_rev {α : Type} : ∀ (l : List (Str × α)), (l.map (·.1)).Nodup → ∀ p ∈ l, l.reverse.lookup p.1 = some p.2 := by
  intro l
  induction l with
  | nil => intro _ p hp; cases hp
  | cons q l ih =>
    intro hn p hp
    rw [List.reverse_cons, List.lookup_append]
    rcases List.mem_cons.mp hp with e | e
    · have hq : l.reverse.lookup p.1 = none := by
        rw [List.lookup_eq_none_iff]
        intro r hr
        have hr' : r ∈ l := by simpa using hr
        have : p.1 ≠ r.1 := fun z => (List.nodup_cons.mp hn).1 (by rw [← e]; exact List.mem_map.mpr ⟨r, hr', z.symm⟩)
        simpa using this
      rw [hq, e]
      show (([q] : List (Str × α)).lookup q.1) = some q.2
      simp [List.lookup]
    · rw [ih (List.nodup_cons.mp hn).2 p e]
      rfl
section
variable {prog : Program} {w : World} {A : Around} {E : Value → Shared → Prop} {s : Shared} {K : PySem.W.Frag} {mg : Str → Option Value} {C fI : Addr}
/-- what __init__ leaves of a fresh exception at x -/
structure InitEndN (h h' : Heap) (x C dx t1 : Addr) (m : Str → Option Value) : Prop where
  keep : ∀ b o, b ≠ x → h.get? b = some o → h'.get? b = some o
  obj : h'.get? x = some (excD C dx t1)
  dbig : h.objs.size ≤ dx
  dne : dx ≠ x
  ns : h'.Ns1 dx m
abbrev binds (x : Value) (a0 : Str) (ps : List (Str × Str)) (vs : List Value) : List (Str × Value) := (("self" : Str), x) :: (a0 :: ps.map (·.2)).zip vs
theorem binds_keys {x : Value} {a0 : Str} {ps : List (Str × Str)} {vs : List Value} (h : vs.length = ps.length + 1) : (binds x a0 ps vs).map (·.1) = ("self" : Str) :: a0 :: ps.map (·.2) := by
  show ("self" : Str) :: ((a0 :: ps.map (·.2)).zip vs).map Prod.fst = _
  rw [List.map_fst_zip]
  simp [h]
theorem initN {R : Result → Shared → Prop} {cn f0 a0 : Str} {ps : List (Str × Str)} {st : Stmt} (T : SupTxt prog K mg cn C fI (f0 :: ps.map (·.1)) st) (TI : InitN st f0 a0 ps) {x t0 : Addr} {vs : List Value} (hl : vs.length = ps.length + 1) (X : K.In s.heap) (N : NsAt mg s.heap) (hlim : s.heap.NoLimit) (hx : s.heap.get? x = some (PySem.HandSPX.excO C t0)) (hnx : K.lookup x = none) (hroom : A.depth < recursionLimit)
    (hq : ∀ h' tk dx t1, InitEndN s.heap h' x C dx t1 (putAll (fun y => (binds (.ref x) a0 ps vs).reverse.lookup y) ((f0, a0) :: ps) fun _ => none) → R (.ok (.ret .none)) { s with heap := h', toks := tk }) :
    codeAny (model prog w) A (.call (.ref fI) ⟨.ref x :: vs, []⟩) R s := by
  obtain ⟨cc, cda, oc, od, doc, pm, an, ct, osl, qual, ccl, cl, cdd, cld, ccs, csl, vsc, file, tf, ho, hcd, hcell, hcode, hvs, hfile⟩ := T.fn
  obtain ⟨msg, j, p0, p1, p2, p3, p4, p5, q1, q2, q3, q4, ss, a1, ars, hB, hAs, hA, ha2, la, ls, lsu, lcl, hk, hco, hgen, hnc, hbd, hsw, hev⟩ := TI.ex
  obtain ⟨nm, q, N', bs, bm, sn, sub, ab, col, dd, k0, k1, k2, k3, k5, hC, hbm⟩ := T.cls
  have hcl : clsIn K C = some { name := nm, bases := bs, mro := .ref C :: bm, ns := N', qualname := q, hasDict := true, slotNames := sn, subclasses := sub, abstract := ab, collection := col, hasDel := false } := by unfold clsIn; rw [hC] <;> rfl
  have hkeys : ((binds (.ref x) a0 ps vs).map (·.1)).Nodup := by rw [binds_keys hl]; exact TI.nd
  have hlk : ∀ p ∈ binds (.ref x) a0 ps vs, (binds (.ref x) a0 ps vs).reverse.lookup p.1 = some p.2 := lookup_rev _ hkeys
  have hn2 : (binds (.ref x) a0 ps vs).reverse.lookup ("self" : Str) = some (.ref x) := hlk _ List.mem_cons_self
  have hany : ∀ a ∈ a0 :: ps.map (·.2), ((binds (.ref x) a0 ps vs).reverse.lookup a).isSome = true := by
    intro a ha
    have : a ∈ (binds (.ref x) a0 ps vs).map (·.1) := by rw [binds_keys hl]; exact List.mem_cons_of_mem _ ha
    obtain ⟨p, hp, e⟩ := List.mem_map.mp this
    rw [← e, hlk p hp]
    rfl
  refine ks_codeAny_call_defAt (fd := ksFn "__init__" qual (defArgs st) (defBody st) (defScope st) .none .none doc pm an (.ref cda) ct cc) (body := defBody st) (binds := binds (.ref x) a0 ps vs) hroom (X _ _ ho) rfl hlim (codeRec_of X hcd) rfl (BindsTo.of_eq ?_) hnc (fun y hy => ?_) (fun h₁ hns hk₁ => ?_) hco hgen hk
  · exact hbd _ _ _ _ _ _ _ _ _ hl
  · rcases List.mem_cons.mp hy with e | e
    · rw [e]; exact ls
    · exact la _ (List.of_mem_zip e).1
  · obtain ⟨v, hv⟩ := Option.isSome_iff_exists.mp (hany a0 List.mem_cons_self)
    have hxL : s.heap.objs.size ≠ x := Nat.ne_of_gt (Heap.lt_size hx)
    have X1 : K.In h₁ := X.keeps hk₁
    have hx1 := hk₁ _ _ hx
    have N1 : NsAt mg h₁ := ⟨N.g.keeps hk₁, let ⟨mb, b1, b2⟩ := N.b; ⟨mb, b1.keeps hk₁, b2⟩⟩
    obtain ⟨pl, hpl⟩ := hev (ksEnv qual (defScope st) s.heap.objs.size fI (.ref cda) cc)
    have go : _root_.PySem.wpAt (model prog w) (A.deeper (ksEnv qual (defScope st) s.heap.objs.size fI (.ref cda) cc)) (.func (defBody st) (ksEnv qual (defScope st) s.heap.objs.size fI (.ref cda) cc))
        (execs (.Expr (.Call (.Attribute (.Call (.Name "super" p0) [] [] p1) "__init__" p2) [.Constant (.str msg) j p3] [] p4) p5 :: .Assign [.Attribute (.Name "self" q1) f0 q2] (.Name a0 q3) q4 :: ss) (ksEnv qual (defScope st) s.heap.objs.size fI (.ref cda) cc)) (fun f s' => R (.ok (.ret (match f with | .ret v => v | _ => .none))) s')
        (fun e s' => wpAny (model prog w) (A.deeper (ksEnv qual (defScope st) s.heap.objs.size fI (.ref cda) cc)) (leaving (ksEnv qual (defScope st) s.heap.objs.size fI (.ref cda) cc) e) (fun _ s'' => R (.error e) s'') (fun e' s'' => R (.error e') s'') s')
        { s with heap := h₁, toks := s.toks + (binds (.ref x) a0 ps vs).length } := by
      refine ks_wpAt_execs_cons (sup_init (s := { s with heap := h₁, toks := s.toks + (binds (.ref x) a0 ps vs).length }) (ar := { arg := "self", annotation := none, pos := a1 }) T X1 N1 hx1 hns ho hA hn2 hcode hvs hfile hcell lsu lcl ls hk hpl fun h2 tk2 t2 k2 hx2 hz2 => ?_)
      have hns2 : h2.Ns s.heap.objs.size (fun y => (binds (.ref x) a0 ps vs).reverse.lookup y) := hns.at fun o e => k2 _ o hxL e
      have X2 : K.In h2 := kept_but X1 hnx k2
      refine wpAt_of_wpAny ?_
      show wpAny _ _ (execs _ _) _ _ _
      refine wpAny_execs_cons (plainObj_wpAny_Assign_Attribute ?_ (hsw _))
      refine wpAny_Name ?_ ha2
      refine wpAny_loadName_local (env := ksEnv qual (defScope st) s.heap.objs.size fI (.ref cda) cc) (m := fun y => (binds (.ref x) a0 ps vs).reverse.lookup y) hk (la _ List.mem_cons_self) hns2 hv ?_
      refine wpAny_Name ?_ (by decide)
      refine wpAny_loadName_local (env := ksEnv qual (defScope st) s.heap.objs.size fI (.ref cda) cc) (m := fun y => (binds (.ref x) a0 ps vs).reverse.lookup y) hk ls hns2 hn2 ?_
      refine set_plain X2 (ox := PySem.HandSPX.excO C t2) (od := none) ⟨hx2, rfl, rfl, trivial⟩ T.sa ?_
      refine PySem.HandSPX.exc_osa X2 hx2 hcl (show PySem.HandSPX.refsVE (.ref C :: bm) = true from hbm) rfl (T.noN f0 List.mem_cons_self) (fun h3 tk3 dx k3 dn dne hx3 hn3 => ?_)
      have z1 : s.heap.objs.size < h₁.objs.size := hns.lt
      have z2 : h₁.objs.size ≤ h2.objs.size := hz2
      have z3 : h2.objs.size ≤ dx := dn
      have X3 : K.In h3 := kept_but X2 hnx k3
      have hdK : K.lookup dx = none := by
        cases e : K.lookup dx with
        | none => rfl
        | some o =>
          exact absurd (Nat.lt_of_lt_of_le (Heap.lt_size (X _ _ e)) (Nat.le_of_lt (Nat.lt_of_lt_of_le z1 (Nat.le_trans z2 z3)))) (Nat.lt_irrefl _)
      show wpAny _ _ (execs ss _) _ _ _
      refine asgs_old (nl := [f0]) hk ls hn2 hcl (show PySem.HandSPX.refsVE (.ref C :: bm) = true from hbm) rfl T.sa hdK (Nat.ne_of_lt (Nat.lt_of_lt_of_le z1 (Nat.le_trans z2 z3))) (Ne.symm dne) hAs (fun p hp => ⟨la _ (List.mem_cons_of_mem _ (List.mem_map.mpr ⟨p, hp, rfl⟩)), hany _ (List.mem_cons_of_mem _ (List.mem_map.mpr ⟨p, hp, rfl⟩)), T.noN _ (List.mem_cons_of_mem _ (List.mem_map.mpr ⟨p, hp, rfl⟩))⟩) X3 hx3 hn3 ?_ (by have := TI.few; simp only [List.length_cons, List.length_nil]; omega) (hns2.at fun o e => k3 _ o hxL e) fun h4 tk4 k4 hn4 => ?_
      · intro y hy
        by_cases c : y = f0
        · simp [c]
        · simp [c] at hy
      · refine hq h4 tk4 dx t2 ⟨fun b o hb e => ?_, k4 _ _ (Ne.symm dne) hx3, Nat.le_of_lt (Nat.lt_of_lt_of_le z1 (Nat.le_trans z2 z3)), dne, ?_⟩
        · have lb := Heap.lt_size e
          exact k4 b o (Nat.ne_of_lt (Nat.lt_of_lt_of_le lb (Nat.le_of_lt (Nat.lt_of_lt_of_le z1 (Nat.le_trans z2 z3))))) (k3 b o hb (k2 b o hb (hk₁ b o e)))
        · show h4.Ns1 dx (putAll _ ps fun y => if y = f0 then (binds (.ref x) a0 ps vs).reverse.lookup a0 else none)
          rw [hv]
          exact hn4
    rw [← hB] at go
    exact go
end
section
variable {prog : Program} {w : World} {A : Around} {E : Value → Shared → Prop} {s : Shared} {K : PySem.W.Frag} {mg : Str → Option Value} {C fI : Addr}
structure MadeN (h h' : Heap) (e C d : Addr) (m : Str → Option Value) : Prop where
  keep : ∀ b o, h.get? b = some o → h'.get? b = some o
  new : h.objs.size ≤ e
  obj : ∃ oe vs, h'.get? e = some oe ∧ oe.cls = .ref C ∧ oe.dict = some d ∧ oe.data = .fields vs ∧ vs[1]? = some .none ∧ vs[2]? = some .none
  dbig : h.objs.size ≤ d
  dne : d ≠ e
  ns : h'.Ns1 d m
/-- the fields by their values -/
def putVals : List (Str × Value) → (Str → Option Value) → Str → Option Value
  | [], m => m
  | (f, v) :: ps, m => putVals ps fun y => if y = f then some v else m y
theorem putAll_vals {mL : Str → Option Value} : ∀ (ps : List (Str × Str)) (vs : List Value) (m : Str → Option Value), vs.length = ps.length → (∀ p ∈ (ps.map (·.2)).zip vs, mL p.1 = some p.2) → putAll mL ps m = putVals ((ps.map (·.1)).zip vs) m
  | [], [], _, _, _ => rfl
  | (f, a) :: ps, v :: vs, m, hl, h => by
    have hv : mL a = some v := h (a, v) List.mem_cons_self
    show putAll mL ps (fun y => if y = f then mL a else m y) = putVals ((ps.map (·.1)).zip vs) fun y => if y = f then some v else m y
    rw [hv]
    exact putAll_vals ps vs _ (by simpa using hl) fun p hp => h p (List.mem_cons_of_mem _ hp)
theorem madeN {R : Result → Shared → Prop} {cn f0 a0 : Str} {ps : List (Str × Str)} {st : Stmt} (T : SupTxt prog K mg cn C fI (f0 :: ps.map (·.1)) st) (TI : InitN st f0 a0 ps) {vs : List Value} (hl : vs.length = ps.length + 1) (X : K.In s.heap) (N : NsAt mg s.heap) (hlim : s.heap.NoLimit) (hroom : A.depth + 1 < recursionLimit)
    (hq : ∀ h' tk e d, MadeN s.heap h' e C d (putVals ((f0 :: ps.map (·.1)).zip vs) fun _ => none) → R (.ok (.ret (.ref e))) { s with heap := h', toks := tk }) :
    codeAny (model prog w) A (.call (.ref C) ⟨vs, []⟩) R s := by
  obtain ⟨nm, q, N', bs, bm, sn, sub, ab, col, dd, k0, k1, k2, k3, k5, hC, hbm⟩ := T.cls
  obtain ⟨hp, g, dr, tk, os⟩ := s
  have k : ∀ b o, hp.get? b = some o → ((hp.push (kdv_tup vs)).push (PySem.HandSPX.excO C hp.objs.size)).get? b = some o := fun b o e => Heap.get?_push_of_some _ (Heap.get?_push_of_some _ e)
  have hget : ((hp.push (kdv_tup vs)).push (PySem.HandSPX.excO C hp.objs.size)).get? (hp.objs.size + 1) = some (PySem.HandSPX.excO C hp.objs.size) := by heap_get
  have hnx : K.lookup (hp.objs.size + 1) = none := by
    cases e : K.lookup (hp.objs.size + 1) with
    | none => rfl
    | some o =>
      have z : hp.get? (hp.objs.size + 1) = some o := X _ _ e
      exact absurd (Nat.lt_of_succ_lt (Heap.lt_size z)) (Nat.lt_irrefl _)
  refine PySem.HandSPX.call_own PySem.F.excBase_ValueError (fun X => PySem.HandSPX.refsVE_contains X bm hbm) (X _ _ hC) (looks_findIn X T.iC) (fun self => bind_fn X self T.tC) (by have := TI.few; show vs.length ≤ sizeLine; rw [sizeLine_eq]; omega) ?_
  refine initN (s := ⟨(hp.push (kdv_tup vs)).push (PySem.HandSPX.excO C hp.objs.size), g, dr, tk, os⟩) T TI hl (X.keeps k) ⟨N.g.keeps k, let ⟨mb, b1, b2⟩ := N.b; ⟨mb, b1.keeps k, b2⟩⟩ (hlim.keeps k) hget hnx ?_ fun h' tk' dx t1 ⟨k', hx, dn, dne, hns⟩ => ?_
  · show A.depth + 1 < recursionLimit
    exact hroom
  · have old : ∀ b o, hp.get? b = some o → h'.get? b = some o := fun b o e => k' b o (Nat.ne_of_lt (Nat.lt_succ_of_lt (Heap.lt_size e))) (k b o e)
    have z : hp.objs.size + 1 + 1 ≤ dx := by
      first
        | (simpa only [Heap.size_push] using dn)
        | exact dn
        | (have q := dn; rw [Heap.size_push, Heap.size_push] at q; exact q)
    have hkeys : ((binds (.ref (hp.objs.size + 1)) a0 ps vs).map (·.1)).Nodup := by rw [binds_keys hl]; exact TI.nd
    have hlk := lookup_rev _ hkeys
    have em : putAll (fun y => (binds (.ref (hp.objs.size + 1)) a0 ps vs).reverse.lookup y) ((f0, a0) :: ps) (fun _ => none) = putVals ((f0 :: ps.map (·.1)).zip vs) fun _ => none := by
      refine putAll_vals ((f0, a0) :: ps) vs _ (by simpa using hl) fun p hp => hlk p (List.mem_cons_of_mem _ hp)
    rw [em] at hns
    exact ⟨rfl, hq h' tk' (hp.objs.size + 1) dx ⟨old, Nat.le_succ _, ⟨_, _, hx, rfl, rfl, rfl, rfl, rfl⟩, Nat.le_trans (Nat.le_trans (Nat.le_succ _) (Nat.le_succ _)) z, dne, hns⟩⟩
end
theorem relO_vals : ∀ {fs : List Str} {vs : List V} {us : List Value} {m : Str → Option Value} {acc : List (Str × V)}, Vals vs us → (∀ g, RelO (acc.lookup g) (m g)) → ∀ g, RelO (((fs.zip vs).reverse ++ acc).lookup g) (putVals (fs.zip us) m g)
  | [], _, _, m, acc, _, h, g => by simpa [putVals] using h g
  | f :: fs, [], _, m, acc, r, h, g => by cases r; simpa [putVals] using h g
  | f :: fs, v :: vs, u :: us, m, acc, r, h, g => by
    cases r with
    | cons rv rr =>
      have := relO_vals (fs := fs) (m := fun y => if y = f then some u else m y) (acc := (f, v) :: acc) rr (fun g => relO_put rv h g) g
      show RelO ((((f, v) :: fs.zip vs).reverse ++ acc).lookup g) _
      rw [List.reverse_cons, List.append_assoc]
      exact this
section
variable {X : Cx} {A : Act} {C fI : Addr}
def tMkN (C : Addr) (fs : List Str) (ta : TA) : St → Hp → XK → Prop := fun σ H Q => ta σ H fun vs H1 => vs.length = fs.length ∧ ∀ d, H1 d = none → Q (.ref C) (some d) (upd H1 d (.xd (fs.zip vs).reverse))
theorem pmk_N {x f0 a0 : Str} {ps : List (Str × Str)} {a : Expr} {es : List Expr} {ta : TA} {st : Stmt} {p pos : Pos} {k : Nat} (T : SupTxt X.prog X.K X.mg x C fI (f0 :: ps.map (·.1)) st) (TI : InitN st f0 a0 ps) (hr : Room k X.A) (ha : PA X (a :: es) ta) (hg : Gl X x) (hdb : (x == ("__debug__" : Str)) = false := by decide)
    (he : starEach (a :: es) X.env = (false, eval a X.env) :: starEach es X.env := by rfl) (hpl : (backTo pos (starEach es X.env)).any (·.1) = false := by rfl) :
    L2N.PMk X (.Call (.Name x p) (a :: es) [] pos) (tMkN C (f0 :: ps.map (·.1)) ta) := by
  intro pins s σ H Q I h
  refine wpAny_Call_Name_kw (ld_glob I hg T.gC ?_ hdb)
  refine PySem.W.callWith_K (h₀ := X.base) I.ok.mod.kin T.kC (thn (ha.run pos pins s σ H _ I h) fun us s1 hh => ?_) he hpl
  obtain ⟨vs, H1, I1, r1, hl, q1⟩ := hh
  refine ⟨I1.kIn, ?_⟩
  show wpAny _ _ (call (.ref C) us) _ _ _
  have hlu : us.length = ps.length + 1 := by rw [← r1.length, hl]; simp
  have hlim := I1.nolimit
  have hN := nsAt_of I1
  obtain ⟨hp, g, dr, tk, os⟩ := s1
  refine wpAny_call (madeN T TI hlu I1.kIn hN hlim (by have := hr.dp; omega) fun h' tk' e d M => ?_)
  show L2N.MkP X pins σ Q (.ref e) ⟨h', g, dr, tk', os⟩
  obtain ⟨oe, fv, hoe, hc, hd, hdat, h1, hcx⟩ := M.obj
  have hns := M.ns
  obtain ⟨G', g1, g2⟩ := restrict h' fun b => decide (b ≠ e)
  have gk : ∀ b, b ≠ e → G'.get? b = h'.get? b := fun b hb => g1 b (decide_eq_true hb)
  have ge : G'.get? e = none := g2 e (by simp)
  have old : ∀ b o, hp.get? b = some o → G'.get? b = some o := fun b o q => (gk b (Nat.ne_of_lt (Nat.lt_of_lt_of_le (Heap.lt_size q) M.new))).trans (M.keep b o q)
  have ob : ObjOk X.prog X.w (upd H1 d (.xd ((f0 :: ps.map (·.1)).zip vs).reverse)) G' d (.xd ((f0 :: ps.map (·.1)).zip vs).reverse) :=
    ⟨_, hns.at (fun o q => (gk d M.dne).trans q), fun g => by
      have := relO_vals (fs := f0 :: ps.map (·.1)) (m := fun _ => none) (acc := []) r1 (fun g => trivial) g
      rw [List.append_nil] at this
      exact this⟩
  have J : Inv X pins σ (upd H1 d (.xd ((f0 :: ps.map (·.1)).zip vs).reverse)) ⟨G', g, dr, tk', os⟩ := I1.laid (t' := tk') old M.dbig ob
  refine ⟨e, oe, fv, ⟨G', g, dr, tk', os⟩, _, .ref C, some d, rfl, J, fun b o q => ?_, ge, hoe, ⟨hc, hd, ctx_of hdat hcx⟩, hdat, h1, ?_, rfl, I1.bare, raises_own T.exC T.tyC, q1 d (I1.hok.fresh M.dbig)⟩
  · by_cases hb : b = e
    · have q' : G'.get? b = some o := q
      rw [hb, ge] at q'; cases q'
    · exact (gk b hb).symm.trans q
  · rw [upd_ne (Ne.symm M.dne)]
    exact I1.hok.fresh M.new
/-- raise C(e, ..): data -/
def draiseN (x : Str) (fs : List Str) (gs : DL) : DS := fun K env => gs env (fun ds => ds.length = fs.length ∧ K.ex (x, (fs.zip ds).reverse) env) fun e => K.ex e env
theorem RepF.zip {R : RC} {M : Addr → Prop} {H : Hp} : ∀ {fs : List Str} {vs : List V} {ds : List D}, RepL R M H vs ds → RepF R M H (fs.zip vs) (fs.zip ds)
  | [], _, _, _ => .nil
  | _ :: _, _, _, .nil => .nil
  | _ :: _, _, _, .cons a b => .cons a (RepF.zip b)
theorem RepF.append {R : RC} {M : Addr → Prop} {H : Hp} : ∀ {v v' : List (Str × V)} {d d' : List (Str × D)}, RepF R M H v d → RepF R M H v' d' → RepF R M H (v ++ v') (d ++ d')
  | _, _, _, _, .nil, q => q
  | _, _, _, _, .cons a b, q => .cons a (RepF.append b q)
theorem RepF.reverse {R : RC} {M : Addr → Prop} {H : Hp} : ∀ {v : List (Str × V)} {d : List (Str × D)}, RepF R M H v d → RepF R M H v.reverse d.reverse
  | _, _, .nil => .nil
  | _, _, .cons a b => by
    rw [List.reverse_cons, List.reverse_cons]
    exact (RepF.reverse b).append (.cons a .nil)
/-- raise x(..), any number of fields -/
structure RaiN (P : Program) (K : PySem.W.Frag) (mg : Str → Option Value) (x f0 a0 : Str) (ps : List (Str × Str)) (st : Stmt) : Prop where
  ex : ∃ C fI, SupTxt P K mg x C fI (f0 :: ps.map (·.1)) st
  tx : InitN st f0 a0 ps
theorem gs_raiN {W : WX} {x f0 a0 : Str} {ps : List (Str × Str)} {a : Expr} {es : List Expr} {gs : DL} {st : Stmt} {p pos pos2 : Pos} {k : Nat} (T : RaiN X.prog X.K X.mg x f0 a0 ps st) (hr : Room k X.A) (tk : Takes X W) (ha : GL X A W (a :: es) gs) (hc : X.calm = true := by rfl) (hm : A.R.mg = X.mg := by rfl) (hg : Gl X x := by rfl) (hdb : (x == ("__debug__" : Str)) = false := by decide)
    (he : starEach (a :: es) X.env = (false, eval a X.env) :: starEach es X.env := by rfl) (hpl : (backTo pos (starEach es X.env)).any (·.1) = false := by rfl) :
    GS X A W (.Raise (some (.Call (.Name x p) (a :: es) [] pos)) none pos2) (draiseN x (f0 :: ps.map (·.1)) gs) := by
  obtain ⟨C, fI, S⟩ := T.ex
  refine ⟨ps_imp (L2N.ps_raise hc tk (pmk_N S T.tx hr ha.p hg hdb he hpl)) fun De σ H ⟨env, K, E, h, q1, q2, q3, q4, q5⟩ => ?_⟩
  refine toL_step E h (xout_of E q5) fun vs ds H1 s1 E1 x1 r ⟨hl, h1⟩ => ?_
  refine ⟨r.length.trans hl, fun a hd => ?_⟩
  have s2 : Stp A.R H1 (upd H1 a (.xd ((f0 :: ps.map (·.1)).zip vs).reverse)) := Stp.new hd
  have kk := (E.keep s1).trans (E1.keep s2)
  exact q5 (x, _) _ _ σ _ env kk (E1.stp s2) ⟨C, rfl, by rw [hm]; exact S.gC, .inr ⟨a, _, rfl, upd_same, E1.fresh hd, (RepF.zip (RepL.keep (E1.keep s2) r)).reverse⟩⟩ h1
/-- raise x('..'), no __init__ of its own -/
structure Rai0 (K : PySem.W.Frag) (mg : Str → Option Value) (x : Str) : Prop where
  ex : ∃ C bm, mg x = some (.ref C) ∧ PySem.W.excIn K C bm "ValueError.__new__" = true ∧ PySem.W.keepIn K (.ref C) = true ∧ PySem.W.subIn K (.ref C) (.type "BaseException") = some true ∧ PySem.W.typeIn K (.ref C) = some (.type "type") ∧ PySem.ExcBaseFacts "ValueError" "ValueError.__new__" "ValueError.__init__" bm
def draise0 (x : Str) : DS := fun K env => K.ex (x, []) env
theorem gs_rai0 {W : WX} {x m : Str} {j : Nat} {p p2 pos pos2 : Pos} (T : Rai0 X.K X.mg x) (tk : Takes X W) (hc : X.calm = true := by rfl) (hm : A.R.mg = X.mg := by rfl) (hg : Gl X x := by rfl) (hdb : (x == ("__debug__" : Str)) = false := by decide) :
    GS X A W (.Raise (some (.Call (.Name x p) [.Constant (.str m) j p2] [] pos)) none pos2) (draise0 x) := by
  obtain ⟨C, bm, gC, q, kC, h1, h2, F⟩ := T.ex
  refine ⟨ps_imp (L2N.ps_raise hc tk (L2N.pmk_own F q gC kC (raises_own h1 h2) hg hdb)) fun De σ H ⟨env, K, E, h, q1, q2, q3, q4, q5⟩ => ?_⟩
  exact q5 (x, []) _ _ σ H env (Keep.refl _ _) E ⟨C, rfl, by rw [hm]; exact gC, .inl ⟨rfl, rfl⟩⟩ h
/-- what is never reached -/
def ddead : DS := fun _ _ => False
theorem gs_dead {W : WX} {st : Stmt} : GS X A W st ddead := ⟨⟨fun _ _ _ _ _ _ ⟨_, _, _, h, _⟩ => h.elim⟩⟩
/-- gcd -/
theorem ge_gcd {W : WX} {x : Str} {e : Expr} {es : List Expr} {gs : DL} {p pos : Pos} (hm : X.mg x = some (.builtin "math.gcd")) (ha : GL X A W (e :: es) gs) (hg : Gl X x := by rfl)
    (hP : ∀ r t, X.mg x = some (.builtin "math.gcd") → CallR X (.builtin "math.gcd") r → PA X (e :: es) t → PE X (.Call (.Name x p) (e :: es) [] pos) (tCB r t) := by exact fun r t hm c h => pe_callBfun c (by rfl) hm h) : GE X A W (.Call (.Name x p) (e :: es) [] pos) (dcb fGcd gs) := by
  obtain ⟨r, cr, cd⟩ := (b_gcd (X := X) (A := A)).ex
  exact ge_cb (fun t h => hP r t hm cr h) cd ha
def fSum (ds : List D) (Q : D → Prop) : Prop := match ds with
  | [.lst xs] => ∃ ns : List Int, xs = ns.map D.int ∧ Q (.int ns.sum)
  | _ => False
end
end Nb
set_option maxRecDepth 100000
set_option maxHeartbeats 2000000
/-! Nb: try whose suite falls through. -/
namespace Nb
open PySem PySem.Spec PyProof.Rows L2
def SD.noexc : SD → Bool
  | .un => true
  | .val d => d.noexc
  | .own ds => D.noexcL ds
theorem ERep.unhold {A : Act} {H : Hp} {σ : St} {env : DEnv} {h : Option (Addr × Addr × Option Addr)} (E : ERep (A.hold h) H σ env) (e : A.R.hx = none) (n : ∀ (j : Nat) (x : SD), env[j]? = some x → x.noexc = true) : ERep A H σ env := by
  have e1 : (A.R.hold h).hold none = A.R := by
    show ({ A.R with hx := none } : RC) = A.R
    rw [← e]
  refine ⟨⟨E.ok.inv, E.ok.st, E.ok.m⟩, E.len, fun i d q => ?_, fun i ds q => ?_, E.one, E.base.unhold⟩
  · obtain ⟨v, h1, h2⟩ := E.val i d q
    have z := h2.hold (h := none) (n i _ q)
    exact ⟨v, h1, e1 ▸ z⟩
  · obtain ⟨a, vs, h1, h2, h3, h4, h5⟩ := E.own i ds q
    have z := h3.hold (h := none) (n i _ q)
    exact ⟨a, vs, h1, h2, e1 ▸ z, h4, h5⟩
end Nb
set_option maxRecDepth 100000
set_option maxHeartbeats 2000000
/-! Nb: blocks that make lists, whose element may raise. -/
namespace Nb
open PySem PySem.Spec PyProof.Rows L2
theorem Inv.setxe {X : Cx} {pins : List (Addr × Obj)} {σ : St} {H : Hp} {s : Shared} {xe : Value → Shared → Prop} (I : L2.Inv X pins σ H s) : L2.Inv { X with xe := xe } pins σ H s := by
  obtain ⟨⟨a1, a2, a3, a4, a5, a6, a7, a8, a9, b1, b2, b3, b4, b5, b6, b7, b8, b9⟩, c1, c2, c3, c4, c5, c6, c7, c8, c9, d1⟩ := I
  exact ⟨⟨a1, a2, a3, a4, a5, a6, a7, a8, a9, b1, b2, b3, b4, b5, b6, b7, b8, b9⟩, c1, c2, c3, c4, c5, c6, c7, c8, c9, d1⟩
theorem Inv.unxe {X : Cx} {pins : List (Addr × Obj)} {σ : St} {H : Hp} {s : Shared} {xe : Value → Shared → Prop} (I : L2.Inv { X with xe := xe } pins σ H s) : L2.Inv X pins σ H s := by
  obtain ⟨⟨a1, a2, a3, a4, a5, a6, a7, a8, a9, b1, b2, b3, b4, b5, b6, b7, b8, b9⟩, c1, c2, c3, c4, c5, c6, c7, c8, c9, d1⟩ := I
  exact ⟨⟨a1, a2, a3, a4, a5, a6, a7, a8, a9, b1, b2, b3, b4, b5, b6, b7, b8, b9⟩, c1, c2, c3, c4, c5, c6, c7, c8, c9, d1⟩
/-- what calls may let out is taken -/
def TakesC (X : Cx) (W : WX) : Prop := ∀ σ, PassesAt (L2N.CX X.prog X.w) X σ (WE W σ)
theorem Has.callC {X : Cx} {W : WX} {x : Str} {k : Nat} {fr : Bool} {S : DSp} (h : Has X.prog X.w X.K X.mg X.base x k fr S) (hr : Room k X.A) (tk : TakesC X W) (hg : Gl X x := by rfl) (hd : (x == ("__debug__" : Str)) = false := by decide) : CallOk X W x fr S := by
  obtain ⟨f, fd, ps, F, a, b, c⟩ := h.ex
  exact ⟨k, f, fd, ps, F, hr, hg, a, b, c, tk, hd⟩
/-- the ground without one object -/
theorem less_frames {B B2 h h' : Heap} (e : ∀ b, B.get? b = none → B2.get? b = none) (k : ∀ b o, B.get? b = none → h.get? b = some o → h'.get? b = some o) : ∀ {l : List Env}, h.FunFrames B l → h'.FunFrames B2 l
  | [], _ => trivial
  | env :: l, ⟨a, ⟨L, o, f1, f2, f3, f4⟩, r⟩ => ⟨a, ⟨L, o, f1, e L f2, k L o f2 f3, f4⟩, less_frames e k r⟩
theorem held_less {B h h' : Heap} {l : List Env} {a C L : Addr} {Z : Obj → Prop} {oC : Obj} (x : HandSPX.HeldZ B l a Z L h) (hC : B.get? C = some oC) (k : ∀ b, b ≠ C → h'.get? b = h.get? b) : HandSPX.HeldZ (PySem.W.hideAll B [C]) l a Z L h' := by
  have none2 : ∀ b, B.get? b = none → (PySem.W.hideAll B [C]).get? b = none := fun b e => by
    cases q : (PySem.W.hideAll B [C]).get? b with
    | none => rfl
    | some o => rw [PySem.W.of_hideAll _ q] at e; cases e
  have ne : ∀ b, B.get? b = none → b ≠ C := fun b e z => by rw [z, hC] at e; cases e
  obtain ⟨st, na, fr, oe, vs, T, oT, ts, t1, t2, t3, t4, t5, t6, t7, t8, t9⟩ := x
  refine ⟨fun b o e => ?_, none2 a na, less_frames none2 (fun b o e q => (k b (ne b e)).trans q) fr, oe, vs, T, oT, ts, (k a (ne a na)).trans t1, t2, t3, t4, none2 T t5, t6, (k T (ne T t5)).trans t7, t8, t9⟩
  have bC : b ≠ C := fun z => by
    have : (PySem.W.hideAll B [C]).get? C = none := PySem.W.hideAll_none [C] List.mem_cons_self
    rw [z, this] at e
    cases e
  exact (k b bC).trans (st b o (PySem.W.of_hideAll _ e))
theorem note_frame {e : Value} {c d : Env} (h : c.frame = d.frame) : noteFrame e c = noteFrame e d := by
  unfold noteFrame PySem.frameOf
  rw [h]
/-- what a call in a block lets out -/
def XB (Y : Cx) (W : XK) (u : Value) (s' : Shared) : Prop := ∃ (pins : List (Addr × Obj)) (σ : St) (H : Hp) (s : Shared), L2.Inv Y pins σ H s ∧ L2N.CX Y.prog Y.w Y.stack H s W u s'
section
variable {X : Cx} {pins : List (Addr × Obj)} {σ : St} {H3 : Hp} {s3 : Shared} {W : WX}
theorem comp_fails {scope : Scope} {ce : Env} {fp : List Addr} {e : Value} {s' : Shared} (I3 : L2.Inv X pins σ H3 s3) (hs : X.stack = X.env :: X.outer) (hf : X.env.frame = some X.env.locals) (tk : Takes X W) (hce : ce.frame = X.env.frame) (hcl : ce.locals = s3.heap.objs.size)
    (f3 : ∀ b ∈ fp, FpOk X pins H3 b) (x : XB (X.blk s3 H3 scope ce fp) (fun cls d H => W cls d σ H) e s') :
    notedBy (model X.prog X.w) X.A ce (CompFails (model X.prog X.w) X.A X.xe ce) e s' := by
  obtain ⟨pb, σb, Hb, sb, Ib, a, B, H', cls, d, rfl, fl, hokB, ub, na, os, ag, w⟩ := x
  have fl : HandSPX.FlyingZ B X.stack a (Zc cls d) s'.heap := fl
  have ub : UB (frs X.stack) Hb H' sb.heap B s'.heap := ub
  have hfr : X.A.frames = some (X.env :: X.outer) := by rw [I3.ok.frames, hs]
  have nC : s3.heap.objs.size ∉ frs X.stack := fun z => by
    obtain ⟨_, o, q, _⟩ := I3.stack.mem z
    exact Nat.lt_irrefl _ (Heap.lt_size q)
  have freeC : Hb ce.locals = none := Ib.free
  obtain ⟨m, hn, _⟩ := Ib.loc
  have hn : sb.heap.Ns ce.locals m := hn
  rw [hcl] at hn freeC
  have hnB : B.Ns s3.heap.objs.size m := hn.at fun o q => ub.keep _ o q freeC nC
  obtain ⟨oC, hoC⟩ : ∃ oC, B.get? s3.heap.objs.size = some oC := by
    obtain ⟨o, _, _, ho, _⟩ := hnB
    exact ⟨o, ho⟩
  -- the state without the exception
  obtain ⟨G, g1, g2⟩ := restrict s'.heap fun b => (B.get? b).isSome || decide (b ∈ frs X.stack)
  have gs : ∀ b o, G.get? b = some o → s'.heap.get? b = some o ∧ ((B.get? b).isSome = true ∨ b ∈ frs X.stack) := fun b o q => by
    cases z : ((B.get? b).isSome || decide (b ∈ frs X.stack)) with
    | false => rw [g2 b z] at q; cases q
    | true =>
      rw [g1 b z] at q
      exact ⟨q, by simpa [Bool.or_eq_true] using z⟩
  have gB : ∀ b o, B.get? b = some o → G.get? b = some o := fun b o q => (g1 b (by simp [q])).trans (fl.1 b o q)
  have gF : ∀ b ∈ frs X.stack, G.get? b = s'.heap.get? b := fun b hb => g1 b (by simp [hb])
  have Jb : L2.Inv (X.blk s3 H3 scope ce fp) pb σb H' { sb with heap := G, gens := s'.gens, drawn := s'.drawn, toks := s'.toks } := by
    refine Ib.call (ch := []) ⟨fun b o q n hb _ => gB b o (ub.keep b o q n hb), fun b o q n hb _ => ?_, fun b o q n _ => ub.free b o q n, fun b o q _ => ?_, ub.tups, ub.frzs, ub.tbls⟩ (hokB.kept gB) ag fun _ z => nomatch z
    · obtain ⟨sl, z⟩ := ub.slot b o q hb
      exact ⟨sl, (gF b hb).trans z⟩
    · by_cases hb : b ∈ frs X.stack
      · obtain ⟨sl, z⟩ := ub.slot b o q hb
        exact ⟨_, (gF b hb).trans z⟩
      · obtain ⟨o', z⟩ := ub.there b o q hb
        exact ⟨o', gB b o' z⟩
  have J : L2.Inv X pins σ H' { sb with heap := G, gens := s'.gens, drawn := s'.drawn, toks := s'.toks } := I3.call' (ch := fp) Jb.os Jb.base Jb.hok Jb.bare fun b hb => ⟨(f3 b hb).2.2.2.1, (f3 b hb).2.1, (f3 b hb).2.2.2.2.1, (f3 b hb).2.2.2.2.2⟩
  have nC' : H' s3.heap.objs.size = none := by
    have z : H' ce.locals = none := Jb.free
    rw [hcl] at z
    exact z
  obtain ⟨p0, p1, p2, p3, p4, p5⟩ := I3.fpOk (H' := H') (Nat.le_refl _) nC'
  have J2 : L2.Inv X pins σ H' { sb with heap := PySem.W.hideAll G [s3.heap.objs.size], gens := s'.gens, drawn := s'.drawn, toks := s'.toks } := J.turned (t' := s'.toks) (fun b o hb q => PySem.W.hideAll_get _ q (by simpa using hb)) p0 p1 p3 p4 p5
  -- noted
  show wpAny _ _ (noteFrame (.ref a) ce) _ _ _
  rw [note_frame hce]
  rw [hs] at fl
  refine PXN.looks_onZ Zc.steady hfr hf fl fun h1 held up1 => ?_
  refine ⟨m, by rw [hcl]; exact hnB.at fun o q => held.1 _ o q, fun h' m' hn' sb' => ?_⟩
  have kC : ∀ b, b ≠ s3.heap.objs.size → h'.get? b = h1.get? b := fun b hb => sb'.2 b (by rw [hcl]; exact hb)
  have held2 := held_less held hoC kC
  have held2' := held2
  obtain ⟨_, _, _, oe, vs, T, oT, ts, t1, t2, t3, t4, _⟩ := held2'
  unfold PySem.passOn
  refine wpAny_bind (wpAny_field t1 t3 t4 ?_)
  rw [if_neg (show ¬ ((Value.ref T == Value.none) = true) from by simp)]
  refine wpAny_bind ?_
  rw [hce, hf]
  refine HandSPX.setFlight_onZ held2 fun h2 held3 up2 => wpAny_throw (tk _ _ ?_)
  refine ⟨a, PySem.W.hideAll B [s3.heap.objs.size], _, pins, σ, H', cls, d, rfl, J2, fun b o q hb => ?_, fun b o q nf => ?_, .inr (.inr (by rw [hs]; exact held3)), na, os, ag, w⟩
  · have q' := PySem.W.of_hideAll _ q
    have bC : b ≠ s3.heap.objs.size := fun z => by
      have : (PySem.W.hideAll G [s3.heap.objs.size]).get? s3.heap.objs.size = none := PySem.W.hideAll_none [s3.heap.objs.size] List.mem_cons_self
      rw [z, this] at q
      cases q
    obtain ⟨e1, e2⟩ := gs b o q'
    rcases e2 with e2 | e2
    · obtain ⟨o', z⟩ := Option.isSome_iff_exists.mp e2
      have := fl.1 b o' z
      rw [e1] at this
      cases this
      exact PySem.W.hideAll_get _ z (by simpa using bC)
    · exact absurd e2 hb
  · have q' := PySem.W.of_hideAll _ q
    have bC : b ≠ s3.heap.objs.size := fun z => by
      have : (PySem.W.hideAll G [s3.heap.objs.size]).get? s3.heap.objs.size = none := PySem.W.hideAll_none [s3.heap.objs.size] List.mem_cons_self
      rw [z, this] at q
      cases q
    obtain ⟨sl, z1⟩ := up1 b o (gs b o q').1 nf
    obtain ⟨sl2, z2⟩ := up2 b _ ((kC b bC).trans z1) nf
    exact ⟨sl2, z2⟩
end
/-- as the library's reading of such a block; te is told what is wished of an exception -/
def tLcX (W : WX) (wi : TI) (g : TG) (tt : TT) (te : WX → TE) (vs : List Nat) : TE := fun σ H Q => wi σ H fun J H1 => ∀ D, H1 D = none → ∃ V : Nat → Nat → Hp → Prop, (∃ m, V 0 m (upd H1 D (.lst []))) ∧ ∀ i m H, V i m H →
  (J.stop i H ∧ Q (.ref D) H) ∨ (J.go i H ∧ ∃ Nx : Hp → Prop, (∀ H', Nx H' → ∃ m', m' < m ∧ V (i + 1) m' H') ∧ ∀ x H', J.yld i H x H' → g x (L2.wipe σ vs) H' fun σ2 H2 => L2.wipe σ2 vs = L2.wipe σ vs ∧ tt σ2 H2 fun b H3 =>
    if b = true then te (fun cls d _ H => W cls d σ H) σ2 H3 fun y H4 => ∃ acc, H4 D = some (.lst acc) ∧ acc.length < sizeLine ∧ Nx (upd H4 D (.lst (acc ++ [y]))) else Nx H3)
/-- the block's context, with what its calls may let out -/
abbrev blkX (X : Cx) (s : Shared) (H : Hp) (scope : Scope) (ce : Env) (fp : List Addr) (xe : Value → Shared → Prop) : Cx := { X.blk s H scope ce fp with xe := xe }
section
variable {X : Cx} {W : WX} {elt tg iter : Expr} {ifs : List Expr} {scope : Scope} {own : List (Str × Nat)} {pos : Pos} {wi : TI} {g : TG} {tt : TT} {te : WX → TE}
theorem pe_lcX (hc : X.calm = true) (hN : X.N.Nodup) (hst : X.stack = X.env :: X.outer) (hfr : X.env.frame = some X.env.locals) (tk : Takes X W) (hi : PI X tg iter wi) (ok : BlkOk X.N X.env.scope scope own)
    (hg : ∀ (s : Shared) (H : Hp) (C : Addr) (cl : List (Str × Addr)) (fp : List Addr), PG (X.blk s H scope (compEnvC scope cl C X.env) fp) tg g)
    (ht : ∀ (s : Shared) (H : Hp) (C : Addr) (cl : List (Str × Addr)) (fp : List Addr), PTs (X.blk s H scope (compEnvC scope cl C X.env) fp) ifs tt)
    (he : ∀ (s : Shared) (H : Hp) (C : Addr) (cl : List (Str × Addr)) (fp : List Addr) (xe : Value → Shared → Prop) (Wb : WX), TakesC (blkX X s H scope (compEnvC scope cl C X.env) fp xe) Wb → PE (blkX X s H scope (compEnvC scope cl C X.env) fp xe) elt (te Wb))
    (hs : ∀ x, foldedSetIterable iter X.env x = pure x := by intro _; rfl) : PE X (.ListComp elt [⟨tg, iter, ifs, 0⟩] scope pos) (tLcX W wi g tt te (own.map (·.2))) := by
  refine ⟨fun pins s σ H Q I h => ?_⟩
  rw [eval_ListComp]
  have hclo : closureFor scope X.env = pure (cloFrom X.env.cells scope.names []) := closure_ok fun y hy e => (ok.free y hy e).elim (fun k => I.ok.has _ (.inl k)) fun k => I.ok.has _ (.inr k)
  refine comprehension_at (use := none) rfl hs hclo ok.kind (fun y hy e => by rw [ok.uniq y hy, e]) (thn (hi.run pins s σ H _ I h) fun xv s1 hx => thn hx fun itv s2 h2 => ?_)
  obtain ⟨it, fp, tn, J, H2, rfl, I2, T, st2, f2, q⟩ := h2
  refine wpAny_newObj_type (newEnv_comp ?_) (by show 0 ≤ sizeLine; decide)
  obtain ⟨D, hD⟩ : ∃ D, D = s2.heap.objs.size := ⟨_, rfl⟩
  have hDn : H2 D = none := I2.hok.fresh (Nat.le_of_eq hD.symm)
  obtain ⟨V, ⟨m0, w0⟩, turn⟩ := q D hDn
  obtain ⟨s3, hs3⟩ : ∃ s3 : Shared, s3 = { s2 with heap := s2.heap.push { cls := .type "list", data := .seq ([] : List Value).toArray } } := ⟨_, rfl⟩
  have kept3 : ∀ b o, s2.heap.get? b = some o → s3.heap.get? b = some o := fun b o e => by rw [hs3]; exact Heap.get?_push_of_some _ e
  have size3 : s3.heap.objs.size = s2.heap.objs.size + 1 := by rw [hs3]; exact Heap.size_push ..
  have I3 : L2.Inv X pins σ (upd H2 D (.lst [])) s3 := by
    rw [hs3]
    refine I2.laid (t' := s2.toks) (fun b o e => Heap.get?_push_of_some _ e) (Nat.le_of_eq hD.symm) ⟨Nat.zero_le _, [], 0, .nil, ?_⟩
    rw [hD]
    exact Heap.get?_push_size _ rfl
  have lowfp : ∀ b ∈ fp, b < s2.heap.objs.size := fun b hb => (let ⟨_, e, _⟩ := T.obj _ _ st2 b hb; Heap.lt_size e)
  have f3 : ∀ b ∈ fp, FpOk X pins (upd H2 D (.lst [])) b ∧ b < s3.heap.objs.size := fun b hb =>
    ⟨⟨by rw [upd_ne (by rw [hD]; exact Nat.ne_of_lt (lowfp b hb))]; exact (f2 b hb).1, (f2 b hb).2⟩, by rw [size3]; exact Nat.lt_succ_of_lt (lowfp b hb)⟩
  have st3 : tn 0 s3.heap := T.keep _ _ _ st2 fun b _ o e => kept3 b o e
  have I4 := block_start I3 ok hN f3
  obtain ⟨cl, hcl⟩ : ∃ cl, cl = cellsFrom (s3.heap.objs.size + 1) scope.names (cloFrom X.env.cells scope.names []) := ⟨_, rfl⟩
  obtain ⟨ce, hce⟩ : ∃ ce, ce = compEnvC scope cl s3.heap.objs.size X.env := ⟨_, rfl⟩
  have cL : ce.locals = s3.heap.objs.size := by rw [hce]; rfl
  have cF : ce.frame = X.env.frame := by rw [hce]; rfl
  rw [← hcl, ← hce] at I4
  have pg := hg s3 (upd H2 D (.lst [])) s3.heap.objs.size cl fp
  have pt := ht s3 (upd H2 D (.lst [])) s3.heap.objs.size cl fp
  have pe := he s3 (upd H2 D (.lst [])) s3.heap.objs.size cl fp (XB (X.blk s3 (upd H2 D (.lst [])) scope ce fp) fun cls d H => W cls d σ H) (fun cls d _ H => W cls d σ H)
  rw [← hce] at pg pt pe
  have pe := pe fun σ' pins' H' s' e s'' I' c => ⟨pins', σ', H', s', Inv.unxe I', c⟩
  have nfp : ∀ b ∈ fp, (upd H2 D (.lst [])) b = none := fun b hb => (f3 b hb).1.1
  obtain ⟨H3, hH3⟩ : ∃ H3, H3 = upd H2 D (.lst []) := ⟨_, rfl⟩
  rw [← hH3] at I3 I4 pg pt pe w0 nfp f3
  have fail : ∀ (e : Value) (s' : Shared), XB (X.blk s3 H3 scope ce fp) (fun cls d H => W cls d σ H) e s' → notedBy (model X.prog X.w) X.A ce (fun e s' => compEnds (model X.prog X.w) X.A X.xe none (EP X pins σ Q) (.ref D) ce (.error e) s') e s' := fun e s' x =>
    comp_fails I3 hst hfr tk cF cL (fun b hb => (f3 b hb).1) x
  have stat : ∀ {σ' : St} {H' : Hp} {s' : Shared}, L2.Inv (X.blk s3 H3 scope ce fp) [] σ' H' s' → (∀ b ∈ fp, H' b = none) → ∀ b ∈ fp, FpOk (X.blk s3 H3 scope ce fp) [] H' b := fun {σ' H' s'} I' hn b hb =>
    ⟨hn b hb, (I'.ok.exf b hb).1, I'.ok.exfs b hb, .inl hb, fun x c e => (I'.ok.exf b hb).2 x c e, fun p hp => by cases (show p ∈ ([] : List (Addr × Obj)) from hp)⟩
  obtain ⟨s4, hs4⟩ : ∃ s4 : Shared, s4 = { s3 with heap := pushCells (s3.heap.push { cls := .type "dict", data := .dict #[] }) scope.names } := ⟨_, rfl⟩
  rw [← hs4] at I4
  have st4 : tn 0 s4.heap := T.keep _ _ _ st3 fun b _ o e => by rw [hs4]; exact pushCells_keeps _ _ _ _ (Heap.get?_push_of_some _ e)
  have loop : codeAny (model X.prog X.w) X.A (.compLoop (.ListComp elt [⟨tg, iter, ifs, 0⟩] scope pos) 0 (.ref it) (.ref D) ce) (compEnds (model X.prog X.w) X.A X.xe none (EP X pins σ Q) (.ref D) ce) s4 := by
    refine compLoop_any (fun n s' => ∃ i H', L2.Inv (X.blk s3 H3 scope ce fp) [] (L2.wipe σ (own.map (·.2))) H' s' ∧ tn i s'.heap ∧ (∀ b ∈ fp, H' b = none) ∧ V i n H') ?_ m0 ⟨0, H3, I4, st4, nfp, w0⟩
    rintro n s5 ⟨i, H5, I5, st5, n5, w5⟩
    rcases turn i n H5 w5 with ⟨stop, qq⟩ | ⟨go, Nx, hNx, step⟩
    · have td := T.done (X.blk s3 H3 scope ce fp) rfl rfl rfl hc i [] s5 _ H5 (fun _ _ => False) I5 (stat I5 n5) st5 stop
      refine thnF td fun r s6 ⟨hr, I6⟩ => ?_
      subst hr
      have I7 : L2.Inv X pins σ H5 s6 := I3.call' (ch := fp) I6.os I6.base I6.hok I6.bare fun b hb => (let ⟨_, b1, _, b3, b4, b5⟩ := (f3 b hb).1; ⟨b3, b1, b4, b5⟩)
      have nC : H5 s3.heap.objs.size = none := by
        have z : H5 ce.locals = none := I6.free
        rwa [cL] at z
      obtain ⟨m, hn, _⟩ := I6.loc
      obtain ⟨p0, p1, p2, p3, p4, p5⟩ := I3.fpOk (H' := H5) (Nat.le_refl _) nC
      refine ⟨m, hn, fun h'' sb => ⟨.ref D, H5, I7.turned (t' := s6.toks) (fun b o hb e => (sb.2 b (by rw [cL]; exact hb)).trans e) p0 p1 p3 p4 p5, rfl, qq⟩⟩
    · have ti := T.item (X.blk s3 H3 scope ce fp) rfl rfl rfl hc i [] s5 _ H5 (fun _ _ => False) I5 (stat I5 n5) st5 go
      refine thnF ti fun r s6 ⟨u, hr, h6⟩ => ?_
      subst hr
      refine thnF h6 fun _ s7 ⟨x, H7, I7, r7, y7, st7, n7⟩ => ?_
      refine thnF (pg.run _ s7 _ H7 x u _ (I7.pinned (stat I7 n7) (T.obj _ _ st7)) r7 (step x H7 y7)) fun _ s8 ⟨σ8, H8, I8, hw8, q8⟩ => thnF (pt.run _ s8 σ8 H8 _ I8 q8) fun b s9 ⟨H9, I9, q9⟩ => ?_
      have fin : ∀ {s' : Shared} {H' : Hp}, L2.Inv (X.blk s3 H3 scope ce fp) ([] ++ pinsAt fp s7.heap) σ8 H' s' → Nx H' → ∃ m, m < n ∧ ∃ i H', L2.Inv (X.blk s3 H3 scope ce fp) [] (L2.wipe σ (own.map (·.2))) H' s' ∧ tn i s'.heap ∧ (∀ b ∈ fp, H' b = none) ∧ V i m H' := by
        intro s' H' I' nx
        obtain ⟨m', hm, w'⟩ := hNx H' nx
        have pin' : ∀ b ∈ fp, ∀ o, s7.heap.get? b = some o → s'.heap.get? b = some o ∧ H' b = none := fun b hb o e => (let z := I'.pin (b, o) (List.mem_append_right _ (List.mem_append_right _ (mem_pinsAt hb e))); ⟨z.1, z.2.1⟩)
        refine ⟨m', hm, i + 1, H', (I'.unpinned (pins := [])).weak (by rw [← hw8, wipe_length]) (fun j v e => by rw [← hw8] at e; exact (wipe_some e).1), T.keep _ _ _ st7 fun b hb o e => (pin' b hb o e).1, fun b hb => ?_, w'⟩
        obtain ⟨o, e, _⟩ := T.obj _ _ st7 b hb
        exact (pin' b hb o e).2
      cases b with
      | false =>
        simp only [Bool.false_eq_true, if_false] at q9 ⊢
        exact fin I9 q9
      | true =>
        simp only [if_true] at q9 ⊢
        refine wpAny_mono (pe.run _ s9 σ8 H9 _ (Inv.setxe I9) q9) (fun z s10 ⟨yv, H10, I10, r10, acc, hD10, hz10, nx⟩ => ?_) fail
        have I10 := Inv.unxe I10
        exact app_ok (X := X.blk s3 H3 scope ce fp) I10 hD10 hz10 r10 fun s11 I11 => fin I11 nx
  subst hs4
  subst hce
  subst hcl
  subst hs3
  subst hD
  exact codeAny_compStart_list loop (T.self X.A 0 _ _ _ st4 loop)
end
section
variable {X : Cx} {A : Act} {W : WX}
@[irreducible] def dlcX (gi : DI) (t : DG) (c : DB) (ge : DE) (vs : List Nat) : DF := fun env Q Ed => gi env (fun ds => ∃ I : Nat → List D → Prop, I 0 [] ∧
  (∀ i d acc, ds[i]? = some d → I i acc → t d (blkD env vs) fun env2 => c env2 (fun b => if b = true then ge env2 (fun y => acc.length < LINE ∧ I (i + 1) (acc ++ [y])) Ed else I (i + 1) acc) fun _ => False) ∧
  ∀ acc, I ds.length acc → Q acc) Ed
theorem lcX_of {gi : DI} {t : DG} {c : DB} {ge : DE} {vs js : List Nat} {wi : TI} {g : TG} {tt : TT} {te : WX → TE} (hj : ∀ j ∈ js, j ∈ vs) {σ : St} {H : Hp} {Q : VK}
    (hi : ∀ σ H Q, toI A W gi σ H Q → wi σ H Q)
    (hg : ∀ (B : Act), B.R = A.R → ∀ v σ H Q, toG B js t v σ H Q → g v σ H Q) (ht : ∀ (B : Act), B.R = A.R → ∀ σ H Q, toB B W0 c σ H Q → tt σ H Q) (he : ∀ (B : Act) (Wb : WX), B.R = A.R → ∀ σ H Q, toE B Wb ge σ H Q → te Wb σ H Q)
    (h : toF A W (dlcX gi t c ge vs) σ H Q) : tLcX W wi g tt te vs σ H Q := by
  obtain ⟨env, Qd, Ed, E, h, q, x⟩ := h
  unfold dlcX at h
  refine hi σ H _ ⟨env, _, Ed, E, h, fun J ds H1 s1 wk hd D0 hD => ?_, x⟩
  obtain ⟨I, i0, it, ie⟩ := hd
  have E1 := E.stp s1
  have nst : A.R.st ≠ some D0 := fun z => by
    obtain ⟨ns, e, _⟩ := E1.inv D0 z
    rw [hD] at e; cases e
  have ups : ∀ {H2 : Hp} {ys : List V}, Stp A.R H1 H2 → Stp A.R H1 (upd H2 D0 (.lst ys)) := fun {H2 ys} s => ⟨fun a o e n => by rw [upd_ne (ne_of_none e hD)]; exact s.k a o e n, fun z a e => by
    obtain ⟨ns, e1, e2⟩ := s.s z a e
    exact ⟨ns, by rw [upd_ne fun z => nst (by rw [e, z])]; exact e1, e2⟩⟩
  refine ⟨fun i m H => m = ds.length - i ∧ i ≤ ds.length ∧ ∃ av ad, H D0 = some (.lst av) ∧ RepL A.R (MB A σ env D0) H av ad ∧ I i ad ∧ Stp A.R H1 H, ⟨ds.length, rfl, Nat.zero_le _, [], [], upd_same, .nil, i0, ups (Stp.refl _ _)⟩, ?_⟩
  rintro i m H2 ⟨rfl, hi2, av, ad, h2, ra, hI, s2⟩
  have kk : Keep (MM A σ env) (MB A σ env D0) H1 H2 := ⟨(E1.keep s2).k, fun a z => z.elim .inl fun z => .inr (by rw [z]; exact hD)⟩
  by_cases hlt : i < ds.length
  · have e : ds[i]? = some ds[i] := List.getElem?_eq_getElem hlt
    have E2 := E1.stp s2
    obtain ⟨g1, g2⟩ := wk.yld _ H2 kk (fun a z w => w.elim (fun w => E2.fresh z w) fun w => by rw [w, h2] at z; cases z) E2.inv i _ e
    refine .inr ⟨g1, fun H' => ∃ av ad, H' D0 = some (.lst av) ∧ RepL A.R (MB A σ env D0) H' av ad ∧ I (i + 1) ad ∧ Stp A.R H1 H', fun H' h => ⟨ds.length - (i + 1), by omega, rfl, hlt, h⟩, fun x' H' y => ?_⟩
    obtain ⟨s3, rx⟩ := g2 x' H' y
    have EB := (E1.block hD s2 (by rw [h2]; exact fun z => by cases z) vs).stp s3
    refine hg (A.blk H2 (MB A σ env D0)) rfl x' _ H' _ ⟨blkD env vs, _, _, EB, rx.keep (keep_sub fun a z => z.elim id fun z => (let ⟨j, ds, z, _⟩ := z; blk_no z).elim), it i _ ad e hI, fun σ2 env2 E3 k3 o3 h3 => ⟨only_wipe o3 hj, ?_⟩⟩
    refine ht (A.blk H2 (MB A σ env D0)) rfl σ2 H' _ ⟨env2, _, _, E3, h3, fun b H4 s4 hb => ?_, xout0⟩
    have E4 := E3.stp s4
    cases b with
    | false =>
      simp only [Bool.false_eq_true, if_false] at hb ⊢
      have s5 : Stp A.R H2 H4 := s3.trans s4
      exact ⟨av, ad, s5.k D0 _ h2 nst, ra.keep (s5.keep fun a z => .inl (E1.mst a z)), hb, s2.trans s5⟩
    | true =>
      simp only [if_true] at hb ⊢
      refine he (A.blk H2 (MB A σ env D0)) _ rfl σ2 H4 _ ⟨env2, _, _, E4, hb, fun y d H5 s5 r hq => ?_, fun ex cls dd H5 s5 r5 hq5 => ?_⟩
      · have s6 : Stp A.R H2 H5 := (s3.trans s4).trans s5
        have h6 := s6.k D0 _ h2 nst
        have r6 := ra.keep (s6.keep fun a z => .inl (E1.mst a z))
        refine ⟨av, h6, by rw [ra.length, line_is]; exact hq.1, av ++ [y], ad ++ [d], upd_same, ?_, hq.2, ups (s2.trans s6)⟩
        have r7 : Rep A.R (MB A σ env D0) H5 y d := r.keep (keep_sub fun a z => .inl z)
        exact (r6.append (.cons r7 .nil)).keep ⟨fun a o e n => by rw [upd_ne fun z => n (.inr z)]; exact e, fun a z => .inl z⟩
      · have s6 : Stp A.R H1 H5 := s2.trans ((s3.trans s4).trans s5)
        refine x ex cls dd H5 (s1.trans s6) ?_ hq5
        obtain ⟨C, c1, c2, c3⟩ := r5
        refine ⟨C, c1, c2, c3.imp id fun ⟨d, fv, a1, a2, a3, a4⟩ => ⟨d, fv, a1, a2, fun z => a3 (.inl (.inl z)), a4.keep (keep_sub fun a z => .inl (.inl z))⟩⟩
  · have e : i = ds.length := by omega
    subst e
    exact .inl ⟨wk.stop _ H2 kk, q D0 av ad H2 (Stp.none E.inv s1 hD) (s1.trans s2) h2 ra (ie ad hI)⟩
/-- [e for t in it if c], e a call that may raise -/
theorem gf_lcX {elt tg iter : Expr} {ifs : List Expr} {scope : Scope} {own : List (Str × Nat)} {pos : Pos} {gi : DI} {t : DG} {c : DB} {ge : DE} {js : List Nat} (hc : X.calm = true) (hN : X.N.Nodup) (tk : Takes X W) (hi : GI X A W tg iter gi) (ok : blkC X.N X.env.scope scope own = true)
    (hj : ∀ j ∈ js, j ∈ own.map (·.2))
    (hg : ∀ (B : Act), B.R = A.R → ∀ (s : Shared) (H : Hp) (C : Addr) (cl : List (Str × Addr)) (fp : List Addr), GG (X.blk s H scope (compEnvC scope cl C X.env) fp) B js tg t)
    (ht : ∀ (B : Act), B.R = A.R → ∀ (s : Shared) (H : Hp) (C : Addr) (cl : List (Str × Addr)) (fp : List Addr), GTs (X.blk s H scope (compEnvC scope cl C X.env) fp) B W0 ifs c)
    (he : ∀ (B : Act), B.R = A.R → ∀ (s : Shared) (H : Hp) (C : Addr) (cl : List (Str × Addr)) (fp : List Addr) (xe : Value → Shared → Prop) (Wb : WX), TakesC (blkX X s H scope (compEnvC scope cl C X.env) fp xe) Wb → GE (blkX X s H scope (compEnvC scope cl C X.env) fp xe) B Wb elt ge)
    (hst : X.stack = X.env :: X.outer := by rfl) (hfr : X.env.frame = some X.env.locals := by rfl)
    (hs : ∀ x, foldedSetIterable iter X.env x = pure x := by intro _; rfl) : GF X A W (.ListComp elt [⟨tg, iter, ifs, 0⟩] scope pos) (dlcX gi t c ge (own.map (·.2))) := by
  refine ⟨pe_imp (pe_lcX (W := W) (wi := toI A W gi) (g := fun v σ H Q => ∃ B : Act, B.R = A.R ∧ toG B js t v σ H Q) (tt := fun σ H Q => ∃ B : Act, B.R = A.R ∧ toB B W0 c σ H Q) (te := fun Wb σ H Q => ∃ B : Act, B.R = A.R ∧ toE B Wb ge σ H Q) hc hN hst hfr tk hi.p (blkOk_by ok) ?_ ?_ ?_ hs) fun σ H Q h => ?_⟩
  · exact fun s H C cl fp => ⟨fun pins s' σ H' v u Q I r ⟨B, e, w⟩ => (hg B e s H C cl fp).p.run pins s' σ H' v u Q I r w⟩
  · exact fun s H C cl fp => ⟨fun pins s' σ H' Q I ⟨B, e, w⟩ => (ht B e s H C cl fp).p.run pins s' σ H' Q I w⟩
  · exact fun s H C cl fp xe Wb tkc => ⟨fun pins s' σ H' Q I ⟨B, e, w⟩ => (he B e s H C cl fp xe Wb tkc).p.run pins s' σ H' Q I w⟩
  · exact lcX_of hj (fun _ _ _ h => h) (fun B e v σ H Q h => ⟨B, e, h⟩) (fun B e σ H Q h => ⟨B, e, h⟩) (fun B Wb e σ H Q h => ⟨B, e, h⟩) h
end
end Nb
set_option maxRecDepth 100000
set_option maxHeartbeats 2000000
/-! Nb: walks of a list or a tuple, by a name; loops, blocks: what one shows. -/
namespace Nb
open PySem PySem.Spec PyProof.Rows L2
section
variable {X : Cx} {A : Act} {W : WX}
/-- the items of a list or a tuple that stands in slot i -/
def diV (i : Nat) : DI := fun env Q _ => match env[i]? with
  | some (.val (.lst ds)) => Q ds
  | some (.val (.tup ds)) => Q ds
  | _ => False
theorem gi_V {i : Nat} {tg e : Expr} (h : PE X e (tVar i)) (hK : A.R.K = X.K := by rfl) : GI X A W tg e (diV i) := by
  refine ⟨⟨fun pins s σ H R I ⟨env, Qd, Ed, E, h1, q, x⟩ => ?_⟩⟩
  have key : (∃ ds, env[i]? = some (.val (.lst ds)) ∧ Qd ds) ∨ ∃ ds, env[i]? = some (.val (.tup ds)) ∧ Qd ds := by
    unfold diV at h1
    split at h1
    · rename_i ds e; exact .inl ⟨ds, e, h1⟩
    · rename_i ds e; exact .inr ⟨ds, e, h1⟩
    · exact h1.elim
  rcases key with ⟨ds, e1, hq⟩ | ⟨ds, e1, hq⟩
  · exact (gi_list (ge_var h)).p.run pins s σ H R I ⟨env, Qd, Ed, E, by unfold diL dvar; rw [e1]; exact hq, q, x⟩
  · exact (gi_tup hK (ge_var h)).p.run pins s σ H R I ⟨env, Qd, Ed, E, by unfold diT dvar; rw [e1]; exact hq, q, x⟩
end
end Nb
set_option maxRecDepth 100000
set_option maxHeartbeats 2000000
/-! Nb: fractions as data. -/
namespace Nb
open PySem PySem.Spec PyProof.Rows L2
/-- the datum of a fraction -/
def fr (q : Rat) : D := .tup [.int q.num, .int (q.den : Int)]
theorem fr_eq (q : Rat) : fr q = .tup [.int q.num, .int (q.den : Int)] := rfl
/-! ### sizes -/
def Sz (n : Nat) (q : Rat) : Prop := q.num.natAbs < 2 ^ n ∧ q.den < 2 ^ n
theorem Sz.mono {n m : Nat} {q : Rat} (h : Sz n q) (k : n ≤ m) : Sz m q := by
  have := Nat.pow_le_pow_right (show 0 < 2 by decide) k
  exact ⟨Nat.lt_of_lt_of_le h.1 this, Nat.lt_of_lt_of_le h.2 this⟩
theorem Sz.neg {n : Nat} {q : Rat} (h : Sz n q) : Sz n (-q) := by
  refine ⟨?_, ?_⟩
  · rw [Rat.neg_num, Int.natAbs_neg]; exact h.1
  · rw [Rat.neg_den]; exact h.2
theorem mul_lt_pow {a b n m : Nat} (h1 : a < 2 ^ n) (h2 : b < 2 ^ m) : a * b < 2 ^ (n + m) := by
  rw [Nat.pow_add]
  exact Nat.mul_lt_mul'' h1 h2
theorem Sz.add {n m : Nat} {p q : Rat} (h : Sz n p) (k : Sz m q) : Sz (n + m + 1) (p + q) := by
  refine ⟨?_, ?_⟩
  · rw [Rat.num_add]
    refine Nat.lt_of_le_of_lt (Int.natAbs_ediv_le_natAbs _ _) ?_
    refine Nat.lt_of_le_of_lt (Int.natAbs_add_le _ _) ?_
    rw [Int.natAbs_mul, Int.natAbs_mul, Int.natAbs_natCast, Int.natAbs_natCast]
    have h1 := mul_lt_pow h.1 k.2
    have h2 := mul_lt_pow k.1 h.2
    rw [Nat.add_comm m n] at h2
    rw [Nat.pow_succ]
    omega
  · rw [Rat.den_add]
    refine Nat.lt_of_le_of_lt (Nat.div_le_self _ _) ?_
    have h1 := mul_lt_pow h.2 k.2
    rw [Nat.pow_succ]
    omega
theorem Sz.sub {n m : Nat} {p q : Rat} (h : Sz n p) (k : Sz m q) : Sz (n + m + 1) (p - q) := by
  rw [Rat.sub_eq_add_neg]
  exact h.add k.neg
theorem Sz.mul {n m : Nat} {p q : Rat} (h : Sz n p) (k : Sz m q) : Sz (n + m) (p * q) := by
  refine ⟨?_, ?_⟩
  · rw [Rat.num_mul]
    refine Nat.lt_of_le_of_lt (Int.natAbs_ediv_le_natAbs _ _) ?_
    rw [Int.natAbs_mul]
    exact mul_lt_pow h.1 k.1
  · rw [Rat.den_mul]
    exact Nat.lt_of_le_of_lt (Nat.div_le_self _ _) (mul_lt_pow h.2 k.2)
theorem Sz.divInt {n : Nat} {t b : Int} (h : t.natAbs < 2 ^ (n + 1)) (k : b.natAbs < 2 ^ (n + 1)) : Sz (n + 1) (Rat.divInt t b) := by
  refine ⟨?_, ?_⟩
  · rw [Rat.num_divInt]
    refine Nat.lt_of_le_of_lt (Int.natAbs_ediv_le_natAbs _ _) ?_
    rw [Int.natAbs_mul]
    have : b.sign.natAbs ≤ 1 := by
      rw [Int.natAbs_sign]
      split <;> omega
    calc b.sign.natAbs * t.natAbs ≤ 1 * t.natAbs := Nat.mul_le_mul_right _ this
      _ = t.natAbs := Nat.one_mul _
      _ < _ := h
  · rw [Rat.den_divInt]
    split
    · exact Nat.one_lt_two_pow (Nat.succ_ne_zero n)
    · exact Nat.lt_of_le_of_lt (Nat.div_le_self _ _) k
theorem mulOk {i j : Int} {a b : Nat} (hi : i.natAbs < 2 ^ a) (hj : j.natAbs < 2 ^ b) (h : a + b ≤ 999000) : CMulA i j := by
  have h1 : i.natAbs < 2 ^ (a + 1) := Nat.lt_of_lt_of_le hi (Nat.pow_le_pow_right (by decide) (by omega))
  have h2 : j.natAbs < 2 ^ (b + 1) := Nat.lt_of_lt_of_le hj (Nat.pow_le_pow_right (by decide) (by omega))
  exact .inr (wide_mul h1 h2 (by omega) (by omega) (by omega))
theorem divOk {i j : Int} {b : Nat} (h0 : 0 < j) (hj : j.natAbs < 2 ^ b) (h : b ≤ 8999) : CDivA i j := by
  have h2 : j.natAbs < 2 ^ (b + 1) := Nat.lt_of_lt_of_le hj (Nat.pow_le_pow_right (by decide) (by omega))
  exact .inr (wide_div h0 h2 (by omega) (by omega))
/-! ### the parts of sums, products -/
theorem gcd_pos_den (q : Rat) (a : Nat) : 0 < Nat.gcd a q.den := Nat.gcd_pos_of_pos_right _ q.den_pos
theorem add_parts (a b : Rat) : (a + b).num = (a.num * ((b.den / Nat.gcd a.den b.den : Nat) : Int) + b.num * ((a.den / Nat.gcd a.den b.den : Nat) : Int)) / ((Nat.gcd (a.num * ((b.den / Nat.gcd a.den b.den : Nat) : Int) + b.num * ((a.den / Nat.gcd a.den b.den : Nat) : Int)).natAbs (Nat.gcd a.den b.den) : Nat) : Int) ∧
    (a + b).den = a.den / Nat.gcd a.den b.den * (b.den / Nat.gcd (a.num * ((b.den / Nat.gcd a.den b.den : Nat) : Int) + b.num * ((a.den / Nat.gcd a.den b.den : Nat) : Int)).natAbs (Nat.gcd a.den b.den)) := by
  have e : a + b = Rat.add a b := rfl
  rw [e]
  unfold Rat.add
  by_cases hg : a.den.gcd b.den = 1
  · simp only [hg, dif_pos]
    simp
  · simp only [hg, dif_neg, not_false_eq_true]
    rw [Rat.maybeNormalize_eq]
    refine ⟨?_, ?_⟩
    · show Int.divExact _ _ (Int.ofNat_dvd_left.mpr (Nat.gcd_dvd_left _ _)) = _
      rw [Int.divExact_eq_tdiv]
      refine Int.tdiv_eq_ediv_of_dvd ?_
      exact Int.ofNat_dvd_left.mpr (Nat.gcd_dvd_left _ _)
    · show a.den / _ * b.den / _ = _
      exact Nat.mul_div_assoc _ (Nat.dvd_trans (Nat.gcd_dvd_right ..) (Nat.gcd_dvd_right ..))
theorem mul_parts (a b : Rat) : (a * b).num = a.num / ((Nat.gcd a.num.natAbs b.den : Nat) : Int) * (b.num / ((Nat.gcd b.num.natAbs a.den : Nat) : Int)) ∧
    (a * b).den = a.den / Nat.gcd b.num.natAbs a.den * (b.den / Nat.gcd a.num.natAbs b.den) := by
  have e : a * b = Rat.mul a b := rfl
  rw [e]
  unfold Rat.mul
  refine ⟨?_, ?_⟩
  · show Int.divExact _ _ _ * Int.divExact _ _ _ = _
    rw [Int.divExact_eq_tdiv, Int.divExact_eq_tdiv, Int.tdiv_eq_ediv_of_dvd (Int.ofNat_dvd_left.mpr (Nat.gcd_dvd_left ..)), Int.tdiv_eq_ediv_of_dvd (Int.ofNat_dvd_left.mpr (Nat.gcd_dvd_left ..))]
  · show Nat.divExact _ _ _ * Nat.divExact _ _ _ = _
    simp
theorem div_parts {a b : Int} (h : 0 < b) : (Rat.divInt a b).num = a / ((Nat.gcd a.natAbs b.natAbs : Nat) : Int) ∧ ((Rat.divInt a b).den : Int) = b / ((Nat.gcd a.natAbs b.natAbs : Nat) : Int) := by
  refine ⟨?_, ?_⟩
  · rw [Rat.num_divInt, Int.sign_eq_one_of_pos h, Int.one_mul, Int.gcd_comm]
    rfl
  · rw [Rat.den_divInt, if_neg (by omega), Int.gcd_comm]
    show ((b.natAbs / Nat.gcd a.natAbs b.natAbs : Nat) : Int) = _
    rw [Int.natCast_ediv, Int.natAbs_of_nonneg (by omega)]
/-! ### equal, less -/
theorem shp_fr (a : Rat) : Shp (fr a) := ⟨.tuple [.int a.num, .int (a.den : Int)], rfl, rfl⟩
theorem eqv_fr (a b : Rat) : D.eqv (fr a) (fr b) = decide (a = b) := by
  unfold D.eqv fr
  simp only [D.py, D.pys, Option.bind_some, Option.map_some]
  rw [PyData.eqv, PyData.eqvAll, PyData.eqvAll, PyData.eqvAll, PyData.eqv, PyData.eqv]
  by_cases h : a = b
  · subst h
    simp
  · have : ¬ (a.num = b.num ∧ a.den = b.den) := fun z => h (Rat.ext z.1 z.2)
    simp only [h, decide_false]
    by_cases q : a.num = b.num
    · have : a.den ≠ b.den := fun z => this ⟨q, z⟩
      simp only [q, beq_self_eq_true, Bool.true_and, Bool.and_true]
      simp
      omega
    · simp [q]
theorem less_iff (a b : Rat) : a.num * (b.den : Int) < b.num * (a.den : Int) ↔ a < b := (Rat.lt_iff a b).symm
/-! ### isinstance, by kinds -/
section
variable {b : Bool} {n : Int} {z : Str} {xs : List D} {Q : D → Prop}
theorem isi_non_int : fIsi [.non, .ty "int"] Q = Q (.bl false) := propext ⟨fun ⟨t, c, h1, h2, h3⟩ => by cases h1; have e : kitB "NoneType" "int" = some false := (by decide +kernel); rw [e] at h2; cases h2; exact h3, fun h => ⟨_, false, rfl, by decide +kernel, h⟩⟩
theorem isi_non_bool : fIsi [.non, .ty "bool"] Q = Q (.bl false) := propext ⟨fun ⟨t, c, h1, h2, h3⟩ => by cases h1; have e : kitB "NoneType" "bool" = some false := (by decide +kernel); rw [e] at h2; cases h2; exact h3, fun h => ⟨_, false, rfl, by decide +kernel, h⟩⟩
theorem isi_non_str : fIsi [.non, .ty "str"] Q = Q (.bl false) := propext ⟨fun ⟨t, c, h1, h2, h3⟩ => by cases h1; have e : kitB "NoneType" "str" = some false := (by decide +kernel); rw [e] at h2; cases h2; exact h3, fun h => ⟨_, false, rfl, by decide +kernel, h⟩⟩
theorem isi_non_tuple : fIsi [.non, .ty "tuple"] Q = Q (.bl false) := propext ⟨fun ⟨t, c, h1, h2, h3⟩ => by cases h1; have e : kitB "NoneType" "tuple" = some false := (by decide +kernel); rw [e] at h2; cases h2; exact h3, fun h => ⟨_, false, rfl, by decide +kernel, h⟩⟩
theorem isi_non_list : fIsi [.non, .ty "list"] Q = Q (.bl false) := propext ⟨fun ⟨t, c, h1, h2, h3⟩ => by cases h1; have e : kitB "NoneType" "list" = some false := (by decide +kernel); rw [e] at h2; cases h2; exact h3, fun h => ⟨_, false, rfl, by decide +kernel, h⟩⟩
theorem isi_bl_int : fIsi [(.bl b), .ty "int"] Q = Q (.bl true) := propext ⟨fun ⟨t, c, h1, h2, h3⟩ => by cases h1; have e : kitB "bool" "int" = some true := (by decide +kernel); rw [e] at h2; cases h2; exact h3, fun h => ⟨_, true, rfl, by decide +kernel, h⟩⟩
theorem isi_bl_bool : fIsi [(.bl b), .ty "bool"] Q = Q (.bl true) := propext ⟨fun ⟨t, c, h1, h2, h3⟩ => by cases h1; have e : kitB "bool" "bool" = some true := (by decide +kernel); rw [e] at h2; cases h2; exact h3, fun h => ⟨_, true, rfl, by decide +kernel, h⟩⟩
theorem isi_bl_str : fIsi [(.bl b), .ty "str"] Q = Q (.bl false) := propext ⟨fun ⟨t, c, h1, h2, h3⟩ => by cases h1; have e : kitB "bool" "str" = some false := (by decide +kernel); rw [e] at h2; cases h2; exact h3, fun h => ⟨_, false, rfl, by decide +kernel, h⟩⟩
theorem isi_bl_tuple : fIsi [(.bl b), .ty "tuple"] Q = Q (.bl false) := propext ⟨fun ⟨t, c, h1, h2, h3⟩ => by cases h1; have e : kitB "bool" "tuple" = some false := (by decide +kernel); rw [e] at h2; cases h2; exact h3, fun h => ⟨_, false, rfl, by decide +kernel, h⟩⟩
theorem isi_bl_list : fIsi [(.bl b), .ty "list"] Q = Q (.bl false) := propext ⟨fun ⟨t, c, h1, h2, h3⟩ => by cases h1; have e : kitB "bool" "list" = some false := (by decide +kernel); rw [e] at h2; cases h2; exact h3, fun h => ⟨_, false, rfl, by decide +kernel, h⟩⟩
theorem isi_int_int : fIsi [(.int n), .ty "int"] Q = Q (.bl true) := propext ⟨fun ⟨t, c, h1, h2, h3⟩ => by cases h1; have e : kitB "int" "int" = some true := (by decide +kernel); rw [e] at h2; cases h2; exact h3, fun h => ⟨_, true, rfl, by decide +kernel, h⟩⟩
theorem isi_int_bool : fIsi [(.int n), .ty "bool"] Q = Q (.bl false) := propext ⟨fun ⟨t, c, h1, h2, h3⟩ => by cases h1; have e : kitB "int" "bool" = some false := (by decide +kernel); rw [e] at h2; cases h2; exact h3, fun h => ⟨_, false, rfl, by decide +kernel, h⟩⟩
theorem isi_int_str : fIsi [(.int n), .ty "str"] Q = Q (.bl false) := propext ⟨fun ⟨t, c, h1, h2, h3⟩ => by cases h1; have e : kitB "int" "str" = some false := (by decide +kernel); rw [e] at h2; cases h2; exact h3, fun h => ⟨_, false, rfl, by decide +kernel, h⟩⟩
theorem isi_int_tuple : fIsi [(.int n), .ty "tuple"] Q = Q (.bl false) := propext ⟨fun ⟨t, c, h1, h2, h3⟩ => by cases h1; have e : kitB "int" "tuple" = some false := (by decide +kernel); rw [e] at h2; cases h2; exact h3, fun h => ⟨_, false, rfl, by decide +kernel, h⟩⟩
theorem isi_int_list : fIsi [(.int n), .ty "list"] Q = Q (.bl false) := propext ⟨fun ⟨t, c, h1, h2, h3⟩ => by cases h1; have e : kitB "int" "list" = some false := (by decide +kernel); rw [e] at h2; cases h2; exact h3, fun h => ⟨_, false, rfl, by decide +kernel, h⟩⟩
theorem isi_str_int : fIsi [(.str z), .ty "int"] Q = Q (.bl false) := propext ⟨fun ⟨t, c, h1, h2, h3⟩ => by cases h1; have e : kitB "str" "int" = some false := (by decide +kernel); rw [e] at h2; cases h2; exact h3, fun h => ⟨_, false, rfl, by decide +kernel, h⟩⟩
theorem isi_str_bool : fIsi [(.str z), .ty "bool"] Q = Q (.bl false) := propext ⟨fun ⟨t, c, h1, h2, h3⟩ => by cases h1; have e : kitB "str" "bool" = some false := (by decide +kernel); rw [e] at h2; cases h2; exact h3, fun h => ⟨_, false, rfl, by decide +kernel, h⟩⟩
theorem isi_str_str : fIsi [(.str z), .ty "str"] Q = Q (.bl true) := propext ⟨fun ⟨t, c, h1, h2, h3⟩ => by cases h1; have e : kitB "str" "str" = some true := (by decide +kernel); rw [e] at h2; cases h2; exact h3, fun h => ⟨_, true, rfl, by decide +kernel, h⟩⟩
theorem isi_str_tuple : fIsi [(.str z), .ty "tuple"] Q = Q (.bl false) := propext ⟨fun ⟨t, c, h1, h2, h3⟩ => by cases h1; have e : kitB "str" "tuple" = some false := (by decide +kernel); rw [e] at h2; cases h2; exact h3, fun h => ⟨_, false, rfl, by decide +kernel, h⟩⟩
theorem isi_str_list : fIsi [(.str z), .ty "list"] Q = Q (.bl false) := propext ⟨fun ⟨t, c, h1, h2, h3⟩ => by cases h1; have e : kitB "str" "list" = some false := (by decide +kernel); rw [e] at h2; cases h2; exact h3, fun h => ⟨_, false, rfl, by decide +kernel, h⟩⟩
theorem isi_tup_int : fIsi [(.tup xs), .ty "int"] Q = Q (.bl false) := propext ⟨fun ⟨t, c, h1, h2, h3⟩ => by cases h1; have e : kitB "tuple" "int" = some false := (by decide +kernel); rw [e] at h2; cases h2; exact h3, fun h => ⟨_, false, rfl, by decide +kernel, h⟩⟩
theorem isi_tup_bool : fIsi [(.tup xs), .ty "bool"] Q = Q (.bl false) := propext ⟨fun ⟨t, c, h1, h2, h3⟩ => by cases h1; have e : kitB "tuple" "bool" = some false := (by decide +kernel); rw [e] at h2; cases h2; exact h3, fun h => ⟨_, false, rfl, by decide +kernel, h⟩⟩
theorem isi_tup_str : fIsi [(.tup xs), .ty "str"] Q = Q (.bl false) := propext ⟨fun ⟨t, c, h1, h2, h3⟩ => by cases h1; have e : kitB "tuple" "str" = some false := (by decide +kernel); rw [e] at h2; cases h2; exact h3, fun h => ⟨_, false, rfl, by decide +kernel, h⟩⟩
theorem isi_tup_tuple : fIsi [(.tup xs), .ty "tuple"] Q = Q (.bl true) := propext ⟨fun ⟨t, c, h1, h2, h3⟩ => by cases h1; have e : kitB "tuple" "tuple" = some true := (by decide +kernel); rw [e] at h2; cases h2; exact h3, fun h => ⟨_, true, rfl, by decide +kernel, h⟩⟩
theorem isi_tup_list : fIsi [(.tup xs), .ty "list"] Q = Q (.bl false) := propext ⟨fun ⟨t, c, h1, h2, h3⟩ => by cases h1; have e : kitB "tuple" "list" = some false := (by decide +kernel); rw [e] at h2; cases h2; exact h3, fun h => ⟨_, false, rfl, by decide +kernel, h⟩⟩
theorem isi_lst_int : fIsi [(.lst xs), .ty "int"] Q = Q (.bl false) := propext ⟨fun ⟨t, c, h1, h2, h3⟩ => by cases h1; have e : kitB "list" "int" = some false := (by decide +kernel); rw [e] at h2; cases h2; exact h3, fun h => ⟨_, false, rfl, by decide +kernel, h⟩⟩
theorem isi_lst_bool : fIsi [(.lst xs), .ty "bool"] Q = Q (.bl false) := propext ⟨fun ⟨t, c, h1, h2, h3⟩ => by cases h1; have e : kitB "list" "bool" = some false := (by decide +kernel); rw [e] at h2; cases h2; exact h3, fun h => ⟨_, false, rfl, by decide +kernel, h⟩⟩
theorem isi_lst_str : fIsi [(.lst xs), .ty "str"] Q = Q (.bl false) := propext ⟨fun ⟨t, c, h1, h2, h3⟩ => by cases h1; have e : kitB "list" "str" = some false := (by decide +kernel); rw [e] at h2; cases h2; exact h3, fun h => ⟨_, false, rfl, by decide +kernel, h⟩⟩
theorem isi_lst_tuple : fIsi [(.lst xs), .ty "tuple"] Q = Q (.bl false) := propext ⟨fun ⟨t, c, h1, h2, h3⟩ => by cases h1; have e : kitB "list" "tuple" = some false := (by decide +kernel); rw [e] at h2; cases h2; exact h3, fun h => ⟨_, false, rfl, by decide +kernel, h⟩⟩
theorem isi_lst_list : fIsi [(.lst xs), .ty "list"] Q = Q (.bl true) := propext ⟨fun ⟨t, c, h1, h2, h3⟩ => by cases h1; have e : kitB "list" "list" = some true := (by decide +kernel); rw [e] at h2; cases h2; exact h3, fun h => ⟨_, true, rfl, by decide +kernel, h⟩⟩
end
/-! ### the start -/
theorem start_def (N : List Str) (ds : List D) : startD N ds = ds.map SD.val ++ List.replicate (N.length - ds.length) .un := rfl
theorem pow10_iff {j : Int} : CPow 10 j = (0 ≤ j ∧ j ≤ 1000000) := propext ⟨fun h => ⟨h.1, h.2.1⟩, fun h => ⟨h.1, h.2, by decide⟩⟩
end Nb
set_option maxRecDepth 100000
set_option maxHeartbeats 2000000
/-! NbZ: dicts that nobody looks into. -/
namespace Nb
open PySem PySem.Spec PyProof.Rows L2
section
variable {X : Cx} {A : Act} {W : WX}
def ddct0 : DE := fun _ Q _ => Q .dct
def dint (g : DE) (k : DE) : DE := fun env Q Ed => g env (fun d => match d with
  | .int _ => k env Q Ed
  | _ => False) Ed
end
section
variable {Q : D → Prop}
theorem isi_dct {T : String} (h : kitB "dict" T = some false) : fIsi [.dct, .ty T] Q = Q (.bl false) := propext ⟨fun ⟨t, c, h1, h2, h3⟩ => by cases h1; rw [h] at h2; cases h2; exact h3, fun q => ⟨_, false, rfl, h, q⟩⟩
theorem isi_dct_int : fIsi [.dct, .ty "int"] Q = Q (.bl false) := isi_dct (by decide +kernel)
theorem isi_dct_bool : fIsi [.dct, .ty "bool"] Q = Q (.bl false) := isi_dct (by decide +kernel)
theorem isi_dct_str : fIsi [.dct, .ty "str"] Q = Q (.bl false) := isi_dct (by decide +kernel)
theorem isi_dct_tuple : fIsi [.dct, .ty "tuple"] Q = Q (.bl false) := isi_dct (by decide +kernel)
theorem isi_dct_list : fIsi [.dct, .ty "list"] Q = Q (.bl false) := isi_dct (by decide +kernel)
end
end Nb
set_option maxRecDepth 100000
set_option maxHeartbeats 2000000
/-! NcA: isinstance(e, (A, B, ..)), e the exception at hand. -/
namespace Nb
open PySem PySem.Spec PyProof.Rows L2
end Nb
set_option maxRecDepth 100000
set_option maxHeartbeats 2000000
/-! Nb: calls with keywords. -/
namespace Nb
open PySem PySem.Spec PyProof.Rows L2
section
variable {X : Cx} {A : Act} {W : WX}
/-- a def that is called with n values and all its keywords -/
structure HasK (P : Program) (w : World) (K : PySem.W.Frag) (mg : Str → Option Value) (base : Heap) (x : Str) (k : Nat) (fr : Bool) (n : Nat) (ks : List Str) (S : DSp) : Prop where
  ex : ∃ f fd ps, FnOk P w K mg base (L2N.CX P w) k f fd ps (spD K mg fr S) ∧ mg x = some (.ref f) ∧ PySem.W.keepIn K (.ref f) = true ∧ KBn K fd ps n ks (fun us ws => us ++ ws) (fun vs zs => vs ++ zs)
structure CallOkK (X : Cx) (W : WX) (x : Str) (fr : Bool) (n : Nat) (ks : List Str) (S : DSp) : Prop where
  ex : ∃ k f fd ps, FnOk X.prog X.w X.K X.mg X.base (L2N.CX X.prog X.w) k f fd ps (spD X.K X.mg fr S) ∧ Room k X.A ∧ Gl X x ∧ X.mg x = some (.ref f) ∧ PySem.W.keepIn X.K (.ref f) = true ∧ KBn X.K fd ps n ks (fun us ws => us ++ ws) (fun vs zs => vs ++ zs) ∧ (∀ σ, PassesAt (L2N.CX X.prog X.w) X σ (WE W σ)) ∧ (x == ("__debug__" : Str)) = false
theorem HasK.call {x : Str} {k n : Nat} {ks : List Str} {fr : Bool} {S : DSp} (h : HasK X.prog X.w X.K X.mg X.base x k fr n ks S) (hr : Room k X.A) (tk : Takes X W) (hg : Gl X x := by rfl) (hd : (x == ("__debug__" : Str)) = false := by decide) : CallOkK X W x fr n ks S := by
  obtain ⟨f, fd, ps, F, a, b, c⟩ := h.ex
  exact ⟨k, f, fd, ps, F, hr, hg, a, b, c, fun σ => L2N.passAt tk σ, hd⟩
theorem HasK.mono {P : Program} {w : World} {K : PySem.W.Frag} {mg : Str → Option Value} {base : Heap} {x : Str} {j k n : Nat} {ks : List Str} {fr : Bool} {S : DSp} (h : HasK P w K mg base x j fr n ks S) (hk : j ≤ k) : HasK P w K mg base x k fr n ks S := by
  obtain ⟨f, fd, ps, F, a, b, c⟩ := h.ex
  exact ⟨f, fd, ps, F.mono hk, a, b, c⟩
end
end Nb
set_option maxRecDepth 100000
set_option maxHeartbeats 2000000
/-! Nb: a list that changes later is looked at in a test; zip; insert. -/
namespace Nb
open PySem PySem.Spec PyProof.Rows L2
section
variable {X : Cx} {A : Act} {W : WX}
/-- slot i's list is read in a test, and changes later -/
def dbor (i : Nat) (g : DB) : DB := fun env Q _ => match env[i]? with
  | some (.own ds) => g (env.set i (.val (.lst ds))) Q fun _ => False
  | _ => False
theorem gt_bor {i : Nat} {e : Expr} {g : DB} (h : GT X A W e g) : GT X A W e (dbor i g) := by
  refine ⟨pt_imp h.p fun σ H Q ⟨env, Qd, Ed, E, h, q, x⟩ => ?_⟩
  unfold dbor at h
  cases e1 : env[i]? with
  | none => rw [e1] at h; exact h.elim
  | some z =>
    rw [e1] at h
    cases z with
    | un => exact h.elim
    | val d => exact h.elim
    | own ds => exact ⟨_, Qd, fun _ => False, (E.freeze e1).1, h, q, fun _ _ _ _ _ _ z => z.elim⟩
/-- xs.insert(k, e) -/
def dins (i : Nat) (gk g : DE) : DS := fun K env => match env[i]? with
  | some (.own ds) => gk env (fun k => g env (fun d => ds.length < LINE ∧ ∃ n : Int, k = .int n ∧ 0 ≤ n ∧ n < 2 ^ 63 ∧ K.nx (env.set i (.own (ds.take n.toNat ++ [d] ++ ds.drop n.toNat)))) fun x => K.ex x env) fun x => K.ex x env
  | _ => False
def rIns : V → List V → Hp → VK → Prop := fun x vs H Q => ∃ (l : Addr) (xs : List V) (i : Int) (y : V), x = .ref l ∧ vs = [.int i, y] ∧ H l = some (.lst xs) ∧ xs.length < sizeLine ∧ 0 ≤ i ∧ i < 2 ^ 63 ∧ Q .non (upd H l (.lst (xs.take i.toNat ++ [y] ++ xs.drop i.toNat)))
theorem gs_ins {i : Nat} {o k e : Expr} {gk g : DE} {pos cpos apos : Pos} (ho : PE X o (tVar i)) (hk : GE X A W k gk) (he : GE X A W e g)
    (hS : ∀ tk te, PE X o (tVar i) → PE X k tk → PE X e te → PS X (.Expr (.Call (.Attribute o "insert" apos) [k, e] [] cpos) pos) (tDrop (tBM X.K "list" rIns (tVar i) (tCons tk (tCons te tNil)))) := by
      exact fun tk te ho hk h => ps_expr (pe_bm PySem.F.plainAttrs_list PySem.F.slot_list_insert PySem.F.type_list_insert mt_insert ho (pa_cons hk (pa_cons h pa_nil)))) :
    GS X A W (.Expr (.Call (.Attribute o "insert" apos) [k, e] [] cpos) pos) (dins i gk g) := by
  refine ⟨ps_imp (hS _ _ ho hk.p he.p) fun De σ H ⟨env, K, E, h, q1, q2, q3, q4, q5⟩ => ?_⟩
  obtain ⟨ds, e1, h⟩ := own_of h
  obtain ⟨a, vs, h1, h2, h3, h4, h5⟩ := E.own i ds e1
  refine ⟨.ref a, h1, .inl ⟨rfl, _, SqL.of h2⟩, toE_step E h (xout_of E q5) fun kv kd H1 s E1 x1 rk hq => ?_⟩
  refine toE_step E1 hq x1 fun v d H2 s2 E2 _ r hq2 => ?_
  obtain ⟨hz, n, rfl, n0, n1, hq3⟩ := hq2
  cases rk
  have g2 : H2 a = some (.lst vs) := (s.trans s2).k a _ h2 fun z => h4 (E.ok.st a z)
  have rr := h3.keep (E.keep (s.trans s2))
  refine ⟨a, vs, n, v, rfl, rfl, g2, by rw [h3.length, line_is]; exact hz, n0, n1, ?_⟩
  obtain ⟨E3, k3⟩ := E2.mut (us := vs) e1 h1 (((rr.take _).append (.cons r .nil)).append (rr.drop _))
  exact q1 _ _ _ ((E.keep (s.trans s2)).trans k3) E3 hq3
end
end Nb
set_option maxRecDepth 100000
set_option maxHeartbeats 2000000
/-! Nb: lists that are given up and then changed by another def. -/
namespace Nb
open PySem PySem.Spec PyProof.Rows L2
/-- a list that begins with a number -/
def ShV (xs : List V) : Prop := ∃ i r, xs = V.int i :: r
/-- what stands but for lists of another kind -/
structure KeepS (M M' : Addr → Prop) (H H' : Hp) : Prop where
  k : ∀ a o, H a = some o → ¬ M a → (∀ xs, o = .lst xs → ShV xs) → H' a = some o
  m : ∀ a, M' a → M a ∨ H a = none ∨ ∃ xs, H a = some (.lst xs) ∧ ¬ ShV xs
section
variable {R : RC} {M M' : Addr → Prop} {H H' : Hp}
theorem KeepS.not (k : KeepS M M' H H') {a : Addr} {o : HO} (e : H a = some o) (n : ¬ M a) (l : ∀ xs, o = .lst xs → ShV xs) : ¬ M' a := fun z => by
  rcases k.m a z with z | z | ⟨xs, z, z2⟩
  · exact n z
  · rw [e] at z; cases z
  · rw [e] at z
    cases z
    exact z2 (l xs rfl)
end
end Nb
set_option maxRecDepth 100000
set_option maxHeartbeats 2000000
/-! Nb: the call that spoils a list. -/
namespace Nb
open PySem PySem.Spec PyProof.Rows L2
section
variable {R R' : RC} {M M' : Addr → Prop} {H H' : Hp}
theorem Rep.flat {v : V} {d : D} (r : Rep R M H v d) (h : d.flat = true) : Rep R' M' H' v d := by
  cases r <;> first | (cases h; done) | skip
  · exact .non
  · exact .bl _
  · exact .int _
  · exact .str _
theorem RepL.flat : ∀ {v : List V} {d : List D}, RepL R M H v d → (∀ e ∈ d, e.flat = true) → RepL R' M' H' v d
  | _, _, .nil, _ => .nil
  | _, _, .cons a b, h => .cons (a.flat (h _ List.mem_cons_self)) (RepL.flat b fun e he => h e (List.mem_cons_of_mem _ he))
end
end Nb
set_option maxRecDepth 100000
set_option maxHeartbeats 2000000
/-! Nb: rules for the def that spoils. -/
namespace Nb
open PySem PySem.Spec PyProof.Rows L2
section
variable {X : Cx} {A : Act} {W : WX}
def dneverB : DB := fun _ _ _ => False
theorem gt_dead {e : Expr} : GT X A W e dneverB := ⟨⟨fun _ _ _ _ _ _ ⟨_, _, _, _, h, _⟩ => h.elim⟩⟩
/-- xs.reverse() -/
def drev (i : Nat) : DS := fun K env => match env[i]? with
  | some (.own ds) => K.nx (env.set i (.own ds.reverse))
  | _ => False
theorem gs_rev {i : Nat} {o : Expr} {pos cpos apos : Pos} (ho : PE X o (tVar i))
    (hS : PE X o (tVar i) → PS X (.Expr (.Call (.Attribute o "reverse" apos) [] [] cpos) pos) (tDrop (tBM0 X.K "list" rReverse (tVar i))) := by
      exact fun ho => ps_expr (pe_bm0 PySem.F.plainAttrs_list PySem.F.slot_list_reverse PySem.F.type_list_reverse mt_reverse ho)) :
    GS X A W (.Expr (.Call (.Attribute o "reverse" apos) [] [] cpos) pos) (drev i) := by
  refine ⟨ps_imp (hS ho) fun De σ H ⟨env, K, E, h, q1, q2, q3, q4, q5⟩ => ?_⟩
  obtain ⟨ds, e1, h⟩ := own_of h
  obtain ⟨a, vs, h1, h2, h3, h4, h5⟩ := E.own i ds e1
  refine ⟨.ref a, h1, .inl ⟨rfl, _, SqL.of h2⟩, a, vs, rfl, rfl, h2, ?_⟩
  obtain ⟨E2, k2⟩ := E.mut (us := vs) e1 h1 h3.reverse
  exact q1 _ _ _ k2 E2 h
/-- isinstance(e, (list, tuple)) -/
def disi2 (g : DE) : DE := fun env Q Ed => g env (fun x => ∃ t b c, x.tyn = some t ∧ kitB t "list" = some b ∧ kitB t "tuple" = some c ∧ Q (.bl (b || c))) Ed
theorem ge_isi2 {e : Expr} {g : DE} {p ps1 pt1 tpos pos : Pos} {k : Nat} (hK : A.R.K = X.K) (hmS : X.mg "list" = none) (hmT : X.mg "tuple" = none) (hm : X.mg "isinstance" = none) (he : GE X A W e g) (hgS : Gl X "list" := by rfl) (hgT : Gl X "tuple" := by rfl) (hg : Gl X "isinstance" := by rfl)
    (hS : ∀ te, Gl X "isinstance" → X.mg "isinstance" = none → PE X e te → PE X (.Name "list" ps1) (tC (.ty "list")) → PE X (.Name "tuple" pt1) (tC (.ty "tuple")) → PE X (.Call (.Name "isinstance" p) [e, .Tuple [.Name "list" ps1, .Name "tuple" pt1] k tpos] [] pos) (tCB (rIsiT X.K) (tCons te (tCons (tTup (tCons (tC (.ty "list")) (tCons (tC (.ty "tuple")) tNil))) tNil))) := by
      exact fun te hg hm he h1 h2 => pe_callB call_isiT hg hm PyProof.Rows.boot_isinstance (pa_cons he (pa_cons (pe_tup (pa_cons h1 (pa_cons h2 pa_nil))) pa_nil))) :
    GE X A W (.Call (.Name "isinstance" p) [e, .Tuple [.Name "list" ps1, .Name "tuple" pt1] k tpos] [] pos) (disi2 g) := by
  refine ⟨pe_imp (hS _ hg hm he.p (pe_bltn hgS hmS PyProof.Rows.boot_list rfl) (pe_bltn hgT hmT PyProof.Rows.boot_tuple rfl)) fun σ H Q ⟨env, Qd, Ed, E, h, q, x⟩ => ?_⟩
  refine ⟨env, _, Ed, E, h, fun v d H1 s r hd => ?_, x⟩
  obtain ⟨t, b, c, h1, h2, h3, h4⟩ := hd
  refine ⟨by rw [line_is]; show 2 ≤ 16777216; decide, fun T hT => ?_⟩
  have s2 : Stp A.R H1 (upd H1 T (.tup [.ty "list", .ty "tuple"])) := Stp.new hT
  have E1 := E.stp s
  have r2 := r.keep (E1.keep s2)
  refine ⟨v, T, [.ty "list", .ty "tuple"], .type t, [.type "list", .type "tuple"], b || c, rfl, upd_same, .cons (.ty "list") (.cons (.ty "tuple") .nil), by rw [← hK]; exact tyx_of r2 h1, ?_, q _ _ _ (s.trans s2) (.bl _) h4⟩
  refine kitAny_cons (kit_ty h2) (fun e => ?_) fun e => by rw [e]; rfl
  rw [e, Bool.false_or]
  exact kitAny_cons (kit_ty h3) (fun e => by rw [e]; exact kitAny_nil) fun e => e
end
end Nb
set_option maxRecDepth 100000
set_option maxHeartbeats 2000000
/-! Nb: calls that leave a default out; strip; texts compared. -/
namespace Nb
open PySem PySem.Spec PyProof.Rows L2
/-- a def called without its keywords: dd stand for them -/
structure HasD (P : Program) (w : World) (K : PySem.W.Frag) (mg : Str → Option Value) (base : Heap) (x : Str) (k : Nat) (fr : Bool) (dd : List D) (S : DSp) : Prop where
  ex : ∃ f fd ps us dvs, FnOk P w K mg base (L2N.CX P w) k f fd ps (spD K mg fr S) ∧ mg x = some (.ref f) ∧ PySem.W.keepIn K (.ref f) = true ∧ Binds K fd ps us ∧ Vals dvs us ∧ ∀ R M H, RepL R M H dvs dd
section
variable {X : Cx} {A : Act} {W : WX}
structure CallOkD (X : Cx) (W : WX) (x : Str) (fr : Bool) (dd : List D) (S : DSp) : Prop where
  ex : ∃ k f fd ps us dvs, FnOk X.prog X.w X.K X.mg X.base (L2N.CX X.prog X.w) k f fd ps (spD X.K X.mg fr S) ∧ Room k X.A ∧ Gl X x ∧ X.mg x = some (.ref f) ∧ PySem.W.keepIn X.K (.ref f) = true ∧ Binds X.K fd ps us ∧ Vals dvs us ∧ (∀ R M H, RepL R M H dvs dd) ∧ (∀ σ, PassesAt (L2N.CX X.prog X.w) X σ (WE W σ)) ∧ (x == ("__debug__" : Str)) = false
theorem HasD.call {x : Str} {k : Nat} {dd : List D} {fr : Bool} {S : DSp} (h : HasD X.prog X.w X.K X.mg X.base x k fr dd S) (hr : Room k X.A) (tk : Takes X W) (hg : Gl X x := by rfl) (hd : (x == ("__debug__" : Str)) = false := by decide) : CallOkD X W x fr dd S := by
  obtain ⟨f, fd, ps, us, dvs, F, a, b, c, d, e⟩ := h.ex
  exact ⟨k, f, fd, ps, us, dvs, F, hr, hg, a, b, c, d, e, fun σ => L2N.passAt tk σ, hd⟩
end
end Nb
set_option maxRecDepth 100000
set_option maxHeartbeats 2000000
/-! Nb: comprehensions with two walks. -/
namespace Nb
open PySem PySem.Spec PyProof.Rows L2
end Nb
set_option maxRecDepth 100000
set_option maxHeartbeats 4000000
/-! NcI: xs.extend(ys) of an own list. -/
namespace Nb
open PySem PySem.Spec PyProof.Rows L2 TL
end Nb
set_option maxRecDepth 100000
set_option maxHeartbeats 4000000
/-! NcJ: a list is given up where other lists stand, unlike it. -/
namespace Nb
open PySem PySem.Spec PyProof.Rows L2
section
variable {R R2 : RC} {M M' M2 : Addr → Prop} {H H' H2 : Hp} {p : Addr} {xs : List V} {ds : List D}
theorem Rep.one {v : V} {d e : D} (r : Rep R M H v d) (f : Rep R2 M2 H2 v e) (h : e.flat = true) : d = e := by
  cases f <;> first | (cases h; done) | skip
  all_goals
    cases r
    rfl
theorem RepL.one : ∀ {v : List V} {d e : List D}, RepL R M H v d → RepL R2 M2 H2 v e → (∀ x ∈ e, x.flat = true) → d = e
  | _, _, _, .nil, .nil, _ => rfl
  | _, _, _, .cons a b, .cons c d, h => by rw [a.one c (h _ List.mem_cons_self), RepL.one b d fun x hx => h x (List.mem_cons_of_mem _ hx)]
end
end Nb
set_option maxRecDepth 100000
set_option maxHeartbeats 4000000
/-! NcK: a slice of an own list of flat things, a new list; the own list stays. -/
namespace Nb
open PySem PySem.Spec PyProof.Rows L2
end Nb
set_option maxRecDepth 100000
set_option maxHeartbeats 2000000
/-! Nb: comprehensions over range in a def that a suite calls. -/
namespace Nb
open PySem PySem.Spec PyProof.Rows L2
/-- how an iterator turns, whatever is at hand -/
structure TurnG (P : Program) (w : World) (K : PySem.W.Frag) (tg : Expr) (J : It) (fp : List Addr) (it : Addr) (tn : Nat → Heap → Prop) : Prop where
  obj : ∀ i h, tn i h → ∀ b ∈ fp, ∃ o, h.get? b = some o ∧ ∀ v, o.data ≠ .cell v
  keep : ∀ i h h', tn i h → (∀ b ∈ fp, ∀ o, h.get? b = some o → h'.get? b = some o) → tn i h'
  item : ∀ (X : Cx) (i : Nat) (pins : List (Addr × Obj)) (s : Shared) (σ : L2.St) (H : Hp) (E : Value → Shared → Prop), X.prog = P → X.w = w → X.K = K → L2.Inv X pins σ H s → (∀ b ∈ fp, FpOk X pins H b) → tn i s.heap → J.go i H →
    wpAny (model P w) X.A (pyNext (.ref it)) (fun r s1 => ∃ u, r = some u ∧ wpAny (model P w) X.A (letOwnedTupleGo tg (.ref it) u) (fun _ s2 => ∃ x H', L2.Inv X pins σ H' s2 ∧ RelV x u ∧ J.yld i H x H' ∧ tn (i + 1) s2.heap ∧ ∀ b ∈ fp, H' b = none) E s1) E s
  done : ∀ (X : Cx) (i : Nat) (pins : List (Addr × Obj)) (s : Shared) (σ : L2.St) (H : Hp) (E : Value → Shared → Prop), X.prog = P → X.w = w → X.K = K → (∃ x1, HotX.HotAt X.A x1 s.heap) → L2.Inv X pins σ H s → (∀ b ∈ fp, FpOk X pins H b) → tn i s.heap → J.stop i H →
    wpAny (model P w) X.A (pyNext (.ref it)) (fun r s1 => r = none ∧ L2.Inv X pins σ H s1) E s
  self : ∀ (A : Around) (i : Nat) (s : Shared) (Q E : Value → Shared → Prop), tn i s.heap → Q (.ref it) s → wpAny (model P w) A (pyIter (.ref it)) Q E s
def PIEG (X : Cx) (pins : List (Addr × Obj)) (σ : L2.St) (tg : Expr) (R : It → Hp → Prop) (itv : Value) (s2 : Shared) : Prop :=
  ∃ (it : Addr) (fp : List Addr) (tn : Nat → Heap → Prop) (J : It) (H' : Hp), itv = .ref it ∧ L2.Inv X pins σ H' s2 ∧ TurnG X.prog X.w X.K tg J fp it tn ∧ tn 0 s2.heap ∧ (∀ b ∈ fp, FpOk X pins H' b) ∧ R J H'
structure PIG (X : Cx) (tg iter : Expr) (wi : TI) : Prop where
  run : ∀ (pins : List (Addr × Obj)) (s : Shared) (σ : L2.St) (H : Hp) (R : It → Hp → Prop), L2.Inv X pins σ H s → wi σ H R →
    wpAny (model X.prog X.w) X.A (eval iter X.env) (fun v s1 => wpAny (model X.prog X.w) X.A (pyIter v) (PIEG X pins σ tg R) X.xe s1) X.xe s
structure GIG (X : Cx) (A : Act) (W : WX) (tg it : Expr) (g : DI) : Prop where
  p : PIG X tg it (toI A W g)
section
variable {X : Cx} {elt tg iter : Expr} {ifs : List Expr} {scope : Scope} {own : List (Str × Nat)} {pos : Pos} {wi : TI} {g : TG} {tt : TT} {te : TE}
theorem pe_lcH (hot : L2H.HotC X) (hN : X.N.Nodup) (hi : PIG X tg iter wi) (ok : BlkOk X.N X.env.scope scope own)
    (hg : ∀ (s : Shared) (H : Hp) (C : Addr) (cl : List (Str × Addr)) (fp : List Addr), PG (X.blk s H scope (compEnvC scope cl C X.env) fp) tg g)
    (ht : ∀ (s : Shared) (H : Hp) (C : Addr) (cl : List (Str × Addr)) (fp : List Addr), PTs (X.blk s H scope (compEnvC scope cl C X.env) fp) ifs tt)
    (he : ∀ (s : Shared) (H : Hp) (C : Addr) (cl : List (Str × Addr)) (fp : List Addr), PE (X.blk s H scope (compEnvC scope cl C X.env) fp) elt te)
    (hs : ∀ x, foldedSetIterable iter X.env x = pure x := by intro _; rfl) : PE X (.ListComp elt [⟨tg, iter, ifs, 0⟩] scope pos) (tLc wi g tt te (own.map (·.2))) := by
  refine ⟨fun pins s σ H Q I h => ?_⟩
  rw [eval_ListComp]
  have hclo : closureFor scope X.env = pure (cloFrom X.env.cells scope.names []) := closure_ok fun y hy e => (ok.free y hy e).elim (fun k => I.ok.has _ (.inl k)) fun k => I.ok.has _ (.inr k)
  refine comprehension_at (use := none) rfl hs hclo ok.kind (fun y hy e => by rw [ok.uniq y hy, e]) (thn (hi.run pins s σ H _ I h) fun xv s1 hx => thn hx fun itv s2 h2 => ?_)
  obtain ⟨it, fp, tn, J, H2, rfl, I2, T, st2, f2, q⟩ := h2
  refine wpAny_newObj_type (newEnv_comp ?_) (by show 0 ≤ sizeLine; decide)
  obtain ⟨D, hD⟩ : ∃ D, D = s2.heap.objs.size := ⟨_, rfl⟩
  have hDn : H2 D = none := I2.hok.fresh (Nat.le_of_eq hD.symm)
  obtain ⟨V, ⟨m0, w0⟩, turn⟩ := q D hDn
  obtain ⟨s3, hs3⟩ : ∃ s3 : Shared, s3 = { s2 with heap := s2.heap.push { cls := .type "list", data := .seq ([] : List Value).toArray } } := ⟨_, rfl⟩
  have kept3 : ∀ b o, s2.heap.get? b = some o → s3.heap.get? b = some o := fun b o e => by rw [hs3]; exact Heap.get?_push_of_some _ e
  have size3 : s3.heap.objs.size = s2.heap.objs.size + 1 := by rw [hs3]; exact Heap.size_push ..
  have I3 : L2.Inv X pins σ (upd H2 D (.lst [])) s3 := by
    rw [hs3]
    refine I2.laid (t' := s2.toks) (fun b o e => Heap.get?_push_of_some _ e) (Nat.le_of_eq hD.symm) ⟨Nat.zero_le _, [], 0, .nil, ?_⟩
    rw [hD]
    exact Heap.get?_push_size _ rfl
  have lowfp : ∀ b ∈ fp, b < s2.heap.objs.size := fun b hb => (let ⟨_, e, _⟩ := T.obj _ _ st2 b hb; Heap.lt_size e)
  have f3 : ∀ b ∈ fp, FpOk X pins (upd H2 D (.lst [])) b ∧ b < s3.heap.objs.size := fun b hb =>
    ⟨⟨by rw [upd_ne (by rw [hD]; exact Nat.ne_of_lt (lowfp b hb))]; exact (f2 b hb).1, (f2 b hb).2⟩, by rw [size3]; exact Nat.lt_succ_of_lt (lowfp b hb)⟩
  have st3 : tn 0 s3.heap := T.keep _ _ _ st2 fun b _ o e => kept3 b o e
  have I4 := block_start I3 ok hN f3
  obtain ⟨cl, hcl⟩ : ∃ cl, cl = cellsFrom (s3.heap.objs.size + 1) scope.names (cloFrom X.env.cells scope.names []) := ⟨_, rfl⟩
  obtain ⟨ce, hce⟩ : ∃ ce, ce = compEnvC scope cl s3.heap.objs.size X.env := ⟨_, rfl⟩
  have cL : ce.locals = s3.heap.objs.size := by rw [hce]; rfl
  rw [← hcl, ← hce] at I4
  have pg := hg s3 (upd H2 D (.lst [])) s3.heap.objs.size cl fp
  have pt := ht s3 (upd H2 D (.lst [])) s3.heap.objs.size cl fp
  have pe := he s3 (upd H2 D (.lst [])) s3.heap.objs.size cl fp
  rw [← hce] at pg pt pe
  have nfp : ∀ b ∈ fp, (upd H2 D (.lst [])) b = none := fun b hb => (f3 b hb).1.1
  obtain ⟨H3, hH3⟩ : ∃ H3, H3 = upd H2 D (.lst []) := ⟨_, rfl⟩
  rw [← hH3] at I3 I4 pg pt pe w0 nfp f3
  have stat : ∀ {σ' : L2.St} {H' : Hp} {s' : Shared}, L2.Inv (X.blk s3 H3 scope ce fp) [] σ' H' s' → (∀ b ∈ fp, H' b = none) → ∀ b ∈ fp, FpOk (X.blk s3 H3 scope ce fp) [] H' b := fun {σ' H' s'} I' hn b hb =>
    ⟨hn b hb, (I'.ok.exf b hb).1, I'.ok.exfs b hb, .inl hb, fun x c e => (I'.ok.exf b hb).2 x c e, fun p hp => by cases (show p ∈ ([] : List (Addr × Obj)) from hp)⟩
  obtain ⟨s4, hs4⟩ : ∃ s4 : Shared, s4 = { s3 with heap := pushCells (s3.heap.push { cls := .type "dict", data := .dict #[] }) scope.names } := ⟨_, rfl⟩
  rw [← hs4] at I4
  have st4 : tn 0 s4.heap := T.keep _ _ _ st3 fun b _ o e => by rw [hs4]; exact pushCells_keeps _ _ _ _ (Heap.get?_push_of_some _ e)
  have outer : ∀ {σ' : L2.St} {H' : Hp} {s' : Shared}, L2.Inv (X.blk s3 H3 scope ce fp) [] σ' H' s' → L2.Inv X pins σ H' s' := fun {σ' H' s'} I' =>
    I3.call' (ch := fp) I'.os I'.base I'.hok I'.bare fun b hb => (let ⟨_, b1, _, b3, b4, b5⟩ := (f3 b hb).1; ⟨b3, b1, b4, b5⟩)
  have loop : codeAny (model X.prog X.w) X.A (.compLoop (.ListComp elt [⟨tg, iter, ifs, 0⟩] scope pos) 0 (.ref it) (.ref D) ce) (compEnds (model X.prog X.w) X.A X.xe none (EP X pins σ Q) (.ref D) ce) s4 := by
    refine compLoop_any (fun n s' => ∃ i H', L2.Inv (X.blk s3 H3 scope ce fp) [] (L2.wipe σ (own.map (·.2))) H' s' ∧ tn i s'.heap ∧ (∀ b ∈ fp, H' b = none) ∧ V i n H') ?_ m0 ⟨0, H3, I4, st4, nfp, w0⟩
    rintro n s5 ⟨i, H5, I5, st5, n5, w5⟩
    rcases turn i n H5 w5 with ⟨stop, qq⟩ | ⟨go, Nx, hNx, step⟩
    · have td := T.done (X.blk s3 H3 scope ce fp) i [] s5 _ H5 (fun _ _ => False) rfl rfl rfl (hot.at (outer I5)) I5 (stat I5 n5) st5 stop
      refine thnF td fun r s6 ⟨hr, I6⟩ => ?_
      subst hr
      have I7 := outer I6
      have nC : H5 s3.heap.objs.size = none := by
        have z : H5 ce.locals = none := I6.free
        rwa [cL] at z
      obtain ⟨m, hn, _⟩ := I6.loc
      obtain ⟨p0, p1, p2, p3, p4, p5⟩ := I3.fpOk (H' := H5) (Nat.le_refl _) nC
      refine ⟨m, hn, fun h'' sb => ⟨.ref D, H5, I7.turned (t' := s6.toks) (fun b o hb e => (sb.2 b (by rw [cL]; exact hb)).trans e) p0 p1 p3 p4 p5, rfl, qq⟩⟩
    · have ti := T.item (X.blk s3 H3 scope ce fp) i [] s5 _ H5 (fun _ _ => False) rfl rfl rfl I5 (stat I5 n5) st5 go
      refine thnF ti fun r s6 ⟨u, hr, h6⟩ => ?_
      subst hr
      refine thnF h6 fun _ s7 ⟨x, H7, I7, r7, y7, st7, n7⟩ => ?_
      refine thnF (pg.run _ s7 _ H7 x u _ (I7.pinned (stat I7 n7) (T.obj _ _ st7)) r7 (step x H7 y7)) fun _ s8 ⟨σ8, H8, I8, hw8, q8⟩ => thnF (pt.run _ s8 σ8 H8 _ I8 q8) fun b s9 ⟨H9, I9, q9⟩ => ?_
      have fin : ∀ {s' : Shared} {H' : Hp}, L2.Inv (X.blk s3 H3 scope ce fp) ([] ++ pinsAt fp s7.heap) σ8 H' s' → Nx H' → ∃ m, m < n ∧ ∃ i H', L2.Inv (X.blk s3 H3 scope ce fp) [] (L2.wipe σ (own.map (·.2))) H' s' ∧ tn i s'.heap ∧ (∀ b ∈ fp, H' b = none) ∧ V i m H' := by
        intro s' H' I' nx
        obtain ⟨m', hm, w'⟩ := hNx H' nx
        have pin' : ∀ b ∈ fp, ∀ o, s7.heap.get? b = some o → s'.heap.get? b = some o ∧ H' b = none := fun b hb o e => (let z := I'.pin (b, o) (List.mem_append_right _ (List.mem_append_right _ (mem_pinsAt hb e))); ⟨z.1, z.2.1⟩)
        refine ⟨m', hm, i + 1, H', (I'.unpinned (pins := [])).weak (by rw [← hw8, wipe_length]) (fun j v e => by rw [← hw8] at e; exact (wipe_some e).1), T.keep _ _ _ st7 fun b hb o e => (pin' b hb o e).1, fun b hb => ?_, w'⟩
        obtain ⟨o, e, _⟩ := T.obj _ _ st7 b hb
        exact (pin' b hb o e).2
      cases b with
      | false =>
        simp only [Bool.false_eq_true, if_false] at q9 ⊢
        exact fin I9 q9
      | true =>
        simp only [if_true] at q9 ⊢
        refine thnF (pe.run _ s9 σ8 H9 _ I9 q9) fun z s10 ⟨yv, H10, I10, r10, acc, hD10, hz10, nx⟩ => ?_
        exact app_ok (X := X.blk s3 H3 scope ce fp) I10 hD10 hz10 r10 fun s11 I11 => fin I11 nx
  subst hs4
  subst hce
  subst hcl
  subst hs3
  subst hD
  exact codeAny_compStart_list loop (T.self X.A 0 _ _ _ st4 loop)
end
section
variable {X : Cx} {A : Act} {W : WX}
/-- [e for t in range(n) if c] where an exception is at hand -/
theorem gf_lcH {elt tg iter : Expr} {ifs : List Expr} {scope : Scope} {own : List (Str × Nat)} {pos : Pos} {gi : DI} {t : DG} {c : DB} {ge : DE} {js : List Nat} {a C : Addr} {d : Option Addr} (xa : ExcAt X a C d) (hN : X.N.Nodup) (hi : GIG X A W tg iter gi) (ok : blkC X.N X.env.scope scope own = true)
    (hj : ∀ j ∈ js, j ∈ own.map (·.2))
    (hg : ∀ (B : Act), B.R = A.R → ∀ (s : Shared) (H : Hp) (C : Addr) (cl : List (Str × Addr)) (fp : List Addr), GG (X.blk s H scope (compEnvC scope cl C X.env) fp) B js tg t)
    (ht : ∀ (B : Act), B.R = A.R → ∀ (s : Shared) (H : Hp) (C : Addr) (cl : List (Str × Addr)) (fp : List Addr), GTs (X.blk s H scope (compEnvC scope cl C X.env) fp) B W0 ifs c)
    (he : ∀ (B : Act), B.R = A.R → ∀ (s : Shared) (H : Hp) (C : Addr) (cl : List (Str × Addr)) (fp : List Addr), GE (X.blk s H scope (compEnvC scope cl C X.env) fp) B W0 elt ge)
    (hs : ∀ x, foldedSetIterable iter X.env x = pure x := by intro _; rfl) : GF X A W (.ListComp elt [⟨tg, iter, ifs, 0⟩] scope pos) (dlc gi t c ge (own.map (·.2))) := by
  refine ⟨pe_imp (pe_lcH (wi := toI A W gi) (g := fun v σ H Q => ∃ B : Act, B.R = A.R ∧ toG B js t v σ H Q) (tt := fun σ H Q => ∃ B : Act, B.R = A.R ∧ toB B W0 c σ H Q) (te := fun σ H Q => ∃ B : Act, B.R = A.R ∧ toE B W0 ge σ H Q) xa.hot hN hi.p (blkOk_by ok) ?_ ?_ ?_ hs) fun σ H Q h => ?_⟩
  · exact fun s H C cl fp => ⟨fun pins s' σ H' v u Q I r ⟨B, e, w⟩ => (hg B e s H C cl fp).p.run pins s' σ H' v u Q I r w⟩
  · exact fun s H C cl fp => ⟨fun pins s' σ H' Q I ⟨B, e, w⟩ => (ht B e s H C cl fp).p.run pins s' σ H' Q I w⟩
  · exact fun s H C cl fp => ⟨fun pins s' σ H' Q I ⟨B, e, w⟩ => (he B e s H C cl fp).p.run pins s' σ H' Q I w⟩
  · exact lc_of hj (fun _ _ _ h => h) (fun B e v σ H Q h => ⟨B, e, h⟩) (fun B e σ H Q h => ⟨B, e, h⟩) (fun B e σ H Q h => ⟨B, e, h⟩) h
end
end Nb
set_option maxRecDepth 100000
set_option maxHeartbeats 2000000
/-! Nb: walks over enumerate(list). -/
namespace Nb
open PySem PySem.Spec PyProof.Rows L2
end Nb
set_option maxRecDepth 100000
set_option maxHeartbeats 2000000
/-! Nb: walks over lists, sum, where an exception is at hand. -/
namespace Nb
open PySem PySem.Spec PyProof.Rows L2
section
variable {prog : Program} {w : World} {A : Around} {E : Value → Shared → Prop} {s : Shared}
theorem list_end_hot {j l x1 : Addr} {i : Nat} {xs : Array Value} {Q : Option Value → Shared → Prop} (hot : HotX.HotAt A x1 s.heap) (hI : s.heap.IsListIter j l i) (hl : s.heap.IsList l xs) (hx : xs[i]? = none)
    (hQ : ∀ h', (∀ b o, b ≠ j → s.heap.get? b = some o → h'.get? b = some o) → Q none { s with heap := h' }) : wpAny (model prog w) A (pyNext (.ref j)) Q E s := by
  obtain ⟨hh, o1, vs1, h1, d1, c1⟩ := hot
  obtain ⟨oj, hj, hc, hd⟩ := id hI
  obtain ⟨ol, hol, _, nl, hdl⟩ := hl
  have nj : x1 ≠ j ∨ (oj = o1 ∧ vs1[2]? = (#[Value.ref l, .int i 0] : Array Value)[2]?) := by
    by_cases z : x1 = j
    · subst z
      rw [hj] at h1
      cases h1
      rw [hd] at d1
      cases d1
      exact .inr ⟨rfl, rfl⟩
    · exact .inl z
  have nj : x1 ≠ j := by
    rcases nj with z | ⟨_, z⟩
    · exact z
    · rw [c1] at z
      cases z
  unfold pyNext
  refine wpAny_bind (wpAny_attempt (wpAny_callSpecial?_slot (name := Str.ofString "__next__") hI.typeIs slot_listiter_next (wpAny_call_entry slot_listiter_next hI.typeIs entry_listiter_next ?_ (args_listiter_next _))))
  show wpAny _ A.in1 (field (.ref j) 0 >>= _) _ _ s
  refine wpAny_bind (wpAny_field hj hd (x := .ref l) rfl ?_)
  show wpAny _ A.in1 (if (Value.ref l == Value.none) = true then _ else _) _ _ s
  rw [if_neg (show ¬ ((Value.ref l == Value.none) = true) from fun z => Bool.noConfusion z)]
  show wpAny _ A.in1 (field (.ref j) 1 >>= _) _ _ s
  refine wpAny_bind (wpAny_field hj hd (x := .int i 0) rfl ?_)
  show wpAny _ A.in1 (seqItems? (.ref l) >>= _) _ _ s
  refine wpAny_bind (wpAny_seqItems hol hdl ?_)
  simp only [Int.toNat_natCast, hx]
  refine wpAny_bind (wpAny_rule (wpAny_bind (wpAny_setField hj hd (by simp) ?_)))
  show wpAny _ A.in1 (newExc (.type "StopIteration") [] >>= _) _ _ _
  refine wpAny_bind ?_
  simp only [newExc, newTuple]
  refine wpAny_bind <| wpAny_newObj_type ?_ (by size_fits)
  refine wpAny_bind (m := firstArgMember _ _) (wpAny_of_eq (a := Value.none) (by first | (simp only [firstArgMember]; rfl) | rfl) ?_)
  refine wpAny_newObj_type (Q := _) ?_ (by size_fits)
  have k1 : (s.heap.update j (Obj.mapFields (·.setIfInBounds 0 Value.none))).get? x1 = some o1 := (Heap.get?_update_other _ _ (Ne.symm nj)).trans h1
  refine HotX.raiseNew_hot ⟨hh, o1, vs1, Heap.get?_push_of_some _ (Heap.get?_push_of_some _ k1), d1, c1⟩ (Nat.ne_of_lt (Heap.lt_size (Heap.get?_push_of_some _ k1))) (Heap.get?_push_size _ rfl) rfl (by first | (simp; done) | (simp; omega) | (simp only [Array.size_append]; simp; omega)) ?_
  refine wpAny_bind (wpAny_isInstance (T := "StopIteration") (b := true) ⟨_, Heap.get?_update_self _ (Heap.get?_push_size _ rfl) rfl, rfl⟩ isSubtype_stop <| wpAny_pure (hQ _ fun b o hb e => ?_))
  have e2 : (s.heap.update j (Obj.mapFields (·.setIfInBounds 0 Value.none))).get? b = some o := (Heap.get?_update_other _ _ (Ne.symm hb)).trans e
  rw [Heap.get?_update_other _ _ (Nat.ne_of_gt (Heap.lt_size (Heap.get?_push_of_some _ e2)))]
  exact Heap.get?_push_of_some _ (Heap.get?_push_of_some _ e2)
end
theorem turnG_list {P : Program} {w : World} {K : PySem.W.Frag} {tg : Expr} (a j : Addr) : TurnG P w K tg (Itl K a) [j] j (fun i h => h.IsListIter j a i) := by
  refine ⟨fun i h st b hb => ?_, fun i h h' st k => st.at fun o e => k j List.mem_cons_self o e, fun X i pins s σ H E hP hw hK I hf st hg => ?_, fun X i pins s σ H E hP hw hK hot I hf st hg => ?_, fun _ _ _ _ _ st h => wpAny_pyIter_listiter st h⟩
  · rw [List.mem_singleton.mp hb]
    obtain ⟨o, e, c, d⟩ := st
    exact ⟨o, e, fun v z => by rw [d] at z; cases z⟩
  · subst hP hw hK
    obtain ⟨xs, x, hq, hx⟩ := hg
    obtain ⟨its, rv, p, _⟩ := I.list hq
    obtain ⟨u, hu, ru⟩ := rv.get hx
    obtain ⟨f0, f1, f2, f3, f4, f5⟩ := hf j List.mem_cons_self
    refine wpAny_pyNext_list_item st p.isList (x := u) (by simpa using hu) fun h' st' sb => ⟨u, rfl, ?_⟩
    have J1 : L2.Inv X pins σ H { s with heap := h' } := I.turned (t' := s.toks) (fun b o hb e => (sb.2 b hb).trans e) f0 f1 f3 f4 f5
    obtain ⟨o, e, c, d⟩ := id st'
    exact go_of (s := { s with heap := h' }) e c d (by decide) ⟨x, H, J1, ru, ⟨rfl, fun ys hy => by rw [I.list_inj hy hq]; exact hx⟩, st', fun b hb => (hf b hb).1⟩
  · subst hP hw hK
    obtain ⟨xs, hq, hx⟩ := hg
    obtain ⟨its, rv, p, _⟩ := I.list hq
    obtain ⟨f0, f1, f2, f3, f4, f5⟩ := hf j List.mem_cons_self
    obtain ⟨x1, hot⟩ := hot
    have hl := rv.length
    exact list_end_hot hot st p.isList (by simp; omega) fun h' eb => ⟨rfl, I.turned (t' := s.toks) (fun b o hb e => eb b o hb e) f0 f1 f3 f4 f5⟩
section
variable {X : Cx} {A : Act} {W : WX}
theorem gi_listG {tg e : Expr} {g : DE} (h : GE X A W e g) : GIG X A W tg e (diL g) := by
  refine ⟨⟨fun pins s σ H R I ⟨env, Qd, Ed, E, w, q, x⟩ => ?_⟩⟩
  have w' : toE A W g σ H fun v H1 => ∃ a, v = .ref a ∧ (∃ xs, SqL X.K H1 a xs) ∧ R (Itl X.K a) H1 := toE_step E w x fun v d H1 s E1 _ r hd => by
    cases r <;> first | exact hd.elim | skip
    rename_i a xs ds e1 n rl
    exact ⟨a, rfl, ⟨xs, SqL.of e1⟩, q _ ds H1 s (walk_list _ e1 n rl) hd⟩
  refine thn (h.p.run pins s σ H _ I w') fun v s1 ⟨x1, H1, I1, r1, a, e1, ⟨xs, hq⟩, qq⟩ => ?_
  subst e1
  cases r1
  obtain ⟨its, rv, p, _⟩ := I1.list hq
  refine wpAny_pyIter_list p.isList ⟨s1.heap.objs.size, [s1.heap.objs.size], _, _, H1, rfl, I1.kept (t' := s1.toks) fun b o e => Heap.get?_push_of_some _ e, turnG_list a _, ⟨_, Heap.get?_push_size _ rfl, rfl, rfl⟩, fun b hb => ?_, qq⟩
  rw [List.mem_singleton.mp hb]
  exact I1.fpOk (Nat.le_refl _) (I1.hok.fresh (Nat.le_refl _))
end
section
variable {prog : Program} {w : World} {A : Around} {E : Value → Shared → Prop} {s : Shared}
/-- a walk over the list at l where the exception at x1 is at hand -/
theorem walks_hot {x1 j l : Addr} {o1 : Obj} {vs1 : Array Value} (hh : A.handled = some (.ref x1)) (d1 : o1.data = .fields vs1) (c1 : vs1[2]? = some .none) (hne : l ≠ j) (n1 : x1 ≠ j) (xs : Array Value) :
    Walks prog w A j [j, l, x1] [j] xs.size (fun i v => xs[i]? = some v) (fun i h => h.IsListIter j l i ∧ h.IsList l xs ∧ h.get? x1 = some o1) where
  sub := fun b hb => by rw [List.mem_singleton.mp hb]; exact List.mem_cons_self
  frame := fun _ _ _ st hk => ⟨st.1.at fun o e => hk j (by simp) o e, st.2.1.at fun o e => hk l (by simp) o e, hk x1 (by simp) _ st.2.2⟩
  item := fun i s Q E hi st hQ => by
    refine wpAny_pyNext_list_item st.1 st.2.1 (x := xs[i]) (by simp [hi]) fun h' hit' hs' => ?_
    exact hQ _ h' s.toks (by simp [hi]) ⟨hit', st.2.1.extBut hs'.extBut hne, hs'.extBut x1 _ n1 st.2.2⟩ fun b o hb e => hs'.extBut b o (fun z => hb (List.mem_singleton.mpr z)) e
  done := fun s Q E st hQ => list_end_hot ⟨hh, o1, vs1, st.2.2, d1, c1⟩ st.1 st.2.1 (by simp) fun h' he' => hQ h' s.toks fun b o hb e => he' b o (fun z => hb (List.mem_singleton.mpr z)) e
  self := fun _ _ _ _ st hQ => wpAny_pyIter_listiter st.1 hQ
theorem sum_hot {l x1 : Addr} {xs : Array (Int × Tok)} {Q : Value → Shared → Prop} (hot : HotX.HotAt A x1 s.heap) (hl : s.heap.IsList l (intItems xs))
    (h : ∀ h' tk t', (∀ b o, s.heap.get? b = some o → h'.get? b = some o) → Q (.int (preSum (numAt xs) xs.size) t') { s with heap := h', toks := tk }) : wpAny (model prog w) A (call (.builtin "sum") [.ref l]) Q E s := by
  obtain ⟨hh, o1, vs1, h1, d1, c1⟩ := hot
  have lt1 : x1 < s.heap.objs.size := Heap.lt_size h1
  refine call_sum_walkG (iter_intList hl fun s₂ e st hfp hlI => ?_)
  subst e
  refine ⟨_, _, _, _, _, _, numAt xs, rfl, walks_hot (A := A.in1) hh d1 c1 hlI (Nat.ne_of_lt lt1) (intItems xs), ⟨st.1, st.2, Heap.get?_push_of_some _ h1⟩, fun b hb => ?_, (fun _ _ => intItems_at), fun h' tk t' hk => ?_⟩
  · simp only [List.mem_cons, List.not_mem_nil, or_false] at hb
    rcases hb with rfl | rfl | rfl
    · exact hfp _ (by simp)
    · exact hfp _ (by simp)
    · show _ < (s.heap.push _).objs.size
      rw [Heap.size_push]
      exact Nat.lt_succ_of_lt lt1
  · have := h h' tk t' (old_kept hk)
    simpa [intItems] using this
end
section
variable {X : Cx} {A : Act} {W : WX}
theorem cr_sumH (hot : L2H.HotC X) : CallR X (.builtin "sum") (rSum X.K) := by
  intro pins s σ H vs us Q I r ⟨a, ns, e, hs, q⟩
  subst e
  obtain ⟨its, rv, hl, _⟩ := I.list hs
  obtain ⟨x1, hx⟩ := hot.at I
  rw [Vals.ref1 r]
  have hi := rv.ints
  obtain ⟨xs, e⟩ := hi.allInts.items
  have hn : numsOf (intItems xs).toList = ns := by rw [← e]; exact hi.numsOf
  have hl := hl.isList
  rw [nums_intItems] at hn
  rw [e] at hl
  refine sum_hot hx hl fun h' tk t' hk => ?_
  rw [preSum_eq, List.take_of_length_le (by simp), hn]
  exact ⟨.int _, H, I.kept hk, ⟨_, rfl⟩, q⟩
theorem b_sumH (hot : L2H.HotC X) : BLT X A (.builtin "sum") fSum := by
  refine ⟨_, cr_sumH hot, ?_⟩
  intro M H xs ds Q Qd hst hf r h k
  match ds, r, h with
  | [.lst ds], .cons (.lst (a := a) (xs := vs) e n rl) .nil, ⟨ns, h1, h2⟩ =>
    subst h1
    rw [rl.intsV] at e
    exact ⟨a, ns, rfl, SqL.of e, k _ _ H (Stp.refl _ _) (.int _) h2⟩
end
end Nb
set_option maxRecDepth 100000
set_option maxHeartbeats 2000000
/-! Nb: what a call of flat arguments hands back is new: it may be spoilt. -/
namespace Nb
open PySem PySem.Spec PyProof.Rows L2
end Nb
set_option maxRecDepth 100000
/-! NcP: zip of two texts. -/
namespace Nb
open PySem PySem.Spec PyProof.Rows L2
end Nb
set_option maxRecDepth 100000
/-! NcQ: a text times a number. -/
namespace Nb
open PySem PySem.Spec PyProof.Rows L2
end Nb
set_option maxRecDepth 100000
/-! NcR: xs.index(text), xs a list of texts. -/
namespace Nb
open PySem PySem.Spec PyProof.Rows L2
end Nb
set_option maxRecDepth 100000
/-! NcS: a text times a number that may be 0 or 1. -/
namespace Nb
open PySem PySem.Spec PyProof.Rows L2
end Nb
set_option maxRecDepth 100000
/-! NcT: a list of the def's own is read where a name is given data without lists, and changes later. -/
namespace Nb
open PySem PySem.Spec PyProof.Rows L2
mutual
/-- no list and no object in it -/
def D.nl : D → Bool
  | .non => true
  | .bl _ => true
  | .int _ => true
  | .str _ => true
  | .ty _ => true
  | .sto => true
  | .tup ds => D.nlL ds
  | _ => false
def D.nlL : List D → Bool
  | [] => true
  | d :: ds => D.nl d && D.nlL ds
end
theorem TAt.nl {K : PySem.W.Frag} {M M' : Addr → Prop} {H : Hp} {a : Addr} {xs : List V} (hm : ∀ a, M' a → M a ∨ ∃ ys, H a = some (.lst ys)) (h : TAt K M H a xs) : TAt K M' H a xs := by
  rcases h with ⟨h, n⟩ | h
  · refine .inl ⟨h, fun z => ?_⟩
    rcases hm a z with z | ⟨ys, z⟩
    · exact n z
    · rcases h with h | ⟨o, h⟩ <;> (rw [h] at z; cases z)
  · exact .inr h
mutual
theorem Rep.nl {R : RC} {M M' : Addr → Prop} {H : Hp} (hm : ∀ a, M' a → M a ∨ ∃ ys, H a = some (.lst ys)) : ∀ {v : V} {d : D}, Rep R M H v d → d.nl = true → Rep R M' H v d
  | _, _, .non, _ => .non
  | _, _, .bl b, _ => .bl b
  | _, _, .int i, _ => .int i
  | _, _, .str x, _ => .str x
  | _, _, .ty n, _ => .ty n
  | _, _, .sto e, _ => .sto e
  | _, _, .tup t l, h => .tup (t.nl hm) (RepL.nl hm l (by simpa [D.nl] using h))
  | _, _, .lst _ _ _, h => by simp [D.nl] at h
  | _, _, .exc0 _ _, h => by simp [D.nl] at h
  | _, _, .excF _ _ _ _ _, h => by simp [D.nl] at h
  | _, _, .ins _ _ _ _, h => by simp [D.nl] at h
  | _, _, .dct _ _, h => by simp [D.nl] at h
theorem RepL.nl {R : RC} {M M' : Addr → Prop} {H : Hp} (hm : ∀ a, M' a → M a ∨ ∃ ys, H a = some (.lst ys)) : ∀ {v : List V} {d : List D}, RepL R M H v d → D.nlL d = true → RepL R M' H v d
  | _, _, .nil, _ => .nil
  | _, _, .cons a b, h => by
    rw [D.nlL, Bool.and_eq_true] at h
    exact .cons (Rep.nl hm a h.1) (RepL.nl hm b h.2)
end
section
variable {X : Cx} {A : Act} {W : WX}
theorem mm_bor {H H' : Hp} {σ : L2.St} {env : DEnv} {i : Nat} {d : D} (E : ERep A H σ env) (s : Stp A.R H H') : ∀ a, MM A σ env a → MM A σ (env.set i (.val d)) a ∨ ∃ ys, H' a = some (.lst ys) := fun a z => by
  rcases z with z | ⟨j, ds, z1, z2⟩
  · exact .inl (.inl z)
  · obtain ⟨b, vs, e1, e2, _⟩ := (E.stp s).own j ds z1
    rw [z2] at e1
    cases e1
    exact .inr ⟨_, e2⟩
/-- slot i's list is read, what comes has no list in it -/
def dborE (i : Nat) (g : DE) : DE := fun env Q _ => match env[i]? with
  | some (.own ds) => g (env.set i (.val (.lst ds))) (fun d => d.nl = true ∧ Q d) fun _ => False
  | _ => False
theorem ge_bor {i : Nat} {e : Expr} {g : DE} (h : GE X A W e g) : GE X A W e (dborE i g) := by
  refine ⟨pe_imp h.p fun σ H Q ⟨env, Qd, Ed, E, h, q, x⟩ => ?_⟩
  unfold dborE at h
  cases e1 : env[i]? with
  | none => rw [e1] at h; exact h.elim
  | some z =>
    rw [e1] at h
    cases z with
    | un => exact h.elim
    | val d => exact h.elim
    | own ds => exact ⟨_, _, fun _ => False, (E.freeze e1).1, h, fun v d H' s r ⟨hn, hq⟩ => q v d H' s (r.nl (mm_bor E s) hn) hq, fun _ _ _ _ _ _ z => z.elim⟩
/-- the same where what comes is a new list -/
def dborF (i : Nat) (g : DF) : DF := fun env Q _ => match env[i]? with
  | some (.own ds) => g (env.set i (.val (.lst ds))) (fun es => D.nlL es = true ∧ Q es) fun _ => False
  | _ => False
theorem gf_bor {i : Nat} {e : Expr} {g : DF} (h : GF X A W e g) : GF X A W e (dborF i g) := by
  refine ⟨pe_imp h.p fun σ H Q ⟨env, Qd, Ed, E, h, q, x⟩ => ?_⟩
  unfold dborF at h
  cases e1 : env[i]? with
  | none => rw [e1] at h; exact h.elim
  | some z =>
    rw [e1] at h
    cases z with
    | un => exact h.elim
    | val d => exact h.elim
    | own ds =>
      refine ⟨_, _, fun _ => False, (E.freeze e1).1, h, fun p vs es H' hp s e r ⟨hn, hq⟩ => q p vs es H' hp s e (r.nl (fun a z => ?_) hn) hq, fun _ _ _ _ _ _ z => z.elim⟩
      rcases z with z | z
      · rcases mm_bor (i := i) (d := .lst ds) E s a z with z | z
        · exact .inl (.inl z)
        · exact .inr z
      · exact .inl (.inr z)
end
end Nb
set_option maxRecDepth 100000
/-! NcU: a list of the def's own is spoilt by its name. -/
namespace Nb
open PySem PySem.Spec PyProof.Rows L2
end Nb
set_option maxRecDepth 100000
/-! NcV: a list of the def's own, of flat things or tuples of flat things, is spoilt by its name. -/
namespace Nb
open PySem PySem.Spec PyProof.Rows L2
/-- flat, or a tuple of flat things -/
def D.shal : D → Bool
  | .non | .bl _ | .int _ | .str _ => true
  | .tup ds => ds.all D.flat
  | _ => false
theorem Rep.shal {K : PySem.W.Frag} {mg mg' : Str → Option Value} {st st' : Option Addr} {M M' : Addr → Prop} {H : Hp} (hn : ∀ (b : Addr) (ys : List V), Rd H b (.tup ys) → M' b → False) {v : V} {d : D} {hx hx'} (r : Rep ⟨K, mg, st, hx⟩ M H v d) (h : d.shal = true) : Rep ⟨K, mg', st', hx'⟩ M' H v d := by
  cases r <;> first | (cases h; done) | skip
  · exact .non
  · exact .bl _
  · exact .int _
  · exact .str _
  · rename_i t rl
    refine .tup (t.imp (fun ⟨e, _⟩ => ⟨e, fun z => hn _ _ e z⟩) id) (rl.flat fun e he => ?_)
    exact List.all_eq_true.mp h e he
theorem RepL.shal {K : PySem.W.Frag} {mg mg' : Str → Option Value} {st st' : Option Addr} {hx hx'} {M M' : Addr → Prop} {H : Hp} (hn : ∀ (b : Addr) (ys : List V), Rd H b (.tup ys) → M' b → False) : ∀ {v : List V} {d : List D}, RepL ⟨K, mg, st, hx⟩ M H v d → (∀ e ∈ d, e.shal = true) → RepL ⟨K, mg', st', hx'⟩ M' H v d
  | _, _, .nil, _ => .nil
  | _, _, .cons a b, h => .cons (Rep.shal hn a (h _ List.mem_cons_self)) (RepL.shal hn b fun e he => h e (List.mem_cons_of_mem _ he))
theorem RepL.shal2 {R : RC} {mg : Str → Option Value} {M : Addr → Prop} {H : Hp} {v : List V} {d : List D} (r : RepL R M H v d) (h : ∀ e ∈ d, e.shal = true) : RepL ⟨R.K, mg, none, none⟩ (fun _ => False) H v d := RepL.shal (fun _ _ _ z => z) r h
/-- the promise of a def that spoils such a list -/
def spSpT (K : PySem.W.Frag) (mg : Str → Option Value) : Sp := fun vs H Q _ => ∃ (p : Addr) (xs : List V) (ds : List D), vs = [.ref p, .int 1] ∧ H p = some (.lst xs) ∧ RepL ⟨K, mg, none, none⟩ (fun _ => False) H xs ds ∧ (∀ d ∈ ds, d.shal = true) ∧ ds.length ≤ 100000 ∧ ∀ H', (∀ a o, H a = some o → a ≠ p → H' a = some o) → Q .non H'
structure HasSpT (P : Program) (w : World) (K : PySem.W.Frag) (mg : Str → Option Value) (base : Heap) (x : Str) (k : Nat) : Prop where
  ex : ∃ f fd, FnOk P w K mg base (L2N.CX P w) k f fd ["thing", "depth"] (spSpT K mg) ∧ mg x = some (.ref f) ∧ PySem.W.keepIn K (.ref f) = true ∧ Binds K fd ["thing", "depth"] []
/-- the def that spoils, from the reading of its body: the list stands in slot 0 -/
theorem fn_okSpT {P : Program} {w : World} {K : PySem.W.Frag} {mg : Str → Option Value} {base : Heap} {x qual : Str} {st : Stmt} {f : Addr} {fd : FuncData} {N : List Str} {k : Nat} (F : Fun K x qual st f fd) (sc : FnScope N ["thing", "depth"] (defScope st))
    (hb : ∀ (cdv : Value) (Ar : Around) (outer : List Env) (s : Shared) (H : Hp) (E : XK) (A : Act) (ds : List D), Room k (Ar.deeper (envOfC qual (defScope st) s.heap.objs.size f cdv)) → A.R.K = K → A.R.mg = mg → A.R.hx = none → A.fr = false → (∀ d ∈ ds, d.shal = true) → ds.length ≤ 100000 →
      ∃ g, GSs (cxOf (L2N.CX P w) P w K mg base N qual (defScope st) f cdv Ar outer s H E) A (fun cls d _ H => E cls d H) (defBody st) g ∧ g (endD false (fun d => d = .non) fun _ => False) (.own ds :: .val (.int 1) :: List.replicate (N.length - 2) .un)) :
    FnOk P w K mg base (L2N.CX P w) (k + 1) f fd ["thing", "depth"] (spSpT K mg) := by
  refine F.okN sc (fun vs H Q E ⟨p, xs, ds, e, _⟩ => by rw [e]; rfl) fun cdv Ar outer s H vs Q E hr ⟨p, xs, ds, e, hp, r, hf, hl, q⟩ => ?_
  subst e
  obtain ⟨g, G, hg⟩ := hb cdv Ar outer s H E ⟨⟨K, mg, none, none⟩, fun a => if a = p then none else H a, fun _ => False, false⟩ ds hr rfl rfl rfl rfl hf hl
  refine ⟨_, G.p, ?_⟩
  have ne : ∀ (b : Addr) (ys : List V), Rd H b (.tup ys) → MM ⟨⟨K, mg, none, none⟩, fun a => if a = p then none else H a, fun _ => False, false⟩ (L2.start N [V.ref p, V.int 1]) (.own ds :: .val (.int 1) :: List.replicate (N.length - 2) .un) b → False := fun b ys e z => by
    rcases z with z | ⟨j, es, z1, z2⟩
    · exact z
    · have hst : L2.start N [V.ref p, V.int 1] = some (.ref p) :: some (.int 1) :: List.replicate (N.length - 2) none := by
        unfold L2.start
        rfl
      rw [hst] at z2
      cases j with
      | zero =>
        cases z2
        rcases e with e | ⟨o, e⟩ <;> (rw [hp] at e; cases e)
      | succ j =>
        cases j with
        | zero => cases z2
        | succ j =>
          have z2 : (List.replicate (N.length - 2) (none : Option V))[j]? = some (some (.ref b)) := z2
          rw [List.getElem?_replicate] at z2
          split at z2 <;> cases z2
  have ok : Act.Ok ⟨⟨K, mg, none, none⟩, fun a => if a = p then none else H a, fun _ => False, false⟩ := ⟨fun a z => (by cases z), fun a z => (by cases z), fun a z => z.elim⟩
  have hst : L2.start N [V.ref p, V.int 1] = some (.ref p) :: some (.int 1) :: List.replicate (N.length - 2) none := by
    unfold L2.start
    rfl
  have E0 : ERep ⟨⟨K, mg, none, none⟩, fun a => if a = p then none else H a, fun _ => False, false⟩ H (L2.start N [V.ref p, V.int 1]) (.own ds :: .val (.int 1) :: List.replicate (N.length - 2) .un) := by
    rw [hst]
    refine ⟨ok, by simp, fun j d z => ?_, fun j es z => ?_, fun i j ds es a z1 z2 z3 z4 => ?_, ⟨fun a o e _ => ?_, fun _ a z => (by cases z)⟩⟩
    · cases j with
      | zero => cases z
      | succ j =>
        cases j with
        | zero =>
          cases z
          exact ⟨_, rfl, .int 1⟩
        | succ j =>
          have z : (List.replicate (N.length - 2) SD.un)[j]? = some (.val d) := z
          rw [List.getElem?_replicate] at z
          split at z <;> cases z
    · cases j with
      | zero =>
        cases z
        exact ⟨p, xs, rfl, hp, r.shal (fun b ys e z => ne b ys e z) hf, fun z => z, if_pos rfl⟩
      | succ j =>
        cases j with
        | zero => cases z
        | succ j =>
          have z : (List.replicate (N.length - 2) SD.un)[j]? = some (.own es) := z
          rw [List.getElem?_replicate] at z
          split at z <;> cases z
    · have only : ∀ {i : Nat} {es : List D}, ((.own ds :: .val (.int 1) :: List.replicate (N.length - 2) .un : DEnv))[i]? = some (.own es) → i = 0 := fun {i es} z => by
        cases i with
        | zero => rfl
        | succ j =>
          cases j with
          | zero => cases z
          | succ j =>
            have z : (List.replicate (N.length - 2) SD.un)[j]? = some (.own es) := z
            rw [List.getElem?_replicate] at z
            split at z <;> cases z
      have a1 : i = 0 := by
        cases i with
        | zero => rfl
        | succ j =>
          cases j with
          | zero => cases z1
          | succ j =>
            have z : (List.replicate (N.length - 2) SD.un)[j]? = some (.own ds) := z1
            rw [List.getElem?_replicate] at z
            split at z <;> cases z
      have a2 : j = 0 := by
        cases j with
        | zero => rfl
        | succ j =>
          cases j with
          | zero => cases z2
          | succ j =>
            have z : (List.replicate (N.length - 2) SD.un)[j]? = some (.own es) := z2
            rw [List.getElem?_replicate] at z
            split at z <;> cases z
      rw [a1, a2]
    · by_cases c : a = p
      · have e : (if a = p then none else H a) = some o := e
        rw [if_pos c] at e
        cases e
      · have e : (if a = p then none else H a) = some o := e
        rw [if_neg c] at e
        exact e
  have fin : ∀ {σ' : St} {H' : Hp} {env' : DEnv}, ERep ⟨⟨K, mg, none, none⟩, fun a => if a = p then none else H a, fun _ => False, false⟩ H' σ' env' → Q .non H' := fun {σ' H' env'} E' => q H' fun a o e ne => E'.base.k a o (by show (if a = p then none else H a) = some o; rw [if_neg ne]; exact e) fun z => by cases z
  refine ⟨_, endD false (fun d => d = .non) (fun _ => False), E0, hg, fun σ' H' env' _ E' hq => fin E', fun _ _ _ _ _ hq => hq.elim, fun _ _ _ _ _ hq => hq.elim, fun v d σ' H' env' E' rr hq => ?_, fun e cls dd σ' H' env' _ E' rx hq => hq.elim⟩
  have hq : d = .non := hq
  subst hq
  have rr : RetRep ⟨⟨K, mg, none, none⟩, fun a => if a = p then none else H a, fun _ => False, false⟩ H' v .non := rr
  unfold RetRep at rr
  rw [if_neg Bool.false_ne_true] at rr
  cases rr
  exact fin E'
section
variable {X : Cx} {A : Act} {W : WX}
def dspoilT (i : Nat) (s : DS) : DS := fun K env => match env[i]? with
  | some (.own ds) => (∀ e ∈ ds, e.shal = true) ∧ ds.length ≤ 100000 ∧ s K (env.set i .un)
  | _ => False
theorem gss_spoilT {i : Nat} {x : Str} {k : Nat} {e : Expr} {rest : List Stmt} {s : DS} {p ep pos p1 : Pos} {j : Nat} (h : HasSpT X.prog X.w X.K X.mg X.base x k) (hr : Room k X.A) (tk : Takes X W) (ho : PE X e (tVar i)) (h2 : GSs X A W rest s) (hK : A.R.K = X.K := by rfl) (hg : Gl X x := by rfl) (hd : (x == ("__debug__" : Str)) = false := by decide)
    (hse : starEach (e :: [Expr.Constant (.int 1) j p1]) X.env = (false, eval e X.env) :: starEach [Expr.Constant (.int 1) j p1] X.env := by rfl) (hpl : (backTo pos (starEach [Expr.Constant (.int 1) j p1] X.env)).any (·.1) = false := by rfl)
    (hsw : swapsWith (.Call (.Name x p) [e, .Constant (.int 1) j p1] [] pos) none ep.line X.env = pure false := by rfl)
    (hs1 : starEach [Expr.Constant (.int 1) j p1] X.env = (false, eval (Expr.Constant (.int 1) j p1) X.env) :: starEach [] X.env := by rfl) :
    GSs X A W (.Expr (.Call (.Name x p) [e, .Constant (.int 1) j p1] [] pos) ep :: rest) (dspoilT i s) := by
  obtain ⟨f, fd, F, a, b, c⟩ := h.ex
  refine ⟨pss_imp (pss_cons (ps_expr (pe_callS F hr hg a b c (fun σ => L2N.passAt tk σ) (pa_cons ho (pa_cons pe_int pa_nil hs1) hse) hd hse hpl) hsw) h2.p) fun De σ H ⟨env, K, E, h, q1, q2, q3, q4, q5⟩ => ?_⟩
  unfold dspoilT at h
  cases e1 : env[i]? with
  | none => rw [e1] at h; exact h.elim
  | some z =>
    rw [e1] at h
    cases z with
    | un => exact h.elim
    | val d => exact h.elim
    | own ds =>
      obtain ⟨hf, hl, hs⟩ := h
      obtain ⟨q, vs, g1, g2, g3, g4, g5⟩ := E.own i ds e1
      refine ⟨.ref q, g1, q, vs, ds, rfl, g2, (by rw [← hK]; exact g3.shal2 hf), hf, hl, fun H3 h3 => ?_⟩
      have isq : MM A σ env q := .inr ⟨i, ds, e1, g1⟩
      have st : A.R.st ≠ some q := fun z => g4 (E.ok.st q z)
      have sub : ∀ a, MM A σ (env.set i .un) a → MM A σ env a := fun a z => by
        rcases z with z | ⟨j, es, z1, z2⟩
        · exact .inl z
        · rw [get_set] at z1
          by_cases c : i = j ∧ j < env.length
          · rw [if_pos c] at z1; cases z1
          · rw [if_neg c] at z1
            exact .inr ⟨j, es, z1, z2⟩
      have back : ∀ {j : Nat} {s : SD}, (env.set i .un)[j]? = some s → s ≠ .un → env[j]? = some s := fun {j s} z hs => by
        rw [get_set] at z
        by_cases c : i = j ∧ j < env.length
        · rw [if_pos c] at z
          cases z
          exact absurd rfl hs
        · rw [if_neg c] at z
          exact z
      have nei : ∀ {j : Nat} {es : List D}, (env.set i .un)[j]? = some (.own es) → i ≠ j := fun {j es} z hij => by
        subst hij
        rw [get_set] at z
        have hlt : i < env.length := (List.getElem?_eq_some_iff.mp e1).1
        rw [if_pos ⟨rfl, hlt⟩] at z
        cases z
      have kk : Keep (MM A σ env) (MM A σ (env.set i .un)) H H3 := ⟨fun b o e n => h3 b o e fun z => n (by rw [z]; exact isq), fun b z => .inl (sub b z)⟩
      have E3 : ERep A H3 σ (env.set i .un) := by
        refine ⟨E.ok, by rw [List.length_set]; exact E.len, fun j e z => ?_, fun j es z => ?_, fun j k es fs a z1 z2 => E.one j k es fs a (back z1 fun z => by cases z) (back z2 fun z => by cases z), ?_⟩
        · obtain ⟨u, u1, u2⟩ := E.val j e (back z fun z => by cases z)
          exact ⟨u, u1, u2.keep kk⟩
        · have zb := back z fun z => by cases z
          obtain ⟨a, vs', u1, u2, u3, u4, u5⟩ := E.own j es zb
          have ne : a ≠ q := fun z' => nei z (E.one i j ds es q e1 zb g1 (by rw [← z']; exact u1))
          exact ⟨a, vs', u1, h3 a _ u2 ne, u3.keep kk, u4, u5⟩
        · refine ⟨fun a o e na => h3 a o (E.base.k a o e na) fun z => (by rw [z, g5] at e; cases e), fun hi a z => ?_⟩
          obtain ⟨ns, g1', g2'⟩ := E.inv a z
          exact ⟨ns, h3 a _ g1' fun e => st (by rw [← e]; exact z), g2'⟩
      exact ⟨_, K, E3, hs, fun σ' H' env' k => q1 σ' H' env' (kk.trans k), fun σ' H' env' k => q2 σ' H' env' (kk.trans k), fun σ' H' env' k => q3 σ' H' env' (kk.trans k), q4, fun x cls dd σ' H' env' k => q5 x cls dd σ' H' env' (kk.trans k)⟩
end
end Nb
set_option maxRecDepth 100000
set_option maxHeartbeats 4000000
namespace LW
open PySem PySem.Spec PyProof.Rows L2 Nb TL
abbrev top (i : Nat) : Stmt := PySem.Challenge.pw_notbehind_k43_fill_shares.main.body.getD i (.Pass ⟨0, 0, 0, 0⟩)
def clsB : Stmt → List Stmt
  | .ClassDef _ _ _ b _ _ _ _ _ _ _ => b
  | _ => []
abbrev init_BadCount : Stmt := (clsB (top 5)).getD 0 (.Pass ⟨0, 0, 0, 0⟩)
def okX (n : Str) : Prop := n ∈ (["BadNumber", "BadCount"] : List Str)
structure Txt (P : Program) (K : PySem.W.Frag) (mg : Str → Option Value) : Prop where
  ValueError : mg "ValueError" = none
  abs : mg "abs" = none
  bool : mg "bool" = none
  int : mg "int" = none
  isinstance : mg "isinstance" = none
  len : mg "len" = none
  list : mg "list" = none
  range : mg "range" = none
  str : mg "str" = none
  sum : mg "sum" = none
  tuple : mg "tuple" = none
  kinds : Kinds K mg okX
  i_BadCount : IsC K mg okX "BadCount" fun n => n == "BadCount"
  i_BadName : IsC K mg okX "BadName" fun n => n == "BadName"
  i_BadNumber : IsC K mg okX "BadNumber" fun n => n == "BadNumber"
  i_BadRow : IsC K mg okX "BadRow" fun n => n == "BadRow"
  i_BadShare : IsC K mg okX "BadShare" fun n => n == "BadShare"
  i_BadSize : IsC K mg okX "BadSize" fun n => n == "BadSize"
  i_BadText : IsC K mg okX "BadText" fun n => n == "BadText"
  i_BadWeight : IsC K mg okX "BadWeight" fun n => n == "BadWeight"
  i_DivisionByZero : IsC K mg okX "DivisionByZero" fun n => n == "DivisionByZero"
  i_GameOver : IsC K mg okX "GameOver" fun n => n == "GameOver"
  i_InUse : IsC K mg okX "InUse" fun n => n == "InUse"
  i_Lacking : IsC K mg okX "Lacking" fun n => n == "Lacking"
  i_Mismatch : IsC K mg okX "Mismatch" fun n => n == "Mismatch"
  i_NoHelper : IsC K mg okX "NoHelper" fun n => n == "NoHelper"
  i_NotExact : IsC K mg okX "NotExact" fun n => n == "NotExact"
  i_NothingToTakeBack : IsC K mg okX "NothingToTakeBack" fun n => n == "NothingToTakeBack"
  i_TakenName : IsC K mg okX "TakenName" fun n => n == "TakenName"
  i_UnknownName : IsC K mg okX "UnknownName" fun n => n == "UnknownName"
  i_WrongKind : IsC K mg okX "WrongKind" fun n => n == "WrongKind"
  f_beginning : ∀ n C, okX n → mg n = some (.ref C) → PySem.W.findIn K (.ref C) "beginning" = some none
  f_found : ∀ n C, okX n → mg n = some (.ref C) → PySem.W.findIn K (.ref C) "found" = some none
  f_high : ∀ n C, okX n → mg n = some (.ref C) → PySem.W.findIn K (.ref C) "high" = some none
  f_line : ∀ n C, okX n → mg n = some (.ref C) → PySem.W.findIn K (.ref C) "line" = some none
  f_low : ∀ n C, okX n → mg n = some (.ref C) → PySem.W.findIn K (.ref C) "low" = some none
  v_ValueError : ∀ n C, okX n → mg n = some (.ref C) → PySem.W.kitOne K (.ref C) (.type "ValueError") = some ((fun _ => true) n)
  c_NotBehindError : CatchC K mg okX "NotBehindError"
  r_BadCount : RaiN P K mg "BadCount" "found" "found" [("low", "low"), ("high", "high")] init_BadCount
  r_BadNumber : Rai0 K mg "BadNumber"
  k_MOST_WIDTH : ∃ t, mg "MOST_WIDTH" = some (.int 5 t)
  k_ONE : ∃ a, mg "ONE" = some (.ref a) ∧ SqT K (fun _ => none) a ([1, 1].map V.int)
  k_ZERO : ∃ a, mg "ZERO" = some (.ref a) ∧ SqT K (fun _ => none) a ([0, 1].map V.int)
  gcd : mg "gcd" = some (.builtin "math.gcd")
section
variable {P : Program} {w : World} {K : PySem.W.Frag} {mg : Str → Option Value} {base : Heap}
theorem c_MOST_WIDTH {X : Cx} {A : Nb.Act} {W : WX} {pos : Pos} (T : Txt X.prog X.K X.mg) (hg : Gl X "MOST_WIDTH" := by rfl) : GE X A W (.Name "MOST_WIDTH" pos) (dk (.int 5)) := by
  obtain ⟨t, h⟩ := T.k_MOST_WIDTH
  exact ge_glob (v := .int 5) hg h ⟨t, rfl⟩ fun _ _ => .int _
theorem c_ONE {X : Cx} {A : Nb.Act} {W : WX} {pos : Pos} (T : Txt X.prog X.K X.mg) (hK : A.R.K = X.K := by rfl) (hg : Gl X "ONE" := by rfl) : GE X A W (.Name "ONE" pos) (dk (.tup ([1, 1].map D.int))) := by
  obtain ⟨a, h, hs⟩ := T.k_ONE
  exact ge_glob hg h (v := .ref a) rfl fun _ _ => .tup (.inr (by rw [hK]; exact hs)) (RepL.ints _)
theorem c_ZERO {X : Cx} {A : Nb.Act} {W : WX} {pos : Pos} (T : Txt X.prog X.K X.mg) (hK : A.R.K = X.K := by rfl) (hg : Gl X "ZERO" := by rfl) : GE X A W (.Name "ZERO" pos) (dk (.tup ([0, 1].map D.int))) := by
  obtain ⟨a, h, hs⟩ := T.k_ZERO
  exact ge_glob hg h (v := .ref a) rfl fun _ _ => .tup (.inr (by rw [hK]; exact hs)) (RepL.ints _)
abbrev s__law_mixed : Stmt := top 50
theorem sc__law_mixed : FnScope ["store", "prime", "found"] ["store"] (defScope s__law_mixed) := ⟨rfl, rfl, rfl, by decide +kernel, rfl, by decide +kernel, by decide +kernel⟩
def S__law_mixed : DSp := fun ds Q E => ds = [.sto] ∧ ∀ z, 0 ≤ z → Q (.int z)
theorem len__law_mixed {ds : List D} {Q : D → Prop} {E : Ex → Prop} (h : S__law_mixed ds Q E) : ds.length = 1 := by rw [h.1]; rfl
theorem ok__law_mixed (T : Txt P K mg) {f : Addr} {fd : FuncData} (F : Fun K "_law_mixed" "_law_mixed" s__law_mixed f fd) : FnOk P w K mg base (L2N.CX P w) 1 f fd ["store"] (spD K mg false S__law_mixed) := by
  refine fn_ok F sc__law_mixed (fun ds Qd Ed h => len__law_mixed h) (fun cdv Ar outer s H E R M ds Qd Ed hr hK hm h0 h => ?_)
  subst hK hm
  refine ⟨_, (gss_cons (gs_asg (i := 1) ge_int sc__law_mixed.nd rfl (by first | exact Or.inl rfl | exact Or.inr rfl))
    (gss_cons (gs_setS (k := 3) (pv 0) (ge_add (ge_ixS (k := 3) (pv 0)) ge_int))
    (gss_cons (gs_setS (k := 2) (pv 0) (ge_mod (ge_bltT (b_int) (by rfl) T.int PyProof.Rows.boot_int (gl_cons (ge_add (ge_add (ge_mul (ge_ixS (k := 2) (pv 0)) ge_int) (ge_mul (ge_ixS (k := 3) (pv 0)) ge_int)) ge_int) gl_nil)) (ge_var (pv 1))))
    (gss_cons (gs_asg (i := 2) (ge_mod (ge_bltT (b_int) (by rfl) T.int PyProof.Rows.boot_int (gl_cons (ge_add (ge_mul (ge_ixS (k := 2) (pv 0)) (ge_ixS (k := 2) (pv 0))) (ge_mul (ge_ixS (k := 3) (pv 0)) ge_int)) gl_nil)) ge_int) sc__law_mixed.nd rfl (by first | exact Or.inl rfl | exact Or.inr rfl))
    (gss_one (gs_ret (ge_mod (ge_bltT (b_int) (by rfl) T.int PyProof.Rows.boot_int (gl_cons (ge_add (ge_add (ge_mul (ge_var (pv 2)) ge_int) (ge_fdiv (ge_var (pv 2)) ge_int)) ge_int) gl_nil)) (ge_var (pv 1))))))))), ?_⟩
  obtain ⟨rfl, hq⟩ := h
  have e0 : startD ["store", "prime", "found"] [D.sto] = [.val .sto, .un, .un] := rfl
  simp only [↓reduceIte, disX, dxf, dcallQ, dcallQF, eqv_strs, sgnD_eq, draise1, fAll, diR1, diR2, diL, diT, diS, dname, dapp, dappPop, dlenO, dixO, dretO, dSl, donone, dosome, dyes, dfv, dm1, fJoin, fIndex, fListF, fSortT, dRev, dIn, dNotIn, difE, fMax, fMin, fStr, fList, dseq, dif, dret, dretN, dretF, dretO, dasg, dasgO, dexpr, dnext, dop, dopF, dk, dvar, dcons, dnil, dlst, dflst, dtup, dIx, dI0, dII, dB0, dtest, dtruth, dand, dor, dnot, dcb, dcbF, dcall, dcallF, dixS, dsetS, dinS, difS, fLen, fInt, fAbs, endD, e0, scD, SOK, dEq, dNe, eqv_int, eqv_str, eqv_bl, beq_iff_eq, decide_eq_true_eq, Bool.not_eq_true, Bool.not_eq_true', true_and, and_true, and_self, false_and, and_false, reduceCtorEq, true_or, or_true, true_implies, if_true, if_false, Bool.false_eq_true, not_false_eq_true, dAdd, dMul, dAddF, List.getElem?_cons_zero, List.getElem?_cons_succ, List.set_cons_zero, List.set_cons_succ]
  repeat' (first | exact True.intro | exact rfl | intro _ | refine And.intro ?_ ?_ | split | exact Or.inl (Or.inr ⟨by decide, by decide⟩) | exact Or.inl (Or.inl ⟨by omega, by omega⟩) | exact Or.inl ⟨by omega, by omega⟩ | exact (by decide : (0:Int) < _) | (show (0:Int) < _; omega) | omega | decide | exact hq _ (by omega))
abbrev s__law_take : Stmt := top 51
theorem sc__law_take : FnScope ["store", "many", "cell", "found"] ["store", "many"] (defScope s__law_take) := ⟨rfl, rfl, rfl, by decide +kernel, rfl, by decide +kernel, by decide +kernel⟩
def S__law_take : DSp := fun ds Q E => ∃ m, ds = [.sto, .int m] ∧ m < 10000000000 ∧ ∀ z, 0 ≤ z → (z < m ∨ z = 0) → Q (.int z)
theorem len__law_take {ds : List D} {Q : D → Prop} {E : Ex → Prop} (h : S__law_take ds Q E) : ds.length = 2 := by obtain ⟨m, h, _⟩ := h; rw [h]; rfl
theorem ok__law_take (T : Txt P K mg) (h__law_mixed : Has P w K mg base "_law_mixed" 1 false S__law_mixed) {f : Addr} {fd : FuncData} (F : Fun K "_law_take" "_law_take" s__law_take f fd) : FnOk P w K mg base (L2N.CX P w) 2 f fd ["store", "many"] (spD K mg false S__law_take) := by
  refine fn_ok F sc__law_take (fun ds Qd Ed h => len__law_take h) (fun cdv Ar outer s H E R M ds Qd Ed hr hK hm h0 h => ?_)
  subst hK hm
  refine ⟨_, (gss_cons (gs_if (gt_c cm_lt (ge_var (pv 1)) ge_int) (gss_one (gs_ret ge_int)) gss_nil)
    (gss_cons (gs_ifS (j := 2) (gwf_and (gt_c (cm_eq (room_units hr)) (ge_ixS (k := 1) (pv 0)) ge_int) (gwf_and (gt_c (cm_eq (room_units hr)) (ge_ixS (k := 4) (pv 0)) ge_int) (gwf_in (pv 0) (pv 0) rfl (by rfl) T.len rfl))) (pv 0) (pv 0) rfl (by rfl) T.int sc__law_take.nd rfl (by first | exact Or.inl rfl | exact Or.inr rfl) (gss_cons (gs_setS (k := 0) (pv 0) (ge_add (ge_ixS (k := 0) (pv 0)) ge_int))
    (gss_cons (gs_setS (k := 2) (pv 0) (ge_mod (ge_bltT (b_int) (by rfl) T.int PyProof.Rows.boot_int (gl_cons (ge_add (ge_add (ge_ixS (k := 2) (pv 0)) (ge_mul (ge_var (pv 2)) ge_int)) ge_int) gl_nil)) ge_int))
    (gss_one (gs_if (GW.t (gw_or (gt_c cm_ge (ge_var (pv 2)) (ge_pow ge_int ge_int)) (gw_or1 (gt_c cm_le (ge_var (pv 2)) (ge_subI ge_int (ge_pow ge_int ge_int)))))) (gss_one (gs_setS (k := 1) (pv 0) (ge_blt (b_abs) (by rfl) T.abs (by decide +kernel) (gl_cons (ge_var (pv 2)) gl_nil)))) (gss_one (gs_setS (k := 4) (pv 0) ge_int)))))) gss_nil)
    (gss_cons (gs_if (gt_c cm_gt (ge_ixS (k := 1) (pv 0)) ge_int) (gss_cons (gs_asg (i := 3) (ge_mod (ge_bltT (b_int) (by rfl) T.int PyProof.Rows.boot_int (gl_cons (ge_ixS (k := 1) (pv 0)) gl_nil)) (ge_var (pv 1))) sc__law_take.nd rfl (by first | exact Or.inl rfl | exact Or.inr rfl))
    (gss_cons (gs_setS (k := 1) (pv 0) (ge_fdiv (ge_ixS (k := 1) (pv 0)) (ge_var (pv 1))))
    (gss_one (gs_ret (ge_var (pv 3)))))) gss_nil)
    (gss_cons (gs_if (gt_c cm_gt (ge_ixS (k := 4) (pv 0)) ge_int) (gss_one (gs_setS (k := 4) (pv 0) (ge_subI (ge_ixS (k := 4) (pv 0)) ge_int))) gss_nil)
    (gss_one (gs_ret (ge_mod (ge_bltT (b_int) (by rfl) T.int PyProof.Rows.boot_int (gl_cons (ge_call (Has.call h__law_mixed (hr.mono (by decide)) (L2N.takes_of rfl rfl rfl rfl)) (gl_cons (ge_var (pv 0)) gl_nil) h0) gl_nil)) (ge_var (pv 1))))))))), ?_⟩
  obtain ⟨m, rfl, hm, hq⟩ := h
  have e0 : startD ["store", "many", "cell", "found"] [D.sto, .int m] = [.val .sto, .val (.int m), .un, .un] := rfl
  simp only [S__law_mixed, ↓reduceIte, disX, dxf, dcallQ, dcallQF, eqv_strs, sgnD_eq, draise1, fAll, diR1, diR2, diL, diT, diS, dname, dapp, dappPop, dlenO, dixO, dretO, dSl, donone, dosome, dyes, dfv, dm1, fJoin, fIndex, fListF, fSortT, dRev, dIn, dNotIn, difE, fMax, fMin, fStr, fList, dseq, dif, dret, dretN, dretF, dretO, dasg, dasgO, dexpr, dnext, dop, dopF, dk, dvar, dcons, dnil, dlst, dflst, dtup, dIx, dI0, dII, dB0, dtest, dtruth, dand, dor, dnot, dcb, dcbF, dcall, dcallF, dixS, dsetS, dinS, difS, fLen, fInt, fAbs, endD, e0, scD, SOK, dEq, dNe, eqv_int, eqv_str, eqv_bl, beq_iff_eq, decide_eq_true_eq, Bool.not_eq_true, Bool.not_eq_true', true_and, and_true, and_self, false_and, and_false, reduceCtorEq, true_or, or_true, true_implies, if_true, if_false, Bool.false_eq_true, not_false_eq_true, dAdd, dMul, dAddF, List.getElem?_cons_zero, List.getElem?_cons_succ, List.set_cons_zero, List.set_cons_succ]
  repeat' (first | exact True.intro | exact rfl | intro _ | refine And.intro ?_ ?_ | split | exact Or.inl (Or.inr ⟨by decide, by decide⟩) | exact Or.inl (Or.inl ⟨by omega, by omega⟩) | exact Or.inl ⟨by omega, by omega⟩ | exact (by decide : (0:Int) < _) | (show (0:Int) < _; omega) | omega | decide | exact hq _ (by omega) (by omega) | exact divOk (b := 40) (by omega) (by show _ < 1099511627776; omega) (by decide) | exact Int.ediv_nonneg (by omega) (by omega) | exact hq _ (Int.emod_nonneg _ (by omega)) (.inl (Int.emod_lt_of_pos _ (by omega))))
theorem take_iff {m : Int} {Q : D → Prop} {E : Ex → Prop} : S__law_take [.sto, .int m] Q E = (m < 10000000000 ∧ ∀ z, 0 ≤ z → (z < m ∨ z = 0) → Q (.int z)) := propext ⟨fun ⟨k, e, h1, h2⟩ => by
  injection e with _ e
  injection e with e _
  injection e with e
  subst e
  exact ⟨h1, h2⟩, fun ⟨h1, h2⟩ => ⟨m, rfl, h1, h2⟩⟩
abbrev s__law_edge : Stmt := top 52
theorem sc__law_edge : FnScope ["store", "many", "kind"] ["store", "many"] (defScope s__law_edge) := ⟨rfl, rfl, rfl, by decide +kernel, rfl, by decide +kernel, by decide +kernel⟩
def S__law_edge : DSp := S__law_take
theorem len__law_edge {ds : List D} {Q : D → Prop} {E : Ex → Prop} (h : S__law_edge ds Q E) : ds.length = 2 := len__law_take h
theorem ok__law_edge (T : Txt P K mg) (h__law_take : Has P w K mg base "_law_take" 2 false S__law_take) {f : Addr} {fd : FuncData} (F : Fun K "_law_edge" "_law_edge" s__law_edge f fd) : FnOk P w K mg base (L2N.CX P w) 3 f fd ["store", "many"] (spD K mg false S__law_edge) := by
  refine fn_ok F sc__law_edge (fun ds Qd Ed h => len__law_edge h) (fun cdv Ar outer s H E R M ds Qd Ed hr hK hm h0 h => ?_)
  subst hK hm
  refine ⟨_, (gss_cons (gs_if (gt_c cm_lt (ge_var (pv 1)) ge_int) (gss_one (gs_ret ge_int)) gss_nil)
    (gss_cons (gs_asg (i := 2) (ge_call (Has.call h__law_take (hr.mono (by decide)) (L2N.takes_of rfl rfl rfl rfl)) (gl_cons (ge_var (pv 0)) (gl_cons ge_int gl_nil)) h0) sc__law_edge.nd rfl (by first | exact Or.inl rfl | exact Or.inr rfl))
    (gss_cons (gs_if (gt_c (cm_eq (room_units hr)) (ge_var (pv 2)) ge_int) (gss_one (gs_ret ge_int)) gss_nil)
    (gss_cons (gs_if (gt_c (cm_eq (room_units hr)) (ge_var (pv 2)) ge_int) (gss_one (gs_ret (ge_subI (ge_var (pv 1)) ge_int))) gss_nil)
    (gss_one (gs_ret (ge_call (Has.call h__law_take (hr.mono (by decide)) (L2N.takes_of rfl rfl rfl rfl)) (gl_cons (ge_var (pv 0)) (gl_cons (ge_var (pv 1)) gl_nil)) h0))))))), ?_⟩
  obtain ⟨m, rfl, hm, hq⟩ := h
  have e0 : startD ["store", "many", "kind"] [D.sto, .int m] = [.val .sto, .val (.int m), .un] := rfl
  simp only [S__law_take, ↓reduceIte, disX, dxf, dcallQ, dcallQF, eqv_strs, sgnD_eq, draise1, fAll, diR1, diR2, diL, diT, diS, dname, dapp, dappPop, dlenO, dixO, dretO, dSl, donone, dosome, dyes, dfv, dm1, fJoin, fIndex, fListF, fSortT, dRev, dIn, dNotIn, difE, fMax, fMin, fStr, fList, dseq, dif, dret, dretN, dretF, dretO, dasg, dasgO, dexpr, dnext, dop, dopF, dk, dvar, dcons, dnil, dlst, dflst, dtup, dIx, dI0, dII, dB0, dtest, dtruth, dand, dor, dnot, dcb, dcbF, dcall, dcallF, dixS, dsetS, dinS, difS, fLen, fInt, fAbs, endD, e0, scD, SOK, dEq, dNe, eqv_int, eqv_str, eqv_bl, beq_iff_eq, decide_eq_true_eq, Bool.not_eq_true, Bool.not_eq_true', true_and, and_true, and_self, false_and, and_false, reduceCtorEq, true_or, or_true, true_implies, if_true, if_false, Bool.false_eq_true, not_false_eq_true, dAdd, dMul, dAddF, List.getElem?_cons_zero, List.getElem?_cons_succ, List.set_cons_zero, List.set_cons_succ]
  by_cases c : m < 2
  · rw [if_pos c]
    exact hq 0 (by omega) (by omega)
  · rw [if_neg c]
    refine ⟨6, rfl, by decide, fun z h1 h2 => ?_⟩
    repeat' (first | exact True.intro | exact rfl | intro _ | refine And.intro ?_ ?_ | split | exact Or.inl (Or.inr ⟨by decide, by decide⟩) | exact Or.inl (Or.inl ⟨by omega, by omega⟩) | exact Or.inl ⟨by omega, by omega⟩ | exact (by decide : (0:Int) < _) | (show (0:Int) < _; omega) | omega | decide | exact hq _ (by omega) (by omega) | exact ⟨m, rfl, hm, hq⟩)
/-! ### fractions -/
def wholeD : D → Bool
  | .int _ => true
  | _ => false
abbrev s_is_whole : Stmt := top 25
theorem sc_is_whole : FnScope ["value"] ["value"] (defScope s_is_whole) := ⟨rfl, rfl, rfl, by decide +kernel, rfl, by decide +kernel, by decide +kernel⟩
def S_is_whole : DSp := fun ds Q E => ∃ d t, ds = [d] ∧ d.tyn = some t ∧ Q (.bl (wholeD d))
theorem len_is_whole {ds : List D} {Q : D → Prop} {E : Ex → Prop} (h : S_is_whole ds Q E) : ds.length = 1 := by obtain ⟨m, t, h, _⟩ := h; rw [h]; rfl
theorem ok_is_whole (T : Txt P K mg) {f : Addr} {fd : FuncData} (F : Fun K "is_whole" "is_whole" s_is_whole f fd) : FnOk P w K mg base (L2N.CX P w) 1 f fd ["value"] (spD K mg false S_is_whole) := by
  refine fn_ok F sc_is_whole (fun ds Qd Ed h => len_is_whole h) (fun cdv Ar outer s H E R M ds Qd Ed hr hK hm h0 h => ?_)
  subst hK hm
  refine ⟨_, (gss_one (gs_ret (ge_and (ge_blt (b_isi) (by rfl) T.isinstance PyProof.Rows.boot_isinstance (gl_cons (ge_var (pv 0)) (gl_cons (ge_tyc (n := "int") (by rfl) T.int) gl_nil))) (ge_one (ge_not (ge_blt (b_isi) (by rfl) T.isinstance PyProof.Rows.boot_isinstance (gl_cons (ge_var (pv 0)) (gl_cons (ge_tyc (n := "bool") (by rfl) T.bool) gl_nil)))))))), ?_⟩
  obtain ⟨d, t, rfl, ht, hq⟩ := h
  cases d <;> first | (cases ht; done) | skip
  all_goals
    simp only [↓reduceIte, disX, dxf, dcallQ, dcallQF, eqv_strs, sgnD_eq, draise1, fAll, diR1, diR2, diL, diT, diS, dname, dapp, dappPop, dlenO, dixO, dretO, dSl, donone, dosome, dyes, dfv, dm1, fJoin, fIndex, fListF, fSortT, dRev, dIn, dNotIn, difE, fMax, fMin, fStr, fList, dseq, dif, dret, dretN, dretF, dretO, dasg, dasgO, dexpr, dnext, dop, dopF, dk, dvar, dcons, dnil, dlst, dflst, dtup, dIx, dI0, dII, dB0, dtest, dtruth, dand, dor, dnot, dcb, dcbF, dcall, dcallF, dixS, dsetS, dinS, difS, fLen, fInt, fAbs, endD, scD, SOK, dEq, dNe, eqv_int, eqv_str, eqv_bl, beq_iff_eq, decide_eq_true_eq, Bool.not_eq_true, Bool.not_eq_true', true_and, and_true, and_self, false_and, and_false, reduceCtorEq, true_or, or_true, true_implies, if_true, if_false, Bool.false_eq_true, not_false_eq_true, dAdd, dMul, dAddF, List.getElem?_cons_zero, List.getElem?_cons_succ, List.set_cons_zero, List.set_cons_succ, eq_self, draise0, draiseN, ddead, fGcd, fSum, diV, dgtup, dgcons, dgnil, dasgG, dNeg, dmut, dseti, dlenO, dixO, difE, dandV, dorV, dnotV, dchain, dIsN, dNotN, dMul, dAdd, start_def, List.map_cons, List.map_nil, List.length_cons, List.length_nil, List.replicate_succ, List.replicate_zero, List.cons_append, List.nil_append, Nat.reduceAdd, Nat.reduceSub, Nat.reduceLeDiff, Nb.LINE, isi_non_int, isi_non_bool, isi_non_str, isi_non_tuple, isi_non_list, isi_bl_int, isi_bl_bool, isi_bl_str, isi_bl_tuple, isi_bl_list, isi_int_int, isi_int_bool, isi_int_str, isi_int_tuple, isi_int_list, isi_str_int, isi_str_bool, isi_str_str, isi_str_tuple, isi_str_list, isi_tup_int, isi_tup_bool, isi_tup_str, isi_tup_tuple, isi_tup_list, isi_lst_int, isi_lst_bool, isi_lst_str, isi_lst_tuple, isi_lst_list, isi_dct_int, isi_dct_bool, isi_dct_str, isi_dct_tuple, isi_dct_list, ddct0, dint, fTuple, fListF, fList, pow10_iff, Int.reduceLE, Int.reduceLT, Int.reduceToNat]
    exact hq
abbrev s_reduced : Stmt := top 26
theorem sc_reduced : FnScope ["above", "below", "shared"] ["above", "below"] (defScope s_reduced) := ⟨rfl, rfl, rfl, by decide +kernel, rfl, by decide +kernel, by decide +kernel⟩
def S_reduced : DSp := fun ds Q E => ∃ a b : Int, ds = [.int a, .int b] ∧ 0 < b ∧ Nat.gcd a.natAbs b.natAbs < 2 ^ 8999 ∧ Q (fr (Rat.divInt a b))
theorem len_reduced {ds : List D} {Q : D → Prop} {E : Ex → Prop} (h : S_reduced ds Q E) : ds.length = 2 := by obtain ⟨m, t, h, _⟩ := h; rw [h]; rfl
theorem ok_reduced (T : Txt P K mg) {f : Addr} {fd : FuncData} (F : Fun K "reduced" "reduced" s_reduced f fd) : FnOk P w K mg base (L2N.CX P w) 1 f fd ["above", "below"] (spD K mg false S_reduced) := by
  refine fn_ok F sc_reduced (fun ds Qd Ed h => len_reduced h) (fun cdv Ar outer s H E R M ds Qd Ed hr hK hm h0 h => ?_)
  subst hK hm
  refine ⟨_, (gss_cons (gs_asg (i := 2) (ge_gcd T.gcd (gl_cons (ge_var (pv 0)) (gl_cons (ge_var (pv 1)) gl_nil))) sc_reduced.nd rfl (by first | exact Or.inl rfl | exact Or.inr rfl))
    (gss_one (gs_ret (ge_tup (gl_cons (ge_fdiv (ge_var (pv 0)) (ge_var (pv 2))) (gl_cons (ge_fdiv (ge_var (pv 1)) (ge_var (pv 2))) gl_nil)))))), ?_⟩
  obtain ⟨a, b, rfl, hb, hg, hq⟩ := h
  have hp : 0 < Nat.gcd a.natAbs b.natAbs := Nat.gcd_pos_of_pos_right _ (by omega)
  have hd : ∀ i : Int, CDivA i ((Nat.gcd a.natAbs b.natAbs : Nat) : Int) := fun i => divOk (b := 8999) (by omega) (by rw [Int.natAbs_natCast]; exact hg) (by omega)
  obtain ⟨e1, e2⟩ := div_parts (a := a) (b := b) hb
  simp only [↓reduceIte, disX, dxf, dcallQ, dcallQF, eqv_strs, sgnD_eq, draise1, fAll, diR1, diR2, diL, diT, diS, dname, dapp, dappPop, dlenO, dixO, dretO, dSl, donone, dosome, dyes, dfv, dm1, fJoin, fIndex, fListF, fSortT, dRev, dIn, dNotIn, difE, fMax, fMin, fStr, fList, dseq, dif, dret, dretN, dretF, dretO, dasg, dasgO, dexpr, dnext, dop, dopF, dk, dvar, dcons, dnil, dlst, dflst, dtup, dIx, dI0, dII, dB0, dtest, dtruth, dand, dor, dnot, dcb, dcbF, dcall, dcallF, dixS, dsetS, dinS, difS, fLen, fInt, fAbs, endD, scD, SOK, dEq, dNe, eqv_int, eqv_str, eqv_bl, beq_iff_eq, decide_eq_true_eq, Bool.not_eq_true, Bool.not_eq_true', true_and, and_true, and_self, false_and, and_false, reduceCtorEq, true_or, or_true, true_implies, if_true, if_false, Bool.false_eq_true, not_false_eq_true, dAdd, dMul, dAddF, List.getElem?_cons_zero, List.getElem?_cons_succ, List.set_cons_zero, List.set_cons_succ, eq_self, draise0, draiseN, ddead, fGcd, fSum, diV, dgtup, dgcons, dgnil, dasgG, dNeg, dmut, dseti, dlenO, dixO, difE, dandV, dorV, dnotV, dchain, dIsN, dNotN, dMul, dAdd, start_def, List.map_cons, List.map_nil, List.length_cons, List.length_nil, List.replicate_succ, List.replicate_zero, List.cons_append, List.nil_append, Nat.reduceAdd, Nat.reduceSub, Nat.reduceLeDiff, Nb.LINE, isi_non_int, isi_non_bool, isi_non_str, isi_non_tuple, isi_non_list, isi_bl_int, isi_bl_bool, isi_bl_str, isi_bl_tuple, isi_bl_list, isi_int_int, isi_int_bool, isi_int_str, isi_int_tuple, isi_int_list, isi_str_int, isi_str_bool, isi_str_str, isi_str_tuple, isi_str_list, isi_tup_int, isi_tup_bool, isi_tup_str, isi_tup_tuple, isi_tup_list, isi_lst_int, isi_lst_bool, isi_lst_str, isi_lst_tuple, isi_lst_list, isi_dct_int, isi_dct_bool, isi_dct_str, isi_dct_tuple, isi_dct_list, ddct0, dint, fTuple, fListF, fList, pow10_iff, Int.reduceLE, Int.reduceLT, Int.reduceToNat]
  rw [← e1, ← e2]
  exact ⟨hd _, hd _, hq⟩
def numD : D → Option Rat
  | .int n => some (n : Rat)
  | .tup [.int a, .int b] => if 1 ≤ b then some (Rat.divInt a b) else none
  | _ => none
/-- data that may be asked: its kinds are known, sizes fit -/
def KndOk (d : D) : Prop := ∃ t, d.tyn = some t
def ChkOk (d : D) : Prop := KndOk d ∧ ∀ x y, d = .tup [x, y] → KndOk x ∧ KndOk y ∧ ∀ a b, x = .int a → y = .int b → 1 ≤ b → Nat.gcd a.natAbs b.natAbs < 2 ^ 8999
theorem numD_two (a b : Int) : numD (.tup [.int a, .int b]) = if 1 ≤ b then some (Rat.divInt a b) else none := rfl
theorem numD_one (x : D) : numD (.tup [x]) = none := by cases x <;> rfl
theorem numD_more (x y z : D) (r : List D) : numD (.tup (x :: y :: z :: r)) = none := by
  cases x <;> first | rfl | (cases y <;> rfl)
theorem numD_fr (q : Rat) : numD (fr q) = some q := by
  rw [fr_eq, numD_two, if_pos (by have := q.den_pos; omega), Rat.num_divInt_den]
theorem size_ediv {i j : Int} {n : Nat} (h : i.natAbs < 2 ^ n) : (i / j).natAbs < 2 ^ n := Nat.lt_of_le_of_lt (Int.natAbs_ediv_le_natAbs _ _) h
theorem size_cast {i n : Nat} (h : i < 2 ^ n) : ((i : Nat) : Int).natAbs < 2 ^ n := by rw [Int.natAbs_natCast]; exact h
theorem gdiv {i : Int} {k : Nat} (h0 : 0 < k) (h : k < 2 ^ 8999) : CDivA i (k : Int) := divOk (b := 8999) (by omega) (by rw [Int.natAbs_natCast]; exact h) (by omega)
theorem wholeD_int {d : D} (h : wholeD d = true) : ∃ n, d = .int n := by
  cases d <;> first | exact ⟨_, rfl⟩ | cases h
theorem numD_pair {x y : D} (h : wholeD x = false ∨ wholeD y = false) : numD (.tup [x, y]) = none := by
  unfold numD
  split
  · rename_i e; cases e
  · rename_i e
    injection e with e
    injection e with e1 e2
    injection e2 with e2 _
    subst e1 e2
    rcases h with h | h <;> cases h
  · rfl
abbrev s_checked : Stmt := top 27
theorem sc_checked : FnScope ["value", "above", "below"] ["value"] (defScope s_checked) := ⟨rfl, rfl, rfl, by decide +kernel, rfl, by decide +kernel, by decide +kernel⟩
def S_checked : DSp := fun ds Q E => ∃ d, ds = [d] ∧ ChkOk d ∧ (∀ q, numD d = some q → Q (fr q)) ∧ (numD d = none → E ("BadNumber", []))
theorem len_checked {ds : List D} {Q : D → Prop} {E : Ex → Prop} (h : S_checked ds Q E) : ds.length = 1 := by obtain ⟨m, h, _⟩ := h; rw [h]; rfl
theorem ok_checked (T : Txt P K mg) (h_is_whole : Has P w K mg base "is_whole" 1 false S_is_whole) (h_reduced : Has P w K mg base "reduced" 1 false S_reduced) {f : Addr} {fd : FuncData} (F : Fun K "checked" "checked" s_checked f fd) : FnOk P w K mg base (L2N.CX P w) 2 f fd ["value"] (spD K mg false S_checked) := by
  refine fn_ok F sc_checked (fun ds Qd Ed h => len_checked h) (fun cdv Ar outer s H E R M ds Qd Ed hr hK hm h0 h => ?_)
  subst hK hm
  refine ⟨_, (gss_cons (gs_if (gt_val (ge_call (Has.call h_is_whole (hr.mono (by decide)) (L2N.takes_of rfl rfl rfl rfl)) (gl_cons (ge_var (pv 0)) gl_nil) h0)) (gss_one (gs_ret (ge_tup (gl_cons (ge_var (pv 0)) (gl_cons ge_int gl_nil))))) gss_nil)
    (gss_cons (gs_if (GW.t (gw_or (gt_not (gt_val (ge_blt (b_isi) (by rfl) T.isinstance PyProof.Rows.boot_isinstance (gl_cons (ge_var (pv 0)) (gl_cons (ge_tyc (n := "tuple") (by rfl) T.tuple) gl_nil))))) (gw_or1 (gt_c (cm_ne (room_units hr)) (ge_blt (b_len) (by rfl) T.len PySem.boot_len (gl_cons (ge_var (pv 0)) gl_nil)) ge_int)))) (gss_one (gs_rai0 T.r_BadNumber (L2N.takes_of rfl rfl rfl rfl))) gss_nil)
    (gss_cons (gs_asgG (ge_var (pv 0)) (gg_tup (n := 2) (by rfl) rfl (ggs_cons (gg_name (i := 1) sc_checked.nd rfl (by first | exact Or.inl rfl | exact Or.inr rfl)) (ggs_cons (gg_name (i := 2) sc_checked.nd rfl (by first | exact Or.inl rfl | exact Or.inr rfl)) ggs_nil))))
    (gss_cons (gs_if (GW.t (gw_or (gt_not (gt_val (ge_call (Has.call h_is_whole (hr.mono (by decide)) (L2N.takes_of rfl rfl rfl rfl)) (gl_cons (ge_var (pv 1)) gl_nil) h0))) (gw_or (gt_not (gt_val (ge_call (Has.call h_is_whole (hr.mono (by decide)) (L2N.takes_of rfl rfl rfl rfl)) (gl_cons (ge_var (pv 2)) gl_nil) h0))) (gw_or1 (gt_c cm_lt (ge_var (pv 2)) ge_int))))) (gss_one (gs_rai0 T.r_BadNumber (L2N.takes_of rfl rfl rfl rfl))) gss_nil)
    (gss_one (gs_ret (ge_call (Has.call h_reduced (hr.mono (by decide)) (L2N.takes_of rfl rfl rfl rfl)) (gl_cons (ge_var (pv 1)) (gl_cons (ge_var (pv 2)) gl_nil)) h0))))))), ?_⟩
  obtain ⟨d, rfl, ⟨⟨t, ht⟩, hc⟩, hq, he⟩ := h
  refine ⟨d, t, rfl, ht, ?_⟩
  cases d <;> first | (cases ht; done) | skip
  case int n =>
    simp only [wholeD, ↓reduceIte, disX, dxf, dcallQ, dcallQF, eqv_strs, sgnD_eq, draise1, fAll, diR1, diR2, diL, diT, diS, dname, dapp, dappPop, dlenO, dixO, dretO, dSl, donone, dosome, dyes, dfv, dm1, fJoin, fIndex, fListF, fSortT, dRev, dIn, dNotIn, difE, fMax, fMin, fStr, fList, dseq, dif, dret, dretN, dretF, dretO, dasg, dasgO, dexpr, dnext, dop, dopF, dk, dvar, dcons, dnil, dlst, dflst, dtup, dIx, dI0, dII, dB0, dtest, dtruth, dand, dor, dnot, dcb, dcbF, dcall, dcallF, dixS, dsetS, dinS, difS, fLen, fInt, fAbs, endD, scD, SOK, dEq, dNe, eqv_int, eqv_str, eqv_bl, beq_iff_eq, decide_eq_true_eq, Bool.not_eq_true, Bool.not_eq_true', true_and, and_true, and_self, false_and, and_false, reduceCtorEq, true_or, or_true, true_implies, if_true, if_false, Bool.false_eq_true, not_false_eq_true, dAdd, dMul, dAddF, List.getElem?_cons_zero, List.getElem?_cons_succ, List.set_cons_zero, List.set_cons_succ, eq_self, draise0, draiseN, ddead, fGcd, fSum, diV, dgtup, dgcons, dgnil, dasgG, dNeg, dmut, dseti, dlenO, dixO, difE, dandV, dorV, dnotV, dchain, dIsN, dNotN, dMul, dAdd, start_def, List.map_cons, List.map_nil, List.length_cons, List.length_nil, List.replicate_succ, List.replicate_zero, List.cons_append, List.nil_append, Nat.reduceAdd, Nat.reduceSub, Nat.reduceLeDiff, Nb.LINE, isi_non_int, isi_non_bool, isi_non_str, isi_non_tuple, isi_non_list, isi_bl_int, isi_bl_bool, isi_bl_str, isi_bl_tuple, isi_bl_list, isi_int_int, isi_int_bool, isi_int_str, isi_int_tuple, isi_int_list, isi_str_int, isi_str_bool, isi_str_str, isi_str_tuple, isi_str_list, isi_tup_int, isi_tup_bool, isi_tup_str, isi_tup_tuple, isi_tup_list, isi_lst_int, isi_lst_bool, isi_lst_str, isi_lst_tuple, isi_lst_list, isi_dct_int, isi_dct_bool, isi_dct_str, isi_dct_tuple, isi_dct_list, ddct0, dint, fTuple, fListF, fList, pow10_iff, Int.reduceLE, Int.reduceLT, Int.reduceToNat]
    exact hq _ rfl
  case tup xs =>
    simp only [↓reduceIte, disX, dxf, dcallQ, dcallQF, eqv_strs, sgnD_eq, draise1, fAll, diR1, diR2, diL, diT, diS, dname, dapp, dappPop, dlenO, dixO, dretO, dSl, donone, dosome, dyes, dfv, dm1, fJoin, fIndex, fListF, fSortT, dRev, dIn, dNotIn, difE, fMax, fMin, fStr, fList, dseq, dif, dret, dretN, dretF, dretO, dasg, dasgO, dexpr, dnext, dop, dopF, dk, dvar, dcons, dnil, dlst, dflst, dtup, dIx, dI0, dII, dB0, dtest, dtruth, dand, dor, dnot, dcb, dcbF, dcall, dcallF, dixS, dsetS, dinS, difS, fLen, fInt, fAbs, endD, scD, SOK, dEq, dNe, eqv_int, eqv_str, eqv_bl, beq_iff_eq, decide_eq_true_eq, Bool.not_eq_true, Bool.not_eq_true', true_and, and_true, and_self, false_and, and_false, reduceCtorEq, true_or, or_true, true_implies, if_true, if_false, Bool.false_eq_true, not_false_eq_true, dAdd, dMul, dAddF, List.getElem?_cons_zero, List.getElem?_cons_succ, List.set_cons_zero, List.set_cons_succ, eq_self, draise0, draiseN, ddead, fGcd, fSum, diV, dgtup, dgcons, dgnil, dasgG, dNeg, dmut, dseti, dlenO, dixO, difE, dandV, dorV, dnotV, dchain, dIsN, dNotN, dMul, dAdd, start_def, List.map_cons, List.map_nil, List.length_cons, List.length_nil, List.replicate_succ, List.replicate_zero, List.cons_append, List.nil_append, Nat.reduceAdd, Nat.reduceSub, Nat.reduceLeDiff, Nb.LINE, isi_non_int, isi_non_bool, isi_non_str, isi_non_tuple, isi_non_list, isi_bl_int, isi_bl_bool, isi_bl_str, isi_bl_tuple, isi_bl_list, isi_int_int, isi_int_bool, isi_int_str, isi_int_tuple, isi_int_list, isi_str_int, isi_str_bool, isi_str_str, isi_str_tuple, isi_str_list, isi_tup_int, isi_tup_bool, isi_tup_str, isi_tup_tuple, isi_tup_list, isi_lst_int, isi_lst_bool, isi_lst_str, isi_lst_tuple, isi_lst_list, isi_dct_int, isi_dct_bool, isi_dct_str, isi_dct_tuple, isi_dct_list, ddct0, dint, fTuple, fListF, fList, pow10_iff, Int.reduceLE, Int.reduceLT, Int.reduceToNat]
    match xs, hc, hq, he with
    | [], _, _, he => exact he rfl
    | [x], _, _, he => exact he (numD_one x)
    | x :: y :: z :: r, _, _, he =>
      have : (((x :: y :: z :: r).length : Int) == 2) = false := by simp; omega
      rw [if_pos this]
      exact he (numD_more x y z r)
    | [x, y], hc, hq, he =>
      obtain ⟨⟨tx, hx⟩, ⟨ty, hy⟩, hs⟩ := hc x y rfl
      rw [if_neg (show ¬ (((([x, y] : List D).length : Nat) : Int) == 2) = false by simp)]
      refine ⟨rfl, rfl, x, tx, rfl, hx, ?_⟩
      cases wx : wholeD x with
      | false =>
        simp only [if_true]
        exact he (numD_pair (.inl wx))
      | true =>
        obtain ⟨a, rfl⟩ := wholeD_int wx
        simp only [Bool.true_eq_false, if_false]
        refine ⟨y, ty, rfl, hy, ?_⟩
        cases wy : wholeD y with
        | false =>
          simp only [if_true]
          exact he (numD_pair (.inr wy))
        | true =>
          obtain ⟨b, rfl⟩ := wholeD_int wy
          simp only [Bool.true_eq_false, if_false, ↓reduceIte, disX, dxf, dcallQ, dcallQF, eqv_strs, sgnD_eq, draise1, fAll, diR1, diR2, diL, diT, diS, dname, dapp, dappPop, dlenO, dixO, dretO, dSl, donone, dosome, dyes, dfv, dm1, fJoin, fIndex, fListF, fSortT, dRev, dIn, dNotIn, difE, fMax, fMin, fStr, fList, dseq, dif, dret, dretN, dretF, dretO, dasg, dasgO, dexpr, dnext, dop, dopF, dk, dvar, dcons, dnil, dlst, dflst, dtup, dIx, dI0, dII, dB0, dtest, dtruth, dand, dor, dnot, dcb, dcbF, dcall, dcallF, dixS, dsetS, dinS, difS, fLen, fInt, fAbs, endD, scD, SOK, dEq, dNe, eqv_int, eqv_str, eqv_bl, beq_iff_eq, decide_eq_true_eq, Bool.not_eq_true, Bool.not_eq_true', true_and, and_true, and_self, false_and, and_false, reduceCtorEq, true_or, or_true, true_implies, if_true, if_false, Bool.false_eq_true, not_false_eq_true, dAdd, dMul, dAddF, List.getElem?_cons_zero, List.getElem?_cons_succ, List.set_cons_zero, List.set_cons_succ, eq_self, draise0, draiseN, ddead, fGcd, fSum, diV, dgtup, dgcons, dgnil, dasgG, dNeg, dmut, dseti, dlenO, dixO, difE, dandV, dorV, dnotV, dchain, dIsN, dNotN, dMul, dAdd, start_def, List.map_cons, List.map_nil, List.length_cons, List.length_nil, List.replicate_succ, List.replicate_zero, List.cons_append, List.nil_append, Nat.reduceAdd, Nat.reduceSub, Nat.reduceLeDiff, Nb.LINE, isi_non_int, isi_non_bool, isi_non_str, isi_non_tuple, isi_non_list, isi_bl_int, isi_bl_bool, isi_bl_str, isi_bl_tuple, isi_bl_list, isi_int_int, isi_int_bool, isi_int_str, isi_int_tuple, isi_int_list, isi_str_int, isi_str_bool, isi_str_str, isi_str_tuple, isi_str_list, isi_tup_int, isi_tup_bool, isi_tup_str, isi_tup_tuple, isi_tup_list, isi_lst_int, isi_lst_bool, isi_lst_str, isi_lst_tuple, isi_lst_list, isi_dct_int, isi_dct_bool, isi_dct_str, isi_dct_tuple, isi_dct_list, ddct0, dint, fTuple, fListF, fList, pow10_iff, Int.reduceLE, Int.reduceLT, Int.reduceToNat]
          by_cases hb : b < 1
          · rw [if_pos hb]
            exact he (by rw [numD_two, if_neg (by omega)])
          · rw [if_neg hb]
            exact ⟨a, b, rfl, by omega, hs a b rfl rfl (by omega), hq _ (by rw [numD_two, if_pos (by omega)])⟩
  all_goals
    simp only [wholeD, ↓reduceIte, disX, dxf, dcallQ, dcallQF, eqv_strs, sgnD_eq, draise1, fAll, diR1, diR2, diL, diT, diS, dname, dapp, dappPop, dlenO, dixO, dretO, dSl, donone, dosome, dyes, dfv, dm1, fJoin, fIndex, fListF, fSortT, dRev, dIn, dNotIn, difE, fMax, fMin, fStr, fList, dseq, dif, dret, dretN, dretF, dretO, dasg, dasgO, dexpr, dnext, dop, dopF, dk, dvar, dcons, dnil, dlst, dflst, dtup, dIx, dI0, dII, dB0, dtest, dtruth, dand, dor, dnot, dcb, dcbF, dcall, dcallF, dixS, dsetS, dinS, difS, fLen, fInt, fAbs, endD, scD, SOK, dEq, dNe, eqv_int, eqv_str, eqv_bl, beq_iff_eq, decide_eq_true_eq, Bool.not_eq_true, Bool.not_eq_true', true_and, and_true, and_self, false_and, and_false, reduceCtorEq, true_or, or_true, true_implies, if_true, if_false, Bool.false_eq_true, not_false_eq_true, dAdd, dMul, dAddF, List.getElem?_cons_zero, List.getElem?_cons_succ, List.set_cons_zero, List.set_cons_succ, eq_self, draise0, draiseN, ddead, fGcd, fSum, diV, dgtup, dgcons, dgnil, dasgG, dNeg, dmut, dseti, dlenO, dixO, difE, dandV, dorV, dnotV, dchain, dIsN, dNotN, dMul, dAdd, start_def, List.map_cons, List.map_nil, List.length_cons, List.length_nil, List.replicate_succ, List.replicate_zero, List.cons_append, List.nil_append, Nat.reduceAdd, Nat.reduceSub, Nat.reduceLeDiff, Nb.LINE, isi_non_int, isi_non_bool, isi_non_str, isi_non_tuple, isi_non_list, isi_bl_int, isi_bl_bool, isi_bl_str, isi_bl_tuple, isi_bl_list, isi_int_int, isi_int_bool, isi_int_str, isi_int_tuple, isi_int_list, isi_str_int, isi_str_bool, isi_str_str, isi_str_tuple, isi_str_list, isi_tup_int, isi_tup_bool, isi_tup_str, isi_tup_tuple, isi_tup_list, isi_lst_int, isi_lst_bool, isi_lst_str, isi_lst_tuple, isi_lst_list, isi_dct_int, isi_dct_bool, isi_dct_str, isi_dct_tuple, isi_dct_list, ddct0, dint, fTuple, fListF, fList, pow10_iff, Int.reduceLE, Int.reduceLT, Int.reduceToNat]
    exact he rfl
abbrev s_checked_all : Stmt := top 28
theorem sc_checked_all : FnScope ["values", "value"] ["values"] (defScope s_checked_all) := ⟨rfl, rfl, rfl, by decide +kernel, rfl, by decide +kernel, by decide +kernel⟩
def S_checked_all : DSp := fun ds Q E => ∃ d xs, ds = [d] ∧ (d = .lst xs ∨ d = .tup xs) ∧ xs.length ≤ 1000000 ∧ (∀ x ∈ xs, ChkOk x) ∧ (∀ qs : List Rat, xs.map numD = qs.map some → Q (.lst (qs.map fr))) ∧ ((∃ x ∈ xs, numD x = none) → E ("BadNumber", []))
theorem len_checked_all {ds : List D} {Q : D → Prop} {E : Ex → Prop} (h : S_checked_all ds Q E) : ds.length = 1 := by obtain ⟨m, t, h, _⟩ := h; rw [h]; rfl
theorem ok_checked_all (T : Txt P K mg) (h_checked : Has P w K mg base "checked" 2 false S_checked) {f : Addr} {fd : FuncData} (F : Fun K "checked_all" "checked_all" s_checked_all f fd) : FnOk P w K mg base (L2N.CX P w) 3 f fd ["values"] (spD K mg true S_checked_all) := by
  refine fn_ok F sc_checked_all (fun ds Qd Ed h => len_checked_all h) (fun cdv Ar outer s H E R M ds Qd Ed hr hK hm h0 h => ?_)
  subst hK hm
  refine ⟨_, (gss_one (gs_retF (gf_lcX (own := [("value", 1)]) (js := [1]) (by rfl) sc_checked_all.nd (L2N.takes_of rfl rfl rfl rfl) (gi_V (pv 0)) (by show blkC ["values", "value"] (defScope s_checked_all) _ _ = true; decide +kernel) (by decide) (fun B hB _ _ _ _ _ => gg_name (i := 1) sc_checked_all.nd rfl (by first | exact Or.inl rfl | exact Or.inr rfl)) (fun B hB _ _ _ _ _ => gts_nil) (fun B hB _ _ _ _ _ xe Wb tkc => (ge_call (Has.callC h_checked (hr.mono (by decide)) tkc) (gl_cons (ge_var (pv 1)) gl_nil) ((congrArg RC.hx hB).trans h0) (hK := congrArg RC.K hB) (hm := congrArg RC.mg hB)))))), ?_⟩
  obtain ⟨d, xs, rfl, hd, hl, hc, hq, he⟩ := h
  simp only [↓reduceIte, disX, dxf, dcallQ, dcallQF, eqv_strs, sgnD_eq, draise1, fAll, diR1, diR2, diL, diT, diS, dname, dapp, dappPop, dlenO, dixO, dretO, dSl, donone, dosome, dyes, dfv, dm1, fJoin, fIndex, fListF, fSortT, dRev, dIn, dNotIn, difE, fMax, fMin, fStr, fList, dseq, dif, dret, dretN, dretF, dretO, dasg, dasgO, dexpr, dnext, dop, dopF, dk, dvar, dcons, dnil, dlst, dflst, dtup, dIx, dI0, dII, dB0, dtest, dtruth, dand, dor, dnot, dcb, dcbF, dcall, dcallF, dixS, dsetS, dinS, difS, fLen, fInt, fAbs, endD, scD, SOK, dEq, dNe, eqv_int, eqv_str, eqv_bl, beq_iff_eq, decide_eq_true_eq, Bool.not_eq_true, Bool.not_eq_true', true_and, and_true, and_self, false_and, and_false, reduceCtorEq, true_or, or_true, true_implies, if_true, if_false, Bool.false_eq_true, not_false_eq_true, dAdd, dMul, dAddF, List.getElem?_cons_zero, List.getElem?_cons_succ, List.set_cons_zero, List.set_cons_succ, eq_self, draise0, draiseN, ddead, fGcd, fSum, diV, dgtup, dgcons, dgnil, dasgG, dNeg, dmut, dseti, dlenO, dixO, difE, dandV, dorV, dnotV, dchain, dIsN, dNotN, dMul, dAdd, start_def, List.map_cons, List.map_nil, List.length_cons, List.length_nil, List.replicate_succ, List.replicate_zero, List.cons_append, List.nil_append, Nat.reduceAdd, Nat.reduceSub, Nat.reduceLeDiff, Nb.LINE, isi_non_int, isi_non_bool, isi_non_str, isi_non_tuple, isi_non_list, isi_bl_int, isi_bl_bool, isi_bl_str, isi_bl_tuple, isi_bl_list, isi_int_int, isi_int_bool, isi_int_str, isi_int_tuple, isi_int_list, isi_str_int, isi_str_bool, isi_str_str, isi_str_tuple, isi_str_list, isi_tup_int, isi_tup_bool, isi_tup_str, isi_tup_tuple, isi_tup_list, isi_lst_int, isi_lst_bool, isi_lst_str, isi_lst_tuple, isi_lst_list, isi_dct_int, isi_dct_bool, isi_dct_str, isi_dct_tuple, isi_dct_list, ddct0, dint, fTuple, fListF, fList, pow10_iff, Int.reduceLE, Int.reduceLT, Int.reduceToNat]
  unfold dlcX
  have hi : ∀ Q' : List D → Prop, Q' xs → diV 0 [SD.val d, SD.un] Q' (fun x => Ed x) := by
    intro Q' h
    rcases hd with rfl | rfl <;> exact h
  refine hi _ ⟨fun i acc => ∃ qs : List Rat, (xs.take i).map numD = qs.map some ∧ acc = qs.map fr ∧ i ≤ xs.length, ⟨[], rfl, rfl, Nat.zero_le _⟩, fun i x acc ex ⟨qs, h1, h2, h3⟩ => ?_, fun acc ⟨qs, h1, h2, _⟩ => ?_⟩
  · have hm : x ∈ xs := List.mem_of_getElem? ex
    have hlt : i < xs.length := (List.getElem?_eq_some_iff.mp ex).1
    have hlen : acc.length = i := by
      have := congrArg List.length h1
      rw [h2, List.length_map]
      rw [List.length_map, List.length_map, List.length_take] at this
      omega
    refine ⟨x, rfl, hc x hm, fun q hq' => ⟨by show acc.length < 16777216; omega, qs ++ [q], ?_, ?_, hlt⟩, fun hn => he ⟨x, hm, hn⟩⟩
    · rw [List.take_add_one, ex, List.map_append, List.map_append, h1]
      show _ ++ [numD x] = _
      rw [hq']
      rfl
    · rw [h2, List.map_append]
      rfl
  · rw [List.take_length] at h1
    subst h2
    exact hq qs h1
abbrev s_opposite : Stmt := top 30
theorem sc_opposite : FnScope ["value", "above", "below"] ["value"] (defScope s_opposite) := ⟨rfl, rfl, rfl, by decide +kernel, rfl, by decide +kernel, by decide +kernel⟩
def S_opposite : DSp := fun ds Q E => ∃ a : Rat, ds = [fr a] ∧ Q (fr (-a))
theorem len_opposite {ds : List D} {Q : D → Prop} {E : Ex → Prop} (h : S_opposite ds Q E) : ds.length = 1 := by obtain ⟨m, h, _⟩ := h; rw [h]; rfl
theorem ok_opposite (T : Txt P K mg) {f : Addr} {fd : FuncData} (F : Fun K "opposite" "opposite" s_opposite f fd) : FnOk P w K mg base (L2N.CX P w) 1 f fd ["value"] (spD K mg false S_opposite) := by
  refine fn_ok F sc_opposite (fun ds Qd Ed h => len_opposite h) (fun cdv Ar outer s H E R M ds Qd Ed hr hK hm h0 h => ?_)
  subst hK hm
  refine ⟨_, (gss_cons (gs_asgG (ge_var (pv 0)) (gg_tup (n := 2) (by rfl) rfl (ggs_cons (gg_name (i := 1) sc_opposite.nd rfl (by first | exact Or.inl rfl | exact Or.inr rfl)) (ggs_cons (gg_name (i := 2) sc_opposite.nd rfl (by first | exact Or.inl rfl | exact Or.inr rfl)) ggs_nil))))
    (gss_one (gs_ret (ge_tup (gl_cons (ge_neg (ge_var (pv 1))) (gl_cons (ge_var (pv 2)) gl_nil)))))), ?_⟩
  obtain ⟨a, rfl, hq⟩ := h
  simp only [fr_eq, Rat.neg_num, Rat.neg_den, ↓reduceIte, disX, dxf, dcallQ, dcallQF, eqv_strs, sgnD_eq, draise1, fAll, diR1, diR2, diL, diT, diS, dname, dapp, dappPop, dlenO, dixO, dretO, dSl, donone, dosome, dyes, dfv, dm1, fJoin, fIndex, fListF, fSortT, dRev, dIn, dNotIn, difE, fMax, fMin, fStr, fList, dseq, dif, dret, dretN, dretF, dretO, dasg, dasgO, dexpr, dnext, dop, dopF, dk, dvar, dcons, dnil, dlst, dflst, dtup, dIx, dI0, dII, dB0, dtest, dtruth, dand, dor, dnot, dcb, dcbF, dcall, dcallF, dixS, dsetS, dinS, difS, fLen, fInt, fAbs, endD, scD, SOK, dEq, dNe, eqv_int, eqv_str, eqv_bl, beq_iff_eq, decide_eq_true_eq, Bool.not_eq_true, Bool.not_eq_true', true_and, and_true, and_self, false_and, and_false, reduceCtorEq, true_or, or_true, true_implies, if_true, if_false, Bool.false_eq_true, not_false_eq_true, dAdd, dMul, dAddF, List.getElem?_cons_zero, List.getElem?_cons_succ, List.set_cons_zero, List.set_cons_succ, eq_self, draise0, draiseN, ddead, fGcd, fSum, diV, dgtup, dgcons, dgnil, dasgG, dNeg, dmut, dseti, dlenO, dixO, difE, dandV, dorV, dnotV, dchain, dIsN, dNotN, dMul, dAdd, start_def, List.map_cons, List.map_nil, List.length_cons, List.length_nil, List.replicate_succ, List.replicate_zero, List.cons_append, List.nil_append, Nat.reduceAdd, Nat.reduceSub, Nat.reduceLeDiff, Nb.LINE, isi_non_int, isi_non_bool, isi_non_str, isi_non_tuple, isi_non_list, isi_bl_int, isi_bl_bool, isi_bl_str, isi_bl_tuple, isi_bl_list, isi_int_int, isi_int_bool, isi_int_str, isi_int_tuple, isi_int_list, isi_str_int, isi_str_bool, isi_str_str, isi_str_tuple, isi_str_list, isi_tup_int, isi_tup_bool, isi_tup_str, isi_tup_tuple, isi_tup_list, isi_lst_int, isi_lst_bool, isi_lst_str, isi_lst_tuple, isi_lst_list, isi_dct_int, isi_dct_bool, isi_dct_str, isi_dct_tuple, isi_dct_list, ddct0, dint, fTuple, fListF, fList, pow10_iff, Int.reduceLE, Int.reduceLT, Int.reduceToNat] at hq ⊢
  exact hq
abbrev s_plus : Stmt := top 29
theorem sc_plus : FnScope ["left", "right", "above", "below", "more", "under", "shared", "top", "spare"] ["left", "right"] (defScope s_plus) := ⟨rfl, rfl, rfl, by decide +kernel, rfl, by decide +kernel, by decide +kernel⟩
def S_plus : DSp := fun ds Q E => ∃ a b : Rat, ds = [fr a, fr b] ∧ (Sz 300000 a ∧ Sz 300000 b ∧ Nat.gcd a.den b.den < 2 ^ 8999) ∧ Q (fr (a + b))
theorem len_plus {ds : List D} {Q : D → Prop} {E : Ex → Prop} (h : S_plus ds Q E) : ds.length = 2 := by obtain ⟨m, t, h, _⟩ := h; rw [h]; rfl
theorem ok_plus (T : Txt P K mg) {f : Addr} {fd : FuncData} (F : Fun K "plus" "plus" s_plus f fd) : FnOk P w K mg base (L2N.CX P w) 1 f fd ["left", "right"] (spD K mg false S_plus) := by
  refine fn_ok F sc_plus (fun ds Qd Ed h => len_plus h) (fun cdv Ar outer s H E R M ds Qd Ed hr hK hm h0 h => ?_)
  subst hK hm
  refine ⟨_, (gss_cons (gs_asgG (ge_var (pv 0)) (gg_tup (n := 2) (by rfl) rfl (ggs_cons (gg_name (i := 2) sc_plus.nd rfl (by first | exact Or.inl rfl | exact Or.inr rfl)) (ggs_cons (gg_name (i := 3) sc_plus.nd rfl (by first | exact Or.inl rfl | exact Or.inr rfl)) ggs_nil))))
    (gss_cons (gs_asgG (ge_var (pv 1)) (gg_tup (n := 2) (by rfl) rfl (ggs_cons (gg_name (i := 4) sc_plus.nd rfl (by first | exact Or.inl rfl | exact Or.inr rfl)) (ggs_cons (gg_name (i := 5) sc_plus.nd rfl (by first | exact Or.inl rfl | exact Or.inr rfl)) ggs_nil))))
    (gss_cons (gs_asg (i := 6) (ge_gcd T.gcd (gl_cons (ge_var (pv 3)) (gl_cons (ge_var (pv 5)) gl_nil))) sc_plus.nd rfl (by first | exact Or.inl rfl | exact Or.inr rfl))
    (gss_cons (gs_asg (i := 7) (ge_add (ge_mul (ge_var (pv 2)) (ge_fdiv (ge_var (pv 5)) (ge_var (pv 6)))) (ge_mul (ge_var (pv 4)) (ge_fdiv (ge_var (pv 3)) (ge_var (pv 6))))) sc_plus.nd rfl (by first | exact Or.inl rfl | exact Or.inr rfl))
    (gss_cons (gs_asg (i := 8) (ge_gcd T.gcd (gl_cons (ge_var (pv 7)) (gl_cons (ge_var (pv 6)) gl_nil))) sc_plus.nd rfl (by first | exact Or.inl rfl | exact Or.inr rfl))
    (gss_one (gs_ret (ge_tup (gl_cons (ge_fdiv (ge_var (pv 7)) (ge_var (pv 8))) (gl_cons (ge_mul (ge_fdiv (ge_var (pv 3)) (ge_var (pv 6))) (ge_fdiv (ge_var (pv 5)) (ge_var (pv 8)))) gl_nil)))))))))), ?_⟩
  obtain ⟨a, b, rfl, ⟨sa, sb, hg⟩, hq⟩ := h
  obtain ⟨e1, e2⟩ := add_parts a b
  rw [fr_eq, e1, e2] at hq
  have gp : 0 < Nat.gcd a.den b.den := gcd_pos_den b a.den
  have tp : ∀ t : Int, 0 < Nat.gcd t.natAbs (Nat.gcd a.den b.den) := fun t => Nat.gcd_pos_of_pos_right _ gp
  have tl : ∀ t : Int, Nat.gcd t.natAbs (Nat.gcd a.den b.den) < 2 ^ 8999 := fun t => Nat.lt_of_le_of_lt (Nat.gcd_le_right _ gp) hg
  simp only [fr_eq, Int.natAbs_natCast, Int.natCast_mul, Int.natCast_ediv, ↓reduceIte, disX, dxf, dcallQ, dcallQF, eqv_strs, sgnD_eq, draise1, fAll, diR1, diR2, diL, diT, diS, dname, dapp, dappPop, dlenO, dixO, dretO, dSl, donone, dosome, dyes, dfv, dm1, fJoin, fIndex, fListF, fSortT, dRev, dIn, dNotIn, difE, fMax, fMin, fStr, fList, dseq, dif, dret, dretN, dretF, dretO, dasg, dasgO, dexpr, dnext, dop, dopF, dk, dvar, dcons, dnil, dlst, dflst, dtup, dIx, dI0, dII, dB0, dtest, dtruth, dand, dor, dnot, dcb, dcbF, dcall, dcallF, dixS, dsetS, dinS, difS, fLen, fInt, fAbs, endD, scD, SOK, dEq, dNe, eqv_int, eqv_str, eqv_bl, beq_iff_eq, decide_eq_true_eq, Bool.not_eq_true, Bool.not_eq_true', true_and, and_true, and_self, false_and, and_false, reduceCtorEq, true_or, or_true, true_implies, if_true, if_false, Bool.false_eq_true, not_false_eq_true, dAdd, dMul, dAddF, List.getElem?_cons_zero, List.getElem?_cons_succ, List.set_cons_zero, List.set_cons_succ, eq_self, draise0, draiseN, ddead, fGcd, fSum, diV, dgtup, dgcons, dgnil, dasgG, dNeg, dmut, dseti, dlenO, dixO, difE, dandV, dorV, dnotV, dchain, dIsN, dNotN, dMul, dAdd, start_def, List.map_cons, List.map_nil, List.length_cons, List.length_nil, List.replicate_succ, List.replicate_zero, List.cons_append, List.nil_append, Nat.reduceAdd, Nat.reduceSub, Nat.reduceLeDiff, Nb.LINE, isi_non_int, isi_non_bool, isi_non_str, isi_non_tuple, isi_non_list, isi_bl_int, isi_bl_bool, isi_bl_str, isi_bl_tuple, isi_bl_list, isi_int_int, isi_int_bool, isi_int_str, isi_int_tuple, isi_int_list, isi_str_int, isi_str_bool, isi_str_str, isi_str_tuple, isi_str_list, isi_tup_int, isi_tup_bool, isi_tup_str, isi_tup_tuple, isi_tup_list, isi_lst_int, isi_lst_bool, isi_lst_str, isi_lst_tuple, isi_lst_list, isi_dct_int, isi_dct_bool, isi_dct_str, isi_dct_tuple, isi_dct_list, ddct0, dint, fTuple, fListF, fList, pow10_iff, Int.reduceLE, Int.reduceLT, Int.reduceToNat] at hq ⊢
  exact ⟨gdiv gp hg, mulOk sa.1 (size_ediv (size_cast sb.2)) (by decide), gdiv gp hg, mulOk sb.1 (size_ediv (size_cast sa.2)) (by decide), gdiv (tp _) (tl _), gdiv gp hg, gdiv (tp _) (tl _), mulOk (size_ediv (size_cast sa.2)) (size_ediv (size_cast sb.2)) (by decide), hq⟩
abbrev s_times : Stmt := top 32
theorem sc_times : FnScope ["left", "right", "above", "below", "more", "under", "shared", "spare"] ["left", "right"] (defScope s_times) := ⟨rfl, rfl, rfl, by decide +kernel, rfl, by decide +kernel, by decide +kernel⟩
def S_times : DSp := fun ds Q E => ∃ a b : Rat, ds = [fr a, fr b] ∧ (Sz 300000 a ∧ Sz 300000 b ∧ Nat.gcd a.num.natAbs b.den < 2 ^ 8999 ∧ Nat.gcd b.num.natAbs a.den < 2 ^ 8999) ∧ Q (fr (a * b))
theorem len_times {ds : List D} {Q : D → Prop} {E : Ex → Prop} (h : S_times ds Q E) : ds.length = 2 := by obtain ⟨m, t, h, _⟩ := h; rw [h]; rfl
theorem ok_times (T : Txt P K mg) {f : Addr} {fd : FuncData} (F : Fun K "times" "times" s_times f fd) : FnOk P w K mg base (L2N.CX P w) 1 f fd ["left", "right"] (spD K mg false S_times) := by
  refine fn_ok F sc_times (fun ds Qd Ed h => len_times h) (fun cdv Ar outer s H E R M ds Qd Ed hr hK hm h0 h => ?_)
  subst hK hm
  refine ⟨_, (gss_cons (gs_asgG (ge_var (pv 0)) (gg_tup (n := 2) (by rfl) rfl (ggs_cons (gg_name (i := 2) sc_times.nd rfl (by first | exact Or.inl rfl | exact Or.inr rfl)) (ggs_cons (gg_name (i := 3) sc_times.nd rfl (by first | exact Or.inl rfl | exact Or.inr rfl)) ggs_nil))))
    (gss_cons (gs_asgG (ge_var (pv 1)) (gg_tup (n := 2) (by rfl) rfl (ggs_cons (gg_name (i := 4) sc_times.nd rfl (by first | exact Or.inl rfl | exact Or.inr rfl)) (ggs_cons (gg_name (i := 5) sc_times.nd rfl (by first | exact Or.inl rfl | exact Or.inr rfl)) ggs_nil))))
    (gss_cons (gs_asg (i := 6) (ge_gcd T.gcd (gl_cons (ge_var (pv 2)) (gl_cons (ge_var (pv 5)) gl_nil))) sc_times.nd rfl (by first | exact Or.inl rfl | exact Or.inr rfl))
    (gss_cons (gs_asg (i := 7) (ge_gcd T.gcd (gl_cons (ge_var (pv 4)) (gl_cons (ge_var (pv 3)) gl_nil))) sc_times.nd rfl (by first | exact Or.inl rfl | exact Or.inr rfl))
    (gss_one (gs_ret (ge_tup (gl_cons (ge_mul (ge_fdiv (ge_var (pv 2)) (ge_var (pv 6))) (ge_fdiv (ge_var (pv 4)) (ge_var (pv 7)))) (gl_cons (ge_mul (ge_fdiv (ge_var (pv 3)) (ge_var (pv 7))) (ge_fdiv (ge_var (pv 5)) (ge_var (pv 6)))) gl_nil))))))))), ?_⟩
  obtain ⟨a, b, rfl, ⟨sa, sb, h1, h2⟩, hq⟩ := h
  obtain ⟨e1, e2⟩ := mul_parts a b
  rw [fr_eq, e1, e2] at hq
  have p1 := gcd_pos_den b a.num.natAbs
  have p2 := gcd_pos_den a b.num.natAbs
  simp only [fr_eq, Int.natAbs_natCast, Int.natCast_mul, Int.natCast_ediv, ↓reduceIte, disX, dxf, dcallQ, dcallQF, eqv_strs, sgnD_eq, draise1, fAll, diR1, diR2, diL, diT, diS, dname, dapp, dappPop, dlenO, dixO, dretO, dSl, donone, dosome, dyes, dfv, dm1, fJoin, fIndex, fListF, fSortT, dRev, dIn, dNotIn, difE, fMax, fMin, fStr, fList, dseq, dif, dret, dretN, dretF, dretO, dasg, dasgO, dexpr, dnext, dop, dopF, dk, dvar, dcons, dnil, dlst, dflst, dtup, dIx, dI0, dII, dB0, dtest, dtruth, dand, dor, dnot, dcb, dcbF, dcall, dcallF, dixS, dsetS, dinS, difS, fLen, fInt, fAbs, endD, scD, SOK, dEq, dNe, eqv_int, eqv_str, eqv_bl, beq_iff_eq, decide_eq_true_eq, Bool.not_eq_true, Bool.not_eq_true', true_and, and_true, and_self, false_and, and_false, reduceCtorEq, true_or, or_true, true_implies, if_true, if_false, Bool.false_eq_true, not_false_eq_true, dAdd, dMul, dAddF, List.getElem?_cons_zero, List.getElem?_cons_succ, List.set_cons_zero, List.set_cons_succ, eq_self, draise0, draiseN, ddead, fGcd, fSum, diV, dgtup, dgcons, dgnil, dasgG, dNeg, dmut, dseti, dlenO, dixO, difE, dandV, dorV, dnotV, dchain, dIsN, dNotN, dMul, dAdd, start_def, List.map_cons, List.map_nil, List.length_cons, List.length_nil, List.replicate_succ, List.replicate_zero, List.cons_append, List.nil_append, Nat.reduceAdd, Nat.reduceSub, Nat.reduceLeDiff, Nb.LINE, isi_non_int, isi_non_bool, isi_non_str, isi_non_tuple, isi_non_list, isi_bl_int, isi_bl_bool, isi_bl_str, isi_bl_tuple, isi_bl_list, isi_int_int, isi_int_bool, isi_int_str, isi_int_tuple, isi_int_list, isi_str_int, isi_str_bool, isi_str_str, isi_str_tuple, isi_str_list, isi_tup_int, isi_tup_bool, isi_tup_str, isi_tup_tuple, isi_tup_list, isi_lst_int, isi_lst_bool, isi_lst_str, isi_lst_tuple, isi_lst_list, isi_dct_int, isi_dct_bool, isi_dct_str, isi_dct_tuple, isi_dct_list, ddct0, dint, fTuple, fListF, fList, pow10_iff, Int.reduceLE, Int.reduceLT, Int.reduceToNat] at hq ⊢
  exact ⟨gdiv p1 h1, gdiv p2 h2, mulOk (size_ediv sa.1) (size_ediv sb.1) (by decide), gdiv p2 h2, gdiv p1 h1, mulOk (size_ediv (size_cast sa.2)) (size_ediv (size_cast sb.2)) (by decide), hq⟩
end
end LW
set_option maxRecDepth 100000
set_option maxHeartbeats 4000000
namespace LW
open PySem PySem.Spec PyProof.Rows L2 Nb TL
section
variable {P : Program} {w : World} {K : PySem.W.Frag} {mg : Str → Option Value} {base : Heap}
theorem gsm {q : Rat} {n x : Nat} (h : Sz n q) (hn : n ≤ 8999) : Nat.gcd x q.den < 2 ^ 8999 :=
  Nat.lt_of_le_of_lt (Nat.gcd_le_right _ q.den_pos) (Sz.mono h hn).2
theorem plus_of {a b : Rat} {n : Nat} {Q : D → Prop} {E : Ex → Prop} (ha : Sz n a) (hb : Sz n b) (hn : n ≤ 8999) (hq : Q (fr (a + b))) : S_plus [fr a, fr b] Q E := ⟨a, b, rfl, ⟨ha.mono (by omega), hb.mono (by omega), gsm hb hn⟩, hq⟩
theorem times_of {a b : Rat} {n : Nat} {Q : D → Prop} {E : Ex → Prop} (ha : Sz n a) (hb : Sz n b) (hn : n ≤ 8999) (hq : Q (fr (a * b))) : S_times [fr a, fr b] Q E := ⟨a, b, rfl, ⟨ha.mono (by omega), hb.mono (by omega), gsm hb hn, gsm ha hn⟩, hq⟩
abbrev s_minus : Stmt := top 31
theorem sc_minus : FnScope ["left", "right"] ["left", "right"] (defScope s_minus) := ⟨rfl, rfl, rfl, by decide +kernel, rfl, by decide +kernel, by decide +kernel⟩
def S_minus : DSp := fun ds Q E => ∃ (a b : Rat) (n : Nat), ds = [fr a, fr b] ∧ Sz n a ∧ Sz n b ∧ n ≤ 8999 ∧ Q (fr (a - b))
theorem len_minus {ds : List D} {Q : D → Prop} {E : Ex → Prop} (h : S_minus ds Q E) : ds.length = 2 := by obtain ⟨m, t, _, h, _⟩ := h; rw [h]; rfl
theorem ok_minus (T : Txt P K mg) (h_opposite : Has P w K mg base "opposite" 1 false S_opposite) (h_plus : Has P w K mg base "plus" 1 false S_plus) {f : Addr} {fd : FuncData} (F : Fun K "minus" "minus" s_minus f fd) : FnOk P w K mg base (L2N.CX P w) 2 f fd ["left", "right"] (spD K mg false S_minus) := by
  refine fn_ok F sc_minus (fun ds Qd Ed h => len_minus h) (fun cdv Ar outer s H E R M ds Qd Ed hr hK hm h0 h => ?_)
  subst hK hm
  refine ⟨_, (gss_one (gs_ret (ge_call (Has.call h_plus (hr.mono (by decide)) (L2N.takes_of rfl rfl rfl rfl)) (gl_cons (ge_var (pv 0)) (gl_cons (ge_call (Has.call h_opposite (hr.mono (by decide)) (L2N.takes_of rfl rfl rfl rfl)) (gl_cons (ge_var (pv 1)) gl_nil) h0) gl_nil)) h0))), ?_⟩
  obtain ⟨a, b, n, rfl, ha, hb, hn, hq⟩ := h
  refine ⟨b, rfl, ?_⟩
  exact plus_of (E := Ed) ha hb.neg hn (by rw [← Rat.sub_eq_add_neg]; exact hq)
abbrev s_is_less : Stmt := top 33
theorem sc_is_less : FnScope ["left", "right", "above", "below", "more", "under"] ["left", "right"] (defScope s_is_less) := ⟨rfl, rfl, rfl, by decide +kernel, rfl, by decide +kernel, by decide +kernel⟩
def S_is_less : DSp := fun ds Q E => ∃ (a b : Rat), ds = [fr a, fr b] ∧ Sz 300000 a ∧ Sz 300000 b ∧ Q (.bl (decide (a < b)))
theorem len_is_less {ds : List D} {Q : D → Prop} {E : Ex → Prop} (h : S_is_less ds Q E) : ds.length = 2 := by obtain ⟨m, t, h, _⟩ := h; rw [h]; rfl
theorem ok_is_less (T : Txt P K mg) {f : Addr} {fd : FuncData} (F : Fun K "is_less" "is_less" s_is_less f fd) : FnOk P w K mg base (L2N.CX P w) 1 f fd ["left", "right"] (spD K mg false S_is_less) := by
  refine fn_ok F sc_is_less (fun ds Qd Ed h => len_is_less h) (fun cdv Ar outer s H E R M ds Qd Ed hr hK hm h0 h => ?_)
  subst hK hm
  refine ⟨_, (gss_cons (gs_asgG (ge_var (pv 0)) (gg_tup (n := 2) (by rfl) rfl (ggs_cons (gg_name (i := 2) sc_is_less.nd rfl (by first | exact Or.inl rfl | exact Or.inr rfl)) (ggs_cons (gg_name (i := 3) sc_is_less.nd rfl (by first | exact Or.inl rfl | exact Or.inr rfl)) ggs_nil))))
    (gss_cons (gs_asgG (ge_var (pv 1)) (gg_tup (n := 2) (by rfl) rfl (ggs_cons (gg_name (i := 4) sc_is_less.nd rfl (by first | exact Or.inl rfl | exact Or.inr rfl)) (ggs_cons (gg_name (i := 5) sc_is_less.nd rfl (by first | exact Or.inl rfl | exact Or.inr rfl)) ggs_nil))))
    (gss_one (gs_ret (ge_c cm_lt (ge_mul (ge_var (pv 2)) (ge_var (pv 5))) (ge_mul (ge_var (pv 4)) (ge_var (pv 3)))))))), ?_⟩
  obtain ⟨a, b, rfl, ha, hb, hq⟩ := h
  simp only [fr_eq, ↓reduceIte, disX, dxf, dcallQ, dcallQF, eqv_strs, sgnD_eq, draise1, fAll, diR1, diR2, diL, diT, diS, dname, dapp, dappPop, dlenO, dixO, dretO, dSl, donone, dosome, dyes, dfv, dm1, fJoin, fIndex, fListF, fSortT, dRev, dIn, dNotIn, difE, fMax, fMin, fStr, fList, dseq, dif, dret, dretN, dretF, dretO, dasg, dasgO, dexpr, dnext, dop, dopF, dk, dvar, dcons, dnil, dlst, dflst, dtup, dIx, dI0, dII, dB0, dtest, dtruth, dand, dor, dnot, dcb, dcbF, dcall, dcallF, dixS, dsetS, dinS, difS, fLen, fInt, fAbs, endD, scD, SOK, dEq, dNe, eqv_int, eqv_str, eqv_bl, beq_iff_eq, decide_eq_true_eq, Bool.not_eq_true, Bool.not_eq_true', true_and, and_true, and_self, false_and, and_false, reduceCtorEq, true_or, or_true, true_implies, if_true, if_false, Bool.false_eq_true, not_false_eq_true, dAdd, dMul, dAddF, List.getElem?_cons_zero, List.getElem?_cons_succ, List.set_cons_zero, List.set_cons_succ, eq_self, draise0, draiseN, ddead, fGcd, fSum, diV, dgtup, dgcons, dgnil, dasgG, dNeg, dmut, dseti, dlenO, dixO, difE, dandV, dorV, dnotV, dchain, dIsN, dNotN, dMul, dAdd, start_def, List.map_cons, List.map_nil, List.length_cons, List.length_nil, List.replicate_succ, List.replicate_zero, List.cons_append, List.nil_append, Nat.reduceAdd, Nat.reduceSub, Nat.reduceLeDiff, Nb.LINE, isi_non_int, isi_non_bool, isi_non_str, isi_non_tuple, isi_non_list, isi_bl_int, isi_bl_bool, isi_bl_str, isi_bl_tuple, isi_bl_list, isi_int_int, isi_int_bool, isi_int_str, isi_int_tuple, isi_int_list, isi_str_int, isi_str_bool, isi_str_str, isi_str_tuple, isi_str_list, isi_tup_int, isi_tup_bool, isi_tup_str, isi_tup_tuple, isi_tup_list, isi_lst_int, isi_lst_bool, isi_lst_str, isi_lst_tuple, isi_lst_list, isi_dct_int, isi_dct_bool, isi_dct_str, isi_dct_tuple, isi_dct_list, ddct0, dint, fTuple, fListF, fList, pow10_iff, Int.reduceLE, Int.reduceLT, Int.reduceToNat] at hq ⊢
  refine ⟨mulOk ha.1 (size_cast hb.2) (by decide), mulOk hb.1 (size_cast ha.2) (by decide), ?_⟩
  rw [show decide (a.num * (b.den : Int) < b.num * (a.den : Int)) = decide (a < b) from by simp only [less_iff]]
  exact hq
def sumQ : List Rat → Rat
  | [] => 0
  | x :: l => x + sumQ l
theorem sumQ_app (l : List Rat) (x : Rat) : sumQ (l ++ [x]) = sumQ l + x := by
  induction l with
  | nil => show x + 0 = 0 + x; grind
  | cons y l ih => show y + sumQ (l ++ [x]) = y + sumQ l + x; rw [ih]; grind
theorem Sz.zero (n : Nat) : Sz (n + 1) 0 := by
  refine ⟨Nat.two_pow_pos _, ?_⟩
  show 1 < 2 ^ (n + 1)
  exact Nat.one_lt_two_pow (Nat.succ_ne_zero n)
theorem Sz.sum {n : Nat} : ∀ {l : List Rat}, (∀ q ∈ l, Sz n q) → Sz ((n + 2) * (l.length + 1)) (sumQ l)
  | [], _ => (Sz.zero 0).mono (by simp)
  | x :: l, h => by
    have h1 := h x List.mem_cons_self
    have h2 := Sz.sum (l := l) fun q hq => h q (List.mem_cons_of_mem _ hq)
    refine (h1.add h2).mono ?_
    rw [List.length_cons, Nat.mul_add (n + 2) (l.length + 1) 1]
    omega
theorem fr_zero : D.tup [.int 0, .int 1] = fr 0 := rfl
theorem fr_one : D.tup [.int 1, .int 1] = fr 1 := rfl
theorem Sz.one (n : Nat) : Sz (n + 1) 1 := by
  have := Nat.one_lt_two_pow (Nat.succ_ne_zero n)
  exact ⟨this, this⟩
/-- one divided by a number of things -/
theorem fr_part {n : Nat} (h : 0 < n) : D.tup [.int 1, .int ((n : Nat) : Int)] = fr (1 / ((n : Nat) : Rat)) := by
  have e : (1 : Rat) / ((n : Nat) : Rat) = Rat.divInt 1 ((n : Nat) : Int) := by
    rw [Rat.divInt_eq_div]
    rfl
  rw [e, fr_eq]
  obtain ⟨e1, e2⟩ := div_parts (a := 1) (b := ((n : Nat) : Int)) (by omega)
  have g : Nat.gcd (1 : Int).natAbs ((n : Nat) : Int).natAbs = 1 := by simp
  rw [e1, e2, g]
  simp
theorem Sz.part {n k : Nat} (h : n < 2 ^ (k + 1)) : Sz (k + 1) (1 / ((n : Nat) : Rat)) := by
  have e : (1 : Rat) / ((n : Nat) : Rat) = Rat.divInt 1 ((n : Nat) : Int) := by
    rw [Rat.divInt_eq_div]
    rfl
  rw [e]
  exact Sz.divInt (Nat.one_lt_two_pow (Nat.succ_ne_zero k)) (by rw [Int.natAbs_natCast]; exact h)
/-- a walk over the items of slot 0 -/
theorem diV_hg {d : D} {xs : List D} {env : DEnv} (hd : d = .lst xs ∨ d = .tup xs) (Q : List D → Prop) (Ed : Ex → Prop) (h : Q xs) : diV 0 (SD.val d :: env) Q Ed := by
  rcases hd with rfl | rfl <;> exact h
abbrev s_sum_of : Stmt := top 34
theorem sc_sum_of : FnScope ["values", "found", "value"] ["values"] (defScope s_sum_of) := ⟨rfl, rfl, rfl, by decide +kernel, rfl, by decide +kernel, by decide +kernel⟩
def S_sum_of : DSp := fun ds Q E => ∃ (d : D) (qs : List Rat) (n : Nat), ds = [d] ∧ (d = .lst (qs.map fr) ∨ d = .tup (qs.map fr)) ∧ (∀ q ∈ qs, Sz n q) ∧ (n + 2) * (qs.length + 1) ≤ 8999 ∧ Q (fr (sumQ qs))
theorem len_sum_of {ds : List D} {Q : D → Prop} {E : Ex → Prop} (h : S_sum_of ds Q E) : ds.length = 1 := by obtain ⟨m, t, _, h, _⟩ := h; rw [h]; rfl
theorem ok_sum_of (T : Txt P K mg) (h_plus : Has P w K mg base "plus" 1 false S_plus) {f : Addr} {fd : FuncData} (F : Fun K "sum_of" "sum_of" s_sum_of f fd) : FnOk P w K mg base (L2N.CX P w) 2 f fd ["values"] (spD K mg false S_sum_of) := by
  refine fn_ok F sc_sum_of (fun ds Qd Ed h => len_sum_of h) (fun cdv Ar outer s H E R M ds Qd Ed hr hK hm h0 h => ?_)
  subst hK hm
  refine ⟨_, (gss_cons (gs_asg (i := 1) (c_ZERO T) sc_sum_of.nd rfl (by first | exact Or.inl rfl | exact Or.inr rfl))
    (gss_cons (gs_for (passes_of rfl) (by rfl) (gi_V (pv 0)) (gg_name (i := 2) sc_sum_of.nd rfl (by first | exact Or.inl rfl | exact Or.inr rfl)) (gss_one (gs_asg (i := 1) (ge_call (Has.call h_plus (hr.mono (by decide)) (L2N.takes_of rfl rfl rfl rfl)) (gl_cons (ge_var (pv 1)) (gl_cons (ge_var (pv 2)) gl_nil)) h0) sc_sum_of.nd rfl (by first | exact Or.inl rfl | exact Or.inr rfl))))
    (gss_one (gs_ret (ge_var (pv 1)))))), ?_⟩
  obtain ⟨d, qs, n, rfl, hd, hs, hn, hq⟩ := h
  simp only [↓reduceIte, disX, dxf, dcallQ, dcallQF, eqv_strs, sgnD_eq, draise1, fAll, diR1, diR2, diL, diT, diS, dname, dapp, dappPop, dlenO, dixO, dretO, dSl, donone, dosome, dyes, dfv, dm1, fJoin, fIndex, fListF, fSortT, dRev, dIn, dNotIn, difE, fMax, fMin, fStr, fList, dseq, dif, dret, dretN, dretF, dretO, dasg, dasgO, dexpr, dnext, dop, dopF, dk, dvar, dcons, dnil, dlst, dflst, dtup, dIx, dI0, dII, dB0, dtest, dtruth, dand, dor, dnot, dcb, dcbF, dcall, dcallF, dixS, dsetS, dinS, difS, fLen, fInt, fAbs, endD, scD, SOK, dEq, dNe, eqv_int, eqv_str, eqv_bl, beq_iff_eq, decide_eq_true_eq, Bool.not_eq_true, Bool.not_eq_true', true_and, and_true, and_self, false_and, and_false, reduceCtorEq, true_or, or_true, true_implies, if_true, if_false, Bool.false_eq_true, not_false_eq_true, dAdd, dMul, dAddF, List.getElem?_cons_zero, List.getElem?_cons_succ, List.set_cons_zero, List.set_cons_succ, eq_self, draise0, draiseN, ddead, fGcd, fSum, diV, dgtup, dgcons, dgnil, dasgG, dNeg, dmut, dseti, dlenO, dixO, difE, dandV, dorV, dnotV, dchain, dIsN, dNotN, dMul, dAdd, start_def, List.map_cons, List.map_nil, List.length_cons, List.length_nil, List.replicate_succ, List.replicate_zero, List.cons_append, List.nil_append, Nat.reduceAdd, Nat.reduceSub, Nat.reduceLeDiff, Nb.LINE, isi_non_int, isi_non_bool, isi_non_str, isi_non_tuple, isi_non_list, isi_bl_int, isi_bl_bool, isi_bl_str, isi_bl_tuple, isi_bl_list, isi_int_int, isi_int_bool, isi_int_str, isi_int_tuple, isi_int_list, isi_str_int, isi_str_bool, isi_str_str, isi_str_tuple, isi_str_list, isi_tup_int, isi_tup_bool, isi_tup_str, isi_tup_tuple, isi_tup_list, isi_lst_int, isi_lst_bool, isi_lst_str, isi_lst_tuple, isi_lst_list, isi_dct_int, isi_dct_bool, isi_dct_str, isi_dct_tuple, isi_dct_list, ddct0, dint, fTuple, fListF, fList, pow10_iff, Int.reduceLE, Int.reduceLT, Int.reduceToNat]
  refine for_l (ds := qs.map fr) (fun i env => ∃ x, env = [.val d, .val (fr (sumQ (qs.take i))), x]) (diV_hg hd) ⟨_, rfl⟩ ?_ ?_
  · rintro i x env' ex ⟨y, rfl⟩
    rw [List.getElem?_map] at ex
    obtain ⟨q, hq1, rfl⟩ := Option.map_eq_some_iff.mp ex
    have hm : q ∈ qs := List.mem_of_getElem? hq1
    have hlt : i < qs.length := (List.getElem?_eq_some_iff.mp hq1).1
    have hsz : Sz ((n + 2) * (qs.length + 1)) (sumQ (qs.take i)) := (Sz.sum (n := n) fun q hq => hs q (List.mem_of_mem_take hq)).mono (Nat.mul_le_mul_left _ (by rw [List.length_take]; omega))
    have hs2 : Sz ((n + 2) * (qs.length + 1)) q := (hs q hm).mono (by rw [Nat.mul_add]; omega)
    simp only [↓reduceIte, disX, dxf, dcallQ, dcallQF, eqv_strs, sgnD_eq, draise1, fAll, diR1, diR2, diL, diT, diS, dname, dapp, dappPop, dlenO, dixO, dretO, dSl, donone, dosome, dyes, dfv, dm1, fJoin, fIndex, fListF, fSortT, dRev, dIn, dNotIn, difE, fMax, fMin, fStr, fList, dseq, dif, dret, dretN, dretF, dretO, dasg, dasgO, dexpr, dnext, dop, dopF, dk, dvar, dcons, dnil, dlst, dflst, dtup, dIx, dI0, dII, dB0, dtest, dtruth, dand, dor, dnot, dcb, dcbF, dcall, dcallF, dixS, dsetS, dinS, difS, fLen, fInt, fAbs, endD, scD, SOK, dEq, dNe, eqv_int, eqv_str, eqv_bl, beq_iff_eq, decide_eq_true_eq, Bool.not_eq_true, Bool.not_eq_true', true_and, and_true, and_self, false_and, and_false, reduceCtorEq, true_or, or_true, true_implies, if_true, if_false, Bool.false_eq_true, not_false_eq_true, dAdd, dMul, dAddF, List.getElem?_cons_zero, List.getElem?_cons_succ, List.set_cons_zero, List.set_cons_succ, eq_self, draise0, draiseN, ddead, fGcd, fSum, diV, dgtup, dgcons, dgnil, dasgG, dNeg, dmut, dseti, dlenO, dixO, difE, dandV, dorV, dnotV, dchain, dIsN, dNotN, dMul, dAdd, start_def, List.map_cons, List.map_nil, List.length_cons, List.length_nil, List.replicate_succ, List.replicate_zero, List.cons_append, List.nil_append, Nat.reduceAdd, Nat.reduceSub, Nat.reduceLeDiff, Nb.LINE, isi_non_int, isi_non_bool, isi_non_str, isi_non_tuple, isi_non_list, isi_bl_int, isi_bl_bool, isi_bl_str, isi_bl_tuple, isi_bl_list, isi_int_int, isi_int_bool, isi_int_str, isi_int_tuple, isi_int_list, isi_str_int, isi_str_bool, isi_str_str, isi_str_tuple, isi_str_list, isi_tup_int, isi_tup_bool, isi_tup_str, isi_tup_tuple, isi_tup_list, isi_lst_int, isi_lst_bool, isi_lst_str, isi_lst_tuple, isi_lst_list, isi_dct_int, isi_dct_bool, isi_dct_str, isi_dct_tuple, isi_dct_list, ddct0, dint, fTuple, fListF, fList, pow10_iff, Int.reduceLE, Int.reduceLT, Int.reduceToNat]
    refine plus_of hsz hs2 hn ?_
    refine ⟨SD.val (fr q), ?_⟩
    rw [List.take_add_one, hq1]
    show _ = [_, SD.val (fr (sumQ (qs.take i ++ [q]))), _]
    rw [sumQ_app]
  · rintro env' ⟨y, rfl⟩
    rw [List.length_map, List.take_length]
    exact hq
abbrev s_check_count : Stmt := top 42
theorem sc_check_count : FnScope ["found", "low", "high"] ["found", "low", "high"] (defScope s_check_count) := ⟨rfl, rfl, rfl, by decide +kernel, rfl, by decide +kernel, by decide +kernel⟩
def S_check_count : DSp := fun ds Q E => ∃ d lo hi, ds = [d, .int lo, .int hi] ∧ ((∃ b, d = .bl b ∧ E ("BadCount", [("high", .int hi), ("low", .int lo), ("found", .bl b)])) ∨ ∃ n, d = .int n ∧ (lo ≤ n → n ≤ hi → Q .non) ∧ (n < lo ∨ hi < n → E ("BadCount", [("high", .int hi), ("low", .int lo), ("found", .int n)])))
theorem len_check_count {ds : List D} {Q : D → Prop} {E : Ex → Prop} (h : S_check_count ds Q E) : ds.length = 3 := by obtain ⟨d, lo, hi, h, _⟩ := h; rw [h]; rfl
theorem ok_check_count (T : Txt P K mg) {f : Addr} {fd : FuncData} (F : Fun K "check_count" "check_count" s_check_count f fd) : FnOk P w K mg base (L2N.CX P w) 2 f fd ["found", "low", "high"] (spD K mg false S_check_count) := by
  refine fn_ok F sc_check_count (fun ds Qd Ed h => len_check_count h) (fun cdv Ar outer s H E R M ds Qd Ed hr hK hm h0 h => ?_)
  subst hK hm
  refine ⟨_, (gss_one (gs_if (GW.t (gw_or (gt_val (ge_blt (b_isi) (by rfl) T.isinstance PyProof.Rows.boot_isinstance (gl_cons (ge_var (pv 0)) (gl_cons (ge_tyc (n := "bool") (by rfl) T.bool) gl_nil)))) (gw_or (gt_c cm_lt (ge_var (pv 0)) (ge_var (pv 1))) (gw_or1 (gt_c cm_gt (ge_var (pv 0)) (ge_var (pv 2))))))) (gss_one (gs_raiN (k := 1) T.r_BadCount (hr.mono (by decide)) (L2N.takes_of rfl rfl rfl rfl) (gl_cons (ge_var (pv 0)) (gl_cons (ge_var (pv 1)) (gl_cons (ge_var (pv 2)) gl_nil))))) gss_nil)), ?_⟩
  obtain ⟨d, lo, hi, rfl, h⟩ := h
  rcases h with ⟨b, rfl, h⟩ | ⟨n, rfl, hq, he⟩
  · simp only [↓reduceIte, disX, dxf, dcallQ, dcallQF, eqv_strs, sgnD_eq, draise1, fAll, diR1, diR2, diL, diT, diS, dname, dapp, dappPop, dlenO, dixO, dretO, dSl, donone, dosome, dyes, dfv, dm1, fJoin, fIndex, fListF, fSortT, dRev, dIn, dNotIn, difE, fMax, fMin, fStr, fList, dseq, dif, dret, dretN, dretF, dretO, dasg, dasgO, dexpr, dnext, dop, dopF, dk, dvar, dcons, dnil, dlst, dflst, dtup, dIx, dI0, dII, dB0, dtest, dtruth, dand, dor, dnot, dcb, dcbF, dcall, dcallF, dixS, dsetS, dinS, difS, fLen, fInt, fAbs, endD, scD, SOK, dEq, dNe, eqv_int, eqv_str, eqv_bl, beq_iff_eq, decide_eq_true_eq, Bool.not_eq_true, Bool.not_eq_true', true_and, and_true, and_self, false_and, and_false, reduceCtorEq, true_or, or_true, true_implies, if_true, if_false, Bool.false_eq_true, not_false_eq_true, dAdd, dMul, dAddF, List.getElem?_cons_zero, List.getElem?_cons_succ, List.set_cons_zero, List.set_cons_succ, eq_self, draise0, draiseN, ddead, fGcd, fSum, diV, dgtup, dgcons, dgnil, dasgG, dNeg, dmut, dseti, dlenO, dixO, difE, dandV, dorV, dnotV, dchain, dIsN, dNotN, dMul, dAdd, start_def, List.map_cons, List.map_nil, List.length_cons, List.length_nil, List.replicate_succ, List.replicate_zero, List.cons_append, List.nil_append, Nat.reduceAdd, Nat.reduceSub, Nat.reduceLeDiff, Nb.LINE, isi_non_int, isi_non_bool, isi_non_str, isi_non_tuple, isi_non_list, isi_bl_int, isi_bl_bool, isi_bl_str, isi_bl_tuple, isi_bl_list, isi_int_int, isi_int_bool, isi_int_str, isi_int_tuple, isi_int_list, isi_str_int, isi_str_bool, isi_str_str, isi_str_tuple, isi_str_list, isi_tup_int, isi_tup_bool, isi_tup_str, isi_tup_tuple, isi_tup_list, isi_lst_int, isi_lst_bool, isi_lst_str, isi_lst_tuple, isi_lst_list, isi_dct_int, isi_dct_bool, isi_dct_str, isi_dct_tuple, isi_dct_list, ddct0, dint, fTuple, fListF, fList, pow10_iff, Int.reduceLE, Int.reduceLT, Int.reduceToNat]
    exact h
  · simp only [↓reduceIte, disX, dxf, dcallQ, dcallQF, eqv_strs, sgnD_eq, draise1, fAll, diR1, diR2, diL, diT, diS, dname, dapp, dappPop, dlenO, dixO, dretO, dSl, donone, dosome, dyes, dfv, dm1, fJoin, fIndex, fListF, fSortT, dRev, dIn, dNotIn, difE, fMax, fMin, fStr, fList, dseq, dif, dret, dretN, dretF, dretO, dasg, dasgO, dexpr, dnext, dop, dopF, dk, dvar, dcons, dnil, dlst, dflst, dtup, dIx, dI0, dII, dB0, dtest, dtruth, dand, dor, dnot, dcb, dcbF, dcall, dcallF, dixS, dsetS, dinS, difS, fLen, fInt, fAbs, endD, scD, SOK, dEq, dNe, eqv_int, eqv_str, eqv_bl, beq_iff_eq, decide_eq_true_eq, Bool.not_eq_true, Bool.not_eq_true', true_and, and_true, and_self, false_and, and_false, reduceCtorEq, true_or, or_true, true_implies, if_true, if_false, Bool.false_eq_true, not_false_eq_true, dAdd, dMul, dAddF, List.getElem?_cons_zero, List.getElem?_cons_succ, List.set_cons_zero, List.set_cons_succ, eq_self, draise0, draiseN, ddead, fGcd, fSum, diV, dgtup, dgcons, dgnil, dasgG, dNeg, dmut, dseti, dlenO, dixO, difE, dandV, dorV, dnotV, dchain, dIsN, dNotN, dMul, dAdd, start_def, List.map_cons, List.map_nil, List.length_cons, List.length_nil, List.replicate_succ, List.replicate_zero, List.cons_append, List.nil_append, Nat.reduceAdd, Nat.reduceSub, Nat.reduceLeDiff, Nb.LINE, isi_non_int, isi_non_bool, isi_non_str, isi_non_tuple, isi_non_list, isi_bl_int, isi_bl_bool, isi_bl_str, isi_bl_tuple, isi_bl_list, isi_int_int, isi_int_bool, isi_int_str, isi_int_tuple, isi_int_list, isi_str_int, isi_str_bool, isi_str_str, isi_str_tuple, isi_str_list, isi_tup_int, isi_tup_bool, isi_tup_str, isi_tup_tuple, isi_tup_list, isi_lst_int, isi_lst_bool, isi_lst_str, isi_lst_tuple, isi_lst_list, isi_dct_int, isi_dct_bool, isi_dct_str, isi_dct_tuple, isi_dct_list, ddct0, dint, fTuple, fListF, fList, pow10_iff, Int.reduceLE, Int.reduceLT, Int.reduceToNat]
    split
    · exact he (.inl (by assumption))
    · split
      · exact he (.inr (by assumption))
      · exact hq (by omega) (by omega)
abbrev s_checked_levels : Stmt := top 44
theorem sc_checked_levels : FnScope ["levels"] ["levels"] (defScope s_checked_levels) := ⟨rfl, rfl, rfl, by decide +kernel, rfl, by decide +kernel, by decide +kernel⟩
def S_checked_levels : DSp := fun ds Q E => ∃ d xs, ds = [d] ∧ (d = .lst xs ∨ d = .tup xs) ∧ xs.length ≤ 1000000 ∧ (∀ x ∈ xs, ChkOk x) ∧ (1 ≤ xs.length → xs.length ≤ 5 → ∀ qs : List Rat, xs.map numD = qs.map some → Q (.lst (qs.map fr))) ∧ (1 ≤ xs.length → xs.length ≤ 5 → (∃ x ∈ xs, numD x = none) → E ("BadNumber", [])) ∧ (xs.length < 1 ∨ 5 < xs.length → E ("BadCount", [("high", .int 5), ("low", .int 1), ("found", .int ((xs.length : Nat) : Int))]))
theorem len_checked_levels {ds : List D} {Q : D → Prop} {E : Ex → Prop} (h : S_checked_levels ds Q E) : ds.length = 1 := by obtain ⟨m, t, h, _⟩ := h; rw [h]; rfl
theorem ok_checked_levels (T : Txt P K mg) (h_check_count : Has P w K mg base "check_count" 2 false S_check_count) (h_checked_all : Has P w K mg base "checked_all" 3 true S_checked_all) {f : Addr} {fd : FuncData} (F : Fun K "checked_levels" "checked_levels" s_checked_levels f fd) : FnOk P w K mg base (L2N.CX P w) 4 f fd ["levels"] (spD K mg true S_checked_levels) := by
  refine fn_ok F sc_checked_levels (fun ds Qd Ed h => len_checked_levels h) (fun cdv Ar outer s H E R M ds Qd Ed hr hK hm h0 h => ?_)
  subst hK hm
  refine ⟨_, (gss_cons (gs_expr (ge_call (Has.call h_check_count (hr.mono (by decide)) (L2N.takes_of rfl rfl rfl rfl)) (gl_cons (ge_blt (b_len) (by rfl) T.len PySem.boot_len (gl_cons (ge_var (pv 0)) gl_nil)) (gl_cons ge_int (gl_cons (c_MOST_WIDTH T) gl_nil))) h0))
    (gss_one (gs_retF (gf_call (Has.call h_checked_all (hr.mono (by decide)) (L2N.takes_of rfl rfl rfl rfl)) (gl_cons (ge_var (pv 0)) gl_nil) h0)))), ?_⟩
  obtain ⟨d, xs, rfl, hd, hl, hc, hq, he, hr⟩ := h
  have go : ∀ (P : Prop), ((1 ≤ xs.length → xs.length ≤ 5 → S_checked_all [d] Qd Ed) → P) → P := fun P h => h fun h1 h2 => ⟨d, xs, rfl, hd, hl, hc, fun qs e => hq h1 h2 qs e, he h1 h2⟩
  refine go _ fun go => ?_
  rcases hd with rfl | rfl
  · refine ⟨_, _, _, rfl, .inr ⟨_, rfl, fun h1 h2 => ?_, fun h => hr (by omega)⟩⟩
    exact go (by omega) (by omega)
  · refine ⟨_, _, _, rfl, .inr ⟨_, rfl, fun h1 h2 => ?_, fun h => hr (by omega)⟩⟩
    exact go (by omega) (by omega)
abbrev s__law_gcd : Stmt := top 54
theorem sc__law_gcd : FnScope ["left", "right", "rest"] ["left", "right"] (defScope s__law_gcd) := ⟨rfl, rfl, rfl, by decide +kernel, rfl, by decide +kernel, by decide +kernel⟩
def S__law_gcd : DSp := fun ds Q E => ∃ a b : Int, ds = [.int a, .int b] ∧ Q (.int ((Nat.gcd a.natAbs b.natAbs : Nat) : Int))
theorem len__law_gcd {ds : List D} {Q : D → Prop} {E : Ex → Prop} (h : S__law_gcd ds Q E) : ds.length = 2 := by obtain ⟨m, t, h, _⟩ := h; rw [h]; rfl
theorem ok__law_gcd (T : Txt P K mg) {f : Addr} {fd : FuncData} (F : Fun K "_law_gcd" "_law_gcd" s__law_gcd f fd) : FnOk P w K mg base (L2N.CX P w) 1 f fd ["left", "right"] (spD K mg false S__law_gcd) := by
  refine fn_ok F sc__law_gcd (fun ds Qd Ed h => len__law_gcd h) (fun cdv Ar outer s H E R M ds Qd Ed hr hK hm h0 h => ?_)
  subst hK hm
  refine ⟨_, (gss_cons (gs_asg (i := 0) (ge_blt (b_abs) (by rfl) T.abs (by decide +kernel) (gl_cons (ge_var (pv 0)) gl_nil)) sc__law_gcd.nd rfl (by first | exact Or.inl rfl | exact Or.inr rfl))
    (gss_cons (gs_asg (i := 1) (ge_blt (b_abs) (by rfl) T.abs (by decide +kernel) (gl_cons (ge_var (pv 1)) gl_nil)) sc__law_gcd.nd rfl (by first | exact Or.inl rfl | exact Or.inr rfl))
    (gss_cons (gs_while (passes_of rfl) (gt_c cm_gt (ge_var (pv 1)) ge_int) (gss_cons (gs_asg (i := 2) (ge_mod (ge_bltT (b_int) (by rfl) T.int PyProof.Rows.boot_int (gl_cons (ge_var (pv 0)) gl_nil)) (ge_var (pv 1))) sc__law_gcd.nd rfl (by first | exact Or.inl rfl | exact Or.inr rfl))
    (gss_cons (gs_asg (i := 0) (ge_var (pv 1)) sc__law_gcd.nd rfl (by first | exact Or.inl rfl | exact Or.inr rfl))
    (gss_one (gs_asg (i := 1) (ge_var (pv 2)) sc__law_gcd.nd rfl (by first | exact Or.inl rfl | exact Or.inr rfl))))))
    (gss_one (gs_ret (ge_var (pv 0))))))), ?_⟩
  obtain ⟨a, b, rfl, hq⟩ := h
  simp only [↓reduceIte, disX, dxf, dcallQ, dcallQF, eqv_strs, sgnD_eq, draise1, fAll, diR1, diR2, diL, diT, diS, dname, dapp, dappPop, dlenO, dixO, dretO, dSl, donone, dosome, dyes, dfv, dm1, fJoin, fIndex, fListF, fSortT, dRev, dIn, dNotIn, difE, fMax, fMin, fStr, fList, dseq, dif, dret, dretN, dretF, dretO, dasg, dasgO, dexpr, dnext, dop, dopF, dk, dvar, dcons, dnil, dlst, dflst, dtup, dIx, dI0, dII, dB0, dtest, dtruth, dand, dor, dnot, dcb, dcbF, dcall, dcallF, dixS, dsetS, dinS, difS, fLen, fInt, fAbs, endD, scD, SOK, dEq, dNe, eqv_int, eqv_str, eqv_bl, beq_iff_eq, decide_eq_true_eq, Bool.not_eq_true, Bool.not_eq_true', true_and, and_true, and_self, false_and, and_false, reduceCtorEq, true_or, or_true, true_implies, if_true, if_false, Bool.false_eq_true, not_false_eq_true, dAdd, dMul, dAddF, List.getElem?_cons_zero, List.getElem?_cons_succ, List.set_cons_zero, List.set_cons_succ, eq_self, draise0, draiseN, ddead, fGcd, fSum, diV, dgtup, dgcons, dgnil, dasgG, dNeg, dmut, dseti, dlenO, dixO, difE, dandV, dorV, dnotV, dchain, dIsN, dNotN, dMul, dAdd, start_def, List.map_cons, List.map_nil, List.length_cons, List.length_nil, List.replicate_succ, List.replicate_zero, List.cons_append, List.nil_append, Nat.reduceAdd, Nat.reduceSub, Nat.reduceLeDiff, Nb.LINE, isi_non_int, isi_non_bool, isi_non_str, isi_non_tuple, isi_non_list, isi_bl_int, isi_bl_bool, isi_bl_str, isi_bl_tuple, isi_bl_list, isi_int_int, isi_int_bool, isi_int_str, isi_int_tuple, isi_int_list, isi_str_int, isi_str_bool, isi_str_str, isi_str_tuple, isi_str_list, isi_tup_int, isi_tup_bool, isi_tup_str, isi_tup_tuple, isi_tup_list, isi_lst_int, isi_lst_bool, isi_lst_str, isi_lst_tuple, isi_lst_list, isi_dct_int, isi_dct_bool, isi_dct_str, isi_dct_tuple, isi_dct_list, ddct0, dint, fTuple, fListF, fList, pow10_iff, Int.reduceLE, Int.reduceLT, Int.reduceToNat]
  have ab : ∀ i : Int, (if i < 0 then -i else i) = ((i.natAbs : Nat) : Int) := fun i => by split <;> omega
  rw [ab, ab]
  unfold dwhile
  refine ⟨fun m env => ∃ (l r : Nat) (x : SD), env = [.val (.int (l : Nat)), .val (.int (r : Nat)), x] ∧ Nat.gcd l r = Nat.gcd a.natAbs b.natAbs ∧ m = r, ⟨b.natAbs, _, _, _, rfl, rfl, rfl⟩, ?_⟩
  rintro m env' ⟨l, r, x, rfl, hg, e⟩
  subst e
  simp only [↓reduceIte, disX, dxf, dcallQ, dcallQF, eqv_strs, sgnD_eq, draise1, fAll, diR1, diR2, diL, diT, diS, dname, dapp, dappPop, dlenO, dixO, dretO, dSl, donone, dosome, dyes, dfv, dm1, fJoin, fIndex, fListF, fSortT, dRev, dIn, dNotIn, difE, fMax, fMin, fStr, fList, dseq, dif, dret, dretN, dretF, dretO, dasg, dasgO, dexpr, dnext, dop, dopF, dk, dvar, dcons, dnil, dlst, dflst, dtup, dIx, dI0, dII, dB0, dtest, dtruth, dand, dor, dnot, dcb, dcbF, dcall, dcallF, dixS, dsetS, dinS, difS, fLen, fInt, fAbs, endD, scD, SOK, dEq, dNe, eqv_int, eqv_str, eqv_bl, beq_iff_eq, decide_eq_true_eq, Bool.not_eq_true, Bool.not_eq_true', true_and, and_true, and_self, false_and, and_false, reduceCtorEq, true_or, or_true, true_implies, if_true, if_false, Bool.false_eq_true, not_false_eq_true, dAdd, dMul, dAddF, List.getElem?_cons_zero, List.getElem?_cons_succ, List.set_cons_zero, List.set_cons_succ, eq_self, draise0, draiseN, ddead, fGcd, fSum, diV, dgtup, dgcons, dgnil, dasgG, dNeg, dmut, dseti, dlenO, dixO, difE, dandV, dorV, dnotV, dchain, dIsN, dNotN, dMul, dAdd, start_def, List.map_cons, List.map_nil, List.length_cons, List.length_nil, List.replicate_succ, List.replicate_zero, List.cons_append, List.nil_append, Nat.reduceAdd, Nat.reduceSub, Nat.reduceLeDiff, Nb.LINE, isi_non_int, isi_non_bool, isi_non_str, isi_non_tuple, isi_non_list, isi_bl_int, isi_bl_bool, isi_bl_str, isi_bl_tuple, isi_bl_list, isi_int_int, isi_int_bool, isi_int_str, isi_int_tuple, isi_int_list, isi_str_int, isi_str_bool, isi_str_str, isi_str_tuple, isi_str_list, isi_tup_int, isi_tup_bool, isi_tup_str, isi_tup_tuple, isi_tup_list, isi_lst_int, isi_lst_bool, isi_lst_str, isi_lst_tuple, isi_lst_list, isi_dct_int, isi_dct_bool, isi_dct_str, isi_dct_tuple, isi_dct_list, ddct0, dint, fTuple, fListF, fList, pow10_iff, Int.reduceLE, Int.reduceLT, Int.reduceToNat]
  by_cases c : 0 < m
  · rw [if_pos (by omega)]
    refine ⟨by show (0 : Int) < _; omega, l % m, Nat.mod_lt _ c, m, l % m, _, rfl, ?_, rfl⟩
    rw [← hg, Nat.gcd_comm l m, Nat.gcd_rec m l]
    exact Nat.gcd_comm _ _
  · rw [if_neg (by omega)]
    have : m = 0 := by omega
    subst this
    rw [Nat.gcd_zero_right] at hg
    rw [hg]
    exact hq
end
end LW
set_option maxRecDepth 100000
set_option maxHeartbeats 4000000
namespace LW
open PySem PySem.Spec PyProof.Rows L2 Nb TL
section
variable {P : Program} {w : World} {K : PySem.W.Frag} {mg : Str → Option Value} {base : Heap}
abbrev s__law_low : Stmt := top 55
theorem sc__law_low : FnScope ["top", "bottom", "part"] ["top", "bottom"] (defScope s__law_low) := ⟨rfl, rfl, rfl, by decide +kernel, rfl, by decide +kernel, by decide +kernel⟩
def S__law_low : DSp := fun ds Q E => ∃ a b : Int, ds = [.int a, .int b] ∧ b ≠ 0 ∧ Nat.gcd a.natAbs b.natAbs < 2 ^ 8999 ∧ Q (fr (Rat.divInt a b))
theorem len__law_low {ds : List D} {Q : D → Prop} {E : Ex → Prop} (h : S__law_low ds Q E) : ds.length = 2 := by obtain ⟨m, t, h, _⟩ := h; rw [h]; rfl
theorem ok__law_low (T : Txt P K mg) (h__law_gcd : Has P w K mg base "_law_gcd" 1 false S__law_gcd) {f : Addr} {fd : FuncData} (F : Fun K "_law_low" "_law_low" s__law_low f fd) : FnOk P w K mg base (L2N.CX P w) 2 f fd ["top", "bottom"] (spD K mg false S__law_low) := by
  refine fn_ok F sc__law_low (fun ds Qd Ed h => len__law_low h) (fun cdv Ar outer s H E R M ds Qd Ed hr hK hm h0 h => ?_)
  subst hK hm
  refine ⟨_, (gss_cons (gs_if (gt_c (cm_eq (room_units hr)) (ge_var (pv 1)) ge_int) (gss_one (gs_ret (ge_tup (gl_cons (ge_var (pv 0)) (gl_cons ge_int gl_nil))))) gss_nil)
    (gss_cons (gs_if (gt_c cm_lt (ge_var (pv 1)) ge_int) (gss_cons (gs_asg (i := 0) (ge_subI ge_int (ge_var (pv 0))) sc__law_low.nd rfl (by first | exact Or.inl rfl | exact Or.inr rfl))
    (gss_one (gs_asg (i := 1) (ge_subI ge_int (ge_var (pv 1))) sc__law_low.nd rfl (by first | exact Or.inl rfl | exact Or.inr rfl)))) gss_nil)
    (gss_cons (gs_asg (i := 2) (ge_call (Has.call h__law_gcd (hr.mono (by decide)) (L2N.takes_of rfl rfl rfl rfl)) (gl_cons (ge_var (pv 0)) (gl_cons (ge_var (pv 1)) gl_nil)) h0) sc__law_low.nd rfl (by first | exact Or.inl rfl | exact Or.inr rfl))
    (gss_one (gs_ret (ge_tup (gl_cons (ge_fdiv (ge_var (pv 0)) (ge_var (pv 2))) (gl_cons (ge_fdiv (ge_var (pv 1)) (ge_var (pv 2))) gl_nil)))))))), ?_⟩
  obtain ⟨a, b, rfl, hb, hg, hq⟩ := h
  simp only [↓reduceIte, disX, dxf, dcallQ, dcallQF, eqv_strs, sgnD_eq, draise1, fAll, diR1, diR2, diL, diT, diS, dname, dapp, dappPop, dlenO, dixO, dretO, dSl, donone, dosome, dyes, dfv, dm1, fJoin, fIndex, fListF, fSortT, dRev, dIn, dNotIn, difE, fMax, fMin, fStr, fList, dseq, dif, dret, dretN, dretF, dretO, dasg, dasgO, dexpr, dnext, dop, dopF, dk, dvar, dcons, dnil, dlst, dflst, dtup, dIx, dI0, dII, dB0, dtest, dtruth, dand, dor, dnot, dcb, dcbF, dcall, dcallF, dixS, dsetS, dinS, difS, fLen, fInt, fAbs, endD, scD, SOK, dEq, dNe, eqv_int, eqv_str, eqv_bl, beq_iff_eq, decide_eq_true_eq, Bool.not_eq_true, Bool.not_eq_true', true_and, and_true, and_self, false_and, and_false, reduceCtorEq, true_or, or_true, true_implies, if_true, if_false, Bool.false_eq_true, not_false_eq_true, dAdd, dMul, dAddF, List.getElem?_cons_zero, List.getElem?_cons_succ, List.set_cons_zero, List.set_cons_succ, eq_self, draise0, draiseN, ddead, fGcd, fSum, diV, dgtup, dgcons, dgnil, dasgG, dNeg, dmut, dseti, dlenO, dixO, difE, dandV, dorV, dnotV, dchain, dIsN, dNotN, dMul, dAdd, start_def, List.map_cons, List.map_nil, List.length_cons, List.length_nil, List.replicate_succ, List.replicate_zero, List.cons_append, List.nil_append, Nat.reduceAdd, Nat.reduceSub, Nat.reduceLeDiff, Nb.LINE, isi_non_int, isi_non_bool, isi_non_str, isi_non_tuple, isi_non_list, isi_bl_int, isi_bl_bool, isi_bl_str, isi_bl_tuple, isi_bl_list, isi_int_int, isi_int_bool, isi_int_str, isi_int_tuple, isi_int_list, isi_str_int, isi_str_bool, isi_str_str, isi_str_tuple, isi_str_list, isi_tup_int, isi_tup_bool, isi_tup_str, isi_tup_tuple, isi_tup_list, isi_lst_int, isi_lst_bool, isi_lst_str, isi_lst_tuple, isi_lst_list, isi_dct_int, isi_dct_bool, isi_dct_str, isi_dct_tuple, isi_dct_list, ddct0, dint, fTuple, fListF, fList, pow10_iff, Int.reduceLE, Int.reduceLT, Int.reduceToNat]
  have n0 : (b == 0) = false := by simpa using hb
  have gp : ∀ x y : Int, y ≠ 0 → 0 < Nat.gcd x.natAbs y.natAbs := fun x y hy => Nat.gcd_pos_of_pos_right _ (by omega)
  rw [if_neg hb]
  by_cases c : b < 0
  · rw [if_pos c]
    obtain ⟨e1, e2⟩ := div_parts (a := 0 - a) (b := 0 - b) (by omega)
    have e3 : Rat.divInt (0 - a) (0 - b) = Rat.divInt a b := by rw [Int.zero_sub, Int.zero_sub, Rat.neg_divInt_neg]
    rw [e3] at e1 e2
    have hg2 : Nat.gcd (0 - a).natAbs (0 - b).natAbs < 2 ^ 8999 := by rw [Int.zero_sub, Int.zero_sub, Int.natAbs_neg, Int.natAbs_neg]; exact hg
    rw [fr_eq, e1, e2] at hq
    exact ⟨_, _, rfl, gdiv (gp _ _ (by omega)) hg2, gdiv (gp _ _ (by omega)) hg2, hq⟩
  · rw [if_neg c]
    obtain ⟨e1, e2⟩ := div_parts (a := a) (b := b) (by omega)
    rw [fr_eq, e1, e2] at hq
    exact ⟨_, _, rfl, gdiv (gp _ _ (by omega)) hg, gdiv (gp _ _ (by omega)) hg, hq⟩
theorem gsml {a b : Int} {n : Nat} (h : b.natAbs < 2 ^ n) (h0 : b ≠ 0) (hn : n ≤ 8999) : Nat.gcd a.natAbs b.natAbs < 2 ^ 8999 :=
  Nat.lt_of_le_of_lt (Nat.gcd_le_right _ (by omega)) (Nat.lt_of_lt_of_le h (Nat.pow_le_pow_right (by decide) hn))
theorem den_ne (q : Rat) : ((q.den : Nat) : Int) ≠ 0 := by have := q.den_pos; omega
theorem gsm2 {p q : Rat} {n : Nat} (hp : Sz n p) (hq : Sz n q) (hn : n ≤ 4000) (x : Int) : Nat.gcd x.natAbs ((p.den : Int) * (q.den : Int)).natAbs < 2 ^ 8999 := by
  refine gsml (n := n + n) ?_ (Int.mul_ne_zero (den_ne p) (den_ne q)) (by omega)
  rw [Int.natAbs_mul, Int.natAbs_natCast, Int.natAbs_natCast]
  exact mul_lt_pow hp.2 hq.2
theorem divInt_sub (p q : Rat) : Rat.divInt (p.num * (q.den : Int) - q.num * (p.den : Int)) ((p.den : Int) * (q.den : Int)) = p - q := by
  rw [← Rat.divInt_sub_divInt _ _ (den_ne p) (den_ne q), Rat.num_divInt_den, Rat.num_divInt_den]
theorem divInt_add (p q : Rat) : Rat.divInt (p.num * (q.den : Int) + q.num * (p.den : Int)) ((p.den : Int) * (q.den : Int)) = p + q := by
  rw [← Rat.divInt_add_divInt _ _ (den_ne p) (den_ne q), Rat.num_divInt_den, Rat.num_divInt_den]
theorem divInt_mul (p q : Rat) : Rat.divInt (p.num * q.num) ((p.den : Int) * (q.den : Int)) = p * q := by
  rw [← Rat.divInt_mul_divInt, Rat.num_divInt_den, Rat.num_divInt_den]
theorem at0 (a b : D) : L2.atI [a, b] 0 = some a := rfl
theorem at1 (a b : D) : L2.atI [a, b] 1 = some b := rfl
theorem mulS {p q : Rat} {n : Nat} (hp : Sz n p) (hq : Sz n q) (hn : n ≤ 4000) : CMulA p.num (q.den : Int) ∧ CMulA (p.den : Int) (q.den : Int) ∧ CMulA p.num q.num :=
  ⟨mulOk hp.1 (size_cast hq.2) (by omega), mulOk (size_cast hp.2) (size_cast hq.2) (by omega), mulOk hp.1 hq.1 (by omega)⟩
abbrev s__law_minus : Stmt := top 58
theorem sc__law_minus : FnScope ["left", "right"] ["left", "right"] (defScope s__law_minus) := ⟨rfl, rfl, rfl, by decide +kernel, rfl, by decide +kernel, by decide +kernel⟩
def S__law_minus : DSp := fun ds Q E => ∃ (a b : Rat) (n : Nat), ds = [fr a, fr b] ∧ Sz n a ∧ Sz n b ∧ n ≤ 4000 ∧ Q (fr (a - b))
theorem len__law_minus {ds : List D} {Q : D → Prop} {E : Ex → Prop} (h : S__law_minus ds Q E) : ds.length = 2 := by obtain ⟨m, t, _, h, _⟩ := h; rw [h]; rfl
theorem ok__law_minus (T : Txt P K mg) (h__law_low : Has P w K mg base "_law_low" 2 false S__law_low) {f : Addr} {fd : FuncData} (F : Fun K "_law_minus" "_law_minus" s__law_minus f fd) : FnOk P w K mg base (L2N.CX P w) 3 f fd ["left", "right"] (spD K mg false S__law_minus) := by
  refine fn_ok F sc__law_minus (fun ds Qd Ed h => len__law_minus h) (fun cdv Ar outer s H E R M ds Qd Ed hr hK hm h0 h => ?_)
  subst hK hm
  refine ⟨_, (gss_one (gs_ret (ge_call (Has.call h__law_low (hr.mono (by decide)) (L2N.takes_of rfl rfl rfl rfl)) (gl_cons (ge_subI (ge_mul (ge_ix (ge_var (pv 0)) ge_int) (ge_ix (ge_var (pv 1)) ge_int)) (ge_mul (ge_ix (ge_var (pv 1)) ge_int) (ge_ix (ge_var (pv 0)) ge_int))) (gl_cons (ge_mul (ge_ix (ge_var (pv 0)) ge_int) (ge_ix (ge_var (pv 1)) ge_int)) gl_nil)) h0))), ?_⟩
  obtain ⟨p, q, n, rfl, hp, hq, hn, h⟩ := h
  simp only [fr_eq, at0, at1, Option.some.injEq, exists_eq_left', ↓reduceIte, disX, dxf, dcallQ, dcallQF, eqv_strs, sgnD_eq, draise1, fAll, diR1, diR2, diL, diT, diS, dname, dapp, dappPop, dlenO, dixO, dretO, dSl, donone, dosome, dyes, dfv, dm1, fJoin, fIndex, fListF, fSortT, dRev, dIn, dNotIn, difE, fMax, fMin, fStr, fList, dseq, dif, dret, dretN, dretF, dretO, dasg, dasgO, dexpr, dnext, dop, dopF, dk, dvar, dcons, dnil, dlst, dflst, dtup, dIx, dI0, dII, dB0, dtest, dtruth, dand, dor, dnot, dcb, dcbF, dcall, dcallF, dixS, dsetS, dinS, difS, fLen, fInt, fAbs, endD, scD, SOK, dEq, dNe, eqv_int, eqv_str, eqv_bl, beq_iff_eq, decide_eq_true_eq, Bool.not_eq_true, Bool.not_eq_true', true_and, and_true, and_self, false_and, and_false, reduceCtorEq, true_or, or_true, true_implies, if_true, if_false, Bool.false_eq_true, not_false_eq_true, dAdd, dMul, dAddF, List.getElem?_cons_zero, List.getElem?_cons_succ, List.set_cons_zero, List.set_cons_succ, eq_self, draise0, draiseN, ddead, fGcd, fSum, diV, dgtup, dgcons, dgnil, dasgG, dNeg, dmut, dseti, dlenO, dixO, difE, dandV, dorV, dnotV, dchain, dIsN, dNotN, dMul, dAdd, start_def, List.map_cons, List.map_nil, List.length_cons, List.length_nil, List.replicate_succ, List.replicate_zero, List.cons_append, List.nil_append, Nat.reduceAdd, Nat.reduceSub, Nat.reduceLeDiff, Nb.LINE, isi_non_int, isi_non_bool, isi_non_str, isi_non_tuple, isi_non_list, isi_bl_int, isi_bl_bool, isi_bl_str, isi_bl_tuple, isi_bl_list, isi_int_int, isi_int_bool, isi_int_str, isi_int_tuple, isi_int_list, isi_str_int, isi_str_bool, isi_str_str, isi_str_tuple, isi_str_list, isi_tup_int, isi_tup_bool, isi_tup_str, isi_tup_tuple, isi_tup_list, isi_lst_int, isi_lst_bool, isi_lst_str, isi_lst_tuple, isi_lst_list, isi_dct_int, isi_dct_bool, isi_dct_str, isi_dct_tuple, isi_dct_list, ddct0, dint, fTuple, fListF, fList, pow10_iff, Int.reduceLE, Int.reduceLT, Int.reduceToNat]
  refine ⟨(mulS hp hq hn).1, (mulS hq hp hn).1, (mulS hp hq hn).2.1, _, _, rfl, Int.mul_ne_zero (den_ne p) (den_ne q), gsm2 hp hq hn _, ?_⟩
  rw [divInt_sub]
  exact h
abbrev s__law_plus : Stmt := top 57
theorem sc__law_plus : FnScope ["left", "right"] ["left", "right"] (defScope s__law_plus) := ⟨rfl, rfl, rfl, by decide +kernel, rfl, by decide +kernel, by decide +kernel⟩
def S__law_plus : DSp := fun ds Q E => ∃ (a b : Rat) (n : Nat), ds = [fr a, fr b] ∧ Sz n a ∧ Sz n b ∧ n ≤ 4000 ∧ Q (fr (a + b))
theorem len__law_plus {ds : List D} {Q : D → Prop} {E : Ex → Prop} (h : S__law_plus ds Q E) : ds.length = 2 := by obtain ⟨m, t, _, h, _⟩ := h; rw [h]; rfl
theorem ok__law_plus (T : Txt P K mg) (h__law_low : Has P w K mg base "_law_low" 2 false S__law_low) {f : Addr} {fd : FuncData} (F : Fun K "_law_plus" "_law_plus" s__law_plus f fd) : FnOk P w K mg base (L2N.CX P w) 3 f fd ["left", "right"] (spD K mg false S__law_plus) := by
  refine fn_ok F sc__law_plus (fun ds Qd Ed h => len__law_plus h) (fun cdv Ar outer s H E R M ds Qd Ed hr hK hm h0 h => ?_)
  subst hK hm
  refine ⟨_, (gss_one (gs_ret (ge_call (Has.call h__law_low (hr.mono (by decide)) (L2N.takes_of rfl rfl rfl rfl)) (gl_cons (ge_add (ge_mul (ge_ix (ge_var (pv 0)) ge_int) (ge_ix (ge_var (pv 1)) ge_int)) (ge_mul (ge_ix (ge_var (pv 1)) ge_int) (ge_ix (ge_var (pv 0)) ge_int))) (gl_cons (ge_mul (ge_ix (ge_var (pv 0)) ge_int) (ge_ix (ge_var (pv 1)) ge_int)) gl_nil)) h0))), ?_⟩
  obtain ⟨p, q, n, rfl, hp, hq, hn, h⟩ := h
  simp only [fr_eq, at0, at1, Option.some.injEq, exists_eq_left', ↓reduceIte, disX, dxf, dcallQ, dcallQF, eqv_strs, sgnD_eq, draise1, fAll, diR1, diR2, diL, diT, diS, dname, dapp, dappPop, dlenO, dixO, dretO, dSl, donone, dosome, dyes, dfv, dm1, fJoin, fIndex, fListF, fSortT, dRev, dIn, dNotIn, difE, fMax, fMin, fStr, fList, dseq, dif, dret, dretN, dretF, dretO, dasg, dasgO, dexpr, dnext, dop, dopF, dk, dvar, dcons, dnil, dlst, dflst, dtup, dIx, dI0, dII, dB0, dtest, dtruth, dand, dor, dnot, dcb, dcbF, dcall, dcallF, dixS, dsetS, dinS, difS, fLen, fInt, fAbs, endD, scD, SOK, dEq, dNe, eqv_int, eqv_str, eqv_bl, beq_iff_eq, decide_eq_true_eq, Bool.not_eq_true, Bool.not_eq_true', true_and, and_true, and_self, false_and, and_false, reduceCtorEq, true_or, or_true, true_implies, if_true, if_false, Bool.false_eq_true, not_false_eq_true, dAdd, dMul, dAddF, List.getElem?_cons_zero, List.getElem?_cons_succ, List.set_cons_zero, List.set_cons_succ, eq_self, draise0, draiseN, ddead, fGcd, fSum, diV, dgtup, dgcons, dgnil, dasgG, dNeg, dmut, dseti, dlenO, dixO, difE, dandV, dorV, dnotV, dchain, dIsN, dNotN, dMul, dAdd, start_def, List.map_cons, List.map_nil, List.length_cons, List.length_nil, List.replicate_succ, List.replicate_zero, List.cons_append, List.nil_append, Nat.reduceAdd, Nat.reduceSub, Nat.reduceLeDiff, Nb.LINE, isi_non_int, isi_non_bool, isi_non_str, isi_non_tuple, isi_non_list, isi_bl_int, isi_bl_bool, isi_bl_str, isi_bl_tuple, isi_bl_list, isi_int_int, isi_int_bool, isi_int_str, isi_int_tuple, isi_int_list, isi_str_int, isi_str_bool, isi_str_str, isi_str_tuple, isi_str_list, isi_tup_int, isi_tup_bool, isi_tup_str, isi_tup_tuple, isi_tup_list, isi_lst_int, isi_lst_bool, isi_lst_str, isi_lst_tuple, isi_lst_list, isi_dct_int, isi_dct_bool, isi_dct_str, isi_dct_tuple, isi_dct_list, ddct0, dint, fTuple, fListF, fList, pow10_iff, Int.reduceLE, Int.reduceLT, Int.reduceToNat]
  refine ⟨(mulS hp hq hn).1, (mulS hq hp hn).1, (mulS hp hq hn).2.1, _, _, rfl, Int.mul_ne_zero (den_ne p) (den_ne q), gsm2 hp hq hn _, ?_⟩
  rw [divInt_add]
  exact h
abbrev s__law_times : Stmt := top 59
theorem sc__law_times : FnScope ["left", "right"] ["left", "right"] (defScope s__law_times) := ⟨rfl, rfl, rfl, by decide +kernel, rfl, by decide +kernel, by decide +kernel⟩
def S__law_times : DSp := fun ds Q E => ∃ (a b : Rat) (n : Nat), ds = [fr a, fr b] ∧ Sz n a ∧ Sz n b ∧ n ≤ 4000 ∧ Q (fr (a * b))
theorem len__law_times {ds : List D} {Q : D → Prop} {E : Ex → Prop} (h : S__law_times ds Q E) : ds.length = 2 := by obtain ⟨m, t, _, h, _⟩ := h; rw [h]; rfl
theorem ok__law_times (T : Txt P K mg) (h__law_low : Has P w K mg base "_law_low" 2 false S__law_low) {f : Addr} {fd : FuncData} (F : Fun K "_law_times" "_law_times" s__law_times f fd) : FnOk P w K mg base (L2N.CX P w) 3 f fd ["left", "right"] (spD K mg false S__law_times) := by
  refine fn_ok F sc__law_times (fun ds Qd Ed h => len__law_times h) (fun cdv Ar outer s H E R M ds Qd Ed hr hK hm h0 h => ?_)
  subst hK hm
  refine ⟨_, (gss_one (gs_ret (ge_call (Has.call h__law_low (hr.mono (by decide)) (L2N.takes_of rfl rfl rfl rfl)) (gl_cons (ge_mul (ge_ix (ge_var (pv 0)) ge_int) (ge_ix (ge_var (pv 1)) ge_int)) (gl_cons (ge_mul (ge_ix (ge_var (pv 0)) ge_int) (ge_ix (ge_var (pv 1)) ge_int)) gl_nil)) h0))), ?_⟩
  obtain ⟨p, q, n, rfl, hp, hq, hn, h⟩ := h
  simp only [fr_eq, at0, at1, Option.some.injEq, exists_eq_left', ↓reduceIte, disX, dxf, dcallQ, dcallQF, eqv_strs, sgnD_eq, draise1, fAll, diR1, diR2, diL, diT, diS, dname, dapp, dappPop, dlenO, dixO, dretO, dSl, donone, dosome, dyes, dfv, dm1, fJoin, fIndex, fListF, fSortT, dRev, dIn, dNotIn, difE, fMax, fMin, fStr, fList, dseq, dif, dret, dretN, dretF, dretO, dasg, dasgO, dexpr, dnext, dop, dopF, dk, dvar, dcons, dnil, dlst, dflst, dtup, dIx, dI0, dII, dB0, dtest, dtruth, dand, dor, dnot, dcb, dcbF, dcall, dcallF, dixS, dsetS, dinS, difS, fLen, fInt, fAbs, endD, scD, SOK, dEq, dNe, eqv_int, eqv_str, eqv_bl, beq_iff_eq, decide_eq_true_eq, Bool.not_eq_true, Bool.not_eq_true', true_and, and_true, and_self, false_and, and_false, reduceCtorEq, true_or, or_true, true_implies, if_true, if_false, Bool.false_eq_true, not_false_eq_true, dAdd, dMul, dAddF, List.getElem?_cons_zero, List.getElem?_cons_succ, List.set_cons_zero, List.set_cons_succ, eq_self, draise0, draiseN, ddead, fGcd, fSum, diV, dgtup, dgcons, dgnil, dasgG, dNeg, dmut, dseti, dlenO, dixO, difE, dandV, dorV, dnotV, dchain, dIsN, dNotN, dMul, dAdd, start_def, List.map_cons, List.map_nil, List.length_cons, List.length_nil, List.replicate_succ, List.replicate_zero, List.cons_append, List.nil_append, Nat.reduceAdd, Nat.reduceSub, Nat.reduceLeDiff, Nb.LINE, isi_non_int, isi_non_bool, isi_non_str, isi_non_tuple, isi_non_list, isi_bl_int, isi_bl_bool, isi_bl_str, isi_bl_tuple, isi_bl_list, isi_int_int, isi_int_bool, isi_int_str, isi_int_tuple, isi_int_list, isi_str_int, isi_str_bool, isi_str_str, isi_str_tuple, isi_str_list, isi_tup_int, isi_tup_bool, isi_tup_str, isi_tup_tuple, isi_tup_list, isi_lst_int, isi_lst_bool, isi_lst_str, isi_lst_tuple, isi_lst_list, isi_dct_int, isi_dct_bool, isi_dct_str, isi_dct_tuple, isi_dct_list, ddct0, dint, fTuple, fListF, fList, pow10_iff, Int.reduceLE, Int.reduceLT, Int.reduceToNat]
  refine ⟨(mulS hp hq hn).2.2, (mulS hp hq hn).2.1, _, _, rfl, Int.mul_ne_zero (den_ne p) (den_ne q), gsm2 hp hq hn _, ?_⟩
  rw [divInt_mul]
  exact h
abbrev s__law_below : Stmt := top 60
theorem sc__law_below : FnScope ["left", "right"] ["left", "right"] (defScope s__law_below) := ⟨rfl, rfl, rfl, by decide +kernel, rfl, by decide +kernel, by decide +kernel⟩
def S__law_below : DSp := fun ds Q E => ∃ (a b : Rat) (n : Nat), ds = [fr a, fr b] ∧ Sz n a ∧ Sz n b ∧ n ≤ 4000 ∧ Q (.bl (decide (a < b)))
theorem len__law_below {ds : List D} {Q : D → Prop} {E : Ex → Prop} (h : S__law_below ds Q E) : ds.length = 2 := by obtain ⟨m, t, _, h, _⟩ := h; rw [h]; rfl
theorem ok__law_below (T : Txt P K mg) {f : Addr} {fd : FuncData} (F : Fun K "_law_below" "_law_below" s__law_below f fd) : FnOk P w K mg base (L2N.CX P w) 1 f fd ["left", "right"] (spD K mg false S__law_below) := by
  refine fn_ok F sc__law_below (fun ds Qd Ed h => len__law_below h) (fun cdv Ar outer s H E R M ds Qd Ed hr hK hm h0 h => ?_)
  subst hK hm
  refine ⟨_, (gss_one (gs_ret (ge_c cm_lt (ge_mul (ge_ix (ge_var (pv 0)) ge_int) (ge_ix (ge_var (pv 1)) ge_int)) (ge_mul (ge_ix (ge_var (pv 1)) ge_int) (ge_ix (ge_var (pv 0)) ge_int))))), ?_⟩
  obtain ⟨p, q, n, rfl, hp, hq, hn, h⟩ := h
  simp only [fr_eq, at0, at1, Option.some.injEq, exists_eq_left', ↓reduceIte, disX, dxf, dcallQ, dcallQF, eqv_strs, sgnD_eq, draise1, fAll, diR1, diR2, diL, diT, diS, dname, dapp, dappPop, dlenO, dixO, dretO, dSl, donone, dosome, dyes, dfv, dm1, fJoin, fIndex, fListF, fSortT, dRev, dIn, dNotIn, difE, fMax, fMin, fStr, fList, dseq, dif, dret, dretN, dretF, dretO, dasg, dasgO, dexpr, dnext, dop, dopF, dk, dvar, dcons, dnil, dlst, dflst, dtup, dIx, dI0, dII, dB0, dtest, dtruth, dand, dor, dnot, dcb, dcbF, dcall, dcallF, dixS, dsetS, dinS, difS, fLen, fInt, fAbs, endD, scD, SOK, dEq, dNe, eqv_int, eqv_str, eqv_bl, beq_iff_eq, decide_eq_true_eq, Bool.not_eq_true, Bool.not_eq_true', true_and, and_true, and_self, false_and, and_false, reduceCtorEq, true_or, or_true, true_implies, if_true, if_false, Bool.false_eq_true, not_false_eq_true, dAdd, dMul, dAddF, List.getElem?_cons_zero, List.getElem?_cons_succ, List.set_cons_zero, List.set_cons_succ, eq_self, draise0, draiseN, ddead, fGcd, fSum, diV, dgtup, dgcons, dgnil, dasgG, dNeg, dmut, dseti, dlenO, dixO, difE, dandV, dorV, dnotV, dchain, dIsN, dNotN, dMul, dAdd, start_def, List.map_cons, List.map_nil, List.length_cons, List.length_nil, List.replicate_succ, List.replicate_zero, List.cons_append, List.nil_append, Nat.reduceAdd, Nat.reduceSub, Nat.reduceLeDiff, Nb.LINE, isi_non_int, isi_non_bool, isi_non_str, isi_non_tuple, isi_non_list, isi_bl_int, isi_bl_bool, isi_bl_str, isi_bl_tuple, isi_bl_list, isi_int_int, isi_int_bool, isi_int_str, isi_int_tuple, isi_int_list, isi_str_int, isi_str_bool, isi_str_str, isi_str_tuple, isi_str_list, isi_tup_int, isi_tup_bool, isi_tup_str, isi_tup_tuple, isi_tup_list, isi_lst_int, isi_lst_bool, isi_lst_str, isi_lst_tuple, isi_lst_list, isi_dct_int, isi_dct_bool, isi_dct_str, isi_dct_tuple, isi_dct_list, ddct0, dint, fTuple, fListF, fList, pow10_iff, Int.reduceLE, Int.reduceLT, Int.reduceToNat]
  refine ⟨(mulS hp hq hn).1, (mulS hq hp hn).1, ?_⟩
  rw [show decide (p.num * (q.den : Int) < q.num * (p.den : Int)) = decide (p < q) from by simp only [less_iff]]
  exact h
/-! ### numbers in any form -/
theorem divInt_one (a : Int) : Rat.divInt a 1 = (a : Rat) := by
  rw [Rat.divInt_eq_div]
  show (a : Rat) / 1 = a
  grind
/-- d is a number equal to q, its parts below 2 ^ n -/
def Num (n : Nat) (d : D) (q : Rat) : Prop := (∃ z : Int, d = .int z ∧ z.natAbs < 2 ^ n ∧ q = (z : Rat)) ∨ ∃ a b : Int, d = .tup [.int a, .int b] ∧ 0 < b ∧ a.natAbs < 2 ^ n ∧ b.natAbs < 2 ^ n ∧ q = Rat.divInt a b
theorem Num.num {n : Nat} {d : D} {q : Rat} (h : Num n d q) : numD d = some q := by
  rcases h with ⟨z, rfl, _, rfl⟩ | ⟨a, b, rfl, h0, _, _, rfl⟩
  · rfl
  · rw [numD_two, if_pos (by omega)]
theorem Num.chk {n : Nat} {d : D} {q : Rat} (h : Num n d q) (hn : n ≤ 8999) : ChkOk d := by
  rcases h with ⟨z, rfl, _, rfl⟩ | ⟨a, b, rfl, h0, h1, h2, rfl⟩
  · exact ⟨⟨_, rfl⟩, fun x y e => by cases e⟩
  · refine ⟨⟨_, rfl⟩, fun x y e => ?_⟩
    injection e with e
    injection e with e1 e2
    injection e2 with e2 _
    subst e1 e2
    refine ⟨⟨_, rfl⟩, ⟨_, rfl⟩, fun a' b' e1 e2 h => ?_⟩
    cases e1
    cases e2
    exact gsml h2 (by omega) hn
theorem Num.fr {n : Nat} {q : Rat} (h : Sz n q) : Num n (fr q) q := .inr ⟨q.num, q.den, rfl, by have := q.den_pos; omega, h.1, size_cast h.2, (Rat.num_divInt_den q).symm⟩
theorem Num.mono {n m : Nat} {d : D} {q : Rat} (h : Num n d q) (k : n ≤ m) : Num m d q := by
  have p := Nat.pow_le_pow_right (show 0 < 2 by decide) k
  rcases h with ⟨z, rfl, h, rfl⟩ | ⟨a, b, rfl, h0, h1, h2, rfl⟩
  · exact .inl ⟨z, rfl, Nat.lt_of_lt_of_le h p, rfl⟩
  · exact .inr ⟨a, b, rfl, h0, Nat.lt_of_lt_of_le h1 p, Nat.lt_of_lt_of_le h2 p, rfl⟩
abbrev s__law_value : Stmt := top 56
theorem sc__law_value : FnScope ["number"] ["number"] (defScope s__law_value) := ⟨rfl, rfl, rfl, by decide +kernel, rfl, by decide +kernel, by decide +kernel⟩
def S__law_value : DSp := fun ds Q E => ∃ (n : Nat) (d : D) (q : Rat), ds = [d] ∧ Num n d q ∧ n ≤ 8999 ∧ Q (fr q)
theorem len__law_value {ds : List D} {Q : D → Prop} {E : Ex → Prop} (h : S__law_value ds Q E) : ds.length = 1 := by obtain ⟨m, t, _, h, _⟩ := h; rw [h]; rfl
theorem ok__law_value (T : Txt P K mg) (h__law_low : Has P w K mg base "_law_low" 2 false S__law_low) {f : Addr} {fd : FuncData} (F : Fun K "_law_value" "_law_value" s__law_value f fd) : FnOk P w K mg base (L2N.CX P w) 3 f fd ["number"] (spD K mg false S__law_value) := by
  refine fn_ok F sc__law_value (fun ds Qd Ed h => len__law_value h) (fun cdv Ar outer s H E R M ds Qd Ed hr hK hm h0 h => ?_)
  subst hK hm
  refine ⟨_, (gss_cons (gs_if (gt_val (ge_blt (b_isi) (by rfl) T.isinstance PyProof.Rows.boot_isinstance (gl_cons (ge_var (pv 0)) (gl_cons (ge_tyc (n := "int") (by rfl) T.int) gl_nil)))) (gss_one (gs_ret (ge_tup (gl_cons (ge_bltT (b_int) (by rfl) T.int PyProof.Rows.boot_int (gl_cons (ge_var (pv 0)) gl_nil)) (gl_cons ge_int gl_nil))))) gss_nil)
    (gss_one (gs_ret (ge_call (Has.call h__law_low (hr.mono (by decide)) (L2N.takes_of rfl rfl rfl rfl)) (gl_cons (ge_ix (ge_var (pv 0)) ge_int) (gl_cons (ge_ix (ge_var (pv 0)) ge_int) gl_nil)) h0)))), ?_⟩
  obtain ⟨n, d, q, rfl, hd, hn, hq⟩ := h
  rcases hd with ⟨z, rfl, _, rfl⟩ | ⟨a, b, rfl, h0, h1, h2, rfl⟩
  · simp only [↓reduceIte, disX, dxf, dcallQ, dcallQF, eqv_strs, sgnD_eq, draise1, fAll, diR1, diR2, diL, diT, diS, dname, dapp, dappPop, dlenO, dixO, dretO, dSl, donone, dosome, dyes, dfv, dm1, fJoin, fIndex, fListF, fSortT, dRev, dIn, dNotIn, difE, fMax, fMin, fStr, fList, dseq, dif, dret, dretN, dretF, dretO, dasg, dasgO, dexpr, dnext, dop, dopF, dk, dvar, dcons, dnil, dlst, dflst, dtup, dIx, dI0, dII, dB0, dtest, dtruth, dand, dor, dnot, dcb, dcbF, dcall, dcallF, dixS, dsetS, dinS, difS, fLen, fInt, fAbs, endD, scD, SOK, dEq, dNe, eqv_int, eqv_str, eqv_bl, beq_iff_eq, decide_eq_true_eq, Bool.not_eq_true, Bool.not_eq_true', true_and, and_true, and_self, false_and, and_false, reduceCtorEq, true_or, or_true, true_implies, if_true, if_false, Bool.false_eq_true, not_false_eq_true, dAdd, dMul, dAddF, List.getElem?_cons_zero, List.getElem?_cons_succ, List.set_cons_zero, List.set_cons_succ, eq_self, draise0, draiseN, ddead, fGcd, fSum, diV, dgtup, dgcons, dgnil, dasgG, dNeg, dmut, dseti, dlenO, dixO, difE, dandV, dorV, dnotV, dchain, dIsN, dNotN, dMul, dAdd, start_def, List.map_cons, List.map_nil, List.length_cons, List.length_nil, List.replicate_succ, List.replicate_zero, List.cons_append, List.nil_append, Nat.reduceAdd, Nat.reduceSub, Nat.reduceLeDiff, Nb.LINE, isi_non_int, isi_non_bool, isi_non_str, isi_non_tuple, isi_non_list, isi_bl_int, isi_bl_bool, isi_bl_str, isi_bl_tuple, isi_bl_list, isi_int_int, isi_int_bool, isi_int_str, isi_int_tuple, isi_int_list, isi_str_int, isi_str_bool, isi_str_str, isi_str_tuple, isi_str_list, isi_tup_int, isi_tup_bool, isi_tup_str, isi_tup_tuple, isi_tup_list, isi_lst_int, isi_lst_bool, isi_lst_str, isi_lst_tuple, isi_lst_list, isi_dct_int, isi_dct_bool, isi_dct_str, isi_dct_tuple, isi_dct_list, ddct0, dint, fTuple, fListF, fList, pow10_iff, Int.reduceLE, Int.reduceLT, Int.reduceToNat]
    exact hq
  · simp only [at0, at1, Option.some.injEq, exists_eq_left', ↓reduceIte, disX, dxf, dcallQ, dcallQF, eqv_strs, sgnD_eq, draise1, fAll, diR1, diR2, diL, diT, diS, dname, dapp, dappPop, dlenO, dixO, dretO, dSl, donone, dosome, dyes, dfv, dm1, fJoin, fIndex, fListF, fSortT, dRev, dIn, dNotIn, difE, fMax, fMin, fStr, fList, dseq, dif, dret, dretN, dretF, dretO, dasg, dasgO, dexpr, dnext, dop, dopF, dk, dvar, dcons, dnil, dlst, dflst, dtup, dIx, dI0, dII, dB0, dtest, dtruth, dand, dor, dnot, dcb, dcbF, dcall, dcallF, dixS, dsetS, dinS, difS, fLen, fInt, fAbs, endD, scD, SOK, dEq, dNe, eqv_int, eqv_str, eqv_bl, beq_iff_eq, decide_eq_true_eq, Bool.not_eq_true, Bool.not_eq_true', true_and, and_true, and_self, false_and, and_false, reduceCtorEq, true_or, or_true, true_implies, if_true, if_false, Bool.false_eq_true, not_false_eq_true, dAdd, dMul, dAddF, List.getElem?_cons_zero, List.getElem?_cons_succ, List.set_cons_zero, List.set_cons_succ, eq_self, draise0, draiseN, ddead, fGcd, fSum, diV, dgtup, dgcons, dgnil, dasgG, dNeg, dmut, dseti, dlenO, dixO, difE, dandV, dorV, dnotV, dchain, dIsN, dNotN, dMul, dAdd, start_def, List.map_cons, List.map_nil, List.length_cons, List.length_nil, List.replicate_succ, List.replicate_zero, List.cons_append, List.nil_append, Nat.reduceAdd, Nat.reduceSub, Nat.reduceLeDiff, Nb.LINE, isi_non_int, isi_non_bool, isi_non_str, isi_non_tuple, isi_non_list, isi_bl_int, isi_bl_bool, isi_bl_str, isi_bl_tuple, isi_bl_list, isi_int_int, isi_int_bool, isi_int_str, isi_int_tuple, isi_int_list, isi_str_int, isi_str_bool, isi_str_str, isi_str_tuple, isi_str_list, isi_tup_int, isi_tup_bool, isi_tup_str, isi_tup_tuple, isi_tup_list, isi_lst_int, isi_lst_bool, isi_lst_str, isi_lst_tuple, isi_lst_list, isi_dct_int, isi_dct_bool, isi_dct_str, isi_dct_tuple, isi_dct_list, ddct0, dint, fTuple, fListF, fList, pow10_iff, Int.reduceLE, Int.reduceLT, Int.reduceToNat]
    exact ⟨_, _, rfl, by omega, gsml h2 (by omega) hn, hq⟩
abbrev s__law_dress : Stmt := top 65
theorem sc__law_dress : FnScope ["store", "value", "kind", "part"] ["store", "value"] (defScope s__law_dress) := ⟨rfl, rfl, rfl, by decide +kernel, rfl, by decide +kernel, by decide +kernel⟩
def S__law_dress : DSp := fun ds Q E => ∃ (q : Rat) (n : Nat), ds = [.sto, fr q] ∧ Sz n q ∧ n ≤ 8000 ∧ ∀ d, Num (n + 3) d q → Q d
theorem len__law_dress {ds : List D} {Q : D → Prop} {E : Ex → Prop} (h : S__law_dress ds Q E) : ds.length = 2 := by obtain ⟨m, t, h, _⟩ := h; rw [h]; rfl
theorem ok__law_dress (T : Txt P K mg) (h__law_take : Has P w K mg base "_law_take" 2 false S__law_take) {f : Addr} {fd : FuncData} (F : Fun K "_law_dress" "_law_dress" s__law_dress f fd) : FnOk P w K mg base (L2N.CX P w) 3 f fd ["store", "value"] (spD K mg false S__law_dress) := by
  refine fn_ok F sc__law_dress (fun ds Qd Ed h => len__law_dress h) (fun cdv Ar outer s H E R M ds Qd Ed hr hK hm h0 h => ?_)
  subst hK hm
  refine ⟨_, (gss_cons (gs_asg (i := 2) (ge_call (Has.call h__law_take (hr.mono (by decide)) (L2N.takes_of rfl rfl rfl rfl)) (gl_cons (ge_var (pv 0)) (gl_cons ge_int gl_nil)) h0) sc__law_dress.nd rfl (by first | exact Or.inl rfl | exact Or.inr rfl))
    (gss_cons (gs_if (GW.t (gw_and (gt_c cm_lt (ge_var (pv 2)) ge_int) (gw_and1 (gt_c (cm_eq (room_units hr)) (ge_ix (ge_var (pv 1)) ge_int) ge_int)))) (gss_one (gs_ret (ge_ix (ge_var (pv 1)) ge_int))) gss_nil)
    (gss_cons (gs_if (GW.t (gw_and (gt_c cm_gt (ge_var (pv 2)) ge_int) (gw_and (gt_c cm_lt (ge_var (pv 2)) ge_int) (gw_and (gt_c cm_lt (ge_blt (b_abs) (by rfl) T.abs (by decide +kernel) (gl_cons (ge_ix (ge_var (pv 1)) ge_int) gl_nil)) (ge_pow ge_int ge_int)) (gw_and1 (gt_c cm_lt (ge_ix (ge_var (pv 1)) ge_int) (ge_pow ge_int ge_int))))))) (gss_cons (gs_asg (i := 3) (ge_add ge_int (ge_call (Has.call h__law_take (hr.mono (by decide)) (L2N.takes_of rfl rfl rfl rfl)) (gl_cons (ge_var (pv 0)) (gl_cons ge_int gl_nil)) h0)) sc__law_dress.nd rfl (by first | exact Or.inl rfl | exact Or.inr rfl))
    (gss_one (gs_ret (ge_tup (gl_cons (ge_mul (ge_ix (ge_var (pv 1)) ge_int) (ge_var (pv 3))) (gl_cons (ge_mul (ge_ix (ge_var (pv 1)) ge_int) (ge_var (pv 3))) gl_nil)))))) gss_nil)
    (gss_one (gs_ret (ge_tup (gl_cons (ge_ix (ge_var (pv 1)) ge_int) (gl_cons (ge_ix (ge_var (pv 1)) ge_int) gl_nil)))))))), ?_⟩
  obtain ⟨q, n, rfl, hs, hn, hq⟩ := h
  have hQ : Qd (fr q) := hq _ ((Num.fr hs).mono (by omega))
  have hI : (q.den : Int) = 1 → Qd (.int q.num) := fun h => hq _ (.inl ⟨q.num, rfl, Nat.lt_of_lt_of_le hs.1 (Nat.pow_le_pow_right (by decide) (by omega)), by have e := Rat.num_divInt_den q; rw [h, divInt_one] at e; exact e.symm⟩)
  have hP : ∀ p : Int, 2 ≤ p → p < 8 → Qd (.tup [.int (q.num * p), .int ((q.den : Int) * p)]) := fun p h1 h2 => by
    have hp : p.natAbs < 2 ^ 3 := by show _ < 8; omega
    have dp := q.den_pos
    refine hq _ (.inr ⟨_, _, rfl, Int.mul_pos (by omega) (by omega), ?_, ?_, ?_⟩)
    · rw [Int.natAbs_mul]
      exact mul_lt_pow hs.1 hp
    · rw [Int.natAbs_mul, Int.natAbs_natCast]
      exact mul_lt_pow hs.2 hp
    · rw [Rat.divInt_mul_right (by omega), Rat.num_divInt_den]
  have hM : ∀ (i p : Int), 0 ≤ p → p < 8 → CMulA i p := fun i p h1 h2 => .inl (.inr (by omega))
  simp only [take_iff, fr_eq, at0, at1, Option.some.injEq, exists_eq_left', ↓reduceIte, disX, dxf, dcallQ, dcallQF, eqv_strs, sgnD_eq, draise1, fAll, diR1, diR2, diL, diT, diS, dname, dapp, dappPop, dlenO, dixO, dretO, dSl, donone, dosome, dyes, dfv, dm1, fJoin, fIndex, fListF, fSortT, dRev, dIn, dNotIn, difE, fMax, fMin, fStr, fList, dseq, dif, dret, dretN, dretF, dretO, dasg, dasgO, dexpr, dnext, dop, dopF, dk, dvar, dcons, dnil, dlst, dflst, dtup, dIx, dI0, dII, dB0, dtest, dtruth, dand, dor, dnot, dcb, dcbF, dcall, dcallF, dixS, dsetS, dinS, difS, fLen, fInt, fAbs, endD, scD, SOK, dEq, dNe, eqv_int, eqv_str, eqv_bl, beq_iff_eq, decide_eq_true_eq, Bool.not_eq_true, Bool.not_eq_true', true_and, and_true, and_self, false_and, and_false, reduceCtorEq, true_or, or_true, true_implies, if_true, if_false, Bool.false_eq_true, not_false_eq_true, dAdd, dMul, dAddF, List.getElem?_cons_zero, List.getElem?_cons_succ, List.set_cons_zero, List.set_cons_succ, eq_self, draise0, draiseN, ddead, fGcd, fSum, diV, dgtup, dgcons, dgnil, dasgG, dNeg, dmut, dseti, dlenO, dixO, difE, dandV, dorV, dnotV, dchain, dIsN, dNotN, dMul, dAdd, start_def, List.map_cons, List.map_nil, List.length_cons, List.length_nil, List.replicate_succ, List.replicate_zero, List.cons_append, List.nil_append, Nat.reduceAdd, Nat.reduceSub, Nat.reduceLeDiff, Nb.LINE, isi_non_int, isi_non_bool, isi_non_str, isi_non_tuple, isi_non_list, isi_bl_int, isi_bl_bool, isi_bl_str, isi_bl_tuple, isi_bl_list, isi_int_int, isi_int_bool, isi_int_str, isi_int_tuple, isi_int_list, isi_str_int, isi_str_bool, isi_str_str, isi_str_tuple, isi_str_list, isi_tup_int, isi_tup_bool, isi_tup_str, isi_tup_tuple, isi_tup_list, isi_lst_int, isi_lst_bool, isi_lst_str, isi_lst_tuple, isi_lst_list, isi_dct_int, isi_dct_bool, isi_dct_str, isi_dct_tuple, isi_dct_list, ddct0, dint, fTuple, fListF, fList, pow10_iff, Int.reduceLE, Int.reduceLT, Int.reduceToNat] at hQ ⊢
  refine fun z h1 h2 => ?_
  generalize (10 : Int) ^ 39 = B
  repeat' (first | with_reducible exact hQ | with_reducible exact hI (by assumption) | with_reducible exact fun y y1 y2 => ⟨hM _ _ (by omega) (by omega), hM _ _ (by omega) (by omega), hP _ (by omega) (by omega)⟩ | split)
/-- numbers in any form, one by one -/
def Nums (n : Nat) (ds : List D) (qs : List Rat) : Prop := ds.length = qs.length ∧ ∀ (i : Nat) (d : D) (q : Rat), ds[i]? = some d → qs[i]? = some q → Num n d q
theorem Nums.nil (n : Nat) : Nums n [] [] := ⟨rfl, fun i d q h => by simp at h⟩
theorem Nums.snoc {n : Nat} {ds : List D} {qs : List Rat} {d : D} {q : Rat} (h : Nums n ds qs) (k : Num n d q) : Nums n (ds ++ [d]) (qs ++ [q]) := by
  refine ⟨by simp [h.1], fun i e p h1 h2 => ?_⟩
  by_cases c : i < ds.length
  · rw [List.getElem?_append_left c] at h1
    rw [List.getElem?_append_left (by rw [← h.1]; exact c)] at h2
    exact h.2 i e p h1 h2
  · rw [List.getElem?_append_right (by omega)] at h1
    rw [List.getElem?_append_right (by rw [← h.1]; omega)] at h2
    rw [← h.1] at h2
    have : i - ds.length = 0 := by
      cases q' : i - ds.length with
      | zero => rfl
      | succ m => rw [q'] at h1; simp at h1
    rw [this] at h1 h2
    cases h1
    cases h2
    exact k
theorem Nums.map {n : Nat} {ds : List D} {qs : List Rat} (h : Nums n ds qs) : ds.map numD = qs.map some := by
  refine List.ext_getElem? fun i => ?_
  rw [List.getElem?_map, List.getElem?_map]
  cases e : ds[i]? with
  | none =>
    have : qs[i]? = none := by
      rw [List.getElem?_eq_none_iff] at e ⊢
      rw [← h.1]
      exact e
    rw [this]
    rfl
  | some d =>
    have hi := (List.getElem?_eq_some_iff.mp e).1
    have hq : qs[i]? = some (qs[i]'(by rw [← h.1]; exact hi)) := List.getElem?_eq_getElem _
    rw [hq]
    show some (numD d) = some (some _)
    rw [(h.2 i d _ e hq).num]
theorem Nums.chk {n : Nat} {ds : List D} {qs : List Rat} (h : Nums n ds qs) (hn : n ≤ 8999) : ∀ x ∈ ds, ChkOk x := fun x hx => by
  obtain ⟨i, hi, e⟩ := List.mem_iff_getElem.mp hx
  have e' : ds[i]? = some x := by rw [List.getElem?_eq_getElem hi, e]
  exact (h.2 i x _ e' (List.getElem?_eq_getElem (by rw [← h.1]; exact hi))).chk hn
abbrev s__law_dressed : Stmt := top 66
theorem sc__law_dressed : FnScope ["store", "values", "value"] ["store", "values"] (defScope s__law_dressed) := ⟨rfl, rfl, rfl, by decide +kernel, rfl, by decide +kernel, by decide +kernel⟩
def S__law_dressed : DSp := fun ds Q E => ∃ (qs : List Rat) (n : Nat), ds = [.sto, .lst (qs.map fr)] ∧ (∀ q ∈ qs, Sz n q) ∧ n ≤ 8000 ∧ qs.length ≤ 1000000 ∧ ∀ ys, Nums (n + 3) ys qs → Q (.lst ys)
theorem len__law_dressed {ds : List D} {Q : D → Prop} {E : Ex → Prop} (h : S__law_dressed ds Q E) : ds.length = 2 := by obtain ⟨m, t, h, _⟩ := h; rw [h]; rfl
theorem ok__law_dressed (T : Txt P K mg) (h__law_dress : Has P w K mg base "_law_dress" 3 false S__law_dress) {f : Addr} {fd : FuncData} (F : Fun K "_law_dressed" "_law_dressed" s__law_dressed f fd) : FnOk P w K mg base (L2N.CX P w) 4 f fd ["store", "values"] (spD K mg true S__law_dressed) := by
  refine fn_ok F sc__law_dressed (fun ds Qd Ed h => len__law_dressed h) (fun cdv Ar outer s H E R M ds Qd Ed hr hK hm h0 h => ?_)
  subst hK hm
  refine ⟨_, (gss_one (gs_retF (gf_lc (own := [("value", 2)]) (js := [2]) (by rfl) sc__law_dressed.nd (gi_list (ge_var (pv 1))) (by show blkC ["store", "values", "value"] (defScope s__law_dressed) _ _ = true; decide +kernel) (by decide) (fun B hB _ _ _ _ _ => gg_name (i := 2) sc__law_dressed.nd rfl (by first | exact Or.inl rfl | exact Or.inr rfl)) (fun B hB _ _ _ _ _ => gts_nil) (fun B hB _ _ _ _ _ => (ge_call (Has.call h__law_dress (hr.mono (by decide)) takesN) (gl_cons (ge_var (pv 0)) (gl_cons (ge_var (pv 2)) gl_nil)) ((congrArg RC.hx hB).trans h0) (hK := congrArg RC.K hB) (hm := congrArg RC.mg hB)))))), ?_⟩
  obtain ⟨qs, n, rfl, hs, hn, hl, hq⟩ := h
  simp only [↓reduceIte, disX, dxf, dcallQ, dcallQF, eqv_strs, sgnD_eq, draise1, fAll, diR1, diR2, diL, diT, diS, dname, dapp, dappPop, dlenO, dixO, dretO, dSl, donone, dosome, dyes, dfv, dm1, fJoin, fIndex, fListF, fSortT, dRev, dIn, dNotIn, difE, fMax, fMin, fStr, fList, dseq, dif, dret, dretN, dretF, dretO, dasg, dasgO, dexpr, dnext, dop, dopF, dk, dvar, dcons, dnil, dlst, dflst, dtup, dIx, dI0, dII, dB0, dtest, dtruth, dand, dor, dnot, dcb, dcbF, dcall, dcallF, dixS, dsetS, dinS, difS, fLen, fInt, fAbs, endD, scD, SOK, dEq, dNe, eqv_int, eqv_str, eqv_bl, beq_iff_eq, decide_eq_true_eq, Bool.not_eq_true, Bool.not_eq_true', true_and, and_true, and_self, false_and, and_false, reduceCtorEq, true_or, or_true, true_implies, if_true, if_false, Bool.false_eq_true, not_false_eq_true, dAdd, dMul, dAddF, List.getElem?_cons_zero, List.getElem?_cons_succ, List.set_cons_zero, List.set_cons_succ, eq_self, draise0, draiseN, ddead, fGcd, fSum, diV, dgtup, dgcons, dgnil, dasgG, dNeg, dmut, dseti, dlenO, dixO, difE, dandV, dorV, dnotV, dchain, dIsN, dNotN, dMul, dAdd, start_def, List.map_cons, List.map_nil, List.length_cons, List.length_nil, List.replicate_succ, List.replicate_zero, List.cons_append, List.nil_append, Nat.reduceAdd, Nat.reduceSub, Nat.reduceLeDiff, Nb.LINE, isi_non_int, isi_non_bool, isi_non_str, isi_non_tuple, isi_non_list, isi_bl_int, isi_bl_bool, isi_bl_str, isi_bl_tuple, isi_bl_list, isi_int_int, isi_int_bool, isi_int_str, isi_int_tuple, isi_int_list, isi_str_int, isi_str_bool, isi_str_str, isi_str_tuple, isi_str_list, isi_tup_int, isi_tup_bool, isi_tup_str, isi_tup_tuple, isi_tup_list, isi_lst_int, isi_lst_bool, isi_lst_str, isi_lst_tuple, isi_lst_list, isi_dct_int, isi_dct_bool, isi_dct_str, isi_dct_tuple, isi_dct_list, ddct0, dint, fTuple, fListF, fList, pow10_iff, Int.reduceLE, Int.reduceLT, Int.reduceToNat]
  unfold dlc
  simp only [↓reduceIte, disX, dxf, dcallQ, dcallQF, eqv_strs, sgnD_eq, draise1, fAll, diR1, diR2, diL, diT, diS, dname, dapp, dappPop, dlenO, dixO, dretO, dSl, donone, dosome, dyes, dfv, dm1, fJoin, fIndex, fListF, fSortT, dRev, dIn, dNotIn, difE, fMax, fMin, fStr, fList, dseq, dif, dret, dretN, dretF, dretO, dasg, dasgO, dexpr, dnext, dop, dopF, dk, dvar, dcons, dnil, dlst, dflst, dtup, dIx, dI0, dII, dB0, dtest, dtruth, dand, dor, dnot, dcb, dcbF, dcall, dcallF, dixS, dsetS, dinS, difS, fLen, fInt, fAbs, endD, scD, SOK, dEq, dNe, eqv_int, eqv_str, eqv_bl, beq_iff_eq, decide_eq_true_eq, Bool.not_eq_true, Bool.not_eq_true', true_and, and_true, and_self, false_and, and_false, reduceCtorEq, true_or, or_true, true_implies, if_true, if_false, Bool.false_eq_true, not_false_eq_true, dAdd, dMul, dAddF, List.getElem?_cons_zero, List.getElem?_cons_succ, List.set_cons_zero, List.set_cons_succ, eq_self, draise0, draiseN, ddead, fGcd, fSum, diV, dgtup, dgcons, dgnil, dasgG, dNeg, dmut, dseti, dlenO, dixO, difE, dandV, dorV, dnotV, dchain, dIsN, dNotN, dMul, dAdd, start_def, List.map_cons, List.map_nil, List.length_cons, List.length_nil, List.replicate_succ, List.replicate_zero, List.cons_append, List.nil_append, Nat.reduceAdd, Nat.reduceSub, Nat.reduceLeDiff, Nb.LINE, isi_non_int, isi_non_bool, isi_non_str, isi_non_tuple, isi_non_list, isi_bl_int, isi_bl_bool, isi_bl_str, isi_bl_tuple, isi_bl_list, isi_int_int, isi_int_bool, isi_int_str, isi_int_tuple, isi_int_list, isi_str_int, isi_str_bool, isi_str_str, isi_str_tuple, isi_str_list, isi_tup_int, isi_tup_bool, isi_tup_str, isi_tup_tuple, isi_tup_list, isi_lst_int, isi_lst_bool, isi_lst_str, isi_lst_tuple, isi_lst_list, isi_dct_int, isi_dct_bool, isi_dct_str, isi_dct_tuple, isi_dct_list, ddct0, dint, fTuple, fListF, fList, pow10_iff, Int.reduceLE, Int.reduceLT, Int.reduceToNat]
  refine ⟨fun i acc => Nums (n + 3) acc (qs.take i) ∧ i ≤ qs.length, ⟨Nums.nil _, Nat.zero_le _⟩, fun i x acc ex ⟨ha, hi⟩ => ?_, fun acc ⟨ha, _⟩ => ?_⟩
  · rw [List.getElem?_map] at ex
    obtain ⟨q, hq1, rfl⟩ := Option.map_eq_some_iff.mp ex
    have hlt : i < qs.length := (List.getElem?_eq_some_iff.mp hq1).1
    refine ⟨q, n, rfl, hs q (List.mem_of_getElem? hq1), hn, fun d hd => ⟨?_, ?_, hlt⟩⟩
    · have := ha.1
      rw [List.length_take] at this
      show acc.length < 16777216
      omega
    · rw [List.take_add_one, hq1]
      exact ha.snoc hd
  · rw [List.length_map, List.take_length] at ha
    exact hq acc ha
/-! ### plain data -/
def flatD : D → Bool
  | .non | .bl _ | .int _ | .str _ => true
  | _ => false
/-- plain data, nested at most n deep -/
def Pl : Nat → D → Prop
  | 0, d => flatD d = true
  | n + 1, d => flatD d = true ∨ ∃ es, (d = .tup es ∨ d = .lst es) ∧ es.length ≤ 1000000 ∧ ∀ e ∈ es, Pl n e
theorem flat_kinds {d : D} (h : flatD d = true) : d = .non ∨ (∃ b, d = .bl b) ∨ (∃ i, d = .int i) ∨ ∃ z, d = .str z := by
  cases d <;> first | exact .inl rfl | exact .inr (.inl ⟨_, rfl⟩) | exact .inr (.inr (.inl ⟨_, rfl⟩)) | exact .inr (.inr (.inr ⟨_, rfl⟩)) | cases h
abbrev s__law_same : Stmt := top 68
theorem sc__law_same : FnScope ["actual", "due", "k"] ["actual", "due"] (defScope s__law_same) := ⟨rfl, rfl, rfl, by decide +kernel, rfl, by decide +kernel, by decide +kernel⟩
def R__law_same : Nat → DSp
  | 0 => fun _ _ _ => False
  | n + 1 => fun ds Q E => ∃ d, ds = [d, d] ∧ Pl n d ∧ Q (.bl true)
theorem lenR__law_same {n : Nat} {ds : List D} {Q : D → Prop} {E : Ex → Prop} (h : R__law_same n ds Q E) : ds.length = 2 := by
  cases n with
  | zero => exact h.elim
  | succ n =>
    obtain ⟨d, h, _⟩ := h
    rw [h]
    rfl
theorem ok__law_same (T : Txt P K mg) {n k : Nat} (h__law_same : Has P w K mg base "_law_same" k false (R__law_same n)) {f : Addr} {fd : FuncData} (F : Fun K "_law_same" "_law_same" s__law_same f fd) : FnOk P w K mg base (L2N.CX P w) (k + 1) f fd ["actual", "due"] (spD K mg false (R__law_same (n + 1))) := by
  refine fn_ok F sc__law_same (fun ds Qd Ed h => lenR__law_same h) (fun cdv Ar outer s H E R M ds Qd Ed hr hK hm h0 h => ?_)
  subst hK hm
  refine ⟨_, (gss_cons (gs_if (gt_c cm_isN (ge_var (pv 1)) ge_non) (gss_one (gs_ret (ge_c cm_isN (ge_var (pv 0)) ge_non))) gss_nil)
    (gss_cons (gs_if (gt_val (ge_blt (b_isi) (by rfl) T.isinstance PyProof.Rows.boot_isinstance (gl_cons (ge_var (pv 1)) (gl_cons (ge_tyc (n := "bool") (by rfl) T.bool) gl_nil)))) (gss_one (gs_ret (ge_and (ge_blt (b_isi) (by rfl) T.isinstance PyProof.Rows.boot_isinstance (gl_cons (ge_var (pv 0)) (gl_cons (ge_tyc (n := "bool") (by rfl) T.bool) gl_nil))) (ge_one (ge_c (cm_eq (room_units hr)) (ge_var (pv 0)) (ge_var (pv 1))))))) gss_nil)
    (gss_cons (gs_if (gt_val (ge_blt (b_isi) (by rfl) T.isinstance PyProof.Rows.boot_isinstance (gl_cons (ge_var (pv 1)) (gl_cons (ge_tyc (n := "int") (by rfl) T.int) gl_nil)))) (gss_one (gs_ret (ge_and (ge_blt (b_isi) (by rfl) T.isinstance PyProof.Rows.boot_isinstance (gl_cons (ge_var (pv 0)) (gl_cons (ge_tyc (n := "int") (by rfl) T.int) gl_nil))) (ge_and (ge_not (ge_blt (b_isi) (by rfl) T.isinstance PyProof.Rows.boot_isinstance (gl_cons (ge_var (pv 0)) (gl_cons (ge_tyc (n := "bool") (by rfl) T.bool) gl_nil)))) (ge_one (ge_c (cm_eq (room_units hr)) (ge_var (pv 0)) (ge_var (pv 1)))))))) gss_nil)
    (gss_cons (gs_if (gt_val (ge_blt (b_isi) (by rfl) T.isinstance PyProof.Rows.boot_isinstance (gl_cons (ge_var (pv 1)) (gl_cons (ge_tyc (n := "str") (by rfl) T.str) gl_nil)))) (gss_one (gs_ret (ge_and (ge_blt (b_isi) (by rfl) T.isinstance PyProof.Rows.boot_isinstance (gl_cons (ge_var (pv 0)) (gl_cons (ge_tyc (n := "str") (by rfl) T.str) gl_nil))) (ge_one (ge_c (cm_eq (room_units hr)) (ge_var (pv 0)) (ge_var (pv 1))))))) gss_nil)
    (gss_cons (gs_if (gt_val (ge_blt (b_isi) (by rfl) T.isinstance PyProof.Rows.boot_isinstance (gl_cons (ge_var (pv 1)) (gl_cons (ge_tyc (n := "tuple") (by rfl) T.tuple) gl_nil)))) (gss_one (gs_if (gt_not (gt_val (ge_blt (b_isi) (by rfl) T.isinstance PyProof.Rows.boot_isinstance (gl_cons (ge_var (pv 0)) (gl_cons (ge_tyc (n := "tuple") (by rfl) T.tuple) gl_nil))))) (gss_one (gs_ret ge_bl)) gss_nil)) (gss_one (gs_if (gt_not (gt_val (ge_blt (b_isi) (by rfl) T.isinstance PyProof.Rows.boot_isinstance (gl_cons (ge_var (pv 0)) (gl_cons (ge_tyc (n := "list") (by rfl) T.list) gl_nil))))) (gss_one (gs_ret ge_bl)) gss_nil)))
    (gss_cons (gs_if (gt_c (cm_ne (room_units hr)) (ge_blt (b_len) (by rfl) T.len PySem.boot_len (gl_cons (ge_var (pv 0)) gl_nil)) (ge_blt (b_len) (by rfl) T.len PySem.boot_len (gl_cons (ge_var (pv 1)) gl_nil))) (gss_one (gs_ret ge_bl)) gss_nil)
    (gss_cons (gs_for (passes_of rfl) (by rfl) (gi_rng1 (by rfl) T.range (gl_cons (ge_blt (b_len) (by rfl) T.len PySem.boot_len (gl_cons (ge_var (pv 1)) gl_nil)) gl_nil)) (gg_name (i := 2) sc__law_same.nd rfl (by first | exact Or.inl rfl | exact Or.inr rfl)) (gss_one (gs_if (gt_not (gt_val (ge_call (Has.call h__law_same hr (L2N.takes_of rfl rfl rfl rfl)) (gl_cons (ge_ix (ge_var (pv 0)) (ge_var (pv 2))) (gl_cons (ge_ix (ge_var (pv 1)) (ge_var (pv 2))) gl_nil)) h0))) (gss_one (gs_ret ge_bl)) gss_nil)))
    (gss_one (gs_ret ge_bl))))))))), ?_⟩
  obtain ⟨d, rfl, hd, hq⟩ := h
  cases n with
  | zero =>
    rcases flat_kinds hd with rfl | ⟨b, rfl⟩ | ⟨i, rfl⟩ | ⟨z, rfl⟩
    all_goals
      simp only [beq_self_eq_true, Bool.not_true, ↓reduceIte, disX, dxf, dcallQ, dcallQF, eqv_strs, sgnD_eq, draise1, fAll, diR1, diR2, diL, diT, diS, dname, dapp, dappPop, dlenO, dixO, dretO, dSl, donone, dosome, dyes, dfv, dm1, fJoin, fIndex, fListF, fSortT, dRev, dIn, dNotIn, difE, fMax, fMin, fStr, fList, dseq, dif, dret, dretN, dretF, dretO, dasg, dasgO, dexpr, dnext, dop, dopF, dk, dvar, dcons, dnil, dlst, dflst, dtup, dIx, dI0, dII, dB0, dtest, dtruth, dand, dor, dnot, dcb, dcbF, dcall, dcallF, dixS, dsetS, dinS, difS, fLen, fInt, fAbs, endD, scD, SOK, dEq, dNe, eqv_int, eqv_str, eqv_bl, beq_iff_eq, decide_eq_true_eq, Bool.not_eq_true, Bool.not_eq_true', true_and, and_true, and_self, false_and, and_false, reduceCtorEq, true_or, or_true, true_implies, if_true, if_false, Bool.false_eq_true, not_false_eq_true, dAdd, dMul, dAddF, List.getElem?_cons_zero, List.getElem?_cons_succ, List.set_cons_zero, List.set_cons_succ, eq_self, draise0, draiseN, ddead, fGcd, fSum, diV, dgtup, dgcons, dgnil, dasgG, dNeg, dmut, dseti, dlenO, dixO, difE, dandV, dorV, dnotV, dchain, dIsN, dNotN, dMul, dAdd, start_def, List.map_cons, List.map_nil, List.length_cons, List.length_nil, List.replicate_succ, List.replicate_zero, List.cons_append, List.nil_append, Nat.reduceAdd, Nat.reduceSub, Nat.reduceLeDiff, Nb.LINE, isi_non_int, isi_non_bool, isi_non_str, isi_non_tuple, isi_non_list, isi_bl_int, isi_bl_bool, isi_bl_str, isi_bl_tuple, isi_bl_list, isi_int_int, isi_int_bool, isi_int_str, isi_int_tuple, isi_int_list, isi_str_int, isi_str_bool, isi_str_str, isi_str_tuple, isi_str_list, isi_tup_int, isi_tup_bool, isi_tup_str, isi_tup_tuple, isi_tup_list, isi_lst_int, isi_lst_bool, isi_lst_str, isi_lst_tuple, isi_lst_list, isi_dct_int, isi_dct_bool, isi_dct_str, isi_dct_tuple, isi_dct_list, ddct0, dint, fTuple, fListF, fList, pow10_iff, Int.reduceLE, Int.reduceLT, Int.reduceToNat]
      exact hq
  | succ n =>
    rcases hd with hf | ⟨es, he, hl, hes⟩
    · rcases flat_kinds hf with rfl | ⟨b, rfl⟩ | ⟨i, rfl⟩ | ⟨z, rfl⟩
      all_goals
        simp only [beq_self_eq_true, Bool.not_true, ↓reduceIte, disX, dxf, dcallQ, dcallQF, eqv_strs, sgnD_eq, draise1, fAll, diR1, diR2, diL, diT, diS, dname, dapp, dappPop, dlenO, dixO, dretO, dSl, donone, dosome, dyes, dfv, dm1, fJoin, fIndex, fListF, fSortT, dRev, dIn, dNotIn, difE, fMax, fMin, fStr, fList, dseq, dif, dret, dretN, dretF, dretO, dasg, dasgO, dexpr, dnext, dop, dopF, dk, dvar, dcons, dnil, dlst, dflst, dtup, dIx, dI0, dII, dB0, dtest, dtruth, dand, dor, dnot, dcb, dcbF, dcall, dcallF, dixS, dsetS, dinS, difS, fLen, fInt, fAbs, endD, scD, SOK, dEq, dNe, eqv_int, eqv_str, eqv_bl, beq_iff_eq, decide_eq_true_eq, Bool.not_eq_true, Bool.not_eq_true', true_and, and_true, and_self, false_and, and_false, reduceCtorEq, true_or, or_true, true_implies, if_true, if_false, Bool.false_eq_true, not_false_eq_true, dAdd, dMul, dAddF, List.getElem?_cons_zero, List.getElem?_cons_succ, List.set_cons_zero, List.set_cons_succ, eq_self, draise0, draiseN, ddead, fGcd, fSum, diV, dgtup, dgcons, dgnil, dasgG, dNeg, dmut, dseti, dlenO, dixO, difE, dandV, dorV, dnotV, dchain, dIsN, dNotN, dMul, dAdd, start_def, List.map_cons, List.map_nil, List.length_cons, List.length_nil, List.replicate_succ, List.replicate_zero, List.cons_append, List.nil_append, Nat.reduceAdd, Nat.reduceSub, Nat.reduceLeDiff, Nb.LINE, isi_non_int, isi_non_bool, isi_non_str, isi_non_tuple, isi_non_list, isi_bl_int, isi_bl_bool, isi_bl_str, isi_bl_tuple, isi_bl_list, isi_int_int, isi_int_bool, isi_int_str, isi_int_tuple, isi_int_list, isi_str_int, isi_str_bool, isi_str_str, isi_str_tuple, isi_str_list, isi_tup_int, isi_tup_bool, isi_tup_str, isi_tup_tuple, isi_tup_list, isi_lst_int, isi_lst_bool, isi_lst_str, isi_lst_tuple, isi_lst_list, isi_dct_int, isi_dct_bool, isi_dct_str, isi_dct_tuple, isi_dct_list, ddct0, dint, fTuple, fListF, fList, pow10_iff, Int.reduceLE, Int.reduceLT, Int.reduceToNat]
        exact hq
    · rcases he with rfl | rfl
      all_goals
        simp only [beq_self_eq_true, Bool.not_true, ↓reduceIte, disX, dxf, dcallQ, dcallQF, eqv_strs, sgnD_eq, draise1, fAll, diR1, diR2, diL, diT, diS, dname, dapp, dappPop, dlenO, dixO, dretO, dSl, donone, dosome, dyes, dfv, dm1, fJoin, fIndex, fListF, fSortT, dRev, dIn, dNotIn, difE, fMax, fMin, fStr, fList, dseq, dif, dret, dretN, dretF, dretO, dasg, dasgO, dexpr, dnext, dop, dopF, dk, dvar, dcons, dnil, dlst, dflst, dtup, dIx, dI0, dII, dB0, dtest, dtruth, dand, dor, dnot, dcb, dcbF, dcall, dcallF, dixS, dsetS, dinS, difS, fLen, fInt, fAbs, endD, scD, SOK, dEq, dNe, eqv_int, eqv_str, eqv_bl, beq_iff_eq, decide_eq_true_eq, Bool.not_eq_true, Bool.not_eq_true', true_and, and_true, and_self, false_and, and_false, reduceCtorEq, true_or, or_true, true_implies, if_true, if_false, Bool.false_eq_true, not_false_eq_true, dAdd, dMul, dAddF, List.getElem?_cons_zero, List.getElem?_cons_succ, List.set_cons_zero, List.set_cons_succ, eq_self, draise0, draiseN, ddead, fGcd, fSum, diV, dgtup, dgcons, dgnil, dasgG, dNeg, dmut, dseti, dlenO, dixO, difE, dandV, dorV, dnotV, dchain, dIsN, dNotN, dMul, dAdd, start_def, List.map_cons, List.map_nil, List.length_cons, List.length_nil, List.replicate_succ, List.replicate_zero, List.cons_append, List.nil_append, Nat.reduceAdd, Nat.reduceSub, Nat.reduceLeDiff, Nb.LINE, isi_non_int, isi_non_bool, isi_non_str, isi_non_tuple, isi_non_list, isi_bl_int, isi_bl_bool, isi_bl_str, isi_bl_tuple, isi_bl_list, isi_int_int, isi_int_bool, isi_int_str, isi_int_tuple, isi_int_list, isi_str_int, isi_str_bool, isi_str_str, isi_str_tuple, isi_str_list, isi_tup_int, isi_tup_bool, isi_tup_str, isi_tup_tuple, isi_tup_list, isi_lst_int, isi_lst_bool, isi_lst_str, isi_lst_tuple, isi_lst_list, isi_dct_int, isi_dct_bool, isi_dct_str, isi_dct_tuple, isi_dct_list, ddct0, dint, fTuple, fListF, fList, pow10_iff, Int.reduceLE, Int.reduceLT, Int.reduceToNat]
        refine for_r1 (n := es.length) (fun i env => ∃ a b x, env = [.val a, .val b, x] ∧ (a = .tup es ∨ a = .lst es) ∧ a = b) (by exact fun _ _ h => h) (by omega) (by omega) ⟨_, _, _, rfl, by simp, rfl⟩ ?_ ?_
        · rintro i env' hi ⟨a, b, x, rfl, ha, rfl⟩
          have hi2 : i < es.length := by omega
          rcases ha with rfl | rfl
          · simp only [↓reduceIte, disX, dxf, dcallQ, dcallQF, eqv_strs, sgnD_eq, draise1, fAll, diR1, diR2, diL, diT, diS, dname, dapp, dappPop, dlenO, dixO, dretO, dSl, donone, dosome, dyes, dfv, dm1, fJoin, fIndex, fListF, fSortT, dRev, dIn, dNotIn, difE, fMax, fMin, fStr, fList, dseq, dif, dret, dretN, dretF, dretO, dasg, dasgO, dexpr, dnext, dop, dopF, dk, dvar, dcons, dnil, dlst, dflst, dtup, dIx, dI0, dII, dB0, dtest, dtruth, dand, dor, dnot, dcb, dcbF, dcall, dcallF, dixS, dsetS, dinS, difS, fLen, fInt, fAbs, endD, scD, SOK, dEq, dNe, eqv_int, eqv_str, eqv_bl, beq_iff_eq, decide_eq_true_eq, Bool.not_eq_true, Bool.not_eq_true', true_and, and_true, and_self, false_and, and_false, reduceCtorEq, true_or, or_true, true_implies, if_true, if_false, Bool.false_eq_true, not_false_eq_true, dAdd, dMul, dAddF, List.getElem?_cons_zero, List.getElem?_cons_succ, List.set_cons_zero, List.set_cons_succ, eq_self, draise0, draiseN, ddead, fGcd, fSum, diV, dgtup, dgcons, dgnil, dasgG, dNeg, dmut, dseti, dlenO, dixO, difE, dandV, dorV, dnotV, dchain, dIsN, dNotN, dMul, dAdd, start_def, List.map_cons, List.map_nil, List.length_cons, List.length_nil, List.replicate_succ, List.replicate_zero, List.cons_append, List.nil_append, Nat.reduceAdd, Nat.reduceSub, Nat.reduceLeDiff, Nb.LINE, isi_non_int, isi_non_bool, isi_non_str, isi_non_tuple, isi_non_list, isi_bl_int, isi_bl_bool, isi_bl_str, isi_bl_tuple, isi_bl_list, isi_int_int, isi_int_bool, isi_int_str, isi_int_tuple, isi_int_list, isi_str_int, isi_str_bool, isi_str_str, isi_str_tuple, isi_str_list, isi_tup_int, isi_tup_bool, isi_tup_str, isi_tup_tuple, isi_tup_list, isi_lst_int, isi_lst_bool, isi_lst_str, isi_lst_tuple, isi_lst_list, isi_dct_int, isi_dct_bool, isi_dct_str, isi_dct_tuple, isi_dct_list, ddct0, dint, fTuple, fListF, fList, pow10_iff, Int.reduceLE, Int.reduceLT, Int.reduceToNat]
            exact ⟨es[i], Nb.atI_nat hi2, es[i], Nb.atI_nat hi2, es[i], rfl, hes _ (List.getElem_mem hi2), _, _, _, rfl, .inl rfl, rfl⟩
          · simp only [↓reduceIte, disX, dxf, dcallQ, dcallQF, eqv_strs, sgnD_eq, draise1, fAll, diR1, diR2, diL, diT, diS, dname, dapp, dappPop, dlenO, dixO, dretO, dSl, donone, dosome, dyes, dfv, dm1, fJoin, fIndex, fListF, fSortT, dRev, dIn, dNotIn, difE, fMax, fMin, fStr, fList, dseq, dif, dret, dretN, dretF, dretO, dasg, dasgO, dexpr, dnext, dop, dopF, dk, dvar, dcons, dnil, dlst, dflst, dtup, dIx, dI0, dII, dB0, dtest, dtruth, dand, dor, dnot, dcb, dcbF, dcall, dcallF, dixS, dsetS, dinS, difS, fLen, fInt, fAbs, endD, scD, SOK, dEq, dNe, eqv_int, eqv_str, eqv_bl, beq_iff_eq, decide_eq_true_eq, Bool.not_eq_true, Bool.not_eq_true', true_and, and_true, and_self, false_and, and_false, reduceCtorEq, true_or, or_true, true_implies, if_true, if_false, Bool.false_eq_true, not_false_eq_true, dAdd, dMul, dAddF, List.getElem?_cons_zero, List.getElem?_cons_succ, List.set_cons_zero, List.set_cons_succ, eq_self, draise0, draiseN, ddead, fGcd, fSum, diV, dgtup, dgcons, dgnil, dasgG, dNeg, dmut, dseti, dlenO, dixO, difE, dandV, dorV, dnotV, dchain, dIsN, dNotN, dMul, dAdd, start_def, List.map_cons, List.map_nil, List.length_cons, List.length_nil, List.replicate_succ, List.replicate_zero, List.cons_append, List.nil_append, Nat.reduceAdd, Nat.reduceSub, Nat.reduceLeDiff, Nb.LINE, isi_non_int, isi_non_bool, isi_non_str, isi_non_tuple, isi_non_list, isi_bl_int, isi_bl_bool, isi_bl_str, isi_bl_tuple, isi_bl_list, isi_int_int, isi_int_bool, isi_int_str, isi_int_tuple, isi_int_list, isi_str_int, isi_str_bool, isi_str_str, isi_str_tuple, isi_str_list, isi_tup_int, isi_tup_bool, isi_tup_str, isi_tup_tuple, isi_tup_list, isi_lst_int, isi_lst_bool, isi_lst_str, isi_lst_tuple, isi_lst_list, isi_dct_int, isi_dct_bool, isi_dct_str, isi_dct_tuple, isi_dct_list, ddct0, dint, fTuple, fListF, fList, pow10_iff, Int.reduceLE, Int.reduceLT, Int.reduceToNat]
            exact ⟨es[i], Nb.atI_nat hi2, es[i], Nb.atI_nat hi2, es[i], rfl, hes _ (List.getElem_mem hi2), _, _, _, rfl, .inr rfl, rfl⟩
        · rintro env' ⟨a, b, x, rfl, ha, rfl⟩
          exact hq
@[irreducible] def S__law_same : DSp := R__law_same 4
theorem same_of {d : D} {Q : D → Prop} {E : Ex → Prop} (h : Pl 3 d) (hq : Q (.bl true)) : S__law_same [d, d] Q E := by
  unfold S__law_same
  exact ⟨d, rfl, h, hq⟩
theorem Pl.mono {n : Nat} : ∀ {d : D}, Pl n d → Pl (n + 1) d := by
  induction n with
  | zero => exact fun h => .inl h
  | succ n ih =>
    intro d h
    rcases h with h | ⟨es, h1, h2, h3⟩
    · exact .inl h
    · exact .inr ⟨es, h1, h2, fun e he => ih (h3 e he)⟩
theorem Pl.flat {n : Nat} {d : D} (h : flatD d = true) : Pl n d := by
  cases n with
  | zero => exact h
  | succ n => exact .inl h
theorem Pl.tup {n : Nat} {es : List D} (hl : es.length ≤ 1000000) (h : ∀ e ∈ es, Pl n e) : Pl (n + 1) (.tup es) := .inr ⟨es, .inl rfl, hl, h⟩
theorem Pl.lst {n : Nat} {es : List D} (hl : es.length ≤ 1000000) (h : ∀ e ∈ es, Pl n e) : Pl (n + 1) (.lst es) := .inr ⟨es, .inr rfl, hl, h⟩
theorem Pl.fr (n : Nat) (q : Rat) : Pl (n + 1) (Nb.fr q) := Pl.tup (by show 2 ≤ 1000000; decide) fun e he => by
  rcases List.mem_cons.mp he with rfl | he
  · exact Pl.flat rfl
  · rw [List.mem_singleton.mp he]
    exact Pl.flat rfl
abbrev s__law_copy : Stmt := top 73
theorem sc__law_copy : FnScope ["thing", "part"] ["thing"] (defScope s__law_copy) := ⟨rfl, rfl, rfl, by decide +kernel, rfl, by decide +kernel, by decide +kernel⟩
def R__law_copy : Nat → DSp
  | 0 => fun _ _ _ => False
  | n + 1 => fun ds Q E => ∃ d, ds = [d] ∧ Pl n d ∧ Q d
theorem lenR__law_copy {n : Nat} {ds : List D} {Q : D → Prop} {E : Ex → Prop} (h : R__law_copy n ds Q E) : ds.length = 1 := by
  cases n with
  | zero => exact h.elim
  | succ n =>
    obtain ⟨d, h, _⟩ := h
    rw [h]
    rfl
theorem ok__law_copy (T : Txt P K mg) {n k : Nat} (h__law_copy : Has P w K mg base "_law_copy" k false (R__law_copy n)) {f : Addr} {fd : FuncData} (F : Fun K "_law_copy" "_law_copy" s__law_copy f fd) : FnOk P w K mg base (L2N.CX P w) (k + 1) f fd ["thing"] (spD K mg false (R__law_copy (n + 1))) := by
  refine fn_ok F sc__law_copy (fun ds Qd Ed h => lenR__law_copy h) (fun cdv Ar outer s H E R M ds Qd Ed hr hK hm h0 h => ?_)
  subst hK hm
  refine ⟨_, (gss_cons (gs_if (gt_val (ge_blt (b_isi) (by rfl) T.isinstance PyProof.Rows.boot_isinstance (gl_cons (ge_var (pv 0)) (gl_cons (ge_tyc (n := "list") (by rfl) T.list) gl_nil)))) (gss_one (gs_ret (GF.e (gf_lc (own := [("part", 1)]) (js := [1]) (by rfl) sc__law_copy.nd (gi_V (pv 0)) (by show blkC ["thing", "part"] (defScope s__law_copy) _ _ = true; decide +kernel) (by decide) (fun B hB _ _ _ _ _ => gg_name (i := 1) sc__law_copy.nd rfl (by first | exact Or.inl rfl | exact Or.inr rfl)) (fun B hB _ _ _ _ _ => gts_nil) (fun B hB _ _ _ _ _ => (ge_call (Has.call h__law_copy hr takesN) (gl_cons (ge_var (pv 1)) gl_nil) ((congrArg RC.hx hB).trans h0) (hK := congrArg RC.K hB) (hm := congrArg RC.mg hB))))))) gss_nil)
    (gss_cons (gs_if (gt_val (ge_blt (b_isi) (by rfl) T.isinstance PyProof.Rows.boot_isinstance (gl_cons (ge_var (pv 0)) (gl_cons (ge_tyc (n := "tuple") (by rfl) T.tuple) gl_nil)))) (gss_one (gs_ret (ge_bltT (b_tuple) (by rfl) T.tuple PyProof.Rows.boot_tuple (gl_cons (GF.e (gf_lc (own := [("part", 1)]) (js := [1]) (by rfl) sc__law_copy.nd (gi_V (pv 0)) (by show blkC ["thing", "part"] (defScope s__law_copy) _ _ = true; decide +kernel) (by decide) (fun B hB _ _ _ _ _ => gg_name (i := 1) sc__law_copy.nd rfl (by first | exact Or.inl rfl | exact Or.inr rfl)) (fun B hB _ _ _ _ _ => gts_nil) (fun B hB _ _ _ _ _ => (ge_call (Has.call h__law_copy hr takesN) (gl_cons (ge_var (pv 1)) gl_nil) ((congrArg RC.hx hB).trans h0) (hK := congrArg RC.K hB) (hm := congrArg RC.mg hB))))) gl_nil)))) gss_nil)
    (gss_one (gs_ret (ge_var (pv 0)))))), ?_⟩
  obtain ⟨d, rfl, hd, hq⟩ := h
  cases n with
  | zero =>
    rcases flat_kinds hd with rfl | ⟨b, rfl⟩ | ⟨i, rfl⟩ | ⟨z, rfl⟩
    all_goals
      simp only [↓reduceIte, disX, dxf, dcallQ, dcallQF, eqv_strs, sgnD_eq, draise1, fAll, diR1, diR2, diL, diT, diS, dname, dapp, dappPop, dlenO, dixO, dretO, dSl, donone, dosome, dyes, dfv, dm1, fJoin, fIndex, fListF, fSortT, dRev, dIn, dNotIn, difE, fMax, fMin, fStr, fList, dseq, dif, dret, dretN, dretF, dretO, dasg, dasgO, dexpr, dnext, dop, dopF, dk, dvar, dcons, dnil, dlst, dflst, dtup, dIx, dI0, dII, dB0, dtest, dtruth, dand, dor, dnot, dcb, dcbF, dcall, dcallF, dixS, dsetS, dinS, difS, fLen, fInt, fAbs, endD, scD, SOK, dEq, dNe, eqv_int, eqv_str, eqv_bl, beq_iff_eq, decide_eq_true_eq, Bool.not_eq_true, Bool.not_eq_true', true_and, and_true, and_self, false_and, and_false, reduceCtorEq, true_or, or_true, true_implies, if_true, if_false, Bool.false_eq_true, not_false_eq_true, dAdd, dMul, dAddF, List.getElem?_cons_zero, List.getElem?_cons_succ, List.set_cons_zero, List.set_cons_succ, eq_self, draise0, draiseN, ddead, fGcd, fSum, diV, dgtup, dgcons, dgnil, dasgG, dNeg, dmut, dseti, dlenO, dixO, difE, dandV, dorV, dnotV, dchain, dIsN, dNotN, dMul, dAdd, start_def, List.map_cons, List.map_nil, List.length_cons, List.length_nil, List.replicate_succ, List.replicate_zero, List.cons_append, List.nil_append, Nat.reduceAdd, Nat.reduceSub, Nat.reduceLeDiff, Nb.LINE, isi_non_int, isi_non_bool, isi_non_str, isi_non_tuple, isi_non_list, isi_bl_int, isi_bl_bool, isi_bl_str, isi_bl_tuple, isi_bl_list, isi_int_int, isi_int_bool, isi_int_str, isi_int_tuple, isi_int_list, isi_str_int, isi_str_bool, isi_str_str, isi_str_tuple, isi_str_list, isi_tup_int, isi_tup_bool, isi_tup_str, isi_tup_tuple, isi_tup_list, isi_lst_int, isi_lst_bool, isi_lst_str, isi_lst_tuple, isi_lst_list, isi_dct_int, isi_dct_bool, isi_dct_str, isi_dct_tuple, isi_dct_list, ddct0, dint, fTuple, fListF, fList, pow10_iff, Int.reduceLE, Int.reduceLT, Int.reduceToNat]
      exact hq
  | succ n =>
    rcases hd with hf | ⟨es, he, hl, hes⟩
    · rcases flat_kinds hf with rfl | ⟨b, rfl⟩ | ⟨i, rfl⟩ | ⟨z, rfl⟩
      all_goals
        simp only [↓reduceIte, disX, dxf, dcallQ, dcallQF, eqv_strs, sgnD_eq, draise1, fAll, diR1, diR2, diL, diT, diS, dname, dapp, dappPop, dlenO, dixO, dretO, dSl, donone, dosome, dyes, dfv, dm1, fJoin, fIndex, fListF, fSortT, dRev, dIn, dNotIn, difE, fMax, fMin, fStr, fList, dseq, dif, dret, dretN, dretF, dretO, dasg, dasgO, dexpr, dnext, dop, dopF, dk, dvar, dcons, dnil, dlst, dflst, dtup, dIx, dI0, dII, dB0, dtest, dtruth, dand, dor, dnot, dcb, dcbF, dcall, dcallF, dixS, dsetS, dinS, difS, fLen, fInt, fAbs, endD, scD, SOK, dEq, dNe, eqv_int, eqv_str, eqv_bl, beq_iff_eq, decide_eq_true_eq, Bool.not_eq_true, Bool.not_eq_true', true_and, and_true, and_self, false_and, and_false, reduceCtorEq, true_or, or_true, true_implies, if_true, if_false, Bool.false_eq_true, not_false_eq_true, dAdd, dMul, dAddF, List.getElem?_cons_zero, List.getElem?_cons_succ, List.set_cons_zero, List.set_cons_succ, eq_self, draise0, draiseN, ddead, fGcd, fSum, diV, dgtup, dgcons, dgnil, dasgG, dNeg, dmut, dseti, dlenO, dixO, difE, dandV, dorV, dnotV, dchain, dIsN, dNotN, dMul, dAdd, start_def, List.map_cons, List.map_nil, List.length_cons, List.length_nil, List.replicate_succ, List.replicate_zero, List.cons_append, List.nil_append, Nat.reduceAdd, Nat.reduceSub, Nat.reduceLeDiff, Nb.LINE, isi_non_int, isi_non_bool, isi_non_str, isi_non_tuple, isi_non_list, isi_bl_int, isi_bl_bool, isi_bl_str, isi_bl_tuple, isi_bl_list, isi_int_int, isi_int_bool, isi_int_str, isi_int_tuple, isi_int_list, isi_str_int, isi_str_bool, isi_str_str, isi_str_tuple, isi_str_list, isi_tup_int, isi_tup_bool, isi_tup_str, isi_tup_tuple, isi_tup_list, isi_lst_int, isi_lst_bool, isi_lst_str, isi_lst_tuple, isi_lst_list, isi_dct_int, isi_dct_bool, isi_dct_str, isi_dct_tuple, isi_dct_list, ddct0, dint, fTuple, fListF, fList, pow10_iff, Int.reduceLE, Int.reduceLT, Int.reduceToNat]
        exact hq
    · have hL : es.length ≤ LINE := by show _ ≤ 16777216; omega
      have lc : ∀ {gi : DI} {env : DEnv} {Q : List D → Prop}, (∀ Q' : List D → Prop, Q' es → gi env Q' fun x => Ed x) → (1 < env.length) → Q es → dlc gi (dname 1) dyes (dcall (R__law_copy (n + 1)) (dcons (dvar 1) dnil)) [1] env Q fun x => Ed x := by
        intro gi env Q hgi hlen h
        refine dlc_map (ds := es) id hgi hL (fun d hd Q' h => ?_) (by rw [List.map_id]; exact h)
        have hl1 : 1 < (blkD env [1]).length := by
          unfold blkD
          rw [List.length_map, wipeD_len]
          exact hlen
        have e1 : ((blkD env [1]).set 1 (SD.val d))[1]? = some (.val d) := by
          rw [List.getElem?_set_self hl1]
        simp only [dname, dcall, dcons, dnil, dvar, e1]
        exact ⟨d, rfl, hes d hd, h⟩
      rcases he with rfl | rfl
      all_goals
        simp only [↓reduceIte, disX, dxf, dcallQ, dcallQF, eqv_strs, sgnD_eq, draise1, fAll, diR1, diR2, diL, diT, diS, dname, dapp, dappPop, dlenO, dixO, dretO, dSl, donone, dosome, dyes, dfv, dm1, fJoin, fIndex, fListF, fSortT, dRev, dIn, dNotIn, difE, fMax, fMin, fStr, fList, dseq, dif, dret, dretN, dretF, dretO, dasg, dasgO, dexpr, dnext, dop, dopF, dk, dvar, dcons, dnil, dlst, dflst, dtup, dIx, dI0, dII, dB0, dtest, dtruth, dand, dor, dnot, dcb, dcbF, dcall, dcallF, dixS, dsetS, dinS, difS, fLen, fInt, fAbs, endD, scD, SOK, dEq, dNe, eqv_int, eqv_str, eqv_bl, beq_iff_eq, decide_eq_true_eq, Bool.not_eq_true, Bool.not_eq_true', true_and, and_true, and_self, false_and, and_false, reduceCtorEq, true_or, or_true, true_implies, if_true, if_false, Bool.false_eq_true, not_false_eq_true, dAdd, dMul, dAddF, List.getElem?_cons_zero, List.getElem?_cons_succ, List.set_cons_zero, List.set_cons_succ, eq_self, draise0, draiseN, ddead, fGcd, fSum, diV, dgtup, dgcons, dgnil, dasgG, dNeg, dmut, dseti, dlenO, dixO, difE, dandV, dorV, dnotV, dchain, dIsN, dNotN, dMul, dAdd, start_def, List.map_cons, List.map_nil, List.length_cons, List.length_nil, List.replicate_succ, List.replicate_zero, List.cons_append, List.nil_append, Nat.reduceAdd, Nat.reduceSub, Nat.reduceLeDiff, Nb.LINE, isi_non_int, isi_non_bool, isi_non_str, isi_non_tuple, isi_non_list, isi_bl_int, isi_bl_bool, isi_bl_str, isi_bl_tuple, isi_bl_list, isi_int_int, isi_int_bool, isi_int_str, isi_int_tuple, isi_int_list, isi_str_int, isi_str_bool, isi_str_str, isi_str_tuple, isi_str_list, isi_tup_int, isi_tup_bool, isi_tup_str, isi_tup_tuple, isi_tup_list, isi_lst_int, isi_lst_bool, isi_lst_str, isi_lst_tuple, isi_lst_list, isi_dct_int, isi_dct_bool, isi_dct_str, isi_dct_tuple, isi_dct_list, ddct0, dint, fTuple, fListF, fList, pow10_iff, Int.reduceLE, Int.reduceLT, Int.reduceToNat]
        refine lc (fun Q' h => h) (by simp) ?_
        exact hq
@[irreducible] def S__law_copy : DSp := R__law_copy 4
theorem copy_of {d : D} {Q : D → Prop} {E : Ex → Prop} (h : Pl 3 d) (hq : Q d) : S__law_copy [d] Q E := by
  unfold S__law_copy
  exact ⟨d, rfl, h, hq⟩
end
end LW
set_option maxRecDepth 100000
set_option maxHeartbeats 4000000
namespace LW
open PySem PySem.Spec PyProof.Rows L2 Nb TL
section
variable {P : Program} {w : World} {K : PySem.W.Frag} {mg : Str → Option Value} {base : Heap}
theorem fr_lit {a b : Int} (hb : 0 < b) (hg : Nat.gcd a.natAbs b.natAbs = 1) : D.tup [.int a, .int b] = fr (Rat.divInt a b) := by
  obtain ⟨e1, e2⟩ := div_parts (a := a) (b := b) hb
  rw [fr_eq, e1, e2, hg]
  simp
theorem fr_half : D.tup [.int 1, .int 2] = fr (1 / 2) := by
  rw [fr_lit (by decide) (by decide), Rat.divInt_eq_div]
  rfl
theorem fr_mone : D.tup [.int (0 - 1), .int 1] = fr (-1) := rfl
theorem sz_num {q : Rat} {n : Nat} {d : D} (e : d = fr q) (h : ∀ a b, d = .tup [.int a, .int b] → a.natAbs < 2 ^ n ∧ b.natAbs < 2 ^ n) : Sz n q := by
  obtain ⟨h1, h2⟩ := h q.num q.den (e.trans (fr_eq q))
  exact ⟨h1, by rw [Int.natAbs_natCast] at h2; exact h2⟩
theorem sz_lit {a b : Int} {q : Rat} {n : Nat} (e : D.tup [.int a, .int b] = fr q) (h1 : a.natAbs < 2 ^ n) (h2 : b.natAbs < 2 ^ n) : Sz n q := sz_num e fun x y z => by
  injection z with z
  injection z with z1 z2
  injection z2 with z2 _
  injection z1 with z1
  injection z2 with z2
  subst z1 z2
  exact ⟨h1, h2⟩
abbrev s__law_small : Stmt := top 63
theorem sc__law_small : FnScope ["store", "kind"] ["store"] (defScope s__law_small) := ⟨rfl, rfl, rfl, by decide +kernel, rfl, by decide +kernel, by decide +kernel⟩
def S__law_small : DSp := fun ds Q E => ds = [.sto] ∧ ∀ q, Sz 6 q → Q (fr q)
theorem len__law_small {ds : List D} {Q : D → Prop} {E : Ex → Prop} (h : S__law_small ds Q E) : ds.length = 1 := by rw [h.1]; rfl
theorem ok__law_small (T : Txt P K mg) (h__law_low : Has P w K mg base "_law_low" 2 false S__law_low) (h__law_take : Has P w K mg base "_law_take" 2 false S__law_take) {f : Addr} {fd : FuncData} (F : Fun K "_law_small" "_law_small" s__law_small f fd) : FnOk P w K mg base (L2N.CX P w) 3 f fd ["store"] (spD K mg false S__law_small) := by
  refine fn_ok F sc__law_small (fun ds Qd Ed h => len__law_small h) (fun cdv Ar outer s H E R M ds Qd Ed hr hK hm h0 h => ?_)
  subst hK hm
  refine ⟨_, (gss_cons (gs_asg (i := 1) (ge_call (Has.call h__law_take (hr.mono (by decide)) (L2N.takes_of rfl rfl rfl rfl)) (gl_cons (ge_var (pv 0)) (gl_cons ge_int gl_nil)) h0) sc__law_small.nd rfl (by first | exact Or.inl rfl | exact Or.inr rfl))
    (gss_cons (gs_if (gt_c cm_lt (ge_var (pv 1)) ge_int) (gss_one (gs_ret (ge_ix (ge_lst (gl_cons (ge_tup (gl_cons ge_int (gl_cons ge_int gl_nil))) (gl_cons (ge_tup (gl_cons ge_int (gl_cons ge_int gl_nil))) (gl_cons (ge_tup (gl_cons (ge_subI ge_int ge_int) (gl_cons ge_int gl_nil))) (gl_cons (ge_tup (gl_cons ge_int (gl_cons ge_int gl_nil))) gl_nil))))) (ge_var (pv 1))))) gss_nil)
    (gss_one (gs_ret (ge_call (Has.call h__law_low (hr.mono (by decide)) (L2N.takes_of rfl rfl rfl rfl)) (gl_cons (ge_subI (ge_call (Has.call h__law_take (hr.mono (by decide)) (L2N.takes_of rfl rfl rfl rfl)) (gl_cons (ge_var (pv 0)) (gl_cons ge_int gl_nil)) h0) ge_int) (gl_cons (ge_add ge_int (ge_call (Has.call h__law_take (hr.mono (by decide)) (L2N.takes_of rfl rfl rfl rfl)) (gl_cons (ge_var (pv 0)) (gl_cons ge_int gl_nil)) h0)) gl_nil)) h0))))), ?_⟩
  obtain ⟨rfl, hq⟩ := h
  have g0 : Qd (.tup [.int 0, .int 1]) := by rw [fr_zero]; exact hq _ (sz_lit fr_zero (by decide) (by decide))
  have g1 : Qd (.tup [.int 1, .int 1]) := by rw [fr_one]; exact hq _ (sz_lit fr_one (by decide) (by decide))
  have g2 : Qd (.tup [.int (0 - 1), .int 1]) := by rw [fr_mone]; exact hq _ (sz_lit fr_mone (by decide) (by decide))
  have g3 : Qd (.tup [.int 1, .int 2]) := by rw [fr_half]; exact hq _ (sz_lit fr_half (by decide) (by decide))
  simp only [take_iff, ↓reduceIte, disX, dxf, dcallQ, dcallQF, eqv_strs, sgnD_eq, draise1, fAll, diR1, diR2, diL, diT, diS, dname, dapp, dappPop, dlenO, dixO, dretO, dSl, donone, dosome, dyes, dfv, dm1, fJoin, fIndex, fListF, fSortT, dRev, dIn, dNotIn, difE, fMax, fMin, fStr, fList, dseq, dif, dret, dretN, dretF, dretO, dasg, dasgO, dexpr, dnext, dop, dopF, dk, dvar, dcons, dnil, dlst, dflst, dtup, dIx, dI0, dII, dB0, dtest, dtruth, dand, dor, dnot, dcb, dcbF, dcall, dcallF, dixS, dsetS, dinS, difS, fLen, fInt, fAbs, endD, scD, SOK, dEq, dNe, eqv_int, eqv_str, eqv_bl, beq_iff_eq, decide_eq_true_eq, Bool.not_eq_true, Bool.not_eq_true', true_and, and_true, and_self, false_and, and_false, reduceCtorEq, true_or, or_true, true_implies, if_true, if_false, Bool.false_eq_true, not_false_eq_true, dAdd, dMul, dAddF, List.getElem?_cons_zero, List.getElem?_cons_succ, List.set_cons_zero, List.set_cons_succ, eq_self, draise0, draiseN, ddead, fGcd, fSum, diV, dgtup, dgcons, dgnil, dasgG, dNeg, dmut, dseti, dlenO, dixO, difE, dandV, dorV, dnotV, dchain, dIsN, dNotN, dMul, dAdd, start_def, List.map_cons, List.map_nil, List.length_cons, List.length_nil, List.replicate_succ, List.replicate_zero, List.cons_append, List.nil_append, Nat.reduceAdd, Nat.reduceSub, Nat.reduceLeDiff, Nb.LINE, isi_non_int, isi_non_bool, isi_non_str, isi_non_tuple, isi_non_list, isi_bl_int, isi_bl_bool, isi_bl_str, isi_bl_tuple, isi_bl_list, isi_int_int, isi_int_bool, isi_int_str, isi_int_tuple, isi_int_list, isi_str_int, isi_str_bool, isi_str_str, isi_str_tuple, isi_str_list, isi_tup_int, isi_tup_bool, isi_tup_str, isi_tup_tuple, isi_tup_list, isi_lst_int, isi_lst_bool, isi_lst_str, isi_lst_tuple, isi_lst_list, isi_dct_int, isi_dct_bool, isi_dct_str, isi_dct_tuple, isi_dct_list, ddct0, dint, fTuple, fListF, fList, pow10_iff, Int.reduceLE, Int.reduceLT, Int.reduceToNat]
  refine fun z h1 h2 => ?_
  split
  · have : z = 0 ∨ z = 1 ∨ z = 2 ∨ z = 3 := by omega
    rcases this with rfl | rfl | rfl | rfl
    · exact ⟨_, rfl, g0⟩
    · exact ⟨_, rfl, g1⟩
    · exact ⟨_, rfl, g2⟩
    · exact ⟨_, rfl, g3⟩
  · refine fun x x1 x2 y y1 y2 => ⟨_, _, rfl, by omega, gsml (n := 6) (by show _ < 64; omega) (by omega) (by omega), hq _ (Sz.divInt (n := 5) (by show _ < 64; omega) (by show _ < 64; omega))⟩
end
end LW
set_option maxRecDepth 100000
set_option maxHeartbeats 4000000
namespace LW
open PySem PySem.Spec PyProof.Rows L2 Nb TL
section
variable {P : Program} {w : World} {K : PySem.W.Frag} {mg : Str → Option Value} {base : Heap}
def noNums (a b : Int) : List D := [.non, .bl true, .bl false, .str "", .str "0", .str "1/2", .lst [], .lst [.int a], .lst [.int a, .int 2], .tup [], .tup [.int a], .tup [.int a, .int 2, .int 3], .tup [.int a, .int 0]] ++
  [.tup [.int a, .int b], .tup [.int 0, .int 0], .tup [.int 0, .int (0 - 1)], .tup [.bl true, .int 2], .tup [.bl false, .int 1], .tup [.int a, .bl true], .tup [.int a, .bl false]] ++
  [.tup [.int a, .non], .tup [.non, .int 2], .tup [.str "1", .int 2], .tup [.int a, .str "2"], .tup [.tup [.int a, .int 2], .int 1], .tup [.lst [.int a], .int 1], .tup [.int a, .tup [.int 2]]]
/-- what is no number, as these laws draw it -/
structure NoNum (d : D) : Prop where
  chk : ChkOk d
  num : numD d = none
  pl : Pl 2 d
theorem noNum_flat {d : D} (h : flatD d = true) (hn : numD d = none) : NoNum d := by
  refine ⟨⟨?_, fun x y e => ?_⟩, hn, Pl.flat h⟩
  · rcases flat_kinds h with rfl | ⟨b, rfl⟩ | ⟨i, rfl⟩ | ⟨z, rfl⟩ <;> exact ⟨_, rfl⟩
  · subst e
    cases h
theorem noNum_lst {es : List D} (h : es.length ≤ 1000000) (he : ∀ e ∈ es, flatD e = true) : NoNum (.lst es) :=
  ⟨⟨⟨_, rfl⟩, fun x y e => by cases e⟩, rfl, Pl.lst h fun e hm => Pl.flat (he e hm)⟩
theorem noNum_tup {es : List D} (h : es.length ≤ 1000000) (hl : es.length ≠ 2) (he : ∀ e ∈ es, flatD e = true) : NoNum (.tup es) := by
  refine ⟨⟨⟨_, rfl⟩, fun x y e => ?_⟩, ?_, Pl.tup h fun e hm => Pl.flat (he e hm)⟩
  · injection e with e
    rw [e] at hl
    exact (hl rfl).elim
  · match es, hl with
    | [], _ => rfl
    | [x], _ => exact numD_one x
    | [x, y], hl => exact (hl rfl).elim
    | x :: y :: z :: r, _ => exact numD_more x y z r
theorem noNum_pair {x y : D} (hx : KndOk x) (hy : KndOk y) (px : Pl 1 x) (py : Pl 1 y) (h : wholeD x = false ∨ wholeD y = false ∨ ∃ b, y = .int b ∧ b < 1) : NoNum (.tup [x, y]) := by
  have pl : Pl 2 (.tup [x, y]) := Pl.tup (by show 2 ≤ 1000000; decide) fun e he => by
    rcases List.mem_cons.mp he with rfl | he
    · exact px
    · rw [List.mem_singleton.mp he]
      exact py
  have nn : numD (.tup [x, y]) = none := by
    rcases h with h | h | ⟨b, rfl, h⟩
    · exact numD_pair (.inl h)
    · exact numD_pair (.inr h)
    · cases wx : wholeD x with
      | false => exact numD_pair (.inl wx)
      | true =>
        obtain ⟨a, rfl⟩ := wholeD_int wx
        rw [numD_two, if_neg (by omega)]
  refine ⟨⟨⟨_, rfl⟩, fun x' y' e => ?_⟩, nn, pl⟩
  injection e with e
  injection e with e1 e2
  injection e2 with e2 _
  subst e1 e2
  refine ⟨hx, hy, fun a b ea eb hb => ?_⟩
  subst ea eb
  rw [numD_two, if_pos hb] at nn
  cases nn
theorem noNums_all {a b : Int} (hb : b < 1) : ∀ d ∈ noNums a b, NoNum d := by
  intro d hd
  unfold noNums at hd
  simp only [List.mem_append, List.mem_cons, List.not_mem_nil, or_false, or_assoc] at hd
  have F : ∀ {d : D}, flatD d = true → Pl 1 d := fun h => Pl.flat h
  rcases hd with rfl | rfl | rfl | rfl | rfl | rfl | rfl | rfl | rfl | rfl | rfl | rfl | rfl | rfl | rfl | rfl | rfl | rfl | rfl | rfl | rfl | rfl | rfl | rfl | rfl | rfl | rfl
  all_goals first
    | exact noNum_flat rfl rfl
    | exact noNum_lst (by show _ ≤ 1000000; simp) (by simp [flatD])
    | exact noNum_pair ⟨_, rfl⟩ ⟨_, rfl⟩ (F rfl) (F rfl) (.inl rfl)
    | exact noNum_pair ⟨_, rfl⟩ ⟨_, rfl⟩ (F rfl) (F rfl) (.inr (.inl rfl))
    | exact noNum_pair ⟨_, rfl⟩ ⟨_, rfl⟩ (F rfl) (F rfl) (.inr (.inr ⟨_, rfl, by omega⟩))
    | exact noNum_pair ⟨_, rfl⟩ ⟨_, rfl⟩ (Pl.tup (by show 2 ≤ 1000000; decide) (by simp [Pl, flatD])) (F rfl) (.inl rfl)
    | exact noNum_pair ⟨_, rfl⟩ ⟨_, rfl⟩ (Pl.lst (by show 1 ≤ 1000000; decide) (by simp [Pl, flatD])) (F rfl) (.inl rfl)
    | exact noNum_pair ⟨_, rfl⟩ ⟨_, rfl⟩ (F rfl) (Pl.tup (by show 1 ≤ 1000000; decide) (by simp [Pl, flatD])) (.inr (.inl rfl))
    | exact noNum_tup (by show _ ≤ 1000000; simp) (by simp) (by simp [flatD])
abbrev s__law_not_number : Stmt := top 67
theorem sc__law_not_number : FnScope ["store", "whole", "more", "menu"] ["store"] (defScope s__law_not_number) := ⟨rfl, rfl, rfl, by decide +kernel, rfl, by decide +kernel, by decide +kernel⟩
def S__law_not_number : DSp := fun ds Q E => ds = [.sto] ∧ ∀ d, NoNum d → Q d
theorem len__law_not_number {ds : List D} {Q : D → Prop} {E : Ex → Prop} (h : S__law_not_number ds Q E) : ds.length = 1 := by rw [h.1]; rfl
theorem ok__law_not_number (T : Txt P K mg) (h__law_take : Has P w K mg base "_law_take" 2 false S__law_take) {f : Addr} {fd : FuncData} (F : Fun K "_law_not_number" "_law_not_number" s__law_not_number f fd) : FnOk P w K mg base (L2N.CX P w) 3 f fd ["store"] (spD K mg false S__law_not_number) := by
  refine fn_ok F sc__law_not_number (fun ds Qd Ed h => len__law_not_number h) (fun cdv Ar outer s H E R M ds Qd Ed hr hK hm h0 h => ?_)
  subst hK hm
  refine ⟨_, (gss_cons (gs_asg (i := 1) (ge_subI (ge_call (Has.call h__law_take (hr.mono (by decide)) (L2N.takes_of rfl rfl rfl rfl)) (gl_cons (ge_var (pv 0)) (gl_cons ge_int gl_nil)) h0) ge_int) sc__law_not_number.nd rfl (by first | exact Or.inl rfl | exact Or.inr rfl))
    (gss_cons (gs_asg (i := 2) (ge_subI ge_int (ge_call (Has.call h__law_take (hr.mono (by decide)) (L2N.takes_of rfl rfl rfl rfl)) (gl_cons (ge_var (pv 0)) (gl_cons (ge_pow ge_int ge_int) gl_nil)) h0)) sc__law_not_number.nd rfl (by first | exact Or.inl rfl | exact Or.inr rfl))
    (gss_cons (gs_asg (i := 3) (ge_lst (gl_cons ge_non (gl_cons ge_bl (gl_cons ge_bl (gl_cons ge_str (gl_cons ge_str (gl_cons ge_str (gl_cons (ge_lst gl_nil) (gl_cons (ge_lst (gl_cons (ge_var (pv 1)) gl_nil)) (gl_cons (ge_lst (gl_cons (ge_var (pv 1)) (gl_cons ge_int gl_nil))) (gl_cons (ge_tup gl_nil) (gl_cons (ge_tup (gl_cons (ge_var (pv 1)) gl_nil)) (gl_cons (ge_tup (gl_cons (ge_var (pv 1)) (gl_cons ge_int (gl_cons ge_int gl_nil)))) (gl_cons (ge_tup (gl_cons (ge_var (pv 1)) (gl_cons ge_int gl_nil))) gl_nil)))))))))))))) sc__law_not_number.nd rfl (by first | exact Or.inl rfl | exact Or.inr rfl))
    (gss_cons (gs_asg (i := 3) (ge_add (ge_var (pv 3)) (ge_lst (gl_cons (ge_tup (gl_cons (ge_var (pv 1)) (gl_cons (ge_var (pv 2)) gl_nil))) (gl_cons (ge_tup (gl_cons ge_int (gl_cons ge_int gl_nil))) (gl_cons (ge_tup (gl_cons ge_int (gl_cons (ge_subI ge_int ge_int) gl_nil))) (gl_cons (ge_tup (gl_cons ge_bl (gl_cons ge_int gl_nil))) (gl_cons (ge_tup (gl_cons ge_bl (gl_cons ge_int gl_nil))) (gl_cons (ge_tup (gl_cons (ge_var (pv 1)) (gl_cons ge_bl gl_nil))) (gl_cons (ge_tup (gl_cons (ge_var (pv 1)) (gl_cons ge_bl gl_nil))) gl_nil))))))))) sc__law_not_number.nd rfl (by first | exact Or.inl rfl | exact Or.inr rfl))
    (gss_cons (gs_asg (i := 3) (ge_add (ge_var (pv 3)) (ge_lst (gl_cons (ge_tup (gl_cons (ge_var (pv 1)) (gl_cons ge_non gl_nil))) (gl_cons (ge_tup (gl_cons ge_non (gl_cons ge_int gl_nil))) (gl_cons (ge_tup (gl_cons ge_str (gl_cons ge_int gl_nil))) (gl_cons (ge_tup (gl_cons (ge_var (pv 1)) (gl_cons ge_str gl_nil))) (gl_cons (ge_tup (gl_cons (ge_tup (gl_cons (ge_var (pv 1)) (gl_cons ge_int gl_nil))) (gl_cons ge_int gl_nil))) (gl_cons (ge_tup (gl_cons (ge_lst (gl_cons (ge_var (pv 1)) gl_nil)) (gl_cons ge_int gl_nil))) (gl_cons (ge_tup (gl_cons (ge_var (pv 1)) (gl_cons (ge_tup (gl_cons ge_int gl_nil)) gl_nil))) gl_nil))))))))) sc__law_not_number.nd rfl (by first | exact Or.inl rfl | exact Or.inr rfl))
    (gss_one (gs_ret (ge_ix (ge_var (pv 3)) (ge_call (Has.call h__law_take (hr.mono (by decide)) (L2N.takes_of rfl rfl rfl rfl)) (gl_cons (ge_var (pv 0)) (gl_cons (ge_blt (b_len) (by rfl) T.len PySem.boot_len (gl_cons (ge_var (pv 3)) gl_nil)) gl_nil)) h0))))))))), ?_⟩
  obtain ⟨rfl, hq⟩ := h
  refine ⟨9, rfl, by decide, fun w w1 w2 => ⟨⟨by decide, by decide, by decide⟩, _, rfl, by decide, fun m m1 m2 => ?_⟩⟩
  have hl : ∀ n : Nat, Nat.ble n 100 = true → n ≤ LINE := fun n h => by
    have := Nat.le_of_ble_eq_true h
    show n ≤ 16777216
    omega
  repeat (refine ⟨hl _ rfl, ?_⟩)
  refine ⟨27, rfl, by decide, fun z z1 z2 => ?_⟩
  obtain ⟨d, h1, h2, _⟩ := atI_int (l := noNums (w - 4) (0 - m)) (i := z) z1 (by show z < ((27 : Nat) : Int); omega)
  exact ⟨d, h1, hq d (noNums_all (by omega) d h2)⟩
end
end LW
set_option maxRecDepth 100000
set_option maxHeartbeats 4000000
namespace LW
open PySem PySem.Spec PyProof.Rows L2 Nb TL
section
variable {P : Program} {w : World} {K : PySem.W.Frag} {mg : Str → Option Value} {base : Heap}
theorem ifn {c : Prop} {i : Decidable c} {a b : Prop} (h : ¬c) (k : b) : @ite Prop c i a b := by rw [if_neg h]; exact k
theorem ifp {c : Prop} {i : Decidable c} {a b : Prop} (h : c) (k : a) : @ite Prop c i a b := by rw [if_pos h]; exact k
/-! ### answers and numbers in any form -/
/-- the integers below and above -/
def lo (q : Rat) : Int := q.num / (q.den : Int)
def hi (q : Rat) : Int := -(-q.num / (q.den : Int))
/-- what is no number -/
structure NoN (d : D) : Prop where
  chk : ChkOk d
  num : numD d = none
theorem NoNum.non {d : D} (h : NoNum d) : NoN d := ⟨h.chk, h.num⟩
theorem num_int {z : Int} {n : Nat} (h : z.natAbs < 2 ^ n) : Num n (.int z) (z : Rat) := .inl ⟨z, rfl, h, rfl⟩
abbrev s__law_is_whole : Stmt := top 69
theorem sc__law_is_whole : FnScope ["actual"] ["actual"] (defScope s__law_is_whole) := ⟨rfl, rfl, rfl, by decide +kernel, rfl, by decide +kernel, by decide +kernel⟩
def S__law_is_whole : DSp := fun ds Q E => ∃ d t, ds = [d] ∧ d.tyn = some t ∧ Q (.bl (wholeD d))
theorem len__law_is_whole {ds : List D} {Q : D → Prop} {E : Ex → Prop} (h : S__law_is_whole ds Q E) : ds.length = 1 := by obtain ⟨m, t, h, _⟩ := h; rw [h]; rfl
theorem ok__law_is_whole (T : Txt P K mg) {f : Addr} {fd : FuncData} (F : Fun K "_law_is_whole" "_law_is_whole" s__law_is_whole f fd) : FnOk P w K mg base (L2N.CX P w) 1 f fd ["actual"] (spD K mg false S__law_is_whole) := by
  refine fn_ok F sc__law_is_whole (fun ds Qd Ed h => len__law_is_whole h) (fun cdv Ar outer s H E R M ds Qd Ed hr hK hm h0 h => ?_)
  subst hK hm
  refine ⟨_, (gss_one (gs_ret (ge_and (ge_blt (b_isi) (by rfl) T.isinstance PyProof.Rows.boot_isinstance (gl_cons (ge_var (pv 0)) (gl_cons (ge_tyc (n := "int") (by rfl) T.int) gl_nil))) (ge_one (ge_not (ge_blt (b_isi) (by rfl) T.isinstance PyProof.Rows.boot_isinstance (gl_cons (ge_var (pv 0)) (gl_cons (ge_tyc (n := "bool") (by rfl) T.bool) gl_nil)))))))), ?_⟩
  obtain ⟨d, t, rfl, ht, hq⟩ := h
  cases d <;> first | (cases ht; done) | skip
  all_goals
    simp only [↓reduceIte, disX, dxf, dcallQ, dcallQF, eqv_strs, sgnD_eq, draise1, fAll, diR1, diR2, diL, diT, diS, dname, dapp, dappPop, dlenO, dixO, dretO, dSl, donone, dosome, dyes, dfv, dm1, fJoin, fIndex, fListF, fSortT, dRev, dIn, dNotIn, difE, fMax, fMin, fStr, fList, dseq, dif, dret, dretN, dretF, dretO, dasg, dasgO, dexpr, dnext, dop, dopF, dk, dvar, dcons, dnil, dlst, dflst, dtup, dIx, dI0, dII, dB0, dtest, dtruth, dand, dor, dnot, dcb, dcbF, dcall, dcallF, dixS, dsetS, dinS, difS, fLen, fInt, fAbs, endD, scD, SOK, dEq, dNe, eqv_int, eqv_str, eqv_bl, beq_iff_eq, decide_eq_true_eq, Bool.not_eq_true, Bool.not_eq_true', true_and, and_true, and_self, false_and, and_false, reduceCtorEq, true_or, or_true, true_implies, if_true, if_false, Bool.false_eq_true, not_false_eq_true, dAdd, dMul, dAddF, List.getElem?_cons_zero, List.getElem?_cons_succ, List.set_cons_zero, List.set_cons_succ, eq_self, draise0, draiseN, ddead, fGcd, fSum, diV, dgtup, dgcons, dgnil, dasgG, dNeg, dmut, dseti, dlenO, dixO, difE, dandV, dorV, dnotV, dchain, dIsN, dNotN, dMul, dAdd, start_def, List.map_cons, List.map_nil, List.length_cons, List.length_nil, List.replicate_succ, List.replicate_zero, List.cons_append, List.nil_append, Nat.reduceAdd, Nat.reduceSub, Nat.reduceLeDiff, Nb.LINE, isi_non_int, isi_non_bool, isi_non_str, isi_non_tuple, isi_non_list, isi_bl_int, isi_bl_bool, isi_bl_str, isi_bl_tuple, isi_bl_list, isi_int_int, isi_int_bool, isi_int_str, isi_int_tuple, isi_int_list, isi_str_int, isi_str_bool, isi_str_str, isi_str_tuple, isi_str_list, isi_tup_int, isi_tup_bool, isi_tup_str, isi_tup_tuple, isi_tup_list, isi_lst_int, isi_lst_bool, isi_lst_str, isi_lst_tuple, isi_lst_list, isi_dct_int, isi_dct_bool, isi_dct_str, isi_dct_tuple, isi_dct_list, ddct0, dint, fTuple, fListF, fList, pow10_iff, Int.reduceLE, Int.reduceLT, Int.reduceToNat]
    exact hq
end
end LW
set_option maxRecDepth 100000
set_option maxHeartbeats 4000000
namespace LW
open PySem PySem.Spec PyProof.Rows L2 Nb TL
section
variable {P : Program} {w : World} {K : PySem.W.Frag} {mg : Str → Option Value} {base : Heap}
/-- one more than the sum, shared out -/
def hO (qs : List Rat) : Rat := (1 + sumQ qs) * (1 / ((qs.length : Nat) : Rat))
theorem sumQ_sz {qs : List Rat} {n : Nat} (hs : ∀ q ∈ qs, Sz n q) (h5 : qs.length ≤ 5) : Sz ((n + 2) * 6) (sumQ qs) := (Sz.sum hs).mono (Nat.mul_le_mul_left _ (by omega))
theorem hO_sz {qs : List Rat} {n : Nat} (hs : ∀ q ∈ qs, Sz n q) (h5 : qs.length ≤ 5) : Sz (6 * n + 24) (hO qs) := by
  have p : Sz 10 (1 / ((qs.length : Nat) : Rat)) := Sz.part (k := 9) (by show _ < 1024; omega)
  exact (((Sz.one 0).add (sumQ_sz hs h5)).mul p).mono (by omega)
theorem qlen_ne {qs : List Rat} (h : 0 < qs.length) : ((qs.length : Nat) : Rat) ≠ 0 := by
  intro z
  have : ((qs.length : Nat) : Rat) = ((0 : Nat) : Rat) := z
  have := Rat.natCast_inj.mp this
  omega
theorem hO_mul {qs : List Rat} (h : 0 < qs.length) : ((qs.length : Nat) : Rat) * hO qs = 1 + sumQ qs := by
  have := qlen_ne h
  unfold hO
  grind
theorem sumQ_ge (c : Rat) : ∀ {l : List Rat}, (∀ q ∈ l, c ≤ q) → ((l.length : Nat) : Rat) * c ≤ sumQ l
  | [], _ => by show ((0 : Nat) : Rat) * c ≤ 0; grind
  | x :: l, h => by
    have h1 := h x List.mem_cons_self
    have h2 := sumQ_ge c (l := l) fun q hq => h q (List.mem_cons_of_mem _ hq)
    show (((l.length + 1 : Nat)) : Rat) * c ≤ x + sumQ l
    have : ((l.length + 1 : Nat) : Rat) = (l.length : Rat) + 1 := by grind
    rw [this]
    grind
/-- the items below their height -/
def lows (qs : List Rat) : List Rat := qs.filter fun q => decide (q < hO qs)
theorem lows_pos {qs : List Rat} (h : 0 < qs.length) : 0 < (lows qs).length := by
  refine Nat.pos_of_ne_zero fun z => ?_
  have e : lows qs = [] := List.eq_nil_of_length_eq_zero z
  have all : ∀ q ∈ qs, hO qs ≤ q := fun q hq => by
    have n := List.filter_eq_nil_iff.mp e q hq
    exact Rat.not_lt.mp fun w => n (decide_eq_true w)
  have := sumQ_ge _ all
  rw [hO_mul h] at this
  grind
def hgt : Nat → List Rat → Rat
  | 0, qs => hO qs
  | n + 1, qs => if (lows qs).length = qs.length then hO qs else hgt n (lows qs)
/-- the height of the filling -/
def height (qs : List Rat) : Rat := hgt qs.length qs
theorem dlc_filter {gi : DI} {t : DG} {c : DB} {ge : DE} {vs : List Nat} {env : DEnv} {Q : List D → Prop} {Ed : Ex → Prop} {ds : List D} (p : D → Bool) (hgi : ∀ Q' : List D → Prop, Q' ds → gi env Q' Ed) (hl : ds.length ≤ 1000000)
    (he : ∀ d ∈ ds, ∀ (P : D → Prop) (N : Prop), (p d = true → P d) → (p d = false → N) → t d (blkD env vs) fun env2 => c env2 (fun b => if b = true then ge env2 P (fun _ => False) else N) fun _ => False) (hq : Q (ds.filter p)) : dlc gi t c ge vs env Q Ed := by
  unfold dlc
  refine hgi _ ⟨fun i acc => acc = (ds.take i).filter p ∧ i ≤ ds.length, ⟨by simp, Nat.zero_le _⟩, fun i d acc e hI => ?_, fun acc hI => ?_⟩
  · obtain ⟨rfl, hle⟩ := hI
    have hlt : i < ds.length := (List.getElem?_eq_some_iff.mp e).1
    have ll : ((ds.take i).filter p).length < LINE := by
      have h1 := List.length_filter_le p (ds.take i)
      rw [List.length_take] at h1
      show _ < 16777216
      omega
    refine he d (List.mem_of_getElem? e) _ _ (fun hp => ⟨ll, ?_, hlt⟩) fun hp => ⟨?_, hlt⟩
    · rw [List.take_add_one, e, List.filter_append]
      simp [hp]
    · rw [List.take_add_one, e, List.filter_append]
      simp [hp]
  · obtain ⟨rfl, _⟩ := hI
    rw [List.take_length]
    exact hq
theorem lows_fr (qs : List Rat) : ((qs.map fr).filter fun d => match numD d with
    | some q => decide (q < hO qs)
    | none => false) = (lows qs).map fr := by
  unfold lows
  rw [List.filter_map]
  congr 1
  refine List.filter_congr fun q _ => ?_
  show (match numD (fr q) with
    | some q => decide (q < hO qs)
    | none => false) = _
  rw [numD_fr]
abbrev s_height_over : Stmt := top 36
theorem sc_height_over : FnScope ["levels"] ["levels"] (defScope s_height_over) := ⟨rfl, rfl, rfl, by decide +kernel, rfl, by decide +kernel, by decide +kernel⟩
def S_height_over : DSp := fun ds Q E => ∃ (qs : List Rat) (n : Nat), ds = [.lst (qs.map fr)] ∧ (∀ q ∈ qs, Sz n q) ∧ 0 < qs.length ∧ qs.length ≤ 5 ∧ n ≤ 1000 ∧ Q (fr (hO qs))
theorem len_height_over {ds : List D} {Q : D → Prop} {E : Ex → Prop} (h : S_height_over ds Q E) : ds.length = 1 := by obtain ⟨m, t, h, _⟩ := h; rw [h]; rfl
theorem ok_height_over (T : Txt P K mg) (h_plus : Has P w K mg base "plus" 1 false S_plus) (h_sum_of : Has P w K mg base "sum_of" 2 false S_sum_of) (h_times : Has P w K mg base "times" 1 false S_times) {f : Addr} {fd : FuncData} (F : Fun K "height_over" "height_over" s_height_over f fd) : FnOk P w K mg base (L2N.CX P w) 3 f fd ["levels"] (spD K mg false S_height_over) := by
  refine fn_ok F sc_height_over (fun ds Qd Ed h => len_height_over h) (fun cdv Ar outer s H E R M ds Qd Ed hr hK hm h0 h => ?_)
  subst hK hm
  refine ⟨_, (gss_one (gs_ret (ge_call (Has.call h_times (hr.mono (by decide)) (L2N.takes_of rfl rfl rfl rfl)) (gl_cons (ge_call (Has.call h_plus (hr.mono (by decide)) (L2N.takes_of rfl rfl rfl rfl)) (gl_cons (c_ONE T) (gl_cons (ge_call (Has.call h_sum_of (hr.mono (by decide)) (L2N.takes_of rfl rfl rfl rfl)) (gl_cons (ge_var (pv 0)) gl_nil) h0) gl_nil)) h0) (gl_cons (ge_tup (gl_cons ge_int (gl_cons (ge_blt (b_len) (by rfl) T.len PySem.boot_len (gl_cons (ge_var (pv 0)) gl_nil)) gl_nil))) gl_nil)) h0))), ?_⟩
  obtain ⟨qs, n, rfl, hs, h0, h5, hn, hq⟩ := h
  have hb : (n + 2) * (qs.length + 1) ≤ 8000 := by
    have : (n + 2) * (qs.length + 1) ≤ (n + 2) * 6 := Nat.mul_le_mul_left _ (by omega)
    omega
  have p : Sz 8000 (1 / ((qs.length : Nat) : Rat)) := (Sz.part (k := 9) (by show _ < 1024; omega)).mono (by omega)
  have s : Sz 7000 (sumQ qs) := (sumQ_sz hs h5).mono (by omega)
  have o : Sz 7000 (1 : Rat) := (Sz.one 0).mono (by omega)
  simp only [fr_part h0, fr_one, ↓reduceIte, disX, dxf, dcallQ, dcallQF, eqv_strs, sgnD_eq, draise1, fAll, diR1, diR2, diL, diT, diS, dname, dapp, dappPop, dlenO, dixO, dretO, dSl, donone, dosome, dyes, dfv, dm1, fJoin, fIndex, fListF, fSortT, dRev, dIn, dNotIn, difE, fMax, fMin, fStr, fList, dseq, dif, dret, dretN, dretF, dretO, dasg, dasgO, dexpr, dnext, dop, dopF, dk, dvar, dcons, dnil, dlst, dflst, dtup, dIx, dI0, dII, dB0, dtest, dtruth, dand, dor, dnot, dcb, dcbF, dcall, dcallF, dixS, dsetS, dinS, difS, fLen, fInt, fAbs, endD, scD, SOK, dEq, dNe, eqv_int, eqv_str, eqv_bl, beq_iff_eq, decide_eq_true_eq, Bool.not_eq_true, Bool.not_eq_true', true_and, and_true, and_self, false_and, and_false, reduceCtorEq, true_or, or_true, true_implies, if_true, if_false, Bool.false_eq_true, not_false_eq_true, dAdd, dMul, dAddF, List.getElem?_cons_zero, List.getElem?_cons_succ, List.set_cons_zero, List.set_cons_succ, eq_self, draise0, draiseN, ddead, fGcd, fSum, diV, dgtup, dgcons, dgnil, dasgG, dNeg, dmut, dseti, dlenO, dixO, difE, dandV, dorV, dnotV, dchain, dIsN, dNotN, dMul, dAdd, start_def, List.map_cons, List.map_nil, List.length_cons, List.length_nil, List.replicate_succ, List.replicate_zero, List.cons_append, List.nil_append, Nat.reduceAdd, Nat.reduceSub, Nat.reduceLeDiff, Nb.LINE, isi_non_int, isi_non_bool, isi_non_str, isi_non_tuple, isi_non_list, isi_bl_int, isi_bl_bool, isi_bl_str, isi_bl_tuple, isi_bl_list, isi_int_int, isi_int_bool, isi_int_str, isi_int_tuple, isi_int_list, isi_str_int, isi_str_bool, isi_str_str, isi_str_tuple, isi_str_list, isi_tup_int, isi_tup_bool, isi_tup_str, isi_tup_tuple, isi_tup_list, isi_lst_int, isi_lst_bool, isi_lst_str, isi_lst_tuple, isi_lst_list, isi_dct_int, isi_dct_bool, isi_dct_str, isi_dct_tuple, isi_dct_list, ddct0, dint, fTuple, fListF, fList, pow10_iff, Int.reduceLE, Int.reduceLT, Int.reduceToNat, List.length_map]
  refine ⟨_, qs, n, rfl, .inl rfl, hs, by omega, ?_⟩
  refine plus_of o s (by omega) ?_
  exact times_of (((Sz.one 0).add ((sumQ_sz hs h5).mono (m := 7000) (by omega))).mono (by omega)) p (by omega) hq
abbrev s_height_of : Stmt := top 37
theorem sc_height_of : FnScope ["levels", "below", "height", "lower", "level"] ["levels"] (defScope s_height_of) := ⟨rfl, rfl, rfl, by decide +kernel, rfl, by decide +kernel, by decide +kernel⟩
def S_height_of : DSp := fun ds Q E => ∃ (qs : List Rat) (n : Nat), ds = [.lst (qs.map fr)] ∧ (∀ q ∈ qs, Sz n q) ∧ 0 < qs.length ∧ qs.length ≤ 5 ∧ n ≤ 1000 ∧ Q (fr (height qs))
theorem len_height_of {ds : List D} {Q : D → Prop} {E : Ex → Prop} (h : S_height_of ds Q E) : ds.length = 1 := by obtain ⟨m, t, h, _⟩ := h; rw [h]; rfl
theorem ok_height_of (T : Txt P K mg) (h_height_over : Has P w K mg base "height_over" 3 false S_height_over) (h_is_less : Has P w K mg base "is_less" 1 false S_is_less) {f : Addr} {fd : FuncData} (F : Fun K "height_of" "height_of" s_height_of f fd) : FnOk P w K mg base (L2N.CX P w) 4 f fd ["levels"] (spD K mg false S_height_of) := by
  refine fn_ok F sc_height_of (fun ds Qd Ed h => len_height_of h) (fun cdv Ar outer s H E R M ds Qd Ed hr hK hm h0 h => ?_)
  subst hK hm
  refine ⟨_, (gss_cons (gs_asg (i := 1) (ge_var (pv 0)) sc_height_of.nd rfl (by first | exact Or.inl rfl | exact Or.inr rfl))
    (gss_one (gs_while (passes_of rfl) (gt_val ge_bl) (gss_cons (gs_asg (i := 2) (ge_call (Has.call h_height_over (hr.mono (by decide)) (L2N.takes_of rfl rfl rfl rfl)) (gl_cons (ge_var (pv 1)) gl_nil) h0) sc_height_of.nd rfl (by first | exact Or.inl rfl | exact Or.inr rfl))
    (gss_cons (gs_asgLc (i := 3) (own := [("level", 4)]) (js := [4]) (by rfl) sc_height_of.nd rfl rfl (sw_true rfl rfl rfl (by decide +kernel)) (gi_list (ge_var (pv 1))) (by show blkC ["levels", "below", "height", "lower", "level"] (defScope s_height_of) _ _ = true; decide +kernel) (by decide) (fun B hB _ _ _ _ _ => gg_name (i := 4) sc_height_of.nd rfl (by first | exact Or.inl rfl | exact Or.inr rfl)) (fun B hB _ _ _ _ _ => (gts_one (gt_val (ge_call (Has.call h_is_less (hr.mono (by decide)) takesN) (gl_cons (ge_var (pv 4)) (gl_cons (ge_var (pv 2)) gl_nil)) ((congrArg RC.hx hB).trans h0) (hK := congrArg RC.K hB) (hm := congrArg RC.mg hB))))) (fun B hB _ _ _ _ _ => (ge_var (pv 4))))
    (gss_freeze (i := 3) <| (gss_cons (gs_if (gt_c (cm_eq (room_units hr)) (ge_blt (b_len) (by rfl) T.len PySem.boot_len (gl_cons (ge_var (pv 3)) gl_nil)) (ge_blt (b_len) (by rfl) T.len PySem.boot_len (gl_cons (ge_var (pv 1)) gl_nil))) (gss_one (gs_ret (ge_var (pv 2)))) gss_nil)
    (gss_one (gs_asg (i := 1) (ge_var (pv 3)) sc_height_of.nd rfl (by first | exact Or.inl rfl | exact Or.inr rfl)))))))))), ?_⟩
  obtain ⟨qs, n, rfl, hs, h0, h5, hn, hq⟩ := h
  simp only [↓reduceIte, disX, dxf, dcallQ, dcallQF, eqv_strs, sgnD_eq, draise1, fAll, diR1, diR2, diL, diT, diS, dname, dapp, dappPop, dlenO, dixO, dretO, dSl, donone, dosome, dyes, dfv, dm1, fJoin, fIndex, fListF, fSortT, dRev, dIn, dNotIn, difE, fMax, fMin, fStr, fList, dseq, dif, dret, dretN, dretF, dretO, dasg, dasgO, dexpr, dnext, dop, dopF, dk, dvar, dcons, dnil, dlst, dflst, dtup, dIx, dI0, dII, dB0, dtest, dtruth, dand, dor, dnot, dcb, dcbF, dcall, dcallF, dixS, dsetS, dinS, difS, fLen, fInt, fAbs, endD, scD, SOK, dEq, dNe, eqv_int, eqv_str, eqv_bl, beq_iff_eq, decide_eq_true_eq, Bool.not_eq_true, Bool.not_eq_true', true_and, and_true, and_self, false_and, and_false, reduceCtorEq, true_or, or_true, true_implies, if_true, if_false, Bool.false_eq_true, not_false_eq_true, dAdd, dMul, dAddF, List.getElem?_cons_zero, List.getElem?_cons_succ, List.set_cons_zero, List.set_cons_succ, eq_self, draise0, draiseN, ddead, fGcd, fSum, diV, dgtup, dgcons, dgnil, dasgG, dNeg, dmut, dseti, dlenO, dixO, difE, dandV, dorV, dnotV, dchain, dIsN, dNotN, dMul, dAdd, start_def, List.map_cons, List.map_nil, List.length_cons, List.length_nil, List.replicate_succ, List.replicate_zero, List.cons_append, List.nil_append, Nat.reduceAdd, Nat.reduceSub, Nat.reduceLeDiff, Nb.LINE, isi_non_int, isi_non_bool, isi_non_str, isi_non_tuple, isi_non_list, isi_bl_int, isi_bl_bool, isi_bl_str, isi_bl_tuple, isi_bl_list, isi_int_int, isi_int_bool, isi_int_str, isi_int_tuple, isi_int_list, isi_str_int, isi_str_bool, isi_str_str, isi_str_tuple, isi_str_list, isi_tup_int, isi_tup_bool, isi_tup_str, isi_tup_tuple, isi_tup_list, isi_lst_int, isi_lst_bool, isi_lst_str, isi_lst_tuple, isi_lst_list, isi_dct_int, isi_dct_bool, isi_dct_str, isi_dct_tuple, isi_dct_list, ddct0, dint, fTuple, fListF, fList, pow10_iff, Int.reduceLE, Int.reduceLT, Int.reduceToNat]
  unfold dwhile
  refine ⟨fun m env => ∃ (bs : List Rat) (x y z : SD), env = [.val (.lst (qs.map fr)), .val (.lst (bs.map fr)), x, y, z] ∧ 0 < bs.length ∧ bs.length ≤ m ∧ (∀ q ∈ bs, q ∈ qs) ∧ bs.length ≤ 5 ∧ hgt m bs = height qs, ⟨qs.length, qs, .un, .un, .un, rfl, h0, Nat.le_refl _, fun _ h => h, h5, rfl⟩, ?_⟩
  rintro m env' ⟨bs, x, y, z, rfl, b0, bm, hb, b5, e⟩
  have sb : ∀ q ∈ bs, Sz n q := fun q h => hs q (hb q h)
  have sh := hO_sz sb b5
  simp only [↓reduceIte, disX, dxf, dcallQ, dcallQF, eqv_strs, sgnD_eq, draise1, fAll, diR1, diR2, diL, diT, diS, dname, dapp, dappPop, dlenO, dixO, dretO, dSl, donone, dosome, dyes, dfv, dm1, fJoin, fIndex, fListF, fSortT, dRev, dIn, dNotIn, difE, fMax, fMin, fStr, fList, dseq, dif, dret, dretN, dretF, dretO, dasg, dasgO, dexpr, dnext, dop, dopF, dk, dvar, dcons, dnil, dlst, dflst, dtup, dIx, dI0, dII, dB0, dtest, dtruth, dand, dor, dnot, dcb, dcbF, dcall, dcallF, dixS, dsetS, dinS, difS, fLen, fInt, fAbs, endD, scD, SOK, dEq, dNe, eqv_int, eqv_str, eqv_bl, beq_iff_eq, decide_eq_true_eq, Bool.not_eq_true, Bool.not_eq_true', true_and, and_true, and_self, false_and, and_false, reduceCtorEq, true_or, or_true, true_implies, if_true, if_false, Bool.false_eq_true, not_false_eq_true, dAdd, dMul, dAddF, List.getElem?_cons_zero, List.getElem?_cons_succ, List.set_cons_zero, List.set_cons_succ, eq_self, draise0, draiseN, ddead, fGcd, fSum, diV, dgtup, dgcons, dgnil, dasgG, dNeg, dmut, dseti, dlenO, dixO, difE, dandV, dorV, dnotV, dchain, dIsN, dNotN, dMul, dAdd, start_def, List.map_cons, List.map_nil, List.length_cons, List.length_nil, List.replicate_succ, List.replicate_zero, List.cons_append, List.nil_append, Nat.reduceAdd, Nat.reduceSub, Nat.reduceLeDiff, Nb.LINE, isi_non_int, isi_non_bool, isi_non_str, isi_non_tuple, isi_non_list, isi_bl_int, isi_bl_bool, isi_bl_str, isi_bl_tuple, isi_bl_list, isi_int_int, isi_int_bool, isi_int_str, isi_int_tuple, isi_int_list, isi_str_int, isi_str_bool, isi_str_str, isi_str_tuple, isi_str_list, isi_tup_int, isi_tup_bool, isi_tup_str, isi_tup_tuple, isi_tup_list, isi_lst_int, isi_lst_bool, isi_lst_str, isi_lst_tuple, isi_lst_list, isi_dct_int, isi_dct_bool, isi_dct_str, isi_dct_tuple, isi_dct_list, ddct0, dint, fTuple, fListF, fList, pow10_iff, Int.reduceLE, Int.reduceLT, Int.reduceToNat]
  refine ⟨bs, n, rfl, sb, b0, b5, hn, ?_⟩
  refine dlc_filter (ds := bs.map fr) (fun d => match numD d with
    | some q => decide (q < hO bs)
    | none => false) (fun Q' h => h) (by rw [List.length_map]; omega) (fun d hd P N hp hn' => ?_) ?_
  · obtain ⟨q, hq', rfl⟩ := List.mem_map.mp hd
    rw [numD_fr] at hp hn'
    refine ⟨q, hO bs, rfl, (sb q hq').mono (by omega), sh.mono (by omega), ?_⟩
    by_cases c : q < hO bs
    · simp only [c, decide_true, if_true] at hp ⊢
      first | exact hp | exact hp trivial
    · simp only [c, decide_false, Bool.false_eq_true, if_false] at hn' ⊢
      first | exact hn' | exact hn' trivial
  · rw [lows_fr]
    unfold dfreeze
    simp only [List.length_map, ↓reduceIte, disX, dxf, dcallQ, dcallQF, eqv_strs, sgnD_eq, draise1, fAll, diR1, diR2, diL, diT, diS, dname, dapp, dappPop, dlenO, dixO, dretO, dSl, donone, dosome, dyes, dfv, dm1, fJoin, fIndex, fListF, fSortT, dRev, dIn, dNotIn, difE, fMax, fMin, fStr, fList, dseq, dif, dret, dretN, dretF, dretO, dasg, dasgO, dexpr, dnext, dop, dopF, dk, dvar, dcons, dnil, dlst, dflst, dtup, dIx, dI0, dII, dB0, dtest, dtruth, dand, dor, dnot, dcb, dcbF, dcall, dcallF, dixS, dsetS, dinS, difS, fLen, fInt, fAbs, endD, scD, SOK, dEq, dNe, eqv_int, eqv_str, eqv_bl, beq_iff_eq, decide_eq_true_eq, Bool.not_eq_true, Bool.not_eq_true', true_and, and_true, and_self, false_and, and_false, reduceCtorEq, true_or, or_true, true_implies, if_true, if_false, Bool.false_eq_true, not_false_eq_true, dAdd, dMul, dAddF, List.getElem?_cons_zero, List.getElem?_cons_succ, List.set_cons_zero, List.set_cons_succ, eq_self, draise0, draiseN, ddead, fGcd, fSum, diV, dgtup, dgcons, dgnil, dasgG, dNeg, dmut, dseti, dlenO, dixO, difE, dandV, dorV, dnotV, dchain, dIsN, dNotN, dMul, dAdd, start_def, List.map_cons, List.map_nil, List.length_cons, List.length_nil, List.replicate_succ, List.replicate_zero, List.cons_append, List.nil_append, Nat.reduceAdd, Nat.reduceSub, Nat.reduceLeDiff, Nb.LINE, isi_non_int, isi_non_bool, isi_non_str, isi_non_tuple, isi_non_list, isi_bl_int, isi_bl_bool, isi_bl_str, isi_bl_tuple, isi_bl_list, isi_int_int, isi_int_bool, isi_int_str, isi_int_tuple, isi_int_list, isi_str_int, isi_str_bool, isi_str_str, isi_str_tuple, isi_str_list, isi_tup_int, isi_tup_bool, isi_tup_str, isi_tup_tuple, isi_tup_list, isi_lst_int, isi_lst_bool, isi_lst_str, isi_lst_tuple, isi_lst_list, isi_dct_int, isi_dct_bool, isi_dct_str, isi_dct_tuple, isi_dct_list, ddct0, dint, fTuple, fListF, fList, pow10_iff, Int.reduceLE, Int.reduceLT, Int.reduceToNat]
    have hl : (lows bs).length ≤ bs.length := List.length_filter_le _ _
    cases m with
    | zero => omega
    | succ k =>
      unfold hgt at e
      by_cases c : (lows bs).length = bs.length
      · rw [if_pos (by omega)]
        rw [if_pos c] at e
        rw [e]
        exact hq
      · rw [if_neg (by omega)]
        rw [if_neg c] at e
        exact ⟨k, Nat.lt_succ_self _, lows bs, _, _, _, rfl, lows_pos b0, by omega, fun q h => hb q (List.mem_filter.mp h).1, by omega, e⟩
theorem hgt_sz {n : Nat} : ∀ {m : Nat} {qs : List Rat}, (∀ q ∈ qs, Sz n q) → qs.length ≤ 5 → Sz (6 * n + 24) (hgt m qs)
  | 0, qs, hs, h5 => hO_sz hs h5
  | m + 1, qs, hs, h5 => by
    unfold hgt
    split
    · exact hO_sz hs h5
    · exact hgt_sz (m := m) (qs := lows qs) (fun q h => hs q (List.mem_filter.mp h).1) (Nat.le_trans (List.length_filter_le _ _) h5)
theorem height_sz {n : Nat} {qs : List Rat} (hs : ∀ q ∈ qs, Sz n q) (h0 : 0 < qs.length) (h5 : qs.length ≤ 5) : Sz (6 * n + 24) (height qs) := hgt_sz hs h5
end
end LW
set_option maxRecDepth 100000
set_option maxHeartbeats 4000000
namespace LW
open PySem PySem.Spec PyProof.Rows L2 Nb TL
section
variable {P : Program} {w : World} {K : PySem.W.Frag} {mg : Str → Option Value} {base : Heap}
abbrev s_step_of : Stmt := top 38
theorem sc_step_of : FnScope ["levels"] ["levels"] (defScope s_step_of) := ⟨rfl, rfl, rfl, by decide +kernel, rfl, by decide +kernel, by decide +kernel⟩
def S_step_of : DSp := fun ds Q E => ∃ (qs : List Rat) (n : Nat), ds = [.lst (qs.map fr)] ∧ (∀ q ∈ qs, Sz n q) ∧ 0 < qs.length ∧ qs.length ≤ 5 ∧ n ≤ 1000 ∧ Q (fr (height qs - 1))
theorem len_step_of {ds : List D} {Q : D → Prop} {E : Ex → Prop} (h : S_step_of ds Q E) : ds.length = 1 := by obtain ⟨m, t, h, _⟩ := h; rw [h]; rfl
theorem ok_step_of (T : Txt P K mg) (h_height_of : Has P w K mg base "height_of" 4 false S_height_of) (h_minus : Has P w K mg base "minus" 2 false S_minus) {f : Addr} {fd : FuncData} (F : Fun K "step_of" "step_of" s_step_of f fd) : FnOk P w K mg base (L2N.CX P w) 5 f fd ["levels"] (spD K mg false S_step_of) := by
  refine fn_ok F sc_step_of (fun ds Qd Ed h => len_step_of h) (fun cdv Ar outer s H E R M ds Qd Ed hr hK hm h0 h => ?_)
  subst hK hm
  refine ⟨_, (gss_one (gs_ret (ge_call (Has.call h_minus (hr.mono (by decide)) (L2N.takes_of rfl rfl rfl rfl)) (gl_cons (ge_call (Has.call h_height_of (hr.mono (by decide)) (L2N.takes_of rfl rfl rfl rfl)) (gl_cons (ge_var (pv 0)) gl_nil) h0) (gl_cons (c_ONE T) gl_nil)) h0))), ?_⟩
  obtain ⟨qs, n, rfl, hs, h0, h5, hn, hq⟩ := h
  refine ⟨qs, n, rfl, hs, h0, h5, hn, ?_⟩
  exact ⟨height qs, 1, 6024, rfl, (height_sz hs h0 h5).mono (by omega), (Sz.one 0).mono (by omega), by omega, hq⟩
abbrev s_shares_of : Stmt := top 39
theorem sc_shares_of : FnScope ["levels", "height", "level"] ["levels"] (defScope s_shares_of) := ⟨rfl, rfl, rfl, by decide +kernel, rfl, by decide +kernel, by decide +kernel⟩
def S_shares_of : DSp := fun ds Q E => ∃ (qs : List Rat) (n : Nat), ds = [.lst (qs.map fr)] ∧ (∀ q ∈ qs, Sz n q) ∧ 0 < qs.length ∧ qs.length ≤ 5 ∧ n ≤ 1000 ∧ Q (.tup (qs.map fun l => fr (if l < height qs then height qs - l else 0)))
theorem len_shares_of {ds : List D} {Q : D → Prop} {E : Ex → Prop} (h : S_shares_of ds Q E) : ds.length = 1 := by obtain ⟨m, t, h, _⟩ := h; rw [h]; rfl
theorem ok_shares_of (T : Txt P K mg) (h_height_of : Has P w K mg base "height_of" 4 false S_height_of) (h_is_less : Has P w K mg base "is_less" 1 false S_is_less) (h_minus : Has P w K mg base "minus" 2 false S_minus) {f : Addr} {fd : FuncData} (F : Fun K "shares_of" "shares_of" s_shares_of f fd) : FnOk P w K mg base (L2N.CX P w) 5 f fd ["levels"] (spD K mg false S_shares_of) := by
  refine fn_ok F sc_shares_of (fun ds Qd Ed h => len_shares_of h) (fun cdv Ar outer s H E R M ds Qd Ed hr hK hm h0 h => ?_)
  subst hK hm
  refine ⟨_, (gss_cons (gs_asg (i := 1) (ge_call (Has.call h_height_of (hr.mono (by decide)) (L2N.takes_of rfl rfl rfl rfl)) (gl_cons (ge_var (pv 0)) gl_nil) h0) sc_shares_of.nd rfl (by first | exact Or.inl rfl | exact Or.inr rfl))
    (gss_one (gs_ret (ge_bltT (b_tuple) (by rfl) T.tuple PyProof.Rows.boot_tuple (gl_cons (GF.e (gf_lc (own := [("level", 2)]) (js := [2]) (by rfl) sc_shares_of.nd (gi_list (ge_var (pv 0))) (by show blkC ["levels", "height", "level"] (defScope s_shares_of) _ _ = true; decide +kernel) (by decide) (fun B hB _ _ _ _ _ => gg_name (i := 2) sc_shares_of.nd rfl (by first | exact Or.inl rfl | exact Or.inr rfl)) (fun B hB _ _ _ _ _ => gts_nil) (fun B hB _ _ _ _ _ => (ge_ifExp (gt_val (ge_call (Has.call h_is_less (hr.mono (by decide)) takesN) (gl_cons (ge_var (pv 2)) (gl_cons (ge_var (pv 1)) gl_nil)) ((congrArg RC.hx hB).trans h0) (hK := congrArg RC.K hB) (hm := congrArg RC.mg hB))) (ge_call (Has.call h_minus (hr.mono (by decide)) takesN) (gl_cons (ge_var (pv 1)) (gl_cons (ge_var (pv 2)) gl_nil)) ((congrArg RC.hx hB).trans h0) (hK := congrArg RC.K hB) (hm := congrArg RC.mg hB)) (c_ZERO T (hK := congrArg RC.K hB)))))) gl_nil))))), ?_⟩
  obtain ⟨qs, n, rfl, hs, h0, h5, hn, hq⟩ := h
  have hh := height_sz hs h0 h5
  refine ⟨qs, n, rfl, hs, h0, h5, hn, ?_⟩
  simp only [↓reduceIte, disX, dxf, dcallQ, dcallQF, eqv_strs, sgnD_eq, draise1, fAll, diR1, diR2, diL, diT, diS, dname, dapp, dappPop, dlenO, dixO, dretO, dSl, donone, dosome, dyes, dfv, dm1, fJoin, fIndex, fListF, fSortT, dRev, dIn, dNotIn, difE, fMax, fMin, fStr, fList, dseq, dif, dret, dretN, dretF, dretO, dasg, dasgO, dexpr, dnext, dop, dopF, dk, dvar, dcons, dnil, dlst, dflst, dtup, dIx, dI0, dII, dB0, dtest, dtruth, dand, dor, dnot, dcb, dcbF, dcall, dcallF, dixS, dsetS, dinS, difS, fLen, fInt, fAbs, endD, scD, SOK, dEq, dNe, eqv_int, eqv_str, eqv_bl, beq_iff_eq, decide_eq_true_eq, Bool.not_eq_true, Bool.not_eq_true', true_and, and_true, and_self, false_and, and_false, reduceCtorEq, true_or, or_true, true_implies, if_true, if_false, Bool.false_eq_true, not_false_eq_true, dAdd, dMul, dAddF, List.getElem?_cons_zero, List.getElem?_cons_succ, List.set_cons_zero, List.set_cons_succ, eq_self, draise0, draiseN, ddead, fGcd, fSum, diV, dgtup, dgcons, dgnil, dasgG, dNeg, dmut, dseti, dlenO, dixO, difE, dandV, dorV, dnotV, dchain, dIsN, dNotN, dMul, dAdd, start_def, List.map_cons, List.map_nil, List.length_cons, List.length_nil, List.replicate_succ, List.replicate_zero, List.cons_append, List.nil_append, Nat.reduceAdd, Nat.reduceSub, Nat.reduceLeDiff, Nb.LINE, isi_non_int, isi_non_bool, isi_non_str, isi_non_tuple, isi_non_list, isi_bl_int, isi_bl_bool, isi_bl_str, isi_bl_tuple, isi_bl_list, isi_int_int, isi_int_bool, isi_int_str, isi_int_tuple, isi_int_list, isi_str_int, isi_str_bool, isi_str_str, isi_str_tuple, isi_str_list, isi_tup_int, isi_tup_bool, isi_tup_str, isi_tup_tuple, isi_tup_list, isi_lst_int, isi_lst_bool, isi_lst_str, isi_lst_tuple, isi_lst_list, isi_dct_int, isi_dct_bool, isi_dct_str, isi_dct_tuple, isi_dct_list, ddct0, dint, fTuple, fListF, fList, pow10_iff, Int.reduceLE, Int.reduceLT, Int.reduceToNat]
  refine dlc_map (ds := qs.map fr) (fun d => match numD d with
    | some q => fr (if q < height qs then height qs - q else 0)
    | none => d) (fun Q' h => h) (by rw [List.length_map]; show _ ≤ 16777216; omega) (fun d hd Q' h => ?_) ?_
  · obtain ⟨q, hq', rfl⟩ := List.mem_map.mp hd
    rw [numD_fr] at h
    refine ⟨q, height qs, rfl, (hs q hq').mono (by omega), hh.mono (by omega), ?_⟩
    by_cases c : q < height qs
    · simp only [c, decide_true, if_true] at h ⊢
      exact ⟨height qs, q, 6024, rfl, hh.mono (by omega), (hs q hq').mono (by omega), by omega, h⟩
    · simp only [c, decide_false, if_false] at h ⊢
      exact h
  · rw [List.map_map]
    have : (qs.map ((fun d => match numD d with
      | some q => fr (if q < height qs then height qs - q else 0)
      | none => d) ∘ fr)) = qs.map fun l => fr (if l < height qs then height qs - l else 0) := List.map_congr_left fun q _ => by
        show (match numD (fr q) with
          | some q => fr (if q < height qs then height qs - q else 0)
          | none => fr q) = _
        rw [numD_fr]
    rw [this]
    exact hq
theorem map_len {xs : List D} {qs : List Rat} (e : xs.map numD = qs.map some) : xs.length = qs.length := by
  have := congrArg List.length e
  rwa [List.length_map, List.length_map] at this
theorem numD_inj {xs : List D} : ∀ {ps qs : List Rat}, xs.map numD = ps.map some → xs.map numD = qs.map some → ps = qs := fun {ps qs} h1 h2 => by
  have e : ps.map some = qs.map some := h1.symm.trans h2
  exact List.map_inj_right (fun _ _ h => Option.some.inj h) |>.mp e
def Ask2 (a b : D) (T : Rat → Rat → Prop) (B : Prop) : Prop := ChkOk a ∧ ChkOk b ∧ (∀ p q, numD a = some p → numD b = some q → (Sz 300 p ∧ Sz 300 q) ∧ T p q) ∧ (numD a = none ∨ numD b = none → B)
theorem Ask2.num {n : Nat} {a b : D} {p q : Rat} {T : Rat → Rat → Prop} {B : Prop} (ha : Num n a p) (hb : Num n b q) (hn : n ≤ 300) (sp : Sz 300 p) (sq : Sz 300 q) (h : T p q) : Ask2 a b T B := by
  refine ⟨ha.chk (by omega), hb.chk (by omega), fun p' q' e1 e2 => ?_, fun no => ?_⟩
  · rw [ha.num] at e1
    rw [hb.num] at e2
    cases e1
    cases e2
    exact ⟨⟨sp, sq⟩, h⟩
  · rw [ha.num, hb.num] at no
    rcases no with no | no <;> cases no
end
end LW
set_option maxRecDepth 100000
set_option maxHeartbeats 4000000
namespace LW
open PySem PySem.Spec PyProof.Rows L2 Nb TL
section
variable {P : Program} {w : World} {K : PySem.W.Frag} {mg : Str → Option Value} {base : Heap}
/-! ### what is poured -/
def shr1 (h q : Rat) : Rat := if q < h then h - q else 0
def pour (qs : List Rat) (h : Rat) : Rat := sumQ (qs.map (shr1 h))
theorem shr1_nonneg (h q : Rat) : 0 ≤ shr1 h q := by
  unfold shr1
  split <;> grind
theorem pour_cons (q : Rat) (qs : List Rat) (h : Rat) : pour (q :: qs) h = shr1 h q + pour qs h := rfl
theorem pour_filter (p : Rat → Bool) (h : Rat) : ∀ qs : List Rat, (∀ q ∈ qs, p q = false → h ≤ q) → pour (qs.filter p) h = pour qs h
  | [], _ => rfl
  | q :: qs, hn => by
    have ih := pour_filter p h qs fun x hx => hn x (List.mem_cons_of_mem _ hx)
    rw [pour_cons, ← ih]
    cases hp : p q with
    | true => rw [List.filter_cons_of_pos hp, pour_cons]
    | false =>
      rw [List.filter_cons_of_neg (by rw [hp]; decide)]
      have := hn q List.mem_cons_self hp
      have e : shr1 h q = 0 := by unfold shr1; rw [if_neg (by grind)]
      rw [e]
      grind
/-- where none stands above -/
theorem pour_low (h : Rat) : ∀ qs : List Rat, (∀ q ∈ qs, q ≤ h) → pour qs h = ((qs.length : Nat) : Rat) * h - sumQ qs
  | [], _ => by show (0 : Rat) = ((0 : Nat) : Rat) * h - 0; grind
  | q :: qs, hn => by
    have ih := pour_low h qs fun x hx => hn x (List.mem_cons_of_mem _ hx)
    have hq := hn q List.mem_cons_self
    have e : ((qs.length + 1 : Nat) : Rat) = (qs.length : Rat) + 1 := by grind
    have e1 : shr1 h q = h - q := by unfold shr1; split <;> grind
    rw [pour_cons, ih, e1]
    show _ = ((qs.length + 1 : Nat) : Rat) * h - (q + sumQ qs)
    rw [e]
    grind
theorem sumQ_filter (p : Rat → Bool) : ∀ qs : List Rat, sumQ qs = sumQ (qs.filter p) + sumQ (qs.filter fun q => !p q)
  | [] => by show (0 : Rat) = 0 + 0; grind
  | q :: qs => by
    have ih := sumQ_filter p qs
    cases hp : p q with
    | true =>
      rw [List.filter_cons_of_pos hp, List.filter_cons_of_neg (by rw [hp]; decide)]
      show q + sumQ qs = (q + _) + _
      rw [ih]
      grind
    | false =>
      rw [List.filter_cons_of_neg (by rw [hp]; decide), List.filter_cons_of_pos (by rw [hp]; decide)]
      show q + sumQ qs = _ + (q + _)
      rw [ih]
      grind
theorem len_filter (p : Rat → Bool) : ∀ qs : List Rat, qs.length = (qs.filter p).length + (qs.filter fun q => !p q).length
  | [] => rfl
  | q :: qs => by
    have ih := len_filter p qs
    cases hp : p q with
    | true =>
      rw [List.filter_cons_of_pos hp, List.filter_cons_of_neg (by rw [hp]; decide), List.length_cons, List.length_cons]
      omega
    | false =>
      rw [List.filter_cons_of_neg (by rw [hp]; decide), List.filter_cons_of_pos (by rw [hp]; decide), List.length_cons, List.length_cons]
      omega
theorem qlen_pos {n : Nat} (h : 0 < n) : (0 : Rat) < ((n : Nat) : Rat) := by
  have : ((0 : Nat) : Rat) < ((n : Nat) : Rat) := Rat.natCast_lt_natCast.mpr h
  exact this
/-- striking what is too high lowers the height -/
theorem hO_lows {qs : List Rat} (h : 0 < qs.length) : hO (lows qs) ≤ hO qs := by
  have hl := lows_pos h
  have e1 := hO_mul h
  have e2 := hO_mul hl
  have es := sumQ_filter (fun q => decide (q < hO qs)) qs
  have el := len_filter (fun q => decide (q < hO qs)) qs
  have hi : ((((qs.filter fun q => !decide (q < hO qs)).length : Nat)) : Rat) * hO qs ≤ sumQ (qs.filter fun q => !decide (q < hO qs)) := sumQ_ge _ fun q hq => by
    have := (List.mem_filter.mp hq).2
    simp only [Bool.not_eq_true', decide_eq_false_iff_not] at this
    exact Rat.not_lt.mp this
  change sumQ qs = sumQ (lows qs) + _ at es
  change qs.length = (lows qs).length + _ at el
  generalize (qs.filter fun q => !decide (q < hO qs)) = ups at es el hi
  have en : ((qs.length : Nat) : Rat) = ((lows qs).length : Rat) + (ups.length : Rat) := by rw [el]; grind
  have hp := qlen_pos hl
  generalize hO (lows qs) = x at *
  generalize hO qs = y at *
  generalize ((lows qs).length : Rat) = a at *
  generalize (ups.length : Rat) = b at *
  rw [en] at e1
  refine Rat.not_lt.mp fun c => ?_
  have : a * y < a * x := (Rat.mul_lt_mul_left hp).mpr c
  grind
theorem hgt_pour : ∀ {m : Nat} {qs : List Rat}, 0 < qs.length → qs.length ≤ m → pour qs (hgt m qs) = 1 ∧ hgt m qs ≤ hO qs
  | 0, qs, h0, hm => by omega
  | m + 1, qs, h0, hm => by
    unfold hgt
    by_cases c : (lows qs).length = qs.length
    · rw [if_pos c]
      have e : lows qs = qs := List.filter_eq_self.mpr fun q hq => by
        have := List.length_filter_eq_length_iff.mp c q hq
        exact this
      have lo : ∀ q ∈ qs, q ≤ hO qs := fun q hq => by
        rw [← e] at hq
        have := of_decide_eq_true (List.mem_filter.mp hq).2
        grind
      rw [pour_low _ _ lo, hO_mul h0]
      exact ⟨by grind, by grind⟩
    · rw [if_neg c]
      have hl : (lows qs).length ≤ qs.length := List.length_filter_le _ _
      obtain ⟨i1, i2⟩ := hgt_pour (m := m) (qs := lows qs) (lows_pos h0) (by omega)
      have h2 := hO_lows h0
      refine ⟨?_, by grind⟩
      rw [← i1]
      refine (pour_filter _ _ qs fun q hq hp => ?_).symm
      have := of_decide_eq_false hp
      grind
theorem height_pour {qs : List Rat} (h : 0 < qs.length) : pour qs (height qs) = 1 := (hgt_pour h (Nat.le_refl _)).1
/-- one height alone pours just one -/
theorem shr1_mono {a b q : Rat} (h : a ≤ b) : shr1 a q ≤ shr1 b q := by
  unfold shr1
  split <;> split <;> grind
theorem pour_mono {a b : Rat} (h : a ≤ b) : ∀ qs : List Rat, pour qs a ≤ pour qs b
  | [] => by show (0 : Rat) ≤ 0; grind
  | q :: qs => by
    have := pour_mono h qs
    have := shr1_mono (q := q) h
    rw [pour_cons, pour_cons]
    grind
theorem pour_strict {a b : Rat} (h : a < b) : ∀ qs : List Rat, 0 < pour qs a → pour qs a < pour qs b
  | [], p => absurd p (by show ¬ (0 : Rat) < 0; grind)
  | q :: qs, p => by
    rw [pour_cons] at p ⊢
    rw [pour_cons]
    by_cases c : q < a
    · have h1 : shr1 a q < shr1 b q := by unfold shr1; split <;> split <;> grind
      have := pour_mono (a := a) (b := b) (by grind) qs
      grind
    · have e : shr1 a q = 0 := by unfold shr1; rw [if_neg c]
      have h1 := shr1_nonneg b q
      have := pour_strict h qs (by rw [e] at p; grind)
      rw [e]
      grind
theorem pour_uniq {qs : List Rat} {a b : Rat} (ha : pour qs a = 1) (hb : pour qs b = 1) : a = b := by
  by_cases c : a < b
  · have := pour_strict c qs (by rw [ha]; grind)
    rw [ha, hb] at this
    grind
  · by_cases d : b < a
    · have := pour_strict d qs (by rw [hb]; grind)
      rw [ha, hb] at this
      grind
    · grind
theorem height_of_pour {qs : List Rat} {a : Rat} (h0 : 0 < qs.length) (h : pour qs a = 1) : height qs = a := pour_uniq (height_pour h0) h
end
end LW
set_option maxRecDepth 100000
set_option maxHeartbeats 4000000
namespace LW
open PySem PySem.Spec PyProof.Rows L2 Nb TL
section
variable {P : Program} {w : World} {K : PySem.W.Frag} {mg : Str → Option Value} {base : Heap}
theorem ifte {c : Prop} {i : Decidable c} {a b : Prop} (h : c → a) (k : ¬c → b) : @ite Prop c i a b := by
  by_cases z : c
  · rw [if_pos z]; exact h z
  · rw [if_neg z]; exact k z
abbrev s__law_part : Stmt := top 64
theorem sc__law_part : FnScope ["store"] ["store"] (defScope s__law_part) := ⟨rfl, rfl, rfl, by decide +kernel, rfl, by decide +kernel, by decide +kernel⟩
def S__law_part : DSp := fun ds Q E => ds = [.sto] ∧ ∀ q, 0 < q → Sz 90 q → Q (fr q)
theorem len__law_part {ds : List D} {Q : D → Prop} {E : Ex → Prop} (h : S__law_part ds Q E) : ds.length = 1 := by rw [h.1]; rfl
theorem ok__law_part (T : Txt P K mg) (h__law_low : Has P w K mg base "_law_low" 2 false S__law_low) (h__law_take : Has P w K mg base "_law_take" 2 false S__law_take) {f : Addr} {fd : FuncData} (F : Fun K "_law_part" "_law_part" s__law_part f fd) : FnOk P w K mg base (L2N.CX P w) 3 f fd ["store"] (spD K mg false S__law_part) := by
  refine fn_ok F sc__law_part (fun ds Qd Ed h => len__law_part h) (fun cdv Ar outer s H E R M ds Qd Ed hr hK hm h0 h => ?_)
  subst hK hm
  refine ⟨_, (gss_cons (gs_if (gt_c (cm_eq (room_units hr)) (ge_call (Has.call h__law_take (hr.mono (by decide)) (L2N.takes_of rfl rfl rfl rfl)) (gl_cons (ge_var (pv 0)) (gl_cons ge_int gl_nil)) h0) ge_int) (gss_one (gs_ret (ge_tup (gl_cons ge_int (gl_cons (ge_ix (ge_lst (gl_cons (ge_pow ge_int ge_int) (gl_cons (ge_pow ge_int ge_int) gl_nil))) (ge_call (Has.call h__law_take (hr.mono (by decide)) (L2N.takes_of rfl rfl rfl rfl)) (gl_cons (ge_var (pv 0)) (gl_cons ge_int gl_nil)) h0)) gl_nil))))) gss_nil)
    (gss_one (gs_ret (ge_call (Has.call h__law_low (hr.mono (by decide)) (L2N.takes_of rfl rfl rfl rfl)) (gl_cons (ge_add ge_int (ge_call (Has.call h__law_take (hr.mono (by decide)) (L2N.takes_of rfl rfl rfl rfl)) (gl_cons (ge_var (pv 0)) (gl_cons ge_int gl_nil)) h0)) (gl_cons (ge_add ge_int (ge_call (Has.call h__law_take (hr.mono (by decide)) (L2N.takes_of rfl rfl rfl rfl)) (gl_cons (ge_var (pv 0)) (gl_cons ge_int gl_nil)) h0)) gl_nil)) h0)))), ?_⟩
  obtain ⟨rfl, hq⟩ := h
  have pos : ∀ a b : Int, 0 < a → 0 < b → 0 < Rat.divInt a b := fun a b h1 h2 => by
    refine Rat.not_le.mp fun z => ?_
    have h3 : 0 ≤ -Rat.divInt a b := by grind
    rw [Rat.neg_divInt, Rat.divInt_nonneg_iff_of_pos_right h2] at h3
    omega
  have g : ∀ b : Int, 0 < b → b.natAbs < 2 ^ 90 → Qd (.tup [.int 1, .int b]) := fun b h0 h1 => by
    rw [fr_lit h0 (by simp)]
    exact hq _ (pos _ _ (by decide) h0) (Sz.divInt (n := 89) (by decide) h1)
  simp only [take_iff, ↓reduceIte, disX, dxf, dcallQ, dcallQF, eqv_strs, sgnD_eq, draise1, fAll, diR1, diR2, diL, diT, diS, dname, dapp, dappPop, dlenO, dixO, dretO, dSl, donone, dosome, dyes, dfv, dm1, fJoin, fIndex, fListF, fSortT, dRev, dIn, dNotIn, difE, fMax, fMin, fStr, fList, dseq, dif, dret, dretN, dretF, dretO, dasg, dasgO, dexpr, dnext, dop, dopF, dk, dvar, dcons, dnil, dlst, dflst, dtup, dIx, dI0, dII, dB0, dtest, dtruth, dand, dor, dnot, dcb, dcbF, dcall, dcallF, dixS, dsetS, dinS, difS, fLen, fInt, fAbs, endD, scD, SOK, dEq, dNe, eqv_int, eqv_str, eqv_bl, beq_iff_eq, decide_eq_true_eq, Bool.not_eq_true, Bool.not_eq_true', true_and, and_true, and_self, false_and, and_false, reduceCtorEq, true_or, or_true, true_implies, if_true, if_false, Bool.false_eq_true, not_false_eq_true, dAdd, dMul, dAddF, List.getElem?_cons_zero, List.getElem?_cons_succ, List.set_cons_zero, List.set_cons_succ, eq_self, draise0, draiseN, ddead, fGcd, fSum, diV, dgtup, dgcons, dgnil, dasgG, dNeg, dmut, dseti, dlenO, dixO, difE, dandV, dorV, dnotV, dchain, dIsN, dNotN, dMul, dAdd, start_def, List.map_cons, List.map_nil, List.length_cons, List.length_nil, List.replicate_succ, List.replicate_zero, List.cons_append, List.nil_append, Nat.reduceAdd, Nat.reduceSub, Nat.reduceLeDiff, Nb.LINE, isi_non_int, isi_non_bool, isi_non_str, isi_non_tuple, isi_non_list, isi_bl_int, isi_bl_bool, isi_bl_str, isi_bl_tuple, isi_bl_list, isi_int_int, isi_int_bool, isi_int_str, isi_int_tuple, isi_int_list, isi_str_int, isi_str_bool, isi_str_str, isi_str_tuple, isi_str_list, isi_tup_int, isi_tup_bool, isi_tup_str, isi_tup_tuple, isi_tup_list, isi_lst_int, isi_lst_bool, isi_lst_str, isi_lst_tuple, isi_lst_list, isi_dct_int, isi_dct_bool, isi_dct_str, isi_dct_tuple, isi_dct_list, ddct0, dint, fTuple, fListF, fList, pow10_iff, Int.reduceLE, Int.reduceLT, Int.reduceToNat]
  refine fun z h1 h2 => ?_
  split
  · refine fun w w1 w2 => ?_
    have hw : w = 0 ∨ w = 1 := by omega
    rcases hw with rfl | rfl
    · exact ⟨_, rfl, g _ (by decide) (by decide)⟩
    · exact ⟨_, rfl, g _ (by decide) (by decide)⟩
  · refine fun x x1 x2 y y1 y2 => ⟨_, _, rfl, by omega, gsml (n := 6) (by show _ < 64; omega) (by omega) (by omega), hq _ (pos _ _ (by omega) (by omega)) ((Sz.divInt (n := 5) (by show _ < 64; omega) (by show _ < 64; omega)).mono (by omega))⟩
abbrev s__law_one_bad : Stmt := top 75
theorem sc__law_one_bad : FnScope ["store", "numbers", "found"] ["store", "numbers"] (defScope s__law_one_bad) := ⟨rfl, rfl, rfl, by decide +kernel, rfl, by decide +kernel, by decide +kernel⟩
def S__law_one_bad : DSp := fun ds Q E => ∃ xs : List D, ds = [.sto, .lst xs] ∧ 0 < xs.length ∧ xs.length ≤ 100000 ∧ ∀ (i : Nat) (x : D), i < xs.length → NoNum x → Q (.lst (xs.set i x))
theorem len__law_one_bad {ds : List D} {Q : D → Prop} {E : Ex → Prop} (h : S__law_one_bad ds Q E) : ds.length = 2 := by obtain ⟨m, h, _⟩ := h; rw [h]; rfl
theorem ok__law_one_bad (T : Txt P K mg) (h__law_edge : Has P w K mg base "_law_edge" 3 false S__law_edge) (h__law_not_number : Has P w K mg base "_law_not_number" 3 false S__law_not_number) {f : Addr} {fd : FuncData} (F : Fun K "_law_one_bad" "_law_one_bad" s__law_one_bad f fd) : FnOk P w K mg base (L2N.CX P w) 4 f fd ["store", "numbers"] (spD K mg true S__law_one_bad) := by
  refine fn_ok F sc__law_one_bad (fun ds Qd Ed h => len__law_one_bad h) (fun cdv Ar outer s H E R M ds Qd Ed hr hK hm h0 h => ?_)
  subst hK hm
  refine ⟨_, (gss_cons (gs_asgO (i := 2) (gf_list (by rfl) T.list (ge_var (pv 1))) sc__law_one_bad.nd rfl (by first | exact Or.inl rfl | exact Or.inr rfl))
    (gss_cons (gs_seti (pv 2) (ge_call (Has.call h__law_edge (hr.mono (by decide)) (L2N.takes_of rfl rfl rfl rfl)) (gl_cons (ge_var (pv 0)) (gl_cons (ge_blt (b_len) (by rfl) T.len PySem.boot_len (gl_cons (ge_var (pv 1)) gl_nil)) gl_nil)) h0) (ge_call (Has.call h__law_not_number (hr.mono (by decide)) (L2N.takes_of rfl rfl rfl rfl)) (gl_cons (ge_var (pv 0)) gl_nil) h0))
    (gss_one (gs_retO (pv 2))))), ?_⟩
  obtain ⟨xs, rfl, h0, h1, hq⟩ := h
  simp only [fListF, ↓reduceIte, disX, dxf, dcallQ, dcallQF, eqv_strs, sgnD_eq, draise1, fAll, diR1, diR2, diL, diT, diS, dname, dapp, dappPop, dlenO, dixO, dretO, dSl, donone, dosome, dyes, dfv, dm1, fJoin, fIndex, fListF, fSortT, dRev, dIn, dNotIn, difE, fMax, fMin, fStr, fList, dseq, dif, dret, dretN, dretF, dretO, dasg, dasgO, dexpr, dnext, dop, dopF, dk, dvar, dcons, dnil, dlst, dflst, dtup, dIx, dI0, dII, dB0, dtest, dtruth, dand, dor, dnot, dcb, dcbF, dcall, dcallF, dixS, dsetS, dinS, difS, fLen, fInt, fAbs, endD, scD, SOK, dEq, dNe, eqv_int, eqv_str, eqv_bl, beq_iff_eq, decide_eq_true_eq, Bool.not_eq_true, Bool.not_eq_true', true_and, and_true, and_self, false_and, and_false, reduceCtorEq, true_or, or_true, true_implies, if_true, if_false, Bool.false_eq_true, not_false_eq_true, dAdd, dMul, dAddF, List.getElem?_cons_zero, List.getElem?_cons_succ, List.set_cons_zero, List.set_cons_succ, eq_self, draise0, draiseN, ddead, fGcd, fSum, diV, dgtup, dgcons, dgnil, dasgG, dNeg, dmut, dseti, dlenO, dixO, difE, dandV, dorV, dnotV, dchain, dIsN, dNotN, dMul, dAdd, start_def, List.map_cons, List.map_nil, List.length_cons, List.length_nil, List.replicate_succ, List.replicate_zero, List.cons_append, List.nil_append, Nat.reduceAdd, Nat.reduceSub, Nat.reduceLeDiff, Nb.LINE, isi_non_int, isi_non_bool, isi_non_str, isi_non_tuple, isi_non_list, isi_bl_int, isi_bl_bool, isi_bl_str, isi_bl_tuple, isi_bl_list, isi_int_int, isi_int_bool, isi_int_str, isi_int_tuple, isi_int_list, isi_str_int, isi_str_bool, isi_str_str, isi_str_tuple, isi_str_list, isi_tup_int, isi_tup_bool, isi_tup_str, isi_tup_tuple, isi_tup_list, isi_lst_int, isi_lst_bool, isi_lst_str, isi_lst_tuple, isi_lst_list, isi_dct_int, isi_dct_bool, isi_dct_str, isi_dct_tuple, isi_dct_list, ddct0, dint, fTuple, fListF, fList, pow10_iff, Int.reduceLE, Int.reduceLT, Int.reduceToNat]
  refine ⟨rfl, fun x hx => ?_⟩
  refine ⟨_, rfl, by omega, fun z z1 z2 => ⟨z, rfl, z.toNat, ?_, ?_⟩⟩
  · have ez : z = ((z.toNat : Nat) : Int) := by omega
    rw [ez]
    exact ixn_nat (by omega)
  · exact hq z.toNat x (by omega) hx
abbrev s__law_is_value : Stmt := top 70
theorem sc__law_is_value : FnScope ["actual"] ["actual"] (defScope s__law_is_value) := ⟨rfl, rfl, rfl, by decide +kernel, rfl, by decide +kernel, by decide +kernel⟩
def S__law_is_value : DSp := fun ds Q E => ∃ x : Rat, ds = [fr x] ∧ Q (.bl true)
theorem len__law_is_value {ds : List D} {Q : D → Prop} {E : Ex → Prop} (h : S__law_is_value ds Q E) : ds.length = 1 := by obtain ⟨m, h, _⟩ := h; rw [h]; rfl
theorem ok__law_is_value (T : Txt P K mg) (h__law_gcd : Has P w K mg base "_law_gcd" 1 false S__law_gcd) (h__law_is_whole : Has P w K mg base "_law_is_whole" 1 false S__law_is_whole) {f : Addr} {fd : FuncData} (F : Fun K "_law_is_value" "_law_is_value" s__law_is_value f fd) : FnOk P w K mg base (L2N.CX P w) 2 f fd ["actual"] (spD K mg false S__law_is_value) := by
  refine fn_ok F sc__law_is_value (fun ds Qd Ed h => len__law_is_value h) (fun cdv Ar outer s H E R M ds Qd Ed hr hK hm h0 h => ?_)
  subst hK hm
  refine ⟨_, (gss_cons (gs_if (GW.t (gw_or (gt_not (gt_val (ge_blt (b_isi) (by rfl) T.isinstance PyProof.Rows.boot_isinstance (gl_cons (ge_var (pv 0)) (gl_cons (ge_tyc (n := "tuple") (by rfl) T.tuple) gl_nil))))) (gw_or1 (gt_c (cm_ne (room_units hr)) (ge_blt (b_len) (by rfl) T.len PySem.boot_len (gl_cons (ge_var (pv 0)) gl_nil)) ge_int)))) (gss_one (gs_ret ge_bl)) gss_nil)
    (gss_cons (gs_if (GW.t (gw_or (gt_not (gt_val (ge_call (Has.call h__law_is_whole (hr.mono (by decide)) (L2N.takes_of rfl rfl rfl rfl)) (gl_cons (ge_ix (ge_var (pv 0)) ge_int) gl_nil) h0))) (gw_or1 (gt_not (gt_val (ge_call (Has.call h__law_is_whole (hr.mono (by decide)) (L2N.takes_of rfl rfl rfl rfl)) (gl_cons (ge_ix (ge_var (pv 0)) ge_int) gl_nil) h0)))))) (gss_one (gs_ret ge_bl)) gss_nil)
    (gss_one (gs_ret (ge_and (ge_c cm_gt (ge_ix (ge_var (pv 0)) ge_int) ge_int) (ge_one (ge_c (cm_eq (room_units hr)) (ge_call (Has.call h__law_gcd (hr.mono (by decide)) (L2N.takes_of rfl rfl rfl rfl)) (gl_cons (ge_ix (ge_var (pv 0)) ge_int) (gl_cons (ge_ix (ge_var (pv 0)) ge_int) gl_nil)) h0) ge_int))))))), ?_⟩
  obtain ⟨x, rfl, hq⟩ := h
  have dp := x.den_pos
  simp only [fr_eq, at0, at1, Option.some.injEq, exists_eq_left', ↓reduceIte, disX, dxf, dcallQ, dcallQF, eqv_strs, sgnD_eq, draise1, fAll, diR1, diR2, diL, diT, diS, dname, dapp, dappPop, dlenO, dixO, dretO, dSl, donone, dosome, dyes, dfv, dm1, fJoin, fIndex, fListF, fSortT, dRev, dIn, dNotIn, difE, fMax, fMin, fStr, fList, dseq, dif, dret, dretN, dretF, dretO, dasg, dasgO, dexpr, dnext, dop, dopF, dk, dvar, dcons, dnil, dlst, dflst, dtup, dIx, dI0, dII, dB0, dtest, dtruth, dand, dor, dnot, dcb, dcbF, dcall, dcallF, dixS, dsetS, dinS, difS, fLen, fInt, fAbs, endD, scD, SOK, dEq, dNe, eqv_int, eqv_str, eqv_bl, beq_iff_eq, decide_eq_true_eq, Bool.not_eq_true, Bool.not_eq_true', true_and, and_true, and_self, false_and, and_false, reduceCtorEq, true_or, or_true, true_implies, if_true, if_false, Bool.false_eq_true, not_false_eq_true, dAdd, dMul, dAddF, List.getElem?_cons_zero, List.getElem?_cons_succ, List.set_cons_zero, List.set_cons_succ, eq_self, draise0, draiseN, ddead, fGcd, fSum, diV, dgtup, dgcons, dgnil, dasgG, dNeg, dmut, dseti, dlenO, dixO, difE, dandV, dorV, dnotV, dchain, dIsN, dNotN, dMul, dAdd, start_def, List.map_cons, List.map_nil, List.length_cons, List.length_nil, List.replicate_succ, List.replicate_zero, List.cons_append, List.nil_append, Nat.reduceAdd, Nat.reduceSub, Nat.reduceLeDiff, Nb.LINE, isi_non_int, isi_non_bool, isi_non_str, isi_non_tuple, isi_non_list, isi_bl_int, isi_bl_bool, isi_bl_str, isi_bl_tuple, isi_bl_list, isi_int_int, isi_int_bool, isi_int_str, isi_int_tuple, isi_int_list, isi_str_int, isi_str_bool, isi_str_str, isi_str_tuple, isi_str_list, isi_tup_int, isi_tup_bool, isi_tup_str, isi_tup_tuple, isi_tup_list, isi_lst_int, isi_lst_bool, isi_lst_str, isi_lst_tuple, isi_lst_list, isi_dct_int, isi_dct_bool, isi_dct_str, isi_dct_tuple, isi_dct_list, ddct0, dint, fTuple, fListF, fList, pow10_iff, Int.reduceLE, Int.reduceLT, Int.reduceToNat]
  refine ifn (by decide) ⟨_, _, rfl, rfl, ifn (show ¬ true = false by decide) ⟨_, _, rfl, rfl, ifn (show ¬ true = false by decide) (ifp (by omega) ⟨_, _, rfl, .inl rfl, ?_⟩)⟩⟩
  have g : Nat.gcd x.num.natAbs (x.den : Int).natAbs = 1 := by rw [Int.natAbs_natCast]; exact x.reduced
  rw [g]
  exact hq
def cntE (xs : List D) : Ex := ("BadCount", [("high", .int 5), ("low", .int 1), ("found", .int ((xs.length : Nat) : Int))])
def AskN (xs : List D) (T : List Rat → Prop) (B C : Prop) : Prop := xs.length ≤ 1000000 ∧ (∀ x ∈ xs, ChkOk x) ∧ (1 ≤ xs.length → xs.length ≤ 5 → ∀ qs : List Rat, xs.map numD = qs.map some → (∀ q ∈ qs, Sz 1000 q) ∧ T qs) ∧ (1 ≤ xs.length → xs.length ≤ 5 → (∃ x ∈ xs, numD x = none) → B) ∧ (xs.length < 1 ∨ 5 < xs.length → C)
theorem AskN.nums {n : Nat} {ys : List D} {qs : List Rat} {T : List Rat → Prop} {B C : Prop} (h : Nums n ys qs) (hn : n ≤ 8999) (h0 : 0 < qs.length) (h5 : qs.length ≤ 5) (hs : ∀ q ∈ qs, Sz 1000 q) (t : T qs) : AskN ys T B C := by
  refine ⟨by rw [h.1]; omega, h.chk hn, fun _ _ qs' e => ?_, fun _ _ ⟨x, hx, hn⟩ => ?_, fun z => by rw [h.1] at z; omega⟩
  · rw [numD_inj e h.map]
    exact ⟨hs, t⟩
  · have hm : numD x ∈ ys.map numD := List.mem_map.mpr ⟨x, hx, rfl⟩
    rw [h.map, hn] at hm
    obtain ⟨q, _, e⟩ := List.mem_map.mp hm
    cases e
def intsD (o : List Nat) : List D := o.map fun i => .int ((i : Nat) : Int)
theorem intsD_len (o : List Nat) : (intsD o).length = o.length := List.length_map ..
abbrev s__law_shuffled : Stmt := top 53
theorem sc__law_shuffled : FnScope ["store", "things", "rest", "found", "k"] ["store", "things"] (defScope s__law_shuffled) := ⟨rfl, rfl, rfl, by decide +kernel, rfl, by decide +kernel, by decide +kernel⟩
def S__law_shuffled : DSp := fun ds Q E => ∃ o : List Nat, ds = [.sto, .lst (intsD o)] ∧ o.length ≤ 1000 ∧ ∀ p : List Nat, p.Perm o → Q (.lst (intsD p))
theorem len__law_shuffled {ds : List D} {Q : D → Prop} {E : Ex → Prop} (h : S__law_shuffled ds Q E) : ds.length = 2 := by obtain ⟨m, h, _⟩ := h; rw [h]; rfl
theorem ok__law_shuffled (T : Txt P K mg) (h__law_take : Has P w K mg base "_law_take" 2 false S__law_take) {f : Addr} {fd : FuncData} (F : Fun K "_law_shuffled" "_law_shuffled" s__law_shuffled f fd) : FnOk P w K mg base (L2N.CX P w) 3 f fd ["store", "things"] (spD K mg true S__law_shuffled) := by
  refine fn_ok F sc__law_shuffled (fun ds Qd Ed h => len__law_shuffled h) (fun cdv Ar outer s H E R M ds Qd Ed hr hK hm h0 h => ?_)
  subst hK hm
  refine ⟨_, (gss_cons (gs_asgO (i := 2) (gf_list (by rfl) T.list (ge_var (pv 1))) sc__law_shuffled.nd rfl (by first | exact Or.inl rfl | exact Or.inr rfl))
    (gss_cons (gs_asgO (i := 3) (gf_lst gl_nil) sc__law_shuffled.nd rfl (by first | exact Or.inl rfl | exact Or.inr rfl))
    (gss_cons (gs_for (passes_of rfl) (by rfl) (gi_rng1 (by rfl) T.range (gl_cons (ge_blt (b_len) (by rfl) T.len PySem.boot_len (gl_cons (ge_var (pv 1)) gl_nil)) gl_nil)) (gg_name (i := 4) sc__law_shuffled.nd rfl (by first | exact Or.inl rfl | exact Or.inr rfl)) (gss_one (gs_appPop (by decide) (pv 3) (pv 2) (ge_call (Has.call h__law_take (hr.mono (by decide)) (L2N.takes_of rfl rfl rfl rfl)) (gl_cons (ge_var (pv 0)) (gl_cons (ge_lenO (pv 2) (by rfl) T.len) gl_nil)) h0))))
    (gss_one (gs_retO (pv 3)))))), ?_⟩
  obtain ⟨o, rfl, ho, hq⟩ := h
  have hL : (LINE : Nat) = 16777216 := rfl
  refine ⟨by show 0 ≤ 16777216; decide, ?_⟩
  refine for_r1 (n := ((o.length : Nat) : Int)) (fun i env => ∃ (r f : List Nat) (x : SD), env = [.val .sto, .val (.lst (intsD o)), .own (intsD r), .own (intsD f), x] ∧ (f ++ r).Perm o ∧ f.length = i) (fun Q' E' h => by rw [← intsD_len o] at h; exact h) (by omega) (by omega) ⟨o, [], .un, rfl, .refl _, rfl⟩ ?_ ?_
  · rintro i env' hi ⟨r, f, x, rfl, hp, hl⟩
    have hlen := hp.length_eq
    rw [List.length_append] at hlen
    refine ⟨_, rfl, by rw [intsD_len]; omega, fun z z1 z2 => ?_⟩
    rw [intsD_len] at z2
    have hk : z.toNat < r.length := by omega
    have ez : ((z.toNat : Nat) : Int) = z := by omega
    have hs := (ixN_seq (ixn_nat (n := (intsD r).length) (k := z.toNat) (by rw [intsD_len]; exact hk))).1
    rw [ez] at hs
    have eg : (intsD r)[z.toNat]? = some (.int ((r[z.toNat] : Nat) : Int)) := by
      unfold intsD
      rw [List.getElem?_map, List.getElem?_eq_getElem hk]
      rfl
    have ee : (intsD r).eraseIdx z.toNat = intsD (r.eraseIdx z.toNat) := by
      unfold intsD
      rw [List.eraseIdx_eq_take_drop_succ, List.eraseIdx_eq_take_drop_succ, List.map_append, List.map_take, List.map_drop]
    have ea : intsD f ++ [.int ((r[z.toNat] : Nat) : Int)] = intsD (f ++ [r[z.toNat]]) := by
      unfold intsD
      rw [List.map_append]
      rfl
    refine ⟨by omega, by omega, z.toNat, _, hs, eg, by rw [intsD_len]; omega, r.eraseIdx z.toNat, f ++ [r[z.toNat]], .val (.int ((i : Nat) : Int)), ?_, ?_, by rw [List.length_append, hl]; rfl⟩
    · rw [ee, ea]
      rfl
    · rw [List.append_assoc]
      exact ((perm_erase hk).append_left f).trans hp
  · rintro env' ⟨r, f, x, rfl, hp, hl⟩
    have hlen := hp.length_eq
    rw [List.length_append] at hlen
    have : r = [] := List.eq_nil_of_length_eq_zero (by omega)
    rw [this, List.append_nil] at hp
    exact hq f hp
/-- numbers whose sums so far stay small -/
def SumOk (qs : List Rat) : Prop := (∀ q ∈ qs, Sz 4000 q) ∧ ∀ i, Sz 4000 (sumQ (qs.take i))
theorem SumOk.of {qs : List Rat} {n : Nat} (hs : ∀ q ∈ qs, Sz n q) (hn : (n + 2) * (qs.length + 1) ≤ 4000) : SumOk qs := by
  refine ⟨fun q hq => (hs q hq).mono ?_, fun i => (Sz.sum (n := n) fun q hq => hs q (List.mem_of_mem_take hq)).mono (Nat.le_trans (Nat.mul_le_mul_left _ (by rw [List.length_take]; omega)) hn)⟩
  rw [Nat.mul_add] at hn
  omega
abbrev s__law_sum : Stmt := top 61
theorem sc__law_sum : FnScope ["values", "found", "value"] ["values"] (defScope s__law_sum) := ⟨rfl, rfl, rfl, by decide +kernel, rfl, by decide +kernel, by decide +kernel⟩
def S__law_sum : DSp := fun ds Q E => ∃ (d : D) (qs : List Rat), ds = [d] ∧ (d = .lst (qs.map fr) ∨ d = .tup (qs.map fr)) ∧ SumOk qs ∧ Q (fr (sumQ qs))
theorem len__law_sum {ds : List D} {Q : D → Prop} {E : Ex → Prop} (h : S__law_sum ds Q E) : ds.length = 1 := by obtain ⟨m, t, h, _⟩ := h; rw [h]; rfl
theorem ok__law_sum (T : Txt P K mg) (h__law_plus : Has P w K mg base "_law_plus" 3 false S__law_plus) {f : Addr} {fd : FuncData} (F : Fun K "_law_sum" "_law_sum" s__law_sum f fd) : FnOk P w K mg base (L2N.CX P w) 4 f fd ["values"] (spD K mg false S__law_sum) := by
  refine fn_ok F sc__law_sum (fun ds Qd Ed h => len__law_sum h) (fun cdv Ar outer s H E R M ds Qd Ed hr hK hm h0 h => ?_)
  subst hK hm
  refine ⟨_, (gss_cons (gs_asg (i := 1) (ge_tup (gl_cons ge_int (gl_cons ge_int gl_nil))) sc__law_sum.nd rfl (by first | exact Or.inl rfl | exact Or.inr rfl))
    (gss_cons (gs_for (passes_of rfl) (by rfl) (gi_V (pv 0)) (gg_name (i := 2) sc__law_sum.nd rfl (by first | exact Or.inl rfl | exact Or.inr rfl)) (gss_one (gs_asg (i := 1) (ge_call (Has.call h__law_plus (hr.mono (by decide)) (L2N.takes_of rfl rfl rfl rfl)) (gl_cons (ge_var (pv 1)) (gl_cons (ge_var (pv 2)) gl_nil)) h0) sc__law_sum.nd rfl (by first | exact Or.inl rfl | exact Or.inr rfl))))
    (gss_one (gs_ret (ge_var (pv 1)))))), ?_⟩
  obtain ⟨d, qs, rfl, hd, hs, hq⟩ := h
  simp only [↓reduceIte, disX, dxf, dcallQ, dcallQF, eqv_strs, sgnD_eq, draise1, fAll, diR1, diR2, diL, diT, diS, dname, dapp, dappPop, dlenO, dixO, dretO, dSl, donone, dosome, dyes, dfv, dm1, fJoin, fIndex, fListF, fSortT, dRev, dIn, dNotIn, difE, fMax, fMin, fStr, fList, dseq, dif, dret, dretN, dretF, dretO, dasg, dasgO, dexpr, dnext, dop, dopF, dk, dvar, dcons, dnil, dlst, dflst, dtup, dIx, dI0, dII, dB0, dtest, dtruth, dand, dor, dnot, dcb, dcbF, dcall, dcallF, dixS, dsetS, dinS, difS, fLen, fInt, fAbs, endD, scD, SOK, dEq, dNe, eqv_int, eqv_str, eqv_bl, beq_iff_eq, decide_eq_true_eq, Bool.not_eq_true, Bool.not_eq_true', true_and, and_true, and_self, false_and, and_false, reduceCtorEq, true_or, or_true, true_implies, if_true, if_false, Bool.false_eq_true, not_false_eq_true, dAdd, dMul, dAddF, List.getElem?_cons_zero, List.getElem?_cons_succ, List.set_cons_zero, List.set_cons_succ, eq_self, draise0, draiseN, ddead, fGcd, fSum, diV, dgtup, dgcons, dgnil, dasgG, dNeg, dmut, dseti, dlenO, dixO, difE, dandV, dorV, dnotV, dchain, dIsN, dNotN, dMul, dAdd, start_def, List.map_cons, List.map_nil, List.length_cons, List.length_nil, List.replicate_succ, List.replicate_zero, List.cons_append, List.nil_append, Nat.reduceAdd, Nat.reduceSub, Nat.reduceLeDiff, Nb.LINE, isi_non_int, isi_non_bool, isi_non_str, isi_non_tuple, isi_non_list, isi_bl_int, isi_bl_bool, isi_bl_str, isi_bl_tuple, isi_bl_list, isi_int_int, isi_int_bool, isi_int_str, isi_int_tuple, isi_int_list, isi_str_int, isi_str_bool, isi_str_str, isi_str_tuple, isi_str_list, isi_tup_int, isi_tup_bool, isi_tup_str, isi_tup_tuple, isi_tup_list, isi_lst_int, isi_lst_bool, isi_lst_str, isi_lst_tuple, isi_lst_list, isi_dct_int, isi_dct_bool, isi_dct_str, isi_dct_tuple, isi_dct_list, ddct0, dint, fTuple, fListF, fList, pow10_iff, Int.reduceLE, Int.reduceLT, Int.reduceToNat]
  refine for_l (ds := qs.map fr) (fun i env => ∃ x, env = [.val d, .val (fr (sumQ (qs.take i))), x]) (diV_hg hd) ⟨_, rfl⟩ ?_ ?_
  · rintro i x env' ex ⟨y, rfl⟩
    rw [List.getElem?_map] at ex
    obtain ⟨q, hq1, rfl⟩ := Option.map_eq_some_iff.mp ex
    have hm : q ∈ qs := List.mem_of_getElem? hq1
    refine ⟨_, _, 4000, rfl, hs.2 i, hs.1 q hm, by omega, SD.val (fr q), ?_⟩
    rw [List.take_add_one, hq1]
    show _ = [_, SD.val (fr (sumQ (qs.take i ++ [q]))), _]
    rw [sumQ_app]
    rfl
  · rintro env' ⟨y, rfl⟩
    rw [List.length_map, List.take_length]
    exact hq
theorem frs_ins (ys : List Rat) (y : Rat) (k : Nat) : (ys.map fr).take k ++ [fr y] ++ (ys.map fr).drop k = (ys.take k ++ [y] ++ ys.drop k).map fr := by
  rw [List.map_append, List.map_append, List.map_take, List.map_drop]
  rfl
abbrev s__law_sorted : Stmt := top 62
theorem sc__law_sorted : FnScope ["values", "found", "value", "at"] ["values"] (defScope s__law_sorted) := ⟨rfl, rfl, rfl, by decide +kernel, rfl, by decide +kernel, by decide +kernel⟩
def S__law_sorted : DSp := fun ds Q E => ∃ (qs : List Rat) (n : Nat), ds = [.lst (qs.map fr)] ∧ (∀ q ∈ qs, Sz n q) ∧ qs.length ≤ 1000 ∧ n ≤ 4000 ∧ ∀ ys : List Rat, ys.length = qs.length → (∀ y ∈ ys, y ∈ qs) → Q (.lst (ys.map fr))
theorem len__law_sorted {ds : List D} {Q : D → Prop} {E : Ex → Prop} (h : S__law_sorted ds Q E) : ds.length = 1 := by obtain ⟨m, t, h, _⟩ := h; rw [h]; rfl
theorem ok__law_sorted (T : Txt P K mg) (h__law_below : Has P w K mg base "_law_below" 1 false S__law_below) {f : Addr} {fd : FuncData} (F : Fun K "_law_sorted" "_law_sorted" s__law_sorted f fd) : FnOk P w K mg base (L2N.CX P w) 2 f fd ["values"] (spD K mg true S__law_sorted) := by
  refine fn_ok F sc__law_sorted (fun ds Qd Ed h => len__law_sorted h) (fun cdv Ar outer s H E R M ds Qd Ed hr hK hm h0 h => ?_)
  subst hK hm
  refine ⟨_, (gss_cons (gs_asgO (i := 1) (gf_lst gl_nil) sc__law_sorted.nd rfl (by first | exact Or.inl rfl | exact Or.inr rfl))
    (gss_cons (gs_for (passes_of rfl) (by rfl) (gi_list (ge_var (pv 0))) (gg_name (i := 2) sc__law_sorted.nd rfl (by first | exact Or.inl rfl | exact Or.inr rfl)) (gss_cons (gs_asg (i := 3) (ge_lenO (pv 1) (by rfl) T.len) sc__law_sorted.nd rfl (by first | exact Or.inl rfl | exact Or.inr rfl))
    (gss_cons (gs_while (passes_of rfl) (GW.t (gw_and (gt_c cm_gt (ge_var (pv 3)) ge_int) (gw_and1 (gt_val (ge_call (Has.call h__law_below (hr.mono (by decide)) (L2N.takes_of rfl rfl rfl rfl)) (gl_cons (ge_var (pv 2)) (gl_cons (ge_ixO (pv 1) (ge_subI (ge_var (pv 3)) ge_int)) gl_nil)) h0))))) (gss_one (gs_asg (i := 3) (ge_subI (ge_var (pv 3)) ge_int) sc__law_sorted.nd rfl (by first | exact Or.inl rfl | exact Or.inr rfl))))
    (gss_one (gs_ins (pv 1) (ge_var (pv 3)) (ge_var (pv 2)))))))
    (gss_one (gs_retO (pv 1))))), ?_⟩
  obtain ⟨qs, n, rfl, hs, hl, hn, hq⟩ := h
  have hL : (LINE : Nat) = 16777216 := rfl
  refine ⟨by show 0 ≤ 16777216; decide, ?_⟩
  refine for_l (ds := qs.map fr) (fun i env => ∃ (ys : List Rat) (x y : SD), env = [.val (.lst (qs.map fr)), .own (ys.map fr), x, y] ∧ ys.length = i ∧ ∀ y ∈ ys, y ∈ qs) (by exact fun _ _ h => h) ⟨[], .un, .un, rfl, rfl, fun q h => by cases h⟩ ?_ ?_
  · rintro i d env' ex ⟨ys, x, y, rfl, yl, hy⟩
    rw [List.getElem?_map] at ex
    obtain ⟨q, hq1, rfl⟩ := Option.map_eq_some_iff.mp ex
    have hqm : q ∈ qs := List.mem_of_getElem? hq1
    have hlt := (List.getElem?_eq_some_iff.mp hq1).1
    unfold dwhile
    refine ⟨fun m env => ∃ (k : Nat), env = [.val (.lst (qs.map fr)), .own (ys.map fr), .val (fr q), .val (.int ((k : Nat) : Int))] ∧ k ≤ ys.length ∧ m = k, ⟨ys.length, ys.length, ?_, Nat.le_refl _, rfl⟩, ?_⟩
    · rw [show (((ys.map fr).length : Nat) : Int) = ((ys.length : Nat) : Int) by rw [List.length_map]]
      rfl
    · rintro m env' ⟨k, rfl, hk, rfl⟩
      have fin : (dins 1 (dvar 3) (dvar 2)) { nx := fun env => ∃ (ys : List Rat) (x y : SD), env = [SD.val (D.lst (List.map fr qs)), SD.own (List.map fr ys), x, y] ∧ ys.length = i + 1 ∧ ∀ (y : Rat), y ∈ ys → y ∈ qs, rt := fun d x => Qd d, bk := fun _ => False, ct := fun _ => False, ex := fun x _ => Ed x } [.val (.lst (qs.map fr)), .own (ys.map fr), .val (fr q), .val (.int ((m : Nat) : Int))] := by
        refine ⟨by rw [List.length_map]; omega, ((m : Nat) : Int), rfl, by omega, by omega, ys.take m ++ [q] ++ ys.drop m, .val (fr q), .val (.int ((m : Nat) : Int)), ?_, ?_, fun y h => ?_⟩
        · rw [show (((m : Nat) : Int)).toNat = m from rfl, frs_ins]
          rfl
        · rw [List.length_append, List.length_append, List.length_take, List.length_drop]
          show min m ys.length + 1 + (ys.length - m) = i + 1
          omega
        · rcases List.mem_append.mp h with h | h
          · rcases List.mem_append.mp h with h | h
            · exact hy y (List.mem_of_mem_take h)
            · rw [List.mem_singleton.mp h]
              exact hqm
          · exact hy y (List.mem_of_mem_drop h)
      show if decide (((m : Nat) : Int) > 0) = true then _ else _
      by_cases c : 0 < m
      · refine ifp (decide_eq_true (by omega)) ?_
        have hm1 : m - 1 < ys.length := by omega
        have az : L2.atI (ys.map fr) (((m : Nat) : Int) - 1) = some (fr ys[m - 1]) := by
          have := atI_nat (l := ys.map fr) (k := m - 1) (by rw [List.length_map]; exact hm1)
          rw [show ((m - 1 : Nat) : Int) = ((m : Nat) : Int) - 1 by omega, List.getElem_map] at this
          exact this
        refine ⟨_, az, q, ys[m - 1], n, rfl, hs q hqm, hs _ (hy _ (List.getElem_mem hm1)), hn, ?_⟩
        by_cases c2 : q < ys[m - 1]
        · refine ifp (decide_eq_true c2) ⟨m - 1, by omega, m - 1, ?_, by omega, rfl⟩
          rw [show ((m - 1 : Nat) : Int) = ((m : Nat) : Int) - 1 by omega]
          rfl
        · exact ifn (fun z => c2 (of_decide_eq_true z)) fin
      · exact ifn (fun z => by have := of_decide_eq_true z; omega) fin
  · rintro env' ⟨ys, x, y, rfl, yl, hy⟩
    rw [List.length_map] at yl
    exact hq ys yl hy
abbrev s__law_are_values : Stmt := top 71
theorem sc__law_are_values : FnScope ["actual", "many", "as_list", "value"] ["actual", "many", "as_list"] (defScope s__law_are_values) := ⟨rfl, rfl, rfl, by decide +kernel, rfl, by decide +kernel, by decide +kernel⟩
def S__law_are_values : DSp := fun ds Q E => ∃ qs : List Rat, ds = [.tup (qs.map fr), .int ((qs.length : Nat) : Int), .bl false] ∧ Q (.bl true)
theorem len__law_are_values {ds : List D} {Q : D → Prop} {E : Ex → Prop} (h : S__law_are_values ds Q E) : ds.length = 3 := by obtain ⟨m, h, _⟩ := h; rw [h]; rfl
theorem ok__law_are_values (T : Txt P K mg) (h__law_is_value : Has P w K mg base "_law_is_value" 2 false S__law_is_value) {f : Addr} {fd : FuncData} (F : Fun K "_law_are_values" "_law_are_values" s__law_are_values f fd) : FnOk P w K mg base (L2N.CX P w) 3 f fd ["actual", "many", "as_list"] (spD K mg false S__law_are_values) := by
  refine fn_ok F sc__law_are_values (fun ds Qd Ed h => len__law_are_values h) (fun cdv Ar outer s H E R M ds Qd Ed hr hK hm h0 h => ?_)
  subst hK hm
  refine ⟨_, (gss_cons (gs_if (GW.t (gw_and (gt_val (ge_var (pv 2))) (gw_and1 (gt_not (gt_val (ge_blt (b_isi) (by rfl) T.isinstance PyProof.Rows.boot_isinstance (gl_cons (ge_var (pv 0)) (gl_cons (ge_tyc (n := "list") (by rfl) T.list) gl_nil)))))))) (gss_one (gs_ret ge_bl)) gss_nil)
    (gss_cons (gs_if (GW.t (gw_and (gt_not (gt_val (ge_var (pv 2)))) (gw_and1 (gt_not (gt_val (ge_blt (b_isi) (by rfl) T.isinstance PyProof.Rows.boot_isinstance (gl_cons (ge_var (pv 0)) (gl_cons (ge_tyc (n := "tuple") (by rfl) T.tuple) gl_nil)))))))) (gss_one (gs_ret ge_bl)) gss_nil)
    (gss_cons (gs_if (gt_c (cm_ne (room_units hr)) (ge_blt (b_len) (by rfl) T.len PySem.boot_len (gl_cons (ge_var (pv 0)) gl_nil)) (ge_var (pv 1))) (gss_one (gs_ret ge_bl)) gss_nil)
    (gss_cons (gs_for (passes_of rfl) (by rfl) (gi_V (pv 0)) (gg_name (i := 3) sc__law_are_values.nd rfl (by first | exact Or.inl rfl | exact Or.inr rfl)) (gss_one (gs_if (gt_not (gt_val (ge_call (Has.call h__law_is_value (hr.mono (by decide)) (L2N.takes_of rfl rfl rfl rfl)) (gl_cons (ge_var (pv 3)) gl_nil) h0))) (gss_one (gs_ret ge_bl)) gss_nil)))
    (gss_one (gs_ret ge_bl)))))), ?_⟩
  obtain ⟨qs, rfl, hq⟩ := h
  simp only [List.length_map, beq_self_eq_true, ↓reduceIte, disX, dxf, dcallQ, dcallQF, eqv_strs, sgnD_eq, draise1, fAll, diR1, diR2, diL, diT, diS, dname, dapp, dappPop, dlenO, dixO, dretO, dSl, donone, dosome, dyes, dfv, dm1, fJoin, fIndex, fListF, fSortT, dRev, dIn, dNotIn, difE, fMax, fMin, fStr, fList, dseq, dif, dret, dretN, dretF, dretO, dasg, dasgO, dexpr, dnext, dop, dopF, dk, dvar, dcons, dnil, dlst, dflst, dtup, dIx, dI0, dII, dB0, dtest, dtruth, dand, dor, dnot, dcb, dcbF, dcall, dcallF, dixS, dsetS, dinS, difS, fLen, fInt, fAbs, endD, scD, SOK, dEq, dNe, eqv_int, eqv_str, eqv_bl, beq_iff_eq, decide_eq_true_eq, Bool.not_eq_true, Bool.not_eq_true', true_and, and_true, and_self, false_and, and_false, reduceCtorEq, true_or, or_true, true_implies, if_true, if_false, Bool.false_eq_true, not_false_eq_true, dAdd, dMul, dAddF, List.getElem?_cons_zero, List.getElem?_cons_succ, List.set_cons_zero, List.set_cons_succ, eq_self, draise0, draiseN, ddead, fGcd, fSum, diV, dgtup, dgcons, dgnil, dasgG, dNeg, dmut, dseti, dlenO, dixO, difE, dandV, dorV, dnotV, dchain, dIsN, dNotN, dMul, dAdd, start_def, List.map_cons, List.map_nil, List.length_cons, List.length_nil, List.replicate_succ, List.replicate_zero, List.cons_append, List.nil_append, Nat.reduceAdd, Nat.reduceSub, Nat.reduceLeDiff, Nb.LINE, isi_non_int, isi_non_bool, isi_non_str, isi_non_tuple, isi_non_list, isi_bl_int, isi_bl_bool, isi_bl_str, isi_bl_tuple, isi_bl_list, isi_int_int, isi_int_bool, isi_int_str, isi_int_tuple, isi_int_list, isi_str_int, isi_str_bool, isi_str_str, isi_str_tuple, isi_str_list, isi_tup_int, isi_tup_bool, isi_tup_str, isi_tup_tuple, isi_tup_list, isi_lst_int, isi_lst_bool, isi_lst_str, isi_lst_tuple, isi_lst_list, isi_dct_int, isi_dct_bool, isi_dct_str, isi_dct_tuple, isi_dct_list, ddct0, dint, fTuple, fListF, fList, pow10_iff, Int.reduceLE, Int.reduceLT, Int.reduceToNat]
  refine for_l (ds := qs.map fr) (fun i env => ∃ x, env = [.val (.tup (qs.map fr)), .val (.int ((qs.length : Nat) : Int)), .val (.bl false), x]) (by exact fun _ _ h => h) ⟨.un, rfl⟩ ?_ ?_
  · rintro i d env' ex ⟨x, rfl⟩
    rw [List.getElem?_map] at ex
    obtain ⟨q, hq1, rfl⟩ := Option.map_eq_some_iff.mp ex
    exact ⟨q, rfl, ifn (c := false = true) (by decide) ⟨_, rfl⟩⟩
  · rintro env' ⟨x, rfl⟩
    exact hq
abbrev s__law_is_sharing : Stmt := top 72
theorem sc__law_is_sharing : FnScope ["actual", "width", "value"] ["actual", "width"] (defScope s__law_is_sharing) := ⟨rfl, rfl, rfl, by decide +kernel, rfl, by decide +kernel, by decide +kernel⟩
def S__law_is_sharing : DSp := fun ds Q E => ∃ (qs : List Rat), ds = [.tup (qs.map fr), .int ((qs.length : Nat) : Int)] ∧ SumOk qs ∧ (∀ q ∈ qs, 0 ≤ q) ∧ sumQ qs = 1 ∧ Q (.bl true)
theorem len__law_is_sharing {ds : List D} {Q : D → Prop} {E : Ex → Prop} (h : S__law_is_sharing ds Q E) : ds.length = 2 := by obtain ⟨m, h, _⟩ := h; rw [h]; rfl
theorem ok__law_is_sharing (T : Txt P K mg) (h__law_are_values : Has P w K mg base "_law_are_values" 3 false S__law_are_values) (h__law_sum : Has P w K mg base "_law_sum" 4 false S__law_sum) {f : Addr} {fd : FuncData} (F : Fun K "_law_is_sharing" "_law_is_sharing" s__law_is_sharing f fd) : FnOk P w K mg base (L2N.CX P w) 5 f fd ["actual", "width"] (spD K mg false S__law_is_sharing) := by
  refine fn_ok F sc__law_is_sharing (fun ds Qd Ed h => len__law_is_sharing h) (fun cdv Ar outer s H E R M ds Qd Ed hr hK hm h0 h => ?_)
  subst hK hm
  refine ⟨_, (gss_cons (gs_if (gt_not (gt_val (ge_call (Has.call h__law_are_values (hr.mono (by decide)) (L2N.takes_of rfl rfl rfl rfl)) (gl_cons (ge_var (pv 0)) (gl_cons (ge_var (pv 1)) (gl_cons ge_bl gl_nil))) h0))) (gss_one (gs_ret ge_bl)) gss_nil)
    (gss_cons (gs_for (passes_of rfl) (by rfl) (gi_tup rfl (ge_var (pv 0))) (gg_name (i := 2) sc__law_is_sharing.nd rfl (by first | exact Or.inl rfl | exact Or.inr rfl)) (gss_one (gs_if (gt_c cm_lt (ge_ix (ge_var (pv 2)) ge_int) ge_int) (gss_one (gs_ret ge_bl)) gss_nil)))
    (gss_one (gs_ret (ge_c (cm_eq (room_units hr)) (ge_call (Has.call h__law_sum (hr.mono (by decide)) (L2N.takes_of rfl rfl rfl rfl)) (gl_cons (ge_var (pv 0)) gl_nil) h0) (ge_tup (gl_cons ge_int (gl_cons ge_int gl_nil)))))))), ?_⟩
  obtain ⟨qs, rfl, hs, h0, h1, hq⟩ := h
  refine ⟨qs, rfl, ifn (c := false = true) (by decide) ?_⟩
  refine for_l (ds := qs.map fr) (fun i env => ∃ x, env = [.val (.tup (qs.map fr)), .val (.int ((qs.length : Nat) : Int)), x]) (by exact fun _ _ h => h) ⟨.un, rfl⟩ ?_ ?_
  · rintro i d env' ex ⟨x, rfl⟩
    rw [List.getElem?_map] at ex
    obtain ⟨q, hq1, rfl⟩ := Option.map_eq_some_iff.mp ex
    have hqm : q ∈ qs := List.mem_of_getElem? hq1
    have := Rat.num_nonneg.mpr (h0 q hqm)
    refine ⟨.int q.num, rfl, ?_⟩
    show if decide (q.num < 0) = true then _ else _
    exact ifn (fun z => by have := of_decide_eq_true z; omega) ⟨_, rfl⟩
  · rintro env' ⟨x, rfl⟩
    refine ⟨_, qs, rfl, .inr rfl, hs, ?_⟩
    refine ⟨by show 2 ≤ 16777216; decide, .inr ⟨shp_fr _, shp_fr 1⟩, ?_⟩
    have e : D.eqv (fr (sumQ qs)) (D.tup [.int 1, .int 1]) = true := by
      rw [fr_one, eqv_fr, h1]
      exact decide_eq_true rfl
    rw [e]
    exact hq
abbrev s__law_height : Stmt := top 76
theorem sc__law_height : FnScope ["levels", "whole", "many", "found", "level"] ["levels"] (defScope s__law_height) := ⟨rfl, rfl, rfl, by decide +kernel, rfl, by decide +kernel, by decide +kernel⟩
def S__law_height : DSp := fun ds Q E => ∃ (qs : List Rat) (n : Nat), ds = [.lst (qs.map fr)] ∧ (∀ q ∈ qs, Sz n q) ∧ 0 < qs.length ∧ qs.length ≤ 5 ∧ n ≤ 100 ∧ ∀ q, Sz ((n + 2) * 6 + 10) q → Q (fr q)
theorem len__law_height {ds : List D} {Q : D → Prop} {E : Ex → Prop} (h : S__law_height ds Q E) : ds.length = 1 := by obtain ⟨m, t, h, _⟩ := h; rw [h]; rfl
theorem ok__law_height (T : Txt P K mg) (h__law_below : Has P w K mg base "_law_below" 1 false S__law_below) (h__law_low : Has P w K mg base "_law_low" 2 false S__law_low) (h__law_plus : Has P w K mg base "_law_plus" 3 false S__law_plus) (h__law_sorted : Has P w K mg base "_law_sorted" 2 true S__law_sorted) {f : Addr} {fd : FuncData} (F : Fun K "_law_height" "_law_height" s__law_height f fd) : FnOk P w K mg base (L2N.CX P w) 4 f fd ["levels"] (spD K mg false S__law_height) := by
  refine fn_ok F sc__law_height (fun ds Qd Ed h => len__law_height h) (fun cdv Ar outer s H E R M ds Qd Ed hr hK hm h0 h => ?_)
  subst hK hm
  refine ⟨_, (gss_cons (gs_asg (i := 1) (ge_tup (gl_cons ge_int (gl_cons ge_int gl_nil))) sc__law_height.nd rfl (by first | exact Or.inl rfl | exact Or.inr rfl))
    (gss_cons (gs_asg (i := 2) ge_int sc__law_height.nd rfl (by first | exact Or.inl rfl | exact Or.inr rfl))
    (gss_cons (gs_asg (i := 3) (ge_tup (gl_cons ge_int (gl_cons ge_int gl_nil))) sc__law_height.nd rfl (by first | exact Or.inl rfl | exact Or.inr rfl))
    (gss_cons (gs_for (passes_of rfl) (by rfl) (gi_list (GF.e (gf_call (Has.call h__law_sorted (hr.mono (by decide)) (L2N.takes_of rfl rfl rfl rfl)) (gl_cons (ge_var (pv 0)) gl_nil) h0))) (gg_name (i := 4) sc__law_height.nd rfl (by first | exact Or.inl rfl | exact Or.inr rfl)) (gss_cons (gs_if (GW.t (gw_and (gt_c cm_gt (ge_var (pv 2)) ge_int) (gw_and1 (gt_not (gt_val (ge_call (Has.call h__law_below (hr.mono (by decide)) (L2N.takes_of rfl rfl rfl rfl)) (gl_cons (ge_var (pv 4)) (gl_cons (ge_var (pv 3)) gl_nil)) h0)))))) (gss_one (gs_ret (ge_var (pv 3)))) gss_nil)
    (gss_cons (gs_asg (i := 1) (ge_call (Has.call h__law_plus (hr.mono (by decide)) (L2N.takes_of rfl rfl rfl rfl)) (gl_cons (ge_var (pv 1)) (gl_cons (ge_var (pv 4)) gl_nil)) h0) sc__law_height.nd rfl (by first | exact Or.inl rfl | exact Or.inr rfl))
    (gss_cons (gs_asg (i := 2) (ge_add (ge_var (pv 2)) ge_int) sc__law_height.nd rfl (by first | exact Or.inl rfl | exact Or.inr rfl))
    (gss_one (gs_asg (i := 3) (ge_call (Has.call h__law_low (hr.mono (by decide)) (L2N.takes_of rfl rfl rfl rfl)) (gl_cons (ge_ix (ge_var (pv 1)) ge_int) (gl_cons (ge_mul (ge_ix (ge_var (pv 1)) ge_int) (ge_var (pv 2))) gl_nil)) h0) sc__law_height.nd rfl (by first | exact Or.inl rfl | exact Or.inr rfl)))))))
    (gss_one (gs_ret (ge_var (pv 3)))))))), ?_⟩
  obtain ⟨qs, n, rfl, hs, h0, h5, hn, hq⟩ := h
  simp only [↓reduceIte, disX, dxf, dcallQ, dcallQF, eqv_strs, sgnD_eq, draise1, fAll, diR1, diR2, diL, diT, diS, dname, dapp, dappPop, dlenO, dixO, dretO, dSl, donone, dosome, dyes, dfv, dm1, fJoin, fIndex, fListF, fSortT, dRev, dIn, dNotIn, difE, fMax, fMin, fStr, fList, dseq, dif, dret, dretN, dretF, dretO, dasg, dasgO, dexpr, dnext, dop, dopF, dk, dvar, dcons, dnil, dlst, dflst, dtup, dIx, dI0, dII, dB0, dtest, dtruth, dand, dor, dnot, dcb, dcbF, dcall, dcallF, dixS, dsetS, dinS, difS, fLen, fInt, fAbs, endD, scD, SOK, dEq, dNe, eqv_int, eqv_str, eqv_bl, beq_iff_eq, decide_eq_true_eq, Bool.not_eq_true, Bool.not_eq_true', true_and, and_true, and_self, false_and, and_false, reduceCtorEq, true_or, or_true, true_implies, if_true, if_false, Bool.false_eq_true, not_false_eq_true, dAdd, dMul, dAddF, List.getElem?_cons_zero, List.getElem?_cons_succ, List.set_cons_zero, List.set_cons_succ, eq_self, draise0, draiseN, ddead, fGcd, fSum, diV, dgtup, dgcons, dgnil, dasgG, dNeg, dmut, dseti, dlenO, dixO, difE, dandV, dorV, dnotV, dchain, dIsN, dNotN, dMul, dAdd, start_def, List.map_cons, List.map_nil, List.length_cons, List.length_nil, List.replicate_succ, List.replicate_zero, List.cons_append, List.nil_append, Nat.reduceAdd, Nat.reduceSub, Nat.reduceLeDiff, Nb.LINE, isi_non_int, isi_non_bool, isi_non_str, isi_non_tuple, isi_non_list, isi_bl_int, isi_bl_bool, isi_bl_str, isi_bl_tuple, isi_bl_list, isi_int_int, isi_int_bool, isi_int_str, isi_int_tuple, isi_int_list, isi_str_int, isi_str_bool, isi_str_str, isi_str_tuple, isi_str_list, isi_tup_int, isi_tup_bool, isi_tup_str, isi_tup_tuple, isi_tup_list, isi_lst_int, isi_lst_bool, isi_lst_str, isi_lst_tuple, isi_lst_list, isi_dct_int, isi_dct_bool, isi_dct_str, isi_dct_tuple, isi_dct_list, ddct0, dint, fTuple, fListF, fList, pow10_iff, Int.reduceLE, Int.reduceLT, Int.reduceToNat]
  rw [show (D.tup [.int 1, .int 1]) = fr 1 from rfl, show (D.tup [.int 0, .int 1]) = fr 0 from rfl]
  unfold dfor
  refine ⟨qs, n, rfl, hs, by omega, by omega, fun ys yl hy => ⟨fun i env => ∃ (W F : Rat) (x : SD), env = [.val (.lst (qs.map fr)), .val (fr W), .val (.int ((i : Nat) : Int)), .val (fr F), x] ∧ Sz ((n + 2) * (i + 1)) W ∧ Sz ((n + 2) * 6 + 10) F, ⟨1, 0, .un, rfl, (Sz.one 0).mono (by omega), (Sz.zero 0).mono (by omega)⟩, ?_, ?_⟩⟩
  · rintro i d env' ex ⟨W, F, x, rfl, sw, sf⟩
    rw [List.getElem?_map] at ex
    obtain ⟨q, hq1, rfl⟩ := Option.map_eq_some_iff.mp ex
    have hqm : q ∈ qs := hy q (List.mem_of_getElem? hq1)
    have hlt := (List.getElem?_eq_some_iff.mp hq1).1
    have hB : (n + 2) * 6 ≤ 612 := by omega
    have hb2 : (n + 2) * (i + 1 + 1) ≤ (n + 2) * 6 := Nat.mul_le_mul_left _ (by omega)
    have e2 : (n + 2) * (i + 1 + 1) = (n + 2) * (i + 1) + (n + 2) := by rw [Nat.mul_add (n + 2) (i + 1) 1, Nat.mul_one]
    obtain ⟨B, hBe⟩ : ∃ B, (n + 2) * 6 = B := ⟨_, rfl⟩
    have hb : (n + 2) * (i + 1) ≤ 612 := by omega
    have hq' := hs q hqm
    have sw' : Sz 612 W := sw.mono hb
    have s2 : Sz ((n + 2) * (i + 1 + 1)) (W + q) := (sw.add hq').mono (by omega)
    have rest : S__law_plus [fr W, fr q] (fun d => dasg 2 (dop dAdd (dvar 2) (dk (D.int 1))) { nx := fun env' => dasg 3 (dcall S__law_low (dcons (dop dIx (dvar 1) (dk (D.int 0))) (dcons (dop dMul (dop dIx (dvar 1) (dk (D.int 1))) (dvar 2)) dnil))) { nx := fun env => ∃ (W F : Rat) (x : SD), env = [.val (.lst (qs.map fr)), .val (fr W), .val (.int ((i + 1 : Nat) : Int)), .val (fr F), x] ∧ Sz ((n + 2) * (i + 1 + 1)) W ∧ Sz ((n + 2) * 6 + 10) F, rt := fun d x => Qd d, bk := fun _ => False, ct := fun _ => False, ex := fun x _ => Ed x } env', rt := fun d x => Qd d, bk := fun _ => False, ct := fun _ => False, ex := fun x _ => Ed x } [.val (.lst (qs.map fr)), .val d, .val (.int ((i : Nat) : Int)), .val (fr F), .val (fr q)]) fun x => Ed x := by
      refine ⟨W, q, 612, rfl, sw', hq'.mono (by omega), by decide, ?_⟩
      have s3 : Sz B (W + q) := s2.mono (by omega)
      have dp := (W + q).den_pos
      have i1 : (((i : Nat) : Int) + 1).natAbs < 2 ^ 3 := by show _ < 8; omega
      have mb : (((W + q).den : Int) * (((i : Nat) : Int) + 1)).natAbs < 2 ^ (B + 3) := by
        rw [Int.natAbs_mul]
        exact mul_lt_pow (n := B) (m := 3) (size_cast s3.2) i1
      have m0 : ((W + q).den : Int) * (((i : Nat) : Int) + 1) ≠ 0 := by
        have := Int.mul_pos (a := ((W + q).den : Int)) (b := ((i : Nat) : Int) + 1) (by omega) (by omega)
        omega
      refine ⟨.int (W + q).num, rfl, .int (W + q).den, rfl, mulOk (a := 612) (b := 3) (size_cast (s3.mono (m := 612) (by omega)).2) i1 (by decide), _, _, rfl, m0, gsml mb m0 (by omega), W + q, Rat.divInt (W + q).num (((W + q).den : Int) * (((i : Nat) : Int) + 1)), .val (fr q), ?_, s2, ?_⟩
      · rw [show ((i + 1 : Nat) : Int) = ((i : Nat) : Int) + 1 by omega]
        rfl
      · rw [hBe]
        exact (Sz.divInt (n := B + 2) (Nat.lt_of_lt_of_le s3.1 (Nat.pow_le_pow_right (by decide) (by omega))) mb).mono (by omega)
    show if decide (((i : Nat) : Int) > 0) = true then _ else _
    by_cases c : 0 < i
    · refine ifp (decide_eq_true (by omega)) ⟨q, F, 700, rfl, hq'.mono (by omega), sf.mono (by omega), by decide, ?_⟩
      by_cases c2 : q < F
      · rw [decide_eq_true c2]
        exact ifn (c := false = true) (by decide) rest
      · rw [decide_eq_false c2]
        exact ifp (c := true = true) rfl (hq F sf)
    · exact ifn (fun z => by have := of_decide_eq_true z; omega) rest
  · rintro env' ⟨W, F, x, rfl, sw, sf⟩
    exact hq F sf
end
end LW
set_option maxRecDepth 100000
set_option maxHeartbeats 4000000
namespace LW
open PySem PySem.Spec PyProof.Rows L2 Nb TL
section
variable {P : Program} {w : World} {K : PySem.W.Frag} {mg : Str → Option Value} {base : Heap}
def faultNames : List Str := ["BadCount", "BadName", "BadNumber", "BadRow", "BadShare", "BadSize", "BadText", "BadWeight", "DivisionByZero", "GameOver", "InUse", "Lacking", "Mismatch", "NoHelper", "NotExact", "NothingToTakeBack", "TakenName", "UnknownName"]
theorem fault_lc {names : List Str} {n : Str} {x0 x2 : SD} {Q : List D → Prop} {Ed : Ex → Prop} (hl : names.length ≤ 1000) (hq : Q ((names.map fun x => if (n == x) = true then (1 : Int) else 0).map D.int)) :
    dlc (diL (dvar 1)) (dname 2) dyes (dcb fInt (dcons (dvar 2) dnil)) [2] [x0, .val (.lst (names.map fun x => D.bl (n == x))), x2] Q Ed := by
  refine dlc_map (ds := names.map fun x => D.bl (n == x)) (fun d => match d with
    | .bl b => .int (if b = true then 1 else 0)
    | d => d) (fun Q' h => h) (by rw [List.length_map]; show _ ≤ 16777216; omega) (fun d hd Q' h => ?_) ?_
  · obtain ⟨x, _, rfl⟩ := List.mem_map.mp hd
    exact h
  · rw [List.map_map]
    rw [List.map_map] at hq
    exact hq
abbrev s__law_fault : Stmt := top 77
theorem sc__law_fault : FnScope ["e", "found", "one"] ["e"] (defScope s__law_fault) := ⟨rfl, rfl, rfl, by decide +kernel, rfl, by decide +kernel, by decide +kernel⟩
def FaultX (n : Str) (fs : List (Str × D)) (r : D) : Prop := (n = "BadNumber" ∧ fs = [] ∧ r = .tup [.str "BadNumber"]) ∨ ∃ f l h, n = "BadCount" ∧ fs = ([("high", h), ("low", l), ("found", f)] : List (Str × D)) ∧ r = .tup [.str "BadCount", f, l, h]
def S__law_fault : DSp := fun ds Q E => ∃ n fs r, ds = [.exc n fs] ∧ FaultX n fs r ∧ Q r
theorem len__law_fault {ds : List D} {Q : D → Prop} {E : Ex → Prop} (h : S__law_fault ds Q E) : ds.length = 1 := by obtain ⟨_, _, _, h, _⟩ := h; rw [h]; rfl
theorem ok__law_fault (T : Txt P K mg) {f : Addr} {fd : FuncData} (F : Fun K "_law_fault" "_law_fault" s__law_fault f fd) : FnQ P w K mg base 1 f fd ["e"] false S__law_fault := by
  refine fnq_ok F sc__law_fault (fun ds Qd Ed h => len__law_fault h) (fun cdv Ar outer s H E R M ds Qd p C d hr hK hm hx hz hw hh h => ?_)
  subst hK hm
  refine ⟨_, (gss_cons (gs_asg (i := 1) (ge_lst (gl_cons (ge_isC hx (ExcAt.pin hz hw hh) T.kinds T.i_BadCount T.isinstance (ge_var (pv 0))) (gl_cons (ge_isC hx (ExcAt.pin hz hw hh) T.kinds T.i_BadName T.isinstance (ge_var (pv 0))) (gl_cons (ge_isC hx (ExcAt.pin hz hw hh) T.kinds T.i_BadNumber T.isinstance (ge_var (pv 0))) (gl_cons (ge_isC hx (ExcAt.pin hz hw hh) T.kinds T.i_BadRow T.isinstance (ge_var (pv 0))) gl_nil))))) sc__law_fault.nd rfl (by first | exact Or.inl rfl | exact Or.inr rfl))
    (gss_cons (gs_asg (i := 1) (ge_add (ge_var (pv 1)) (ge_lst (gl_cons (ge_isC hx (ExcAt.pin hz hw hh) T.kinds T.i_BadShare T.isinstance (ge_var (pv 0))) (gl_cons (ge_isC hx (ExcAt.pin hz hw hh) T.kinds T.i_BadSize T.isinstance (ge_var (pv 0))) (gl_cons (ge_isC hx (ExcAt.pin hz hw hh) T.kinds T.i_BadText T.isinstance (ge_var (pv 0))) (gl_cons (ge_isC hx (ExcAt.pin hz hw hh) T.kinds T.i_BadWeight T.isinstance (ge_var (pv 0))) gl_nil)))))) sc__law_fault.nd rfl (by first | exact Or.inl rfl | exact Or.inr rfl))
    (gss_cons (gs_asg (i := 1) (ge_add (ge_var (pv 1)) (ge_lst (gl_cons (ge_isC hx (ExcAt.pin hz hw hh) T.kinds T.i_DivisionByZero T.isinstance (ge_var (pv 0))) (gl_cons (ge_isC hx (ExcAt.pin hz hw hh) T.kinds T.i_GameOver T.isinstance (ge_var (pv 0))) (gl_cons (ge_isC hx (ExcAt.pin hz hw hh) T.kinds T.i_InUse T.isinstance (ge_var (pv 0))) gl_nil))))) sc__law_fault.nd rfl (by first | exact Or.inl rfl | exact Or.inr rfl))
    (gss_cons (gs_asg (i := 1) (ge_add (ge_var (pv 1)) (ge_lst (gl_cons (ge_isC hx (ExcAt.pin hz hw hh) T.kinds T.i_Lacking T.isinstance (ge_var (pv 0))) (gl_cons (ge_isC hx (ExcAt.pin hz hw hh) T.kinds T.i_Mismatch T.isinstance (ge_var (pv 0))) (gl_cons (ge_isC hx (ExcAt.pin hz hw hh) T.kinds T.i_NoHelper T.isinstance (ge_var (pv 0))) (gl_cons (ge_isC hx (ExcAt.pin hz hw hh) T.kinds T.i_NotExact T.isinstance (ge_var (pv 0))) gl_nil)))))) sc__law_fault.nd rfl (by first | exact Or.inl rfl | exact Or.inr rfl))
    (gss_cons (gs_asg (i := 1) (ge_add (ge_var (pv 1)) (ge_lst (gl_cons (ge_isC hx (ExcAt.pin hz hw hh) T.kinds T.i_NothingToTakeBack T.isinstance (ge_var (pv 0))) (gl_cons (ge_isC hx (ExcAt.pin hz hw hh) T.kinds T.i_TakenName T.isinstance (ge_var (pv 0))) (gl_cons (ge_isC hx (ExcAt.pin hz hw hh) T.kinds T.i_UnknownName T.isinstance (ge_var (pv 0))) gl_nil))))) sc__law_fault.nd rfl (by first | exact Or.inl rfl | exact Or.inr rfl))
    (gss_cons (gs_if (GW.t (gw_or (gt_c (cm_ne (room_unitsH hr)) (ge_add (ge_blt (b_sumH (ExcAt.pin hz hw hh).hot) (by rfl) T.sum (by decide +kernel) (gl_cons (GF.e (gf_lcH (own := [("one", 2)]) (js := [2]) (ExcAt.pin hz hw hh) sc__law_fault.nd (gi_listG (ge_var (pv 1))) (by show blkC ["e", "found", "one"] (defScope s__law_fault) _ _ = true; decide +kernel) (by decide) (fun B hB _ _ _ _ _ => gg_name (i := 2) sc__law_fault.nd rfl (by first | exact Or.inl rfl | exact Or.inr rfl)) (fun B hB _ _ _ _ _ => gts_nil) (fun B hB _ _ _ _ _ => (ge_bltT (b_int) (by rfl) T.int PyProof.Rows.boot_int (gl_cons (ge_var (pv 2)) gl_nil))))) gl_nil)) (ge_bltT (b_int) (by rfl) T.int PyProof.Rows.boot_int (gl_cons (ge_isC hx (ExcAt.pin hz hw hh) T.kinds T.i_WrongKind T.isinstance (ge_var (pv 0))) gl_nil))) ge_int) (gw_or1 (gt_not (gt_val (ge_isV hx (ExcAt.pin hz hw hh) T.kinds T.v_ValueError T.isinstance T.ValueError (ge_var (pv 0)) (by decide +kernel))))))) (gss_one (gs_ret (ge_tup (gl_cons ge_str gl_nil)))) gss_nil)
    (gss_cons (gs_if (gt_val (ge_isC hx (ExcAt.pin hz hw hh) T.kinds T.i_BadCount T.isinstance (ge_var (pv 0)))) (gss_one (gs_ret (ge_tup (gl_cons ge_str (gl_cons (ge_fld hx (ExcAt.pin hz hw hh) T.kinds T.f_found (ge_var (pv 0))) (gl_cons (ge_fld hx (ExcAt.pin hz hw hh) T.kinds T.f_low (ge_var (pv 0))) (gl_cons (ge_fld hx (ExcAt.pin hz hw hh) T.kinds T.f_high (ge_var (pv 0))) gl_nil))))))) gss_nil)
    (gss_cons (gs_if (gt_val (ge_isC hx (ExcAt.pin hz hw hh) T.kinds T.i_BadRow T.isinstance (ge_var (pv 0)))) (gss_one (gs_ret (ge_tup (gl_cons ge_str (gl_cons (ge_fld hx (ExcAt.pin hz hw hh) T.kinds T.f_found (ge_var (pv 0))) gl_nil))))) gss_nil)
    (gss_cons (gs_if (gt_val (ge_isC hx (ExcAt.pin hz hw hh) T.kinds T.i_BadText T.isinstance (ge_var (pv 0)))) (gss_one (gs_ret (ge_tup (gl_cons ge_str (gl_cons (ge_fld hx (ExcAt.pin hz hw hh) T.kinds T.f_line (ge_var (pv 0))) gl_nil))))) gss_nil)
    (gss_cons (gs_if (gt_val (ge_isC hx (ExcAt.pin hz hw hh) T.kinds T.i_NotExact T.isinstance (ge_var (pv 0)))) (gss_one (gs_ret (ge_tup (gl_cons ge_str (gl_cons (ge_fld hx (ExcAt.pin hz hw hh) T.kinds T.f_beginning (ge_var (pv 0))) gl_nil))))) gss_nil)
    (gss_cons (gs_if (gt_val (ge_isC hx (ExcAt.pin hz hw hh) T.kinds T.i_BadNumber T.isinstance (ge_var (pv 0)))) (gss_one (gs_ret (ge_tup (gl_cons ge_str gl_nil)))) gss_nil)
    (gss_one (gs_ret (ge_tup (gl_cons (ge_ix (ge_lst (gl_cons ge_str (gl_cons ge_str gl_nil))) (ge_bltT (b_int) (by rfl) T.int PyProof.Rows.boot_int (gl_cons (ge_isC hx (ExcAt.pin hz hw hh) T.kinds T.i_Mismatch T.isinstance (ge_var (pv 0))) gl_nil))) gl_nil))))))))))))))), ?_⟩
  obtain ⟨n, fs, r, rfl, hr, hq⟩ := h
  have hl : ∀ n : Nat, Nat.ble n 100 = true → n ≤ LINE := fun n h => by
    have := Nat.le_of_ble_eq_true h
    show n ≤ 16777216
    omega
  rcases hr with ⟨rfl, rfl, rfl⟩ | ⟨f', l, h, rfl, rfl, rfl⟩
  · have hok : okX "BadNumber" := by unfold okX; decide
    have es : (faultNames.map fun x => if (("BadNumber" : Str) == x) = true then (1 : Int) else 0).sum + (if (("BadNumber" : Str) == "WrongKind") = true then 1 else 0) = 1 := by decide +kernel
    repeat (first | refine ⟨hok, ?_⟩ | refine ⟨hl _ rfl, ?_⟩)
    refine fault_lc (names := faultNames) (by decide) ⟨_, rfl, hok, ?_⟩
    show (scD (.int ((faultNames.map fun x => if (("BadNumber" : Str) == x) = true then (1 : Int) else 0).sum + (if (("BadNumber" : Str) == "WrongKind") = true then 1 else 0))) (.int 1) = true ∨ _) ∧ _
    rw [es]
    refine ⟨.inl rfl, ifn (by decide) ⟨hok, ifn (by decide) ?_⟩⟩
    repeat (refine ⟨hok, ifn (by decide +kernel) ?_⟩)
    exact ⟨hok, ifp (by decide +kernel) ⟨hl _ rfl, hq⟩⟩
  · have hok : okX "BadCount" := by unfold okX; decide
    have es : (faultNames.map fun x => if (("BadCount" : Str) == x) = true then (1 : Int) else 0).sum + (if (("BadCount" : Str) == "WrongKind") = true then 1 else 0) = 1 := by decide +kernel
    repeat (first | refine ⟨hok, ?_⟩ | refine ⟨hl _ rfl, ?_⟩)
    refine fault_lc (names := faultNames) (by decide) ⟨_, rfl, hok, ?_⟩
    show (scD (.int ((faultNames.map fun x => if (("BadCount" : Str) == x) = true then (1 : Int) else 0).sum + (if (("BadCount" : Str) == "WrongKind") = true then 1 else 0))) (.int 1) = true ∨ _) ∧ _
    rw [es]
    refine ⟨.inl rfl, ifn (by decide) ⟨hok, ifn (by decide) ?_⟩⟩
    refine ⟨hok, ifp (by decide +kernel) ?_⟩
    simp (decide := true) only [hok, List.lookup, Option.some.injEq, exists_eq_left', ↓reduceIte, disX, dxf, dcallQ, dcallQF, eqv_strs, sgnD_eq, draise1, fAll, diR1, diR2, diL, diT, diS, dname, dapp, dappPop, dlenO, dixO, dretO, dSl, donone, dosome, dyes, dfv, dm1, fJoin, fIndex, fListF, fSortT, dRev, dIn, dNotIn, difE, fMax, fMin, fStr, fList, dseq, dif, dret, dretN, dretF, dretO, dasg, dasgO, dexpr, dnext, dop, dopF, dk, dvar, dcons, dnil, dlst, dflst, dtup, dIx, dI0, dII, dB0, dtest, dtruth, dand, dor, dnot, dcb, dcbF, dcall, dcallF, dixS, dsetS, dinS, difS, fLen, fInt, fAbs, endD, scD, SOK, dEq, dNe, eqv_int, eqv_str, eqv_bl, beq_iff_eq, decide_eq_true_eq, Bool.not_eq_true, Bool.not_eq_true', true_and, and_true, and_self, false_and, and_false, reduceCtorEq, true_or, or_true, true_implies, if_true, if_false, Bool.false_eq_true, not_false_eq_true, dAdd, dMul, dAddF, List.getElem?_cons_zero, List.getElem?_cons_succ, List.set_cons_zero, List.set_cons_succ, eq_self, draise0, draiseN, ddead, fGcd, fSum, diV, dgtup, dgcons, dgnil, dasgG, dNeg, dmut, dseti, dlenO, dixO, difE, dandV, dorV, dnotV, dchain, dIsN, dNotN, dMul, dAdd, start_def, List.map_cons, List.map_nil, List.length_cons, List.length_nil, List.replicate_succ, List.replicate_zero, List.cons_append, List.nil_append, Nat.reduceAdd, Nat.reduceSub, Nat.reduceLeDiff, Nb.LINE, isi_non_int, isi_non_bool, isi_non_str, isi_non_tuple, isi_non_list, isi_bl_int, isi_bl_bool, isi_bl_str, isi_bl_tuple, isi_bl_list, isi_int_int, isi_int_bool, isi_int_str, isi_int_tuple, isi_int_list, isi_str_int, isi_str_bool, isi_str_str, isi_str_tuple, isi_str_list, isi_tup_int, isi_tup_bool, isi_tup_str, isi_tup_tuple, isi_tup_list, isi_lst_int, isi_lst_bool, isi_lst_str, isi_lst_tuple, isi_lst_list, isi_dct_int, isi_dct_bool, isi_dct_str, isi_dct_tuple, isi_dct_list, ddct0, dint, fTuple, fListF, fList, pow10_iff, Int.reduceLE, Int.reduceLT, Int.reduceToNat]
    exact ⟨f', rfl, l, rfl, h, rfl, hq⟩
abbrev s__law_vast : Stmt := top 78
theorem sc__law_vast : FnScope ["store", "found", "k"] ["store"] (defScope s__law_vast) := ⟨rfl, rfl, rfl, by decide +kernel, rfl, by decide +kernel, by decide +kernel⟩
def S__law_vast : DSp := fun ds Q E => ds = [.sto] ∧ ∀ q, Sz 140 q → Q (fr q)
theorem len__law_vast {ds : List D} {Q : D → Prop} {E : Ex → Prop} (h : S__law_vast ds Q E) : ds.length = 1 := by rw [h.1]; rfl
theorem ok__law_vast (T : Txt P K mg) (h__law_edge : Has P w K mg base "_law_edge" 3 false S__law_edge) (h__law_low : Has P w K mg base "_law_low" 2 false S__law_low) (h__law_take : Has P w K mg base "_law_take" 2 false S__law_take) {f : Addr} {fd : FuncData} (F : Fun K "_law_vast" "_law_vast" s__law_vast f fd) : FnOk P w K mg base (L2N.CX P w) 4 f fd ["store"] (spD K mg false S__law_vast) := by
  refine fn_ok F sc__law_vast (fun ds Qd Ed h => len__law_vast h) (fun cdv Ar outer s H E R M ds Qd Ed hr hK hm h0 h => ?_)
  subst hK hm
  refine ⟨_, (gss_cons (gs_asg (i := 1) ge_int sc__law_vast.nd rfl (by first | exact Or.inl rfl | exact Or.inr rfl))
    (gss_cons (gs_for (passes_of rfl) (by rfl) (gi_rng1 (by rfl) T.range (gl_cons (ge_add ge_int (ge_call (Has.call h__law_edge (hr.mono (by decide)) (L2N.takes_of rfl rfl rfl rfl)) (gl_cons (ge_var (pv 0)) (gl_cons ge_int gl_nil)) h0)) gl_nil)) (gg_name (i := 2) sc__law_vast.nd rfl (by first | exact Or.inl rfl | exact Or.inr rfl)) (gss_one (gs_asg (i := 1) (ge_add (ge_mul (ge_var (pv 1)) (ge_pow ge_int ge_int)) (ge_call (Has.call h__law_take (hr.mono (by decide)) (L2N.takes_of rfl rfl rfl rfl)) (gl_cons (ge_var (pv 0)) (gl_cons (ge_pow ge_int ge_int) gl_nil)) h0)) sc__law_vast.nd rfl (by first | exact Or.inl rfl | exact Or.inr rfl))))
    (gss_one (gs_ret (ge_call (Has.call h__law_low (hr.mono (by decide)) (L2N.takes_of rfl rfl rfl rfl)) (gl_cons (ge_mul (ge_ix (ge_lst (gl_cons ge_int (gl_cons (ge_subI ge_int ge_int) gl_nil))) (ge_call (Has.call h__law_take (hr.mono (by decide)) (L2N.takes_of rfl rfl rfl rfl)) (gl_cons (ge_var (pv 0)) (gl_cons ge_int gl_nil)) h0)) (ge_var (pv 1))) (gl_cons (ge_add ge_int (ge_mul (ge_call (Has.call h__law_take (hr.mono (by decide)) (L2N.takes_of rfl rfl rfl rfl)) (gl_cons (ge_var (pv 0)) (gl_cons (ge_pow ge_int ge_int) gl_nil)) h0) (ge_pow ge_int ge_int))) gl_nil)) h0))))), ?_⟩
  obtain ⟨rfl, hq⟩ := h
  simp only [↓reduceIte, disX, dxf, dcallQ, dcallQF, eqv_strs, sgnD_eq, draise1, fAll, diR1, diR2, diL, diT, diS, dname, dapp, dappPop, dlenO, dixO, dretO, dSl, donone, dosome, dyes, dfv, dm1, fJoin, fIndex, fListF, fSortT, dRev, dIn, dNotIn, difE, fMax, fMin, fStr, fList, dseq, dif, dret, dretN, dretF, dretO, dasg, dasgO, dexpr, dnext, dop, dopF, dk, dvar, dcons, dnil, dlst, dflst, dtup, dIx, dI0, dII, dB0, dtest, dtruth, dand, dor, dnot, dcb, dcbF, dcall, dcallF, dixS, dsetS, dinS, difS, fLen, fInt, fAbs, endD, scD, SOK, dEq, dNe, eqv_int, eqv_str, eqv_bl, beq_iff_eq, decide_eq_true_eq, Bool.not_eq_true, Bool.not_eq_true', true_and, and_true, and_self, false_and, and_false, reduceCtorEq, true_or, or_true, true_implies, if_true, if_false, Bool.false_eq_true, not_false_eq_true, dAdd, dMul, dAddF, List.getElem?_cons_zero, List.getElem?_cons_succ, List.set_cons_zero, List.set_cons_succ, eq_self, draise0, draiseN, ddead, fGcd, fSum, diV, dgtup, dgcons, dgnil, dasgG, dNeg, dmut, dseti, dlenO, dixO, difE, dandV, dorV, dnotV, dchain, dIsN, dNotN, dMul, dAdd, start_def, List.map_cons, List.map_nil, List.length_cons, List.length_nil, List.replicate_succ, List.replicate_zero, List.cons_append, List.nil_append, Nat.reduceAdd, Nat.reduceSub, Nat.reduceLeDiff, Nb.LINE, isi_non_int, isi_non_bool, isi_non_str, isi_non_tuple, isi_non_list, isi_bl_int, isi_bl_bool, isi_bl_str, isi_bl_tuple, isi_bl_list, isi_int_int, isi_int_bool, isi_int_str, isi_int_tuple, isi_int_list, isi_str_int, isi_str_bool, isi_str_str, isi_str_tuple, isi_str_list, isi_tup_int, isi_tup_bool, isi_tup_str, isi_tup_tuple, isi_tup_list, isi_lst_int, isi_lst_bool, isi_lst_str, isi_lst_tuple, isi_lst_list, isi_dct_int, isi_dct_bool, isi_dct_str, isi_dct_tuple, isi_dct_list, ddct0, dint, fTuple, fListF, fList, pow10_iff, Int.reduceLE, Int.reduceLT, Int.reduceToNat]
  unfold dfor
  refine ⟨5, rfl, by decide, fun n n1 n2 => ⟨by omega, by omega, ?_⟩⟩
  refine ⟨fun i env => ∃ (f : Int) (x : SD), env = [.val .sto, .val (.int f), x] ∧ 0 ≤ f ∧ f < 100000000 ^ i ∧ i ≤ 5, ⟨0, .un, rfl, by decide, by decide, by decide⟩, ?_, ?_⟩
  · rintro i d env' e ⟨f, x, rfl, f1, f2, hi⟩
    rw [rngD_get] at e
    split at e
    · cases e
      have e8 : (10 : Int) ^ 8 = 100000000 := by decide
      simp only [take_iff, e8, ↓reduceIte, disX, dxf, dcallQ, dcallQF, eqv_strs, sgnD_eq, draise1, fAll, diR1, diR2, diL, diT, diS, dname, dapp, dappPop, dlenO, dixO, dretO, dSl, donone, dosome, dyes, dfv, dm1, fJoin, fIndex, fListF, fSortT, dRev, dIn, dNotIn, difE, fMax, fMin, fStr, fList, dseq, dif, dret, dretN, dretF, dretO, dasg, dasgO, dexpr, dnext, dop, dopF, dk, dvar, dcons, dnil, dlst, dflst, dtup, dIx, dI0, dII, dB0, dtest, dtruth, dand, dor, dnot, dcb, dcbF, dcall, dcallF, dixS, dsetS, dinS, difS, fLen, fInt, fAbs, endD, scD, SOK, dEq, dNe, eqv_int, eqv_str, eqv_bl, beq_iff_eq, decide_eq_true_eq, Bool.not_eq_true, Bool.not_eq_true', true_and, and_true, and_self, false_and, and_false, reduceCtorEq, true_or, or_true, true_implies, if_true, if_false, Bool.false_eq_true, not_false_eq_true, dAdd, dMul, dAddF, List.getElem?_cons_zero, List.getElem?_cons_succ, List.set_cons_zero, List.set_cons_succ, eq_self, draise0, draiseN, ddead, fGcd, fSum, diV, dgtup, dgcons, dgnil, dasgG, dNeg, dmut, dseti, dlenO, dixO, difE, dandV, dorV, dnotV, dchain, dIsN, dNotN, dMul, dAdd, start_def, List.map_cons, List.map_nil, List.length_cons, List.length_nil, List.replicate_succ, List.replicate_zero, List.cons_append, List.nil_append, Nat.reduceAdd, Nat.reduceSub, Nat.reduceLeDiff, Nb.LINE, isi_non_int, isi_non_bool, isi_non_str, isi_non_tuple, isi_non_list, isi_bl_int, isi_bl_bool, isi_bl_str, isi_bl_tuple, isi_bl_list, isi_int_int, isi_int_bool, isi_int_str, isi_int_tuple, isi_int_list, isi_str_int, isi_str_bool, isi_str_str, isi_str_tuple, isi_str_list, isi_tup_int, isi_tup_bool, isi_tup_str, isi_tup_tuple, isi_tup_list, isi_lst_int, isi_lst_bool, isi_lst_str, isi_lst_tuple, isi_lst_list, isi_dct_int, isi_dct_bool, isi_dct_str, isi_dct_tuple, isi_dct_list, ddct0, dint, fTuple, fListF, fList, pow10_iff, Int.reduceLE, Int.reduceLT, Int.reduceToNat]
      refine ⟨.inl (.inr (by omega)), fun z z1 z2 => ⟨_, _, rfl, by omega, ?_, by omega⟩⟩
      rw [Int.pow_succ]
      omega
    · cases e
  · rintro env' ⟨f, x, rfl, f1, f2, hi⟩
    have e9 : (10 : Int) ^ 9 = 1000000000 := by decide
    have e30 : (10 : Int) ^ 30 = 1000000000000000000000000000000 := by decide
    generalize (rngD 0 (1 + n).toNat).length = m at f2 hi
    have key : f < ((2 ^ 140 : Nat) : Int) := by
      have hm : m = 0 ∨ m = 1 ∨ m = 2 ∨ m = 3 ∨ m = 4 ∨ m = 5 := by omega
      rcases hm with rfl | rfl | rfl | rfl | rfl | rfl <;> exact Int.lt_of_lt_of_le f2 (by decide)
    have key2 : f.natAbs < 2 ^ 140 := by
      generalize (2 : Nat) ^ 140 = B at key
      omega
    have fin : ∀ s : Int, s = 1 ∨ s = 0 - 1 → CMulA s f ∧ 10 ^ 9 < (10000000000 : Int) ∧ ∀ z : Int, 0 ≤ z → z < 10 ^ 9 ∨ z = 0 → CMulA z (10 ^ 30) ∧ S__law_low [.int (s * f), .int (1 + z * 10 ^ 30)] (fun d => Qd d) fun x => Ed x := by
      intro s hs
      rw [e9, e30]
      have s1 : (s * f).natAbs < 2 ^ 140 := by
        have : (s * f).natAbs = f.natAbs := by rcases hs with rfl | rfl <;> omega
        rw [this]
        exact key2
      refine ⟨mulOk (a := 1) (b := 140) (by rcases hs with rfl | rfl <;> decide) key2 (by decide), by decide, fun z z1 z2 => ⟨mulOk (a := 40) (b := 140) (by show _ < 1099511627776; omega) (by decide) (by decide), _, _, rfl, by omega, ?_, hq _ (Sz.divInt (n := 139) s1 ?_)⟩⟩
      · exact gsml (n := 140) (by show _ < 1393796574908163946345982392040522594123776; omega) (by omega) (by decide)
      · show _ < 1393796574908163946345982392040522594123776
        omega
    simp only [take_iff, ↓reduceIte, disX, dxf, dcallQ, dcallQF, eqv_strs, sgnD_eq, draise1, fAll, diR1, diR2, diL, diT, diS, dname, dapp, dappPop, dlenO, dixO, dretO, dSl, donone, dosome, dyes, dfv, dm1, fJoin, fIndex, fListF, fSortT, dRev, dIn, dNotIn, difE, fMax, fMin, fStr, fList, dseq, dif, dret, dretN, dretF, dretO, dasg, dasgO, dexpr, dnext, dop, dopF, dk, dvar, dcons, dnil, dlst, dflst, dtup, dIx, dI0, dII, dB0, dtest, dtruth, dand, dor, dnot, dcb, dcbF, dcall, dcallF, dixS, dsetS, dinS, difS, fLen, fInt, fAbs, endD, scD, SOK, dEq, dNe, eqv_int, eqv_str, eqv_bl, beq_iff_eq, decide_eq_true_eq, Bool.not_eq_true, Bool.not_eq_true', true_and, and_true, and_self, false_and, and_false, reduceCtorEq, true_or, or_true, true_implies, if_true, if_false, Bool.false_eq_true, not_false_eq_true, dAdd, dMul, dAddF, List.getElem?_cons_zero, List.getElem?_cons_succ, List.set_cons_zero, List.set_cons_succ, eq_self, draise0, draiseN, ddead, fGcd, fSum, diV, dgtup, dgcons, dgnil, dasgG, dNeg, dmut, dseti, dlenO, dixO, difE, dandV, dorV, dnotV, dchain, dIsN, dNotN, dMul, dAdd, start_def, List.map_cons, List.map_nil, List.length_cons, List.length_nil, List.replicate_succ, List.replicate_zero, List.cons_append, List.nil_append, Nat.reduceAdd, Nat.reduceSub, Nat.reduceLeDiff, Nb.LINE, isi_non_int, isi_non_bool, isi_non_str, isi_non_tuple, isi_non_list, isi_bl_int, isi_bl_bool, isi_bl_str, isi_bl_tuple, isi_bl_list, isi_int_int, isi_int_bool, isi_int_str, isi_int_tuple, isi_int_list, isi_str_int, isi_str_bool, isi_str_str, isi_str_tuple, isi_str_list, isi_tup_int, isi_tup_bool, isi_tup_str, isi_tup_tuple, isi_tup_list, isi_lst_int, isi_lst_bool, isi_lst_str, isi_lst_tuple, isi_lst_list, isi_dct_int, isi_dct_bool, isi_dct_str, isi_dct_tuple, isi_dct_list, ddct0, dint, fTuple, fListF, fList, pow10_iff, Int.reduceLE, Int.reduceLT, Int.reduceToNat]
    refine fun z z1 z2 => ?_
    have hz : z = 0 ∨ z = 1 := by omega
    rcases hz with rfl | rfl
    · exact ⟨_, rfl, fin 1 (.inl rfl)⟩
    · exact ⟨_, rfl, fin (0 - 1) (.inr rfl)⟩
abbrev s__law_fit : Stmt := top 79
theorem sc__law_fit : FnScope ["values", "value"] ["values"] (defScope s__law_fit) := ⟨rfl, rfl, rfl, by decide +kernel, rfl, by decide +kernel, by decide +kernel⟩
def S__law_fit : DSp := fun ds Q E => ∃ qs : List Rat, ds = [.lst (qs.map fr)] ∧ qs.length ≤ 1000 ∧ ∀ b, Q (.bl b)
theorem len__law_fit {ds : List D} {Q : D → Prop} {E : Ex → Prop} (h : S__law_fit ds Q E) : ds.length = 1 := by obtain ⟨m, h, _⟩ := h; rw [h]; rfl
theorem ok__law_fit (T : Txt P K mg) {f : Addr} {fd : FuncData} (F : Fun K "_law_fit" "_law_fit" s__law_fit f fd) : FnOk P w K mg base (L2N.CX P w) 1 f fd ["values"] (spD K mg false S__law_fit) := by
  refine fn_ok F sc__law_fit (fun ds Qd Ed h => len__law_fit h) (fun cdv Ar outer s H E R M ds Qd Ed hr hK hm h0 h => ?_)
  subst hK hm
  refine ⟨_, (gss_one (gs_ret (ge_c (cm_eq (room_units hr)) (ge_blt (b_len) (by rfl) T.len PySem.boot_len (gl_cons (GF.e (gf_lc (own := [("value", 1)]) (js := [1]) (by rfl) sc__law_fit.nd (gi_list (ge_var (pv 0))) (by show blkC ["values", "value"] (defScope s__law_fit) _ _ = true; decide +kernel) (by decide) (fun B hB _ _ _ _ _ => gg_name (i := 1) sc__law_fit.nd rfl (by first | exact Or.inl rfl | exact Or.inr rfl)) (fun B hB _ _ _ _ _ => (gts_one (GW.t (gw_or (gt_c cm_ge (ge_blt (b_abs) (by rfl) T.abs (by decide +kernel) (gl_cons (ge_ix (ge_var (pv 1)) ge_int (hK := congrArg RC.K hB)) gl_nil)) (ge_pow ge_int ge_int)) (gw_or1 (gt_c cm_ge (ge_ix (ge_var (pv 1)) ge_int (hK := congrArg RC.K hB)) (ge_pow ge_int ge_int))))))) (fun B hB _ _ _ _ _ => (ge_var (pv 1))))) gl_nil)) ge_int))), ?_⟩
  obtain ⟨qs, rfl, hl, hq⟩ := h
  simp only [↓reduceIte, disX, dxf, dcallQ, dcallQF, eqv_strs, sgnD_eq, draise1, fAll, diR1, diR2, diL, diT, diS, dname, dapp, dappPop, dlenO, dixO, dretO, dSl, donone, dosome, dyes, dfv, dm1, fJoin, fIndex, fListF, fSortT, dRev, dIn, dNotIn, difE, fMax, fMin, fStr, fList, dseq, dif, dret, dretN, dretF, dretO, dasg, dasgO, dexpr, dnext, dop, dopF, dk, dvar, dcons, dnil, dlst, dflst, dtup, dIx, dI0, dII, dB0, dtest, dtruth, dand, dor, dnot, dcb, dcbF, dcall, dcallF, dixS, dsetS, dinS, difS, fLen, fInt, fAbs, endD, scD, SOK, dEq, dNe, eqv_int, eqv_str, eqv_bl, beq_iff_eq, decide_eq_true_eq, Bool.not_eq_true, Bool.not_eq_true', true_and, and_true, and_self, false_and, and_false, reduceCtorEq, true_or, or_true, true_implies, if_true, if_false, Bool.false_eq_true, not_false_eq_true, dAdd, dMul, dAddF, List.getElem?_cons_zero, List.getElem?_cons_succ, List.set_cons_zero, List.set_cons_succ, eq_self, draise0, draiseN, ddead, fGcd, fSum, diV, dgtup, dgcons, dgnil, dasgG, dNeg, dmut, dseti, dlenO, dixO, difE, dandV, dorV, dnotV, dchain, dIsN, dNotN, dMul, dAdd, start_def, List.map_cons, List.map_nil, List.length_cons, List.length_nil, List.replicate_succ, List.replicate_zero, List.cons_append, List.nil_append, Nat.reduceAdd, Nat.reduceSub, Nat.reduceLeDiff, Nb.LINE, isi_non_int, isi_non_bool, isi_non_str, isi_non_tuple, isi_non_list, isi_bl_int, isi_bl_bool, isi_bl_str, isi_bl_tuple, isi_bl_list, isi_int_int, isi_int_bool, isi_int_str, isi_int_tuple, isi_int_list, isi_str_int, isi_str_bool, isi_str_str, isi_str_tuple, isi_str_list, isi_tup_int, isi_tup_bool, isi_tup_str, isi_tup_tuple, isi_tup_list, isi_lst_int, isi_lst_bool, isi_lst_str, isi_lst_tuple, isi_lst_list, isi_dct_int, isi_dct_bool, isi_dct_str, isi_dct_tuple, isi_dct_list, ddct0, dint, fTuple, fListF, fList, pow10_iff, Int.reduceLE, Int.reduceLT, Int.reduceToNat]
  unfold dlc
  refine ⟨fun i acc => acc.length ≤ i ∧ i ≤ qs.length, ⟨Nat.le_refl _, Nat.zero_le _⟩, fun i d acc e hI => ?_, fun acc _ => hq _⟩
  have il : i < qs.length := by
    have := (List.getElem?_eq_some_iff.mp e).1
    rw [List.length_map] at this
    exact this
  rw [List.getElem?_map, List.getElem?_eq_getElem il] at e
  cases e
  have h0 := hI.1
  have ap : ∀ y : D, acc.length < LINE ∧ (acc ++ [y]).length ≤ i + 1 ∧ i + 1 ≤ qs.length := fun y => ⟨by show _ < 16777216; omega, by rw [List.length_append]; show acc.length + 1 ≤ i + 1; omega, il⟩
  refine ⟨_, rfl, ⟨by decide, by decide, by decide⟩, ifte (fun _ => ifp rfl (ap _)) fun _ => ?_⟩
  exact ⟨_, rfl, ⟨by decide, by decide, by decide⟩, ifte (fun _ => ap _) fun _ => ⟨by omega, il⟩⟩
theorem dlc_any {α : Type} (f : α → D) (P : α → Prop) {gi : DI} {t : DG} {ge : DE} {vs : List Nat} {env : DEnv} {Q : List D → Prop} {Ed : Ex → Prop} {ds : List D} (hgi : ∀ Q' : List D → Prop, Q' ds → gi env Q' Ed) (hl : ds.length ≤ 1000000)
    (he : ∀ d ∈ ds, ∀ Q' : D → Prop, (∀ a, P a → Q' (f a)) → t d (blkD env vs) fun env2 => ge env2 Q' fun _ => False) (hq : ∀ as : List α, as.length = ds.length → (∀ a ∈ as, P a) → Q (as.map f)) : dlc gi t dyes ge vs env Q Ed := by
  unfold dlc
  refine hgi _ ⟨fun i acc => ∃ as : List α, acc = as.map f ∧ as.length = i ∧ (∀ a ∈ as, P a) ∧ i ≤ ds.length, ⟨[], rfl, rfl, by simp, Nat.zero_le _⟩, fun i d acc ex ⟨as, e1, e2, e3, e4⟩ => ?_, fun acc ⟨as, e1, e2, e3, e4⟩ => ?_⟩
  · have hi : i < ds.length := (List.getElem?_eq_some_iff.mp ex).1
    simp only [dyes, if_true]
    refine he d (List.mem_of_getElem? ex) _ fun a ha => ⟨?_, as ++ [a], ?_, ?_, ?_, hi⟩
    · rw [e1, List.length_map]
      show _ < 16777216
      omega
    · rw [e1, List.map_append]
      rfl
    · rw [List.length_append, e2]
      rfl
    · intro y hy
      rcases List.mem_append.mp hy with hy | hy
      · exact e3 y hy
      · rw [List.mem_singleton.mp hy]
        exact ha
  · subst e1
    exact hq as e2 e3
abbrev s__law_floor : Stmt := top 80
theorem sc__law_floor : FnScope ["store", "many", "kind", "first", "found", "level", "part", "k"] ["store", "many"] (defScope s__law_floor) := ⟨rfl, rfl, rfl, by decide +kernel, rfl, by decide +kernel, by decide +kernel⟩
def S__law_floor : DSp := fun ds Q E => ∃ m : Int, ds = [.sto, .int m] ∧ 1 ≤ m ∧ m ≤ 5 ∧ ∀ qs : List Rat, (qs.length : Int) = m → (∀ q ∈ qs, Sz 150 q) → Q (.lst (qs.map fr))
theorem len__law_floor {ds : List D} {Q : D → Prop} {E : Ex → Prop} (h : S__law_floor ds Q E) : ds.length = 2 := by obtain ⟨m, h, _⟩ := h; rw [h]; rfl
theorem ok__law_floor (T : Txt P K mg) (h__law_height : Has P w K mg base "_law_height" 4 false S__law_height) (h__law_minus : Has P w K mg base "_law_minus" 3 false S__law_minus) (h__law_part : Has P w K mg base "_law_part" 3 false S__law_part) (h__law_plus : Has P w K mg base "_law_plus" 3 false S__law_plus) (h__law_small : Has P w K mg base "_law_small" 3 false S__law_small) (h__law_take : Has P w K mg base "_law_take" 2 false S__law_take) (h__law_times : Has P w K mg base "_law_times" 3 false S__law_times) (h__law_vast : Has P w K mg base "_law_vast" 4 false S__law_vast) {f : Addr} {fd : FuncData} (F : Fun K "_law_floor" "_law_floor" s__law_floor f fd) : FnOk P w K mg base (L2N.CX P w) 5 f fd ["store", "many"] (spD K mg true S__law_floor) := by
  refine fn_ok F sc__law_floor (fun ds Qd Ed h => len__law_floor h) (fun cdv Ar outer s H E R M ds Qd Ed hr hK hm h0 h => ?_)
  subst hK hm
  refine ⟨_, (gss_cons (gs_asg (i := 2) (ge_call (Has.call h__law_take (hr.mono (by decide)) (L2N.takes_of rfl rfl rfl rfl)) (gl_cons (ge_var (pv 0)) (gl_cons ge_int gl_nil)) h0) sc__law_floor.nd rfl (by first | exact Or.inl rfl | exact Or.inr rfl))
    (gss_cons (gs_asg (i := 3) (ge_call (Has.call h__law_small (hr.mono (by decide)) (L2N.takes_of rfl rfl rfl rfl)) (gl_cons (ge_var (pv 0)) gl_nil) h0) sc__law_floor.nd rfl (by first | exact Or.inl rfl | exact Or.inr rfl))
    (gss_cons (gs_asgLc (i := 4) (own := [("k", 7)]) (js := [7]) (by rfl) sc__law_floor.nd rfl rfl (sw_true rfl rfl rfl (by decide +kernel)) (gi_rng1 (by rfl) T.range (gl_cons (ge_var (pv 1)) gl_nil)) (by show blkC ["store", "many", "kind", "first", "found", "level", "part", "k"] (defScope s__law_floor) _ _ = true; decide +kernel) (by decide) (fun B hB _ _ _ _ _ => gg_name (i := 7) sc__law_floor.nd rfl (by first | exact Or.inl rfl | exact Or.inr rfl)) (fun B hB _ _ _ _ _ => gts_nil) (fun B hB _ _ _ _ _ => (ge_ix (ge_lst (gl_cons (ge_var (pv 3)) (gl_cons (ge_call (Has.call h__law_plus (hr.mono (by decide)) takesN) (gl_cons (ge_var (pv 3)) (gl_cons (ge_tup (gl_cons ge_int (gl_cons ge_int gl_nil))) gl_nil)) ((congrArg RC.hx hB).trans h0) (hK := congrArg RC.K hB) (hm := congrArg RC.mg hB)) gl_nil))) (ge_call (Has.call h__law_take (hr.mono (by decide)) takesN) (gl_cons (ge_var (pv 0)) (gl_cons ge_int gl_nil)) ((congrArg RC.hx hB).trans h0) (hK := congrArg RC.K hB) (hm := congrArg RC.mg hB)) (hK := congrArg RC.K hB))))
    (gss_cons (gs_if (gt_c (cm_eq (room_units hr)) (ge_var (pv 2)) ge_int) (gss_one (gs_retF (gf_lc (own := [("k", 7)]) (js := [7]) (by rfl) sc__law_floor.nd (gi_rng1 (by rfl) T.range (gl_cons (ge_var (pv 1)) gl_nil)) (by show blkC ["store", "many", "kind", "first", "found", "level", "part", "k"] (defScope s__law_floor) _ _ = true; decide +kernel) (by decide) (fun B hB _ _ _ _ _ => gg_name (i := 7) sc__law_floor.nd rfl (by first | exact Or.inl rfl | exact Or.inr rfl)) (fun B hB _ _ _ _ _ => gts_nil) (fun B hB _ _ _ _ _ => (ge_var (pv 3)))))) gss_nil)
    (gss_cons (gs_if (gt_c (cm_eq (room_units hr)) (ge_var (pv 2)) ge_int) (gss_one (gs_retF (gf_lc (own := [("k", 7)]) (js := [7]) (by rfl) sc__law_floor.nd (gi_rng1 (by rfl) T.range (gl_cons (ge_var (pv 1)) gl_nil)) (by show blkC ["store", "many", "kind", "first", "found", "level", "part", "k"] (defScope s__law_floor) _ _ = true; decide +kernel) (by decide) (fun B hB _ _ _ _ _ => gg_name (i := 7) sc__law_floor.nd rfl (by first | exact Or.inl rfl | exact Or.inr rfl)) (fun B hB _ _ _ _ _ => gts_nil) (fun B hB _ _ _ _ _ => (ge_call (Has.call h__law_times (hr.mono (by decide)) takesN) (gl_cons (ge_call (Has.call h__law_small (hr.mono (by decide)) takesN) (gl_cons (ge_var (pv 0)) gl_nil) ((congrArg RC.hx hB).trans h0) (hK := congrArg RC.K hB) (hm := congrArg RC.mg hB)) (gl_cons (ge_tup (gl_cons ge_int (gl_cons ge_int gl_nil))) gl_nil)) ((congrArg RC.hx hB).trans h0) (hK := congrArg RC.K hB) (hm := congrArg RC.mg hB)))))) gss_nil)
    (gss_cons (gs_if (gt_c (cm_eq (room_units hr)) (ge_var (pv 2)) ge_int) (gss_one (gs_retF (gf_lc (own := [("k", 7)]) (js := [7]) (by rfl) sc__law_floor.nd (gi_rng1 (by rfl) T.range (gl_cons (ge_var (pv 1)) gl_nil)) (by show blkC ["store", "many", "kind", "first", "found", "level", "part", "k"] (defScope s__law_floor) _ _ = true; decide +kernel) (by decide) (fun B hB _ _ _ _ _ => gg_name (i := 7) sc__law_floor.nd rfl (by first | exact Or.inl rfl | exact Or.inr rfl)) (fun B hB _ _ _ _ _ => gts_nil) (fun B hB _ _ _ _ _ => (ge_call (Has.call h__law_vast (hr.mono (by decide)) takesN) (gl_cons (ge_var (pv 0)) gl_nil) ((congrArg RC.hx hB).trans h0) (hK := congrArg RC.K hB) (hm := congrArg RC.mg hB)))))) gss_nil)
    (gss_cons (gs_if (gt_bor (i := 4) (GW.t (gw_and (gt_c (cm_eq (room_units hr)) (ge_var (pv 2)) ge_int) (gw_and1 (gt_c cm_gt (ge_var (pv 1)) ge_int))))) (gss_cons (gs_asgLc (i := 4) (own := [("k", 7)]) (js := [7]) (by rfl) sc__law_floor.nd rfl rfl (sw_true rfl rfl rfl (by decide +kernel)) (gi_rng1 (by rfl) T.range (gl_cons (ge_subI (ge_var (pv 1)) ge_int) gl_nil)) (by show blkC ["store", "many", "kind", "first", "found", "level", "part", "k"] (defScope s__law_floor) _ _ = true; decide +kernel) (by decide) (fun B hB _ _ _ _ _ => gg_name (i := 7) sc__law_floor.nd rfl (by first | exact Or.inl rfl | exact Or.inr rfl)) (fun B hB _ _ _ _ _ => gts_nil) (fun B hB _ _ _ _ _ => (ge_call (Has.call h__law_small (hr.mono (by decide)) takesN) (gl_cons (ge_var (pv 0)) gl_nil) ((congrArg RC.hx hB).trans h0) (hK := congrArg RC.K hB) (hm := congrArg RC.mg hB))))
    (gss_cons (gs_asg (i := 5) (ge_bor (i := 4) (ge_call (Has.call h__law_height (hr.mono (by decide)) (L2N.takes_of rfl rfl rfl rfl)) (gl_cons (ge_var (pv 4)) gl_nil) h0)) sc__law_floor.nd rfl (by first | exact Or.inl rfl | exact Or.inr rfl))
    (gss_cons (gs_asg (i := 6) (ge_ix (ge_lst (gl_cons (ge_call (Has.call h__law_part (hr.mono (by decide)) (L2N.takes_of rfl rfl rfl rfl)) (gl_cons (ge_var (pv 0)) gl_nil) h0) (gl_cons (ge_tup (gl_cons ge_int (gl_cons (ge_pow ge_int ge_int) gl_nil))) gl_nil))) (ge_call (Has.call h__law_take (hr.mono (by decide)) (L2N.takes_of rfl rfl rfl rfl)) (gl_cons (ge_var (pv 0)) (gl_cons ge_int gl_nil)) h0)) sc__law_floor.nd rfl (by first | exact Or.inl rfl | exact Or.inr rfl))
    (gss_cons (gs_asg (i := 5) (ge_ix (ge_lst (gl_cons (ge_var (pv 5)) (gl_cons (ge_call (Has.call h__law_plus (hr.mono (by decide)) (L2N.takes_of rfl rfl rfl rfl)) (gl_cons (ge_var (pv 5)) (gl_cons (ge_var (pv 6)) gl_nil)) h0) (gl_cons (ge_call (Has.call h__law_minus (hr.mono (by decide)) (L2N.takes_of rfl rfl rfl rfl)) (gl_cons (ge_var (pv 5)) (gl_cons (ge_var (pv 6)) gl_nil)) h0) gl_nil)))) (ge_call (Has.call h__law_take (hr.mono (by decide)) (L2N.takes_of rfl rfl rfl rfl)) (gl_cons (ge_var (pv 0)) (gl_cons ge_int gl_nil)) h0)) sc__law_floor.nd rfl (by first | exact Or.inl rfl | exact Or.inr rfl))
    (gss_one (gs_ins (pv 4) (ge_call (Has.call h__law_take (hr.mono (by decide)) (L2N.takes_of rfl rfl rfl rfl)) (gl_cons (ge_var (pv 0)) (gl_cons (ge_var (pv 1)) gl_nil)) h0) (ge_var (pv 5)))))))) gss_nil)
    (gss_cons (gs_if (gt_c (cm_eq (room_units hr)) (ge_var (pv 2)) ge_int) (gss_one (gs_asgLc (i := 4) (own := [("k", 7)]) (js := [7]) (by rfl) sc__law_floor.nd rfl rfl (sw_true rfl rfl rfl (by decide +kernel)) (gi_rng1 (by rfl) T.range (gl_cons (ge_var (pv 1)) gl_nil)) (by show blkC ["store", "many", "kind", "first", "found", "level", "part", "k"] (defScope s__law_floor) _ _ = true; decide +kernel) (by decide) (fun B hB _ _ _ _ _ => gg_name (i := 7) sc__law_floor.nd rfl (by first | exact Or.inl rfl | exact Or.inr rfl)) (fun B hB _ _ _ _ _ => gts_nil) (fun B hB _ _ _ _ _ => (ge_call (Has.call h__law_small (hr.mono (by decide)) takesN) (gl_cons (ge_var (pv 0)) gl_nil) ((congrArg RC.hx hB).trans h0) (hK := congrArg RC.K hB) (hm := congrArg RC.mg hB))))) gss_nil)
    (gss_one (gs_retO (pv 4))))))))))), ?_⟩
  obtain ⟨m, rfl, m1, m5, hq⟩ := h
  have hL : (LINE : Nat) = 16777216 := rfl
  have e100 : D.tup [.int 100, .int 1] = fr (Rat.divInt 100 1) := fr_lit (by decide) (by decide)
  have s100 : Sz 8 (Rat.divInt 100 1) := Sz.divInt (n := 7) (by decide) (by decide)
  have e25 : D.tup [.int 1, .int (10 ^ 25)] = fr (Rat.divInt 1 (10 ^ 25)) := fr_lit (by decide) (by simp)
  have s25 : Sz 90 (Rat.divInt 1 (10 ^ 25)) := Sz.divInt (n := 89) (by decide) (by decide)
  have any : ∀ {gi : DI} {ge : DE} {n : Int} {env : DEnv} {Q : List D → Prop} {Ed : Ex → Prop} (B : Nat), 0 ≤ n → n ≤ 5 → (∀ Q' : List D → Prop, Q' (rngD 0 n.toNat) → gi env Q' Ed) → (∀ d Q', (∀ q, Sz B q → Q' (fr q)) → dname 7 d (blkD env [7]) fun env2 => ge env2 Q' fun _ => False) → (∀ qs : List Rat, (qs.length : Int) = n → (∀ q ∈ qs, Sz B q) → Q (qs.map fr)) → dlc gi (dname 7) dyes ge [7] env Q Ed := by
    intro gi ge n env Q Ed B n0 n5 h2 he hq
    exact dlc_any fr (fun q : Rat => Sz B q) (ds := rngD 0 n.toNat) h2 (by rw [rngD_len]; omega) (fun d hd Q' h => he d Q' h) (fun as la ha => hq as (by rw [rngD_len] at la; omega) ha)
  refine ⟨6, rfl, by decide, fun k k1 k2 => ⟨rfl, fun f hf => ?_⟩⟩
  have eqi : ∀ j : Int, (D.eqv (.int k) (.int j) = true) ↔ k = j := fun j => by rw [eqv_int]; simp
  refine any (n := m) 20 (by omega) m5 (fun Q' h => ⟨by omega, by omega, h⟩) (fun d Q' h => ?_) fun qs ql hs => ?_
  · refine ⟨by show 2 ≤ 16777216; decide, _, 1, 6, rfl, hf, (Sz.one 0).mono (by decide), by decide, by show 2 ≤ 16777216; decide, 2, rfl, by decide, fun z z1 z2 => ?_⟩
    have hz : z = 0 ∨ z = 1 := by omega
    rcases hz with rfl | rfl
    · exact ⟨_, rfl, h _ (hf.mono (by decide))⟩
    · exact ⟨_, rfl, h _ ((hf.add (Sz.one 0)).mono (by decide))⟩
  · refine ⟨.inl rfl, ?_⟩
    show if D.eqv (.int k) (.int 0) = true then _ else _
    by_cases c0 : k = 0
    · refine ifp ((eqi 0).mpr c0) ?_
      exact any (n := m) 6 (by omega) m5 (fun Q' h => ⟨by omega, by omega, h⟩) (fun d Q' h => h f hf) fun qs ql hs => hq qs ql fun q hq => (hs q hq).mono (by decide)
    refine ifn (fun z => c0 ((eqi 0).mp z)) ?_
    refine ⟨.inl rfl, ?_⟩
    show if D.eqv (.int k) (.int 2) = true then _ else _
    by_cases c2 : k = 2
    · refine ifp ((eqi 2).mpr c2) ?_
      exact any (n := m) 14 (by omega) m5 (fun Q' h => ⟨by omega, by omega, h⟩) (fun d Q' h => ⟨rfl, fun q hq => ⟨by show 2 ≤ 16777216; decide, q, Rat.divInt 100 1, 8, by rw [← e100], hq.mono (by decide), s100, by decide, h _ (hq.mul s100)⟩⟩) fun qs ql hs => hq qs ql fun q hq => (hs q hq).mono (by decide)
    refine ifn (fun z => c2 ((eqi 2).mp z)) ?_
    refine ⟨.inl rfl, ?_⟩
    show if D.eqv (.int k) (.int 3) = true then _ else _
    by_cases c3 : k = 3
    · refine ifp ((eqi 3).mpr c3) ?_
      exact any (n := m) 140 (by omega) m5 (fun Q' h => ⟨by omega, by omega, h⟩) (fun d Q' h => ⟨rfl, fun q hq => h q hq⟩) fun qs ql hs => hq qs ql fun q hq => (hs q hq).mono (by decide)
    refine ifn (fun z => c3 ((eqi 3).mp z)) ?_
    refine ⟨.inl rfl, ?_⟩
    have last : ∀ (xs : List Rat) (x5 x6 x7 : SD), (xs.length : Int) = m → (∀ q ∈ xs, Sz 150 q) → dseq (dif (dtest (dop dEq (dvar 2) (dk (D.int 5)))) (dasgO 4 (dlc (diR1 (dcons (dvar 1) dnil)) (dname 7) dyes (dcall S__law_small (dcons (dvar 0) dnil)) [7])) dnext) (dretO 4) (endD true Qd Ed) [.val .sto, .val (.int m), .val (.int k), .val (fr f), .own (xs.map fr), x5, x6, x7] := by
      intro xs x5 x6 x7 hl hx
      refine ⟨.inl rfl, ?_⟩
      show if D.eqv (.int k) (.int 5) = true then _ else _
      by_cases c5 : k = 5
      · refine ifp ((eqi 5).mpr c5) ?_
        exact any (n := m) 6 (by omega) m5 (fun Q' h => ⟨by omega, by omega, h⟩) (fun d Q' h => ⟨rfl, fun q hq => h q hq⟩) fun qs ql hs => hq qs ql fun q hq => (hs q hq).mono (by decide)
      · exact ifn (fun z => c5 ((eqi 5).mp z)) (hq xs hl hx)
    have skip := last qs .un .un .un ql fun q hq => (hs q hq).mono (by decide)
    show if D.eqv (.int k) (.int 4) = true then _ else _
    by_cases c4 : k = 4
    · refine ifp ((eqi 4).mpr c4) ?_
      show if decide (m > 1) = true then _ else _
      by_cases cm : m > 1
      · refine ifp (decide_eq_true cm) ?_
        refine any (n := m - 1) 6 (by omega) (by omega) (fun Q' h => ⟨show -(2 ^ 62) ≤ m - 1 by omega, show m - 1 < 2 ^ 62 by omega, h⟩) (fun d Q' h => ⟨rfl, fun q hq => h q hq⟩) fun ys yl hy => ?_
        refine ⟨ys, 6, rfl, hy, by omega, by omega, by decide, fun L sL => ⟨rfl, rfl, fun p p0 sp => ?_⟩⟩
        have sL : Sz 58 L := sL
        refine ⟨⟨by decide, by decide, by decide⟩, by show 2 ≤ 16777216; decide, by show 2 ≤ 16777216; decide, 2, rfl, by decide, fun z z1 z2 => ?_⟩
        have hp : ∃ p2 : Rat, L2.atI [fr p, D.tup [.int 1, .int (10 ^ 25)]] z = some (fr p2) ∧ Sz 90 p2 := by
          rw [e25]
          have hz : z = 0 ∨ z = 1 := by omega
          rcases hz with rfl | rfl
          · exact ⟨_, rfl, sp⟩
          · exact ⟨_, rfl, s25⟩
        obtain ⟨p2, e2, sp2⟩ := hp
        refine ⟨_, e2, L, p2, 90, rfl, sL.mono (by decide), sp2, by decide, L, p2, 90, rfl, sL.mono (by decide), sp2, by decide, by show 3 ≤ 16777216; decide, 3, rfl, by decide, fun u u1 u2 => ?_⟩
        have hv : ∃ v : Rat, L2.atI [fr L, fr (L + p2), fr (L - p2)] u = some (fr v) ∧ Sz 150 v := by
          have hu : u = 0 ∨ u = 1 ∨ u = 2 := by omega
          rcases hu with rfl | rfl | rfl
          · exact ⟨_, rfl, sL.mono (by decide)⟩
          · exact ⟨_, rfl, (sL.add sp2).mono (by decide)⟩
          · exact ⟨_, rfl, (sL.sub sp2).mono (by decide)⟩
        obtain ⟨v, ev, sv⟩ := hv
        refine ⟨_, ev, m, rfl, by omega, fun n n1 n2 => ⟨by rw [List.length_map]; omega, n, rfl, n1, by omega, ?_⟩⟩
        rw [frs_ins]
        refine last _ _ _ _ ?_ fun q hq => ?_
        · rw [List.length_append, List.length_append, List.length_take, List.length_drop]
          show ((min n.toNat ys.length + 1 + (ys.length - n.toNat) : Nat) : Int) = m
          omega
        · rcases List.mem_append.mp hq with h | h
          · rcases List.mem_append.mp h with h | h
            · exact (hy q (List.mem_of_mem_take h)).mono (by decide)
            · rw [List.mem_singleton.mp h]
              exact sv
          · exact (hy q (List.mem_of_mem_drop h)).mono (by decide)
      · exact ifn (fun z => cm (of_decide_eq_true z)) skip
    · exact ifn (fun z => c4 ((eqi 4).mp z)) skip
end
end LW
set_option maxRecDepth 100000
set_option maxHeartbeats 4000000
namespace LW
open PySem PySem.Spec PyProof.Rows L2 Nb TL
section
variable {P : Program} {w : World} {K : PySem.W.Frag} {mg : Str → Option Value} {base : Heap}
theorem pour_perm {h : Rat} {a b : List Rat} (p : a.Perm b) : pour a h = pour b h := by
  induction p with
  | nil => rfl
  | cons x _ ih => rw [pour_cons, pour_cons, ih]
  | swap x y l => rw [pour_cons, pour_cons, pour_cons, pour_cons]; grind
  | trans _ _ i1 i2 => exact i1.trans i2
theorem height_perm {a b : List Rat} (p : a.Perm b) (h0 : 0 < a.length) : height a = height b :=
  height_of_pour h0 ((pour_perm p).trans (height_pour (by rw [← p.length_eq]; exact h0)))
def turnQ (ms : List Rat) (p : List Nat) : List Rat := p.map fun k => ms.getD k 0
theorem turn_len (ms : List Rat) (p : List Nat) : (turnQ ms p).length = p.length := List.length_map ..
theorem turn_perm {ms : List Rat} {p : List Nat} (h : p.Perm (List.range ms.length)) : (turnQ ms p).Perm ms := by
  refine (h.map fun k => ms.getD k 0).trans (.of_eq ?_)
  refine List.ext_getElem (by simp) fun i h1 h2 => ?_
  rw [List.getElem_map, List.getElem_range]
  simp [List.getD, h2]
theorem perm_lt {n : Nat} {p : List Nat} (h : p.Perm (List.range n)) : ∀ k ∈ p, k < n := fun k hk => List.mem_range.mp (h.mem_iff.mp hk)
theorem perm_len {n : Nat} {p : List Nat} (h : p.Perm (List.range n)) : p.length = n := by rw [h.length_eq, List.length_range]
theorem dlc_nums {n : Nat} {gi : DI} {t : DG} {ge : DE} {vs : List Nat} {env : DEnv} {Q : List D → Prop} {Ed : Ex → Prop} {ds : List D} {rs : List Rat} (hgi : ∀ Q' : List D → Prop, Q' ds → gi env Q' Ed) (hl : ds.length ≤ 1000000) (hr : ds.length = rs.length)
    (he : ∀ (i : Nat) (d : D) (q : Rat), ds[i]? = some d → rs[i]? = some q → ∀ Q' : D → Prop, (∀ y, Num n y q → Q' y) → t d (blkD env vs) fun env2 => ge env2 Q' fun _ => False) (hq : ∀ ys, Nums n ys rs → Q ys) : dlc gi t dyes ge vs env Q Ed := by
  unfold dlc
  refine hgi _ ⟨fun i acc => Nums n acc (rs.take i) ∧ i ≤ rs.length, ⟨Nums.nil _, Nat.zero_le _⟩, fun i d acc ex ⟨ha, hi⟩ => ?_, fun acc ⟨ha, _⟩ => ?_⟩
  · have hlt : i < ds.length := (List.getElem?_eq_some_iff.mp ex).1
    have hlt2 : i < rs.length := by omega
    have eq := List.getElem?_eq_getElem hlt2
    simp only [dyes, if_true]
    refine he i d _ ex eq _ fun y hy => ⟨?_, ?_, hlt2⟩
    · have := ha.1
      rw [List.length_take] at this
      show acc.length < 16777216
      omega
    · rw [List.take_add_one, eq]
      exact ha.snoc hy
  · rw [hr, List.take_length] at ha
    exact hq acc ha
theorem ints_get {p : List Nat} {i : Nat} {d : D} (h : (intsD p)[i]? = some d) : ∃ hi : i < p.length, d = .int ((p[i] : Nat) : Int) := by
  unfold intsD at h
  rw [List.getElem?_map] at h
  obtain ⟨k, hk, rfl⟩ := Option.map_eq_some_iff.mp h
  obtain ⟨hi, rfl⟩ := List.getElem?_eq_some_iff.mp hk
  exact ⟨hi, rfl⟩
theorem at_nat {l : List D} {k : Nat} {d : D} (h : l[k]? = some d) : L2.atI l ((k : Nat) : Int) = some d := by
  obtain ⟨hi, rfl⟩ := List.getElem?_eq_some_iff.mp h
  exact atI_nat hi
theorem rng_ints (k : Nat) : rngD 0 k = intsD (List.range k) := by
  unfold rngD intsD
  exact List.map_congr_left fun i _ => by rw [Int.zero_add]
theorem rng_of {ds : List D} {n : Nat} {Q : List D → Prop} {c : Prop} (hl : ds.length = n) (hn : n ≤ 1000000) (h : Q (intsD (List.range n))) : -(2 ^ 62) ≤ ((ds.length : Nat) : Int) ∧ ((ds.length : Nat) : Int) < 2 ^ 62 ∧ Q (rngD 0 ((ds.length : Nat) : Int).toNat) := by
  rw [hl, ← rng_ints] at *
  exact ⟨by omega, by omega, h⟩
theorem shr_sum (h : Rat) (qs : List Rat) : sumQ (qs.map (shr1 h)) = pour qs h := rfl
theorem Sz.nat5 {n : Nat} (h : n ≤ 5) : Sz 3 ((n : Nat) : Rat) := by
  refine ⟨?_, ?_⟩
  · show n < 2 ^ 3
    omega
  · show 1 < 2 ^ 3
    decide
theorem pour_sz {qs : List Rat} {h : Rat} (hs : ∀ q ∈ qs, Sz 150 q) (h5 : qs.length ≤ 5) (hh : Sz 924 h) : Sz 1850 (pour qs h) := by
  have e : pour qs h = pour (qs.filter fun q => decide (q < h)) h := (pour_filter _ _ qs fun q _ hp => by
    have := of_decide_eq_false hp
    grind).symm
  rw [e, pour_low _ _ fun q hq => by
    have := of_decide_eq_true (List.mem_filter.mp hq).2
    grind]
  have hl : (qs.filter fun q => decide (q < h)).length ≤ 5 := Nat.le_trans (List.length_filter_le _ _) h5
  exact (((Sz.nat5 hl).mul hh).sub (sumQ_sz (fun q hq => hs q (List.mem_filter.mp hq).1) hl)).mono (by decide)
theorem shares_ok {qs : List Rat} {h : Rat} (hs : ∀ q ∈ qs, Sz 150 q) (h5 : qs.length ≤ 5) (hh : Sz 924 h) : SumOk (qs.map (shr1 h)) := by
  refine ⟨fun q hq => ?_, fun i => ?_⟩
  · obtain ⟨x, hx, rfl⟩ := List.mem_map.mp hq
    unfold shr1
    split
    · exact (hh.sub (hs x hx)).mono (by decide)
    · exact (Sz.zero 0).mono (by decide)
  · rw [← List.map_take, shr_sum]
    exact (pour_sz (fun q hq => hs q (List.mem_of_mem_take hq)) (by rw [List.length_take]; omega) hh).mono (by decide)
theorem Num.pl2 {n : Nat} {d : D} {q : Rat} (h : Num n d q) : Pl 2 d := by
  rcases h with ⟨z, rfl, _⟩ | ⟨a, b, rfl, _⟩
  · exact Pl.flat rfl
  · exact Pl.tup (by show 2 ≤ 1000000; decide) fun e he => by
      simp only [List.mem_cons, List.not_mem_nil, or_false] at he
      rcases he with rfl | rfl <;> exact Pl.flat rfl
theorem Nums.pl {n : Nat} {ds : List D} {qs : List Rat} (h : Nums n ds qs) : ∀ e ∈ ds, Pl 2 e := fun x hx => by
  obtain ⟨i, hi, e⟩ := List.mem_iff_getElem.mp hx
  have e' : ds[i]? = some x := by rw [List.getElem?_eq_getElem hi, e]
  exact (h.2 i x _ e' (List.getElem?_eq_getElem (by rw [← h.1]; exact hi))).pl2
theorem nlL_of {l : List D} (h : ∀ e ∈ l, D.nl e = true) : D.nlL l = true := by
  induction l with
  | nil => rfl
  | cons k o ih =>
    rw [D.nlL, Bool.and_eq_true]
    exact ⟨h k List.mem_cons_self, ih fun e he => h e (List.mem_cons_of_mem _ he)⟩
theorem Num.nl {n : Nat} {d : D} {q : Rat} (h : Num n d q) : d.nl = true := by
  rcases h with ⟨z, rfl, _⟩ | ⟨a, b, rfl, _⟩ <;> rfl
theorem Nums.item {n : Nat} {ds : List D} {qs : List Rat} (h : Nums n ds qs) : ∀ e ∈ ds, ∃ q, Num n e q := fun x hx => by
  obtain ⟨i, hi, e⟩ := List.mem_iff_getElem.mp hx
  have e' : ds[i]? = some x := by rw [List.getElem?_eq_getElem hi, e]
  exact ⟨_, h.2 i x _ e' (List.getElem?_eq_getElem (by rw [← h.1]; exact hi))⟩
theorem Nums.set {n : Nat} {ds : List D} {qs : List Rat} {d : D} {q : Rat} {i : Nat} (h : Nums n ds qs) (k : Num n d q) : Nums n (ds.set i d) (qs.set i q) := by
  refine ⟨by rw [List.length_set, List.length_set]; exact h.1, fun j e p h1 h2 => ?_⟩
  rw [List.getElem?_set] at h1 h2
  by_cases c : i = j
  · rw [if_pos c] at h1 h2
    split at h1
    · split at h2
      · cases h1
        cases h2
        exact k
      · cases h2
    · cases h1
  · rw [if_neg c] at h1 h2
    exact h.2 j e p h1 h2
theorem vals_of {n : Nat} {ds : List D} {qs : List Rat} (h : Nums n ds qs) : (ds.map fun d => fr ((numD d).getD 0)) = qs.map fr := by
  have e := h.map
  have : (ds.map fun d => fr ((numD d).getD 0)) = (ds.map numD).map fun o => fr (o.getD 0) := by
    rw [List.map_map]
    rfl
  rw [this, e, List.map_map]
  rfl
end
end LW
set_option maxRecDepth 100000
set_option maxHeartbeats 4000000
namespace LW
open PySem PySem.Spec PyProof.Rows L2 Nb TL
section
variable {P : Program} {w : World} {K : PySem.W.Frag} {mg : Str → Option Value} {base : Heap}
abbrev s__law_spoil : Stmt := top 74
theorem sc__law_spoil : FnScope ["thing", "depth", "k"] ["thing", "depth"] (defScope s__law_spoil) := ⟨rfl, rfl, rfl, by decide +kernel, rfl, by decide +kernel, by decide +kernel⟩
/-- a flat thing or a tuple is left as it is -/
def S__law_spoil : DSp := fun ds Q E => ∃ d, ds = [d, .int 0] ∧ d.shal = true ∧ Q .non
theorem len__law_spoil {ds : List D} {Q : D → Prop} {E : Ex → Prop} (h : S__law_spoil ds Q E) : ds.length = 2 := by obtain ⟨n, h, _⟩ := h; rw [h]; rfl
theorem ok__law_spoil0 (T : Txt P K mg) {f : Addr} {fd : FuncData} (F : Fun K "_law_spoil" "_law_spoil" s__law_spoil f fd) : FnOk P w K mg base (L2N.CX P w) 1 f fd ["thing", "depth"] (spD K mg false S__law_spoil) := by
  refine fn_ok F sc__law_spoil (fun ds Qd Ed h => len__law_spoil h) (fun cdv Ar outer s H E R M ds Qd Ed hr hK hm h0 h => ?_)
  subst hK hm
  refine ⟨_, (gss_cons (gs_if (GW.t (gw_and (gt_c cm_gt (ge_var (pv 1)) ge_int) (gw_and1 gt_dead))) (gss_one gs_dead) gss_nil)
    (gss_one (gs_if (gt_val (ge_blt (b_isi) (by rfl) T.isinstance PyProof.Rows.boot_isinstance (gl_cons (ge_var (pv 0)) (gl_cons (ge_tyc (n := "list") (by rfl) T.list) gl_nil)))) (gss_cons gs_dead (gss_one gs_dead)) gss_nil))), ?_⟩
  obtain ⟨d, rfl, hf, hq⟩ := h
  cases d <;> first | (cases hf; done) | skip
  all_goals
    simp (decide := true) only [↓reduceIte, disX, dxf, dcallQ, dcallQF, eqv_strs, sgnD_eq, draise1, fAll, diR1, diR2, diL, diT, diS, dname, dapp, dappPop, dlenO, dixO, dretO, dSl, donone, dosome, dyes, dfv, dm1, fJoin, fIndex, fListF, fSortT, dRev, dIn, dNotIn, difE, fMax, fMin, fStr, fList, dseq, dif, dret, dretN, dretF, dretO, dasg, dasgO, dexpr, dnext, dop, dopF, dk, dvar, dcons, dnil, dlst, dflst, dtup, dIx, dI0, dII, dB0, dtest, dtruth, dand, dor, dnot, dcb, dcbF, dcall, dcallF, dixS, dsetS, dinS, difS, fLen, fInt, fAbs, endD, scD, SOK, dEq, dNe, eqv_int, eqv_str, eqv_bl, beq_iff_eq, decide_eq_true_eq, Bool.not_eq_true, Bool.not_eq_true', true_and, and_true, and_self, false_and, and_false, reduceCtorEq, true_or, or_true, true_implies, if_true, if_false, Bool.false_eq_true, not_false_eq_true, dAdd, dMul, dAddF, List.getElem?_cons_zero, List.getElem?_cons_succ, List.set_cons_zero, List.set_cons_succ, eq_self, draise0, draiseN, ddead, fGcd, fSum, diV, dgtup, dgcons, dgnil, dasgG, dNeg, dmut, dseti, dlenO, dixO, difE, dandV, dorV, dnotV, dchain, dIsN, dNotN, dMul, dAdd, start_def, List.map_cons, List.map_nil, List.length_cons, List.length_nil, List.replicate_succ, List.replicate_zero, List.cons_append, List.nil_append, Nat.reduceAdd, Nat.reduceSub, Nat.reduceLeDiff, Nb.LINE, isi_non_int, isi_non_bool, isi_non_str, isi_non_tuple, isi_non_list, isi_bl_int, isi_bl_bool, isi_bl_str, isi_bl_tuple, isi_bl_list, isi_int_int, isi_int_bool, isi_int_str, isi_int_tuple, isi_int_list, isi_str_int, isi_str_bool, isi_str_str, isi_str_tuple, isi_str_list, isi_tup_int, isi_tup_bool, isi_tup_str, isi_tup_tuple, isi_tup_list, isi_lst_int, isi_lst_bool, isi_lst_str, isi_lst_tuple, isi_lst_list, isi_dct_int, isi_dct_bool, isi_dct_str, isi_dct_tuple, isi_dct_list, ddct0, dint, fTuple, fListF, fList, pow10_iff, Int.reduceLE, Int.reduceLT, Int.reduceToNat]
    exact hq
theorem ok__law_spoil (T : Txt P K mg) (h0 : Has P w K mg base "_law_spoil" 1 false S__law_spoil) {f : Addr} {fd : FuncData} (F : Fun K "_law_spoil" "_law_spoil" s__law_spoil f fd) : FnOk P w K mg base (L2N.CX P w) 2 f fd ["thing", "depth"] (spSpT K mg) := by
  refine fn_okSpT F sc__law_spoil (fun cdv Ar outer s H E A ds hr hK hm hx0 hfr hf hl => ?_)
  refine ⟨_, (gss_cons (gs_if (gt_bor (i := 0) (GW.t (gw_and (gt_c cm_gt (ge_var (pv 1)) ge_int) (gw_and1 (gt_val (ge_isi2 hK T.list T.tuple T.isinstance (ge_var (pv 0)))))))) (gss_one (gs_for (passes_of rfl) (by rfl) (gi_rng1 (by rfl) T.range (gl_cons (ge_lenO (pv 0) (by rfl) T.len) gl_nil)) (gg_name (i := 2) sc__law_spoil.nd rfl (by first | exact Or.inl rfl | exact Or.inr rfl)) (gss_one (gs_expr (ge_call (Has.call h0 (hr.mono (by decide)) (L2N.takes_of rfl rfl rfl rfl)) (gl_cons (ge_ixO (pv 0) (ge_var (pv 2))) (gl_cons (ge_subI (ge_var (pv 1)) ge_int) gl_nil)) hx0 (hK := hK) (hm := hm)))))) gss_nil)
    (gss_one (gs_if (gt_bor (i := 0) (gt_val (ge_blt (b_isi (hK := hK)) (by rfl) T.isinstance PyProof.Rows.boot_isinstance (gl_cons (ge_var (pv 0)) (gl_cons (ge_tyc (n := "list") (by rfl) T.list) gl_nil))))) (gss_cons (gs_rev (pv 0)) (gss_one (gs_app (pv 0) ge_non))) gss_nil))), ?_⟩
  have hL : (LINE : Nat) = 16777216 := rfl
  have e1 : kitB "list" "list" = some true := by decide +kernel
  have e2 : kitB "list" "tuple" = some false := by decide +kernel
  simp (decide := true) only [dbor, disi2, D.tyn, Option.some.injEq, exists_eq_left', e1, e2, Bool.true_or, ↓reduceIte, disX, dxf, dcallQ, dcallQF, eqv_strs, sgnD_eq, draise1, fAll, diR1, diR2, diL, diT, diS, dname, dapp, dappPop, dlenO, dixO, dretO, dSl, donone, dosome, dyes, dfv, dm1, fJoin, fIndex, fListF, fSortT, dRev, dIn, dNotIn, difE, fMax, fMin, fStr, fList, dseq, dif, dret, dretN, dretF, dretO, dasg, dasgO, dexpr, dnext, dop, dopF, dk, dvar, dcons, dnil, dlst, dflst, dtup, dIx, dI0, dII, dB0, dtest, dtruth, dand, dor, dnot, dcb, dcbF, dcall, dcallF, dixS, dsetS, dinS, difS, fLen, fInt, fAbs, endD, scD, SOK, dEq, dNe, eqv_int, eqv_str, eqv_bl, beq_iff_eq, decide_eq_true_eq, Bool.not_eq_true, Bool.not_eq_true', true_and, and_true, and_self, false_and, and_false, reduceCtorEq, true_or, or_true, true_implies, if_true, if_false, Bool.false_eq_true, not_false_eq_true, dAdd, dMul, dAddF, List.getElem?_cons_zero, List.getElem?_cons_succ, List.set_cons_zero, List.set_cons_succ, eq_self, draise0, draiseN, ddead, fGcd, fSum, diV, dgtup, dgcons, dgnil, dasgG, dNeg, dmut, dseti, dlenO, dixO, difE, dandV, dorV, dnotV, dchain, dIsN, dNotN, dMul, dAdd, start_def, List.map_cons, List.map_nil, List.length_cons, List.length_nil, List.replicate_succ, List.replicate_zero, List.cons_append, List.nil_append, Nat.reduceAdd, Nat.reduceSub, Nat.reduceLeDiff, Nb.LINE, isi_non_int, isi_non_bool, isi_non_str, isi_non_tuple, isi_non_list, isi_bl_int, isi_bl_bool, isi_bl_str, isi_bl_tuple, isi_bl_list, isi_int_int, isi_int_bool, isi_int_str, isi_int_tuple, isi_int_list, isi_str_int, isi_str_bool, isi_str_str, isi_str_tuple, isi_str_list, isi_tup_int, isi_tup_bool, isi_tup_str, isi_tup_tuple, isi_tup_list, isi_lst_int, isi_lst_bool, isi_lst_str, isi_lst_tuple, isi_lst_list, isi_dct_int, isi_dct_bool, isi_dct_str, isi_dct_tuple, isi_dct_list, ddct0, dint, fTuple, fListF, fList, pow10_iff, Int.reduceLE, Int.reduceLT, Int.reduceToNat]
  refine ⟨"list", true, false, rfl, e1, e2, ifp rfl ?_⟩
  refine for_r1 (n := ds.length) (fun _ env => ∃ x, env = [.own ds, .val (.int 1), x]) (by exact fun _ _ h => h) (by omega) (by omega) ⟨.un, rfl⟩ ?_ ?_
  · rintro i env' hi ⟨x, rfl⟩
    have hi : i < ds.length := by omega
    exact ⟨ds[i], Nb.atI_nat hi, ds[i], rfl, hf _ (List.getElem_mem hi), _, rfl⟩
  · rintro env' ⟨x, rfl⟩
    refine ⟨"list", true, rfl, e1, ifp rfl ?_⟩
    show ds.reverse.length < 16777216
    rw [List.length_reverse]
    omega
def S__law_copyF : DSp := fun ds Q E => ∃ es : List D, ds = [.lst es] ∧ es.length ≤ 1000 ∧ (∀ e ∈ es, Pl 2 e) ∧ Q (.lst es)
theorem len__law_copyF {ds : List D} {Q : D → Prop} {E : Ex → Prop} (h : S__law_copyF ds Q E) : ds.length = 1 := by obtain ⟨g, h, _⟩ := h; rw [h]; rfl
theorem ok__law_copyF (T : Txt P K mg) (h__law_copy : Has P w K mg base "_law_copy" 5 false S__law_copy) {f : Addr} {fd : FuncData} (F : Fun K "_law_copy" "_law_copy" s__law_copy f fd) : FnOk P w K mg base (L2N.CX P w) 6 f fd ["thing"] (spD K mg true S__law_copyF) := by
  refine fn_ok F sc__law_copy (fun ds Qd Ed h => len__law_copyF h) (fun cdv Ar outer s H E R M ds Qd Ed hr hK hm h0 h => ?_)
  subst hK hm
  refine ⟨_, (gss_cons (gs_if (gt_val (ge_blt (b_isi) (by rfl) T.isinstance PyProof.Rows.boot_isinstance (gl_cons (ge_var (pv 0)) (gl_cons (ge_tyc (n := "list") (by rfl) T.list) gl_nil)))) (gss_one (gs_retF (gf_lc (own := [("part", 1)]) (js := [1]) (by rfl) sc__law_copy.nd (gi_list (ge_var (pv 0))) (by show blkC ["thing", "part"] (defScope s__law_copy) _ _ = true; decide +kernel) (by decide) (fun B hB _ _ _ _ _ => gg_name (i := 1) sc__law_copy.nd rfl (by first | exact Or.inl rfl | exact Or.inr rfl)) (fun B hB _ _ _ _ _ => gts_nil) (fun B hB _ _ _ _ _ => (ge_call (Has.call h__law_copy (hr.mono (by decide)) takesN) (gl_cons (ge_var (pv 1)) gl_nil) ((congrArg RC.hx hB).trans h0) (hK := congrArg RC.K hB) (hm := congrArg RC.mg hB)))))) gss_nil)
    (gss_cons (gs_if (gt_val (ge_blt (b_isi) (by rfl) T.isinstance PyProof.Rows.boot_isinstance (gl_cons (ge_var (pv 0)) (gl_cons (ge_tyc (n := "tuple") (by rfl) T.tuple) gl_nil)))) (gss_one gs_dead) gss_nil)
    (gss_one gs_dead))), ?_⟩
  obtain ⟨es, rfl, hl, he, hq⟩ := h
  have hL : (LINE : Nat) = 16777216 := rfl
  simp only [↓reduceIte, disX, dxf, dcallQ, dcallQF, eqv_strs, sgnD_eq, draise1, fAll, diR1, diR2, diL, diT, diS, dname, dapp, dappPop, dlenO, dixO, dretO, dSl, donone, dosome, dyes, dfv, dm1, fJoin, fIndex, fListF, fSortT, dRev, dIn, dNotIn, difE, fMax, fMin, fStr, fList, dseq, dif, dret, dretN, dretF, dretO, dasg, dasgO, dexpr, dnext, dop, dopF, dk, dvar, dcons, dnil, dlst, dflst, dtup, dIx, dI0, dII, dB0, dtest, dtruth, dand, dor, dnot, dcb, dcbF, dcall, dcallF, dixS, dsetS, dinS, difS, fLen, fInt, fAbs, endD, scD, SOK, dEq, dNe, eqv_int, eqv_str, eqv_bl, beq_iff_eq, decide_eq_true_eq, Bool.not_eq_true, Bool.not_eq_true', true_and, and_true, and_self, false_and, and_false, reduceCtorEq, true_or, or_true, true_implies, if_true, if_false, Bool.false_eq_true, not_false_eq_true, dAdd, dMul, dAddF, List.getElem?_cons_zero, List.getElem?_cons_succ, List.set_cons_zero, List.set_cons_succ, eq_self, draise0, draiseN, ddead, fGcd, fSum, diV, dgtup, dgcons, dgnil, dasgG, dNeg, dmut, dseti, dlenO, dixO, difE, dandV, dorV, dnotV, dchain, dIsN, dNotN, dMul, dAdd, start_def, List.map_cons, List.map_nil, List.length_cons, List.length_nil, List.replicate_succ, List.replicate_zero, List.cons_append, List.nil_append, Nat.reduceAdd, Nat.reduceSub, Nat.reduceLeDiff, Nb.LINE, isi_non_int, isi_non_bool, isi_non_str, isi_non_tuple, isi_non_list, isi_bl_int, isi_bl_bool, isi_bl_str, isi_bl_tuple, isi_bl_list, isi_int_int, isi_int_bool, isi_int_str, isi_int_tuple, isi_int_list, isi_str_int, isi_str_bool, isi_str_str, isi_str_tuple, isi_str_list, isi_tup_int, isi_tup_bool, isi_tup_str, isi_tup_tuple, isi_tup_list, isi_lst_int, isi_lst_bool, isi_lst_str, isi_lst_tuple, isi_lst_list, isi_dct_int, isi_dct_bool, isi_dct_str, isi_dct_tuple, isi_dct_list, ddct0, dint, fTuple, fListF, fList, pow10_iff, Int.reduceLE, Int.reduceLT, Int.reduceToNat]
  exact dlc_map (ds := es) id (fun Q' h => h) (by omega) (fun d hd Q' h => copy_of (Pl.mono (he d hd)) h) (by rw [List.map_id]; exact hq)
end
end LW
set_option maxRecDepth 100000
set_option maxHeartbeats 4000000
namespace LW
open PySem PySem.Spec PyProof.Rows L2 Nb TL
section
variable {P : Program} {w : World} {K : PySem.W.Frag} {mg : Str → Option Value} {base : Heap}
abbrev s_fill : Stmt := top 45
theorem sc_fill : FnScope ["levels"] ["levels"] (defScope s_fill) := ⟨rfl, rfl, rfl, by decide +kernel, rfl, by decide +kernel, by decide +kernel⟩
def S_fill : DSp := fun ds Q E => ∃ d xs, ds = [d] ∧ (d = .lst xs ∨ d = .tup xs) ∧ AskN xs (fun qs => Q (fr (height qs - 1))) (E ("BadNumber", [])) (E (cntE xs))
theorem len_fill {ds : List D} {Q : D → Prop} {E : Ex → Prop} (h : S_fill ds Q E) : ds.length = 1 := by obtain ⟨m, t, h, _⟩ := h; rw [h]; rfl
theorem ok_fill (T : Txt P K mg) (h_checked_levels : Has P w K mg base "checked_levels" 4 true S_checked_levels) (h_step_of : Has P w K mg base "step_of" 5 false S_step_of) {f : Addr} {fd : FuncData} (F : Fun K "fill" "fill" s_fill f fd) : FnOk P w K mg base (L2N.CX P w) 6 f fd ["levels"] (spD K mg false S_fill) := by
  refine fn_ok F sc_fill (fun ds Qd Ed h => len_fill h) (fun cdv Ar outer s H E R M ds Qd Ed hr hK hm h0 h => ?_)
  subst hK hm
  refine ⟨_, (gss_one (gs_ret (ge_call (Has.call h_step_of (hr.mono (by decide)) (L2N.takes_of rfl rfl rfl rfl)) (gl_cons (GF.e (gf_call (Has.call h_checked_levels (hr.mono (by decide)) (L2N.takes_of rfl rfl rfl rfl)) (gl_cons (ge_var (pv 0)) gl_nil) h0)) gl_nil) h0))), ?_⟩
  obtain ⟨d, xs, rfl, hd, h1, hc, hq, he, hr⟩ := h
  refine ⟨d, xs, rfl, hd, h1, hc, fun a b qs e => ?_, fun a b h => he a b h, fun h => hr h⟩
  obtain ⟨hs, q⟩ := hq a b qs e
  have := map_len e
  exact ⟨qs, 1000, rfl, hs, by omega, by omega, by omega, q⟩
def shD (qs : List Rat) : D := .tup ((qs.map (shr1 (height qs))).map fr)
theorem shD_eq (qs : List Rat) : D.tup (qs.map fun l => fr (if l < height qs then height qs - l else 0)) = shD qs := by
  unfold shD
  rw [List.map_map]
  rfl
abbrev s_fill_shares : Stmt := top 46
theorem sc_fill_shares : FnScope ["levels"] ["levels"] (defScope s_fill_shares) := ⟨rfl, rfl, rfl, by decide +kernel, rfl, by decide +kernel, by decide +kernel⟩
def S_fill_shares : DSp := fun ds Q E => ∃ d xs, ds = [d] ∧ (d = .lst xs ∨ d = .tup xs) ∧ AskN xs (fun qs => Q (shD qs)) (E ("BadNumber", [])) (E (cntE xs))
theorem len_fill_shares {ds : List D} {Q : D → Prop} {E : Ex → Prop} (h : S_fill_shares ds Q E) : ds.length = 1 := by obtain ⟨m, t, h, _⟩ := h; rw [h]; rfl
theorem ok_fill_shares (T : Txt P K mg) (h_checked_levels : Has P w K mg base "checked_levels" 4 true S_checked_levels) (h_shares_of : Has P w K mg base "shares_of" 5 false S_shares_of) {f : Addr} {fd : FuncData} (F : Fun K "fill_shares" "fill_shares" s_fill_shares f fd) : FnOk P w K mg base (L2N.CX P w) 6 f fd ["levels"] (spD K mg false S_fill_shares) := by
  refine fn_ok F sc_fill_shares (fun ds Qd Ed h => len_fill_shares h) (fun cdv Ar outer s H E R M ds Qd Ed hr hK hm h0 h => ?_)
  subst hK hm
  refine ⟨_, (gss_one (gs_ret (ge_call (Has.call h_shares_of (hr.mono (by decide)) (L2N.takes_of rfl rfl rfl rfl)) (gl_cons (GF.e (gf_call (Has.call h_checked_levels (hr.mono (by decide)) (L2N.takes_of rfl rfl rfl rfl)) (gl_cons (ge_var (pv 0)) gl_nil) h0)) gl_nil) h0))), ?_⟩
  obtain ⟨d, xs, rfl, hd, h1, hc, hq, he, hr⟩ := h
  refine ⟨d, xs, rfl, hd, h1, hc, fun a b qs e => ?_, fun a b h => he a b h, fun h => hr h⟩
  obtain ⟨hs, q⟩ := hq a b qs e
  have := map_len e
  exact ⟨qs, 1000, rfl, hs, by omega, by omega, by omega, by rw [shD_eq]; exact q⟩
abbrev s_is_fill : Stmt := top 47
theorem sc_is_fill : FnScope ["levels", "number", "step"] ["levels", "number"] (defScope s_is_fill) := ⟨rfl, rfl, rfl, by decide +kernel, rfl, by decide +kernel, by decide +kernel⟩
def S_is_fill : DSp := fun ds Q E => ∃ d xs y, ds = [d, y] ∧ (d = .lst xs ∨ d = .tup xs) ∧ AskN xs (fun qs => ChkOk y ∧ (∀ q, numD y = some q → Q (.bl (decide (q = height qs - 1)))) ∧ (numD y = none → E ("BadNumber", []))) (E ("BadNumber", [])) (E (cntE xs))
theorem len_is_fill {ds : List D} {Q : D → Prop} {E : Ex → Prop} (h : S_is_fill ds Q E) : ds.length = 2 := by obtain ⟨m, t, _, h, _⟩ := h; rw [h]; rfl
theorem ok_is_fill (T : Txt P K mg) (h_checked : Has P w K mg base "checked" 2 false S_checked) (h_fill : Has P w K mg base "fill" 6 false S_fill) {f : Addr} {fd : FuncData} (F : Fun K "is_fill" "is_fill" s_is_fill f fd) : FnOk P w K mg base (L2N.CX P w) 7 f fd ["levels", "number"] (spD K mg false S_is_fill) := by
  refine fn_ok F sc_is_fill (fun ds Qd Ed h => len_is_fill h) (fun cdv Ar outer s H E R M ds Qd Ed hr hK hm h0 h => ?_)
  subst hK hm
  refine ⟨_, (gss_cons (gs_asg (i := 2) (ge_call (Has.call h_fill (hr.mono (by decide)) (L2N.takes_of rfl rfl rfl rfl)) (gl_cons (ge_var (pv 0)) gl_nil) h0) sc_is_fill.nd rfl (by first | exact Or.inl rfl | exact Or.inr rfl))
    (gss_one (gs_ret (ge_c (cm_eq (room_units hr)) (ge_call (Has.call h_checked (hr.mono (by decide)) (L2N.takes_of rfl rfl rfl rfl)) (gl_cons (ge_var (pv 1)) gl_nil) h0) (ge_var (pv 2)))))), ?_⟩
  obtain ⟨d, xs, y, rfl, hd, h1, hc, hq, he, hr⟩ := h
  refine ⟨d, xs, rfl, hd, h1, hc, fun a b qs e => ⟨(hq a b qs e).1, ?_⟩, fun a b h => he a b h, fun h => hr h⟩
  obtain ⟨hs, ck, q1, q2⟩ := hq a b qs e
  refine ⟨y, rfl, ck, fun q e => ⟨.inr ⟨shp_fr _, shp_fr _⟩, ?_⟩, q2⟩
  rw [eqv_fr]
  exact q1 q e
abbrev s__law_poured : Stmt := top 81
theorem sc__law_poured : FnScope ["levels", "whole", "shares", "y"] ["levels", "whole", "shares"] (defScope s__law_poured) := ⟨rfl, rfl, rfl, by decide +kernel, rfl, by decide +kernel, by decide +kernel⟩
def S__law_poured : DSp := fun ds Q E => ∃ qs : List Rat, ds = [.lst (qs.map fr), fr (height qs - 1), shD qs] ∧ (∀ q ∈ qs, Sz 150 q) ∧ 0 < qs.length ∧ qs.length ≤ 5 ∧ Q (.bl true)
theorem len__law_poured {ds : List D} {Q : D → Prop} {E : Ex → Prop} (h : S__law_poured ds Q E) : ds.length = 3 := by obtain ⟨g, h, _⟩ := h; rw [h]; rfl
theorem ok__law_poured (T : Txt P K mg) (h__law_below : Has P w K mg base "_law_below" 1 false S__law_below) (h__law_is_sharing : Has P w K mg base "_law_is_sharing" 5 false S__law_is_sharing) (h__law_is_value : Has P w K mg base "_law_is_value" 2 false S__law_is_value) (h__law_minus : Has P w K mg base "_law_minus" 3 false S__law_minus) (h__law_plus : Has P w K mg base "_law_plus" 3 false S__law_plus) {f : Addr} {fd : FuncData} (F : Fun K "_law_poured" "_law_poured" s__law_poured f fd) : FnOk P w K mg base (L2N.CX P w) 6 f fd ["levels", "whole", "shares"] (spD K mg false S__law_poured) := by
  refine fn_ok F sc__law_poured (fun ds Qd Ed h => len__law_poured h) (fun cdv Ar outer s H E R M ds Qd Ed hr hK hm h0 h => ?_)
  subst hK hm
  refine ⟨_, (gss_cons (gs_if (GW.t (gw_or (gt_not (gt_val (ge_call (Has.call h__law_is_value (hr.mono (by decide)) (L2N.takes_of rfl rfl rfl rfl)) (gl_cons (ge_var (pv 1)) gl_nil) h0))) (gw_or1 (gt_not (gt_val (ge_call (Has.call h__law_is_sharing (hr.mono (by decide)) (L2N.takes_of rfl rfl rfl rfl)) (gl_cons (ge_var (pv 2)) (gl_cons (ge_blt (b_len) (by rfl) T.len PySem.boot_len (gl_cons (ge_var (pv 0)) gl_nil)) gl_nil)) h0)))))) (gss_one (gs_ret ge_bl)) gss_nil)
    (gss_cons (gs_for (passes_of rfl) (by rfl) (gi_rng1 (by rfl) T.range (gl_cons (ge_blt (b_len) (by rfl) T.len PySem.boot_len (gl_cons (ge_var (pv 0)) gl_nil)) gl_nil)) (gg_name (i := 3) sc__law_poured.nd rfl (by first | exact Or.inl rfl | exact Or.inr rfl)) (gss_cons (gs_if (GW.t (gw_and (gt_c cm_gt (ge_ix (ge_ix (ge_var (pv 2)) (ge_var (pv 3))) ge_int) ge_int) (gw_and1 (gt_c (cm_ne (room_units hr)) (ge_call (Has.call h__law_plus (hr.mono (by decide)) (L2N.takes_of rfl rfl rfl rfl)) (gl_cons (ge_var (pv 1)) (gl_cons (ge_call (Has.call h__law_minus (hr.mono (by decide)) (L2N.takes_of rfl rfl rfl rfl)) (gl_cons (ge_tup (gl_cons ge_int (gl_cons ge_int gl_nil))) (gl_cons (ge_ix (ge_var (pv 2)) (ge_var (pv 3))) gl_nil)) h0) gl_nil)) h0) (ge_ix (ge_var (pv 0)) (ge_var (pv 3))))))) (gss_one (gs_ret ge_bl)) gss_nil)
    (gss_one (gs_if (GW.t (gw_and (gt_c (cm_eq (room_units hr)) (ge_ix (ge_ix (ge_var (pv 2)) (ge_var (pv 3))) ge_int) ge_int) (gw_and1 (gt_val (ge_call (Has.call h__law_below (hr.mono (by decide)) (L2N.takes_of rfl rfl rfl rfl)) (gl_cons (ge_ix (ge_var (pv 0)) (ge_var (pv 3))) (gl_cons (ge_call (Has.call h__law_plus (hr.mono (by decide)) (L2N.takes_of rfl rfl rfl rfl)) (gl_cons (ge_var (pv 1)) (gl_cons (ge_tup (gl_cons ge_int (gl_cons ge_int gl_nil))) gl_nil)) h0) gl_nil)) h0))))) (gss_one (gs_ret ge_bl)) gss_nil))))
    (gss_one (gs_ret ge_bl)))), ?_⟩
  obtain ⟨qs, rfl, hs, h0, h5, hq⟩ := h
  have hL : (LINE : Nat) = 16777216 := rfl
  have hsz : Sz 924 (height qs) := (height_sz hs h0 h5).mono (by decide)
  have el : ((((qs.map fr).length : Nat)) : Int) = ((qs.length : Nat) : Int) := by rw [List.length_map]
  refine ⟨_, rfl, ifn (c := false = true) (by decide) ⟨qs.map (shr1 (height qs)), (by show [_, D.int (((qs.map fr).length : Nat) : Int)] = _; rw [el, List.length_map]; rfl), shares_ok hs h5 hsz, fun q hq => (by obtain ⟨x, _, rfl⟩ := List.mem_map.mp hq; exact shr1_nonneg _ _), height_pour h0, ifn (c := false = true) (by decide) ?_⟩⟩
  refine for_r1 (n := ((qs.length : Nat) : Int)) (fun _ env => ∃ x : SD, env = [.val (.lst (qs.map fr)), .val (fr (height qs - 1)), .val (shD qs), x]) (fun Q' E' h => by rw [← el] at h; exact h) (by omega) (by omega) ⟨_, rfl⟩ ?_ ?_
  · rintro i env' hi ⟨x, rfl⟩
    have hi : i < qs.length := by omega
    have hq1 := hs _ (List.getElem_mem hi)
    have g2 : ((qs.map (shr1 (height qs))).map fr)[i]? = some (fr (shr1 (height qs) qs[i])) := by rw [List.getElem?_map, List.getElem?_map, List.getElem?_eq_getElem hi]; rfl
    have g1 : (qs.map fr)[i]? = some (fr qs[i]) := by rw [List.getElem?_map, List.getElem?_eq_getElem hi]; rfl
    refine ⟨_, at_nat g2, .int (shr1 (height qs) qs[i]).num, rfl, ?_⟩
    by_cases c : qs[i] < height qs
    · have es : shr1 (height qs) qs[i] = height qs - qs[i] := by unfold shr1; rw [if_pos c]
      have pn : 0 < (shr1 (height qs) qs[i]).num := by
        have p : 0 < shr1 (height qs) qs[i] := by rw [es]; grind
        have a := Rat.num_nonneg.mpr (show 0 ≤ shr1 (height qs) qs[i] by grind)
        have b : (shr1 (height qs) qs[i]).num ≠ 0 := fun z => by
          have e := Rat.num_divInt_den (shr1 (height qs) qs[i])
          rw [z, Rat.zero_divInt] at e
          rw [← e] at p
          exact absurd p (by grind)
        omega
      have s1 : Sz 1100 (shr1 (height qs) qs[i]) := by rw [es]; exact (hsz.sub hq1).mono (by decide)
      refine ifp (decide_eq_true pn) ?_
      refine ⟨by show 2 ≤ 16777216; decide, _, at_nat g2, 1, shr1 (height qs) qs[i], 1100, rfl, (Sz.one 0).mono (by decide), s1, by decide, ?_⟩
      refine ⟨height qs - 1, 1 - shr1 (height qs) qs[i], 1200, rfl, (hsz.sub (Sz.one 0)).mono (by decide), ((Sz.one 0).sub s1).mono (by decide), by decide, ?_⟩
      refine ⟨_, at_nat g1, .inr ⟨shp_fr _, shp_fr _⟩, ?_⟩
      have e2 : height qs - 1 + (1 - shr1 (height qs) qs[i]) = qs[i] := by rw [es]; grind
      rw [e2, eqv_fr, decide_eq_true rfl]
      refine ifn (c := false = true) (by decide) ?_
      refine ⟨_, at_nat g2, .int (shr1 (height qs) qs[i]).num, rfl, .inl rfl, ?_⟩
      have e3 : D.eqv (.int (shr1 (height qs) qs[i]).num) (.int 0) = false := by
        rw [eqv_int]
        exact beq_eq_false_iff_ne.mpr (by omega)
      rw [e3]
      exact ifn (c := false = true) (by decide) (ifn (c := false = true) (by decide) ⟨_, rfl⟩)
    · have es : shr1 (height qs) qs[i] = 0 := by unfold shr1; rw [if_neg c]
      have pn : (shr1 (height qs) qs[i]).num = 0 := by rw [es]; rfl
      refine ifn (fun z => by have := of_decide_eq_true z; omega) (ifn (c := false = true) (by decide) ?_)
      refine ⟨_, at_nat g2, .int (shr1 (height qs) qs[i]).num, rfl, .inl rfl, ?_⟩
      have e3 : D.eqv (.int (shr1 (height qs) qs[i]).num) (.int 0) = true := by rw [pn]; rfl
      rw [e3]
      refine ifp (c := true = true) rfl ?_
      refine ⟨_, at_nat g1, by show 2 ≤ 16777216; decide, height qs - 1, 1, 1000, rfl, (hsz.sub (Sz.one 0)).mono (by decide), (Sz.one 0).mono (by decide), by decide, ?_⟩
      have ee : height qs - 1 + 1 = height qs := by grind
      rw [ee]
      refine ⟨qs[i], height qs, 1000, rfl, hq1.mono (by decide), hsz.mono (by decide), by decide, ?_⟩
      rw [decide_eq_false c]
      exact ifn (c := false = true) (by decide) ⟨_, rfl⟩
  · rintro env' ⟨x, rfl⟩
    exact hq
abbrev s__law_door : Stmt := top 83
theorem sc__law_door : FnScope ["door", "levels", "number", "e"] ["door", "levels", "number"] (defScope s__law_door) := ⟨rfl, rfl, rfl, by decide +kernel, rfl, by decide +kernel, by decide +kernel⟩
def S__law_door : DSp := fun ds Q E => ∃ (k : Int) (d y : D) (xs : List D), ds = [.int k, d, y] ∧ 0 ≤ k ∧ k < 3 ∧ (d = .lst xs ∨ d = .tup xs) ∧ xs.length ≤ 1000 ∧ (∀ x ∈ xs, ChkOk x) ∧ ChkOk y ∧ (xs.length < 1 ∨ 5 < xs.length → Q (.tup [.str "BadCount", .int ((xs.length : Nat) : Int), .int 1, .int 5])) ∧ (1 ≤ xs.length → xs.length ≤ 5 → ((∃ x ∈ xs, numD x = none) ∨ (k = 2 ∧ numD y = none ∧ ∃ qs : List Rat, xs.map numD = qs.map some ∧ ∀ q ∈ qs, Sz 1000 q)) ∧ Q (.tup [.str "BadNumber"]))
theorem len__law_door {ds : List D} {Q : D → Prop} {E : Ex → Prop} (h : S__law_door ds Q E) : ds.length = 3 := by obtain ⟨g, _, _, _, h, _⟩ := h; rw [h]; rfl
theorem ok__law_door (T : Txt P K mg) (h_fill : Has P w K mg base "fill" 6 false S_fill) (h_fill_shares : Has P w K mg base "fill_shares" 6 false S_fill_shares) (h_is_fill : Has P w K mg base "is_fill" 7 false S_is_fill) (hq__law_fault : HasQ P w K mg base "_law_fault" 1 false S__law_fault) {f : Addr} {fd : FuncData} (F : Fun K "_law_door" "_law_door" s__law_door f fd) : FnOk P w K mg base (L2N.CX P w) 8 f fd ["door", "levels", "number"] (spD K mg false S__law_door) := by
  refine fn_ok F sc__law_door (fun ds Qd Ed h => len__law_door h) (fun cdv Ar outer s H E R M ds Qd Ed hr hK hm h0 h => ?_)
  subst hK hm
  refine ⟨_, (gss_cons (gs_tryC T.c_NotBehindError h0 (L2N.takes_of rfl rfl rfl rfl) sc__law_door.nd (i := 3) rfl (fun W1 pn1 xe1 tk1 po1 => (gss_one (gs_if (gt_c (cm_eq (room_units hr)) (ge_var (pv 0)) ge_int) (gss_one (gs_expr (ge_call (Has.call h_fill (hr.mono (by decide)) tk1) (gl_cons (ge_var (pv 1)) gl_nil) h0))) (gss_one (gs_if (gt_c (cm_eq (room_units hr)) (ge_var (pv 0)) ge_int) (gss_one (gs_expr (ge_call (Has.call h_fill_shares (hr.mono (by decide)) tk1) (gl_cons (ge_var (pv 1)) gl_nil) h0))) (gss_one (gs_expr (ge_call (Has.call h_is_fill (hr.mono (by decide)) tk1) (gl_cons (ge_var (pv 1)) (gl_cons (ge_var (pv 2)) gl_nil)) h0)))))))) (fun a C oe d pn hz hv => (gss_one (gs_ret (ge_callQ hq__law_fault (L2H.RoomH.mono (roomS hr) (by decide)) rfl (ExcAt.suite hz hv) (gl_cons (ge_var (pv 3)) gl_nil))))))
    (gss_one (gs_ret (ge_tup (gl_cons ge_str gl_nil))))), ?_⟩
  obtain ⟨k, d, y, xs, rfl, k0, k3, hd, hl, hc, hy, h1, h2⟩ := h
  have ok1 : okX "BadNumber" := by unfold okX; decide
  have ok2 : okX "BadCount" := by unfold okX; decide
  have ask : ∀ {T : List Rat → Prop}, (1 ≤ xs.length → xs.length ≤ 5 → ∀ qs : List Rat, xs.map numD = qs.map some → (∀ q ∈ qs, Sz 1000 q) ∧ T qs) → AskN xs T (okX "BadNumber" ∧ S__law_fault [.exc "BadNumber" []] (fun d => d.noexc = true ∧ ∀ e : DEnv, Qd d) fun _ => False) (okX "BadCount" ∧ S__law_fault [.exc "BadCount" (cntE xs).2] (fun d => d.noexc = true ∧ ∀ e : DEnv, Qd d) fun _ => False) := fun {T} h =>
    ⟨by omega, hc, h, fun a b _ => ⟨ok1, _, _, _, rfl, .inl ⟨rfl, rfl, rfl⟩, rfl, fun _ => (h2 a b).2⟩, fun z => ⟨ok2, _, _, _, rfl, .inr ⟨_, _, _, rfl, rfl, rfl⟩, rfl, fun _ => h1 z⟩⟩
  have clash : ∀ {qs : List Rat} {c : Prop}, (∃ x ∈ xs, numD x = none) → xs.map numD = qs.map some → c := fun {qs c} ⟨x, hx, hn⟩ e => by
    have hm : numD x ∈ xs.map numD := List.mem_map.mpr ⟨x, hx, rfl⟩
    rw [e, hn] at hm
    obtain ⟨q, _, e2⟩ := List.mem_map.mp hm
    cases e2
  have no : k ≠ 2 → ∀ {T : List Rat → Prop}, 1 ≤ xs.length → xs.length ≤ 5 → ∀ qs : List Rat, xs.map numD = qs.map some → (∀ q ∈ qs, Sz 1000 q) ∧ T qs := fun k2 {T} a b qs e => by
    rcases (h2 a b).1 with h | h
    · exact clash h e
    · exact absurd h.1 k2
  have eqi : ∀ j : Int, (D.eqv (.int k) (.int j) = true) ↔ k = j := fun j => by rw [eqv_int]; simp
  unfold dseq dtry
  refine ⟨.inl rfl, ?_⟩
  show if D.eqv (.int k) (.int 0) = true then _ else _
  by_cases c0 : k = 0
  · exact ifp ((eqi 0).mpr c0) ⟨d, xs, rfl, hd, ask (no (by omega))⟩
  refine ifn (fun z => c0 ((eqi 0).mp z)) ?_
  refine ⟨.inl rfl, ?_⟩
  show if D.eqv (.int k) (.int 1) = true then _ else _
  by_cases c1 : k = 1
  · exact ifp ((eqi 1).mpr c1) ⟨d, xs, rfl, hd, ask (no (by omega))⟩
  refine ifn (fun z => c1 ((eqi 1).mp z)) ?_
  refine ⟨d, xs, y, rfl, hd, ask fun a b qs e => ?_⟩
  rcases (h2 a b).1 with h | ⟨_, hn, rs, e2, hs⟩
  · exact clash h e
  · have er := numD_inj e e2
    rw [er]
    exact ⟨hs, hy, fun q hq => (by rw [hn] at hq; cases hq), fun _ => ⟨ok1, _, _, _, rfl, .inl ⟨rfl, rfl, rfl⟩, rfl, fun _ => (h2 a b).2⟩⟩
abbrev s__law_refusals : Stmt := top 84
theorem sc__law_refusals : FnScope ["store", "numbers", "many", "long", "bad", "spoilt", "door", "k"] ["store", "numbers"] (defScope s__law_refusals) := ⟨rfl, rfl, rfl, by decide +kernel, rfl, by decide +kernel, by decide +kernel⟩
def S__law_refusals : DSp := fun ds Q E => ∃ (xs : List D) (qs : List Rat) (n : Nat), ds = [.sto, .lst xs] ∧ Nums n xs qs ∧ n ≤ 8999 ∧ (∀ q ∈ qs, Sz 1000 q) ∧ 0 < xs.length ∧ xs.length ≤ 5 ∧ Q (.bl true)
theorem len__law_refusals {ds : List D} {Q : D → Prop} {E : Ex → Prop} (h : S__law_refusals ds Q E) : ds.length = 2 := by obtain ⟨g, _, _, h, _⟩ := h; rw [h]; rfl
theorem ok__law_refusals (T : Txt P K mg) (h__law_door : Has P w K mg base "_law_door" 8 false S__law_door) (h__law_dress : Has P w K mg base "_law_dress" 3 false S__law_dress) (h__law_not_number : Has P w K mg base "_law_not_number" 3 false S__law_not_number) (h__law_one_bad : Has P w K mg base "_law_one_bad" 4 true S__law_one_bad) (h__law_same : Has P w K mg base "_law_same" 5 false S__law_same) (h__law_small : Has P w K mg base "_law_small" 3 false S__law_small) (h__law_take : Has P w K mg base "_law_take" 2 false S__law_take) {f : Addr} {fd : FuncData} (F : Fun K "_law_refusals" "_law_refusals" s__law_refusals f fd) : FnOk P w K mg base (L2N.CX P w) 9 f fd ["store", "numbers"] (spD K mg false S__law_refusals) := by
  refine fn_ok F sc__law_refusals (fun ds Qd Ed h => len__law_refusals h) (fun cdv Ar outer s H E R M ds Qd Ed hr hK hm h0 h => ?_)
  subst hK hm
  refine ⟨_, (gss_cons (gs_asg (i := 2) (ge_ix (ge_lst (gl_cons ge_int (gl_cons ge_int (gl_cons ge_int (gl_cons ge_int (gl_cons (ge_add ge_int (ge_call (Has.call h__law_take (hr.mono (by decide)) (L2N.takes_of rfl rfl rfl rfl)) (gl_cons (ge_var (pv 0)) (gl_cons ge_int gl_nil)) h0)) gl_nil)))))) (ge_call (Has.call h__law_take (hr.mono (by decide)) (L2N.takes_of rfl rfl rfl rfl)) (gl_cons (ge_var (pv 0)) (gl_cons ge_int gl_nil)) h0)) sc__law_refusals.nd rfl (by first | exact Or.inl rfl | exact Or.inr rfl))
    (gss_cons (gs_asgLc (i := 3) (own := [("k", 7)]) (js := [7]) (by rfl) sc__law_refusals.nd rfl rfl (sw_true rfl rfl rfl (by decide +kernel)) (gi_rng1 (by rfl) T.range (gl_cons (ge_var (pv 2)) gl_nil)) (by show blkC ["store", "numbers", "many", "long", "bad", "spoilt", "door", "k"] (defScope s__law_refusals) _ _ = true; decide +kernel) (by decide) (fun B hB _ _ _ _ _ => gg_name (i := 7) sc__law_refusals.nd rfl (by first | exact Or.inl rfl | exact Or.inr rfl)) (fun B hB _ _ _ _ _ => gts_nil) (fun B hB _ _ _ _ _ => (ge_call (Has.call h__law_dress (hr.mono (by decide)) takesN) (gl_cons (ge_var (pv 0)) (gl_cons (ge_call (Has.call h__law_small (hr.mono (by decide)) takesN) (gl_cons (ge_var (pv 0)) gl_nil) ((congrArg RC.hx hB).trans h0) (hK := congrArg RC.K hB) (hm := congrArg RC.mg hB)) gl_nil)) ((congrArg RC.hx hB).trans h0) (hK := congrArg RC.K hB) (hm := congrArg RC.mg hB))))
    (gss_freeze (i := 3) <| gss_cons (gs_if (GW.t (gw_and (gt_c cm_gt (ge_var (pv 2)) ge_int) (gw_and1 (gt_c (cm_eq (room_units hr)) (ge_call (Has.call h__law_take (hr.mono (by decide)) (L2N.takes_of rfl rfl rfl rfl)) (gl_cons (ge_var (pv 0)) (gl_cons ge_int gl_nil)) h0) ge_int)))) (gss_one (gs_asg (i := 3) (GF.e (gf_call (Has.call h__law_one_bad (hr.mono (by decide)) (L2N.takes_of rfl rfl rfl rfl)) (gl_cons (ge_var (pv 0)) (gl_cons (ge_var (pv 3)) gl_nil)) h0)) sc__law_refusals.nd rfl (by first | exact Or.inl rfl | exact Or.inr rfl))) gss_nil)
    (gss_cons (gs_if (gt_c (cm_eq (room_units hr)) (ge_call (Has.call h__law_take (hr.mono (by decide)) (L2N.takes_of rfl rfl rfl rfl)) (gl_cons (ge_var (pv 0)) (gl_cons ge_int gl_nil)) h0) ge_int) (gss_one (gs_asg (i := 3) (ge_bltT (b_tuple) (by rfl) T.tuple PyProof.Rows.boot_tuple (gl_cons (ge_var (pv 3)) gl_nil)) sc__law_refusals.nd rfl (by first | exact Or.inl rfl | exact Or.inr rfl))) gss_nil)
    (gss_cons (gs_asg (i := 4) (ge_call (Has.call h__law_not_number (hr.mono (by decide)) (L2N.takes_of rfl rfl rfl rfl)) (gl_cons (ge_var (pv 0)) gl_nil) h0) sc__law_refusals.nd rfl (by first | exact Or.inl rfl | exact Or.inr rfl))
    (gss_cons (gs_asg (i := 5) (GF.e (gf_call (Has.call h__law_one_bad (hr.mono (by decide)) (L2N.takes_of rfl rfl rfl rfl)) (gl_cons (ge_var (pv 0)) (gl_cons (ge_var (pv 1)) gl_nil)) h0)) sc__law_refusals.nd rfl (by first | exact Or.inl rfl | exact Or.inr rfl))
    (gss_cons (gs_for (passes_of rfl) (by rfl) (gi_rng1 (by rfl) T.range (gl_cons ge_int gl_nil)) (gg_name (i := 6) sc__law_refusals.nd rfl (by first | exact Or.inl rfl | exact Or.inr rfl)) (gss_cons (gs_if (gt_not (gt_val (ge_call (Has.call h__law_same (hr.mono (by decide)) (L2N.takes_of rfl rfl rfl rfl)) (gl_cons (ge_call (Has.call h__law_door (hr.mono (by decide)) (L2N.takes_of rfl rfl rfl rfl)) (gl_cons (ge_var (pv 6)) (gl_cons (ge_var (pv 3)) (gl_cons (ge_ix (ge_lst (gl_cons (ge_var (pv 4)) (gl_cons ge_int gl_nil))) (ge_call (Has.call h__law_take (hr.mono (by decide)) (L2N.takes_of rfl rfl rfl rfl)) (gl_cons (ge_var (pv 0)) (gl_cons ge_int gl_nil)) h0)) gl_nil))) h0) (gl_cons (ge_tup (gl_cons ge_str (gl_cons (ge_var (pv 2)) (gl_cons ge_int (gl_cons ge_int gl_nil))))) gl_nil)) h0))) (gss_one (gs_ret ge_bl)) gss_nil)
    (gss_one (gs_if (gt_not (gt_val (ge_call (Has.call h__law_same (hr.mono (by decide)) (L2N.takes_of rfl rfl rfl rfl)) (gl_cons (ge_call (Has.call h__law_door (hr.mono (by decide)) (L2N.takes_of rfl rfl rfl rfl)) (gl_cons (ge_var (pv 6)) (gl_cons (ge_var (pv 5)) (gl_cons (ge_ix (ge_lst (gl_cons (ge_var (pv 4)) (gl_cons ge_int gl_nil))) (ge_call (Has.call h__law_take (hr.mono (by decide)) (L2N.takes_of rfl rfl rfl rfl)) (gl_cons (ge_var (pv 0)) (gl_cons ge_int gl_nil)) h0)) gl_nil))) h0) (gl_cons (ge_tup (gl_cons ge_str gl_nil)) gl_nil)) h0))) (gss_one (gs_ret ge_bl)) gss_nil))))
    (gss_one (gs_ret (ge_call (Has.call h__law_same (hr.mono (by decide)) (L2N.takes_of rfl rfl rfl rfl)) (gl_cons (ge_call (Has.call h__law_door (hr.mono (by decide)) (L2N.takes_of rfl rfl rfl rfl)) (gl_cons ge_int (gl_cons (ge_var (pv 1)) (gl_cons (ge_var (pv 4)) gl_nil))) h0) (gl_cons (ge_tup (gl_cons ge_str gl_nil)) gl_nil)) h0)))))))))), ?_⟩
  obtain ⟨xs, qs, n, rfl, hx, hn, hs, h0, h5, hq⟩ := h
  have hL : (LINE : Nat) = 16777216 := rfl
  refine ⟨60, rfl, by decide, fun t t1 t2 => ⟨by show 5 ≤ 16777216; decide, 5, rfl, by decide, fun z z1 z2 => ?_⟩⟩
  have hm : ∃ M : Nat, L2.atI [D.int 0, .int 6, .int 7, .int 8, .int (9 + t)] z = some (.int ((M : Nat) : Int)) ∧ (M < 1 ∨ 5 < M) ∧ M ≤ 100 := by
    have hz : z = 0 ∨ z = 1 ∨ z = 2 ∨ z = 3 ∨ z = 4 := by omega
    rcases hz with rfl | rfl | rfl | rfl | rfl
    · exact ⟨0, rfl, .inl (by decide), by decide⟩
    · exact ⟨6, rfl, .inr (by decide), by decide⟩
    · exact ⟨7, rfl, .inr (by decide), by decide⟩
    · exact ⟨8, rfl, .inr (by decide), by decide⟩
    · refine ⟨(9 + t).toNat, ?_, .inr (by omega), by omega⟩
      rw [show (((9 + t).toNat : Nat) : Int) = 9 + t by omega]
      rfl
  obtain ⟨M, hM, hM1, hM2⟩ := hm
  refine ⟨_, hM, ?_⟩
  refine dlc_any (id : D → D) (fun d => ChkOk d) (ds := rngD 0 M) (fun Q' h => ⟨by omega, by omega, h⟩) (by rw [rngD_len]; omega) (fun d hd Q' h => ⟨rfl, fun q hq => ⟨q, 6, rfl, hq, by decide, fun y hy => h y (hy.chk (by decide))⟩⟩) (fun as la ha => ?_)
  rw [rngD_len] at la
  rw [List.map_id]
  have two : ∀ (bad : D), ChkOk bad → ∀ z : Int, 0 ≤ z → (z < 2 ∨ z = 0) → ∃ y, L2.atI [bad, .int 0] z = some y ∧ ChkOk y := fun bad hb z z1 z2 => by
    have hz : z = 0 ∨ z = 1 := by omega
    rcases hz with rfl | rfl
    · exact ⟨_, rfl, hb⟩
    · exact ⟨_, rfl, (num_int (z := 0) (n := 1) (by decide)).chk (by decide)⟩
  have last : ∀ (d : D) (ys : List D), (d = .lst ys ∨ d = .tup ys) → ys.length = M → (∀ y ∈ ys, ChkOk y) → ∀ x7 : SD, dseq (dasg 4 (dcall S__law_not_number (dcons (dvar 0) dnil)))
              (dseq (dasg 5 (dfv (dcallF S__law_one_bad (dcons (dvar 0) (dcons (dvar 1) dnil)))))
                (dseq
                  (dfor (diR1 (dcons (dk (D.int 3)) dnil)) (dname 6)
                    (dseq
                      (dif
                        (dnot
                          (dtruth
                            (dcall S__law_same
                              (dcons
                                (dcall S__law_door
                                  (dcons (dvar 6)
                                    (dcons (dvar 3)
                                      (dcons
                                        (dop dIx (dlst (dcons (dvar 4) (dcons (dk (D.int 0)) dnil)))
                                          (dcall S__law_take (dcons (dvar 0) (dcons (dk (D.int 2)) dnil))))
                                        dnil))))
                                (dcons
                                  (dtup
                                    (dcons (dk (D.str (Str.ofString "BadCount")))
                                      (dcons (dvar 2) (dcons (dk (D.int 1)) (dcons (dk (D.int 5)) dnil)))))
                                  dnil)))))
                        (dret (dk (D.bl false))) dnext)
                      (dif
                        (dnot
                          (dtruth
                            (dcall S__law_same
                              (dcons
                                (dcall S__law_door
                                  (dcons (dvar 6)
                                    (dcons (dvar 5)
                                      (dcons
                                        (dop dIx (dlst (dcons (dvar 4) (dcons (dk (D.int 0)) dnil)))
                                          (dcall S__law_take (dcons (dvar 0) (dcons (dk (D.int 2)) dnil))))
                                        dnil))))
                                (dcons (dtup (dcons (dk (D.str (Str.ofString "BadNumber"))) dnil)) dnil)))))
                        (dret (dk (D.bl false))) dnext)))
                  (dret
                    (dcall S__law_same
                      (dcons (dcall S__law_door (dcons (dk (D.int 2)) (dcons (dvar 1) (dcons (dvar 4) dnil))))
                        (dcons (dtup (dcons (dk (D.str (Str.ofString "BadNumber"))) dnil)) dnil)))))) (endD false Qd Ed) [.val .sto, .val (.lst xs), .val (.int ((M : Nat) : Int)), .val d, .un, .un, .un, x7] := by
    intro d ys hd hl hy x7
    refine ⟨rfl, fun bad hb => ⟨xs, rfl, h0, by omega, fun i x hi hx' => ?_⟩⟩
    have sp : ∀ y ∈ xs.set i x, ChkOk y := fun y hy => by
      rcases List.mem_or_eq_of_mem_set hy with h | rfl
      · exact hx.chk hn y h
      · exact hx'.chk
    refine for_r1 (n := 3) (fun _ env => ∃ x6, env = [.val .sto, .val (.lst xs), .val (.int ((M : Nat) : Int)), .val d, .val bad, .val (.lst (xs.set i x)), x6, x7]) (by exact fun _ _ h => h) (by decide) (by decide) ⟨.un, rfl⟩ ?_ ?_
    · rintro j env' hj ⟨x6, rfl⟩
      have hj : j < 3 := hj
      refine ⟨by show 2 ≤ 16777216; decide, 2, rfl, by decide, fun z z1 z2 => ?_⟩
      obtain ⟨y, ey, cy⟩ := two bad hb.chk z z1 z2
      refine ⟨y, ey, ((j : Nat) : Int), d, y, ys, rfl, by omega, by omega, hd, by omega, hy, cy, fun _ => ?_, fun a b => by omega⟩
      rw [hl]
      refine ⟨by show 4 ≤ 16777216; decide, same_of (E := Ed) ?_ (ifn (c := false = true) (by decide) ?_)⟩
      · refine Pl.tup (by show 4 ≤ 1000000; decide) fun e he => ?_
        simp only [List.mem_cons, List.not_mem_nil, or_false] at he
        rcases he with rfl | rfl | rfl | rfl <;> exact Pl.flat rfl
      refine ⟨by show 2 ≤ 16777216; decide, 2, rfl, by decide, fun z z1 z2 => ?_⟩
      obtain ⟨y2, ey2, cy2⟩ := two bad hb.chk z z1 z2
      refine ⟨y2, ey2, ((j : Nat) : Int), .lst (xs.set i x), y2, xs.set i x, rfl, by omega, by omega, .inl rfl, by rw [List.length_set]; omega, sp, cy2, fun z => by rw [List.length_set] at z; omega, fun _ _ => ⟨.inl ⟨x, ?_, hx'.num⟩, ?_⟩⟩
      · exact List.mem_of_getElem? (i := i) (List.getElem?_set_self hi)
      · exact ⟨by show 1 ≤ 16777216; decide, same_of (E := Ed) (Pl.tup (by show 1 ≤ 1000000; decide) fun e he => by rw [List.mem_singleton.mp he]; exact Pl.flat rfl) (ifn (c := false = true) (by decide) ⟨_, rfl⟩)⟩
    · rintro env' ⟨x6, rfl⟩
      exact ⟨2, .lst xs, bad, xs, rfl, by decide, by decide, .inl rfl, by omega, hx.chk hn, hb.chk, fun z => by omega, fun _ _ => ⟨.inr ⟨rfl, hb.num, qs, hx.map, hs⟩, by show 1 ≤ 16777216; decide, same_of (E := Ed) (Pl.tup (by show 1 ≤ 1000000; decide) fun e he => by rw [List.mem_singleton.mp he]; exact Pl.flat rfl) hq⟩⟩
  have tupS : ∀ (ys : List D), ys.length = M → (∀ y ∈ ys, ChkOk y) → dseq (dif (dtest (dop dEq (dcall S__law_take (dcons (dvar 0) (dcons (dk (D.int 3)) dnil))) (dk (D.int 0))))
              (dasg 3 (dcb fTuple (dcons (dvar 3) dnil))) dnext) (dseq (dasg 4 (dcall S__law_not_number (dcons (dvar 0) dnil)))
              (dseq (dasg 5 (dfv (dcallF S__law_one_bad (dcons (dvar 0) (dcons (dvar 1) dnil)))))
                (dseq
                  (dfor (diR1 (dcons (dk (D.int 3)) dnil)) (dname 6)
                    (dseq
                      (dif
                        (dnot
                          (dtruth
                            (dcall S__law_same
                              (dcons
                                (dcall S__law_door
                                  (dcons (dvar 6)
                                    (dcons (dvar 3)
                                      (dcons
                                        (dop dIx (dlst (dcons (dvar 4) (dcons (dk (D.int 0)) dnil)))
                                          (dcall S__law_take (dcons (dvar 0) (dcons (dk (D.int 2)) dnil))))
                                        dnil))))
                                (dcons
                                  (dtup
                                    (dcons (dk (D.str (Str.ofString "BadCount")))
                                      (dcons (dvar 2) (dcons (dk (D.int 1)) (dcons (dk (D.int 5)) dnil)))))
                                  dnil)))))
                        (dret (dk (D.bl false))) dnext)
                      (dif
                        (dnot
                          (dtruth
                            (dcall S__law_same
                              (dcons
                                (dcall S__law_door
                                  (dcons (dvar 6)
                                    (dcons (dvar 5)
                                      (dcons
                                        (dop dIx (dlst (dcons (dvar 4) (dcons (dk (D.int 0)) dnil)))
                                          (dcall S__law_take (dcons (dvar 0) (dcons (dk (D.int 2)) dnil))))
                                        dnil))))
                                (dcons (dtup (dcons (dk (D.str (Str.ofString "BadNumber"))) dnil)) dnil)))))
                        (dret (dk (D.bl false))) dnext)))
                  (dret
                    (dcall S__law_same
                      (dcons (dcall S__law_door (dcons (dk (D.int 2)) (dcons (dvar 1) (dcons (dvar 4) dnil))))
                        (dcons (dtup (dcons (dk (D.str (Str.ofString "BadNumber"))) dnil)) dnil))))))) (endD false Qd Ed) [.val .sto, .val (.lst xs), .val (.int ((M : Nat) : Int)), .val (.lst ys), .un, .un, .un, .un] := by
    intro ys hl hy
    refine ⟨3, rfl, by decide, fun u u1 u2 => ⟨.inl rfl, ?_⟩⟩
    show if D.eqv (.int u) (.int 0) = true then _ else _
    refine ifte (fun _ => ?_) fun _ => ?_
    · exact last (.tup ys) ys (.inr rfl) hl hy .un
    · exact last (.lst ys) ys (.inl rfl) hl hy .un
  show if decide (((M : Nat) : Int) > 0) = true then _ else _
  refine ifte (fun c => ?_) fun _ => tupS as la ha
  have c := of_decide_eq_true c
  refine ⟨3, rfl, by decide, fun u u1 u2 => ⟨.inl rfl, ?_⟩⟩
  show if D.eqv (.int u) (.int 0) = true then _ else _
  refine ifte (fun _ => ?_) fun _ => tupS as la ha
  refine ⟨as, rfl, by omega, by omega, fun i x hi hx => tupS _ (by rw [List.length_set]; exact la) fun y hy => ?_⟩
  rcases List.mem_or_eq_of_mem_set hy with h | rfl
  · exact ha y h
  · exact hx.chk
abbrev s__law_look : Stmt := top 82
theorem sc__law_look : FnScope ["store", "levels", "passed", "copy", "whole", "shares", "order", "turned", "numbers", "part", "number", "k"] ["store", "levels"] (defScope s__law_look) := ⟨rfl, rfl, rfl, by decide +kernel, rfl, by decide +kernel, by decide +kernel⟩
def S__law_look : DSp := fun ds Q E => ∃ qs : List Rat, ds = [.sto, .lst (qs.map fr)] ∧ (∀ q ∈ qs, Sz 150 q) ∧ 0 < qs.length ∧ qs.length ≤ 5 ∧ Q (.bl true)
theorem len__law_look {ds : List D} {Q : D → Prop} {E : Ex → Prop} (h : S__law_look ds Q E) : ds.length = 2 := by obtain ⟨g, h, _⟩ := h; rw [h]; rfl
theorem ok__law_look (T : Txt P K mg) (h__law_copy : Has P w K mg base "_law_copy" 5 false S__law_copy) (h__law_dress : Has P w K mg base "_law_dress" 3 false S__law_dress) (h__law_dressed : Has P w K mg base "_law_dressed" 4 true S__law_dressed) (h__law_fit : Has P w K mg base "_law_fit" 1 false S__law_fit) (h__law_minus : Has P w K mg base "_law_minus" 3 false S__law_minus) (h__law_part : Has P w K mg base "_law_part" 3 false S__law_part) (h__law_plus : Has P w K mg base "_law_plus" 3 false S__law_plus) (h__law_poured : Has P w K mg base "_law_poured" 6 false S__law_poured) (h__law_same : Has P w K mg base "_law_same" 5 false S__law_same) (h__law_shuffled : Has P w K mg base "_law_shuffled" 3 true S__law_shuffled) (h__law_small : Has P w K mg base "_law_small" 3 false S__law_small) (h__law_take : Has P w K mg base "_law_take" 2 false S__law_take) (h_fill : Has P w K mg base "fill" 6 false S_fill) (h_fill_shares : Has P w K mg base "fill_shares" 6 false S_fill_shares) (h_is_fill : Has P w K mg base "is_fill" 7 false S_is_fill) (hs__law_spoil : HasSpT P w K mg base "_law_spoil" 2) {f : Addr} {fd : FuncData} (F : Fun K "_law_look" "_law_look" s__law_look f fd) : FnOk P w K mg base (L2N.CX P w) 8 f fd ["store", "levels"] (spD K mg false S__law_look) := by
  refine fn_ok F sc__law_look (fun ds Qd Ed h => len__law_look h) (fun cdv Ar outer s H E R M ds Qd Ed hr hK hm h0 h => ?_)
  subst hK hm
  refine ⟨_, (gss_cons (gs_asg (i := 2) (GF.e (gf_call (Has.call h__law_dressed (hr.mono (by decide)) (L2N.takes_of rfl rfl rfl rfl)) (gl_cons (ge_var (pv 0)) (gl_cons (ge_var (pv 1)) gl_nil)) h0)) sc__law_look.nd rfl (by first | exact Or.inl rfl | exact Or.inr rfl))
    (gss_cons (gs_if (gt_c (cm_eq (room_units hr)) (ge_call (Has.call h__law_take (hr.mono (by decide)) (L2N.takes_of rfl rfl rfl rfl)) (gl_cons (ge_var (pv 0)) (gl_cons ge_int gl_nil)) h0) ge_int) (gss_one (gs_asg (i := 2) (ge_bltT (b_tuple) (by rfl) T.tuple PyProof.Rows.boot_tuple (gl_cons (ge_var (pv 2)) gl_nil)) sc__law_look.nd rfl (by first | exact Or.inl rfl | exact Or.inr rfl))) gss_nil)
    (gss_cons (gs_asg (i := 3) (ge_call (Has.call h__law_copy (hr.mono (by decide)) (L2N.takes_of rfl rfl rfl rfl)) (gl_cons (ge_var (pv 2)) gl_nil) h0) sc__law_look.nd rfl (by first | exact Or.inl rfl | exact Or.inr rfl))
    (gss_cons (gs_asg (i := 4) (ge_call (Has.call h_fill (hr.mono (by decide)) (L2N.takes_of rfl rfl rfl rfl)) (gl_cons (ge_var (pv 2)) gl_nil) h0) sc__law_look.nd rfl (by first | exact Or.inl rfl | exact Or.inr rfl))
    (gss_cons (gs_asg (i := 5) (ge_call (Has.call h_fill_shares (hr.mono (by decide)) (L2N.takes_of rfl rfl rfl rfl)) (gl_cons (ge_var (pv 2)) gl_nil) h0) sc__law_look.nd rfl (by first | exact Or.inl rfl | exact Or.inr rfl))
    (gss_cons (gs_if (GW.t (gw_or (gt_not (gt_val (ge_call (Has.call h__law_poured (hr.mono (by decide)) (L2N.takes_of rfl rfl rfl rfl)) (gl_cons (ge_var (pv 1)) (gl_cons (ge_var (pv 4)) (gl_cons (ge_var (pv 5)) gl_nil))) h0))) (gw_or1 (gt_not (gt_val (ge_call (Has.call h__law_same (hr.mono (by decide)) (L2N.takes_of rfl rfl rfl rfl)) (gl_cons (ge_var (pv 2)) (gl_cons (ge_var (pv 3)) gl_nil)) h0)))))) (gss_one (gs_ret ge_bl)) gss_nil)
    (gss_cons (gs_if (gt_not (gt_val (ge_call (Has.call h__law_same (hr.mono (by decide)) (L2N.takes_of rfl rfl rfl rfl)) (gl_cons (ge_call (Has.call h_is_fill (hr.mono (by decide)) (L2N.takes_of rfl rfl rfl rfl)) (gl_cons (ge_var (pv 2)) (gl_cons (ge_var (pv 4)) gl_nil)) h0) (gl_cons ge_bl gl_nil)) h0))) (gss_one (gs_ret ge_bl)) gss_nil)
    (gss_cons (gs_asg (i := 6) (GF.e (gf_call (Has.call h__law_shuffled (hr.mono (by decide)) (L2N.takes_of rfl rfl rfl rfl)) (gl_cons (ge_var (pv 0)) (gl_cons (GF.e (gf_lc (own := [("k", 11)]) (js := [11]) (by rfl) sc__law_look.nd (gi_rng1 (by rfl) T.range (gl_cons (ge_blt (b_len) (by rfl) T.len PySem.boot_len (gl_cons (ge_var (pv 1)) gl_nil)) gl_nil)) (by show blkC ["store", "levels", "passed", "copy", "whole", "shares", "order", "turned", "numbers", "part", "number", "k"] (defScope s__law_look) _ _ = true; decide +kernel) (by decide) (fun B hB _ _ _ _ _ => gg_name (i := 11) sc__law_look.nd rfl (by first | exact Or.inl rfl | exact Or.inr rfl)) (fun B hB _ _ _ _ _ => gts_nil) (fun B hB _ _ _ _ _ => (ge_var (pv 11))))) gl_nil)) h0)) sc__law_look.nd rfl (by first | exact Or.inl rfl | exact Or.inr rfl))
    (gss_cons (gs_asgLc (i := 7) (own := [("k", 11)]) (js := [11]) (by rfl) sc__law_look.nd rfl rfl (sw_true rfl rfl rfl (by decide +kernel)) (gi_list (ge_var (pv 6))) (by show blkC ["store", "levels", "passed", "copy", "whole", "shares", "order", "turned", "numbers", "part", "number", "k"] (defScope s__law_look) _ _ = true; decide +kernel) (by decide) (fun B hB _ _ _ _ _ => gg_name (i := 11) sc__law_look.nd rfl (by first | exact Or.inl rfl | exact Or.inr rfl)) (fun B hB _ _ _ _ _ => gts_nil) (fun B hB _ _ _ _ _ => (ge_ix (ge_var (pv 2)) (ge_var (pv 11)) (hK := congrArg RC.K hB))))
    (gss_cons (gs_if (gt_bor (i := 7) (GW.t (gw_or (gt_not (gt_val (ge_call (Has.call h__law_same (hr.mono (by decide)) (L2N.takes_of rfl rfl rfl rfl)) (gl_cons (ge_call (Has.call h_fill (hr.mono (by decide)) (L2N.takes_of rfl rfl rfl rfl)) (gl_cons (ge_var (pv 7)) gl_nil) h0) (gl_cons (ge_var (pv 4)) gl_nil)) h0))) (gw_or1 (gt_not (gt_val (ge_call (Has.call h__law_same (hr.mono (by decide)) (L2N.takes_of rfl rfl rfl rfl)) (gl_cons (ge_call (Has.call h_fill_shares (hr.mono (by decide)) (L2N.takes_of rfl rfl rfl rfl)) (gl_cons (ge_var (pv 7)) gl_nil) h0) (gl_cons (ge_bltT (b_tuple) (by rfl) T.tuple PyProof.Rows.boot_tuple (gl_cons (GF.e (gf_lc (own := [("k", 11)]) (js := [11]) (by rfl) sc__law_look.nd (gi_list (ge_var (pv 6))) (by show blkC ["store", "levels", "passed", "copy", "whole", "shares", "order", "turned", "numbers", "part", "number", "k"] (defScope s__law_look) _ _ = true; decide +kernel) (by decide) (fun B hB _ _ _ _ _ => gg_name (i := 11) sc__law_look.nd rfl (by first | exact Or.inl rfl | exact Or.inr rfl)) (fun B hB _ _ _ _ _ => gts_nil) (fun B hB _ _ _ _ _ => (ge_ix (ge_var (pv 5)) (ge_var (pv 11)) (hK := congrArg RC.K hB))))) gl_nil)) gl_nil)) h0))))))) (gss_one (gs_ret ge_bl)) gss_nil)
    (gss_cons (gs_asg (i := 8) (ge_lst (gl_cons (ge_call (Has.call h__law_small (hr.mono (by decide)) (L2N.takes_of rfl rfl rfl rfl)) (gl_cons (ge_var (pv 0)) gl_nil) h0) (gl_cons (ge_ix (ge_var (pv 1)) (ge_call (Has.call h__law_take (hr.mono (by decide)) (L2N.takes_of rfl rfl rfl rfl)) (gl_cons (ge_var (pv 0)) (gl_cons (ge_blt (b_len) (by rfl) T.len PySem.boot_len (gl_cons (ge_var (pv 1)) gl_nil)) gl_nil)) h0)) (gl_cons (ge_tup (gl_cons ge_int (gl_cons ge_int gl_nil))) gl_nil)))) sc__law_look.nd rfl (by first | exact Or.inl rfl | exact Or.inr rfl))
    (gss_cons (gs_asg (i := 9) (ge_call (Has.call h__law_part (hr.mono (by decide)) (L2N.takes_of rfl rfl rfl rfl)) (gl_cons (ge_var (pv 0)) gl_nil) h0) sc__law_look.nd rfl (by first | exact Or.inl rfl | exact Or.inr rfl))
    (gss_cons (gs_if (gt_val (ge_call (Has.call h__law_fit (hr.mono (by decide)) (L2N.takes_of rfl rfl rfl rfl)) (gl_cons (ge_lst (gl_cons (ge_var (pv 4)) gl_nil)) gl_nil) h0)) (gss_one (gs_asg (i := 8) (ge_add (ge_var (pv 8)) (ge_lst (gl_cons (ge_var (pv 4)) (gl_cons (ge_call (Has.call h__law_plus (hr.mono (by decide)) (L2N.takes_of rfl rfl rfl rfl)) (gl_cons (ge_var (pv 4)) (gl_cons (ge_var (pv 9)) gl_nil)) h0) (gl_cons (ge_call (Has.call h__law_minus (hr.mono (by decide)) (L2N.takes_of rfl rfl rfl rfl)) (gl_cons (ge_var (pv 4)) (gl_cons (ge_var (pv 9)) gl_nil)) h0) gl_nil))))) sc__law_look.nd rfl (by first | exact Or.inl rfl | exact Or.inr rfl))) gss_nil)
    (gss_cons (gs_for (passes_of rfl) (by rfl) (gi_list (ge_var (pv 8))) (gg_name (i := 10) sc__law_look.nd rfl (by first | exact Or.inl rfl | exact Or.inr rfl)) (gss_one (gs_if (gt_bor (i := 7) (gt_not (gt_val (ge_call (Has.call h__law_same (hr.mono (by decide)) (L2N.takes_of rfl rfl rfl rfl)) (gl_cons (ge_call (Has.call h_is_fill (hr.mono (by decide)) (L2N.takes_of rfl rfl rfl rfl)) (gl_cons (ge_var (pv 7)) (gl_cons (ge_call (Has.call h__law_dress (hr.mono (by decide)) (L2N.takes_of rfl rfl rfl rfl)) (gl_cons (ge_var (pv 0)) (gl_cons (ge_var (pv 10)) gl_nil)) h0) gl_nil)) h0) (gl_cons (ge_c (cm_eq (room_units hr)) (ge_var (pv 10)) (ge_var (pv 4))) gl_nil)) h0)))) (gss_one (gs_ret ge_bl)) gss_nil)))
    (gss_spoilT (i := 7) hs__law_spoil (hr.mono (by decide)) (L2N.takes_of rfl rfl rfl rfl) (pv 7)
    (gss_one (gs_ret (ge_call (Has.call h__law_same (hr.mono (by decide)) (L2N.takes_of rfl rfl rfl rfl)) (gl_cons (ge_var (pv 2)) (gl_cons (ge_var (pv 3)) gl_nil)) h0)))))))))))))))))), ?_⟩
  obtain ⟨qs, rfl, hs, h0, h5, hq⟩ := h
  have hL : (LINE : Nat) = 16777216 := rfl
  have hsz : Sz 924 (height qs) := (height_sz hs h0 h5).mono (by decide)
  have el : ((((qs.map fr).length : Nat)) : Int) = ((qs.length : Nat) : Int) := by rw [List.length_map]
  have wsz : Sz 1000 (height qs - 1) := (hsz.sub (Sz.one 0)).mono (by decide)
  have fin : ∀ (d : D) (us : List D) (ts ns : List Rat) (x6 x9 x10 x11 : SD), Pl 3 d → Nums 153 us ts → 0 < ts.length → ts.length ≤ 5 → (∀ q ∈ ts, Sz 150 q) → height ts = height qs → (∀ q ∈ ns, Sz 1200 q) → dseq (dfor (diL (dvar 8)) (dname 10) (dif (dbor 7 (dnot (dtruth (dcall S__law_same (dcons (dcall S_is_fill (dcons (dvar 7) (dcons (dcall S__law_dress (dcons (dvar 0) (dcons (dvar 10) dnil))) dnil))) (dcons (dop dEq (dvar 10) (dvar 4)) dnil)))))) (dret (dk (D.bl false))) dnext)) (dspoilT 7 (dret (dcall S__law_same (dcons (dvar 2) (dcons (dvar 3) dnil))))) (endD false Qd Ed) [.val .sto, .val (.lst (qs.map fr)), .val d, .val d, .val (fr (height qs - 1)), .val (shD qs), x6, .own us, .val (.lst (ns.map fr)), x9, x10, x11] := by
    intro d us ts ns x6 x9 x10 x11 pd hus t0 t5 hts eh hns
    refine for_l (ds := ns.map fr) (fun _ env => ∃ x10 : SD, env = [.val .sto, .val (.lst (qs.map fr)), .val d, .val d, .val (fr (height qs - 1)), .val (shD qs), x6, .own us, .val (.lst (ns.map fr)), x9, x10, x11]) (by exact fun _ _ h => h) ⟨_, rfl⟩ ?_ ?_
    · rintro i e env' ex ⟨x10, rfl⟩
      rw [List.getElem?_map] at ex
      obtain ⟨q, hq1, rfl⟩ := Option.map_eq_some_iff.mp ex
      have hqs := hns q (List.mem_of_getElem? hq1)
      refine ⟨q, 1200, rfl, hqs, by decide, fun y hy => ⟨.lst us, us, y, rfl, .inl rfl, AskN.nums hus (by decide) t0 t5 (fun q h => (hts q h).mono (by decide)) ⟨hy.chk (by decide), fun q' e => ?_, fun e => ?_⟩⟩⟩
      · rw [hy.num] at e
        cases e
        refine ⟨.inr ⟨shp_fr _, shp_fr _⟩, ?_⟩
        rw [eqv_fr, eh]
        exact same_of (E := fun _ => False) (Pl.flat rfl) (ifn (c := false = true) (by decide) ⟨_, rfl⟩)
      · rw [hy.num] at e
        cases e
    · rintro env' ⟨x10, rfl⟩
      refine ⟨fun e he => ?_, by rw [hus.1]; omega, same_of (E := Ed) pd hq⟩
      obtain ⟨q, h⟩ := hus.item e he
      rcases h with ⟨z, rfl, _⟩ | ⟨a, b, rfl, _⟩ <;> rfl
  have main : ∀ (ys : List D) (d : D), (d = .lst ys ∨ d = .tup ys) → Nums 153 ys qs → dseq (dasg 3 (dcall S__law_copy (dcons (dvar 2) dnil))) (dseq (dasg 4 (dcall S_fill (dcons (dvar 2) dnil))) (dseq (dasg 5 (dcall S_fill_shares (dcons (dvar 2) dnil))) (dseq (dif (dor (dnot (dtruth (dcall S__law_poured (dcons (dvar 1) (dcons (dvar 4) (dcons (dvar 5) dnil)))))) (dnot (dtruth (dcall S__law_same (dcons (dvar 2) (dcons (dvar 3) dnil)))))) (dret (dk (D.bl false))) dnext) (dseq (dif (dnot (dtruth (dcall S__law_same (dcons (dcall S_is_fill (dcons (dvar 2) (dcons (dvar 4) dnil))) (dcons (dk (D.bl true)) dnil))))) (dret (dk (D.bl false))) dnext) (dseq (dasg 6 (dfv (dcallF S__law_shuffled (dcons (dvar 0) (dcons (dfv (dlc (diR1 (dcons (dcb fLen (dcons (dvar 1) dnil)) dnil)) (dname 11) dyes (dvar 11) [11])) dnil))))) (dseq (dasgO 7 (dlc (diL (dvar 6)) (dname 11) dyes (dop dIx (dvar 2) (dvar 11)) [11])) (dseq (dif (dbor 7 (dor (dnot (dtruth (dcall S__law_same (dcons (dcall S_fill (dcons (dvar 7) dnil)) (dcons (dvar 4) dnil))))) (dnot (dtruth (dcall S__law_same (dcons (dcall S_fill_shares (dcons (dvar 7) dnil)) (dcons (dcb fTuple (dcons (dfv (dlc (diL (dvar 6)) (dname 11) dyes (dop dIx (dvar 5) (dvar 11)) [11])) dnil)) dnil))))))) (dret (dk (D.bl false))) dnext) (dseq (dasg 8 (dlst (dcons (dcall S__law_small (dcons (dvar 0) dnil)) (dcons (dop dIx (dvar 1) (dcall S__law_take (dcons (dvar 0) (dcons (dcb fLen (dcons (dvar 1) dnil)) dnil)))) (dcons (dtup (dcons (dk (D.int 0)) (dcons (dk (D.int 1)) dnil))) dnil))))) (dseq (dasg 9 (dcall S__law_part (dcons (dvar 0) dnil))) (dseq (dif (dtruth (dcall S__law_fit (dcons (dlst (dcons (dvar 4) dnil)) dnil))) (dasg 8 (dop dAdd (dvar 8) (dlst (dcons (dvar 4) (dcons (dcall S__law_plus (dcons (dvar 4) (dcons (dvar 9) dnil))) (dcons (dcall S__law_minus (dcons (dvar 4) (dcons (dvar 9) dnil))) dnil)))))) dnext) (dseq (dfor (diL (dvar 8)) (dname 10) (dif (dbor 7 (dnot (dtruth (dcall S__law_same (dcons (dcall S_is_fill (dcons (dvar 7) (dcons (dcall S__law_dress (dcons (dvar 0) (dcons (dvar 10) dnil))) dnil))) (dcons (dop dEq (dvar 10) (dvar 4)) dnil)))))) (dret (dk (D.bl false))) dnext)) (dspoilT 7 (dret (dcall S__law_same (dcons (dvar 2) (dcons (dvar 3) dnil)))))))))))))))) (endD false Qd Ed) [.val .sto, .val (.lst (qs.map fr)), .val d, .un, .un, .un, .un, .un, .un, .un, .un, .un] := by
    intro ys d hd hy
    have pd : Pl 3 d := by
      rcases hd with rfl | rfl
      · exact Pl.lst (by rw [hy.1]; omega) (Nums.pl hy)
      · exact Pl.tup (by rw [hy.1]; omega) (Nums.pl hy)
    have ask : ∀ {T : List Rat → Prop} {B C : Prop}, T qs → AskN ys T B C := fun t => AskN.nums hy (by decide) h0 h5 (fun q h => (hs q h).mono (by decide)) t
    refine copy_of (E := Ed) pd ?_
    refine ⟨d, ys, rfl, hd, ask ?_⟩
    refine ⟨d, ys, rfl, hd, ask ?_⟩
    refine ⟨qs, rfl, hs, h0, h5, ifn (c := false = true) (by decide) ?_⟩
    refine same_of (E := Ed) pd (ifn (c := false = true) (by decide) ?_)
    refine ⟨d, ys, fr (height qs - 1), rfl, hd, ask ⟨(Num.fr wsz).chk (by decide), fun q e => ?_, fun e => (by rw [numD_fr] at e; cases e)⟩⟩
    rw [numD_fr] at e
    cases e
    rw [decide_eq_true rfl]
    refine same_of (E := Ed) (Pl.flat rfl) (ifn (c := false = true) (by decide) ?_)
    refine dlc_map (ds := intsD (List.range qs.length)) id (fun Q' h => ?_) (by rw [intsD_len, List.length_range]; omega) (fun d hd Q' h => h) ?_
    · exact rng_of (c := True) (List.length_map ..) (by omega) h
    rw [List.map_id]
    refine ⟨List.range qs.length, rfl, by rw [List.length_range]; omega, fun p hp => ?_⟩
    have pl := perm_len hp
    have tl := turn_len qs p
    have eh : height (turnQ qs p) = height qs := height_perm (turn_perm hp) (by rw [tl]; omega)
    have hst : ∀ q ∈ turnQ qs p, Sz 150 q := fun q h => hs q ((turn_perm hp).mem_iff.mp h)
    refine dlc_nums (n := 153) (ds := intsD p) (rs := turnQ qs p) (fun Q' h => h) (by rw [intsD_len]; omega) (by rw [intsD_len, tl]) (fun i e q ed eq Q' h => ?_) fun us hus => ?_
    · obtain ⟨hi, rfl⟩ := ints_get ed
      have hk := perm_lt hp _ (List.getElem_mem hi)
      have hk2 : p[i] < ys.length := by rw [hy.1]; exact hk
      have e2 : q = qs[p[i]] := by
        unfold turnQ at eq
        rw [List.getElem?_map, List.getElem?_eq_getElem hi] at eq
        simp [List.getD, hk] at eq
        exact eq.symm
      subst e2
      have hn := h _ (hy.2 p[i] ys[p[i]] qs[p[i]] (List.getElem?_eq_getElem hk2) (List.getElem?_eq_getElem hk))
      rcases hd with rfl | rfl
      · exact ⟨_, at_nat (d := ys[p[i]]) (List.getElem?_eq_getElem hk2), hn⟩
      · exact ⟨_, at_nat (d := ys[p[i]]) (List.getElem?_eq_getElem hk2), hn⟩
    have ask2 : ∀ {T : List Rat → Prop} {B C : Prop}, T (turnQ qs p) → AskN us T B C := fun t => AskN.nums hus (by decide) (by rw [tl]; omega) (by rw [tl]; omega) (fun q h => (hst q h).mono (by decide)) t
    refine ⟨.lst us, us, rfl, .inl rfl, ask2 ?_⟩
    rw [eh]
    refine same_of (E := fun _ => False) (Pl.fr 2 _) (ifn (c := false = true) (by decide) ?_)
    refine ⟨.lst us, us, rfl, .inl rfl, ask2 ?_⟩
    have e3 : shD (turnQ qs p) = .tup (p.map fun k => fr (shr1 (height qs) (qs.getD k 0))) := by
      unfold shD
      rw [eh]
      unfold turnQ
      rw [List.map_map, List.map_map]
      rfl
    rw [e3]
    refine dlc_map (ds := intsD p) (fun d => match d with
      | .int i => fr (shr1 (height qs) (qs.getD i.toNat 0))
      | d => d) (fun Q' h => h) (by rw [intsD_len]; omega) (fun e he Q' h => ?_) ?_
    · obtain ⟨k, hk, rfl⟩ := List.mem_map.mp he
      have hk := perm_lt hp k hk
      refine ⟨_, at_nat (l := (qs.map (shr1 (height qs))).map fr) (d := fr (shr1 (height qs) (qs.getD k 0))) ?_, h⟩
      rw [List.getElem?_map, List.getElem?_map, List.getElem?_eq_getElem hk]
      simp [List.getD, hk]
    have em : ((intsD p).map fun d => match d with
      | .int i => fr (shr1 (height qs) (qs.getD i.toNat 0))
      | d => d) = p.map fun k => fr (shr1 (height qs) (qs.getD k 0)) := by
      unfold intsD
      rw [List.map_map]
      rfl
    rw [em]
    refine same_of (E := fun _ => False) (Pl.tup (by rw [List.length_map]; omega) fun e he => ?_) (ifn (c := false = true) (by decide) ?_)
    · obtain ⟨k, _, rfl⟩ := List.mem_map.mp he
      exact Pl.fr 1 _
    refine ⟨rfl, fun c sc => ?_⟩
    refine ⟨_, rfl, by rw [el]; omega, fun z z1 z2 => ?_⟩
    rw [el] at z2
    have hz : z.toNat < qs.length := by omega
    have ez : ((z.toNat : Nat) : Int) = z := by omega
    have az : L2.atI (qs.map fr) z = some (fr qs[z.toNat]) := by
      have := at_nat (l := qs.map fr) (k := z.toNat) (d := fr qs[z.toNat]) (by rw [List.getElem?_map, List.getElem?_eq_getElem hz]; rfl)
      rw [ez] at this
      exact this
    refine ⟨fr qs[z.toNat], az, by show 2 ≤ 16777216; decide, by show 3 ≤ 16777216; decide, ?_⟩
    refine ⟨rfl, fun pp p0 sp => ?_⟩
    have h3 : ∀ q ∈ [c, qs[z.toNat], 0], Sz 1200 q := fun q hq => by
      simp only [List.mem_cons, List.not_mem_nil, or_false] at hq
      rcases hq with rfl | rfl | rfl
      · exact sc.mono (by decide)
      · exact (hs _ (List.getElem_mem hz)).mono (by decide)
      · exact (Sz.zero 0).mono (by decide)
    refine ⟨by show 1 ≤ 16777216; decide, [height qs - 1], rfl, by show 1 ≤ 1000; decide, fun b => ?_⟩
    cases b with
    | false => exact ifn (c := false = true) (by decide) (fin d us (turnQ qs p) [c, qs[z.toNat], 0] _ _ _ _ pd hus (by rw [tl]; omega) (by rw [tl]; omega) hst eh h3)
    | true =>
      refine ifp (c := true = true) rfl ?_
      refine ⟨height qs - 1, pp, 1000, rfl, wsz, sp.mono (by decide), by decide, height qs - 1, pp, 1000, rfl, wsz, sp.mono (by decide), by decide, by show 3 ≤ 16777216; decide, ?_⟩
      refine ⟨by show 6 ≤ 16777216; decide, ?_⟩
      refine fin d us (turnQ qs p) [c, qs[z.toNat], 0, height qs - 1, height qs - 1 + pp, height qs - 1 - pp] _ _ _ _ pd hus (by rw [tl]; omega) (by rw [tl]; omega) hst eh fun q hq => ?_
      simp only [List.mem_cons, List.not_mem_nil, or_false] at hq
      rcases hq with rfl | rfl | rfl | rfl | rfl | rfl
      · exact sc.mono (by decide)
      · exact (hs _ (List.getElem_mem hz)).mono (by decide)
      · exact (Sz.zero 0).mono (by decide)
      · exact wsz.mono (by decide)
      · exact (wsz.add sp).mono (by decide)
      · exact (wsz.sub sp).mono (by decide)
  refine ⟨qs, 150, rfl, hs, by decide, by omega, fun ys hy => ?_⟩
  refine ⟨2, rfl, by decide, fun z z1 z2 => ⟨.inl rfl, ?_⟩⟩
  show if D.eqv (.int z) (.int 0) = true then _ else _
  refine ifte (fun _ => ?_) fun _ => ?_
  · exact main ys _ (.inr rfl) hy
  · exact main ys _ (.inl rfl) hy
end
end LW
set_option maxRecDepth 100000
set_option maxHeartbeats 4000000
namespace LW
open PySem PySem.Spec PyProof.Rows L2 Nb TL
section
variable {P : Program} {w : World} {K : PySem.W.Frag} {mg : Str → Option Value} {base : Heap}
abbrev s__law_store : Stmt := top 49
theorem sc__law_store : FnScope ["script", "cell"] ["script"] (defScope s__law_store) := ⟨rfl, rfl, rfl, by decide +kernel, rfl, by decide +kernel, by decide +kernel⟩
theorem ok_store (T : Txt P K mg) {f : Addr} {fd : FuncData} (F : Fun K "_law_store" "_law_store" s__law_store f fd) : FnOk P w K mg base (L2N.CX P w) 1 f fd ["script"] (spStore K) := by
  refine F.okN sc__law_store (fun vs H Q E h => by obtain ⟨a, ns, rfl, _⟩ := h; rfl) fun cdv Ar outer s H vs Q E hr ⟨a, ns, e, hs, hl, q⟩ => ?_
  subst e
  refine ⟨_, pss_one (ps_ret (by exact pe_op op_cat (by exact pe_lst (by exact pa_cons pe_int (pa_cons pe_int (pa_cons (by exact pe_op op_add pe_int (by exact pe_callB call_len_seq (by rfl) T.len PySem.boot_len (by exact pa_cons (pv 0) pa_nil))) (pa_cons pe_int (pa_cons pe_int pa_nil)))))) (by exact pe_lc (own := [("cell", 1)]) (by rfl) sc__law_store.nd (pi_list (pv 0)) (blkOk_by (by show blkC ["script", "cell"] (defScope s__law_store) _ _ = true; decide +kernel)) (fun _ _ _ _ _ => pg_name (i := 1) sc__law_store.nd rfl (by first | exact Or.inl rfl | exact Or.inr rfl)) (fun _ _ _ _ _ => pts_nil) (fun _ _ _ _ _ => by exact pe_callTy call_int1 (by rfl) T.int PyProof.Rows.boot_int (by exact pa_cons (pv 1) pa_nil))))), ?_⟩
  have hL : sizeLine = 16777216 := by rw [line_is]
  refine ⟨.ref a, rfl, a, ns.map V.int, rfl, .inl hs, 1, _, rfl, rfl, by show 5 ≤ sizeLine; omega, fun p hp => ?_⟩
  have hs1 : SqL K (upd H p (.lst [V.int 5, .int 0, .int (1 + (((ns.map V.int).length : Nat) : Int)), .int 0, .int 0])) a (ns.map V.int) := Nb.SqL.up hs hp
  have hp1 : (upd H p (.lst [V.int 5, .int 0, .int (1 + (((ns.map V.int).length : Nat) : Int)), .int 0, .int 0])) p = some (.lst [V.int 5, .int 0, .int (1 + (((ns.map V.int).length : Nat) : Int)), .int 0, .int 0]) := upd_same
  generalize upd H p (.lst [V.int 5, .int 0, .int (1 + (((ns.map V.int).length : Nat) : Int)), .int 0, .int 0]) = H1 at hs1 hp1 ⊢
  refine ⟨.ref a, rfl, a, rfl, ⟨_, hs1⟩, fun D0 hD => ?_⟩
  have hs2 : ∀ ys, SqL K (upd H1 D0 (.lst ys)) a (ns.map V.int) := fun ys => Nb.SqL.up hs1 hD
  refine ⟨fun i m H' => m = ns.length - i ∧ i ≤ ns.length ∧ H' = upd H1 D0 (.lst ((ns.take i).map V.int)), ⟨ns.length, rfl, Nat.zero_le _, rfl⟩, fun i m H' ⟨hm, hi, e⟩ => ?_⟩
  by_cases c : i < ns.length
  · have g : (ns.map V.int)[i]? = some (.int ns[i]) := by rw [List.getElem?_map, List.getElem?_eq_getElem c]; rfl
    refine .inr ⟨⟨_, .int ns[i], by rw [e]; exact hs2 _, g⟩, fun H'' => H'' = upd H1 D0 (.lst ((ns.take (i + 1)).map V.int)), fun H'' h => ⟨ns.length - (i + 1), by omega, rfl, by omega, h⟩, fun x H2 y => ?_⟩
    obtain ⟨e2, y⟩ := y
    subst e2
    have ex := y _ (by rw [e]; exact hs2 _)
    rw [g] at ex
    cases ex
    refine ⟨rfl, .int ns[i], rfl, .inl ⟨_, rfl, (ns.take i).map V.int, by rw [e]; exact upd_same, by rw [List.length_map, List.length_take]; omega, ?_⟩⟩
    rw [e, upd_upd, List.take_add_one, List.getElem?_eq_getElem c, List.map_append]
    rfl
  · have ei : i = ns.length := by omega
    subst ei
    refine .inl ⟨⟨_, by rw [e]; exact hs2 _, by rw [List.length_map]; exact Nat.le_refl _⟩, ?_⟩
    rw [List.take_length] at e
    have ne : p ≠ D0 := fun z => by rw [← z, hp1] at hD; cases hD
    refine ⟨p, D0, _, ns.map V.int, rfl, rfl, by rw [e, upd_ne ne]; exact hp1, by rw [e]; exact upd_same, by simp; omega, fun p' hp' => ?_⟩
    refine q _ p' ([5, 0, 1 + ((ns.length : Nat) : Int), 0, 0] ++ ns) (by rw [List.map_append, List.length_map]; exact upd_same) ⟨⟨by simp, by simp; omega⟩, fun k z e => ?_⟩
    match k, e with
    | 0, e => simp at e; subst e; exact (by decide : (5 : Int) ≤ 5)
    | 1, e => simp at e; subst e; exact (by decide : (0 : Int) ≤ 0)
    | 2, e => simp at e; subst e; exact ⟨by omega, by omega⟩
    | k + 3, e => exact True.intro
end
end LW
set_option maxRecDepth 100000
set_option maxHeartbeats 4000000
namespace LW
open PySem PySem.Spec PyProof.Rows L2 Nb TL
section
variable {P : Program} {w : World} {K : PySem.W.Frag} {mg : Str → Option Value} {base : Heap}
theorem shD_nl (qs : List Rat) : (shD qs).nl = true := by
  show D.nlL _ = true
  refine nlL_of fun e he => ?_
  obtain ⟨q, _, rfl⟩ := List.mem_map.mp he
  rfl
theorem shD_pl {qs : List Rat} (h5 : qs.length ≤ 5) : Pl 3 (shD qs) := Pl.tup (by rw [List.length_map, List.length_map]; omega) fun e he => by
  obtain ⟨q, _, rfl⟩ := List.mem_map.mp he
  exact Pl.fr 1 _
abbrev s_law : Stmt := top 85
theorem sc_law : FnScope ["script", "store", "first", "second", "passed", "whole", "shares", "kept", "at", "third", "pair", "number"] ["script"] (defScope s_law) := ⟨rfl, rfl, rfl, by decide +kernel, rfl, by decide +kernel, by decide +kernel⟩
theorem ok_law (T : Txt P K mg) (h__law_copyF : Has P w K mg base "_law_copy" 6 true S__law_copyF) (h__law_dress : Has P w K mg base "_law_dress" 3 false S__law_dress) (h__law_dressed : Has P w K mg base "_law_dressed" 4 true S__law_dressed) (h__law_edge : Has P w K mg base "_law_edge" 3 false S__law_edge) (h__law_floor : Has P w K mg base "_law_floor" 5 true S__law_floor) (h__law_look : Has P w K mg base "_law_look" 8 false S__law_look) (h__law_poured : Has P w K mg base "_law_poured" 6 false S__law_poured) (h__law_refusals : Has P w K mg base "_law_refusals" 9 false S__law_refusals) (h__law_same : Has P w K mg base "_law_same" 5 false S__law_same) (h__law_small : Has P w K mg base "_law_small" 3 false S__law_small) (h__law_take : Has P w K mg base "_law_take" 2 false S__law_take) (h__law_value : Has P w K mg base "_law_value" 3 false S__law_value) (h_fill : Has P w K mg base "fill" 6 false S_fill) (h_fill_shares : Has P w K mg base "fill_shares" 6 false S_fill_shares) {fS : Addr} {fdS : FuncData} (FS : FnOk P w K mg base (L2N.CX P w) 1 fS fdS ["script"] (spStore K)) (mS : mg "_law_store" = some (.ref fS)) (kS : PySem.W.keepIn K (.ref fS) = true) (bS : Binds K fdS ["script"] []) {f : Addr} {fd : FuncData} (F : Fun K "law" "law" s_law f fd) : FnOk P w K mg base (L2N.CX P w) 11 f fd ["script"] (spLaw K) := by
  refine F.okN sc_law (fun vs H Q E h => by obtain ⟨a, ns, rfl, _⟩ := h; rfl) fun cdv Ar outer s H vs Q E hr ⟨a, ns, e, hs, hl, q⟩ => ?_
  subst e
  have h0 : (none : Option (Addr × Addr × Option Addr)) = none := rfl
  refine ⟨_, pss_cons (ps_set (i := 1) sc_law.nd rfl (by first | exact Or.inl rfl | exact Or.inr rfl) (by exact pe_callS FS (hr.mono (by decide)) (by rfl) mS kS bS (fun σ => L2N.passAt (W := fun cls d _ H => E cls d H) (L2N.takes_of rfl rfl rfl rfl) σ) (by exact pa_cons (pv 0) pa_nil))) (rest_act (W := fun cls d _ H => E cls d H) (K := K) (mg := mg) (fun B hKB hmB hxB hfB => (gss_cons (gs_asg (i := 2) (GF.e (gf_call (Has.call h__law_floor (hr.mono (by decide)) (L2N.takes_of rfl rfl rfl rfl)) (gl_cons (ge_var (pv 1)) (gl_cons (ge_add ge_int (ge_call (Has.call h__law_edge (hr.mono (by decide)) (L2N.takes_of rfl rfl rfl rfl)) (gl_cons (ge_var (pv 1)) (gl_cons ge_int gl_nil)) (hxB.trans h0) (hK := hKB) (hm := hmB)) (hK := hKB)) gl_nil)) (hxB.trans h0) (hK := hKB) (hm := hmB))) sc_law.nd rfl (by first | exact Or.inl rfl | exact Or.inr rfl))
    (gss_cons (gs_asg (i := 3) (GF.e (gf_call (Has.call h__law_floor (hr.mono (by decide)) (L2N.takes_of rfl rfl rfl rfl)) (gl_cons (ge_var (pv 1)) (gl_cons (ge_add ge_int (ge_call (Has.call h__law_edge (hr.mono (by decide)) (L2N.takes_of rfl rfl rfl rfl)) (gl_cons (ge_var (pv 1)) (gl_cons ge_int gl_nil)) (hxB.trans h0) (hK := hKB) (hm := hmB)) (hK := hKB)) gl_nil)) (hxB.trans h0) (hK := hKB) (hm := hmB))) sc_law.nd rfl (by first | exact Or.inl rfl | exact Or.inr rfl))
    (gss_cons (gs_if (GW.t (gw_or (gt_not (gt_val (ge_call (Has.call h__law_look (hr.mono (by decide)) (L2N.takes_of rfl rfl rfl rfl)) (gl_cons (ge_var (pv 1)) (gl_cons (ge_var (pv 2)) gl_nil)) (hxB.trans h0) (hK := hKB) (hm := hmB)))) (gw_or1 (gt_not (gt_val (ge_call (Has.call h__law_look (hr.mono (by decide)) (L2N.takes_of rfl rfl rfl rfl)) (gl_cons (ge_var (pv 1)) (gl_cons (ge_var (pv 3)) gl_nil)) (hxB.trans h0) (hK := hKB) (hm := hmB))))))) (gss_one (gs_ret ge_bl (hf := hfB))) gss_nil)
    (gss_cons (gs_asgO (i := 4) (gf_call (Has.call h__law_dressed (hr.mono (by decide)) (L2N.takes_of rfl rfl rfl rfl)) (gl_cons (ge_var (pv 1)) (gl_cons (ge_var (pv 2)) gl_nil)) (hxB.trans h0) (hK := hKB) (hm := hmB)) sc_law.nd rfl (by first | exact Or.inl rfl | exact Or.inr rfl))
    (gss_cons (gs_asg (i := 5) (ge_bor (i := 4) (ge_call (Has.call h_fill (hr.mono (by decide)) (L2N.takes_of rfl rfl rfl rfl)) (gl_cons (ge_var (pv 4)) gl_nil) (hxB.trans h0) (hK := hKB) (hm := hmB))) sc_law.nd rfl (by first | exact Or.inl rfl | exact Or.inr rfl))
    (gss_cons (gs_asg (i := 6) (ge_bor (i := 4) (ge_call (Has.call h_fill_shares (hr.mono (by decide)) (L2N.takes_of rfl rfl rfl rfl)) (gl_cons (ge_var (pv 4)) gl_nil) (hxB.trans h0) (hK := hKB) (hm := hmB))) sc_law.nd rfl (by first | exact Or.inl rfl | exact Or.inr rfl))
    (gss_cons (gs_asg (i := 7) (GF.e (gf_bor (i := 4) (gf_call (Has.call h__law_copyF (hr.mono (by decide)) (L2N.takes_of rfl rfl rfl rfl)) (gl_cons (ge_var (pv 4)) gl_nil) (hxB.trans h0) (hK := hKB) (hm := hmB)))) sc_law.nd rfl (by first | exact Or.inl rfl | exact Or.inr rfl))
    (gss_cons (gs_asg (i := 8) (ge_call (Has.call h__law_edge (hr.mono (by decide)) (L2N.takes_of rfl rfl rfl rfl)) (gl_cons (ge_var (pv 1)) (gl_cons (ge_lenO (pv 4) (by rfl) T.len) gl_nil)) (hxB.trans h0) (hK := hKB) (hm := hmB)) sc_law.nd rfl (by first | exact Or.inl rfl | exact Or.inr rfl))
    (gss_cons (gs_seti (pv 4) (ge_var (pv 8)) (ge_call (Has.call h__law_dress (hr.mono (by decide)) (L2N.takes_of rfl rfl rfl rfl)) (gl_cons (ge_var (pv 1)) (gl_cons (ge_call (Has.call h__law_small (hr.mono (by decide)) (L2N.takes_of rfl rfl rfl rfl)) (gl_cons (ge_var (pv 1)) gl_nil) (hxB.trans h0) (hK := hKB) (hm := hmB)) gl_nil)) (hxB.trans h0) (hK := hKB) (hm := hmB)))
    (gss_freeze (i := 4) <| gss_cons (gs_asgLc (i := 9) (own := [("number", 11)]) (js := [11]) (by rfl) sc_law.nd rfl rfl (sw_true rfl rfl rfl (by decide +kernel)) (gi_list (ge_var (pv 4))) (by show blkC ["script", "store", "first", "second", "passed", "whole", "shares", "kept", "at", "third", "pair", "number"] (defScope s_law) _ _ = true; decide +kernel) (by decide) (fun B hB _ _ _ _ _ => gg_name (i := 11) sc_law.nd rfl (by first | exact Or.inl rfl | exact Or.inr rfl)) (fun B hB _ _ _ _ _ => gts_nil) (fun B hB _ _ _ _ _ => (ge_call (Has.call h__law_value (hr.mono (by decide)) takesN) (gl_cons (ge_var (pv 11)) gl_nil) ((congrArg RC.hx hB).trans (hxB.trans h0)) (hK := (congrArg RC.K hB).trans (hKB)) (hm := (congrArg RC.mg hB).trans (hmB)))))
    (gss_freeze (i := 9) <| gss_cons (gs_if (GW.t (gw_or (gt_not (gt_val (ge_call (Has.call h__law_poured (hr.mono (by decide)) (L2N.takes_of rfl rfl rfl rfl)) (gl_cons (ge_var (pv 9)) (gl_cons (ge_call (Has.call h_fill (hr.mono (by decide)) (L2N.takes_of rfl rfl rfl rfl)) (gl_cons (ge_var (pv 4)) gl_nil) (hxB.trans h0) (hK := hKB) (hm := hmB)) (gl_cons (ge_call (Has.call h_fill_shares (hr.mono (by decide)) (L2N.takes_of rfl rfl rfl rfl)) (gl_cons (ge_var (pv 4)) gl_nil) (hxB.trans h0) (hK := hKB) (hm := hmB)) gl_nil))) (hxB.trans h0) (hK := hKB) (hm := hmB)))) (gw_or1 (gt_not (gt_val (ge_call (Has.call h__law_refusals (hr.mono (by decide)) (L2N.takes_of rfl rfl rfl rfl)) (gl_cons (ge_var (pv 1)) (gl_cons (ge_var (pv 7)) gl_nil)) (hxB.trans h0) (hK := hKB) (hm := hmB))))))) (gss_one (gs_ret ge_bl (hf := hfB))) gss_nil)
    (gss_cons (gs_if (GW.t (gw_or (gt_not (gt_val (ge_call (Has.call h__law_same (hr.mono (by decide)) (L2N.takes_of rfl rfl rfl rfl)) (gl_cons (ge_call (Has.call h_fill (hr.mono (by decide)) (L2N.takes_of rfl rfl rfl rfl)) (gl_cons (ge_var (pv 7)) gl_nil) (hxB.trans h0) (hK := hKB) (hm := hmB)) (gl_cons (ge_var (pv 5)) gl_nil)) (hxB.trans h0) (hK := hKB) (hm := hmB)))) (gw_or1 (gt_not (gt_val (ge_call (Has.call h__law_same (hr.mono (by decide)) (L2N.takes_of rfl rfl rfl rfl)) (gl_cons (ge_call (Has.call h_fill_shares (hr.mono (by decide)) (L2N.takes_of rfl rfl rfl rfl)) (gl_cons (ge_var (pv 7)) gl_nil) (hxB.trans h0) (hK := hKB) (hm := hmB)) (gl_cons (ge_var (pv 6)) gl_nil)) (hxB.trans h0) (hK := hKB) (hm := hmB))))))) (gss_one (gs_ret ge_bl (hf := hfB))) gss_nil)
    (gss_cons (gs_asg (i := 10) (ge_tup (gl_cons (ge_subI (ge_call (Has.call h__law_take (hr.mono (by decide)) (L2N.takes_of rfl rfl rfl rfl)) (gl_cons (ge_var (pv 1)) (gl_cons ge_int gl_nil)) (hxB.trans h0) (hK := hKB) (hm := hmB)) ge_int) (gl_cons (ge_add ge_int (ge_call (Has.call h__law_take (hr.mono (by decide)) (L2N.takes_of rfl rfl rfl rfl)) (gl_cons (ge_var (pv 1)) (gl_cons ge_int gl_nil)) (hxB.trans h0) (hK := hKB) (hm := hmB)) (hK := hKB)) gl_nil))) sc_law.nd rfl (by first | exact Or.inl rfl | exact Or.inr rfl))
    (gss_cons (gs_if (gt_not (gt_val (ge_call (Has.call h__law_poured (hr.mono (by decide)) (L2N.takes_of rfl rfl rfl rfl)) (gl_cons (ge_lst (gl_cons (ge_tup (gl_cons (ge_ix (ge_var (pv 10)) ge_int (hK := hKB)) (gl_cons ge_int gl_nil))) (gl_cons (ge_tup (gl_cons (ge_ix (ge_var (pv 10)) ge_int (hK := hKB)) (gl_cons ge_int gl_nil))) gl_nil))) (gl_cons (ge_call (Has.call h_fill (hr.mono (by decide)) (L2N.takes_of rfl rfl rfl rfl)) (gl_cons (ge_var (pv 10)) gl_nil) (hxB.trans h0) (hK := hKB) (hm := hmB)) (gl_cons (ge_call (Has.call h_fill_shares (hr.mono (by decide)) (L2N.takes_of rfl rfl rfl rfl)) (gl_cons (ge_var (pv 10)) gl_nil) (hxB.trans h0) (hK := hKB) (hm := hmB)) gl_nil))) (hxB.trans h0) (hK := hKB) (hm := hmB)))) (gss_one (gs_ret ge_bl (hf := hfB))) gss_nil)
    (gss_one (gs_ret (ge_and (ge_call (Has.call h__law_poured (hr.mono (by decide)) (L2N.takes_of rfl rfl rfl rfl)) (gl_cons (ge_var (pv 2)) (gl_cons (ge_var (pv 5)) (gl_cons (ge_var (pv 6)) gl_nil))) (hxB.trans h0) (hK := hKB) (hm := hmB)) (ge_one (ge_call (Has.call h__law_look (hr.mono (by decide)) (L2N.takes_of rfl rfl rfl rfl)) (gl_cons (ge_var (pv 1)) (gl_cons (ge_var (pv 3)) gl_nil)) (hxB.trans h0) (hK := hKB) (hm := hmB)))) (hf := hfB))))))))))))))))))), ?_⟩
  refine ⟨.ref a, rfl, a, ns, rfl, hs, hl, fun H1 p ms h1 hI => ?_⟩
  refine toS_store (N := 10) h1 hI rfl rfl ?_ q
  have hL : (LINE : Nat) = 16777216 := rfl
  refine ⟨_, rfl, by decide, fun z1 z11 z12 => ⟨1 + z1, rfl, by omega, by omega, fun qs ql hs => ?_⟩⟩
  refine ⟨_, rfl, by decide, fun z2 z21 z22 => ⟨1 + z2, rfl, by omega, by omega, fun rs rl hr => ?_⟩⟩
  have h0 : 0 < qs.length := by omega
  have h5 : qs.length ≤ 5 := by omega
  refine ⟨qs, rfl, hs, h0, h5, ifn (c := false = true) (by decide) ⟨rs, rfl, hr, by omega, by omega, ifn (c := false = true) (by decide) ?_⟩⟩
  have up : ∀ {ts : List Rat}, (∀ q ∈ ts, Sz 150 q) → ∀ q ∈ ts, Sz 1000 q := fun h q hq => (h q hq).mono (by decide)
  have main3 : ∀ (a b : Int) (x4 x7 x8 x9 x11 : SD), -12 ≤ a → a ≤ 12 → 1 ≤ b → b ≤ 12 → dseq (dif (dnot (dtruth (dcall S__law_poured (dcons (dlst (dcons (dtup (dcons (dop dIx (dvar 10) (dk (D.int 0))) (dcons (dk (D.int 1)) dnil))) (dcons (dtup (dcons (dop dIx (dvar 10) (dk (D.int 1))) (dcons (dk (D.int 1)) dnil))) dnil))) (dcons (dcall S_fill (dcons (dvar 10) dnil)) (dcons (dcall S_fill_shares (dcons (dvar 10) dnil)) dnil)))))) (dret (dk (D.bl false))) dnext) (dret (dandV (dcall S__law_poured (dcons (dvar 2) (dcons (dvar 5) (dcons (dvar 6) dnil)))) (dcall S__law_look (dcons (dvar 1) (dcons (dvar 3) dnil))))) { nx := fun _ => False, rt := fun d _ => d = .bl true, ex := fun _ _ => False } [.un, .val .sto, .val (.lst (qs.map fr)), .val (.lst (rs.map fr)), x4, .val (fr (height qs - 1)), .val (shD qs), x7, x8, x9, .val (.tup [.int a, .int b]), x11] := by
    intro a b x4 x7 x8 x9 x11 a1 a2 b1 b2
    have si : ∀ q ∈ [(a : Rat), (b : Rat)], Sz 150 q := fun q hq => by
      have s : ∀ i : Int, -12 ≤ i → i ≤ 12 → Sz 150 ((i : Int) : Rat) := fun i i1 i2 => by
        have s : Sz 6 ((i : Int) : Rat) := ⟨by show i.natAbs < 64; omega, by show 1 < 64; decide⟩
        exact s.mono (by decide)
      simp only [List.mem_cons, List.not_mem_nil, or_false] at hq
      rcases hq with rfl | rfl
      · exact s a a1 a2
      · exact s b (by omega) b2
    have ask : ∀ {T : List Rat → Prop} {B C : Prop}, T [(a : Rat), (b : Rat)] → AskN [.int a, .int b] T B C := fun t => AskN.nums (n := 6) (qs := [(a : Rat), (b : Rat)]) (((Nums.nil 6).snoc (num_int (by show _ < 64; omega))).snoc (num_int (by show _ < 64; omega))) (by decide) (by show 0 < 2; decide) (by show 2 ≤ 5; decide) (up si) t
    refine ⟨_, at0 _ _, by show 2 ≤ 16777216; decide, _, at1 _ _, by show 2 ≤ 16777216; decide, by show 2 ≤ 16777216; decide, ?_⟩
    refine ⟨_, [.int a, .int b], rfl, .inr rfl, ask ?_⟩
    refine ⟨_, [.int a, .int b], rfl, .inr rfl, ask ?_⟩
    refine ⟨[(a : Rat), (b : Rat)], rfl, si, by show 0 < 2; decide, by show 2 ≤ 5; decide, ifn (c := false = true) (by decide) ?_⟩
    exact ⟨qs, rfl, hs, h0, h5, ifp (c := true = true) rfl ⟨rs, rfl, hr, by omega, by omega, rfl⟩⟩
  have main2 : ∀ (us : List D) (ts : List Rat) (ys : List D) (z : Int), Nums 153 us ts → ts.length = qs.length → (∀ q ∈ ts, Sz 150 q) → Nums 153 ys qs → dseq (dif (dor (dnot (dtruth (dcall S__law_poured (dcons (dvar 9) (dcons (dcall S_fill (dcons (dvar 4) dnil)) (dcons (dcall S_fill_shares (dcons (dvar 4) dnil)) dnil)))))) (dnot (dtruth (dcall S__law_refusals (dcons (dvar 1) (dcons (dvar 7) dnil)))))) (dret (dk (D.bl false))) dnext) (dseq (dif (dor (dnot (dtruth (dcall S__law_same (dcons (dcall S_fill (dcons (dvar 7) dnil)) (dcons (dvar 5) dnil))))) (dnot (dtruth (dcall S__law_same (dcons (dcall S_fill_shares (dcons (dvar 7) dnil)) (dcons (dvar 6) dnil)))))) (dret (dk (D.bl false))) dnext) (dseq (dasg 10 (dtup (dcons (dop dSub (dcall S__law_take (dcons (dvar 1) (dcons (dk (D.int 25)) dnil))) (dk (D.int 12))) (dcons (dop dAdd (dk (D.int 1)) (dcall S__law_take (dcons (dvar 1) (dcons (dk (D.int 12)) dnil)))) dnil)))) (dseq (dif (dnot (dtruth (dcall S__law_poured (dcons (dlst (dcons (dtup (dcons (dop dIx (dvar 10) (dk (D.int 0))) (dcons (dk (D.int 1)) dnil))) (dcons (dtup (dcons (dop dIx (dvar 10) (dk (D.int 1))) (dcons (dk (D.int 1)) dnil))) dnil))) (dcons (dcall S_fill (dcons (dvar 10) dnil)) (dcons (dcall S_fill_shares (dcons (dvar 10) dnil)) dnil)))))) (dret (dk (D.bl false))) dnext) (dret (dandV (dcall S__law_poured (dcons (dvar 2) (dcons (dvar 5) (dcons (dvar 6) dnil)))) (dcall S__law_look (dcons (dvar 1) (dcons (dvar 3) dnil)))))))) { nx := fun _ => False, rt := fun d _ => d = .bl true, ex := fun _ _ => False } [.un, .val .sto, .val (.lst (qs.map fr)), .val (.lst (rs.map fr)), .val (.lst us), .val (fr (height qs - 1)), .val (shD qs), .val (.lst ys), .val (.int z), .val (.lst (ts.map fr)), .un, .un] := by
    intro us ts ys z hus l' hts hy
    have t0 : 0 < ts.length := by omega
    have t5 : ts.length ≤ 5 := by omega
    have ask : ∀ {T : List Rat → Prop} {B C : Prop}, T qs → AskN ys T B C := fun t => AskN.nums hy (by decide) h0 h5 (up hs) t
    have askT : ∀ {T : List Rat → Prop} {B C : Prop}, T ts → AskN us T B C := fun t => AskN.nums hus (by decide) t0 t5 (up hts) t
    refine ⟨.lst us, us, rfl, .inl rfl, askT ?_⟩
    refine ⟨.lst us, us, rfl, .inl rfl, askT ?_⟩
    refine ⟨ts, rfl, hts, t0, t5, ifn (c := false = true) (by decide) ?_⟩
    refine ⟨ys, qs, 153, rfl, hy, by decide, up hs, by rw [hy.1]; omega, by rw [hy.1]; omega, ifn (c := false = true) (by decide) ?_⟩
    refine ⟨.lst ys, ys, rfl, .inl rfl, ask ?_⟩
    refine same_of (E := fun _ => False) (Pl.fr 2 _) (ifn (c := false = true) (by decide) ?_)
    refine ⟨.lst ys, ys, rfl, .inl rfl, ask ?_⟩
    refine same_of (E := fun _ => False) (shD_pl h5) (ifn (c := false = true) (by decide) ?_)
    refine ⟨25, rfl, by decide, fun u u1 u2 => ⟨12, rfl, by decide, fun v v1 v2 => ⟨by show 2 ≤ 16777216; decide, ?_⟩⟩⟩
    exact main3 (u - 12) (1 + v) _ _ _ _ _ (by omega) (by omega) (by omega) (by omega)
  refine ⟨qs, 150, rfl, hs, by decide, by omega, fun ys hy => ?_⟩
  have ask : ∀ {T : List Rat → Prop} {B C : Prop}, T qs → AskN ys T B C := fun t => AskN.nums hy (by decide) h0 h5 (up hs) t
  refine ⟨.lst ys, ys, rfl, .inl rfl, ask ⟨rfl, ?_⟩⟩
  refine ⟨.lst ys, ys, rfl, .inl rfl, ask ⟨shD_nl _, ?_⟩⟩
  refine ⟨ys, rfl, by rw [hy.1]; omega, Nums.pl hy, nlL_of fun e he => (let ⟨_, h⟩ := hy.item e he; h.nl), ?_⟩
  refine ⟨_, rfl, by rw [hy.1]; omega, fun z z3 z4 => ⟨rfl, fun c sc => ⟨c, 6, rfl, sc, by decide, fun x hx => ⟨z, rfl, z.toNat, ?_, ?_⟩⟩⟩⟩
  · have ez : z = ((z.toNat : Nat) : Int) := by omega
    rw [ez]
    exact ixn_nat (by rw [hy.1] at z4 ⊢; omega)
  have hy' : Nums 153 (ys.set z.toNat x) (qs.set z.toNat c) := hy.set (hx.mono (by decide))
  have hs' : ∀ q ∈ qs.set z.toNat c, Sz 150 q := fun q hq => by
    rcases List.mem_or_eq_of_mem_set hq with h | rfl
    · exact hs q h
    · exact sc.mono (by decide)
  refine dlc_map (ds := ys.set z.toNat x) (fun d => fr ((numD d).getD 0)) (fun Q' h => h) (by rw [hy'.1, List.length_set]; omega) (fun e he Q' h => ?_) ?_
  · obtain ⟨q, hq⟩ := hy'.item e he
    rw [hq.num] at h
    exact ⟨153, e, q, rfl, hq, by decide, h⟩
  rw [vals_of hy']
  exact main2 _ _ ys z hy' (List.length_set ..) hs' hy
end
end LW
set_option maxRecDepth 100000
set_option maxHeartbeats 4000000
namespace LW
open PySem PySem.Spec PyProof.Rows L2 Nb TL
theorem exm_sub {K : PySem.W.Frag} {S E : Addr} (h1 : PySem.W.subIn K (.ref S) (.type "BaseException") = some true) (h2 : PySem.W.isClsIn K S = true) (h3 : PySem.W.typeIn K (.ref S) = some (.type "type")) (h4 : PySem.W.subIn K (.ref E) (.ref S) = some true) :
    PySem.W.exmOne K (.ref E) (.ref S) = some true := by
  have e1 : (PySem.W.subIn K (.ref S) (.type "BaseException") == some true) = true := by rw [h1] <;> rfl
  have e2 : ((PySem.W.clsIn K S).isSome && PySem.W.typeIn K (.ref S) == some (.type "type")) = true := by
    have h2' : (PySem.W.clsIn K S).isSome = true := h2
    rw [h2', h3] <;> rfl
  show (if (PySem.W.subIn K (.ref S) (.type "BaseException") == some true) = true then (if ((PySem.W.clsIn K S).isSome && PySem.W.typeIn K (.ref S) == some (.type "type")) = true then PySem.W.subIn K (.ref E) (.ref S) else none) else none) = some true
  rw [if_pos e1, if_pos e2]
  exact h4
theorem initN_BadCount : InitN init_BadCount "found" "found" [("low", "low"), ("high", "high")] := by
  refine ⟨⟨_, _, _, _, _, _, _, _, _, _, _, _, _, _, [], rfl, ?_, rfl, by decide, ?_, rfl, rfl, rfl, rfl, rfl, rfl, by decide +kernel, ?_, fun _ => rfl, fun env => ⟨_, rfl⟩⟩, by decide, by decide⟩
  · exact .cons (by decide) (fun _ => rfl) (.cons (by decide) (fun _ => rfl) (.nil))
  · intro a ha
    simp only [List.map_cons, List.map_nil, List.mem_cons, List.not_mem_nil, or_false] at ha
    rcases ha with rfl | rfl | rfl <;> rfl
  · intro _ _ _ _ _ _ _ _ vs hl
    match vs, hl with
    | [_, _, _], _ => rfl
theorem all_mk {l : PySem.W.OpenLaw} {w : World} {K : PySem.W.Frag} {h : Heap} {mg : Str → Option Value} {fa f0 f1 f2 f3 f4 f5 f6 f7 f8 f9 f10 f11 f12 f13 f14 f15 f16 f17 f18 f19 f20 f21 f22 f23 f24 f25 f26 f27 f28 f29 f30 f31 f32 f33 f34 f35 f36 f37 f38 f39 f40 f41 f42 f43 f44 f45 f46 f47 f48 f49 f50 f51 f52 f53 f54 f55 c_BadCount c_BadName c_BadNumber c_BadRow c_BadShare c_BadSize c_BadText c_BadWeight c_DivisionByZero c_GameOver c_InUse c_Lacking c_Mismatch c_NoHelper c_NotBehindError c_NotExact c_NothingToTakeBack c_TakenName c_UnknownName c_WrongKind fI_BadCount cc_BadCount cd_BadCount aK_ONE aK_ZERO : Addr} (X : K.In h) (G : h.Ns mainGlobals mg) (hfa : mg "law" = some (.ref fa))
    {tK_MOST_WIDTH : Tok}
    {odK_ONE : Option Addr} {nK_ONE : Nat} {slK_ONE : Array (Option Value)} {t0_ONE t1_ONE : Tok}
    {odK_ZERO : Option Addr} {nK_ZERO : Nat} {slK_ZERO : Array (Option Value)} {t0_ZERO t1_ZERO : Tok}
    {nm_BadCount q_BadCount file_BadCount : Str} {N_BadCount : Addr} {bs_BadCount sub_BadCount : List Value} {sn_BadCount : List Str} {ab_BadCount : Bool} {col_BadCount : Option Bool} {dd_BadCount : Option Addr} {m0_BadCount m1_BadCount m2_BadCount m3_BadCount m5_BadCount : Option Value} {tfile_BadCount : Tok} {odI_BadCount anI_BadCount cldcc_BadCount cldcd_BadCount : Option Addr} {slI_BadCount cslcc_BadCount cslcd_BadCount : Array (Option Value)} {ocI_BadCount dcI_BadCount pmI_BadCount ctI_BadCount clcc_BadCount clcd_BadCount : Value} {vscd_BadCount : Array Value}
    {od0 an0 od1 an1 od2 an2 od3 an3 od4 an4 od5 an5 od6 an6 od7 an7 od8 an8 od9 an9 od10 an10 od11 an11 od12 an12 od13 an13 od14 an14 od15 an15 od16 an16 od17 an17 od18 an18 od19 an19 od20 an20 od21 an21 od22 an22 od23 an23 od24 an24 od25 an25 od26 an26 od27 an27 od28 an28 od29 an29 od30 an30 od31 an31 od32 an32 od33 an33 od34 an34 od35 an35 od36 an36 od37 an37 od38 an38 od39 an39 od40 an40 od41 an41 od42 an42 od43 an43 od44 an44 od45 an45 od46 an46 od47 an47 od48 an48 od49 an49 od50 an50 od51 an51 od52 an52 od53 an53 od54 an54 od55 an55 : Option Addr} {sl0 sl1 sl2 sl3 sl4 sl5 sl6 sl7 sl8 sl9 sl10 sl11 sl12 sl13 sl14 sl15 sl16 sl17 sl18 sl19 sl20 sl21 sl22 sl23 sl24 sl25 sl26 sl27 sl28 sl29 sl30 sl31 sl32 sl33 sl34 sl35 sl36 sl37 sl38 sl39 sl40 sl41 sl42 sl43 sl44 sl45 sl46 sl47 sl48 sl49 sl50 sl51 sl52 sl53 sl54 sl55 : Array (Option Value)} {oc0 kV0 dc0 pm0 cd0 ct0 oc1 kV1 dc1 pm1 cd1 ct1 oc2 kV2 dc2 pm2 cd2 ct2 oc3 kV3 dc3 pm3 cd3 ct3 oc4 kV4 dc4 pm4 cd4 ct4 oc5 kV5 dc5 pm5 cd5 ct5 oc6 kV6 dc6 pm6 cd6 ct6 oc7 kV7 dc7 pm7 cd7 ct7 oc8 kV8 dc8 pm8 cd8 ct8 oc9 kV9 dc9 pm9 cd9 ct9 oc10 kV10 dc10 pm10 cd10 ct10 oc11 kV11 dc11 pm11 cd11 ct11 oc12 kV12 dc12 pm12 cd12 ct12 oc13 kV13 dc13 pm13 cd13 ct13 oc14 kV14 dc14 pm14 cd14 ct14 oc15 kV15 dc15 pm15 cd15 ct15 oc16 kV16 dc16 pm16 cd16 ct16 oc17 kV17 dc17 pm17 cd17 ct17 oc18 kV18 dc18 pm18 cd18 ct18 oc19 kV19 dc19 pm19 cd19 ct19 oc20 kV20 dc20 pm20 cd20 ct20 oc21 kV21 dc21 pm21 cd21 ct21 oc22 kV22 dc22 pm22 cd22 ct22 oc23 kV23 dc23 pm23 cd23 ct23 oc24 kV24 dc24 pm24 cd24 ct24 oc25 kV25 dc25 pm25 cd25 ct25 oc26 kV26 dc26 pm26 cd26 ct26 oc27 kV27 dc27 pm27 cd27 ct27 oc28 kV28 dc28 pm28 cd28 ct28 oc29 kV29 dc29 pm29 cd29 ct29 oc30 kV30 dc30 pm30 cd30 ct30 oc31 kV31 dc31 pm31 cd31 ct31 oc32 kV32 dc32 pm32 cd32 ct32 oc33 kV33 dc33 pm33 cd33 ct33 oc34 kV34 dc34 pm34 cd34 ct34 oc35 kV35 dc35 pm35 cd35 ct35 oc36 kV36 dc36 pm36 cd36 ct36 oc37 kV37 dc37 pm37 cd37 ct37 oc38 kV38 dc38 pm38 cd38 ct38 oc39 kV39 dc39 pm39 cd39 ct39 oc40 kV40 dc40 pm40 cd40 ct40 oc41 kV41 dc41 pm41 cd41 ct41 oc42 kV42 dc42 pm42 cd42 ct42 oc43 kV43 dc43 pm43 cd43 ct43 oc44 kV44 dc44 pm44 cd44 ct44 oc45 kV45 dc45 pm45 cd45 ct45 oc46 kV46 dc46 pm46 cd46 ct46 oc47 kV47 dc47 pm47 cd47 ct47 oc48 kV48 dc48 pm48 cd48 ct48 oc49 kV49 dc49 pm49 cd49 ct49 oc50 kV50 dc50 pm50 cd50 ct50 oc51 kV51 dc51 pm51 cd51 ct51 oc52 kV52 dc52 pm52 cd52 ct52 oc53 kV53 dc53 pm53 cd53 ct53 oc54 kV54 dc54 pm54 cd54 ct54 oc55 kV55 dc55 pm55 cd55 ct55 : Value}
    (g_BadCount : PySem.W.nsIn K mainGlobals "BadCount" = some (some (.ref c_BadCount)))
    (g_BadName : PySem.W.nsIn K mainGlobals "BadName" = some (some (.ref c_BadName)))
    (g_BadNumber : PySem.W.nsIn K mainGlobals "BadNumber" = some (some (.ref c_BadNumber)))
    (g_BadRow : PySem.W.nsIn K mainGlobals "BadRow" = some (some (.ref c_BadRow)))
    (g_BadShare : PySem.W.nsIn K mainGlobals "BadShare" = some (some (.ref c_BadShare)))
    (g_BadSize : PySem.W.nsIn K mainGlobals "BadSize" = some (some (.ref c_BadSize)))
    (g_BadText : PySem.W.nsIn K mainGlobals "BadText" = some (some (.ref c_BadText)))
    (g_BadWeight : PySem.W.nsIn K mainGlobals "BadWeight" = some (some (.ref c_BadWeight)))
    (g_DivisionByZero : PySem.W.nsIn K mainGlobals "DivisionByZero" = some (some (.ref c_DivisionByZero)))
    (g_GameOver : PySem.W.nsIn K mainGlobals "GameOver" = some (some (.ref c_GameOver)))
    (g_InUse : PySem.W.nsIn K mainGlobals "InUse" = some (some (.ref c_InUse)))
    (g_Lacking : PySem.W.nsIn K mainGlobals "Lacking" = some (some (.ref c_Lacking)))
    (g_Mismatch : PySem.W.nsIn K mainGlobals "Mismatch" = some (some (.ref c_Mismatch)))
    (g_NoHelper : PySem.W.nsIn K mainGlobals "NoHelper" = some (some (.ref c_NoHelper)))
    (g_NotBehindError : PySem.W.nsIn K mainGlobals "NotBehindError" = some (some (.ref c_NotBehindError)))
    (g_NotExact : PySem.W.nsIn K mainGlobals "NotExact" = some (some (.ref c_NotExact)))
    (g_NothingToTakeBack : PySem.W.nsIn K mainGlobals "NothingToTakeBack" = some (some (.ref c_NothingToTakeBack)))
    (g_TakenName : PySem.W.nsIn K mainGlobals "TakenName" = some (some (.ref c_TakenName)))
    (g_UnknownName : PySem.W.nsIn K mainGlobals "UnknownName" = some (some (.ref c_UnknownName)))
    (g_WrongKind : PySem.W.nsIn K mainGlobals "WrongKind" = some (some (.ref c_WrongKind)))
    (a0 : PySem.W.nsIn K mainGlobals "is_whole" = some (some (.ref f0)))
    (l0 : K.lookup f0 = some ⟨oc0, od0, .func (PySem.W.fnOf "is_whole" "is_whole" (defArgs s_is_whole) (defBody s_is_whole) (defScope s_is_whole) .none kV0 dc0 pm0 an0 cd0 ct0), sl0⟩)
    (c0 : PySem.W.codeIn K cd0 "is_whole" = true)
    (k0 : PySem.W.keepIn K (.ref f0) = true)
    (a1 : PySem.W.nsIn K mainGlobals "reduced" = some (some (.ref f1)))
    (l1 : K.lookup f1 = some ⟨oc1, od1, .func (PySem.W.fnOf "reduced" "reduced" (defArgs s_reduced) (defBody s_reduced) (defScope s_reduced) .none kV1 dc1 pm1 an1 cd1 ct1), sl1⟩)
    (c1 : PySem.W.codeIn K cd1 "reduced" = true)
    (k1 : PySem.W.keepIn K (.ref f1) = true)
    (a2 : PySem.W.nsIn K mainGlobals "checked" = some (some (.ref f2)))
    (l2 : K.lookup f2 = some ⟨oc2, od2, .func (PySem.W.fnOf "checked" "checked" (defArgs s_checked) (defBody s_checked) (defScope s_checked) .none kV2 dc2 pm2 an2 cd2 ct2), sl2⟩)
    (c2 : PySem.W.codeIn K cd2 "checked" = true)
    (k2 : PySem.W.keepIn K (.ref f2) = true)
    (a3 : PySem.W.nsIn K mainGlobals "checked_all" = some (some (.ref f3)))
    (l3 : K.lookup f3 = some ⟨oc3, od3, .func (PySem.W.fnOf "checked_all" "checked_all" (defArgs s_checked_all) (defBody s_checked_all) (defScope s_checked_all) .none kV3 dc3 pm3 an3 cd3 ct3), sl3⟩)
    (c3 : PySem.W.codeIn K cd3 "checked_all" = true)
    (k3 : PySem.W.keepIn K (.ref f3) = true)
    (a4 : PySem.W.nsIn K mainGlobals "plus" = some (some (.ref f4)))
    (l4 : K.lookup f4 = some ⟨oc4, od4, .func (PySem.W.fnOf "plus" "plus" (defArgs s_plus) (defBody s_plus) (defScope s_plus) .none kV4 dc4 pm4 an4 cd4 ct4), sl4⟩)
    (c4 : PySem.W.codeIn K cd4 "plus" = true)
    (k4 : PySem.W.keepIn K (.ref f4) = true)
    (a5 : PySem.W.nsIn K mainGlobals "opposite" = some (some (.ref f5)))
    (l5 : K.lookup f5 = some ⟨oc5, od5, .func (PySem.W.fnOf "opposite" "opposite" (defArgs s_opposite) (defBody s_opposite) (defScope s_opposite) .none kV5 dc5 pm5 an5 cd5 ct5), sl5⟩)
    (c5 : PySem.W.codeIn K cd5 "opposite" = true)
    (k5 : PySem.W.keepIn K (.ref f5) = true)
    (a6 : PySem.W.nsIn K mainGlobals "minus" = some (some (.ref f6)))
    (l6 : K.lookup f6 = some ⟨oc6, od6, .func (PySem.W.fnOf "minus" "minus" (defArgs s_minus) (defBody s_minus) (defScope s_minus) .none kV6 dc6 pm6 an6 cd6 ct6), sl6⟩)
    (c6 : PySem.W.codeIn K cd6 "minus" = true)
    (k6 : PySem.W.keepIn K (.ref f6) = true)
    (a7 : PySem.W.nsIn K mainGlobals "times" = some (some (.ref f7)))
    (l7 : K.lookup f7 = some ⟨oc7, od7, .func (PySem.W.fnOf "times" "times" (defArgs s_times) (defBody s_times) (defScope s_times) .none kV7 dc7 pm7 an7 cd7 ct7), sl7⟩)
    (c7 : PySem.W.codeIn K cd7 "times" = true)
    (k7 : PySem.W.keepIn K (.ref f7) = true)
    (a8 : PySem.W.nsIn K mainGlobals "is_less" = some (some (.ref f8)))
    (l8 : K.lookup f8 = some ⟨oc8, od8, .func (PySem.W.fnOf "is_less" "is_less" (defArgs s_is_less) (defBody s_is_less) (defScope s_is_less) .none kV8 dc8 pm8 an8 cd8 ct8), sl8⟩)
    (c8 : PySem.W.codeIn K cd8 "is_less" = true)
    (k8 : PySem.W.keepIn K (.ref f8) = true)
    (a9 : PySem.W.nsIn K mainGlobals "sum_of" = some (some (.ref f9)))
    (l9 : K.lookup f9 = some ⟨oc9, od9, .func (PySem.W.fnOf "sum_of" "sum_of" (defArgs s_sum_of) (defBody s_sum_of) (defScope s_sum_of) .none kV9 dc9 pm9 an9 cd9 ct9), sl9⟩)
    (c9 : PySem.W.codeIn K cd9 "sum_of" = true)
    (k9 : PySem.W.keepIn K (.ref f9) = true)
    (a10 : PySem.W.nsIn K mainGlobals "height_over" = some (some (.ref f10)))
    (l10 : K.lookup f10 = some ⟨oc10, od10, .func (PySem.W.fnOf "height_over" "height_over" (defArgs s_height_over) (defBody s_height_over) (defScope s_height_over) .none kV10 dc10 pm10 an10 cd10 ct10), sl10⟩)
    (c10 : PySem.W.codeIn K cd10 "height_over" = true)
    (k10 : PySem.W.keepIn K (.ref f10) = true)
    (a11 : PySem.W.nsIn K mainGlobals "height_of" = some (some (.ref f11)))
    (l11 : K.lookup f11 = some ⟨oc11, od11, .func (PySem.W.fnOf "height_of" "height_of" (defArgs s_height_of) (defBody s_height_of) (defScope s_height_of) .none kV11 dc11 pm11 an11 cd11 ct11), sl11⟩)
    (c11 : PySem.W.codeIn K cd11 "height_of" = true)
    (k11 : PySem.W.keepIn K (.ref f11) = true)
    (a12 : PySem.W.nsIn K mainGlobals "step_of" = some (some (.ref f12)))
    (l12 : K.lookup f12 = some ⟨oc12, od12, .func (PySem.W.fnOf "step_of" "step_of" (defArgs s_step_of) (defBody s_step_of) (defScope s_step_of) .none kV12 dc12 pm12 an12 cd12 ct12), sl12⟩)
    (c12 : PySem.W.codeIn K cd12 "step_of" = true)
    (k12 : PySem.W.keepIn K (.ref f12) = true)
    (a13 : PySem.W.nsIn K mainGlobals "shares_of" = some (some (.ref f13)))
    (l13 : K.lookup f13 = some ⟨oc13, od13, .func (PySem.W.fnOf "shares_of" "shares_of" (defArgs s_shares_of) (defBody s_shares_of) (defScope s_shares_of) .none kV13 dc13 pm13 an13 cd13 ct13), sl13⟩)
    (c13 : PySem.W.codeIn K cd13 "shares_of" = true)
    (k13 : PySem.W.keepIn K (.ref f13) = true)
    (a14 : PySem.W.nsIn K mainGlobals "check_count" = some (some (.ref f14)))
    (l14 : K.lookup f14 = some ⟨oc14, od14, .func (PySem.W.fnOf "check_count" "check_count" (defArgs s_check_count) (defBody s_check_count) (defScope s_check_count) .none kV14 dc14 pm14 an14 cd14 ct14), sl14⟩)
    (c14 : PySem.W.codeIn K cd14 "check_count" = true)
    (k14 : PySem.W.keepIn K (.ref f14) = true)
    (a15 : PySem.W.nsIn K mainGlobals "checked_levels" = some (some (.ref f15)))
    (l15 : K.lookup f15 = some ⟨oc15, od15, .func (PySem.W.fnOf "checked_levels" "checked_levels" (defArgs s_checked_levels) (defBody s_checked_levels) (defScope s_checked_levels) .none kV15 dc15 pm15 an15 cd15 ct15), sl15⟩)
    (c15 : PySem.W.codeIn K cd15 "checked_levels" = true)
    (k15 : PySem.W.keepIn K (.ref f15) = true)
    (a16 : PySem.W.nsIn K mainGlobals "fill" = some (some (.ref f16)))
    (l16 : K.lookup f16 = some ⟨oc16, od16, .func (PySem.W.fnOf "fill" "fill" (defArgs s_fill) (defBody s_fill) (defScope s_fill) .none kV16 dc16 pm16 an16 cd16 ct16), sl16⟩)
    (c16 : PySem.W.codeIn K cd16 "fill" = true)
    (k16 : PySem.W.keepIn K (.ref f16) = true)
    (a17 : PySem.W.nsIn K mainGlobals "fill_shares" = some (some (.ref f17)))
    (l17 : K.lookup f17 = some ⟨oc17, od17, .func (PySem.W.fnOf "fill_shares" "fill_shares" (defArgs s_fill_shares) (defBody s_fill_shares) (defScope s_fill_shares) .none kV17 dc17 pm17 an17 cd17 ct17), sl17⟩)
    (c17 : PySem.W.codeIn K cd17 "fill_shares" = true)
    (k17 : PySem.W.keepIn K (.ref f17) = true)
    (a18 : PySem.W.nsIn K mainGlobals "is_fill" = some (some (.ref f18)))
    (l18 : K.lookup f18 = some ⟨oc18, od18, .func (PySem.W.fnOf "is_fill" "is_fill" (defArgs s_is_fill) (defBody s_is_fill) (defScope s_is_fill) .none kV18 dc18 pm18 an18 cd18 ct18), sl18⟩)
    (c18 : PySem.W.codeIn K cd18 "is_fill" = true)
    (k18 : PySem.W.keepIn K (.ref f18) = true)
    (a19 : PySem.W.nsIn K mainGlobals "_law_store" = some (some (.ref f19)))
    (l19 : K.lookup f19 = some ⟨oc19, od19, .func (PySem.W.fnOf "_law_store" "_law_store" (defArgs s__law_store) (defBody s__law_store) (defScope s__law_store) .none kV19 dc19 pm19 an19 cd19 ct19), sl19⟩)
    (c19 : PySem.W.codeIn K cd19 "_law_store" = true)
    (k19 : PySem.W.keepIn K (.ref f19) = true)
    (a20 : PySem.W.nsIn K mainGlobals "_law_mixed" = some (some (.ref f20)))
    (l20 : K.lookup f20 = some ⟨oc20, od20, .func (PySem.W.fnOf "_law_mixed" "_law_mixed" (defArgs s__law_mixed) (defBody s__law_mixed) (defScope s__law_mixed) .none kV20 dc20 pm20 an20 cd20 ct20), sl20⟩)
    (c20 : PySem.W.codeIn K cd20 "_law_mixed" = true)
    (k20 : PySem.W.keepIn K (.ref f20) = true)
    (a21 : PySem.W.nsIn K mainGlobals "_law_take" = some (some (.ref f21)))
    (l21 : K.lookup f21 = some ⟨oc21, od21, .func (PySem.W.fnOf "_law_take" "_law_take" (defArgs s__law_take) (defBody s__law_take) (defScope s__law_take) .none kV21 dc21 pm21 an21 cd21 ct21), sl21⟩)
    (c21 : PySem.W.codeIn K cd21 "_law_take" = true)
    (k21 : PySem.W.keepIn K (.ref f21) = true)
    (a22 : PySem.W.nsIn K mainGlobals "_law_edge" = some (some (.ref f22)))
    (l22 : K.lookup f22 = some ⟨oc22, od22, .func (PySem.W.fnOf "_law_edge" "_law_edge" (defArgs s__law_edge) (defBody s__law_edge) (defScope s__law_edge) .none kV22 dc22 pm22 an22 cd22 ct22), sl22⟩)
    (c22 : PySem.W.codeIn K cd22 "_law_edge" = true)
    (k22 : PySem.W.keepIn K (.ref f22) = true)
    (a23 : PySem.W.nsIn K mainGlobals "_law_shuffled" = some (some (.ref f23)))
    (l23 : K.lookup f23 = some ⟨oc23, od23, .func (PySem.W.fnOf "_law_shuffled" "_law_shuffled" (defArgs s__law_shuffled) (defBody s__law_shuffled) (defScope s__law_shuffled) .none kV23 dc23 pm23 an23 cd23 ct23), sl23⟩)
    (c23 : PySem.W.codeIn K cd23 "_law_shuffled" = true)
    (k23 : PySem.W.keepIn K (.ref f23) = true)
    (a24 : PySem.W.nsIn K mainGlobals "_law_gcd" = some (some (.ref f24)))
    (l24 : K.lookup f24 = some ⟨oc24, od24, .func (PySem.W.fnOf "_law_gcd" "_law_gcd" (defArgs s__law_gcd) (defBody s__law_gcd) (defScope s__law_gcd) .none kV24 dc24 pm24 an24 cd24 ct24), sl24⟩)
    (c24 : PySem.W.codeIn K cd24 "_law_gcd" = true)
    (k24 : PySem.W.keepIn K (.ref f24) = true)
    (a25 : PySem.W.nsIn K mainGlobals "_law_low" = some (some (.ref f25)))
    (l25 : K.lookup f25 = some ⟨oc25, od25, .func (PySem.W.fnOf "_law_low" "_law_low" (defArgs s__law_low) (defBody s__law_low) (defScope s__law_low) .none kV25 dc25 pm25 an25 cd25 ct25), sl25⟩)
    (c25 : PySem.W.codeIn K cd25 "_law_low" = true)
    (k25 : PySem.W.keepIn K (.ref f25) = true)
    (a26 : PySem.W.nsIn K mainGlobals "_law_value" = some (some (.ref f26)))
    (l26 : K.lookup f26 = some ⟨oc26, od26, .func (PySem.W.fnOf "_law_value" "_law_value" (defArgs s__law_value) (defBody s__law_value) (defScope s__law_value) .none kV26 dc26 pm26 an26 cd26 ct26), sl26⟩)
    (c26 : PySem.W.codeIn K cd26 "_law_value" = true)
    (k26 : PySem.W.keepIn K (.ref f26) = true)
    (a27 : PySem.W.nsIn K mainGlobals "_law_plus" = some (some (.ref f27)))
    (l27 : K.lookup f27 = some ⟨oc27, od27, .func (PySem.W.fnOf "_law_plus" "_law_plus" (defArgs s__law_plus) (defBody s__law_plus) (defScope s__law_plus) .none kV27 dc27 pm27 an27 cd27 ct27), sl27⟩)
    (c27 : PySem.W.codeIn K cd27 "_law_plus" = true)
    (k27 : PySem.W.keepIn K (.ref f27) = true)
    (a28 : PySem.W.nsIn K mainGlobals "_law_minus" = some (some (.ref f28)))
    (l28 : K.lookup f28 = some ⟨oc28, od28, .func (PySem.W.fnOf "_law_minus" "_law_minus" (defArgs s__law_minus) (defBody s__law_minus) (defScope s__law_minus) .none kV28 dc28 pm28 an28 cd28 ct28), sl28⟩)
    (c28 : PySem.W.codeIn K cd28 "_law_minus" = true)
    (k28 : PySem.W.keepIn K (.ref f28) = true)
    (a29 : PySem.W.nsIn K mainGlobals "_law_times" = some (some (.ref f29)))
    (l29 : K.lookup f29 = some ⟨oc29, od29, .func (PySem.W.fnOf "_law_times" "_law_times" (defArgs s__law_times) (defBody s__law_times) (defScope s__law_times) .none kV29 dc29 pm29 an29 cd29 ct29), sl29⟩)
    (c29 : PySem.W.codeIn K cd29 "_law_times" = true)
    (k29 : PySem.W.keepIn K (.ref f29) = true)
    (a30 : PySem.W.nsIn K mainGlobals "_law_below" = some (some (.ref f30)))
    (l30 : K.lookup f30 = some ⟨oc30, od30, .func (PySem.W.fnOf "_law_below" "_law_below" (defArgs s__law_below) (defBody s__law_below) (defScope s__law_below) .none kV30 dc30 pm30 an30 cd30 ct30), sl30⟩)
    (c30 : PySem.W.codeIn K cd30 "_law_below" = true)
    (k30 : PySem.W.keepIn K (.ref f30) = true)
    (a31 : PySem.W.nsIn K mainGlobals "_law_sum" = some (some (.ref f31)))
    (l31 : K.lookup f31 = some ⟨oc31, od31, .func (PySem.W.fnOf "_law_sum" "_law_sum" (defArgs s__law_sum) (defBody s__law_sum) (defScope s__law_sum) .none kV31 dc31 pm31 an31 cd31 ct31), sl31⟩)
    (c31 : PySem.W.codeIn K cd31 "_law_sum" = true)
    (k31 : PySem.W.keepIn K (.ref f31) = true)
    (a32 : PySem.W.nsIn K mainGlobals "_law_sorted" = some (some (.ref f32)))
    (l32 : K.lookup f32 = some ⟨oc32, od32, .func (PySem.W.fnOf "_law_sorted" "_law_sorted" (defArgs s__law_sorted) (defBody s__law_sorted) (defScope s__law_sorted) .none kV32 dc32 pm32 an32 cd32 ct32), sl32⟩)
    (c32 : PySem.W.codeIn K cd32 "_law_sorted" = true)
    (k32 : PySem.W.keepIn K (.ref f32) = true)
    (a33 : PySem.W.nsIn K mainGlobals "_law_small" = some (some (.ref f33)))
    (l33 : K.lookup f33 = some ⟨oc33, od33, .func (PySem.W.fnOf "_law_small" "_law_small" (defArgs s__law_small) (defBody s__law_small) (defScope s__law_small) .none kV33 dc33 pm33 an33 cd33 ct33), sl33⟩)
    (c33 : PySem.W.codeIn K cd33 "_law_small" = true)
    (k33 : PySem.W.keepIn K (.ref f33) = true)
    (a34 : PySem.W.nsIn K mainGlobals "_law_part" = some (some (.ref f34)))
    (l34 : K.lookup f34 = some ⟨oc34, od34, .func (PySem.W.fnOf "_law_part" "_law_part" (defArgs s__law_part) (defBody s__law_part) (defScope s__law_part) .none kV34 dc34 pm34 an34 cd34 ct34), sl34⟩)
    (c34 : PySem.W.codeIn K cd34 "_law_part" = true)
    (k34 : PySem.W.keepIn K (.ref f34) = true)
    (a35 : PySem.W.nsIn K mainGlobals "_law_dress" = some (some (.ref f35)))
    (l35 : K.lookup f35 = some ⟨oc35, od35, .func (PySem.W.fnOf "_law_dress" "_law_dress" (defArgs s__law_dress) (defBody s__law_dress) (defScope s__law_dress) .none kV35 dc35 pm35 an35 cd35 ct35), sl35⟩)
    (c35 : PySem.W.codeIn K cd35 "_law_dress" = true)
    (k35 : PySem.W.keepIn K (.ref f35) = true)
    (a36 : PySem.W.nsIn K mainGlobals "_law_dressed" = some (some (.ref f36)))
    (l36 : K.lookup f36 = some ⟨oc36, od36, .func (PySem.W.fnOf "_law_dressed" "_law_dressed" (defArgs s__law_dressed) (defBody s__law_dressed) (defScope s__law_dressed) .none kV36 dc36 pm36 an36 cd36 ct36), sl36⟩)
    (c36 : PySem.W.codeIn K cd36 "_law_dressed" = true)
    (k36 : PySem.W.keepIn K (.ref f36) = true)
    (a37 : PySem.W.nsIn K mainGlobals "_law_not_number" = some (some (.ref f37)))
    (l37 : K.lookup f37 = some ⟨oc37, od37, .func (PySem.W.fnOf "_law_not_number" "_law_not_number" (defArgs s__law_not_number) (defBody s__law_not_number) (defScope s__law_not_number) .none kV37 dc37 pm37 an37 cd37 ct37), sl37⟩)
    (c37 : PySem.W.codeIn K cd37 "_law_not_number" = true)
    (k37 : PySem.W.keepIn K (.ref f37) = true)
    (a38 : PySem.W.nsIn K mainGlobals "_law_same" = some (some (.ref f38)))
    (l38 : K.lookup f38 = some ⟨oc38, od38, .func (PySem.W.fnOf "_law_same" "_law_same" (defArgs s__law_same) (defBody s__law_same) (defScope s__law_same) .none kV38 dc38 pm38 an38 cd38 ct38), sl38⟩)
    (c38 : PySem.W.codeIn K cd38 "_law_same" = true)
    (k38 : PySem.W.keepIn K (.ref f38) = true)
    (a39 : PySem.W.nsIn K mainGlobals "_law_is_whole" = some (some (.ref f39)))
    (l39 : K.lookup f39 = some ⟨oc39, od39, .func (PySem.W.fnOf "_law_is_whole" "_law_is_whole" (defArgs s__law_is_whole) (defBody s__law_is_whole) (defScope s__law_is_whole) .none kV39 dc39 pm39 an39 cd39 ct39), sl39⟩)
    (c39 : PySem.W.codeIn K cd39 "_law_is_whole" = true)
    (k39 : PySem.W.keepIn K (.ref f39) = true)
    (a40 : PySem.W.nsIn K mainGlobals "_law_is_value" = some (some (.ref f40)))
    (l40 : K.lookup f40 = some ⟨oc40, od40, .func (PySem.W.fnOf "_law_is_value" "_law_is_value" (defArgs s__law_is_value) (defBody s__law_is_value) (defScope s__law_is_value) .none kV40 dc40 pm40 an40 cd40 ct40), sl40⟩)
    (c40 : PySem.W.codeIn K cd40 "_law_is_value" = true)
    (k40 : PySem.W.keepIn K (.ref f40) = true)
    (a41 : PySem.W.nsIn K mainGlobals "_law_are_values" = some (some (.ref f41)))
    (l41 : K.lookup f41 = some ⟨oc41, od41, .func (PySem.W.fnOf "_law_are_values" "_law_are_values" (defArgs s__law_are_values) (defBody s__law_are_values) (defScope s__law_are_values) .none kV41 dc41 pm41 an41 cd41 ct41), sl41⟩)
    (c41 : PySem.W.codeIn K cd41 "_law_are_values" = true)
    (k41 : PySem.W.keepIn K (.ref f41) = true)
    (a42 : PySem.W.nsIn K mainGlobals "_law_is_sharing" = some (some (.ref f42)))
    (l42 : K.lookup f42 = some ⟨oc42, od42, .func (PySem.W.fnOf "_law_is_sharing" "_law_is_sharing" (defArgs s__law_is_sharing) (defBody s__law_is_sharing) (defScope s__law_is_sharing) .none kV42 dc42 pm42 an42 cd42 ct42), sl42⟩)
    (c42 : PySem.W.codeIn K cd42 "_law_is_sharing" = true)
    (k42 : PySem.W.keepIn K (.ref f42) = true)
    (a43 : PySem.W.nsIn K mainGlobals "_law_copy" = some (some (.ref f43)))
    (l43 : K.lookup f43 = some ⟨oc43, od43, .func (PySem.W.fnOf "_law_copy" "_law_copy" (defArgs s__law_copy) (defBody s__law_copy) (defScope s__law_copy) .none kV43 dc43 pm43 an43 cd43 ct43), sl43⟩)
    (c43 : PySem.W.codeIn K cd43 "_law_copy" = true)
    (k43 : PySem.W.keepIn K (.ref f43) = true)
    (a44 : PySem.W.nsIn K mainGlobals "_law_spoil" = some (some (.ref f44)))
    (l44 : K.lookup f44 = some ⟨oc44, od44, .func (PySem.W.fnOf "_law_spoil" "_law_spoil" (defArgs s__law_spoil) (defBody s__law_spoil) (defScope s__law_spoil) .none kV44 dc44 pm44 an44 cd44 ct44), sl44⟩)
    (c44 : PySem.W.codeIn K cd44 "_law_spoil" = true)
    (k44 : PySem.W.keepIn K (.ref f44) = true)
    (a45 : PySem.W.nsIn K mainGlobals "_law_one_bad" = some (some (.ref f45)))
    (l45 : K.lookup f45 = some ⟨oc45, od45, .func (PySem.W.fnOf "_law_one_bad" "_law_one_bad" (defArgs s__law_one_bad) (defBody s__law_one_bad) (defScope s__law_one_bad) .none kV45 dc45 pm45 an45 cd45 ct45), sl45⟩)
    (c45 : PySem.W.codeIn K cd45 "_law_one_bad" = true)
    (k45 : PySem.W.keepIn K (.ref f45) = true)
    (a46 : PySem.W.nsIn K mainGlobals "_law_height" = some (some (.ref f46)))
    (l46 : K.lookup f46 = some ⟨oc46, od46, .func (PySem.W.fnOf "_law_height" "_law_height" (defArgs s__law_height) (defBody s__law_height) (defScope s__law_height) .none kV46 dc46 pm46 an46 cd46 ct46), sl46⟩)
    (c46 : PySem.W.codeIn K cd46 "_law_height" = true)
    (k46 : PySem.W.keepIn K (.ref f46) = true)
    (a47 : PySem.W.nsIn K mainGlobals "_law_fault" = some (some (.ref f47)))
    (l47 : K.lookup f47 = some ⟨oc47, od47, .func (PySem.W.fnOf "_law_fault" "_law_fault" (defArgs s__law_fault) (defBody s__law_fault) (defScope s__law_fault) .none kV47 dc47 pm47 an47 cd47 ct47), sl47⟩)
    (c47 : PySem.W.codeIn K cd47 "_law_fault" = true)
    (k47 : PySem.W.keepIn K (.ref f47) = true)
    (a48 : PySem.W.nsIn K mainGlobals "_law_vast" = some (some (.ref f48)))
    (l48 : K.lookup f48 = some ⟨oc48, od48, .func (PySem.W.fnOf "_law_vast" "_law_vast" (defArgs s__law_vast) (defBody s__law_vast) (defScope s__law_vast) .none kV48 dc48 pm48 an48 cd48 ct48), sl48⟩)
    (c48 : PySem.W.codeIn K cd48 "_law_vast" = true)
    (k48 : PySem.W.keepIn K (.ref f48) = true)
    (a49 : PySem.W.nsIn K mainGlobals "_law_fit" = some (some (.ref f49)))
    (l49 : K.lookup f49 = some ⟨oc49, od49, .func (PySem.W.fnOf "_law_fit" "_law_fit" (defArgs s__law_fit) (defBody s__law_fit) (defScope s__law_fit) .none kV49 dc49 pm49 an49 cd49 ct49), sl49⟩)
    (c49 : PySem.W.codeIn K cd49 "_law_fit" = true)
    (k49 : PySem.W.keepIn K (.ref f49) = true)
    (a50 : PySem.W.nsIn K mainGlobals "_law_floor" = some (some (.ref f50)))
    (l50 : K.lookup f50 = some ⟨oc50, od50, .func (PySem.W.fnOf "_law_floor" "_law_floor" (defArgs s__law_floor) (defBody s__law_floor) (defScope s__law_floor) .none kV50 dc50 pm50 an50 cd50 ct50), sl50⟩)
    (c50 : PySem.W.codeIn K cd50 "_law_floor" = true)
    (k50 : PySem.W.keepIn K (.ref f50) = true)
    (a51 : PySem.W.nsIn K mainGlobals "_law_poured" = some (some (.ref f51)))
    (l51 : K.lookup f51 = some ⟨oc51, od51, .func (PySem.W.fnOf "_law_poured" "_law_poured" (defArgs s__law_poured) (defBody s__law_poured) (defScope s__law_poured) .none kV51 dc51 pm51 an51 cd51 ct51), sl51⟩)
    (c51 : PySem.W.codeIn K cd51 "_law_poured" = true)
    (k51 : PySem.W.keepIn K (.ref f51) = true)
    (a52 : PySem.W.nsIn K mainGlobals "_law_look" = some (some (.ref f52)))
    (l52 : K.lookup f52 = some ⟨oc52, od52, .func (PySem.W.fnOf "_law_look" "_law_look" (defArgs s__law_look) (defBody s__law_look) (defScope s__law_look) .none kV52 dc52 pm52 an52 cd52 ct52), sl52⟩)
    (c52 : PySem.W.codeIn K cd52 "_law_look" = true)
    (k52 : PySem.W.keepIn K (.ref f52) = true)
    (a53 : PySem.W.nsIn K mainGlobals "_law_door" = some (some (.ref f53)))
    (l53 : K.lookup f53 = some ⟨oc53, od53, .func (PySem.W.fnOf "_law_door" "_law_door" (defArgs s__law_door) (defBody s__law_door) (defScope s__law_door) .none kV53 dc53 pm53 an53 cd53 ct53), sl53⟩)
    (c53 : PySem.W.codeIn K cd53 "_law_door" = true)
    (k53 : PySem.W.keepIn K (.ref f53) = true)
    (a54 : PySem.W.nsIn K mainGlobals "_law_refusals" = some (some (.ref f54)))
    (l54 : K.lookup f54 = some ⟨oc54, od54, .func (PySem.W.fnOf "_law_refusals" "_law_refusals" (defArgs s__law_refusals) (defBody s__law_refusals) (defScope s__law_refusals) .none kV54 dc54 pm54 an54 cd54 ct54), sl54⟩)
    (c54 : PySem.W.codeIn K cd54 "_law_refusals" = true)
    (k54 : PySem.W.keepIn K (.ref f54) = true)
    (a55 : PySem.W.nsIn K mainGlobals "law" = some (some (.ref f55)))
    (l55 : K.lookup f55 = some ⟨oc55, od55, .func (PySem.W.fnOf "law" "law" (defArgs s_law) (defBody s_law) (defScope s_law) .none kV55 dc55 pm55 an55 cd55 ct55), sl55⟩)
    (c55 : PySem.W.codeIn K cd55 "law" = true)
    (k55 : PySem.W.keepIn K (.ref f55) = true)
    (z_ValueError : PySem.W.nsIn K mainGlobals "ValueError" = some none)
    (z_abs : PySem.W.nsIn K mainGlobals "abs" = some none)
    (z_bool : PySem.W.nsIn K mainGlobals "bool" = some none)
    (z_int : PySem.W.nsIn K mainGlobals "int" = some none)
    (z_isinstance : PySem.W.nsIn K mainGlobals "isinstance" = some none)
    (z_len : PySem.W.nsIn K mainGlobals "len" = some none)
    (z_list : PySem.W.nsIn K mainGlobals "list" = some none)
    (z_range : PySem.W.nsIn K mainGlobals "range" = some none)
    (z_str : PySem.W.nsIn K mainGlobals "str" = some none)
    (z_sum : PySem.W.nsIn K mainGlobals "sum" = some none)
    (z_super : PySem.W.nsIn K mainGlobals "super" = some none)
    (z_tuple : PySem.W.nsIn K mainGlobals "tuple" = some none)
    (fga_BadNumber : PySem.W.findIn K (.ref c_BadNumber) "__getattribute__" = some (some (.builtin "BaseException.__getattribute__")))
    (fcl_BadNumber : PySem.W.findIn K (.ref c_BadNumber) "__class__" = some (some (.builtin "object.__class__")))
    (fgg_BadNumber : PySem.W.findIn K (.ref c_BadNumber) "__getattr__" = some none)
    (fn_BadNumber_beginning : PySem.W.findIn K (.ref c_BadNumber) "beginning" = some none)
    (fn_BadNumber_found : PySem.W.findIn K (.ref c_BadNumber) "found" = some none)
    (fn_BadNumber_high : PySem.W.findIn K (.ref c_BadNumber) "high" = some none)
    (fn_BadNumber_line : PySem.W.findIn K (.ref c_BadNumber) "line" = some none)
    (fn_BadNumber_low : PySem.W.findIn K (.ref c_BadNumber) "low" = some none)
    (kp_BadNumber : PySem.W.keepIn K (.ref c_BadNumber) = true)
    (eb_BadNumber : PySem.W.subIn K (.ref c_BadNumber) (.type "BaseException") = some true)
    (ty_BadNumber : PySem.W.typeIn K (.ref c_BadNumber) = some (.type "type"))
    (hd_BadNumber : PySem.W.hasDictIn K c_BadNumber = true)
    (ic_BadNumber : PySem.W.isClsIn K c_BadNumber = true)
    (mo_BadNumber : PySem.W.mroIn K c_BadNumber (.type "object") = some true)
    (sN_BadNumber : PySem.W.subIn K (.ref c_BadNumber) (.ref c_NotBehindError) = some true)
    (kV_BadNumber : PySem.W.kitOne K (.ref c_BadNumber) (.type "ValueError") = some true)
    (ki_BadNumber_BadCount : PySem.W.kitOne K (.ref c_BadNumber) (.ref c_BadCount) = some false)
    (ki_BadNumber_BadName : PySem.W.kitOne K (.ref c_BadNumber) (.ref c_BadName) = some false)
    (ki_BadNumber_BadNumber : PySem.W.kitOne K (.ref c_BadNumber) (.ref c_BadNumber) = some true)
    (ki_BadNumber_BadRow : PySem.W.kitOne K (.ref c_BadNumber) (.ref c_BadRow) = some false)
    (ki_BadNumber_BadShare : PySem.W.kitOne K (.ref c_BadNumber) (.ref c_BadShare) = some false)
    (ki_BadNumber_BadSize : PySem.W.kitOne K (.ref c_BadNumber) (.ref c_BadSize) = some false)
    (ki_BadNumber_BadText : PySem.W.kitOne K (.ref c_BadNumber) (.ref c_BadText) = some false)
    (ki_BadNumber_BadWeight : PySem.W.kitOne K (.ref c_BadNumber) (.ref c_BadWeight) = some false)
    (ki_BadNumber_DivisionByZero : PySem.W.kitOne K (.ref c_BadNumber) (.ref c_DivisionByZero) = some false)
    (ki_BadNumber_GameOver : PySem.W.kitOne K (.ref c_BadNumber) (.ref c_GameOver) = some false)
    (ki_BadNumber_InUse : PySem.W.kitOne K (.ref c_BadNumber) (.ref c_InUse) = some false)
    (ki_BadNumber_Lacking : PySem.W.kitOne K (.ref c_BadNumber) (.ref c_Lacking) = some false)
    (ki_BadNumber_Mismatch : PySem.W.kitOne K (.ref c_BadNumber) (.ref c_Mismatch) = some false)
    (ki_BadNumber_NoHelper : PySem.W.kitOne K (.ref c_BadNumber) (.ref c_NoHelper) = some false)
    (ki_BadNumber_NotExact : PySem.W.kitOne K (.ref c_BadNumber) (.ref c_NotExact) = some false)
    (ki_BadNumber_NothingToTakeBack : PySem.W.kitOne K (.ref c_BadNumber) (.ref c_NothingToTakeBack) = some false)
    (ki_BadNumber_TakenName : PySem.W.kitOne K (.ref c_BadNumber) (.ref c_TakenName) = some false)
    (ki_BadNumber_UnknownName : PySem.W.kitOne K (.ref c_BadNumber) (.ref c_UnknownName) = some false)
    (ki_BadNumber_WrongKind : PySem.W.kitOne K (.ref c_BadNumber) (.ref c_WrongKind) = some false)
    (xI_BadNumber : PySem.W.excIn K c_BadNumber [.type "ValueError", .type "Exception", .type "BaseException", .type "object"] "ValueError.__new__" = true)
    (xL_BadCount : K.lookup c_BadCount = some (excClassObj nm_BadCount q_BadCount c_BadCount N_BadCount bs_BadCount [.ref c_NotBehindError, .type "ValueError", .type "Exception", .type "BaseException", .type "object"] true sn_BadCount sub_BadCount ab_BadCount col_BadCount dd_BadCount m0_BadCount m1_BadCount m2_BadCount m3_BadCount m5_BadCount "ValueError.__new__"))
    (fga_BadCount : PySem.W.findIn K (.ref c_BadCount) "__getattribute__" = some (some (.builtin "BaseException.__getattribute__")))
    (fcl_BadCount : PySem.W.findIn K (.ref c_BadCount) "__class__" = some (some (.builtin "object.__class__")))
    (fgg_BadCount : PySem.W.findIn K (.ref c_BadCount) "__getattr__" = some none)
    (fn_BadCount_beginning : PySem.W.findIn K (.ref c_BadCount) "beginning" = some none)
    (fn_BadCount_found : PySem.W.findIn K (.ref c_BadCount) "found" = some none)
    (fn_BadCount_high : PySem.W.findIn K (.ref c_BadCount) "high" = some none)
    (fn_BadCount_line : PySem.W.findIn K (.ref c_BadCount) "line" = some none)
    (fn_BadCount_low : PySem.W.findIn K (.ref c_BadCount) "low" = some none)
    (kp_BadCount : PySem.W.keepIn K (.ref c_BadCount) = true)
    (eb_BadCount : PySem.W.subIn K (.ref c_BadCount) (.type "BaseException") = some true)
    (ty_BadCount : PySem.W.typeIn K (.ref c_BadCount) = some (.type "type"))
    (hd_BadCount : PySem.W.hasDictIn K c_BadCount = true)
    (ic_BadCount : PySem.W.isClsIn K c_BadCount = true)
    (mo_BadCount : PySem.W.mroIn K c_BadCount (.type "object") = some true)
    (sN_BadCount : PySem.W.subIn K (.ref c_BadCount) (.ref c_NotBehindError) = some true)
    (kV_BadCount : PySem.W.kitOne K (.ref c_BadCount) (.type "ValueError") = some true)
    (ki_BadCount_BadCount : PySem.W.kitOne K (.ref c_BadCount) (.ref c_BadCount) = some true)
    (ki_BadCount_BadName : PySem.W.kitOne K (.ref c_BadCount) (.ref c_BadName) = some false)
    (ki_BadCount_BadNumber : PySem.W.kitOne K (.ref c_BadCount) (.ref c_BadNumber) = some false)
    (ki_BadCount_BadRow : PySem.W.kitOne K (.ref c_BadCount) (.ref c_BadRow) = some false)
    (ki_BadCount_BadShare : PySem.W.kitOne K (.ref c_BadCount) (.ref c_BadShare) = some false)
    (ki_BadCount_BadSize : PySem.W.kitOne K (.ref c_BadCount) (.ref c_BadSize) = some false)
    (ki_BadCount_BadText : PySem.W.kitOne K (.ref c_BadCount) (.ref c_BadText) = some false)
    (ki_BadCount_BadWeight : PySem.W.kitOne K (.ref c_BadCount) (.ref c_BadWeight) = some false)
    (ki_BadCount_DivisionByZero : PySem.W.kitOne K (.ref c_BadCount) (.ref c_DivisionByZero) = some false)
    (ki_BadCount_GameOver : PySem.W.kitOne K (.ref c_BadCount) (.ref c_GameOver) = some false)
    (ki_BadCount_InUse : PySem.W.kitOne K (.ref c_BadCount) (.ref c_InUse) = some false)
    (ki_BadCount_Lacking : PySem.W.kitOne K (.ref c_BadCount) (.ref c_Lacking) = some false)
    (ki_BadCount_Mismatch : PySem.W.kitOne K (.ref c_BadCount) (.ref c_Mismatch) = some false)
    (ki_BadCount_NoHelper : PySem.W.kitOne K (.ref c_BadCount) (.ref c_NoHelper) = some false)
    (ki_BadCount_NotExact : PySem.W.kitOne K (.ref c_BadCount) (.ref c_NotExact) = some false)
    (ki_BadCount_NothingToTakeBack : PySem.W.kitOne K (.ref c_BadCount) (.ref c_NothingToTakeBack) = some false)
    (ki_BadCount_TakenName : PySem.W.kitOne K (.ref c_BadCount) (.ref c_TakenName) = some false)
    (ki_BadCount_UnknownName : PySem.W.kitOne K (.ref c_BadCount) (.ref c_UnknownName) = some false)
    (ki_BadCount_WrongKind : PySem.W.kitOne K (.ref c_BadCount) (.ref c_WrongKind) = some false)
    (sa_BadCount : PySem.W.findIn K (.ref c_BadCount) "__setattr__" = some (some (.builtin "object.__setattr__")))
    (iC_BadCount : PySem.W.findIn K (.ref c_BadCount) "__init__" = some (some (.ref fI_BadCount)))
    (tI_BadCount : PySem.W.typeIn K (.ref fI_BadCount) = some (.type "function"))
    (ve_BadCount : PySem.W.subIn K (.ref c_BadCount) (.type "ValueError") = some true)
    (sc_BadCount : PySem.W.subIn K (.ref c_BadCount) (.ref c_BadCount) = some true)
    (mc_BadCount : PySem.W.mroIn K c_BadCount (.ref c_BadCount) = some true)
    (su_BadCount : PySem.W.ks_superIn K c_BadCount c_BadCount "__init__" = some (some (.builtin "ValueError.__init__")))
    (lI_BadCount : K.lookup fI_BadCount = some ⟨ocI_BadCount, odI_BadCount, .func (PySem.W.ksFn "__init__" "BadCount.__init__" (defArgs init_BadCount) (defBody init_BadCount) (defScope init_BadCount) .none .none dcI_BadCount pmI_BadCount anI_BadCount (.ref cd_BadCount) ctI_BadCount cc_BadCount), slI_BadCount⟩)
    (cI_BadCount : PySem.W.codeIn K (.ref cd_BadCount) "BadCount.__init__" = true)
    (lcc_BadCount : K.lookup cc_BadCount = some ⟨clcc_BadCount, cldcc_BadCount, .cell (some (.ref c_BadCount)), cslcc_BadCount⟩)
    (lcd_BadCount : K.lookup cd_BadCount = some ⟨clcd_BadCount, cldcd_BadCount, .fields vscd_BadCount, cslcd_BadCount⟩)
    (vs2_BadCount : vscd_BadCount[2]? = some (.str file_BadCount tfile_BadCount))
    (ff_BadCount : ((l.prog.main.file : Str) == file_BadCount) = true)
    (opq : PySem.W.nsIn K cStatics "thirdparty.any" = some none)
    (ftop : (l.prog.main.scope.names.lookup ("super" : Str)).isSome = false)
    (spO : PySem.W.specialIn K (.builtin "object.__class__") "__get__" = some (some (.builtin "getset_descriptor.__get__")))
    (tkO : PySem.W.takesIn K (.builtin "object.__class__") = some true)
    (eNB : PySem.W.subIn K (.ref c_NotBehindError) (.type "BaseException") = some true)
    (tNB : PySem.W.typeIn K (.ref c_NotBehindError) = some (.type "type"))
    (iNB : PySem.W.isClsIn K c_NotBehindError = true)
    (o_MOST_WIDTH : PySem.W.nsIn K mainGlobals "MOST_WIDTH" = some (some (.int 5 tK_MOST_WIDTH)))
    (o_ONE : PySem.W.nsIn K mainGlobals "ONE" = some (some (.ref aK_ONE)))
    (lo_ONE : K.lookup aK_ONE = some ⟨.type "tuple", odK_ONE, .seq #[.int 1 t0_ONE, .int 1 t1_ONE] nK_ONE, slK_ONE⟩)
    (o_ZERO : PySem.W.nsIn K mainGlobals "ZERO" = some (some (.ref aK_ZERO)))
    (lo_ZERO : K.lookup aK_ZERO = some ⟨.type "tuple", odK_ZERO, .seq #[.int 0 t0_ZERO, .int 1 t1_ZERO] nK_ZERO, slK_ZERO⟩)
    (gcd : PySem.W.nsIn K mainGlobals "gcd" = some (some (.builtin "math.gcd")))
    : ∃ fd : FuncData, (∀ (s : Shared) (v : Value), BindsTo s fd ⟨[v], []⟩ [("script", v)]) ∧ ∀ base : Heap, K.In base → base.Ns mainGlobals mg → FnOk l.prog w K mg base (L2N.CX l.prog w) 11 fa fd ["script"] (spLaw K) := by
  have e := hfa.symm.trans (PySem.W.mg_of X G a55)
  cases e
  have G_BadCount := PySem.W.mg_of X G g_BadCount
  have G_BadName := PySem.W.mg_of X G g_BadName
  have G_BadNumber := PySem.W.mg_of X G g_BadNumber
  have G_BadRow := PySem.W.mg_of X G g_BadRow
  have G_BadShare := PySem.W.mg_of X G g_BadShare
  have G_BadSize := PySem.W.mg_of X G g_BadSize
  have G_BadText := PySem.W.mg_of X G g_BadText
  have G_BadWeight := PySem.W.mg_of X G g_BadWeight
  have G_DivisionByZero := PySem.W.mg_of X G g_DivisionByZero
  have G_GameOver := PySem.W.mg_of X G g_GameOver
  have G_InUse := PySem.W.mg_of X G g_InUse
  have G_Lacking := PySem.W.mg_of X G g_Lacking
  have G_Mismatch := PySem.W.mg_of X G g_Mismatch
  have G_NoHelper := PySem.W.mg_of X G g_NoHelper
  have G_NotBehindError := PySem.W.mg_of X G g_NotBehindError
  have G_NotExact := PySem.W.mg_of X G g_NotExact
  have G_NothingToTakeBack := PySem.W.mg_of X G g_NothingToTakeBack
  have G_TakenName := PySem.W.mg_of X G g_TakenName
  have G_UnknownName := PySem.W.mg_of X G g_UnknownName
  have G_WrongKind := PySem.W.mg_of X G g_WrongKind
  have only : ∀ (n : Str) (C : Addr), okX n → mg n = some (.ref C) → (n = "BadNumber" ∧ C = c_BadNumber) ∨ (n = "BadCount" ∧ C = c_BadCount) := fun n C hn hm => by
    unfold okX at hn
    simp only [List.mem_cons, List.not_mem_nil, or_false] at hn
    rcases hn with rfl | rfl
    · rw [G_BadNumber] at hm
      cases hm
      exact .inl ⟨rfl, rfl⟩
    · rw [G_BadCount] at hm
      cases hm
      exact .inr (⟨rfl, rfl⟩)
  have i_BadCount : IsC K mg okX "BadCount" fun n => n == "BadCount" := ⟨c_BadCount, G_BadCount, fun n C hn hm => by
    rcases only n C hn hm with ⟨rfl, rfl⟩ | ⟨rfl, rfl⟩
    · exact ki_BadNumber_BadCount
    · exact ki_BadCount_BadCount
  ⟩
  have i_BadName : IsC K mg okX "BadName" fun n => n == "BadName" := ⟨c_BadName, G_BadName, fun n C hn hm => by
    rcases only n C hn hm with ⟨rfl, rfl⟩ | ⟨rfl, rfl⟩
    · exact ki_BadNumber_BadName
    · exact ki_BadCount_BadName
  ⟩
  have i_BadNumber : IsC K mg okX "BadNumber" fun n => n == "BadNumber" := ⟨c_BadNumber, G_BadNumber, fun n C hn hm => by
    rcases only n C hn hm with ⟨rfl, rfl⟩ | ⟨rfl, rfl⟩
    · exact ki_BadNumber_BadNumber
    · exact ki_BadCount_BadNumber
  ⟩
  have i_BadRow : IsC K mg okX "BadRow" fun n => n == "BadRow" := ⟨c_BadRow, G_BadRow, fun n C hn hm => by
    rcases only n C hn hm with ⟨rfl, rfl⟩ | ⟨rfl, rfl⟩
    · exact ki_BadNumber_BadRow
    · exact ki_BadCount_BadRow
  ⟩
  have i_BadShare : IsC K mg okX "BadShare" fun n => n == "BadShare" := ⟨c_BadShare, G_BadShare, fun n C hn hm => by
    rcases only n C hn hm with ⟨rfl, rfl⟩ | ⟨rfl, rfl⟩
    · exact ki_BadNumber_BadShare
    · exact ki_BadCount_BadShare
  ⟩
  have i_BadSize : IsC K mg okX "BadSize" fun n => n == "BadSize" := ⟨c_BadSize, G_BadSize, fun n C hn hm => by
    rcases only n C hn hm with ⟨rfl, rfl⟩ | ⟨rfl, rfl⟩
    · exact ki_BadNumber_BadSize
    · exact ki_BadCount_BadSize
  ⟩
  have i_BadText : IsC K mg okX "BadText" fun n => n == "BadText" := ⟨c_BadText, G_BadText, fun n C hn hm => by
    rcases only n C hn hm with ⟨rfl, rfl⟩ | ⟨rfl, rfl⟩
    · exact ki_BadNumber_BadText
    · exact ki_BadCount_BadText
  ⟩
  have i_BadWeight : IsC K mg okX "BadWeight" fun n => n == "BadWeight" := ⟨c_BadWeight, G_BadWeight, fun n C hn hm => by
    rcases only n C hn hm with ⟨rfl, rfl⟩ | ⟨rfl, rfl⟩
    · exact ki_BadNumber_BadWeight
    · exact ki_BadCount_BadWeight
  ⟩
  have i_DivisionByZero : IsC K mg okX "DivisionByZero" fun n => n == "DivisionByZero" := ⟨c_DivisionByZero, G_DivisionByZero, fun n C hn hm => by
    rcases only n C hn hm with ⟨rfl, rfl⟩ | ⟨rfl, rfl⟩
    · exact ki_BadNumber_DivisionByZero
    · exact ki_BadCount_DivisionByZero
  ⟩
  have i_GameOver : IsC K mg okX "GameOver" fun n => n == "GameOver" := ⟨c_GameOver, G_GameOver, fun n C hn hm => by
    rcases only n C hn hm with ⟨rfl, rfl⟩ | ⟨rfl, rfl⟩
    · exact ki_BadNumber_GameOver
    · exact ki_BadCount_GameOver
  ⟩
  have i_InUse : IsC K mg okX "InUse" fun n => n == "InUse" := ⟨c_InUse, G_InUse, fun n C hn hm => by
    rcases only n C hn hm with ⟨rfl, rfl⟩ | ⟨rfl, rfl⟩
    · exact ki_BadNumber_InUse
    · exact ki_BadCount_InUse
  ⟩
  have i_Lacking : IsC K mg okX "Lacking" fun n => n == "Lacking" := ⟨c_Lacking, G_Lacking, fun n C hn hm => by
    rcases only n C hn hm with ⟨rfl, rfl⟩ | ⟨rfl, rfl⟩
    · exact ki_BadNumber_Lacking
    · exact ki_BadCount_Lacking
  ⟩
  have i_Mismatch : IsC K mg okX "Mismatch" fun n => n == "Mismatch" := ⟨c_Mismatch, G_Mismatch, fun n C hn hm => by
    rcases only n C hn hm with ⟨rfl, rfl⟩ | ⟨rfl, rfl⟩
    · exact ki_BadNumber_Mismatch
    · exact ki_BadCount_Mismatch
  ⟩
  have i_NoHelper : IsC K mg okX "NoHelper" fun n => n == "NoHelper" := ⟨c_NoHelper, G_NoHelper, fun n C hn hm => by
    rcases only n C hn hm with ⟨rfl, rfl⟩ | ⟨rfl, rfl⟩
    · exact ki_BadNumber_NoHelper
    · exact ki_BadCount_NoHelper
  ⟩
  have i_NotExact : IsC K mg okX "NotExact" fun n => n == "NotExact" := ⟨c_NotExact, G_NotExact, fun n C hn hm => by
    rcases only n C hn hm with ⟨rfl, rfl⟩ | ⟨rfl, rfl⟩
    · exact ki_BadNumber_NotExact
    · exact ki_BadCount_NotExact
  ⟩
  have i_NothingToTakeBack : IsC K mg okX "NothingToTakeBack" fun n => n == "NothingToTakeBack" := ⟨c_NothingToTakeBack, G_NothingToTakeBack, fun n C hn hm => by
    rcases only n C hn hm with ⟨rfl, rfl⟩ | ⟨rfl, rfl⟩
    · exact ki_BadNumber_NothingToTakeBack
    · exact ki_BadCount_NothingToTakeBack
  ⟩
  have i_TakenName : IsC K mg okX "TakenName" fun n => n == "TakenName" := ⟨c_TakenName, G_TakenName, fun n C hn hm => by
    rcases only n C hn hm with ⟨rfl, rfl⟩ | ⟨rfl, rfl⟩
    · exact ki_BadNumber_TakenName
    · exact ki_BadCount_TakenName
  ⟩
  have i_UnknownName : IsC K mg okX "UnknownName" fun n => n == "UnknownName" := ⟨c_UnknownName, G_UnknownName, fun n C hn hm => by
    rcases only n C hn hm with ⟨rfl, rfl⟩ | ⟨rfl, rfl⟩
    · exact ki_BadNumber_UnknownName
    · exact ki_BadCount_UnknownName
  ⟩
  have i_WrongKind : IsC K mg okX "WrongKind" fun n => n == "WrongKind" := ⟨c_WrongKind, G_WrongKind, fun n C hn hm => by
    rcases only n C hn hm with ⟨rfl, rfl⟩ | ⟨rfl, rfl⟩
    · exact ki_BadNumber_WrongKind
    · exact ki_BadCount_WrongKind
  ⟩
  have f_beginning : ∀ n C, okX n → mg n = some (.ref C) → PySem.W.findIn K (.ref C) "beginning" = some none := fun n C hn hm => by
    rcases only n C hn hm with ⟨rfl, rfl⟩ | ⟨rfl, rfl⟩
    · exact fn_BadNumber_beginning
    · exact fn_BadCount_beginning
  have f_found : ∀ n C, okX n → mg n = some (.ref C) → PySem.W.findIn K (.ref C) "found" = some none := fun n C hn hm => by
    rcases only n C hn hm with ⟨rfl, rfl⟩ | ⟨rfl, rfl⟩
    · exact fn_BadNumber_found
    · exact fn_BadCount_found
  have f_high : ∀ n C, okX n → mg n = some (.ref C) → PySem.W.findIn K (.ref C) "high" = some none := fun n C hn hm => by
    rcases only n C hn hm with ⟨rfl, rfl⟩ | ⟨rfl, rfl⟩
    · exact fn_BadNumber_high
    · exact fn_BadCount_high
  have f_line : ∀ n C, okX n → mg n = some (.ref C) → PySem.W.findIn K (.ref C) "line" = some none := fun n C hn hm => by
    rcases only n C hn hm with ⟨rfl, rfl⟩ | ⟨rfl, rfl⟩
    · exact fn_BadNumber_line
    · exact fn_BadCount_line
  have f_low : ∀ n C, okX n → mg n = some (.ref C) → PySem.W.findIn K (.ref C) "low" = some none := fun n C hn hm => by
    rcases only n C hn hm with ⟨rfl, rfl⟩ | ⟨rfl, rfl⟩
    · exact fn_BadNumber_low
    · exact fn_BadCount_low
  have kinds : Kinds K mg okX := ⟨fun n C hn hm => by
    rcases only n C hn hm with ⟨rfl, rfl⟩ | ⟨rfl, rfl⟩
    · exact { cl := ic_BadNumber, ga := fga_BadNumber, gg := fgg_BadNumber, sb := eb_BadNumber, hd := hd_BadNumber, ca := fcl_BadNumber, sp := spO, tk := tkO, mo := mo_BadNumber }
    · exact { cl := ic_BadCount, ga := fga_BadCount, gg := fgg_BadCount, sb := eb_BadCount, hd := hd_BadCount, ca := fcl_BadCount, sp := spO, tk := tkO, mo := mo_BadCount }
  ⟩
  have vV : ∀ n C, okX n → mg n = some (.ref C) → PySem.W.kitOne K (.ref C) (.type "ValueError") = some ((fun _ => true) n) := fun n C hn hm => by
    rcases only n C hn hm with ⟨rfl, rfl⟩ | ⟨rfl, rfl⟩
    · exact kV_BadNumber
    · exact kV_BadCount
  have cC : CatchC K mg okX "NotBehindError" := ⟨c_NotBehindError, G_NotBehindError, fun n C hn hm => by
    rcases only n C hn hm with ⟨rfl, rfl⟩ | ⟨rfl, rfl⟩
    · exact exm_sub eNB iNB tNB sN_BadNumber
    · exact exm_sub eNB iNB tNB sN_BadCount
  ⟩
  have s_BadCount : SupTxt l.prog K mg "BadCount" c_BadCount fI_BadCount ["found", "low", "high"] init_BadCount :=
    { gC := G_BadCount, cls := ⟨nm_BadCount, q_BadCount, N_BadCount, bs_BadCount, _, sn_BadCount, sub_BadCount, ab_BadCount, col_BadCount, dd_BadCount, m0_BadCount, m1_BadCount, m2_BadCount, m3_BadCount, m5_BadCount, xL_BadCount, by rfl⟩, sa := sa_BadCount, ga := fga_BadCount, gg := fgg_BadCount, noN := fun f hf => by
        simp only [List.mem_cons, List.not_mem_nil, or_false] at hf
        rcases hf with rfl | rfl | rfl
        · exact fn_BadCount_found
        · exact fn_BadCount_low
        · exact fn_BadCount_high
      , iC := iC_BadCount, tC := tI_BadCount, kC := kp_BadCount, exC := eb_BadCount, veC := ve_BadCount, tyC := ty_BadCount, hdC := hd_BadCount, te := exm_sub eb_BadCount ic_BadCount ty_BadCount sc_BadCount, sup := su_BadCount, sCC := mc_BadCount, opq := opq, sN := PySem.W.mg_none_of X G z_super, top := ftop, fn := ⟨cc_BadCount, cd_BadCount, _, _, _, _, _, _, _, _, _, _, _, _, _, _, _, _, _, lI_BadCount, cI_BadCount, lcc_BadCount, lcd_BadCount, vs2_BadCount, ff_BadCount⟩ }
  have T : Txt l.prog K mg :=
    { ValueError := PySem.W.mg_none_of X G z_ValueError,
      abs := PySem.W.mg_none_of X G z_abs,
      bool := PySem.W.mg_none_of X G z_bool,
      int := PySem.W.mg_none_of X G z_int,
      isinstance := PySem.W.mg_none_of X G z_isinstance,
      len := PySem.W.mg_none_of X G z_len,
      list := PySem.W.mg_none_of X G z_list,
      range := PySem.W.mg_none_of X G z_range,
      str := PySem.W.mg_none_of X G z_str,
      sum := PySem.W.mg_none_of X G z_sum,
      tuple := PySem.W.mg_none_of X G z_tuple,
      kinds := kinds,
      i_BadCount := i_BadCount,
      i_BadName := i_BadName,
      i_BadNumber := i_BadNumber,
      i_BadRow := i_BadRow,
      i_BadShare := i_BadShare,
      i_BadSize := i_BadSize,
      i_BadText := i_BadText,
      i_BadWeight := i_BadWeight,
      i_DivisionByZero := i_DivisionByZero,
      i_GameOver := i_GameOver,
      i_InUse := i_InUse,
      i_Lacking := i_Lacking,
      i_Mismatch := i_Mismatch,
      i_NoHelper := i_NoHelper,
      i_NotExact := i_NotExact,
      i_NothingToTakeBack := i_NothingToTakeBack,
      i_TakenName := i_TakenName,
      i_UnknownName := i_UnknownName,
      i_WrongKind := i_WrongKind,
      f_beginning := f_beginning,
      f_found := f_found,
      f_high := f_high,
      f_line := f_line,
      f_low := f_low,
      v_ValueError := vV,
      c_NotBehindError := cC,
      r_BadCount := ⟨⟨c_BadCount, fI_BadCount, s_BadCount⟩, initN_BadCount⟩,
      r_BadNumber := ⟨c_BadNumber, _, G_BadNumber, xI_BadNumber, kp_BadNumber, eb_BadNumber, ty_BadNumber, PySem.F.excBase_ValueError⟩,
      k_MOST_WIDTH := ⟨tK_MOST_WIDTH, PySem.W.mg_of X G o_MOST_WIDTH⟩,
      k_ONE := ⟨aK_ONE, PySem.W.mg_of X G o_ONE, .inr ⟨_, _, _, lo_ONE, rfl, rfl, by rw [line_is]; show 2 ≤ 16777216; decide, .cons ⟨_, rfl⟩ (.cons ⟨_, rfl⟩ (.nil))⟩⟩,
      k_ZERO := ⟨aK_ZERO, PySem.W.mg_of X G o_ZERO, .inr ⟨_, _, _, lo_ZERO, rfl, rfl, by rw [line_is]; show 2 ≤ 16777216; decide, .cons ⟨_, rfl⟩ (.cons ⟨_, rfl⟩ (.nil))⟩⟩,
      gcd := PySem.W.mg_of X G gcd }
  have F0 := fun_mk (st := s_is_whole) l0 c0 k0
  have F1 := fun_mk (st := s_reduced) l1 c1 k1
  have F2 := fun_mk (st := s_checked) l2 c2 k2
  have F3 := fun_mk (st := s_checked_all) l3 c3 k3
  have F4 := fun_mk (st := s_plus) l4 c4 k4
  have F5 := fun_mk (st := s_opposite) l5 c5 k5
  have F6 := fun_mk (st := s_minus) l6 c6 k6
  have F7 := fun_mk (st := s_times) l7 c7 k7
  have F8 := fun_mk (st := s_is_less) l8 c8 k8
  have F9 := fun_mk (st := s_sum_of) l9 c9 k9
  have F10 := fun_mk (st := s_height_over) l10 c10 k10
  have F11 := fun_mk (st := s_height_of) l11 c11 k11
  have F12 := fun_mk (st := s_step_of) l12 c12 k12
  have F13 := fun_mk (st := s_shares_of) l13 c13 k13
  have F14 := fun_mk (st := s_check_count) l14 c14 k14
  have F15 := fun_mk (st := s_checked_levels) l15 c15 k15
  have F16 := fun_mk (st := s_fill) l16 c16 k16
  have F17 := fun_mk (st := s_fill_shares) l17 c17 k17
  have F18 := fun_mk (st := s_is_fill) l18 c18 k18
  have F19 := fun_mk (st := s__law_store) l19 c19 k19
  have F20 := fun_mk (st := s__law_mixed) l20 c20 k20
  have F21 := fun_mk (st := s__law_take) l21 c21 k21
  have F22 := fun_mk (st := s__law_edge) l22 c22 k22
  have F23 := fun_mk (st := s__law_shuffled) l23 c23 k23
  have F24 := fun_mk (st := s__law_gcd) l24 c24 k24
  have F25 := fun_mk (st := s__law_low) l25 c25 k25
  have F26 := fun_mk (st := s__law_value) l26 c26 k26
  have F27 := fun_mk (st := s__law_plus) l27 c27 k27
  have F28 := fun_mk (st := s__law_minus) l28 c28 k28
  have F29 := fun_mk (st := s__law_times) l29 c29 k29
  have F30 := fun_mk (st := s__law_below) l30 c30 k30
  have F31 := fun_mk (st := s__law_sum) l31 c31 k31
  have F32 := fun_mk (st := s__law_sorted) l32 c32 k32
  have F33 := fun_mk (st := s__law_small) l33 c33 k33
  have F34 := fun_mk (st := s__law_part) l34 c34 k34
  have F35 := fun_mk (st := s__law_dress) l35 c35 k35
  have F36 := fun_mk (st := s__law_dressed) l36 c36 k36
  have F37 := fun_mk (st := s__law_not_number) l37 c37 k37
  have F38 := fun_mk (st := s__law_same) l38 c38 k38
  have F39 := fun_mk (st := s__law_is_whole) l39 c39 k39
  have F40 := fun_mk (st := s__law_is_value) l40 c40 k40
  have F41 := fun_mk (st := s__law_are_values) l41 c41 k41
  have F42 := fun_mk (st := s__law_is_sharing) l42 c42 k42
  have F43 := fun_mk (st := s__law_copy) l43 c43 k43
  have F44 := fun_mk (st := s__law_spoil) l44 c44 k44
  have F45 := fun_mk (st := s__law_one_bad) l45 c45 k45
  have F46 := fun_mk (st := s__law_height) l46 c46 k46
  have F47 := fun_mk (st := s__law_fault) l47 c47 k47
  have F48 := fun_mk (st := s__law_vast) l48 c48 k48
  have F49 := fun_mk (st := s__law_fit) l49 c49 k49
  have F50 := fun_mk (st := s__law_floor) l50 c50 k50
  have F51 := fun_mk (st := s__law_poured) l51 c51 k51
  have F52 := fun_mk (st := s__law_look) l52 c52 k52
  have F53 := fun_mk (st := s__law_door) l53 c53 k53
  have F54 := fun_mk (st := s__law_refusals) l54 c54 k54
  have F55 := fun_mk (st := s_law) l55 c55 k55
  have b0 := F0.binds (ps := ["value"]) fun _ _ _ _ _ _ us hl => match us, hl with | [_], _ => rfl
  have b1 := F1.binds (ps := ["above", "below"]) fun _ _ _ _ _ _ us hl => match us, hl with | [_, _], _ => rfl
  have b2 := F2.binds (ps := ["value"]) fun _ _ _ _ _ _ us hl => match us, hl with | [_], _ => rfl
  have b3 := F3.binds (ps := ["values"]) fun _ _ _ _ _ _ us hl => match us, hl with | [_], _ => rfl
  have b4 := F4.binds (ps := ["left", "right"]) fun _ _ _ _ _ _ us hl => match us, hl with | [_, _], _ => rfl
  have b5 := F5.binds (ps := ["value"]) fun _ _ _ _ _ _ us hl => match us, hl with | [_], _ => rfl
  have b6 := F6.binds (ps := ["left", "right"]) fun _ _ _ _ _ _ us hl => match us, hl with | [_, _], _ => rfl
  have b7 := F7.binds (ps := ["left", "right"]) fun _ _ _ _ _ _ us hl => match us, hl with | [_, _], _ => rfl
  have b8 := F8.binds (ps := ["left", "right"]) fun _ _ _ _ _ _ us hl => match us, hl with | [_, _], _ => rfl
  have b9 := F9.binds (ps := ["values"]) fun _ _ _ _ _ _ us hl => match us, hl with | [_], _ => rfl
  have b10 := F10.binds (ps := ["levels"]) fun _ _ _ _ _ _ us hl => match us, hl with | [_], _ => rfl
  have b11 := F11.binds (ps := ["levels"]) fun _ _ _ _ _ _ us hl => match us, hl with | [_], _ => rfl
  have b12 := F12.binds (ps := ["levels"]) fun _ _ _ _ _ _ us hl => match us, hl with | [_], _ => rfl
  have b13 := F13.binds (ps := ["levels"]) fun _ _ _ _ _ _ us hl => match us, hl with | [_], _ => rfl
  have b14 := F14.binds (ps := ["found", "low", "high"]) fun _ _ _ _ _ _ us hl => match us, hl with | [_, _, _], _ => rfl
  have b15 := F15.binds (ps := ["levels"]) fun _ _ _ _ _ _ us hl => match us, hl with | [_], _ => rfl
  have b16 := F16.binds (ps := ["levels"]) fun _ _ _ _ _ _ us hl => match us, hl with | [_], _ => rfl
  have b17 := F17.binds (ps := ["levels"]) fun _ _ _ _ _ _ us hl => match us, hl with | [_], _ => rfl
  have b18 := F18.binds (ps := ["levels", "number"]) fun _ _ _ _ _ _ us hl => match us, hl with | [_, _], _ => rfl
  have b19 := F19.binds (ps := ["script"]) fun _ _ _ _ _ _ us hl => match us, hl with | [_], _ => rfl
  have b20 := F20.binds (ps := ["store"]) fun _ _ _ _ _ _ us hl => match us, hl with | [_], _ => rfl
  have b21 := F21.binds (ps := ["store", "many"]) fun _ _ _ _ _ _ us hl => match us, hl with | [_, _], _ => rfl
  have b22 := F22.binds (ps := ["store", "many"]) fun _ _ _ _ _ _ us hl => match us, hl with | [_, _], _ => rfl
  have b23 := F23.binds (ps := ["store", "things"]) fun _ _ _ _ _ _ us hl => match us, hl with | [_, _], _ => rfl
  have b24 := F24.binds (ps := ["left", "right"]) fun _ _ _ _ _ _ us hl => match us, hl with | [_, _], _ => rfl
  have b25 := F25.binds (ps := ["top", "bottom"]) fun _ _ _ _ _ _ us hl => match us, hl with | [_, _], _ => rfl
  have b26 := F26.binds (ps := ["number"]) fun _ _ _ _ _ _ us hl => match us, hl with | [_], _ => rfl
  have b27 := F27.binds (ps := ["left", "right"]) fun _ _ _ _ _ _ us hl => match us, hl with | [_, _], _ => rfl
  have b28 := F28.binds (ps := ["left", "right"]) fun _ _ _ _ _ _ us hl => match us, hl with | [_, _], _ => rfl
  have b29 := F29.binds (ps := ["left", "right"]) fun _ _ _ _ _ _ us hl => match us, hl with | [_, _], _ => rfl
  have b30 := F30.binds (ps := ["left", "right"]) fun _ _ _ _ _ _ us hl => match us, hl with | [_, _], _ => rfl
  have b31 := F31.binds (ps := ["values"]) fun _ _ _ _ _ _ us hl => match us, hl with | [_], _ => rfl
  have b32 := F32.binds (ps := ["values"]) fun _ _ _ _ _ _ us hl => match us, hl with | [_], _ => rfl
  have b33 := F33.binds (ps := ["store"]) fun _ _ _ _ _ _ us hl => match us, hl with | [_], _ => rfl
  have b34 := F34.binds (ps := ["store"]) fun _ _ _ _ _ _ us hl => match us, hl with | [_], _ => rfl
  have b35 := F35.binds (ps := ["store", "value"]) fun _ _ _ _ _ _ us hl => match us, hl with | [_, _], _ => rfl
  have b36 := F36.binds (ps := ["store", "values"]) fun _ _ _ _ _ _ us hl => match us, hl with | [_, _], _ => rfl
  have b37 := F37.binds (ps := ["store"]) fun _ _ _ _ _ _ us hl => match us, hl with | [_], _ => rfl
  have b38 := F38.binds (ps := ["actual", "due"]) fun _ _ _ _ _ _ us hl => match us, hl with | [_, _], _ => rfl
  have b39 := F39.binds (ps := ["actual"]) fun _ _ _ _ _ _ us hl => match us, hl with | [_], _ => rfl
  have b40 := F40.binds (ps := ["actual"]) fun _ _ _ _ _ _ us hl => match us, hl with | [_], _ => rfl
  have b41 := F41.binds (ps := ["actual", "many", "as_list"]) fun _ _ _ _ _ _ us hl => match us, hl with | [_, _, _], _ => rfl
  have b42 := F42.binds (ps := ["actual", "width"]) fun _ _ _ _ _ _ us hl => match us, hl with | [_, _], _ => rfl
  have b43 := F43.binds (ps := ["thing"]) fun _ _ _ _ _ _ us hl => match us, hl with | [_], _ => rfl
  have b44 := F44.binds (ps := ["thing", "depth"]) fun _ _ _ _ _ _ us hl => match us, hl with | [_, _], _ => rfl
  have b45 := F45.binds (ps := ["store", "numbers"]) fun _ _ _ _ _ _ us hl => match us, hl with | [_, _], _ => rfl
  have b46 := F46.binds (ps := ["levels"]) fun _ _ _ _ _ _ us hl => match us, hl with | [_], _ => rfl
  have b47 := F47.binds (ps := ["e"]) fun _ _ _ _ _ _ us hl => match us, hl with | [_], _ => rfl
  have b48 := F48.binds (ps := ["store"]) fun _ _ _ _ _ _ us hl => match us, hl with | [_], _ => rfl
  have b49 := F49.binds (ps := ["values"]) fun _ _ _ _ _ _ us hl => match us, hl with | [_], _ => rfl
  have b50 := F50.binds (ps := ["store", "many"]) fun _ _ _ _ _ _ us hl => match us, hl with | [_, _], _ => rfl
  have b51 := F51.binds (ps := ["levels", "whole", "shares"]) fun _ _ _ _ _ _ us hl => match us, hl with | [_, _, _], _ => rfl
  have b52 := F52.binds (ps := ["store", "levels"]) fun _ _ _ _ _ _ us hl => match us, hl with | [_, _], _ => rfl
  have b53 := F53.binds (ps := ["door", "levels", "number"]) fun _ _ _ _ _ _ us hl => match us, hl with | [_, _, _], _ => rfl
  have b54 := F54.binds (ps := ["store", "numbers"]) fun _ _ _ _ _ _ us hl => match us, hl with | [_, _], _ => rfl
  refine ⟨PySem.W.fnOf "law" "law" (defArgs s_law) (defBody s_law) (defScope s_law) .none kV55 dc55 pm55 an55 cd55 ct55, fun s v => .of_eq rfl, fun base _ _ => ?_⟩
  have h_is_whole : Has l.prog w K mg base "is_whole" 1 false S_is_whole := Fun.has F0 (PySem.W.mg_of X G a0) b0 (ok_is_whole T  F0)
  have h_reduced : Has l.prog w K mg base "reduced" 1 false S_reduced := Fun.has F1 (PySem.W.mg_of X G a1) b1 (ok_reduced T  F1)
  have h_plus : Has l.prog w K mg base "plus" 1 false S_plus := Fun.has F4 (PySem.W.mg_of X G a4) b4 (ok_plus T  F4)
  have h_opposite : Has l.prog w K mg base "opposite" 1 false S_opposite := Fun.has F5 (PySem.W.mg_of X G a5) b5 (ok_opposite T  F5)
  have h_times : Has l.prog w K mg base "times" 1 false S_times := Fun.has F7 (PySem.W.mg_of X G a7) b7 (ok_times T  F7)
  have h_is_less : Has l.prog w K mg base "is_less" 1 false S_is_less := Fun.has F8 (PySem.W.mg_of X G a8) b8 (ok_is_less T  F8)
  have h__law_mixed : Has l.prog w K mg base "_law_mixed" 1 false S__law_mixed := Fun.has F20 (PySem.W.mg_of X G a20) b20 (ok__law_mixed T  F20)
  have h__law_gcd : Has l.prog w K mg base "_law_gcd" 1 false S__law_gcd := Fun.has F24 (PySem.W.mg_of X G a24) b24 (ok__law_gcd T  F24)
  have h__law_below : Has l.prog w K mg base "_law_below" 1 false S__law_below := Fun.has F30 (PySem.W.mg_of X G a30) b30 (ok__law_below T  F30)
  have h__law_is_whole : Has l.prog w K mg base "_law_is_whole" 1 false S__law_is_whole := Fun.has F39 (PySem.W.mg_of X G a39) b39 (ok__law_is_whole T  F39)
  have hq__law_fault : HasQ l.prog w K mg base "_law_fault" 1 false S__law_fault := ⟨_, _, _, ok__law_fault T  F47, PySem.W.mg_of X G a47, k47, b47⟩
  have h__law_fit : Has l.prog w K mg base "_law_fit" 1 false S__law_fit := Fun.has F49 (PySem.W.mg_of X G a49) b49 (ok__law_fit T  F49)
  have h_checked : Has l.prog w K mg base "checked" 2 false S_checked := Fun.has F2 (PySem.W.mg_of X G a2) b2 (ok_checked T h_is_whole h_reduced F2)
  have h_minus : Has l.prog w K mg base "minus" 2 false S_minus := Fun.has F6 (PySem.W.mg_of X G a6) b6 (ok_minus T h_opposite h_plus F6)
  have h_sum_of : Has l.prog w K mg base "sum_of" 2 false S_sum_of := Fun.has F9 (PySem.W.mg_of X G a9) b9 (ok_sum_of T h_plus F9)
  have h_check_count : Has l.prog w K mg base "check_count" 2 false S_check_count := Fun.has F14 (PySem.W.mg_of X G a14) b14 (ok_check_count T  F14)
  have h__law_take : Has l.prog w K mg base "_law_take" 2 false S__law_take := Fun.has F21 (PySem.W.mg_of X G a21) b21 (ok__law_take T h__law_mixed F21)
  have h__law_low : Has l.prog w K mg base "_law_low" 2 false S__law_low := Fun.has F25 (PySem.W.mg_of X G a25) b25 (ok__law_low T h__law_gcd F25)
  have h__law_sorted : Has l.prog w K mg base "_law_sorted" 2 true S__law_sorted := Fun.has F32 (PySem.W.mg_of X G a32) b32 (ok__law_sorted T h__law_below F32)
  have h__law_is_value : Has l.prog w K mg base "_law_is_value" 2 false S__law_is_value := Fun.has F40 (PySem.W.mg_of X G a40) b40 (ok__law_is_value T h__law_gcd h__law_is_whole F40)
  have h__law_spoil : Has l.prog w K mg base "_law_spoil" 1 false S__law_spoil := Fun.has F44 (PySem.W.mg_of X G a44) b44 (ok__law_spoil0 T F44)
  have hs__law_spoil : HasSpT l.prog w K mg base "_law_spoil" 2 := ⟨_, _, ok__law_spoil T h__law_spoil F44, PySem.W.mg_of X G a44, k44, b44⟩
  have h_checked_all : Has l.prog w K mg base "checked_all" 3 true S_checked_all := Fun.has F3 (PySem.W.mg_of X G a3) b3 (ok_checked_all T h_checked F3)
  have h_height_over : Has l.prog w K mg base "height_over" 3 false S_height_over := Fun.has F10 (PySem.W.mg_of X G a10) b10 (ok_height_over T h_plus h_sum_of h_times F10)
  have h__law_edge : Has l.prog w K mg base "_law_edge" 3 false S__law_edge := Fun.has F22 (PySem.W.mg_of X G a22) b22 (ok__law_edge T h__law_take F22)
  have h__law_shuffled : Has l.prog w K mg base "_law_shuffled" 3 true S__law_shuffled := Fun.has F23 (PySem.W.mg_of X G a23) b23 (ok__law_shuffled T h__law_take F23)
  have h__law_value : Has l.prog w K mg base "_law_value" 3 false S__law_value := Fun.has F26 (PySem.W.mg_of X G a26) b26 (ok__law_value T h__law_low F26)
  have h__law_plus : Has l.prog w K mg base "_law_plus" 3 false S__law_plus := Fun.has F27 (PySem.W.mg_of X G a27) b27 (ok__law_plus T h__law_low F27)
  have h__law_minus : Has l.prog w K mg base "_law_minus" 3 false S__law_minus := Fun.has F28 (PySem.W.mg_of X G a28) b28 (ok__law_minus T h__law_low F28)
  have h__law_times : Has l.prog w K mg base "_law_times" 3 false S__law_times := Fun.has F29 (PySem.W.mg_of X G a29) b29 (ok__law_times T h__law_low F29)
  have h__law_small : Has l.prog w K mg base "_law_small" 3 false S__law_small := Fun.has F33 (PySem.W.mg_of X G a33) b33 (ok__law_small T h__law_low h__law_take F33)
  have h__law_part : Has l.prog w K mg base "_law_part" 3 false S__law_part := Fun.has F34 (PySem.W.mg_of X G a34) b34 (ok__law_part T h__law_low h__law_take F34)
  have h__law_dress : Has l.prog w K mg base "_law_dress" 3 false S__law_dress := Fun.has F35 (PySem.W.mg_of X G a35) b35 (ok__law_dress T h__law_take F35)
  have h__law_not_number : Has l.prog w K mg base "_law_not_number" 3 false S__law_not_number := Fun.has F37 (PySem.W.mg_of X G a37) b37 (ok__law_not_number T h__law_take F37)
  have h__law_are_values : Has l.prog w K mg base "_law_are_values" 3 false S__law_are_values := Fun.has F41 (PySem.W.mg_of X G a41) b41 (ok__law_are_values T h__law_is_value F41)
  have h_height_of : Has l.prog w K mg base "height_of" 4 false S_height_of := Fun.has F11 (PySem.W.mg_of X G a11) b11 (ok_height_of T h_height_over h_is_less F11)
  have h_checked_levels : Has l.prog w K mg base "checked_levels" 4 true S_checked_levels := Fun.has F15 (PySem.W.mg_of X G a15) b15 (ok_checked_levels T h_check_count h_checked_all F15)
  have h__law_sum : Has l.prog w K mg base "_law_sum" 4 false S__law_sum := Fun.has F31 (PySem.W.mg_of X G a31) b31 (ok__law_sum T h__law_plus F31)
  have h__law_dressed : Has l.prog w K mg base "_law_dressed" 4 true S__law_dressed := Fun.has F36 (PySem.W.mg_of X G a36) b36 (ok__law_dressed T h__law_dress F36)
  have h__law_one_bad : Has l.prog w K mg base "_law_one_bad" 4 true S__law_one_bad := Fun.has F45 (PySem.W.mg_of X G a45) b45 (ok__law_one_bad T h__law_edge h__law_not_number F45)
  have h__law_height : Has l.prog w K mg base "_law_height" 4 false S__law_height := Fun.has F46 (PySem.W.mg_of X G a46) b46 (ok__law_height T h__law_below h__law_low h__law_plus h__law_sorted F46)
  have h__law_vast : Has l.prog w K mg base "_law_vast" 4 false S__law_vast := Fun.has F48 (PySem.W.mg_of X G a48) b48 (ok__law_vast T h__law_edge h__law_low h__law_take F48)
  have h_step_of : Has l.prog w K mg base "step_of" 5 false S_step_of := Fun.has F12 (PySem.W.mg_of X G a12) b12 (ok_step_of T h_height_of h_minus F12)
  have h_shares_of : Has l.prog w K mg base "shares_of" 5 false S_shares_of := Fun.has F13 (PySem.W.mg_of X G a13) b13 (ok_shares_of T h_height_of h_is_less h_minus F13)
  have r38_0 : Has l.prog w K mg base "_law_same" 1 false (R__law_same 0) := Fun.has F38 (PySem.W.mg_of X G a38) b38 (fn_ok F38 sc__law_same (fun ds Qd Ed h => h.elim) fun cdv Ar outer s H E R M ds Qd Ed hr hK hm h0 h => h.elim)
  have r38_1 : Has l.prog w K mg base "_law_same" 2 false (R__law_same 1) := Fun.has F38 (PySem.W.mg_of X G a38) b38 (ok__law_same T  r38_0 F38)
  have r38_2 : Has l.prog w K mg base "_law_same" 3 false (R__law_same 2) := Fun.has F38 (PySem.W.mg_of X G a38) b38 (ok__law_same T  r38_1 F38)
  have r38_3 : Has l.prog w K mg base "_law_same" 4 false (R__law_same 3) := Fun.has F38 (PySem.W.mg_of X G a38) b38 (ok__law_same T  r38_2 F38)
  have r38_4 : Has l.prog w K mg base "_law_same" 5 false (R__law_same 4) := Fun.has F38 (PySem.W.mg_of X G a38) b38 (ok__law_same T  r38_3 F38)
  have h__law_same : Has l.prog w K mg base "_law_same" 5 false S__law_same := by unfold S__law_same; exact r38_4
  have h__law_is_sharing : Has l.prog w K mg base "_law_is_sharing" 5 false S__law_is_sharing := Fun.has F42 (PySem.W.mg_of X G a42) b42 (ok__law_is_sharing T h__law_are_values h__law_sum F42)
  have r43_0 : Has l.prog w K mg base "_law_copy" 1 false (R__law_copy 0) := Fun.has F43 (PySem.W.mg_of X G a43) b43 (fn_ok F43 sc__law_copy (fun ds Qd Ed h => h.elim) fun cdv Ar outer s H E R M ds Qd Ed hr hK hm h0 h => h.elim)
  have r43_1 : Has l.prog w K mg base "_law_copy" 2 false (R__law_copy 1) := Fun.has F43 (PySem.W.mg_of X G a43) b43 (ok__law_copy T  r43_0 F43)
  have r43_2 : Has l.prog w K mg base "_law_copy" 3 false (R__law_copy 2) := Fun.has F43 (PySem.W.mg_of X G a43) b43 (ok__law_copy T  r43_1 F43)
  have r43_3 : Has l.prog w K mg base "_law_copy" 4 false (R__law_copy 3) := Fun.has F43 (PySem.W.mg_of X G a43) b43 (ok__law_copy T  r43_2 F43)
  have r43_4 : Has l.prog w K mg base "_law_copy" 5 false (R__law_copy 4) := Fun.has F43 (PySem.W.mg_of X G a43) b43 (ok__law_copy T  r43_3 F43)
  have h__law_copy : Has l.prog w K mg base "_law_copy" 5 false S__law_copy := by unfold S__law_copy; exact r43_4
  have h__law_floor : Has l.prog w K mg base "_law_floor" 5 true S__law_floor := Fun.has F50 (PySem.W.mg_of X G a50) b50 (ok__law_floor T h__law_height h__law_minus h__law_part h__law_plus h__law_small h__law_take h__law_times h__law_vast F50)
  have h_fill : Has l.prog w K mg base "fill" 6 false S_fill := Fun.has F16 (PySem.W.mg_of X G a16) b16 (ok_fill T h_checked_levels h_step_of F16)
  have h_fill_shares : Has l.prog w K mg base "fill_shares" 6 false S_fill_shares := Fun.has F17 (PySem.W.mg_of X G a17) b17 (ok_fill_shares T h_checked_levels h_shares_of F17)
  have h__law_poured : Has l.prog w K mg base "_law_poured" 6 false S__law_poured := Fun.has F51 (PySem.W.mg_of X G a51) b51 (ok__law_poured T h__law_below h__law_is_sharing h__law_is_value h__law_minus h__law_plus F51)
  have h__law_copyF : Has l.prog w K mg base "_law_copy" 6 true S__law_copyF := Fun.has F43 (PySem.W.mg_of X G a43) b43 (ok__law_copyF T h__law_copy F43)
  have h_is_fill : Has l.prog w K mg base "is_fill" 7 false S_is_fill := Fun.has F18 (PySem.W.mg_of X G a18) b18 (ok_is_fill T h_checked h_fill F18)
  have h__law_look : Has l.prog w K mg base "_law_look" 8 false S__law_look := Fun.has F52 (PySem.W.mg_of X G a52) b52 (ok__law_look T h__law_copy h__law_dress h__law_dressed h__law_fit h__law_minus h__law_part h__law_plus h__law_poured h__law_same h__law_shuffled h__law_small h__law_take h_fill h_fill_shares h_is_fill hs__law_spoil F52)
  have h__law_door : Has l.prog w K mg base "_law_door" 8 false S__law_door := Fun.has F53 (PySem.W.mg_of X G a53) b53 (ok__law_door T h_fill h_fill_shares h_is_fill hq__law_fault F53)
  have h__law_refusals : Has l.prog w K mg base "_law_refusals" 9 false S__law_refusals := Fun.has F54 (PySem.W.mg_of X G a54) b54 (ok__law_refusals T h__law_door h__law_dress h__law_not_number h__law_one_bad h__law_same h__law_small h__law_take F54)
  exact ok_law T h__law_copyF h__law_dress h__law_dressed h__law_edge h__law_floor h__law_look h__law_poured h__law_refusals h__law_same h__law_small h__law_take h__law_value h_fill h_fill_shares (ok_store T F19) (PySem.W.mg_of X G a19) k19 b19 F55
end LW
open PySem PySem.W PySem.Calls PyProof.Rows
namespace LW
theorem boot_blt (P : Params) : (boot_heap P).bltView = bltViewBooted := by kernel_rfl
theorem blt_cong {h h' : Heap} (e : h.get? builtinsNs = h'.get? builtinsNs) : h.bltView = h'.bltView := by
  unfold Heap.bltView Heap.nsPairs
  rw [e]
theorem bltOf {β : Type} {o : Option β} {u : β → SharedT} {q : Program} {loose mods : List PySem.Str} {Xt : Shared → Bool} (w : World) (h : o.map (fun x => HeadRun.getT (u x) builtinsNs) = some ((boot_heap w.params).get? builtinsNs)) :
    o.map (fun x => (HeadRun.seenQ q loose mods Xt (u x).abs).2.1) = some (openGood q loose).2.1 := by
  cases o with
  | none => cases h
  | some x =>
    have e : HeadRun.getT (u x) builtinsNs = (boot_heap w.params).get? builtinsNs := Option.some.inj h
    rw [HeadRun.getT_eq] at e
    show some (HeadRun.seenQ q loose mods Xt (u x).abs).2.1 = _
    rw [← HeadRun.seenQ_eq]
    show some (u x).abs.heap.bltView = some bltViewBooted
    rw [blt_cong e, boot_blt]
noncomputable def tkL {α : Type} (n : Nat) : List α → List α := Nat.rec (motive := fun _ => List α → List α) (fun _ => []) (fun _ ih l => List.rec (motive := fun _ => List α) [] (fun a l' _ => a :: ih l') l) n
noncomputable def dpL {α : Type} (n : Nat) : List α → List α := Nat.rec (motive := fun _ => List α → List α) (fun l => l) (fun _ ih l => List.rec (motive := fun _ => List α) [] (fun _ l' _ => ih l') l) n
noncomputable def mpL {α β : Type} (f : α → β) (l : List α) : List β := List.rec (motive := fun _ => List β) [] (fun a _ ih => f a :: ih) l
theorem mpL_eq {α β : Type} (f : α → β) (l : List α) : mpL f l = PySem.W.R.mapR f l := rfl
theorem tkL_eq {α : Type} : ∀ (n : Nat) (l : List α), tkL n l = l.take n
  | 0, _ => rfl
  | _ + 1, [] => rfl
  | n + 1, a :: l => congrArg (a :: ·) (tkL_eq n l)
theorem dpL_eq {α : Type} : ∀ (n : Nat) (l : List α), dpL n l = l.drop n
  | 0, _ => rfl
  | _ + 1, [] => rfl
  | n + 1, _ :: l => dpL_eq n l
theorem halves {α : Type} {n : Nat} {a b : List α} (h1 : tkL n a = b.take n) (h2 : dpL n a = b.drop n) : a = b := by
  rw [← List.take_append_drop n a, ← tkL_eq, ← dpL_eq, h1, h2, List.take_append_drop]
theorem threeP {a b c d : Type} {o : Option a} {f : a → b} {g : a → c} {h : a → d} {x : b} {y : c} {z : d} (h1 : o.map (fun s => (f s, h s)) = some (x, z)) (h2 : o.map g = some y) : o.map (fun s => (f s, g s, h s)) = some (x, y, z) := by
  cases o with
  | none => cases h1
  | some s =>
    have e := Option.some.inj h1
    have e1 : f s = x := congrArg Prod.fst e
    have e2 : h s = z := congrArg Prod.snd e
    cases h2
    cases e1
    cases e2
    rfl
/-- the defs, read one by one -/
noncomputable def dfs (q : Program) (s : Shared) : List (Option FnShape) := PySem.W.R.mapR (PySem.W.Fast.tw2020367076256383516 s.heap PySem.mainGlobals) (PySem.W.R.mapR (fun x => x.name) (PySem.W.Fast.tw3399658132070893891 q))
theorem seenParts {β : Type} {o : Option β} {u : β → SharedT} {q : Program} {loose mods : List PySem.Str} {Xt : Shared → Bool} (w : World)
    (hm : o.map (fun x => (HeadRun.getT (u x) builtinsNs, PySem.W.Fast.tw11698064438423848299 q loose (u x).abs, PySem.W.Fast.tw7369524293546568484 q loose (u x).abs, PySem.W.Fast.tw14722251495701143533 (u x).abs.heap mods, ((u x).abs.heap.isNs PySem.mainGlobals && (u x).abs.heap.isNs PySem.builtinsNs), PySem.W.Fast.tw10994771534591457954 q (u x).abs.heap, Xt (u x).abs, ((u x).abs.gens.size == 0), PySem.W.Fast.tw5244371056499926238 (u x).abs.heap, PySem.W.Fast.tw2578726214315757710 q (u x).abs.heap, (!PySem.W.Fast.tw2458874890965802552 q || PySem.W.Fast.tw9649274521512697073 (u x).abs.heap))) = some ((boot_heap w.params).get? builtinsNs, plainGoodD q loose, clsGoodW q loose, true, true, true, true, true, true, true, true))
    (h0a : o.map (fun x => tkL 30 (dfs q (u x).abs)) = some ((expectedOf q).defs.take 30))
    (h0b : o.map (fun x => (dpL 30 (dfs q (u x).abs), (PySem.W.R.allR (PySem.W.Fast.tw5991557255702980513 q) fun o => PySem.W.Fast.tw2817317335113233408 (u x).abs.heap o.name o.chain o.bm o.newId && PySem.W.Fast.tw16017708745293785899 (u x).abs.heap o.name), (u x).abs.heap.isNs PySem.mainGlobals, (u x).abs.heap.isNs PySem.builtinsNs, (PySem.W.Fast.tw15623941606353435126 (u x).abs.heap && PySem.W.Fast.tw912232860611745870 (u x).abs.heap))) = some ((expectedOf q).defs.drop 30, (expectedOf q).ownsOk, (expectedOf q).globalsOk, (expectedOf q).builtinsOk, (expectedOf q).noLimit))
    (h4 : o.map (fun x => PySem.W.Fast.tw16090120013241838585 q (PySem.W.Fast.tw3247288618530077131 q) (u x).abs) = some (pinGoodD (drecsOf q)))
    (h5 : o.map (fun x => mpL (fun c => PySem.W.Fast.tw15717526521509864196 (u x).abs.heap (PySem.W.Fast.tw12515865711710729776 c)) (PySem.W.Fast.tw210736558901404530 q (PySem.W.Fast.tw821141287760084731 q loose))) = some (PySem.W.R.mapR (fun c => some c.withCmp.plainShape) (PySem.W.Fast.tw210736558901404530 q (PySem.W.Fast.tw821141287760084731 q loose))))
    (h7 : o.map (fun x => PySem.W.Fast.tw7317090234206586261 q (u x).abs) = some (wideGood q))
    (pk : o.map (fun x => PySem.W.Fast.tw10880121769531294198 (u x).abs.heap (PySem.W.Fast.tw821141287760084731 q loose) (PySem.W.R.mapR (fun x => x.name) (PySem.W.Fast.tw3399658132070893891 q)) (PySem.W.R.mapR (fun x => x.fst) (PySem.W.Fast.tw7409074990110511671 q)) (PySem.W.R.mapR (fun x => x.name) (PySem.W.Fast.tw13664370479719496447 q (PySem.W.Fast.tw821141287760084731 q loose)))) = some true)
    (pq : o.map (fun x => (PySem.W.R.allR (PySem.W.Fast.tw3399658132070893891 q) fun d => PySem.W.Fast.tw5930804224584009831 (u x).abs.heap d.name)) = some true) :
    o.map (fun x => HeadRun.seenQ q loose mods Xt (u x).abs) = some (openGood q loose) := by
  cases o with
  | none => cases pk
  | some x =>
    have hm := Option.some.inj hm
    injection hm with hb hm
    injection hm with h6 hm
    injection hm with h8 hm
    injection hm with fa hm
    injection hm with fn hm
    injection hm with ft hm
    injection hm with fx hm
    injection hm with fg hm
    injection hm with fr hm
    injection hm with fs fy
    have e1 := Option.some.inj (bltOf (o := some x) (u := u) (q := q) (loose := loose) (mods := mods) (Xt := Xt) w (congrArg some hb))
    have g := Option.some.inj h0b
    injection g with g1 g
    injection g with g2 g
    injection g with g3 g
    injection g with g4 g5
    have g0 : dfs q (u x).abs = (expectedOf q).defs := halves (Option.some.inj h0a) g1
    have e0 : (HeadRun.seenQ q loose mods Xt (u x).abs).1 = (openGood q loose).1 := by
      show Seen.mk (dfs q (u x).abs) _ [] _ _ _ _ = expectedOf q
      have e : ∀ S : Seen, S.names = [] → Seen.mk S.defs S.ownsOk [] S.globalsOk S.builtinsOk S.noLimit S.gens = S := fun S h => by
        cases S
        cases h
        rfl
      rw [← e (expectedOf q) rfl]
      rw [g0]
      exact congrFun (congr (congr (congr (congrArg (fun b => Seen.mk (expectedOf q).defs b []) g2) g3) g4) g5) _
    have fq : (PySem.W.R.allR (PySem.W.Fast.tw3399658132070893891 q) fun d => PySem.W.Fast.tw5930804224584009831 (u x).abs.heap d.name) = true := Option.some.inj pq
    have e3 : (HeadRun.seenQ q loose mods Xt (u x).abs).2.2.2.1 = (openGood q loose).2.2.2.1 := by
      show ((PySem.W.R.allR (PySem.W.Fast.tw3399658132070893891 q) fun d => PySem.W.Fast.tw5930804224584009831 (u x).abs.heap d.name) && PySem.W.Fast.tw5244371056499926238 (u x).abs.heap && PySem.W.Fast.tw2578726214315757710 q (u x).abs.heap && (!PySem.W.Fast.tw2458874890965802552 q || PySem.W.Fast.tw9649274521512697073 (u x).abs.heap)) = true
      rw [fq, fr, fs, fy]
      rfl
    have e4 : (HeadRun.seenQ q loose mods Xt (u x).abs).2.2.2.2.1 = (openGood q loose).2.2.2.2.1 := Option.some.inj h4
    have e5 : (HeadRun.seenQ q loose mods Xt (u x).abs).2.2.2.2.2.1 = (openGood q loose).2.2.2.2.2.1 := by
      show PySem.W.R.mapR (fun c => PySem.W.Fast.tw15717526521509864196 (u x).abs.heap (PySem.W.Fast.tw12515865711710729776 c)) (PySem.W.Fast.tw210736558901404530 q (PySem.W.Fast.tw821141287760084731 q loose)) = plainGoodE q (looseW q loose)
      refine Eq.trans (Eq.trans (mpL_eq _ _).symm (Option.some.inj h5)) ?_
      unfold plainGoodE
      rw [PySem.W.Fast.te821141287760084731, PySem.W.Fast.te210736558901404530, PySem.W.R.mapR_eq]
    have e6 : (HeadRun.seenQ q loose mods Xt (u x).abs).2.2.2.2.2.2.1 = (openGood q loose).2.2.2.2.2.2.1 := h6
    have e7 : (HeadRun.seenQ q loose mods Xt (u x).abs).2.2.2.2.2.2.2.1 = (openGood q loose).2.2.2.2.2.2.2.1 := Option.some.inj h7
    have e8 : (HeadRun.seenQ q loose mods Xt (u x).abs).2.2.2.2.2.2.2.2 = (openGood q loose).2.2.2.2.2.2.2.2 := h8
    have fk : PySem.W.Fast.tw10880121769531294198 (u x).abs.heap (PySem.W.Fast.tw821141287760084731 q loose) (PySem.W.R.mapR (fun x => x.name) (PySem.W.Fast.tw3399658132070893891 q)) (PySem.W.R.mapR (fun x => x.fst) (PySem.W.Fast.tw7409074990110511671 q)) (PySem.W.R.mapR (fun x => x.name) (PySem.W.Fast.tw13664370479719496447 q (PySem.W.Fast.tw821141287760084731 q loose))) = true := Option.some.inj pk
    have e2 : (HeadRun.seenQ q loose mods Xt (u x).abs).2.2.1 = (openGood q loose).2.2.1 := by
      show (PySem.W.Fast.tw10880121769531294198 (u x).abs.heap (PySem.W.Fast.tw821141287760084731 q loose) (PySem.W.R.mapR (fun x => x.name) (PySem.W.Fast.tw3399658132070893891 q)) (PySem.W.R.mapR (fun x => x.fst) (PySem.W.Fast.tw7409074990110511671 q)) (PySem.W.R.mapR (fun x => x.name) (PySem.W.Fast.tw13664370479719496447 q (PySem.W.Fast.tw821141287760084731 q loose))) && PySem.W.Fast.tw14722251495701143533 (u x).abs.heap mods && (u x).abs.heap.isNs PySem.mainGlobals && (u x).abs.heap.isNs PySem.builtinsNs && PySem.W.Fast.tw10994771534591457954 q (u x).abs.heap && Xt (u x).abs && ((u x).abs.gens.size == 0)) = true
      obtain ⟨fn1, fn2⟩ := Bool.and_eq_true_iff.mp fn
      simp only [Bool.and_eq_true]
      exact ⟨⟨⟨⟨⟨⟨fk, fa⟩, fn1⟩, fn2⟩, ft⟩, fx⟩, fg⟩
    show some (HeadRun.seenQ q loose mods Xt (u x).abs) = _
    rw [Prod.ext (Eq.trans rfl e0) (Prod.ext (Eq.trans rfl e1) (Prod.ext (Eq.trans rfl e2) (Prod.ext (Eq.trans rfl e3) (Prod.ext (Eq.trans rfl e4) (Prod.ext (Eq.trans rfl e5) (Prod.ext (Eq.trans rfl e6) (Prod.ext (Eq.trans rfl e7) (Eq.trans rfl e8))))))))]
end LW
open PySem PySem.W PyProof.Rows
section
set_option hygiene false in
local macro_rules | `(tactic| kernel_rfl) => `(tactic| ((with_reducible (apply LW.threeP)); (focus (rename_i w0; exact hXZ w0)); (focus (rename_i w0; (with_reducible (apply LW.seenParts w0)); (focus (exact hM w0)); (focus (exact hA0a w0)); (focus (exact hA0b w0)); (focus (exact hA4 w0)); (focus (exact hA5 w0)); (focus (exact hA7 w0)); (focus (exact hPk w0)); (focus (exact hTq w0))))))
set_option maxRecDepth 100000 in
set_option maxHeartbeats 0 in
noncomputable def LW.hd : PSigma fun XZ : World → Prop => PSigma fun M : World → Prop => PSigma fun A0a : World → Prop => PSigma fun A0b : World → Prop => PSigma fun A4 : World → Prop => PSigma fun A5 : World → Prop => PSigma fun A7 : World → Prop => PSigma fun Pk : World → Prop => PSigma fun Tq : World → Prop => (∀ w, XZ w) → (∀ w, M w) → (∀ w, A0a w) → (∀ w, A0b w) → (∀ w, A4 w) → (∀ w, A5 w) → (∀ w, A7 w) → (∀ w, Pk w) → (∀ w, Tq w) → PySem.Challenge.rw_notbehind_k43_fill_shares.Holds := by
  apply PSigma.mk; apply PSigma.mk; apply PSigma.mk; apply PSigma.mk; apply PSigma.mk; apply PSigma.mk; apply PSigma.mk; apply PSigma.mk; apply PSigma.mk; intro hXZ hM hA0a hA0b hA4 hA5 hA7 hPk hTq
  w_on; o_law; k_headL; (case hw => w_witness2)
  k_fill
  refine L2.walk_of (l := PySem.Challenge.rw_notbehind_k43_fill_shares) (n := 63) (k := 11) (x := "script") (CX := fun w => L2N.CX PySem.Challenge.rw_notbehind_k43_fill_shares.prog w) (sp := fun w => Nb.spLaw _) rfl (by decide) rfl ⟨rfl, by decide, by decide⟩ (fun w h Y => PySem.W.kIn_of Y) ?F (fun _ _ a ns hl _ hS => ⟨a, ns, rfl, hS, hl, fun _ => rfl⟩) (fun _ _ _ _ _ h => Nb.cx_no h)
  case F =>
    intro w mg fa h KX G hmg
    refine' LW.all_mk KX G hmg ?g_BadCount ?g_BadName ?g_BadNumber ?g_BadRow ?g_BadShare ?g_BadSize ?g_BadText ?g_BadWeight ?g_DivisionByZero ?g_GameOver ?g_InUse ?g_Lacking ?g_Mismatch ?g_NoHelper ?g_NotBehindError ?g_NotExact ?g_NothingToTakeBack ?g_TakenName ?g_UnknownName ?g_WrongKind ?a0 ?l0 ?c0 ?k0 ?a1 ?l1 ?c1 ?k1 ?a2 ?l2 ?c2 ?k2 ?a3 ?l3 ?c3 ?k3 ?a4 ?l4 ?c4 ?k4 ?a5 ?l5 ?c5 ?k5 ?a6 ?l6 ?c6 ?k6 ?a7 ?l7 ?c7 ?k7 ?a8 ?l8 ?c8 ?k8 ?a9 ?l9 ?c9 ?k9 ?a10 ?l10 ?c10 ?k10 ?a11 ?l11 ?c11 ?k11 ?a12 ?l12 ?c12 ?k12 ?a13 ?l13 ?c13 ?k13 ?a14 ?l14 ?c14 ?k14 ?a15 ?l15 ?c15 ?k15 ?a16 ?l16 ?c16 ?k16 ?a17 ?l17 ?c17 ?k17 ?a18 ?l18 ?c18 ?k18 ?a19 ?l19 ?c19 ?k19 ?a20 ?l20 ?c20 ?k20 ?a21 ?l21 ?c21 ?k21 ?a22 ?l22 ?c22 ?k22 ?a23 ?l23 ?c23 ?k23 ?a24 ?l24 ?c24 ?k24 ?a25 ?l25 ?c25 ?k25 ?a26 ?l26 ?c26 ?k26 ?a27 ?l27 ?c27 ?k27 ?a28 ?l28 ?c28 ?k28 ?a29 ?l29 ?c29 ?k29 ?a30 ?l30 ?c30 ?k30 ?a31 ?l31 ?c31 ?k31 ?a32 ?l32 ?c32 ?k32 ?a33 ?l33 ?c33 ?k33 ?a34 ?l34 ?c34 ?k34 ?a35 ?l35 ?c35 ?k35 ?a36 ?l36 ?c36 ?k36 ?a37 ?l37 ?c37 ?k37 ?a38 ?l38 ?c38 ?k38 ?a39 ?l39 ?c39 ?k39 ?a40 ?l40 ?c40 ?k40 ?a41 ?l41 ?c41 ?k41 ?a42 ?l42 ?c42 ?k42 ?a43 ?l43 ?c43 ?k43 ?a44 ?l44 ?c44 ?k44 ?a45 ?l45 ?c45 ?k45 ?a46 ?l46 ?c46 ?k46 ?a47 ?l47 ?c47 ?k47 ?a48 ?l48 ?c48 ?k48 ?a49 ?l49 ?c49 ?k49 ?a50 ?l50 ?c50 ?k50 ?a51 ?l51 ?c51 ?k51 ?a52 ?l52 ?c52 ?k52 ?a53 ?l53 ?c53 ?k53 ?a54 ?l54 ?c54 ?k54 ?a55 ?l55 ?c55 ?k55 ?z_ValueError ?z_abs ?z_bool ?z_int ?z_isinstance ?z_len ?z_list ?z_range ?z_str ?z_sum ?z_super ?z_tuple ?fga_BadNumber ?fcl_BadNumber ?fgg_BadNumber ?fn_BadNumber_beginning ?fn_BadNumber_found ?fn_BadNumber_high ?fn_BadNumber_line ?fn_BadNumber_low ?kp_BadNumber ?eb_BadNumber ?ty_BadNumber ?hd_BadNumber ?ic_BadNumber ?mo_BadNumber ?sN_BadNumber ?kV_BadNumber ?ki_BadNumber_BadCount ?ki_BadNumber_BadName ?ki_BadNumber_BadNumber ?ki_BadNumber_BadRow ?ki_BadNumber_BadShare ?ki_BadNumber_BadSize ?ki_BadNumber_BadText ?ki_BadNumber_BadWeight ?ki_BadNumber_DivisionByZero ?ki_BadNumber_GameOver ?ki_BadNumber_InUse ?ki_BadNumber_Lacking ?ki_BadNumber_Mismatch ?ki_BadNumber_NoHelper ?ki_BadNumber_NotExact ?ki_BadNumber_NothingToTakeBack ?ki_BadNumber_TakenName ?ki_BadNumber_UnknownName ?ki_BadNumber_WrongKind ?xI_BadNumber ?xL_BadCount ?fga_BadCount ?fcl_BadCount ?fgg_BadCount ?fn_BadCount_beginning ?fn_BadCount_found ?fn_BadCount_high ?fn_BadCount_line ?fn_BadCount_low ?kp_BadCount ?eb_BadCount ?ty_BadCount ?hd_BadCount ?ic_BadCount ?mo_BadCount ?sN_BadCount ?kV_BadCount ?ki_BadCount_BadCount ?ki_BadCount_BadName ?ki_BadCount_BadNumber ?ki_BadCount_BadRow ?ki_BadCount_BadShare ?ki_BadCount_BadSize ?ki_BadCount_BadText ?ki_BadCount_BadWeight ?ki_BadCount_DivisionByZero ?ki_BadCount_GameOver ?ki_BadCount_InUse ?ki_BadCount_Lacking ?ki_BadCount_Mismatch ?ki_BadCount_NoHelper ?ki_BadCount_NotExact ?ki_BadCount_NothingToTakeBack ?ki_BadCount_TakenName ?ki_BadCount_UnknownName ?ki_BadCount_WrongKind ?sa_BadCount ?iC_BadCount ?tI_BadCount ?ve_BadCount ?sc_BadCount ?mc_BadCount ?su_BadCount ?lI_BadCount ?cI_BadCount ?lcc_BadCount ?lcd_BadCount ?vs2_BadCount ?ff_BadCount ?opq ?ftop ?spO ?tkO ?eNB ?tNB ?iNB ?o_MOST_WIDTH ?o_ONE ?lo_ONE ?o_ZERO ?lo_ZERO ?gcd
    (case g_BadCount => k_is)
    (case g_BadName => k_is)
    (case g_BadNumber => k_is)
    (case g_BadRow => k_is)
    (case g_BadShare => k_is)
    (case g_BadSize => k_is)
    (case g_BadText => k_is)
    (case g_BadWeight => k_is)
    (case g_DivisionByZero => k_is)
    (case g_GameOver => k_is)
    (case g_InUse => k_is)
    (case g_Lacking => k_is)
    (case g_Mismatch => k_is)
    (case g_NoHelper => k_is)
    (case g_NotBehindError => k_is)
    (case g_NotExact => k_is)
    (case g_NothingToTakeBack => k_is)
    (case g_TakenName => k_is)
    (case g_UnknownName => k_is)
    (case g_WrongKind => k_is)
    (case a0 => k_is)
    (case l0 => k_is)
    (case c0 => k_is)
    (case k0 => k_is)
    (case a1 => k_is)
    (case l1 => k_is)
    (case c1 => k_is)
    (case k1 => k_is)
    (case a2 => k_is)
    (case l2 => k_is)
    (case c2 => k_is)
    (case k2 => k_is)
    (case a3 => k_is)
    (case l3 => k_is)
    (case c3 => k_is)
    (case k3 => k_is)
    (case a4 => k_is)
    (case l4 => k_is)
    (case c4 => k_is)
    (case k4 => k_is)
    (case a5 => k_is)
    (case l5 => k_is)
    (case c5 => k_is)
    (case k5 => k_is)
    (case a6 => k_is)
    (case l6 => k_is)
    (case c6 => k_is)
    (case k6 => k_is)
    (case a7 => k_is)
    (case l7 => k_is)
    (case c7 => k_is)
    (case k7 => k_is)
    (case a8 => k_is)
    (case l8 => k_is)
    (case c8 => k_is)
    (case k8 => k_is)
    (case a9 => k_is)
    (case l9 => k_is)
    (case c9 => k_is)
    (case k9 => k_is)
    (case a10 => k_is)
    (case l10 => k_is)
    (case c10 => k_is)
    (case k10 => k_is)
    (case a11 => k_is)
    (case l11 => k_is)
    (case c11 => k_is)
    (case k11 => k_is)
    (case a12 => k_is)
    (case l12 => k_is)
    (case c12 => k_is)
    (case k12 => k_is)
    (case a13 => k_is)
    (case l13 => k_is)
    (case c13 => k_is)
    (case k13 => k_is)
    (case a14 => k_is)
    (case l14 => k_is)
    (case c14 => k_is)
    (case k14 => k_is)
    (case a15 => k_is)
    (case l15 => k_is)
    (case c15 => k_is)
    (case k15 => k_is)
    (case a16 => k_is)
    (case l16 => k_is)
    (case c16 => k_is)
    (case k16 => k_is)
    (case a17 => k_is)
    (case l17 => k_is)
    (case c17 => k_is)
    (case k17 => k_is)
    (case a18 => k_is)
    (case l18 => k_is)
    (case c18 => k_is)
    (case k18 => k_is)
    (case a19 => k_is)
    (case l19 => k_is)
    (case c19 => k_is)
    (case k19 => k_is)
    (case a20 => k_is)
    (case l20 => k_is)
    (case c20 => k_is)
    (case k20 => k_is)
    (case a21 => k_is)
    (case l21 => k_is)
    (case c21 => k_is)
    (case k21 => k_is)
    (case a22 => k_is)
    (case l22 => k_is)
    (case c22 => k_is)
    (case k22 => k_is)
    (case a23 => k_is)
    (case l23 => k_is)
    (case c23 => k_is)
    (case k23 => k_is)
    (case a24 => k_is)
    (case l24 => k_is)
    (case c24 => k_is)
    (case k24 => k_is)
    (case a25 => k_is)
    (case l25 => k_is)
    (case c25 => k_is)
    (case k25 => k_is)
    (case a26 => k_is)
    (case l26 => k_is)
    (case c26 => k_is)
    (case k26 => k_is)
    (case a27 => k_is)
    (case l27 => k_is)
    (case c27 => k_is)
    (case k27 => k_is)
    (case a28 => k_is)
    (case l28 => k_is)
    (case c28 => k_is)
    (case k28 => k_is)
    (case a29 => k_is)
    (case l29 => k_is)
    (case c29 => k_is)
    (case k29 => k_is)
    (case a30 => k_is)
    (case l30 => k_is)
    (case c30 => k_is)
    (case k30 => k_is)
    (case a31 => k_is)
    (case l31 => k_is)
    (case c31 => k_is)
    (case k31 => k_is)
    (case a32 => k_is)
    (case l32 => k_is)
    (case c32 => k_is)
    (case k32 => k_is)
    (case a33 => k_is)
    (case l33 => k_is)
    (case c33 => k_is)
    (case k33 => k_is)
    (case a34 => k_is)
    (case l34 => k_is)
    (case c34 => k_is)
    (case k34 => k_is)
    (case a35 => k_is)
    (case l35 => k_is)
    (case c35 => k_is)
    (case k35 => k_is)
    (case a36 => k_is)
    (case l36 => k_is)
    (case c36 => k_is)
    (case k36 => k_is)
    (case a37 => k_is)
    (case l37 => k_is)
    (case c37 => k_is)
    (case k37 => k_is)
    (case a38 => k_is)
    (case l38 => k_is)
    (case c38 => k_is)
    (case k38 => k_is)
    (case a39 => k_is)
    (case l39 => k_is)
    (case c39 => k_is)
    (case k39 => k_is)
    (case a40 => k_is)
    (case l40 => k_is)
    (case c40 => k_is)
    (case k40 => k_is)
    (case a41 => k_is)
    (case l41 => k_is)
    (case c41 => k_is)
    (case k41 => k_is)
    (case a42 => k_is)
    (case l42 => k_is)
    (case c42 => k_is)
    (case k42 => k_is)
    (case a43 => k_is)
    (case l43 => k_is)
    (case c43 => k_is)
    (case k43 => k_is)
    (case a44 => k_is)
    (case l44 => k_is)
    (case c44 => k_is)
    (case k44 => k_is)
    (case a45 => k_is)
    (case l45 => k_is)
    (case c45 => k_is)
    (case k45 => k_is)
    (case a46 => k_is)
    (case l46 => k_is)
    (case c46 => k_is)
    (case k46 => k_is)
    (case a47 => k_is)
    (case l47 => k_is)
    (case c47 => k_is)
    (case k47 => k_is)
    (case a48 => k_is)
    (case l48 => k_is)
    (case c48 => k_is)
    (case k48 => k_is)
    (case a49 => k_is)
    (case l49 => k_is)
    (case c49 => k_is)
    (case k49 => k_is)
    (case a50 => k_is)
    (case l50 => k_is)
    (case c50 => k_is)
    (case k50 => k_is)
    (case a51 => k_is)
    (case l51 => k_is)
    (case c51 => k_is)
    (case k51 => k_is)
    (case a52 => k_is)
    (case l52 => k_is)
    (case c52 => k_is)
    (case k52 => k_is)
    (case a53 => k_is)
    (case l53 => k_is)
    (case c53 => k_is)
    (case k53 => k_is)
    (case a54 => k_is)
    (case l54 => k_is)
    (case c54 => k_is)
    (case k54 => k_is)
    (case a55 => k_is)
    (case l55 => k_is)
    (case c55 => k_is)
    (case k55 => k_is)
    (case z_ValueError => k_is)
    (case z_abs => k_is)
    (case z_bool => k_is)
    (case z_int => k_is)
    (case z_isinstance => k_is)
    (case z_len => k_is)
    (case z_list => k_is)
    (case z_range => k_is)
    (case z_str => k_is)
    (case z_sum => k_is)
    (case z_super => k_is)
    (case z_tuple => k_is)
    (case fga_BadNumber => k_is)
    (case fcl_BadNumber => k_is)
    (case fgg_BadNumber => k_is)
    (case fn_BadNumber_beginning => k_is)
    (case fn_BadNumber_found => k_is)
    (case fn_BadNumber_high => k_is)
    (case fn_BadNumber_line => k_is)
    (case fn_BadNumber_low => k_is)
    (case kp_BadNumber => k_is)
    (case eb_BadNumber => k_is)
    (case ty_BadNumber => k_is)
    (case hd_BadNumber => k_is)
    (case ic_BadNumber => k_is)
    (case mo_BadNumber => k_is)
    (case sN_BadNumber => k_is)
    (case kV_BadNumber => kit_is)
    (case ki_BadNumber_BadCount => kit_is)
    (case ki_BadNumber_BadName => kit_is)
    (case ki_BadNumber_BadNumber => kit_is)
    (case ki_BadNumber_BadRow => kit_is)
    (case ki_BadNumber_BadShare => kit_is)
    (case ki_BadNumber_BadSize => kit_is)
    (case ki_BadNumber_BadText => kit_is)
    (case ki_BadNumber_BadWeight => kit_is)
    (case ki_BadNumber_DivisionByZero => kit_is)
    (case ki_BadNumber_GameOver => kit_is)
    (case ki_BadNumber_InUse => kit_is)
    (case ki_BadNumber_Lacking => kit_is)
    (case ki_BadNumber_Mismatch => kit_is)
    (case ki_BadNumber_NoHelper => kit_is)
    (case ki_BadNumber_NotExact => kit_is)
    (case ki_BadNumber_NothingToTakeBack => kit_is)
    (case ki_BadNumber_TakenName => kit_is)
    (case ki_BadNumber_UnknownName => kit_is)
    (case ki_BadNumber_WrongKind => kit_is)
    (case xI_BadNumber => first | k_exc | k_is)
    (case xL_BadCount => k_is)
    (case fga_BadCount => k_is)
    (case fcl_BadCount => k_is)
    (case fgg_BadCount => k_is)
    (case fn_BadCount_beginning => k_is)
    (case fn_BadCount_found => k_is)
    (case fn_BadCount_high => k_is)
    (case fn_BadCount_line => k_is)
    (case fn_BadCount_low => k_is)
    (case kp_BadCount => k_is)
    (case eb_BadCount => k_is)
    (case ty_BadCount => k_is)
    (case hd_BadCount => k_is)
    (case ic_BadCount => k_is)
    (case mo_BadCount => k_is)
    (case sN_BadCount => k_is)
    (case kV_BadCount => kit_is)
    (case ki_BadCount_BadCount => kit_is)
    (case ki_BadCount_BadName => kit_is)
    (case ki_BadCount_BadNumber => kit_is)
    (case ki_BadCount_BadRow => kit_is)
    (case ki_BadCount_BadShare => kit_is)
    (case ki_BadCount_BadSize => kit_is)
    (case ki_BadCount_BadText => kit_is)
    (case ki_BadCount_BadWeight => kit_is)
    (case ki_BadCount_DivisionByZero => kit_is)
    (case ki_BadCount_GameOver => kit_is)
    (case ki_BadCount_InUse => kit_is)
    (case ki_BadCount_Lacking => kit_is)
    (case ki_BadCount_Mismatch => kit_is)
    (case ki_BadCount_NoHelper => kit_is)
    (case ki_BadCount_NotExact => kit_is)
    (case ki_BadCount_NothingToTakeBack => kit_is)
    (case ki_BadCount_TakenName => kit_is)
    (case ki_BadCount_UnknownName => kit_is)
    (case ki_BadCount_WrongKind => kit_is)
    (case sa_BadCount => k_is)
    (case iC_BadCount => k_is)
    (case tI_BadCount => k_is)
    (case ve_BadCount => k_is)
    (case sc_BadCount => first | rfl | k_is)
    (case mc_BadCount => first | k_is | rfl)
    (case su_BadCount => ks_is)
    (case lI_BadCount => k_is)
    (case cI_BadCount => k_is)
    (case lcc_BadCount => k_is)
    (case lcd_BadCount => k_is)
    (case vs2_BadCount => rfl)
    (case ff_BadCount => first | rfl | decide +kernel)
    (case opq => k_is)
    (case ftop => first | rfl | decide +kernel)
    (case spO => k_is)
    (case tkO => k_is)
    (case eNB => k_is)
    (case tNB => k_is)
    (case iNB => k_is)
    (case o_MOST_WIDTH => k_is)
    (case o_ONE => k_is)
    (case lo_ONE => k_is)
    (case o_ZERO => k_is)
    (case lo_ZERO => k_is)
    (case gcd => k_is)
end
theorem LW.run1 : ∀ w, LW.hd.1 w := by intro w; delta hd; kernel_rfl
theorem LW.run2 : ∀ w, LW.hd.2.1 w := by intro w; delta hd; kernel_rfl
theorem LW.run3 : ∀ w, LW.hd.2.2.1 w := by intro w; delta hd; kernel_rfl
theorem LW.run4 : ∀ w, LW.hd.2.2.2.1 w := by intro w; delta hd; kernel_rfl
theorem LW.run5 : ∀ w, LW.hd.2.2.2.2.1 w := by intro w; delta hd; kernel_rfl
theorem LW.run6 : ∀ w, LW.hd.2.2.2.2.2.1 w := by intro w; delta hd; kernel_rfl
theorem LW.run7 : ∀ w, LW.hd.2.2.2.2.2.2.1 w := by intro w; delta hd; kernel_rfl
theorem LW.run8 : ∀ w, LW.hd.2.2.2.2.2.2.2.1 w := by intro w; delta hd; kernel_rfl
theorem LW.run9 : ∀ w, LW.hd.2.2.2.2.2.2.2.2.1 w := by intro w; delta hd; kernel_rfl
theorem PySem.Challenge.cw_notbehind_k43_fill_shares_holds : PySem.Challenge.rw_notbehind_k43_fill_shares.Holds :=
  LW.hd.2.2.2.2.2.2.2.2.2 LW.run1 LW.run2 LW.run3 LW.run4 LW.run5 LW.run6 LW.run7 LW.run8 LW.run9
