import PyProof.Rows.All
import Wide.All
import OpenK.AllK
import Wide.FinOn
import HandS.ForMost
import HandS.Exc
import HandS.ExcOwn
import HandS.TryMany
import HandS.WordsExc
import HandS.Walk
import HandS.Deep
import KE.KDictKeyed
import KE.KeyNested
import HandS.DictComp
import KE.GoesDict
import HandS.TupAny
import HandS.Style
import HandS.SetFor
import HandS.Wide
import PyProof.SumWalkG
import PyProof.WalksMore
import HandS.TupSets
import KE.KDictPairs
import HandS.Lambda
import HandS.More
import PySem.Challenge.RW_cluewright_k02_rules_that_may_be_kept
import HandS.EndTab
import KE.KNestM
import HandS.ExcIs
import HandS.Words
set_option Elab.async false
set_option linter.all false
set_option maxRecDepth 100000
set_option maxHeartbeats 2000000
namespace L2
namespace Cw
open PySem PySem.Spec PyProof.Rows

/-- a value as a whole -/
inductive T where
  | non | bl (b : Bool) | int (i : Int) | str (s : Str) | fn (a : Addr)
  | tup (ts : List T) | lst (ts : List T) | wtup (ts : List T) | slst (ts : List T) | dicK (ks : List Key) (ts : List T) | ext (φ : Addr → List V → List V → Heap → Prop) (ks ts : List T) | ins (C : Addr) (fs : List Str) (ts : List T)

section
variable (K : PySem.W.Frag) (Z : Hp)
mutual
def Rep : T → V → Prop
  | .non, v => v = .non
  | .bl b, v => v = .bl b
  | .int i, v => v = .int i
  | .str s, v => v = .str s
  | .fn a, v => v = .ref a
  | .tup ts, v => ∃ a vs, v = .ref a ∧ Z a = some (.tup vs) ∧ Reps ts vs
  | .lst ts, v => ∃ a vs, v = .ref a ∧ Z a = some (.lst vs) ∧ Reps ts vs
  | .wtup ts, v => ∃ a vs, v = .ref a ∧ SqT K Z a vs ∧ Reps ts vs
  | .slst ts, v => ∃ a vs, v = .ref a ∧ SqL K Z a vs ∧ Reps ts vs
  | .dicK ks ts, v => ∃ a kv, v = .ref a ∧ Rd Z a (.dK kv) ∧ kv.map Prod.fst = ks ∧ Reps ts (kv.map Prod.snd)
  | .ext φ ks ts, v => ∃ a qs vs, v = .ref a ∧ Rd Z a (.ext (φ a qs vs)) ∧ Reps ks qs ∧ Reps ts vs
  | .ins C fs ts, v => ∃ a dx fv, v = .ref a ∧ Z a = some (.ins C dx fv) ∧ fv.map Prod.fst = fs ∧ Reps ts (fv.map Prod.snd)
def Reps : List T → List V → Prop
  | [], vs => vs = []
  | t :: ts, vs => ∃ v r, vs = v :: r ∧ Rep t v ∧ Reps ts r
end
/-- what stands at an address, as a whole -/
def ORep (a : Addr) : HO → T → Prop
  | .lst vs, .lst ts => Reps K Z ts vs
  | .dK kv, .dicK ks ts => kv.map Prod.fst = ks ∧ Reps K Z ts (kv.map Prod.snd)
  | .ext ψ, .ext φ ks ts => ∃ qs vs, ψ = φ a qs vs ∧ Reps K Z ks qs ∧ Reps K Z ts vs
  | .ins C _ fv, .ins C' fs ts => C = C' ∧ fv.map Prod.fst = fs ∧ Reps K Z ts (fv.map Prod.snd)
  | _, _ => False
end

section
variable {K : PySem.W.Frag} {Z Z' H H' : Hp}
def IsDic : HO → Prop
  | .dK _ => True
  | .ext _ => True
  | _ => False
def IsFrz : HO → Prop
  | .frz _ _ => True
  | _ => False
/-- some dicts locked or unlocked, all else as it was, or more -/
structure Lk (Z Z' : Hp) : Prop where
  rd : ∀ {a : Addr} {u : HO}, ¬ IsFrz u → Rd Z a u → Rd Z' a u
  st : ∀ {a : Addr} {u : HO}, Z a = some u → ¬ IsDic u → ¬ IsFrz u → Z' a = some u
theorem Same.lk (e : Same Z Z') : Lk Z Z' := ⟨fun {a u} _ h => by
  rcases h with h | ⟨o, h⟩
  · exact .inl (e _ _ h)
  · exact .inr ⟨o, e _ _ h⟩, fun h _ _ => e _ _ h⟩
theorem Lk.tup (e : Lk Z Z') {a : Addr} {xs : List V} (h : SqT K Z a xs) : SqT K Z' a xs := by
  rcases h with h | h
  · exact .inl (e.rd id h)
  · exact .inr h
theorem Lk.seq (e : Lk Z Z') {a : Addr} {xs : List V} (h : SqL K Z a xs) : SqL K Z' a xs := by
  rcases h with h | h
  · exact .inl (e.rd id h)
  · exact .inr h
theorem Same_tup (e : Same H H') {a : Addr} {xs : List V} (h : SqT K H a xs) : SqT K H' a xs := (Same.lk e).tup h
/-- what stands at i begins what is left from i on -/
theorem drop_at {α : Type} {l : List α} {i : Nat} {t : α} (h : l[i]? = some t) : l.drop i = t :: l.drop (i + 1) := by
  have ⟨hl, e⟩ := List.getElem?_eq_some_iff.mp h
  exact e ▸ List.drop_eq_getElem_cons hl
theorem Lk.lock {d : Addr} {u : HO} {od : Obj} (h : Z d = some u) (hd : IsDic u) : Lk Z (upd Z d (.frz od u)) := by
  refine ⟨fun {a v} nv r => ?_, fun {a v} e nd nf => ?_⟩
  · by_cases ha : a = d
    · subst ha
      rcases r with r | ⟨o, r⟩
      · rw [h] at r; cases r; exact .inr ⟨od, upd_same⟩
      · rw [h] at r; cases r; exact hd.elim
    · rcases r with r | ⟨o, r⟩
      · exact .inl (by rw [upd_ne ha]; exact r)
      · exact .inr ⟨o, by rw [upd_ne ha]; exact r⟩
  · by_cases ha : a = d
    · subst ha; rw [h] at e; cases e; exact absurd hd nd
    · rw [upd_ne ha]; exact e
theorem Lk.unlock {d : Addr} {u : HO} {od : Obj} (h : Z d = some (.frz od u)) (hd : IsDic u) : Lk Z (upd Z d u) := by
  refine ⟨fun {a v} nv r => ?_, fun {a v} e nd nf => ?_⟩
  · by_cases ha : a = d
    · subst ha
      rcases r with r | ⟨o, r⟩
      · rw [h] at r; cases r; exact absurd trivial nv
      · rw [h] at r; cases r; exact .inl upd_same
    · rcases r with r | ⟨o, r⟩
      · exact .inl (by rw [upd_ne ha]; exact r)
      · exact .inr ⟨o, by rw [upd_ne ha]; exact r⟩
  · by_cases ha : a = d
    · subst ha; rw [h] at e; cases e; exact absurd trivial nf
    · rw [upd_ne ha]; exact e
mutual
theorem Rep.lk (e : Lk Z Z') : ∀ {t : T} {v : V}, Rep K Z t v → Rep K Z' t v
  | .non, _, h => by simpa [Rep] using h
  | .bl _, _, h => by simpa [Rep] using h
  | .int _, _, h => by simpa [Rep] using h
  | .str _, _, h => by simpa [Rep] using h
  | .fn _, _, h => by simpa [Rep] using h
  | .tup ts, _, h => by
    simp only [Rep] at h ⊢
    obtain ⟨a, vs, h1, h2, h3⟩ := h
    exact ⟨a, vs, h1, e.st h2 id id, Reps.lk e h3⟩
  | .lst ts, _, h => by
    simp only [Rep] at h ⊢
    obtain ⟨a, vs, h1, h2, h3⟩ := h
    exact ⟨a, vs, h1, e.st h2 id id, Reps.lk e h3⟩
  | .wtup ts, _, h => by
    simp only [Rep] at h ⊢
    obtain ⟨a, vs, h1, h2, h3⟩ := h
    exact ⟨a, vs, h1, e.tup h2, Reps.lk e h3⟩
  | .slst ts, _, h => by
    simp only [Rep] at h ⊢
    obtain ⟨a, vs, h1, h2, h3⟩ := h
    exact ⟨a, vs, h1, e.seq h2, Reps.lk e h3⟩
  | .dicK ks ts, _, h => by
    simp only [Rep] at h ⊢
    obtain ⟨a, vs, h1, h2, h3, h4⟩ := h
    exact ⟨a, vs, h1, e.rd id h2, h3, Reps.lk e h4⟩
  | .ext φ ks ts, _, h => by
    simp only [Rep] at h ⊢
    obtain ⟨a, qs, vs, h1, h2, h3, h4⟩ := h
    exact ⟨a, qs, vs, h1, e.rd id h2, Reps.lk e h3, Reps.lk e h4⟩
  | .ins C fs ts, _, h => by
    simp only [Rep] at h ⊢
    obtain ⟨a, dx, vs, h1, h2, h3, h4⟩ := h
    exact ⟨a, dx, vs, h1, e.st h2 id id, h3, Reps.lk e h4⟩
theorem Reps.lk (e : Lk Z Z') : ∀ {ts : List T} {vs : List V}, Reps K Z ts vs → Reps K Z' ts vs
  | [], _, h => by simpa [Reps] using h
  | t :: ts, _, h => by
    simp only [Reps] at h ⊢
    obtain ⟨v, r, h1, h2, h3⟩ := h
    exact ⟨v, r, h1, Rep.lk e h2, Reps.lk e h3⟩
end
theorem Rep.mono (e : Same Z Z') {t : T} {v : V} (h : Rep K Z t v) : Rep K Z' t v := h.lk (Same.lk e)
theorem Reps.mono (e : Same Z Z') {ts : List T} {vs : List V} (h : Reps K Z ts vs) : Reps K Z' ts vs := h.lk (Same.lk e)
theorem Reps.nil : Reps K Z [] [] := by simp [Reps]
theorem Reps.cons {t : T} {v : V} {ts : List T} {vs : List V} (h : Rep K Z t v) (r : Reps K Z ts vs) : Reps K Z (t :: ts) (v :: vs) := by
  simp only [Reps]; exact ⟨v, vs, rfl, h, r⟩
theorem Reps.uncons {t : T} {ts : List T} {vs : List V} (h : Reps K Z (t :: ts) vs) : ∃ v r, vs = v :: r ∧ Rep K Z t v ∧ Reps K Z ts r := by
  simpa only [Reps] using h
theorem Reps.unnil {vs : List V} (h : Reps K Z [] vs) : vs = [] := by simpa only [Reps] using h
theorem Reps.length : ∀ {ts : List T} {vs : List V}, Reps K Z ts vs → vs.length = ts.length
  | [], _, h => by rw [h.unnil]; rfl
  | t :: ts, _, h => by
    obtain ⟨v, r, rfl, _, h2⟩ := h.uncons
    rw [List.length_cons, List.length_cons, h2.length]
theorem Reps.get : ∀ {ts : List T} {vs : List V} {i : Nat} {v : V}, Reps K Z ts vs → vs[i]? = some v → ∃ t, ts[i]? = some t ∧ Rep K Z t v
  | [], _, _, _, h, e => by rw [h.unnil] at e; simp at e
  | t :: ts, _, 0, _, h, e => by
    obtain ⟨v, r, rfl, h1, h2⟩ := h.uncons
    simp at e; subst e
    exact ⟨t, rfl, h1⟩
  | t :: ts, _, i + 1, _, h, e => by
    obtain ⟨v, r, rfl, h1, h2⟩ := h.uncons
    simpa using h2.get (i := i) (by simpa using e)
theorem Reps.at : ∀ {ts : List T} {vs : List V} {i : Nat} {t : T}, Reps K Z ts vs → ts[i]? = some t → ∃ v, vs[i]? = some v ∧ Rep K Z t v
  | [], _, _, _, h, e => by simp at e
  | t :: ts, _, 0, _, h, e => by
    obtain ⟨v, r, rfl, h1, h2⟩ := h.uncons
    simp at e; subst e
    exact ⟨v, rfl, h1⟩
  | t :: ts, _, i + 1, _, h, e => by
    obtain ⟨v, r, rfl, h1, h2⟩ := h.uncons
    simpa using h2.at (i := i) (by simpa using e)
theorem Reps.append : ∀ {ts us : List T} {vs ws : List V}, Reps K Z ts vs → Reps K Z us ws → Reps K Z (ts ++ us) (vs ++ ws)
  | [], _, _, _, h, g => by rw [h.unnil]; exact g
  | t :: ts, _, _, _, h, g => by
    obtain ⟨v, r, rfl, h1, h2⟩ := h.uncons
    exact .cons h1 (h2.append g)
theorem ORep.lk (e : Lk Z Z') {a : Addr} {o : HO} {t : T} (h : ORep K Z a o t) : ORep K Z' a o t := by
  unfold ORep at h ⊢
  split at h
  · exact Reps.lk e h
  · exact ⟨h.1, h.2.lk e⟩
  · obtain ⟨qs, vs, h1, h2, h3⟩ := h
    exact ⟨qs, vs, h1, h2.lk e, h3.lk e⟩
  · exact ⟨h.1, h.2.1, h.2.2.lk e⟩
  · exact h.elim
theorem ORep.mono (e : Same Z Z') {a : Addr} {o : HO} {t : T} (h : ORep K Z a o t) : ORep K Z' a o t := h.lk (Same.lk e)
theorem ORep.rep {o : HO} {t : T} {a : Addr} (h : ORep K Z a o t) (ha : Z a = some o) : Rep K Z t (.ref a) := by
  unfold ORep at h
  split at h
  · simp only [Rep]; exact ⟨a, _, rfl, ha, h⟩
  · simp only [Rep]; exact ⟨a, _, rfl, .inl ha, h.1, h.2⟩
  · obtain ⟨qs, vs, rfl, h2, h3⟩ := h
    simp only [Rep]; exact ⟨a, qs, vs, rfl, .inl ha, h2, h3⟩
  · simp only [Rep]; exact ⟨a, _, _, rfl, (by rw [ha, h.1]), h.2.1, h.2.2⟩
  · exact h.elim
theorem ORep.notbl {a : Addr} {o : HO} {t : T} (h : ORep K Z a o t) : ∀ ps, o ≠ .tbl ps := by
  rintro ps rfl
  cases t <;> exact h
end

/-- what is known of a slot: nothing; a value that stands still; a thing that this body alone may change -/
inductive Ent where
  | no | sh (t : T) | ow (t : T)

def Own (σ : St) (E : List Ent) (b : Addr) : Prop := ∃ (i : Nat) (t : T), E[i]? = some (.ow t) ∧ σ[i]? = some (some (.ref b))
structure StOk (K : PySem.W.Frag) (Z H : Hp) (σ : St) (E : List Ent) : Prop where
  zh : Same Z H
  nt : ∀ b ps, Z b ≠ some (.tbl ps)
  len : σ.length = E.length
  sh : ∀ (i : Nat) (t : T), E[i]? = some (.sh t) → ∃ v, σ[i]? = some (some v) ∧ Rep K Z t v
  ow : ∀ (i : Nat) (t : T), E[i]? = some (.ow t) → ∃ a o, σ[i]? = some (some (.ref a)) ∧ H a = some o ∧ Z a = none ∧ ORep K Z a o t
  ds : ∀ (i j : Nat) (a : Addr) (t u : T), E[i]? = some (.ow t) → E[j]? = some (.ow u) → σ[i]? = some (some (.ref a)) → σ[j]? = some (some (.ref a)) → i = j
structure Step (B : Addr → Prop) (Z H Z' H' : Hp) : Prop where
  zz : Same Z Z'
  keep : ∀ b o, H b = some o → ¬ B b → H' b = some o
  new : ∀ b o, Z' b = some o → Z b = some o ∨ H b = none ∨ B b
theorem Step.refl (B : Addr → Prop) (Z H : Hp) : Step B Z H Z H := ⟨Same.refl _, fun _ _ h _ => h, fun _ _ h => .inl h⟩
theorem Step.there {B : Addr → Prop} {Z H Z1 H1 : Hp} (a : Step B Z H Z1 H1) {b : Addr} (h : H1 b = none) : H b = none ∨ B b := by
  cases e : H b with
  | none => exact .inl rfl
  | some o =>
    refine .inr (Classical.byContradiction fun nb => ?_)
    rw [a.keep b o e nb] at h; cases h
theorem Step.trans {B B1 : Addr → Prop} {Z H Z1 H1 Z2 H2 : Hp} (a : Step B Z H Z1 H1) (b : Step B1 Z1 H1 Z2 H2) (hb : ∀ c, B1 c → B c ∨ H c = none) : Step B Z H Z2 H2 where
  zz := a.zz.trans b.zz
  keep := fun c o e nb => b.keep c o (a.keep c o e nb) fun z => by
    rcases hb c z with z | z
    · exact nb z
    · rw [e] at z; cases z
  new := fun c o e => by
    rcases b.new c o e with h | h | h
    · exact a.new c o h
    · exact .inr (a.there h)
    · rcases hb c h with z | z
      · exact .inr (.inr z)
      · exact .inr (.inl z)

/-- the static facts of a body -/
structure SS where
  P : Program
  w : World
  K : PySem.W.Frag
  mg : Str → Option Value
  base : Heap
  k : Nat
  N : List Str
  sc : Scope
  fnb : Str → Bool
  pin : List Nat
abbrev SS.cx (S : SS) (A : Around) (s0 : Shared) (H0 : Hp) (env : PySem.Env) (outer stack : List PySem.Env) (ex : List Addr) (pn : List (Addr × Obj)) (xe : Value → Shared → Prop) : Cx :=
  { prog := S.P, w := S.w, K := S.K, mg := S.mg, base := S.base, A := A, N := S.N, s_0 := s0, H_0 := H0, env := env, outer := outer, stack := stack, ex := ex, fn := S.fnb, calm := true, pn := pn, xe := xe }
structure SS.Has (S : SS) (W : WX) (X : Cx) : Prop where
  ex : ∃ A s0 H0 env outer stack ex pn xe, X = S.cx A s0 H0 env outer stack ex pn xe
  room : Room S.k X.A
  sc : X.env.scope = S.sc
  tk : Takes X W
  po : PassesOwn (model X.prog X.w) X.A X.env X.xe
/-- the weakest reading of an expression -/
def R (S : SS) (W : WX) (e : Expr) : TE := fun σ H Q => ∀ X, S.Has W X → ∀ pins s, Inv X pins σ H s → wpAny (model X.prog X.w) X.A (eval e X.env) (EP X pins σ Q) X.xe s
def RT (S : SS) (W : WX) (e : Expr) : TT := fun σ H Q => ∀ X, S.Has W X → ∀ pins s, Inv X pins σ H s → wpAny (model X.prog X.w) X.A (isTrue e X.env (eval e X.env)) (TP X pins σ Q) X.xe s
def RA (S : SS) (W : WX) (es : List Expr) : TA := fun σ H Q => ∀ X, S.Has W X → ∀ pos pins s, Inv X pins σ H s → wpAny (model X.prog X.w) X.A (spliced (backTo pos (starEach es X.env))) (AP X pins σ Q) X.xe s
def RSt (S : SS) (W : WX) (st : Stmt) : TS := fun D σ H => ∀ X, S.Has W X → ∀ pins s, Inv X pins σ H s → wpAny (model X.prog X.w) X.A (exec st X.env) (SP X pins D) X.xe s
def RSs (S : SS) (W : WX) (st : List Stmt) : TS := fun D σ H => ∀ X, S.Has W X → ∀ pins s, Inv X pins σ H s → wpAny (model X.prog X.w) X.A (execs st X.env) (SP X pins D) X.xe s
section
variable {S : SS} {W : WX} {X : Cx} {e : Expr} {es : List Expr} {st : Stmt} {sts : List Stmt} {σ : St} {H : Hp}
theorem SS.Has.pe (h : S.Has W X) (e : Expr) : PE X e (R S W e) := ⟨fun pins s σ H Q I q => q X h pins s I⟩
theorem SS.Has.pt (h : S.Has W X) (e : Expr) : PT X e (RT S W e) := ⟨fun pins s σ H Q I q => q X h pins s I⟩
theorem SS.Has.pa (h : S.Has W X) (es : List Expr) : PA X es (RA S W es) := ⟨fun pos pins s σ H Q I q => q X h pos pins s I⟩
theorem SS.Has.ps (h : S.Has W X) (st : Stmt) : PS X st (RSt S W st) := ⟨fun pins s σ H D I q => q X h pins s I⟩
theorem SS.Has.pss (h : S.Has W X) (sts : List Stmt) : PSs X sts (RSs S W sts) := ⟨fun pins s σ H D I q => q X h pins s I⟩
theorem R.mk {t : TE} {Q : VK} (h : ∀ X, S.Has W X → PE X e t) (q : t σ H Q) : R S W e σ H Q := fun X hX pins s I => (h X hX).run pins s σ H Q I q
theorem RT.mk {t : TT} {Q : Bool → Hp → Prop} (h : ∀ X, S.Has W X → PT X e t) (q : t σ H Q) : RT S W e σ H Q := fun X hX pins s I => (h X hX).run pins s σ H Q I q
theorem RA.mk {t : TA} {Q : List V → Hp → Prop} (h : ∀ X, S.Has W X → PA X es t) (q : t σ H Q) : RA S W es σ H Q := fun X hX pos pins s I => (h X hX).run pos pins s σ H Q I q
theorem RSt.mk {t : TS} {D : Ends} (h : ∀ X, S.Has W X → PS X st t) (q : t D σ H) : RSt S W st D σ H := fun X hX pins s I => (h X hX).run pins s σ H D I q
theorem RSs.mk {t : TS} {D : Ends} (h : ∀ X, S.Has W X → PSs X sts t) (q : t D σ H) : RSs S W sts D σ H := fun X hX pins s I => (h X hX).run pins s σ H D I q
end

/-- from a state to another -/
structure Go (S : SS) (E : List Ent) (σ : St) (Z H : Hp) (E' : List Ent) (σ' : St) (Z' H' : Hp) : Prop where
  step : Step (Own σ E) Z H Z' H'
  st : StOk S.K Z' H' σ' E'
  ow : ∀ b, Own σ' E' b → Own σ E b ∨ H b = none
  pin : ∀ j ∈ S.pin, σ'[j]? = σ[j]?
theorem Go.refl {S : SS} {E : List Ent} {σ : St} {Z H : Hp} (h : StOk S.K Z H σ E) : Go S E σ Z H E σ Z H := ⟨Step.refl _ _ _, h, fun _ z => .inl z, fun _ _ => rfl⟩
theorem Go.trans {S : SS} {E E1 E2 : List Ent} {σ σ1 σ2 : St} {Z H Z1 H1 Z2 H2 : Hp} (a : Go S E σ Z H E1 σ1 Z1 H1) (b : Go S E1 σ1 Z1 H1 E2 σ2 Z2 H2) : Go S E σ Z H E2 σ2 Z2 H2 where
  step := a.step.trans b.step a.ow
  st := b.st
  ow := fun c h => by
    rcases b.ow c h with h | h
    · exact a.ow c h
    · exact (a.step.there h).symm
  pin := fun j hj => (b.pin j hj).trans (a.pin j hj)

/-- in E the expression e gives t and leaves E' -/
def EG (S : SS) (E : List Ent) (e : Expr) (t : T) (E' : List Ent) : Prop :=
  ∀ (W : WX) (Z H : Hp) (σ : St) (Q : VK), StOk S.K Z H σ E → (∀ v H' Z', Go S E σ Z H E' σ Z' H' → Rep S.K Z' t v → Q v H') → R S W e σ H Q
def EAs (S : SS) (E : List Ent) (es : List Expr) (ts : List T) (E' : List Ent) : Prop :=
  ∀ (W : WX) (Z H : Hp) (σ : St) (Q : List V → Hp → Prop), StOk S.K Z H σ E → (∀ vs H' Z', Go S E σ Z H E' σ Z' H' → Reps S.K Z' ts vs → Q vs H') → RA S W es σ H Q
/-- a test -/
def TtG (S : SS) (E : List Ent) (e : Expr) (b : Bool) (E' : List Ent) : Prop :=
  ∀ (W : WX) (Z H : Hp) (σ : St) (Q : Bool → Hp → Prop), StOk S.K Z H σ E → (∀ H' Z', Go S E σ Z H E' σ Z' H' → Q b H') → RT S W e σ H Q
inductive Oc where
  | nx (E : List Ent) | ret (t : T) (E : List Ent) | exc (C : Addr) (E : List Ent) | brk (E : List Ent) | cnt (E : List Ent)
def Oc.Ok (S : SS) (E : List Ent) (σ : St) (Z H : Hp) (D : Ends) (W : WX) : Oc → Prop
  | .nx E' => ∀ σ' Z' H', Go S E σ Z H E' σ' Z' H' → D.nx σ' H'
  | .ret t E' => ∀ v σ' Z' H', Go S E σ Z H E' σ' Z' H' → Rep S.K Z' t v → D.rt v H'
  | .exc C E' => ∀ σ' Z' H', Go S E σ Z H E' σ' Z' H' → W (.ref C) none σ' H'
  | .brk E' => ∀ σ' Z' H', Go S E σ Z H E' σ' Z' H' → D.bk σ' H'
  | .cnt E' => ∀ σ' Z' H', Go S E σ Z H E' σ' Z' H' → D.ct σ' H'
/-- in E a block ends so -/
def SGs (S : SS) (E : List Ent) (sts : List Stmt) (o : Oc) : Prop :=
  ∀ (W : WX) (Z H : Hp) (σ : St) (D : Ends), StOk S.K Z H σ E → o.Ok S E σ Z H D W → RSs S W sts D σ H
def SG (S : SS) (E : List Ent) (st : Stmt) (o : Oc) : Prop :=
  ∀ (W : WX) (Z H : Hp) (σ : St) (D : Ends), StOk S.K Z H σ E → o.Ok S E σ Z H D W → RSt S W st D σ H
theorem Oc.Ok.after {S : SS} {E E1 : List Ent} {σ σ1 : St} {Z H Z1 H1 : Hp} {D : Ends} {W : WX} {o : Oc} (h : o.Ok S E σ Z H D W) (a : Go S E σ Z H E1 σ1 Z1 H1) : o.Ok S E1 σ1 Z1 H1 D W := by
  cases o with
  | nx E' => exact fun _ _ _ g => h _ _ _ (a.trans g)
  | ret t E' => exact fun _ _ _ _ g r => h _ _ _ _ (a.trans g) r
  | exc C E' => exact fun _ _ _ g => h _ _ _ (a.trans g)
  | brk E' => exact fun _ _ _ g => h _ _ _ (a.trans g)
  | cnt E' => exact fun _ _ _ g => h _ _ _ (a.trans g)
end Cw
end L2

set_option Elab.async false
set_option linter.all false
set_option maxRecDepth 100000
set_option maxHeartbeats 2000000
namespace L2
namespace Cw
open PySem PySem.Spec PyProof.Rows
section
variable {K : PySem.W.Frag} {Z Z' H H' : Hp} {σ : St} {E E1 E2 E3 : List Ent} {S : SS}
theorem rep_int {i : Int} {v : V} : Rep K Z (.int i) v ↔ v = .int i := by simp [Rep]
theorem rep_bl {i : Bool} {v : V} : Rep K Z (.bl i) v ↔ v = .bl i := by simp [Rep]
theorem rep_str {i : Str} {v : V} : Rep K Z (.str i) v ↔ v = .str i := by simp [Rep]
theorem rep_non {v : V} : Rep K Z .non v ↔ v = .non := by simp [Rep]
theorem rep_fn {a : Addr} {v : V} : Rep K Z (.fn a) v ↔ v = .ref a := by simp [Rep]
theorem rep_tup {ts : List T} {v : V} : Rep K Z (.tup ts) v ↔ ∃ a vs, v = .ref a ∧ Z a = some (.tup vs) ∧ Reps K Z ts vs := by simp only [Rep]
theorem rep_lst {ts : List T} {v : V} : Rep K Z (.lst ts) v ↔ ∃ a vs, v = .ref a ∧ Z a = some (.lst vs) ∧ Reps K Z ts vs := by simp only [Rep]
theorem rep_wtup {ts : List T} {v : V} : Rep K Z (.wtup ts) v ↔ ∃ a vs, v = .ref a ∧ SqT K Z a vs ∧ Reps K Z ts vs := by simp only [Rep]
theorem rep_slst {ts : List T} {v : V} : Rep K Z (.slst ts) v ↔ ∃ a vs, v = .ref a ∧ SqL K Z a vs ∧ Reps K Z ts vs := by simp only [Rep]
theorem rep_dicK {ks : List Key} {ts : List T} {v : V} : Rep K Z (.dicK ks ts) v ↔ ∃ a kv, v = .ref a ∧ Rd Z a (.dK kv) ∧ kv.map Prod.fst = ks ∧ Reps K Z ts (kv.map Prod.snd) := by simp only [Rep]
theorem rep_ext {φ : Addr → List V → List V → Heap → Prop} {ks ts : List T} {v : V} : Rep K Z (.ext φ ks ts) v ↔ ∃ a qs vs, v = .ref a ∧ Rd Z a (.ext (φ a qs vs)) ∧ Reps K Z ks qs ∧ Reps K Z ts vs := by simp only [Rep]
theorem rep_ins {C : Addr} {fs : List Str} {ts : List T} {v : V} : Rep K Z (.ins C fs ts) v ↔ ∃ a dx fv, v = .ref a ∧ Z a = some (.ins C dx fv) ∧ fv.map Prod.fst = fs ∧ Reps K Z ts (fv.map Prod.snd) := by simp only [Rep]

/-- a new object is laid and frozen -/
theorem Go.alloc (st : StOk S.K Z H σ E) {p : Addr} {o : HO} (hp : H p = none) (ho : ∀ ps, o ≠ .tbl ps) : Go S E σ Z H E σ (upd Z p o) (upd H p o) where
  step := by
    refine ⟨fun b u e => ?_, fun b u e _ => ?_, fun b u e => ?_⟩
    · rw [upd_ne (ne_of_none (st.zh b u e) hp)]; exact e
    · rw [upd_ne (ne_of_none e hp)]; exact e
    · by_cases hb : b = p
      · subst hb; exact .inr (.inl hp)
      · rw [upd_ne hb] at e; exact .inl e
  st := by
    have zz : Same Z (upd Z p o) := fun b u e => by rw [upd_ne (ne_of_none (st.zh b u e) hp)]; exact e
    refine ⟨fun b u e => ?_, fun b ps e => ?_, st.len, fun i t h => ?_, fun i t h => ?_, st.ds⟩
    · by_cases hb : b = p
      · subst hb; rw [upd_same] at e ⊢; exact e
      · rw [upd_ne hb] at e ⊢; exact st.zh b u e
    · by_cases hb : b = p
      · subst hb; rw [upd_same] at e; exact ho ps (Option.some.inj e)
      · rw [upd_ne hb] at e; exact st.nt b ps e
    · obtain ⟨v, h1, h2⟩ := st.sh i t h
      exact ⟨v, h1, h2.mono zz⟩
    · obtain ⟨a, u, h1, h2, h3, h4⟩ := st.ow i t h
      have ne := ne_of_none h2 hp
      exact ⟨a, u, h1, by rw [upd_ne ne]; exact h2, by rw [upd_ne ne]; exact h3, h4.mono zz⟩
  ow := fun b h => .inl h
  pin := fun _ _ => rfl

/-! ### operators and calls by values -/
def OpG (S : SS) (r : R2) (ta tb t : T) : Prop := ∀ E Z H σ v u (Q : VK), StOk S.K Z H σ E → Rep S.K Z ta v → Rep S.K Z tb u → (∀ w H' Z', Go S E σ Z H E σ Z' H' → Rep S.K Z' t w → Q w H') → r v u H Q
def CallG (S : SS) (r : List V → Hp → VK → Prop) (ts : List T) (t : T) : Prop := ∀ E Z H σ vs (Q : VK), StOk S.K Z H σ E → Reps S.K Z ts vs → (∀ w H' Z', Go S E σ Z H E σ Z' H' → Rep S.K Z' t w → Q w H') → r vs H Q

structure VarOk (S : SS) (i : Nat) (x : Str) : Prop where
  hN : S.N[i]? = some x
  vis : Vis S.sc x
  h1 : (x == ("__debug__" : Str)) = false
  h2 : (x == ("__classdict__" : Str)) = false
structure StoOk (S : SS) (i : Nat) (x : Str) : Prop where
  nd : S.N.Nodup
  hN : S.N[i]? = some x
  loc : Loc S.sc x
  hf : S.fnb x = true ∨ S.sc.names.lookup x = some .local
  np : i ∉ S.pin
structure GlOk (S : SS) (x : Str) : Prop where
  gl : S.sc.names.lookup x = some .globalImplicit
  h1 : (x == ("__debug__" : Str)) = false
theorem GlOk.at {x : Str} (g : GlOk S x) {W : WX} {X : Cx} (h : S.Has W X) : Gl X x := by
  unfold Gl PySem.Env.kindOf
  rw [h.sc]
  exact g.gl

theorem eg_sh {i : Nat} {x : Str} {pos : Pos} {t : T} (v : VarOk S i x) (h : E[i]? = some (.sh t)) : EG S E (.Name x pos) t E := fun W Z H σ Q st k => by
  obtain ⟨u, h1, h2⟩ := st.sh i t h
  refine R.mk (fun X hX => ?_) (show tVar i σ H Q from ⟨u, h1, k u H Z (Go.refl st) h2⟩)
  have hs := hX.sc
  obtain ⟨A, s0, H0, env, outer, stack, ex, pn, xe, rfl⟩ := hX.ex
  exact pe_var v.hN (by rw [hs]; exact v.vis) v.h1 v.h2
theorem eg_int {n : Int} {j : Nat} {pos : Pos} : EG S E (.Constant (.int n) j pos) (.int n) E := fun W Z H σ Q st k => R.mk (fun X hX => pe_int) (show tC (.int n) σ H Q from k _ _ Z (Go.refl st) (by simp [Rep]))
theorem eg_str {n : Str} {j : Nat} {pos : Pos} : EG S E (.Constant (.str n) j pos) (.str n) E := fun W Z H σ Q st k => R.mk (fun X hX => pe_str) (show tC (.str n) σ H Q from k _ _ Z (Go.refl st) (by simp [Rep]))
theorem eg_bl {n : Bool} {j : Nat} {pos : Pos} : EG S E (.Constant (.bool n) j pos) (.bl n) E := fun W Z H σ Q st k => R.mk (fun X hX => pe_bl) (show tC (.bl n) σ H Q from k _ _ Z (Go.refl st) (by simp [Rep]))
theorem eg_non {j : Nat} {pos : Pos} : EG S E (.Constant .none j pos) .non E := fun W Z H σ Q st k => R.mk (fun X hX => pe_non) (show tC .non σ H Q from k _ _ Z (Go.refl st) (by simp [Rep]))
/-- a module's name -/
theorem eg_glob {x : Str} {pos : Pos} {t : T} {v : V} {u : Value} (g : GlOk S x) (hm : S.mg x = some u) (r : RelV v u) (h : ∀ Z, Rep S.K Z t v) : EG S E (.Name x pos) t E := fun W Z H σ Q st k => by
  refine R.mk (fun X hX => ?_) (show tC v σ H Q from k _ _ Z (Go.refl st) (h Z))
  have gg := g.at hX
  obtain ⟨A, s0, H0, env, outer, stack, ex, pn, xe, rfl⟩ := hX.ex
  exact pe_glob gg hm r g.h1

/-- two parts one after the other -/
theorem eg_two {a b e : Expr} {ta tb t : T} {r : R2} (ha : EG S E a ta E1) (hb : EG S E1 b tb E2) (hr : OpG S r ta tb t)
    (he : ∀ W X, S.Has W X → PE X e (tOp r (R S W a) (R S W b))) : EG S E e t E2 := fun W Z H σ Q st k => by
  refine R.mk (fun X hX => he W X hX) (ha W Z H σ _ st fun v H1 Z1 g1 r1 => hb W Z1 H1 σ _ g1.st fun u H2 Z2 g2 r2 => ?_)
  exact hr _ _ _ _ _ _ _ g2.st (r1.mono g2.step.zz) r2 fun w H3 Z3 g3 r3 => k w H3 Z3 ((g1.trans g2).trans g3) r3
theorem eg_op {a b : Expr} {pos : Pos} {op : Operator} {ta tb t : T} {r : R2} (ho : ∀ W X, S.Has W X → OpR X (binaryOp op) r) (hr : OpG S r ta tb t) (ha : EG S E a ta E1) (hb : EG S E1 b tb E2) : EG S E (.BinOp a op b pos) t E2 :=
  eg_two ha hb hr fun W X hX => pe_op (ho W X hX) (hX.pe a) (hX.pe b)
theorem eg_cmp {a b : Expr} {pos : Pos} {op : CmpOp} {ta tb t : T} {r : R2} (ho : ∀ W X, S.Has W X → OpR X (compareOp op) r) (hr : OpG S r ta tb t) (ha : EG S E a ta E1) (hb : EG S E1 b tb E2) (hm : behindInMarks op b = false) : EG S E (.Compare a [op] [b] pos) t E2 :=
  eg_two ha hb hr fun W X hX => pe_cmpR (ho W X hX) (hX.pe a) (hX.pe b) hm
theorem eg_ix {a b : Expr} {pos : Pos} {ta tb t : T} {r : R2} (ho : ∀ W X, S.Has W X → IxR X r) (hr : OpG S r ta tb t) (ha : EG S E a ta E1) (hb : EG S E1 b tb E2) (hm : PlainIx b) : EG S E (.Subscript a b pos) t E2 :=
  eg_two ha hb hr fun W X hX => pe_ix (ho W X hX) (hX.pe a) (hX.pe b) hm

theorem opg_rI0 {g : Int → Int → V} {i j : Int} {t : T} (h : ∀ Z, Rep S.K Z t (g i j)) : OpG S (rI0 g) (.int i) (.int j) t := fun E Z H σ v u Q st r1 r2 k =>
  ⟨i, j, rep_int.mp r1, rep_int.mp r2, k _ _ _ (Go.refl st) (h _)⟩
theorem opg_rI {C : Int → Int → Prop} {g : Int → Int → V} {i j : Int} {t : T} (hc : C i j) (h : ∀ Z, Rep S.K Z t (g i j)) : OpG S (rI C g) (.int i) (.int j) t := fun E Z H σ v u Q st r1 r2 k =>
  ⟨i, j, rep_int.mp r1, rep_int.mp r2, hc, k _ _ _ (Go.refl st) (h _)⟩

section
variable {a b : Expr} {pos : Pos} {i j : Int}
theorem eg_add (ha : EG S E a (.int i) E1) (hb : EG S E1 b (.int j) E2) : EG S E (.BinOp a .Add b pos) (.int (i + j)) E2 := eg_op (fun _ _ _ => op_add) (opg_rI0 fun _ => rep_int.mpr rfl) ha hb
theorem eg_sub (ha : EG S E a (.int i) E1) (hb : EG S E1 b (.int j) E2) : EG S E (.BinOp a .Sub b pos) (.int (i - j)) E2 := eg_op (fun _ _ _ => op_sub) (opg_rI0 fun _ => rep_int.mpr rfl) ha hb
theorem eg_mul (ha : EG S E a (.int i) E1) (hb : EG S E1 b (.int j) E2) (h : CMul i j) : EG S E (.BinOp a .Mult b pos) (.int (i * j)) E2 := eg_op (fun _ _ _ => op_mul) (opg_rI h fun _ => rep_int.mpr rfl) ha hb
theorem eg_mod (ha : EG S E a (.int i) E1) (hb : EG S E1 b (.int j) E2) (h : j ≠ 0) : EG S E (.BinOp a .Mod b pos) (.int (i.fmod j)) E2 := eg_op (fun _ _ _ => op_modN) (opg_rI h fun _ => rep_int.mpr rfl) ha hb
theorem eg_fdiv (ha : EG S E a (.int i) E1) (hb : EG S E1 b (.int j) E2) (h : CDivN i j) : EG S E (.BinOp a .FloorDiv b pos) (.int (i.fdiv j)) E2 := eg_op (fun _ _ _ => op_fdivN) (opg_rI h fun _ => rep_int.mpr rfl) ha hb
theorem eg_lt (ha : EG S E a (.int i) E1) (hb : EG S E1 b (.int j) E2) (hm : behindInMarks .Lt b = false := by exact nomark _) : EG S E (.Compare a [.Lt] [b] pos) (.bl (decide (i < j))) E2 := eg_cmp (fun _ _ _ => op_lt) (opg_rI0 fun _ => rep_bl.mpr rfl) ha hb hm
theorem eg_le (ha : EG S E a (.int i) E1) (hb : EG S E1 b (.int j) E2) (hm : behindInMarks .LtE b = false := by exact nomark _) : EG S E (.Compare a [.LtE] [b] pos) (.bl (decide (i ≤ j))) E2 := eg_cmp (fun _ _ _ => op_le) (opg_rI0 fun _ => rep_bl.mpr rfl) ha hb hm
theorem eg_gt (ha : EG S E a (.int i) E1) (hb : EG S E1 b (.int j) E2) (hm : behindInMarks .Gt b = false := by exact nomark _) : EG S E (.Compare a [.Gt] [b] pos) (.bl (decide (j < i))) E2 := eg_cmp (fun _ _ _ => op_gt) (opg_rI0 fun _ => rep_bl.mpr rfl) ha hb hm
theorem eg_ge (ha : EG S E a (.int i) E1) (hb : EG S E1 b (.int j) E2) (hm : behindInMarks .GtE b = false := by exact nomark _) : EG S E (.Compare a [.GtE] [b] pos) (.bl (decide (j ≤ i))) E2 := eg_cmp (fun _ _ _ => op_ge) (opg_rI0 fun _ => rep_bl.mpr rfl) ha hb hm
end
end
end Cw
end L2

set_option Elab.async false
set_option linter.all false
set_option maxRecDepth 100000
set_option maxHeartbeats 2000000
namespace L2
namespace Cw
open PySem PySem.Spec PyProof.Rows
section
variable {K : PySem.W.Frag} {Z Z' H H' : Hp} {σ : St} {E E1 E2 E3 : List Ent} {S : SS}
/-! ### arguments, displays -/
theorem eas_nil : EAs S E [] [] E := fun W Z H σ Q st k => RA.mk (fun X hX => pa_nil) (show tNil σ H Q from k _ _ _ (Go.refl st) .nil)
theorem eas_cons {e : Expr} {es : List Expr} {t : T} {ts : List T} (ha : EG S E e t E1) (hb : EAs S E1 es ts E2) (hs : ∀ env, starEach (e :: es) env = (false, eval e env) :: starEach es env := by intro _; rfl) : EAs S E (e :: es) (t :: ts) E2 := fun W Z H σ Q st k =>
  RA.mk (t := tCons (R S W e) (RA S W es)) (fun X hX => pa_cons (hX.pe e) (hX.pa es) (hs _)) (ha W Z H σ _ st fun v H1 Z1 g1 r1 => hb W Z1 H1 σ _ g1.st fun vs H2 Z2 g2 r2 => k _ H2 Z2 (g1.trans g2) (.cons (r1.mono g2.step.zz) r2))
theorem eg_tup {es : List Expr} {ts : List T} {pos : Pos} {j : Nat} (h : EAs S E es ts E1) (hl : ts.length ≤ 16777216) : EG S E (.Tuple es j pos) (.tup ts) E1 := fun W Z H σ Q st k =>
  R.mk (t := tTup (RA S W es)) (fun X hX => pe_tup (hX.pa es)) (h W Z H σ _ st fun vs H1 Z1 g1 r1 => ⟨by rw [r1.length, sizeLine_eq]; exact hl, fun p hp => by
    have g2 := Go.alloc g1.st (o := .tup vs) hp (by intro ps q; cases q)
    exact k _ _ _ (g1.trans g2) (rep_tup.mpr ⟨p, vs, rfl, upd_same, r1.mono g2.step.zz⟩)⟩)
theorem eg_lst {es : List Expr} {ts : List T} {pos : Pos} (h : EAs S E es ts E1) (hl : ts.length ≤ 16777216) : EG S E (.List es pos) (.lst ts) E1 := fun W Z H σ Q st k =>
  R.mk (t := tLst (RA S W es)) (fun X hX => pe_lst (hX.pa es)) (h W Z H σ _ st fun vs H1 Z1 g1 r1 => ⟨by rw [r1.length, sizeLine_eq]; exact hl, fun p hp => by
    have g2 := Go.alloc g1.st (o := .lst vs) hp (by intro ps q; cases q)
    exact k _ _ _ (g1.trans g2) (rep_lst.mpr ⟨p, vs, rfl, upd_same, r1.mono g2.step.zz⟩)⟩)

/-! ### calls of built-ins -/
theorem eg_callB {e : Expr} {es : List Expr} {ts : List T} {t : T} {x : Str} {id : String} {r : List V → Hp → VK → Prop} {p pos : Pos} (hc : ∀ W X, S.Has W X → CallR X (.builtin id) r) (hr : CallG S r ts t) (g : GlOk S x) (hm : S.mg x = none) (hv : bootBuiltins x = some (.builtin id)) (ha : EAs S E (e :: es) ts E1)
    (hn : x ≠ "__name__" := by decide) (he : ∀ env, starEach (e :: es) env = (false, eval e env) :: starEach es env := by intro _; rfl) (hpl : ∀ env, (backTo pos (starEach es env)).any (·.1) = false := by intro _; rfl) : EG S E (.Call (.Name x p) (e :: es) [] pos) t E1 := fun W Z H σ Q st k => by
  refine R.mk (t := tCB r (RA S W (e :: es))) (fun X hX => ?_) (ha W Z H σ _ st fun vs H1 Z1 g1 r1 => hr _ _ _ _ _ _ g1.st r1 fun w H2 Z2 g2 r2 => k w H2 Z2 (g1.trans g2) r2)
  have gg := g.at hX
  have cc := hc W X hX
  have pa := hX.pa (e :: es)
  obtain ⟨A, s0, H0, env, outer, stack, ex, pn, xe, rfl⟩ := hX.ex
  exact pe_callB cc gg hm hv pa hn g.h1 (he _) (hpl _)
theorem eg_callTy {e : Expr} {es : List Expr} {ts : List T} {t : T} {x : Str} {id : String} {r : List V → Hp → VK → Prop} {p pos : Pos} (hc : ∀ W X, S.Has W X → CallR X (.type id) r) (hr : CallG S r ts t) (g : GlOk S x) (hm : S.mg x = none) (hv : bootBuiltins x = some (.type id)) (ha : EAs S E (e :: es) ts E1)
    (hn : x ≠ "__name__" := by decide) (he : ∀ env, starEach (e :: es) env = (false, eval e env) :: starEach es env := by intro _; rfl) (hpl : ∀ env, (backTo pos (starEach es env)).any (·.1) = false := by intro _; rfl) : EG S E (.Call (.Name x p) (e :: es) [] pos) t E1 := fun W Z H σ Q st k => by
  refine R.mk (t := tCB r (RA S W (e :: es))) (fun X hX => ?_) (ha W Z H σ _ st fun vs H1 Z1 g1 r1 => hr _ _ _ _ _ _ g1.st r1 fun w H2 Z2 g2 r2 => k w H2 Z2 (g1.trans g2) r2)
  have gg := g.at hX
  have cc := hc W X hX
  have pa := hX.pa (e :: es)
  obtain ⟨A, s0, H0, env, outer, stack, ex, pn, xe, rfl⟩ := hX.ex
  exact pe_callTy cc gg hm hv pa hn g.h1 (he _) (hpl _)
theorem SS.Has.kk {W : WX} {X : Cx} (h : S.Has W X) : X.K = S.K := by obtain ⟨A, s0, H0, env, outer, stack, ex, pn, xe, rfl⟩ := h.ex; rfl
theorem SS.Has.calm {W : WX} {X : Cx} (h : S.Has W X) : X.calm = true := by obtain ⟨A, s0, H0, env, outer, stack, ex, pn, xe, rfl⟩ := h.ex; rfl
theorem SS.Has.hw {W : WX} {X : Cx} (h : S.Has W X) : X.w = S.w := by obtain ⟨A, s0, H0, env, outer, stack, ex, pn, xe, rfl⟩ := h.ex; rfl
theorem SS.Has.hP {W : WX} {X : Cx} (h : S.Has W X) : X.prog = S.P := by obtain ⟨A, s0, H0, env, outer, stack, ex, pn, xe, rfl⟩ := h.ex; rfl

theorem reps_one {t : T} {vs : List V} (h : Reps K Z [t] vs) : ∃ v, vs = [v] ∧ Rep K Z t v := by
  obtain ⟨v, r, rfl, h1, h2⟩ := h.uncons
  rw [h2.unnil]
  exact ⟨v, rfl, h1⟩
theorem reps_two {t u : T} {vs : List V} (h : Reps K Z [t, u] vs) : ∃ v w, vs = [v, w] ∧ Rep K Z t v ∧ Rep K Z u w := by
  obtain ⟨v, r, rfl, h1, h2⟩ := h.uncons
  obtain ⟨w, rfl, h3⟩ := reps_one h2
  exact ⟨v, w, rfl, h1, h3⟩
/-- what may stand as a sequence -/
inductive SeqT : T → List T → Prop
  | tup {ts} : SeqT (.tup ts) ts
  | lst {ts} : SeqT (.lst ts) ts
  | wtup {ts} : SeqT (.wtup ts) ts
  | slst {ts} : SeqT (.slst ts) ts
theorem SeqT.rep {t : T} {ts : List T} (q : SeqT t ts) (zh : Same Z H) {v : V} (h : Rep K Z t v) : ∃ a vs, v = .ref a ∧ (SqL K H a vs ∨ SqT K H a vs) ∧ Reps K Z ts vs := by
  cases q with
  | tup => obtain ⟨a, vs, rfl, h1, h2⟩ := rep_tup.mp h; exact ⟨a, vs, rfl, .inr (.inl (.inl (zh _ _ h1))), h2⟩
  | lst => obtain ⟨a, vs, rfl, h1, h2⟩ := rep_lst.mp h; exact ⟨a, vs, rfl, .inl (.inl (.inl (zh _ _ h1))), h2⟩
  | wtup => obtain ⟨a, vs, rfl, h1, h2⟩ := rep_wtup.mp h; exact ⟨a, vs, rfl, .inr (Same_tup zh h1), h2⟩
  | slst => obtain ⟨a, vs, rfl, h1, h2⟩ := rep_slst.mp h; exact ⟨a, vs, rfl, .inl (zh.seq h1), h2⟩
section
variable {e : Expr} {t : T} {ts : List T} {p pos : Pos} {x : Str}
theorem eg_len {t : T} (q : SeqT t ts) (g : GlOk S "len") (hm : S.mg "len" = none) (ha : EG S E e t E1) (he : ∀ env, starEach [e] env = (false, eval e env) :: starEach [] env := by intro _; rfl) : EG S E (.Call (.Name "len" p) [e] [] pos) (.int ts.length) E1 :=
  eg_callB (r := fun xs H Q => ∃ p ys, xs = [V.ref p] ∧ (SqL S.K H p ys ∨ SqT S.K H p ys) ∧ Q (V.int (ys.length : Nat)) H) (fun W X hX => by rw [← hX.kk]; exact call_len_seq) (fun E Z H σ vs Q st r k => by
    obtain ⟨v, rfl, h⟩ := reps_one r
    obtain ⟨a, vs, rfl, h1, h2⟩ := q.rep st.zh h
    exact ⟨a, vs, rfl, h1, k _ _ _ (Go.refl st) (by rw [h2.length]; exact rep_int.mpr rfl)⟩) g hm boot_len (eas_cons ha eas_nil he) (by decide) he (by intro _; rfl)
theorem eg_tupleL (g : GlOk S "tuple") (hm : S.mg "tuple" = none) (ha : EG S E e (.lst ts) E1) (he : ∀ env, starEach [e] env = (false, eval e env) :: starEach [] env := by intro _; rfl) : EG S E (.Call (.Name "tuple" p) [e] [] pos) (.tup ts) E1 :=
  eg_callTy (r := fun xs H Q => ∃ p ys, xs = [V.ref p] ∧ ((SqL S.K H p ys ∧ ∀ (l : Addr), H l = none → Q (V.ref l) (upd H l (HO.tup ys))) ∨ SqT S.K H p ys ∧ Q (V.ref p) H)) (fun W X hX => by rw [← hX.kk]; exact call_tuple_of) (fun E Z H σ vs Q st r k => by
    obtain ⟨v, rfl, h⟩ := reps_one r
    obtain ⟨a, vs, rfl, h1, h2⟩ := rep_lst.mp h
    refine ⟨a, vs, rfl, .inl ⟨.inl (.inl (st.zh _ _ h1)), fun l hl => ?_⟩⟩
    have g2 := Go.alloc st (o := .tup vs) hl (by intro ps q; cases q)
    exact k _ _ _ g2 (rep_tup.mpr ⟨l, vs, rfl, upd_same, h2.mono g2.step.zz⟩)) g hm (by decide +kernel) (eas_cons ha eas_nil he) (by decide) he (by intro _; rfl)
theorem eg_tupleT (g : GlOk S "tuple") (hm : S.mg "tuple" = none) (ha : EG S E e (.tup ts) E1) (he : ∀ env, starEach [e] env = (false, eval e env) :: starEach [] env := by intro _; rfl) : EG S E (.Call (.Name "tuple" p) [e] [] pos) (.tup ts) E1 :=
  eg_callTy (r := fun xs H Q => ∃ p ys, xs = [V.ref p] ∧ ((SqL S.K H p ys ∧ ∀ (l : Addr), H l = none → Q (V.ref l) (upd H l (HO.tup ys))) ∨ SqT S.K H p ys ∧ Q (V.ref p) H)) (fun W X hX => by rw [← hX.kk]; exact call_tuple_of) (fun E Z H σ vs Q st r k => by
    obtain ⟨v, rfl, h⟩ := reps_one r
    obtain ⟨a, vs, rfl, h1, h2⟩ := rep_tup.mp h
    exact ⟨a, vs, rfl, .inr ⟨.inl (.inl (st.zh _ _ h1)), k _ _ _ (Go.refl st) h⟩⟩) g hm (by decide +kernel) (eas_cons ha eas_nil he) (by decide) he (by intro _; rfl)
theorem eg_listS {t : T} (q : SeqT t ts) (g : GlOk S "list") (hm : S.mg "list" = none) (ha : EG S E e t E1) (he : ∀ env, starEach [e] env = (false, eval e env) :: starEach [] env := by intro _; rfl) : EG S E (.Call (.Name "list" p) [e] [] pos) (.lst ts) E1 :=
  eg_callTy (r := fun xs H Q => ∃ p ys, xs = [V.ref p] ∧ (SqL S.K H p ys ∨ SqT S.K H p ys) ∧ ∀ (l : Addr), H l = none → Q (V.ref l) (upd H l (HO.lst ys))) (fun W X hX => by rw [← hX.kk]; exact call_list_of) (fun E Z H σ vs Q st r k => by
    obtain ⟨v, rfl, h⟩ := reps_one r
    obtain ⟨a, vs, rfl, h1, h2⟩ := q.rep st.zh h
    refine ⟨a, vs, rfl, h1, fun l hl => ?_⟩
    have g2 := Go.alloc st (o := .lst vs) hl (by intro ps q; cases q)
    exact k _ _ _ g2 (rep_lst.mpr ⟨l, vs, rfl, upd_same, h2.mono g2.step.zz⟩)) g hm (by decide +kernel) (eas_cons ha eas_nil he) (by decide) he (by intro _; rfl)
theorem eg_abs {i : Int} (g : GlOk S "abs") (hm : S.mg "abs" = none) (ha : EG S E e (.int i) E1) (he : ∀ env, starEach [e] env = (false, eval e env) :: starEach [] env := by intro _; rfl) : EG S E (.Call (.Name "abs" p) [e] [] pos) (.int (if i < 0 then -i else i)) E1 :=
  eg_callB (fun W X hX => call_abs) (fun E Z H σ vs Q st r k => by
    obtain ⟨v, rfl, h⟩ := reps_one r
    exact ⟨i, by rw [rep_int.mp h], k _ _ _ (Go.refl st) (rep_int.mpr rfl)⟩) g hm (by decide +kernel) (eas_cons ha eas_nil he) (by decide) he (by intro _; rfl)
theorem eg_max2 {e' : Expr} {i j : Int} (g : GlOk S "max") (hm : S.mg "max" = none) (ha : EG S E e (.int i) E1) (hb : EG S E1 e' (.int j) E2) (he : ∀ env, starEach [e, e'] env = (false, eval e env) :: starEach [e'] env := by intro _; rfl) (he' : ∀ env, starEach [e'] env = (false, eval e' env) :: starEach [] env := by intro _; rfl) : EG S E (.Call (.Name "max" p) [e, e'] [] pos) (.int (if j > i then j else i)) E2 :=
  eg_callB (fun W X hX => call_max2 hX.calm) (fun E Z H σ vs Q st r k => by
    obtain ⟨v, w, rfl, h, h'⟩ := reps_two r
    exact ⟨i, j, by rw [rep_int.mp h, rep_int.mp h'], k _ _ _ (Go.refl st) (rep_int.mpr rfl)⟩) g hm (by decide +kernel) (eas_cons ha (eas_cons hb eas_nil he') he) (by decide) he (by intro _; rw [he']; rfl)
theorem eg_intI {i : Int} (g : GlOk S "int") (hm : S.mg "int" = none) (ha : EG S E e (.int i) E1) (he : ∀ env, starEach [e] env = (false, eval e env) :: starEach [] env := by intro _; rfl) : EG S E (.Call (.Name "int" p) [e] [] pos) (.int i) E1 :=
  eg_callTy (fun W X hX => call_int1) (fun E Z H σ vs Q st r k => by
    obtain ⟨v, rfl, h⟩ := reps_one r
    exact .inl ⟨i, by rw [rep_int.mp h], k _ _ _ (Go.refl st) (rep_int.mpr rfl)⟩) g hm (by decide +kernel) (eas_cons ha eas_nil he) (by decide) he (by intro _; rfl)
theorem eg_intB {i : Bool} (g : GlOk S "int") (hm : S.mg "int" = none) (ha : EG S E e (.bl i) E1) (he : ∀ env, starEach [e] env = (false, eval e env) :: starEach [] env := by intro _; rfl) : EG S E (.Call (.Name "int" p) [e] [] pos) (.int (if i = true then 1 else 0)) E1 :=
  eg_callTy (fun W X hX => call_int1) (fun E Z H σ vs Q st r k => by
    obtain ⟨v, rfl, h⟩ := reps_one r
    exact .inr ⟨i, by rw [rep_bl.mp h], k _ _ _ (Go.refl st) (rep_int.mpr rfl)⟩) g hm (by decide +kernel) (eas_cons ha eas_nil he) (by decide) he (by intro _; rfl)
theorem eg_strI {i : Int} (g : GlOk S "str") (hm : S.mg "str" = none) (ha : EG S E e (.int i) E1) (hi : i.natAbs.log2 < 1920) (he : ∀ env, starEach [e] env = (false, eval e env) :: starEach [] env := by intro _; rfl) : EG S E (.Call (.Name "str" p) [e] [] pos) (.str (Str.ofString (toString i))) E1 :=
  eg_callTy (fun W X hX => call_str_int) (fun E Z H σ vs Q st r k => by
    obtain ⟨v, rfl, h⟩ := reps_one r
    exact ⟨i, by rw [rep_int.mp h], hi, k _ _ _ (Go.refl st) (rep_str.mpr rfl)⟩) g hm (by decide +kernel) (eas_cons ha eas_nil he) (by decide) he (by intro _; rfl)
theorem eg_intS {a : Str} {n : Int} (g : GlOk S "int") (hm : S.mg "int" = none) (ha : EG S E e (.str a) E1) (hi : PySem.intText? a = some n) (hl : a.length ≤ 640) (he : ∀ env, starEach [e] env = (false, eval e env) :: starEach [] env := by intro _; rfl) : EG S E (.Call (.Name "int" p) [e] [] pos) (.int n) E1 :=
  eg_callTy (fun W X hX => call_int_str) (fun E Z H σ vs Q st r k => by
    obtain ⟨v, rfl, h⟩ := reps_one r
    exact ⟨a, n, by rw [rep_str.mp h], hi, hl, k _ _ _ (Go.refl st) (rep_int.mpr rfl)⟩) g hm (by decide +kernel) (eas_cons ha eas_nil he) (by decide) he (by intro _; rfl)
theorem bools_of : ∀ {bs : List Bool} {vs : List V}, Reps K Z (bs.map T.bl) vs → vs = bs.map V.bl
  | [], _, h => h.unnil
  | b :: bs, _, h => by
    obtain ⟨v, r, rfl, h1, h2⟩ := h.uncons
    rw [rep_bl.mp h1, bools_of h2]; rfl
theorem ints_of : ∀ {bs : List Int} {vs : List V}, Reps K Z (bs.map T.int) vs → vs = bs.map V.int
  | [], _, h => h.unnil
  | b :: bs, _, h => by
    obtain ⟨v, r, rfl, h1, h2⟩ := h.uncons
    rw [rep_int.mp h1, ints_of h2]; rfl
theorem strs_of : ∀ {bs : List Str} {vs : List V}, Reps K Z (bs.map T.str) vs → vs = bs.map V.str
  | [], _, h => h.unnil
  | b :: bs, _, h => by
    obtain ⟨v, r, rfl, h1, h2⟩ := h.uncons
    rw [rep_str.mp h1, strs_of h2]; rfl
theorem eg_any {bs : List Bool} (g : GlOk S "any") (hm : S.mg "any" = none) (ha : EG S E e (.lst (bs.map T.bl)) E1) (he : ∀ env, starEach [e] env = (false, eval e env) :: starEach [] env := by intro _; rfl) : EG S E (.Call (.Name "any" p) [e] [] pos) (.bl (bs.any id)) E1 :=
  eg_callB (r := rAny S.K) (fun W X hX => by rw [← hX.kk]; exact cr_any hX.calm) (fun E Z H σ vs Q st r k => by
    obtain ⟨v, rfl, h⟩ := reps_one r
    obtain ⟨a, vs, rfl, h1, h2⟩ := rep_lst.mp h
    exact ⟨a, bs, rfl, by rw [← bools_of h2]; exact .inl (.inl (st.zh _ _ h1)), k _ _ _ (Go.refl st) (rep_bl.mpr rfl)⟩) g hm (by decide +kernel) (eas_cons ha eas_nil he) (by decide) he (by intro _; rfl)
theorem eg_all {bs : List Bool} (g : GlOk S "all") (hm : S.mg "all" = none) (ha : EG S E e (.lst (bs.map T.bl)) E1) (he : ∀ env, starEach [e] env = (false, eval e env) :: starEach [] env := by intro _; rfl) : EG S E (.Call (.Name "all" p) [e] [] pos) (.bl (bs.all id)) E1 :=
  eg_callB (r := rAll S.K) (fun W X hX => by rw [← hX.kk]; exact cr_all hX.calm) (fun E Z H σ vs Q st r k => by
    obtain ⟨v, rfl, h⟩ := reps_one r
    obtain ⟨a, vs, rfl, h1, h2⟩ := rep_lst.mp h
    exact ⟨a, bs, rfl, by rw [← bools_of h2]; exact .inl (.inl (st.zh _ _ h1)), k _ _ _ (Go.refl st) (rep_bl.mpr rfl)⟩) g hm (by decide +kernel) (eas_cons ha eas_nil he) (by decide) he (by intro _; rfl)
theorem eg_sum {bs : List Int} {t : T} (q : t = .lst (bs.map T.int)) (g : GlOk S "sum") (hm : S.mg "sum" = none) (ha : EG S E e t E1) (he : ∀ env, starEach [e] env = (false, eval e env) :: starEach [] env := by intro _; rfl) : EG S E (.Call (.Name "sum" p) [e] [] pos) (.int bs.sum) E1 :=
  eg_callB (r := rSum S.K) (fun W X hX => by rw [← hX.kk]; exact cr_sum hX.calm) (fun E Z H σ vs Q st r k => by
    subst q
    obtain ⟨v, rfl, h⟩ := reps_one r
    obtain ⟨a, vs, rfl, h1, h2⟩ := rep_lst.mp h
    exact ⟨a, bs, rfl, by rw [← ints_of h2]; exact .inl (.inl (st.zh _ _ h1)), k _ _ _ (Go.refl st) (rep_int.mpr rfl)⟩) g hm (by decide +kernel) (eas_cons ha eas_nil he) (by decide) he (by intro _; rfl)
end

/-! ### subscripts -/
theorem atI_reps {ts : List T} {vs : List V} {i : Int} {t : T} (h : Reps K Z ts vs) (e : atI ts i = some t) : ∃ v, atI vs i = some v ∧ Rep K Z t v := by
  unfold atI at e ⊢
  rw [h.length]
  cases q : ixN ts.length i with
  | none => simp [q] at e
  | some j => rw [q] at e; exact h.at e
theorem eg_item {a b : Expr} {t u : T} {ts : List T} {i : Int} {pos : Pos} (q : SeqT t ts) (ha : EG S E a t E1) (hb : EG S E1 b (.int i) E2) (hi : atI ts i = some u) (hm : PlainIx b := by intro _ _; rfl) : EG S E (.Subscript a b pos) u E2 :=
  eg_ix (r := rIx S.K) (fun W X hX => by rw [← hX.kk]; exact ix_seq) (fun E Z H σ v w Q st r1 r2 k => by
    obtain ⟨a, vs, rfl, h1, h2⟩ := q.rep st.zh r1
    obtain ⟨y, h3, h4⟩ := atI_reps h2 hi
    have e := rep_int.mp r2
    rcases h1 with h1 | h1
    · exact .inl ⟨a, vs, i, y, rfl, e, h1, h3, k _ _ _ (Go.refl st) h4⟩
    · exact .inr (.inl ⟨a, vs, i, y, rfl, e, h1, h3, k _ _ _ (Go.refl st) h4⟩)) ha hb hm
theorem eg_itemS {a b : Expr} {z : Str} {c : Nat} {i : Int} {pos : Pos} (ha : EG S E a (.str z) E1) (hb : EG S E1 b (.int i) E2) (hz : z.length ≤ 16777216) (hi : atI z.cps.toList i = some c) (hm : PlainIx b := by intro _ _; rfl) : EG S E (.Subscript a b pos) (.str ⟨#[c]⟩) E2 :=
  eg_ix (r := rIx S.K) (fun W X hX => by rw [← hX.kk]; exact ix_seq) (fun E Z H σ v w Q st r1 r2 k =>
    .inr (.inr ⟨z, i, c, rep_str.mp r1, rep_int.mp r2, by rw [sizeLine_eq]; exact hz, hi, k _ _ _ (Go.refl st) (rep_str.mpr rfl)⟩)) ha hb hm

/-! ### tests -/
theorem tg_val {e : Expr} {b : Bool} (h : EG S E e (.bl b) E1) (ht : ∀ env (whole : Sem Value), PySem.isTrue e env whole = (do let v ← whole; standAt e.pos; holding [v] (truthy v)) := by intro _ _; rfl) : TtG S E e b E1 := fun W Z H σ Q st k =>
  RT.mk (t := tB (R S W e)) (fun X hX => pt_val (hX.pe e) (ht _)) (h W Z H σ _ st fun v H1 Z1 g1 r1 => ⟨b, rep_bl.mp r1, k _ _ g1⟩)
theorem tg_cmp {a b : Expr} {pos : Pos} {op : CmpOp} {ta tb : T} {c : Bool} {r : R2} (ho : ∀ W X, S.Has W X → OpR X (compareOp op) r) (hr : OpG S r ta tb (.bl c)) (ha : EG S E a ta E1) (hb : EG S E1 b tb E2) (hm : behindInMarks op b = false) : TtG S E (.Compare a [op] [b] pos) c E2 := fun W Z H σ Q st k =>
  RT.mk (t := tTest (tOp r (R S W a) (R S W b))) (fun X hX => pt_cmpR (ho W X hX) (hX.pe a) (hX.pe b) hm) (ha W Z H σ _ st fun v H1 Z1 g1 r1 => hb W Z1 H1 σ _ g1.st fun u H2 Z2 g2 r2 => hr _ _ _ _ _ _ _ g2.st (r1.mono g2.step.zz) r2 fun w H3 Z3 g3 r3 => ⟨c, rep_bl.mp r3, k H3 Z3 ((g1.trans g2).trans g3)⟩)
theorem tg_not {a : Expr} {b : Bool} {pos : Pos} (h : TtG S E a b E1) : TtG S E (.UnaryOp .Not a pos) (!b) E1 := fun W Z H σ Q st k =>
  RT.mk (t := tNot (RT S W a)) (fun X hX => pt_not (hX.pt a)) (h W Z H σ _ st fun H1 Z1 g1 => k _ _ g1)
/-- a row of and, or -/
def WG (S : SS) (E : List Ent) (e : Expr) (b : Bool) (E' : List Ent) : Prop :=
  ∀ (W : WX) (Z H : Hp) (σ : St) (Q : Bool → Hp → Prop), StOk S.K Z H σ E → (∀ H' Z', Go S E σ Z H E' σ Z' H' → Q b H') → ∀ X, S.Has W X → ∀ (whole : Sem Value) pins s, Inv X pins σ H s → wpAny (model X.prog X.w) X.A (isTrue e X.env whole) (TP X pins σ Q) X.xe s
def RW_ (S : SS) (W : WX) (e : Expr) : TT := fun σ H Q => ∀ X, S.Has W X → ∀ (whole : Sem Value) pins s, Inv X pins σ H s → wpAny (model X.prog X.w) X.A (isTrue e X.env whole) (TP X pins σ Q) X.xe s
theorem SS.Has.pw {W : WX} {X : Cx} (h : S.Has W X) (e : Expr) : PW X e (RW_ S W e) := ⟨fun whole pins s σ H Q I q => q X h whole pins s I⟩
theorem tg_w {e : Expr} {b : Bool} (h : WG S E e b E1) : TtG S E e b E1 := fun W Z H σ Q st k X hX pins s I => h W Z H σ Q st k X hX _ pins s I
section
variable {a b : Expr} {rest : List Expr} {pos : Pos} {c : Bool}
theorem wg_and1 (h : TtG S E a c E1) : WG S E (.BoolOp .And [a] pos) c E1 := fun W Z H σ Q st k X hX whole pins s I => (pw_and1 (hX.pt a)).run whole pins s σ H Q I (h W Z H σ Q st k)
theorem wg_or1 (h : TtG S E a c E1) : WG S E (.BoolOp .Or [a] pos) c E1 := fun W Z H σ Q st k X hX whole pins s I => (pw_or1 (hX.pt a)).run whole pins s σ H Q I (h W Z H σ Q st k)
theorem wg_andT (h : TtG S E a true E1) (h2 : WG S E1 (.BoolOp .And (b :: rest) pos) c E2) : WG S E (.BoolOp .And (a :: b :: rest) pos) c E2 := fun W Z H σ Q st k X hX whole pins s I =>
  (pw_and (hX.pt a) (hX.pw (.BoolOp .And (b :: rest) pos))).run whole pins s σ H Q I (h W Z H σ _ st fun H1 Z1 g1 => iteT fun X' hX' whole' pins' s' I' => h2 W Z1 H1 σ Q g1.st (fun H2 Z2 g2 => k H2 Z2 (g1.trans g2)) X' hX' whole' pins' s' I')
theorem wg_andF (h : TtG S E a false E1) : WG S E (.BoolOp .And (a :: b :: rest) pos) false E1 := fun W Z H σ Q st k X hX whole pins s I =>
  (pw_and (hX.pt a) (hX.pw (.BoolOp .And (b :: rest) pos))).run whole pins s σ H Q I (h W Z H σ _ st fun H1 Z1 g1 => iteF (k H1 Z1 g1))
theorem wg_orF (h : TtG S E a false E1) (h2 : WG S E1 (.BoolOp .Or (b :: rest) pos) c E2) : WG S E (.BoolOp .Or (a :: b :: rest) pos) c E2 := fun W Z H σ Q st k X hX whole pins s I =>
  (pw_or (hX.pt a) (hX.pw (.BoolOp .Or (b :: rest) pos))).run whole pins s σ H Q I (h W Z H σ _ st fun H1 Z1 g1 => iteF fun X' hX' whole' pins' s' I' => h2 W Z1 H1 σ Q g1.st (fun H2 Z2 g2 => k H2 Z2 (g1.trans g2)) X' hX' whole' pins' s' I')
theorem wg_orT (h : TtG S E a true E1) : WG S E (.BoolOp .Or (a :: b :: rest) pos) true E1 := fun W Z H σ Q st k X hX whole pins s I =>
  (pw_or (hX.pt a) (hX.pw (.BoolOp .Or (b :: rest) pos))).run whole pins s σ H Q I (h W Z H σ _ st fun H1 Z1 g1 => iteT (k H1 Z1 g1))
end
/-- pure and: both asked as need be -/
theorem wg_and {a b : Expr} {rest : List Expr} {pos : Pos} {c d : Bool} (h : TtG S E a c E) (h2 : c = true → WG S E (.BoolOp .And (b :: rest) pos) d E) : WG S E (.BoolOp .And (a :: b :: rest) pos) (c && d) E := by
  cases c with
  | true => exact wg_andT h (h2 rfl)
  | false => exact wg_andF h
theorem wg_or {a b : Expr} {rest : List Expr} {pos : Pos} {c d : Bool} (h : TtG S E a c E) (h2 : c = false → WG S E (.BoolOp .Or (b :: rest) pos) d E) : WG S E (.BoolOp .Or (a :: b :: rest) pos) (c || d) E := by
  cases c with
  | true => exact wg_orT h
  | false => exact wg_orF h (h2 rfl)
theorem eg_ifT {c a b : Expr} {t : T} {pos : Pos} (h : TtG S E c true E1) (ha : EG S E1 a t E2) : EG S E (.IfExp c a b pos) t E2 := fun W Z H σ Q st k =>
  R.mk (t := tIf (RT S W c) (R S W a) (R S W b)) (fun X hX => pe_ifExp (hX.pt c) (hX.pe a) (hX.pe b)) (h W Z H σ _ st fun H1 Z1 g1 => iteT (ha W Z1 H1 σ _ g1.st fun v H2 Z2 g2 r => k v H2 Z2 (g1.trans g2) r))
theorem eg_ifF {c a b : Expr} {t : T} {pos : Pos} (h : TtG S E c false E1) (ha : EG S E1 b t E2) : EG S E (.IfExp c a b pos) t E2 := fun W Z H σ Q st k =>
  R.mk (t := tIf (RT S W c) (R S W a) (R S W b)) (fun X hX => pe_ifExp (hX.pt c) (hX.pe a) (hX.pe b)) (h W Z H σ _ st fun H1 Z1 g1 => iteF (ha W Z1 H1 σ _ g1.st fun v H2 Z2 g2 r => k v H2 Z2 (g1.trans g2) r))
theorem eg_if {c a b : Expr} {t u : T} {pos : Pos} {d : Bool} (h : TtG S E c d E1) (ha : d = true → EG S E1 a t E2) (hb : d = false → EG S E1 b u E2) : EG S E (.IfExp c a b pos) (if d = true then t else u) E2 := by
  cases d with
  | true => exact eg_ifT h (ha rfl)
  | false => exact eg_ifF h (hb rfl)
/-- and, or, not as values of truth -/
theorem eg_notV {a : Expr} {c : Bool} {pos : Pos} (h : EG S E a (.bl c) E1) : EG S E (.UnaryOp .Not a pos) (.bl (!c)) E1 := fun W Z H σ Q st k =>
  R.mk (t := tNotV (R S W a)) (fun X hX => pe_not (hX.pe a)) (h W Z H σ _ st fun v H1 Z1 g1 r1 => ⟨c, rep_bl.mp r1, k _ _ _ g1 (rep_bl.mpr rfl)⟩)
theorem eg_and1 {a : Expr} {c : T} {pos : Pos} (h : EG S E a c E1) : EG S E (.BoolOp .And [a] pos) c E1 := fun W Z H σ Q st k => R.mk (t := R S W a) (fun X hX => pe_one (hX.pe a)) (h W Z H σ _ st k)
theorem eg_or1 {a : Expr} {c : T} {pos : Pos} (h : EG S E a c E1) : EG S E (.BoolOp .Or [a] pos) c E1 := fun W Z H σ Q st k => R.mk (t := R S W a) (fun X hX => pe_one (hX.pe a)) (h W Z H σ _ st k)
theorem eg_andV {a b : Expr} {rest : List Expr} {c d : Bool} {pos : Pos} (h : EG S E a (.bl c) E) (h2 : c = true → EG S E (.BoolOp .And (b :: rest) pos) (.bl d) E) : EG S E (.BoolOp .And (a :: b :: rest) pos) (.bl (c && d)) E := fun W Z H σ Q st k => by
  refine R.mk (t := tAndV (R S W a) (R S W (.BoolOp .And (b :: rest) pos))) (fun X hX => pe_and (hX.pe a) (hX.pe _)) (h W Z H σ _ st fun v H1 Z1 g1 r1 => ⟨c, rep_bl.mp r1, ?_⟩)
  cases c with
  | true => exact iteT (h2 rfl W Z1 H1 σ _ g1.st fun v H2 Z2 g2 r2 => k v H2 Z2 (g1.trans g2) r2)
  | false => exact iteF (k _ _ _ g1 (rep_bl.mpr rfl))
theorem eg_orV {a b : Expr} {rest : List Expr} {c d : Bool} {pos : Pos} (h : EG S E a (.bl c) E) (h2 : c = false → EG S E (.BoolOp .Or (b :: rest) pos) (.bl d) E) : EG S E (.BoolOp .Or (a :: b :: rest) pos) (.bl (c || d)) E := fun W Z H σ Q st k => by
  refine R.mk (t := tOrV (R S W a) (R S W (.BoolOp .Or (b :: rest) pos))) (fun X hX => pe_or (hX.pe a) (hX.pe _)) (h W Z H σ _ st fun v H1 Z1 g1 r1 => ⟨c, rep_bl.mp r1, ?_⟩)
  cases c with
  | true => exact iteT (k _ _ _ g1 (rep_bl.mpr rfl))
  | false => exact iteF (h2 rfl W Z1 H1 σ _ g1.st fun v H2 Z2 g2 r2 => k v H2 Z2 (g1.trans g2) r2)
end
end Cw
end L2

set_option Elab.async false
set_option linter.all false
set_option maxRecDepth 100000
set_option maxHeartbeats 2000000
namespace L2
namespace Cw
open PySem PySem.Spec PyProof.Rows
/-! ### what is walked, targets -/
def RI (S : SS) (W : WX) (tg iter : Expr) : TI := fun σ H Rr => ∀ X, S.Has W X → ∀ pins s, Inv X pins σ H s →
  wpAny (model X.prog X.w) X.A (eval iter X.env) (fun v s1 => wpAny (model X.prog X.w) X.A (pyIter v) (PIE X pins σ tg Rr) X.xe s1) X.xe s
def RG (S : SS) (W : WX) (tg : Expr) : TG := fun v σ H Q => ∀ X, S.Has W X → ∀ pins s u, Inv X pins σ H s → RelV v u →
  wpAny (model X.prog X.w) X.A (assign tg X.env u) (fun _ s' => ∃ σ' H', Inv X pins σ' H' s' ∧ Q σ' H') X.xe s
/-- one condition more -/
def tick (X : Cx) (c : Expr) (r : Bool) : Sem (ForInStep Bool) := if r = true then do
    let ok ← isTrue c X.env (eval c X.env)
    pure (ForInStep.yield ok)
  else pure (ForInStep.yield r)
def RTs (S : SS) (W : WX) (ifs : List Expr) : TT := fun σ H Q => ∀ X, S.Has W X → ∀ pins s, Inv X pins σ H s →
  wpAny (model X.prog X.w) X.A (forIn ifs true (tick X)) (TP X pins σ Q) X.xe s
section
variable {S : SS} {W : WX} {X : Cx}
theorem SS.Has.pi (h : S.Has W X) (tg iter : Expr) : PI X tg iter (RI S W tg iter) := ⟨fun pins s σ H Rr I q => q X h pins s I⟩
theorem SS.Has.pg (h : S.Has W X) (tg : Expr) : PG X tg (RG S W tg) := ⟨fun pins s σ H v u Q I r q => q X h pins s u I r⟩
theorem SS.Has.pts (h : S.Has W X) (ifs : List Expr) : PTs X ifs (RTs S W ifs) := ⟨fun pins s σ H Q I q => q X h pins s I⟩
theorem RI.mk {tg iter : Expr} {wi : TI} {σ : St} {H : Hp} {Rr : It → Hp → Prop} (h : ∀ X, S.Has W X → PI X tg iter wi) (q : wi σ H Rr) : RI S W tg iter σ H Rr := fun X hX pins s I => (h X hX).run pins s σ H Rr I q
theorem RG.mk {tg : Expr} {g : TG} {v : V} {σ : St} {H : Hp} {Q : St → Hp → Prop} (h : ∀ X, S.Has W X → PG X tg g) (q : g v σ H Q) : RG S W tg v σ H Q := fun X hX pins s u I r => (h X hX).run pins s σ H v u Q I r q
end
/-- one item comes: x stands for t, perhaps as a new tuple -/
def Comes (K : PySem.W.Frag) (Z : Hp) (H : Hp) (t : T) (x : V) (H' : Hp) : Prop :=
  (H' = H ∧ Rep K Z t x) ∨ ∃ p us vs, t = .tup us ∧ x = .ref p ∧ H p = none ∧ H' = upd H p (.tup vs) ∧ Reps K Z us vs
/-- what iter walks: the items ts; at one state, and at all -/
def IGat (S : SS) (E : List Ent) (tg iter : Expr) (ts : List T) (E' : List Ent) (W : WX) (Z H : Hp) (σ : St) : Prop :=
  ∀ (Rr : It → Hp → Prop), (∀ J H' Z' G Y, Go S E σ Z H E' σ Z' H' → Walk J ts.length G Y → (∀ H2, Same Z' H2 → G H2) → (∀ i H1 x H2, Y i H1 x H2 → ∃ t, ts[i]? = some t ∧ Comes S.K Z' H1 t x H2) → Rr J H') → RI S W tg iter σ H Rr
def IG (S : SS) (E : List Ent) (tg iter : Expr) (ts : List T) (E' : List Ent) : Prop :=
  ∀ (W : WX) (Z H : Hp) (σ : St) (Rr : It → Hp → Prop), StOk S.K Z H σ E →
    (∀ J H' Z' G Y, Go S E σ Z H E' σ Z' H' → Walk J ts.length G Y → (∀ H2, Same Z' H2 → G H2) → (∀ i H1 x H2, Y i H1 x H2 → ∃ t, ts[i]? = some t ∧ Comes S.K Z' H1 t x H2) → Rr J H') → RI S W tg iter σ H Rr
/-- a store to a target: only slots of ws change -/
def AG (S : SS) (E : List Ent) (tg : Expr) (t : T) (E' : List Ent) (ws : List Nat) : Prop :=
  (∀ j, (∃ u, E'[j]? = some (.ow u)) → j ∉ ws ∧ E'[j]? = E[j]?) ∧ (∀ j ∈ ws, j ∉ S.pin) ∧
  ∀ (W : WX) (Z H : Hp) (σ : St) (v : V) (Q : St → Hp → Prop), StOk S.K Z H σ E → Rep S.K Z t v → (∀ σ', StOk S.K Z H σ' E' → (σ'.length = σ.length ∧ ∀ j, j ∉ ws → σ'[j]? = σ[j]?) → Q σ' H) → RG S W tg v σ H Q
def TGs (S : SS) (E : List Ent) (ifs : List Expr) (b : Bool) (E' : List Ent) : Prop :=
  ∀ (W : WX) (Z H : Hp) (σ : St) (Q : Bool → Hp → Prop), StOk S.K Z H σ E → (∀ H' Z', Go S E σ Z H E' σ Z' H' → Q b H') → RTs S W ifs σ H Q
section
variable {K : PySem.W.Frag} {Z Z' H H' : Hp} {σ : St} {E E1 E2 E3 : List Ent} {S : SS}
theorem IG.at' {tg iter : Expr} {ts : List T} {W : WX} (h : IG S E tg iter ts E1) (st : StOk S.K Z H σ E) : IGat S E tg iter ts E1 W Z H σ := fun Rr k => h W Z H σ Rr st k
theorem tgs_nil : TGs S E [] true E := fun W Z H σ Q st k X hX pins s I => pts_nil.run pins s σ H Q I (show tYes σ H Q from k _ _ (Go.refl st))
theorem tgs_one {c : Expr} {b : Bool} (h : TtG S E c b E1) : TGs S E [c] b E1 := fun W Z H σ Q st k X hX pins s I => (pts_one (hX.pt c)).run pins s σ H Q I (h W Z H σ Q st k)

theorem StOk.set {i : Nat} {t : T} {v : V} (st : StOk K Z H σ E) (r : Rep K Z t v) (hi : i < σ.length) : StOk K Z H (σ.set i (some v)) (E.set i (.sh t)) := by
  refine ⟨st.zh, st.nt, by rw [List.length_set, List.length_set]; exact st.len, fun j u h => ?_, fun j u h => ?_, fun j l a t' u h1 h2 h3 h4 => ?_⟩
  · by_cases hj : i = j
    · subst hj
      rw [List.getElem?_set_self (by rw [← st.len]; exact hi)] at h
      cases h
      exact ⟨v, List.getElem?_set_self hi, r⟩
    · rw [List.getElem?_set_ne hj] at h
      rw [List.getElem?_set_ne hj]
      exact st.sh j u h
  · by_cases hj : i = j
    · subst hj
      rw [List.getElem?_set_self (by rw [← st.len]; exact hi)] at h
      cases h
    · rw [List.getElem?_set_ne hj] at h
      rw [List.getElem?_set_ne hj]
      exact st.ow j u h
  · by_cases hj : i = j
    · subst hj
      rw [List.getElem?_set_self (by rw [← st.len]; exact hi)] at h1
      cases h1
    · by_cases hl : i = l
      · subst hl
        rw [List.getElem?_set_self (by rw [← st.len]; exact hi)] at h2
        cases h2
      · rw [List.getElem?_set_ne hj] at h1 h3
        rw [List.getElem?_set_ne hl] at h2 h4
        exact st.ds j l a t' u h1 h2 h3 h4
theorem ag_name {i : Nat} {x : Str} {pos : Pos} {t : T} (so : StoOk S i x) (hi : i < E.length) : AG S E (.Name x pos) t (E.set i (.sh t)) [i] := by
  refine ⟨fun j ⟨u, h⟩ => ?_, fun j hj => by simp at hj; subst hj; exact so.np, fun W Z H σ v Q st r k => ?_⟩
  · by_cases hj : i = j
    · subst hj; rw [List.getElem?_set_self hi] at h; cases h
    · exact ⟨by simp; exact fun e => hj e.symm, by rw [List.getElem?_set_ne hj]⟩
  refine RG.mk (g := gName i) (fun X hX => ?_) (k _ (st.set r (by rw [st.len]; exact hi)) ⟨List.length_set, fun j hj => by rw [List.getElem?_set_ne (by simp at hj; exact fun e => hj e.symm)]⟩)
  have hs := hX.sc
  obtain ⟨A, s0, H0, env, outer, stack, ex, pn, xe, rfl⟩ := hX.ex
  exact pg_name so.nd so.hN (by rw [hs]; exact so.loc) (by rw [hs]; exact so.hf)
/-- a row of targets -/
def AGs (S : SS) (E : List Ent) (tgs : List Expr) (ts : List T) (E' : List Ent) (ws : List Nat) : Prop :=
  (∀ j, (∃ u, E'[j]? = some (.ow u)) → j ∉ ws ∧ E'[j]? = E[j]?) ∧ (∀ j ∈ ws, j ∉ S.pin) ∧
  ∀ (W : WX) (Z H : Hp) (σ : St) (vs : List V) (Q : St → Hp → Prop), StOk S.K Z H σ E → Reps S.K Z ts vs → (∀ σ', StOk S.K Z H σ' E' → (σ'.length = σ.length ∧ ∀ j, j ∉ ws → σ'[j]? = σ[j]?) → Q σ' H) → ∀ X, S.Has W X → ∀ pins s us, Inv X pins σ H s → Vals vs us →
    wpAny (model X.prog X.w) X.A (assignInOrder ((assignEach tgs X.env).map (·.2)) us) (fun _ s' => ∃ σ' H', Inv X pins σ' H' s' ∧ Q σ' H') X.xe s
theorem ags_nil : AGs S E [] [] E [] := by
  refine ⟨fun j h => ⟨by simp, rfl⟩, fun j hj => by simp at hj, fun W Z H σ vs Q st r k X hX pins s us I rv => ?_⟩
  rw [r.unnil] at rv
  exact pgs_nil.run pins s σ H [] us Q I rv ⟨rfl, k _ st ⟨rfl, fun _ _ => rfl⟩⟩
theorem ags_cons {tg : Expr} {tgs : List Expr} {t : T} {ts : List T} {ws ws' : List Nat} (h1 : AG S E tg t E1 ws) (h2 : AGs S E1 tgs ts E2 ws')
    (hs : ∀ env, (assignEach (tg :: tgs) env).map (·.2) = assign tg env :: (assignEach tgs env).map (·.2) := by intro _; rfl) : AGs S E (tg :: tgs) (t :: ts) E2 (ws ++ ws') := by
  refine ⟨fun j h => ?_, fun j hj => ?_, fun W Z H σ vs Q st r k X hX pins s us I rv => ?_⟩
  · obtain ⟨a, b⟩ := h2.1 j h
    obtain ⟨c, d⟩ := h1.1 j (by rw [← b]; exact h)
    exact ⟨by simp [c, a], b.trans d⟩
  · rcases List.mem_append.mp hj with z | z
    · exact h1.2.1 j z
    · exact h2.2.1 j z
  · obtain ⟨v, vr, rfl, r1, r2⟩ := r.uncons
    refine (pgs_cons (t := RG S W tg) (u := fun vs σ H Q => ∀ pins s us, Inv X pins σ H s → Vals vs us → wpAny (model X.prog X.w) X.A (assignInOrder ((assignEach tgs X.env).map (·.2)) us) (fun _ s' => ∃ σ' H', Inv X pins σ' H' s' ∧ Q σ' H') X.xe s) (hX.pg tg) ⟨fun pins s σ H vs us Q I r q => q pins s us I r⟩ (hs _)).run pins s σ H _ us Q I rv ?_
    refine ⟨v, vr, rfl, h1.2.2 W Z H σ v _ st r1 fun σ1 st1 e1 pins' s' us' I' rv' => ?_⟩
    exact h2.2.2 W Z H σ1 vr Q st1 r2 (fun σ2 st2 e2 => k σ2 st2 ⟨e2.1.trans e1.1, fun j hj => by
      rw [List.mem_append, not_or] at hj
      rw [e2.2 j hj.2, e1.2 j hj.1]⟩) X hX pins' s' us' I' rv'
theorem ag_tup {tgs : List Expr} {t : T} {ts : List T} {ws : List Nat} {k : Nat} {pos : Pos} (q : t = .tup ts ∨ t = .wtup ts) (h : AGs S E tgs ts E1 ws) (hn : ∀ env, (assignEach tgs env).length = ts.length := by intro _; rfl) (hst : ∀ env, (assignEach tgs env).findIdx? (·.1) = none := by intro _; rfl) : AG S E (.Tuple tgs k pos) t E1 ws := by
  refine ⟨h.1, h.2.1, fun W Z H σ v Q st r k => ?_⟩
  have q' : ∃ a vs, v = .ref a ∧ SqT S.K H a vs ∧ Reps S.K Z ts vs := by
    rcases q with rfl | rfl
    · obtain ⟨a, vs, e, h1, h2⟩ := rep_tup.mp r
      exact ⟨a, vs, e, .inl (.inl (st.zh _ _ h1)), h2⟩
    · obtain ⟨a, vs, e, h1, h2⟩ := rep_wtup.mp r
      exact ⟨a, vs, e, Same_tup st.zh h1, h2⟩
  obtain ⟨a, vs, rfl, h1, h2⟩ := q'
  refine fun X hX => ?_
  have kk := hX.kk
  exact fun pins s u I r => (pg_tup (X := X) (t := fun vs σ H Q => ∀ pins s us, Inv X pins σ H s → Vals vs us → wpAny (model X.prog X.w) X.A (assignInOrder ((assignEach tgs X.env).map (·.2)) us) (fun _ s' => ∃ σ' H', Inv X pins σ' H' s' ∧ Q σ' H') X.xe s) (n := ts.length) hX.calm ⟨fun pins s σ H vs us Q I r q => q pins s us I r⟩ (hn _) (hst _)).run pins s σ H _ u Q I r
    ⟨a, vs, rfl, by rw [kk]; exact h1, h2.length, fun pins' s' us' I' rv' => h.2.2 W Z H σ vs Q st h2 k X hX pins' s' us' I' rv'⟩

/-! ### the walks -/
theorem ig_seq {tg iter : Expr} {t : T} {ts : List T} (q : SeqT t ts) (h : EG S E iter t E1) : IG S E tg iter ts E1 := fun W Z H σ Rr st k => by
  by_cases hL : (∃ us, t = .lst us) ∨ ∃ us, t = .slst us
  · refine RI.mk (wi := iList S.K (R S W iter)) (fun X hX => by rw [← hX.kk]; exact pi_list (hX.pe iter)) (h W Z H σ _ st fun v H1 Z1 g1 r1 => ?_)
    have r2 : ∃ a vs, v = .ref a ∧ SqL S.K Z1 a vs ∧ Reps S.K Z1 ts vs := by
      cases q with
      | tup => rcases hL with ⟨_, e⟩ | ⟨_, e⟩ <;> cases e
      | lst => obtain ⟨a, vs, e, h1, h2⟩ := rep_lst.mp r1; exact ⟨a, vs, e, .inl (.inl h1), h2⟩
      | wtup => rcases hL with ⟨_, e⟩ | ⟨_, e⟩ <;> cases e
      | slst => obtain ⟨a, vs, e, h1, h2⟩ := rep_slst.mp r1; exact ⟨a, vs, e, h1, h2⟩
    obtain ⟨a, vs, rfl, h1, h2⟩ := r2
    refine ⟨a, rfl, ⟨vs, g1.st.zh.seq h1⟩, k _ H1 Z1 _ _ g1 (by rw [← h2.length]; exact walk_list (xs := vs)) (fun H2 e => e.seq h1) fun i H2 x H3 y => ?_⟩
    obtain ⟨e, y⟩ := y
    obtain ⟨t, ht, rt⟩ := h2.get y
    exact ⟨t, ht, .inl ⟨e, rt⟩⟩
  · refine RI.mk (wi := iTup S.K (R S W iter)) (fun X hX => by rw [← hX.kk]; exact pi_tup (hX.pe iter)) (h W Z H σ _ st fun v H1 Z1 g1 r1 => ?_)
    have r2 : ∃ a vs, v = .ref a ∧ SqT S.K Z1 a vs ∧ Reps S.K Z1 ts vs := by
      cases q with
      | tup => obtain ⟨a, vs, e, h1, h2⟩ := rep_tup.mp r1; exact ⟨a, vs, e, .inl (.inl h1), h2⟩
      | lst => exact absurd (.inl ⟨_, rfl⟩) hL
      | wtup => obtain ⟨a, vs, e, h1, h2⟩ := rep_wtup.mp r1; exact ⟨a, vs, e, h1, h2⟩
      | slst => exact absurd (.inr ⟨_, rfl⟩) hL
    obtain ⟨a, vs, rfl, h1, h2⟩ := r2
    refine ⟨a, rfl, ⟨vs, Same_tup g1.st.zh h1⟩, k _ H1 Z1 _ _ g1 (by rw [← h2.length]; exact walk_tup (xs := vs)) (fun H2 e => Same_tup e h1) fun i H2 x H3 y => ?_⟩
    obtain ⟨e, y⟩ := y
    obtain ⟨t, ht, rt⟩ := h2.get y
    exact ⟨t, ht, .inl ⟨e, rt⟩⟩
/-- range(n) -/
def rangeT (lo : Int) (n : Nat) : List T := (List.range n).map fun i => T.int (lo + (i : Nat))
theorem rangeT_length {lo : Int} {n : Nat} : (rangeT lo n).length = n := by simp [rangeT]
theorem rangeT_get {lo : Int} {n i : Nat} (h : i < n) : (rangeT lo n)[i]? = some (.int (lo + (i : Nat))) := by simp [rangeT, h]
theorem ig_range {tg a : Expr} {n : Int} {p pos : Pos} (g : GlOk S "range") (hm : S.mg "range" = none) (h : EG S E a (.int n) E1) (hb : -(2 ^ 62) ≤ n ∧ n < 2 ^ 62) (he : ∀ env, starEach [a] env = (false, eval a env) :: starEach [] env := by intro _; rfl) : IG S E tg (.Call (.Name "range" p) [a] [] pos) (rangeT 0 n.toNat) E1 := fun W Z H σ Rr st k => by
  refine RI.mk (wi := iRng1 (RA S W [a])) (fun X hX => ?_) ((eas_cons h eas_nil he) W Z H σ _ st fun vs H1 Z1 g1 r1 => ?_)
  · have gg := g.at hX
    have pa := hX.pa [a]
    obtain ⟨A, s0, H0, env, outer, stack, ex, pn, xe, rfl⟩ := hX.ex
    exact pi_range1 gg hm pa (he _)
  · obtain ⟨v, rfl, h1⟩ := reps_one r1
    refine ⟨n, by rw [rep_int.mp h1], hb.1, hb.2, k _ H1 Z1 (fun _ => True) (fun i H x H' => (i < n.toNat) ∧ H' = H ∧ x = .int (0 + (i : Nat))) g1 (by rw [rangeT_length]; exact ⟨fun _ _ hi _ => hi, fun _ _ => Nat.le_refl _, fun _ _ _ _ hi _ y => ⟨hi, y⟩⟩) (fun _ _ => trivial) fun i H2 x H3 y => ?_⟩
    exact ⟨_, rangeT_get y.1, .inl ⟨y.2.1, rep_int.mpr y.2.2⟩⟩
theorem ig_range2 {tg a b : Expr} {m n : Int} {p pos : Pos} (g : GlOk S "range") (hm : S.mg "range" = none) (h : EG S E a (.int m) E1) (h2 : EG S E1 b (.int n) E2) (hb : (-(2 ^ 62) ≤ m ∧ m < 2 ^ 62) ∧ -(2 ^ 62) ≤ n ∧ n < 2 ^ 62) (he : ∀ env, starEach [a, b] env = (false, eval a env) :: starEach [b] env := by intro _; rfl) (he2 : ∀ env, starEach [b] env = (false, eval b env) :: starEach [] env := by intro _; rfl) : IG S E tg (.Call (.Name "range" p) [a, b] [] pos) (rangeT m (n - m).toNat) E2 := fun W Z H σ Rr st k => by
  refine RI.mk (wi := iRng2 (RA S W [a, b])) (fun X hX => ?_) ((eas_cons h (eas_cons h2 eas_nil he2) he) W Z H σ _ st fun vs H1 Z1 g1 r1 => ?_)
  · have gg := g.at hX
    have pa := hX.pa [a, b]
    obtain ⟨A, s0, H0, env, outer, stack, ex, pn, xe, rfl⟩ := hX.ex
    exact pi_range2 gg hm pa (by rw [he, he2]; rfl) (he2 _)
  · obtain ⟨v, w, rfl, h1, h2⟩ := reps_two r1
    refine ⟨m, n, by rw [rep_int.mp h1, rep_int.mp h2], ⟨hb.1.1, hb.1.2, hb.2.1, hb.2.2⟩, k _ H1 Z1 (fun _ => True) (fun i H x H' => (i < (n - m).toNat) ∧ H' = H ∧ x = .int (m + (i : Nat))) g1 (by rw [rangeT_length]; exact ⟨fun _ _ hi _ => hi, fun _ _ => Nat.le_refl _, fun _ _ _ _ hi _ y => ⟨hi, y⟩⟩) (fun _ _ => trivial) fun i H2 x H3 y => ?_⟩
    exact ⟨_, rangeT_get y.1, .inl ⟨y.2.1, rep_int.mpr y.2.2⟩⟩
end
end Cw
end L2

set_option Elab.async false
set_option linter.all false
set_option maxRecDepth 100000
set_option maxHeartbeats 2000000
namespace L2
namespace Cw
open PySem PySem.Spec PyProof.Rows
/-- in a comprehension's block -/
def SS.blk (S : SS) (scope : Scope) : SS := { S with sc := relS scope S.sc, fnb := fun x => scope.names.lookup x == some .cell, pin := [] }
abbrev WX0 : WX := fun _ _ _ _ => False
theorem SS.Has.blk {S : SS} {W : WX} {X : Cx} (h : S.Has W X) (scope : Scope) (s : Shared) (H : Hp) (C : Addr) (cl : List (Str × Addr)) (fp : List Addr) : (S.blk scope).Has WX0 (X.blk s H scope (compEnvC scope cl C X.env) fp) := by
  have hs := h.sc
  have hr := h.room
  obtain ⟨A, s0, H0, env, outer, stack, ex, pn, xe, rfl⟩ := h.ex
  refine ⟨⟨A, s, H, compEnvC scope cl C env, stack, stack, fp, [], fun _ _ => False, rfl⟩, hr, ?_, takes0, PassesOwn.never⟩
  show relS scope env.scope = relS scope S.sc
  rw [show env.scope = S.sc from hs]
def wipeE (E : List Ent) : List Nat → List Ent
  | [] => E
  | v :: vs => (wipeE E vs).set v .no
theorem wipeE_length (E : List Ent) : ∀ vs, (wipeE E vs).length = E.length
  | [] => rfl
  | v :: vs => by unfold wipeE; rw [List.length_set, wipeE_length E vs]
theorem wipeE_out {E : List Ent} {j : Nat} : ∀ {vs : List Nat}, j ∉ vs → (wipeE E vs)[j]? = E[j]?
  | [], _ => rfl
  | v :: vs, h => by
    have h1 : v ≠ j := fun e => h (by rw [e]; exact List.mem_cons_self)
    have h2 : j ∉ vs := fun m => h (List.mem_cons_of_mem _ m)
    unfold wipeE
    rw [List.getElem?_set_ne h1]
    exact wipeE_out h2
theorem wipeE_in {E : List Ent} {j : Nat} : ∀ {vs : List Nat}, j ∈ vs → (wipeE E vs)[j]? = none ∨ (wipeE E vs)[j]? = some .no
  | v :: vs, h => by
    by_cases e : v = j
    · subst e
      unfold wipeE
      by_cases hl : v < (wipeE E vs).length
      · exact .inr (List.getElem?_set_self hl)
      · exact .inl (List.getElem?_eq_none (by rw [List.length_set]; omega))
    · unfold wipeE
      rw [List.getElem?_set_ne e]
      exact wipeE_in ((List.mem_cons.mp h).resolve_left (Ne.symm e))
theorem wipe_in {σ : St} {j : Nat} : ∀ {vs : List Nat}, j ∈ vs → (wipe σ vs)[j]? = none ∨ (wipe σ vs)[j]? = some none
  | v :: vs, h => by
    by_cases e : v = j
    · subst e
      unfold wipe
      by_cases hl : v < (wipe σ vs).length
      · exact .inr (List.getElem?_set_self hl)
      · exact .inl (List.getElem?_eq_none (by rw [List.length_set]; omega))
    · unfold wipe
      rw [List.getElem?_set_ne e]
      exact wipe_in ((List.mem_cons.mp h).resolve_left (Ne.symm e))
section
variable {K : PySem.W.Frag} {Z Z' H H' : Hp} {σ σ' : St} {E E' E1 E2 E3 : List Ent} {S : SS}
theorem StOk.wiped (st : StOk K Z H σ E) (vs : List Nat) : StOk K Z H (wipe σ vs) (wipeE E vs) := by
  have out : ∀ {j : Nat} {en : Ent}, (wipeE E vs)[j]? = some en → en ≠ .no → j ∉ vs ∧ E[j]? = some en := fun {j en} h hn => by
    by_cases hj : j ∈ vs
    · rcases wipeE_in hj (E := E) with z | z <;> rw [z] at h <;> cases h
      exact absurd rfl hn
    · exact ⟨hj, by rw [wipeE_out hj] at h; exact h⟩
  refine ⟨st.zh, st.nt, by rw [wipe_length, wipeE_length]; exact st.len, fun j u h => ?_, fun j u h => ?_, fun j l a t' u h1 h2 h3 h4 => ?_⟩
  · obtain ⟨h1, h2⟩ := out h (by intro z; cases z)
    rw [wipe_out h1]
    exact st.sh j u h2
  · obtain ⟨h1, h2⟩ := out h (by intro z; cases z)
    rw [wipe_out h1]
    exact st.ow j u h2
  · obtain ⟨a1, a2⟩ := out h1 (by intro z; cases z)
    obtain ⟨b1, b2⟩ := out h2 (by intro z; cases z)
    rw [wipe_out a1] at h3
    rw [wipe_out b1] at h4
    exact st.ds j l a t' u a2 b2 h3 h4
/-- back in the def's slots: what the block's names held is as it was -/
theorem StOk.unwiped {vs : List Nat} (st : StOk K Z' H' (wipe σ vs) (wipeE E' vs)) (so : StOk K Z H σ E) (zz : Same Z Z') (ow : ∀ j ∈ vs, E'[j]? = E[j]? ∧ ∀ t, E[j]? ≠ some (.ow t)) (hl : E'.length = E.length) : StOk K Z' H' σ E' := by
  refine ⟨st.zh, st.nt, by rw [so.len, hl], fun j u h => ?_, fun j u h => ?_, fun j l a t' u h1 h2 h3 h4 => ?_⟩
  · by_cases hj : j ∈ vs
    · rw [(ow j hj).1] at h
      obtain ⟨v, h1, h2⟩ := so.sh j u h
      exact ⟨v, h1, h2.mono zz⟩
    · have q := st.sh j u (by rw [wipeE_out hj]; exact h)
      rw [wipe_out hj] at q
      exact q
  · by_cases hj : j ∈ vs
    · rw [(ow j hj).1] at h
      exact absurd h ((ow j hj).2 u)
    · have q := st.ow j u (by rw [wipeE_out hj]; exact h)
      rw [wipe_out hj] at q
      exact q
  · have o1 : j ∉ vs := fun hj => by rw [(ow j hj).1] at h1; exact (ow j hj).2 t' h1
    have o2 : l ∉ vs := fun hj => by rw [(ow l hj).1] at h2; exact (ow l hj).2 u h2
    exact st.ds j l a t' u (by rw [wipeE_out o1]; exact h1) (by rw [wipeE_out o2]; exact h2) (by rw [wipe_out o1]; exact h3) (by rw [wipe_out o2]; exact h4)
theorem StOk.len_eq (st : StOk K Z H σ E) (st' : StOk K Z' H' σ E') : E'.length = E.length := by rw [← st'.len, ← st.len]
theorem wipe_congr : ∀ {vs : List Nat} {σ σ' : St}, σ'.length = σ.length → (∀ j, j ∉ vs → σ'[j]? = σ[j]?) → wipe σ' vs = wipe σ vs := fun {vs σ σ'} hl h => by
  apply List.ext_getElem?
  intro j
  by_cases hj : j ∈ vs
  · by_cases hlt : j < σ.length
    · have a : (wipe σ' vs)[j]? ≠ none := fun z => by
        rw [List.getElem?_eq_none_iff, wipe_length, hl] at z; omega
      have b : (wipe σ vs)[j]? ≠ none := fun z => by
        rw [List.getElem?_eq_none_iff, wipe_length] at z; omega
      rcases wipe_in hj (σ := σ') with z | z
      · exact absurd z a
      · rcases wipe_in hj (σ := σ) with y | y
        · exact absurd y b
        · rw [z, y]
    · rw [List.getElem?_eq_none (by rw [wipe_length, hl]; omega), List.getElem?_eq_none (by rw [wipe_length]; omega)]
  · rw [wipe_out hj, wipe_out hj, h j hj]
theorem wipe_wipe {vs : List Nat} : wipe (wipe σ vs) vs = wipe σ vs := wipe_congr (wipe_length _ _) fun j hj => wipe_out hj
/-- laid beside: the new object at D is not ours yet -/
structure Beside (K : PySem.W.Frag) (B : Addr → Prop) (Z1 H1 : Hp) (D : Addr) (o : HO) (E' : List Ent) (σ' : St) (Z H : Hp) : Prop where
  st : StOk K Z H σ' E'
  step : Step (fun b => B b ∨ b = D) Z1 H1 Z H
  ow : ∀ b, Own σ' E' b → B b ∨ H1 b = none
  nd : ¬ Own σ' E' D
  zd : Z D = none
  hd : H D = some o
theorem Step.mono {B B' : Addr → Prop} {Z1 H1 : Hp} (s : Step B Z1 H1 Z H) (h : ∀ b, B b → B' b) : Step B' Z1 H1 Z H :=
  ⟨s.zz, fun b o e nb => s.keep b o e fun z => nb (h b z), fun b o e => by
    rcases s.new b o e with z | z | z
    · exact .inl z
    · exact .inr (.inl z)
    · exact .inr (.inr (h b z))⟩
theorem Beside.start {D : Addr} {o : HO} (st : StOk K Z H σ E) (hD : H D = none) (ho : ∀ ps, o ≠ .tbl ps) : Beside K (Own σ E) Z H D o E σ Z (upd H D o) := by
  have zD : Z D = none := by
    cases q : Z D with
    | none => rfl
    | some u => rw [st.zh _ _ q] at hD; cases hD
  refine ⟨⟨fun b u e => ?_, st.nt, st.len, st.sh, fun i t h => ?_, st.ds⟩, ⟨Same.refl _, fun b u e nb => ?_, fun b u e => .inl e⟩, fun b h => .inl h, fun ⟨i, t, h, e⟩ => ?_, zD, upd_same⟩
  · rw [upd_ne (ne_of_none (st.zh b u e) hD)]; exact st.zh b u e
  · obtain ⟨a, u, h1, h2, h3, h4⟩ := st.ow i t h
    exact ⟨a, u, h1, by rw [upd_ne (ne_of_none h2 hD)]; exact h2, h3, h4⟩
  · rw [upd_ne (ne_of_none e hD)]; exact e
  · obtain ⟨a, u, h1, h2, h3, h4⟩ := st.ow i t h
    rw [e] at h1; cases h1
    rw [h2] at hD; cases hD
section
variable {B : Addr → Prop} {D : Addr} {o o' : HO} {Z1 H1 : Hp} {σ1 σ2 : St}
theorem Beside.go {S' : SS} (b : Beside K B Z1 H1 D o E1 σ1 Z H) (g : Go S' E1 σ1 Z H E2 σ2 Z' H') (hK : S'.K = K) (ho : ∀ ps, o ≠ .tbl ps) : Beside K B Z1 H1 D o E2 σ2 Z' H' := by
  have hd' : H' D = some o := g.step.keep D o b.hd b.nd
  have nd' : ¬ Own σ2 E2 D := fun z => by
    rcases g.ow D z with y | y
    · exact b.nd y
    · rw [b.hd] at y; cases y
  refine ⟨by rw [← hK]; exact g.st, b.step.trans g.step fun c hc => ?_, fun c hc => ?_, nd', ?_, hd'⟩
  · rcases b.ow c hc with y | y
    · exact .inl (.inl y)
    · exact .inr y
  · rcases g.ow c hc with y | y
    · exact b.ow c y
    · rcases b.step.there y with z | z
      · exact .inr z
      · rcases z with z | z
        · exact .inl z
        · subst z; rw [b.hd] at y; cases y
  · cases q : Z' D with
    | none => rfl
    | some u =>
      rcases g.step.new D u q with y | y | y
      · rw [b.zd] at y; cases y
      · rw [b.hd] at y; cases y
      · exact absurd y b.nd
theorem Beside.slots (b : Beside K B Z1 H1 D o E1 σ1 Z H) (st : StOk K Z H σ2 E2) (h : ∀ c, Own σ2 E2 c → Own σ1 E1 c) : Beside K B Z1 H1 D o E2 σ2 Z H :=
  ⟨st, b.step, fun c hc => b.ow c (h c hc), fun z => b.nd (h D z), b.zd, b.hd⟩
theorem Own.wiped {vs : List Nat} {c : Addr} (h : Own (wipe σ vs) (wipeE E vs) c) : Own σ E c := by
  obtain ⟨i, t, h1, h2⟩ := h
  by_cases hj : i ∈ vs
  · rcases wipeE_in hj (E := E) with z | z <;> rw [z] at h1 <;> cases h1
  · rw [wipeE_out hj] at h1; rw [wipe_out hj] at h2; exact ⟨i, t, h1, h2⟩
theorem Beside.write (b : Beside K B Z1 H1 D o E1 σ1 Z H) : Beside K B Z1 H1 D o' E1 σ1 Z (upd H D o') := by
  have ne : ∀ c u, Z c = some u → c ≠ D := fun c u e z => by subst z; rw [b.zd] at e; cases e
  refine ⟨⟨fun c u e => by rw [upd_ne (ne c u e)]; exact b.st.zh c u e, b.st.nt, b.st.len, b.st.sh, fun i t h => ?_, b.st.ds⟩, ⟨b.step.zz, fun c u e nb => ?_, fun c u e => b.step.new c u e⟩, b.ow, b.nd, b.zd, upd_same⟩
  · obtain ⟨a, u, h1, h2, h3, h4⟩ := b.st.ow i t h
    refine ⟨a, u, h1, ?_, h3, h4⟩
    rw [upd_ne (fun z => b.nd ⟨i, t, h, by rw [← z]; exact h1⟩)]; exact h2
  · rw [upd_ne (fun z => nb (.inr z))]; exact b.step.keep c u e nb
/-- the new object is frozen -/
theorem Beside.freeze (b : Beside K B Z1 H1 D o E1 σ1 Z H) (hD : H1 D = none) (ho : ∀ ps, o ≠ .tbl ps) : Step B Z1 H1 (upd Z D o) H ∧ StOk K (upd Z D o) H σ1 E1 := by
  have zz : Same Z (upd Z D o) := fun c u e => by rw [upd_ne (fun z => by subst z; rw [b.zd] at e; cases e)]; exact e
  refine ⟨⟨b.step.zz.trans zz, fun c u e nb => b.step.keep c u e fun z => ?_, fun c u e => ?_⟩, ⟨fun c u e => ?_, fun c ps e => ?_, b.st.len, fun i t h => ?_, fun i t h => ?_, b.st.ds⟩⟩
  · rcases z with z | z
    · exact nb z
    · subst z; rw [hD] at e; cases e
  · by_cases hc : c = D
    · subst hc; exact .inr (.inl hD)
    · rw [upd_ne hc] at e
      rcases b.step.new c u e with z | z | z
      · exact .inl z
      · exact .inr (.inl z)
      · rcases z with z | z
        · exact .inr (.inr z)
        · exact absurd z hc
  · by_cases hc : c = D
    · subst hc; rw [upd_same] at e; rw [← e]; exact b.hd
    · rw [upd_ne hc] at e; exact b.st.zh c u e
  · by_cases hc : c = D
    · subst hc; rw [upd_same] at e; exact ho ps (Option.some.inj e)
    · rw [upd_ne hc] at e; exact b.st.nt c ps e
  · obtain ⟨v, h1, h2⟩ := b.st.sh i t h
    exact ⟨v, h1, h2.mono zz⟩
  · obtain ⟨a, u, h1, h2, h3, h4⟩ := b.st.ow i t h
    exact ⟨a, u, h1, h2, by rw [upd_ne (fun z => b.nd ⟨i, t, h, by rw [← z]; exact h1⟩)]; exact h3, h4.mono zz⟩
end
end
end Cw
end L2

set_option Elab.async false
set_option linter.all false
set_option maxRecDepth 100000
set_option maxHeartbeats 2000000
namespace L2
namespace Cw
open PySem PySem.Spec PyProof.Rows
def NoOw (E : List Ent) (vs : List Nat) : Prop := ∀ j ∈ vs, ∀ t, E[j]? ≠ some (.ow t)
/-- the turns of a comprehension: the items, what is kept of them -/
inductive LcTurns (S : SS) (vs : List Nat) (tg : Expr) (ifs : List Expr) (elt : Expr) : List Ent → List T → List T → List Ent → Prop
  | nil {E} : LcTurns S vs tg ifs elt E [] [] E
  | skip {E Ea Eb E1 E' t ts us ws} (ha : AG S (wipeE E vs) tg t Ea ws) (hw : ∀ j ∈ ws, j ∈ vs) (ht : TGs S Ea ifs false Eb) (hb : wipeE Eb vs = wipeE E1 vs) (hf : ∀ j ∈ vs, E1[j]? = E[j]?) (r : LcTurns S vs tg ifs elt E1 ts us E') : LcTurns S vs tg ifs elt E (t :: ts) us E'
  | take {E Ea Eb Ec E1 E' t ts y us ws} (ha : AG S (wipeE E vs) tg t Ea ws) (hw : ∀ j ∈ ws, j ∈ vs) (ht : TGs S Ea ifs true Eb) (he : EG S Eb elt y Ec) (hb : wipeE Ec vs = wipeE E1 vs) (hf : ∀ j ∈ vs, E1[j]? = E[j]?) (r : LcTurns S vs tg ifs elt E1 ts us E') : LcTurns S vs tg ifs elt E (t :: ts) (y :: us) E'
section
variable {K : PySem.W.Frag} {Z Z' H H' : Hp} {σ σ' : St} {E E' E1 E2 E3 : List Ent} {S : SS}
theorem LcTurns.le {vs : List Nat} {tg elt : Expr} {ifs : List Expr} {ts us : List T} (r : LcTurns S vs tg ifs elt E ts us E') : us.length ≤ ts.length := by
  induction r with
  | nil => exact Nat.le_refl _
  | skip _ _ _ _ _ _ ih => exact Nat.le_trans ih (Nat.le_succ _)
  | take _ _ _ _ _ _ _ ih => exact Nat.succ_le_succ ih
/-- what comes is laid and frozen -/
theorem Comes.go {S' : SS} {t : T} {x : V} {Zs : Hp} (c : Comes S.K Zs H t x H') (zs : Same Zs Z) (hK : S'.K = S.K) (st : StOk S'.K Z H σ E) : ∃ Z', Go S' E σ Z H E σ Z' H' ∧ Rep S'.K Z' t x := by
  rcases c with ⟨rfl, r⟩ | ⟨p, us, vs, rfl, rfl, hp, rfl, r⟩
  · exact ⟨Z, Go.refl st, by rw [hK]; exact r.mono zs⟩
  · have g := Go.alloc (S := S') st (o := .tup vs) hp (by intro ps q; cases q)
    exact ⟨_, g, rep_tup.mpr ⟨p, vs, rfl, upd_same, by rw [hK]; exact (r.mono zs).mono g.step.zz⟩⟩

/-- a turn of a loop that fills the list at D: behind it Nx -/
def Fills (g : TG) (tt : TT) (te : TE) (vs : List Nat) (σ : St) (D : Addr) (Nx : Hp → Prop) (x : V) (H : Hp) : Prop :=
  g x (L2.wipe σ vs) H fun σ2 H2 => L2.wipe σ2 vs = L2.wipe σ vs ∧ tt σ2 H2 fun b H3 => if b = true then (te σ2 H3 fun y H4 => ∃ acc, H4 D = some (.lst acc) ∧ acc.length < sizeLine ∧ Nx (upd H4 D (.lst (acc ++ [y])))) else Nx H3
/-- a loop that fills a list, from any start -/
theorem lc_from {J : It} {n : Nat} {G : Hp → Prop} {Y : Nat → Hp → V → Hp → Prop} (w : Walk J n G Y) {g : TG} {tt : TT} {te : TE} {vs : List Nat} {σ : St} {H0 : Hp} {D : Addr} {Qd : Hp → Prop} (Pv : Nat → Hp → Prop) (h0 : Pv 0 H0) (hG : ∀ i H, i ≤ n → Pv i H → G H)
    (hs : ∀ i x H H', i < n → Pv i H → Y i H x H' → Fills g tt te vs σ D (Pv (i + 1)) x H') (hd : ∀ H, Pv n H → Qd H) :
    ∃ W : Nat → Nat → Hp → Prop, (∃ m, W 0 m H0) ∧ ∀ i m H, W i m H →
      (J.stop i H ∧ Qd H) ∨ (J.go i H ∧ ∃ Nx : Hp → Prop, (∀ H', Nx H' → ∃ m', m' < m ∧ W (i + 1) m' H') ∧ ∀ x H', J.yld i H x H' → Fills g tt te vs σ D Nx x H') := by
  refine ⟨fun i m H => i + m = n ∧ Pv i H, ⟨n, Nat.zero_add n, h0⟩, fun i m H hm => ?_⟩
  have hi : i ≤ n := hm.1 ▸ Nat.le_add_right i m
  rcases Nat.lt_or_eq_of_le hi with lt | e
  · refine .inr ⟨w.goes i H lt (hG i H hi hm.2), Pv (i + 1), fun H' p' => ⟨m - 1, ?_, ?_, p'⟩, fun x H' y => ?_⟩
    · have := hm.1; omega
    · have := hm.1; omega
    · exact hs i x H H' lt hm.2 (w.yields i H x H' lt (hG i H hi hm.2) y)
  · rw [e] at hm ⊢
    exact .inl ⟨w.stops H (hG n H (Nat.le_refl n) hm.2), hd H hm.2⟩
/-- the state ahead of turn i -/
def LcSt (S' : SS) (B : Addr → Prop) (Z1 H1 : Hp) (D : Addr) (vs : List Nat) (tg : Expr) (ifs : List Expr) (elt : Expr) (σ : St) (Z0 : Hp) (pre : List T) (E1 : List Ent) (ts us : List T) (E2 : List Ent) (i : Nat) (H2 : Hp) : Prop :=
  ∃ (Ei : List Ent) (acc : List V) (got rest : List T) (Z2 : Hp), LcTurns S' vs tg ifs elt Ei (ts.drop i) rest E2 ∧ got ++ rest = us ∧ (∀ j ∈ vs, Ei[j]? = E1[j]?) ∧ got.length ≤ i ∧
    Reps S'.K Z2 (pre ++ got) acc ∧ Beside S'.K B Z1 H1 D (.lst acc) (wipeE Ei vs) (L2.wipe σ vs) Z2 H2 ∧ Same Z0 Z2
theorem lc_turns {S' : SS} {B : Addr → Prop} {Z1 H1 Z0 H0 : Hp} {D : Addr} {pre ts us : List T} {acc0 : List V} {tg elt : Expr} {ifs : List Expr} {vs : List Nat} {J : It} {G : Hp → Prop} {Y : Nat → Hp → V → Hp → Prop} {Qd : Hp → Prop}
    (b0 : Beside S'.K B Z1 H1 D (.lst acc0) E1 σ Z0 H0) (r0 : Reps S'.K Z0 pre acc0) (w : Walk J ts.length G Y) (hG : ∀ H2, Same Z0 H2 → G H2) (hY : ∀ i H1 x H2, Y i H1 x H2 → ∃ t, ts[i]? = some t ∧ Comes S'.K Z0 H1 t x H2)
    (r : LcTurns S' vs tg ifs elt E1 ts us E2) (hz : pre.length + ts.length ≤ 16777216)
    (hd : ∀ Z H acc, Beside S'.K B Z1 H1 D (.lst acc) (wipeE E2 vs) (L2.wipe σ vs) Z H → Reps S'.K Z (pre ++ us) acc → (∀ j ∈ vs, E2[j]? = E1[j]?) → Same Z0 Z → Qd H) :
    ∃ W : Nat → Nat → Hp → Prop, (∃ m, W 0 m H0) ∧ ∀ i m H, W i m H →
      (J.stop i H ∧ Qd H) ∨ (J.go i H ∧ ∃ Nx : Hp → Prop, (∀ H', Nx H' → ∃ m', m' < m ∧ W (i + 1) m' H') ∧ ∀ x H', J.yld i H x H' → RG S' WX0 tg x (L2.wipe σ vs) H' fun σ2 H2 => L2.wipe σ2 vs = L2.wipe σ vs ∧ RTs S' WX0 ifs σ2 H2 fun b H3 =>
        if b = true then R S' WX0 elt σ2 H3 fun y H4 => ∃ acc, H4 D = some (.lst acc) ∧ acc.length < sizeLine ∧ Nx (upd H4 D (.lst (acc ++ [y]))) else Nx H3) := by
  have hsl : pre.length + ts.length ≤ sizeLine := by rw [sizeLine_eq]; exact hz
  refine lc_from (g := RG S' WX0 tg) (tt := RTs S' WX0 ifs) (te := R S' WX0 elt) (vs := vs) (σ := σ) (D := D) w (LcSt S' B Z1 H1 D vs tg ifs elt σ Z0 pre E1 ts us E2) ?_ ?_ ?_ ?_
  · exact ⟨E1, acc0, [], us, Z0, r, rfl, fun _ _ => rfl, Nat.le_refl _, by rw [List.append_nil]; exact r0, b0.slots (b0.st.wiped vs) (fun c h => h.wiped), Same.refl _⟩
  · rintro i H2 _ ⟨Ei, acc, got, rest, Z2, _, _, _, _, _, b, zz⟩
    exact hG H2 (zz.trans b.st.zh)
  · rintro i x H2 H3 hlt ⟨Ei, acc, got, rest, Z2, rt, hgr, hvs, hgl, racc, b, zz⟩ y
    obtain ⟨t, ht, cm⟩ := hY i H2 x H3 y
    have hlt' : i < ts.length := hlt
    have ed : ts.drop i = t :: ts.drop (i + 1) := drop_at ht
    rw [ed] at rt
    obtain ⟨Z3, g3, r3⟩ := cm.go (S := S') (S' := S') (zs := zz) rfl b.st
    have b3 := b.go g3 rfl (by intro ps q; cases q)
    have racc3 := racc.mono g3.step.zz
    have zz3 := zz.trans g3.step.zz
    -- behind the target
    have tgt : ∀ {Ea : List Ent} {ws : List Nat} (Q : St → Hp → Prop), AG S' (wipeE Ei vs) tg t Ea ws → (∀ j ∈ ws, j ∈ vs) → (∀ σ2, Beside S'.K B Z1 H1 D (.lst acc) Ea σ2 Z3 H3 → L2.wipe σ2 vs = L2.wipe σ vs → Q σ2 H3) → RG S' WX0 tg x (L2.wipe σ vs) H3 Q := by
      intro Ea ws Q ha hw kq
      refine ha.2.2 WX0 Z3 H3 (L2.wipe σ vs) x _ g3.st r3 fun σ2 st2 e2 => kq σ2 ?_ ?_
      · refine b3.slots st2 fun c ⟨j, u, h1, h2⟩ => ?_
        obtain ⟨a1, a2⟩ := ha.1 j ⟨u, h1⟩
        exact ⟨j, u, by rw [← a2]; exact h1, by rw [← e2.2 j a1]; exact h2⟩
      · rw [wipe_congr (σ := L2.wipe σ vs) e2.1 fun j hj => e2.2 j fun z => hj (hw j z), wipe_wipe]
    -- back at the turn's end
    have fin : ∀ {Ec E1' : List Ent} {σ2 : St} {Z4 H4 : Hp} {acc' : List V} {got' rest' : List T}, Beside S'.K B Z1 H1 D (.lst acc') Ec σ2 Z4 H4 → L2.wipe σ2 vs = L2.wipe σ vs → wipeE Ec vs = wipeE E1' vs → (∀ j ∈ vs, E1'[j]? = Ei[j]?) → LcTurns S' vs tg ifs elt E1' (ts.drop (i + 1)) rest' E2 → got' ++ rest' = us → got'.length ≤ i + 1 → Reps S'.K Z4 (pre ++ got') acc' → Same Z3 Z4 →
        LcSt S' B Z1 H1 D vs tg ifs elt σ Z0 pre E1 ts us E2 (i + 1) H4 := by
      intro Ec E1' σ2 Z4 H4 acc' got' rest' bb ew we hf rt' hgr' hgl' ra z4
      refine ⟨E1', acc', got', rest', Z4, rt', hgr', fun j hj => (hf j hj).trans (hvs j hj), hgl', ra, ?_, zz3.trans z4⟩
      have := bb.slots (bb.st.wiped vs) fun c h => h.wiped
      rw [ew, we] at this
      exact this
    cases rt with
    | skip ha hw ht' hb hf rt' =>
      refine tgt _ ha hw fun σ2 b4 ew => ⟨ew, ht' WX0 Z3 H3 σ2 _ b4.st fun H4 Z4 g4 => iteF ?_⟩
      have b5 := b4.go g4 rfl (by intro ps q; cases q)
      exact fin b5 ew hb hf rt' hgr (Nat.le_succ_of_le hgl) (racc3.mono g4.step.zz) g4.step.zz
    | @take _ Ea Eb Ec E1' _ _ _ yy us2 ws ha hw ht' he hb hf rt' =>
      refine tgt _ ha hw fun σ2 b4 ew => ⟨ew, ht' WX0 Z3 H3 σ2 _ b4.st fun H4 Z4 g4 => iteT ?_⟩
      have b5 := b4.go g4 rfl (by intro ps q; cases q)
      refine he WX0 Z4 H4 σ2 _ b5.st fun y H5 Z5 g5 r5 => ?_
      have b6 := b5.go g5 rfl (by intro ps q; cases q)
      have ra6 := (racc3.mono g4.step.zz).mono g5.step.zz
      refine ⟨acc, b6.hd, ?_, fin (got' := got ++ [yy]) (b6.write) ew hb hf rt' (by rw [List.append_assoc]; exact hgr) (by rw [List.length_append]; exact Nat.succ_le_succ hgl) (by rw [← List.append_assoc]; exact ra6.append (.cons r5 .nil)) (g4.step.zz.trans g5.step.zz)⟩
      rw [ra6.length, List.length_append]
      omega
  · rintro H2 ⟨Ei, acc, got, rest, Z2, rt, hgr, hvs, hgl, racc, b, zz⟩
    rw [List.drop_length] at rt
    cases rt with
    | nil =>
      rw [List.append_nil] at hgr
      subst hgr
      exact hd Z2 H2 acc b racc hvs zz
/-- the list made is frozen, the slots as they were -/
theorem lc_end {B : Addr → Prop} {Z1 H1 Z2 H2 : Hp} {D : Addr} {acc : List V} {us : List T} {vs : List Nat} {Q : VK} {W : WX} (hD : H1 D = none) (g1 : Go S E σ Z H E1 σ Z1 H1) (no : NoOw E1 vs) (b : Beside S.K (Own σ E1) Z1 H1 D (.lst acc) (wipeE E2 vs) (L2.wipe σ vs) Z2 H2) (racc : Reps S.K Z2 us acc) (hvs : ∀ j ∈ vs, E2[j]? = E1[j]?)
    (k : ∀ v H' Z', Go S E σ Z H E2 σ Z' H' → Rep S.K Z' (.lst us) v → Q v H') : Q (.ref D) H2 := by
  have st1 := g1.st
  obtain ⟨s1, s2⟩ := b.freeze hD (by intro ps q; cases q)
  have s3 := s2.unwiped (E := E1) st1 s1.zz (fun j hj => ⟨hvs j hj, no j hj⟩) (by have a := s2.len; have c := st1.len; rw [wipe_length, wipeE_length] at a; omega)
  refine k (.ref D) H2 (upd Z2 D (.lst acc)) (g1.trans ⟨s1, s3, fun c ⟨j, u, h1, h2⟩ => ?_, fun _ _ => rfl⟩) (rep_lst.mpr ⟨D, acc, rfl, upd_same, racc.mono fun c u e => ?_⟩)
  · have hj : j ∉ vs := fun hj => by rw [hvs j hj] at h1; exact no j hj u h1
    exact b.ow c ⟨j, u, by rw [wipeE_out hj]; exact h1, by rw [wipe_out hj]; exact h2⟩
  · rw [upd_ne (fun z => by subst z; rw [b.zd] at e; cases e)]; exact e
theorem lc_read {tg iter elt : Expr} {ifs : List Expr} {scope : Scope} {vs : List Nat} {ts us : List T} (no : NoOw E1 vs) (r : LcTurns (S.blk scope) vs tg ifs elt E1 ts us E2) (hz : ts.length ≤ 16777216)
    (W : WX) (Z H : Hp) (σ : St) (Q : VK) (hi : IGat S E tg iter ts E1 W Z H σ) (k : ∀ v H' Z', Go S E σ Z H E2 σ Z' H' → Rep S.K Z' (.lst us) v → Q v H') :
    tLc (RI S W tg iter) (RG (S.blk scope) WX0 tg) (RTs (S.blk scope) WX0 ifs) (R (S.blk scope) WX0 elt) vs σ H Q := by
  refine hi _ fun J H1 Z1 G Y g1 w hG hY D hD => ?_
  exact lc_turns (S' := S.blk scope) (pre := []) (Beside.start g1.st hD (by intro ps q; cases q)) .nil w hG hY r (by simpa using hz) fun Z2 H2 acc b ra hvs _ => lc_end (W := W) (B := Own σ E1) hD g1 no b ra hvs k
end
/-! ### two clauses -/
inductive Lc2Turns (S : SS) (vs vs1 : List Nat) (tg : Expr) (ifs : List Expr) (tg1 iter1 : Expr) (ifs1 : List Expr) (elt : Expr) (n1 : Nat) : List Ent → List T → List T → List Ent → Prop
  | nil {E} : Lc2Turns S vs vs1 tg ifs tg1 iter1 ifs1 elt n1 E [] [] E
  | skip {E Ea Eb E1 E' t ts us ws} (ha : AG S (wipeE E vs) tg t Ea ws) (hw : ∀ j ∈ ws, j ∈ vs) (ht : TGs S Ea ifs false Eb) (hb : wipeE Eb vs = wipeE E1 vs) (hf : ∀ j ∈ vs, E1[j]? = E[j]?) (r : Lc2Turns S vs vs1 tg ifs tg1 iter1 ifs1 elt n1 E1 ts us E') : Lc2Turns S vs vs1 tg ifs tg1 iter1 ifs1 elt n1 E (t :: ts) us E'
  | take {E Ea Eb Ec Ed E1 E' t ts ts1 us1 us ws} (ha : AG S (wipeE E vs) tg t Ea ws) (hw : ∀ j ∈ ws, j ∈ vs) (ht : TGs S Ea ifs true Eb) (hi : IG S Eb tg1 iter1 ts1 Ec) (hn : ts1.length ≤ n1) (he : LcTurns S vs1 tg1 ifs1 elt Ec ts1 us1 Ed) (hb : wipeE (wipeE Ed vs1) vs = wipeE E1 vs) (hf : ∀ j ∈ vs, E1[j]? = E[j]?)
      (r : Lc2Turns S vs vs1 tg ifs tg1 iter1 ifs1 elt n1 E1 ts us E') : Lc2Turns S vs vs1 tg ifs tg1 iter1 ifs1 elt n1 E (t :: ts) (us1 ++ us) E'
section
variable {K : PySem.W.Frag} {Z Z' H H' : Hp} {σ σ' : St} {E E' E1 E2 E3 : List Ent} {S : SS}
def Lc2St (S' : SS) (B : Addr → Prop) (Z1 H1 : Hp) (D : Addr) (vs vs1 : List Nat) (tg : Expr) (ifs : List Expr) (tg1 iter1 : Expr) (ifs1 : List Expr) (elt : Expr) (n1 : Nat) (σ : St) (E1 : List Ent) (ts us : List T) (E2 : List Ent) (i : Nat) (H2 : Hp) : Prop :=
  ∃ (Ei : List Ent) (acc : List V) (got rest : List T) (Z2 : Hp), Lc2Turns S' vs vs1 tg ifs tg1 iter1 ifs1 elt n1 Ei (ts.drop i) rest E2 ∧ got ++ rest = us ∧ (∀ j ∈ vs, Ei[j]? = E1[j]?) ∧ got.length ≤ i * n1 ∧
    Reps S'.K Z2 got acc ∧ Beside S'.K B Z1 H1 D (.lst acc) (wipeE Ei vs) (L2.wipe σ vs) Z2 H2
theorem lc2_read {tg iter tg1 iter1 elt : Expr} {ifs ifs1 : List Expr} {scope : Scope} {vs vs1 : List Nat} {ts us : List T} {n1 : Nat} (no : NoOw E1 vs) (hv : ∀ j ∈ vs1, j ∈ vs) (r : Lc2Turns (S.blk scope) vs vs1 tg ifs tg1 iter1 ifs1 elt n1 E1 ts us E2) (hz : ts.length * n1 ≤ 16777216)
    (W : WX) (Z H : Hp) (σ : St) (Q : VK) (hi : IGat S E tg iter ts E1 W Z H σ) (k : ∀ v H' Z', Go S E σ Z H E2 σ Z' H' → Rep S.K Z' (.lst us) v → Q v H') :
    tLc2 (RI S W tg iter) (RG (S.blk scope) WX0 tg) (RTs (S.blk scope) WX0 ifs) (RI (S.blk scope) WX0 tg1 iter1) (RG (S.blk scope) WX0 tg1) (RTs (S.blk scope) WX0 ifs1) (R (S.blk scope) WX0 elt) vs vs1 σ H Q := by
  refine hi _ fun J H1 Z1 G Y g1 w hG hY D hD => ?_
  have b0 := Beside.start (o := .lst []) g1.st hD (by intro ps q; cases q)
  refine ⟨fun i m H => m = ts.length - i ∧ i ≤ ts.length ∧ Lc2St (S.blk scope) (Own σ E1) Z1 H1 D vs vs1 tg ifs tg1 iter1 ifs1 elt n1 σ E1 ts us E2 i H, ⟨ts.length, by simp, Nat.zero_le _, ?_⟩, ?_⟩
  · exact ⟨E1, [], [], us, Z1, r, rfl, fun _ _ => rfl, Nat.zero_le _, .nil, b0.slots (b0.st.wiped vs) fun c h => h.wiped⟩
  rintro i m H2 ⟨rfl, hi', Ei, acc, got, rest, Z2, rt, hgr, hvs, hgl, racc, b⟩
  have gg := hG H2 (b.step.zz.trans b.st.zh)
  by_cases hlt : i < ts.length
  · refine .inr ⟨w.goes i H2 hlt gg, Lc2St (S.blk scope) (Own σ E1) Z1 H1 D vs vs1 tg ifs tg1 iter1 ifs1 elt n1 σ E1 ts us E2 (i + 1), fun H' p' => ⟨ts.length - (i + 1), by omega, rfl, hlt, p'⟩, fun x H3 y => ?_⟩
    obtain ⟨t, ht, cm⟩ := hY i H2 x H3 (w.yields i H2 x H3 hlt gg y)
    have ed : ts.drop i = t :: ts.drop (i + 1) := by
      exact drop_at ht
    rw [ed] at rt
    obtain ⟨Z3, g3, r3⟩ := cm.go (S := S) (S' := S.blk scope) (zs := b.step.zz) rfl b.st
    have b3 := b.go g3 rfl (by intro ps q; cases q)
    have racc3 := racc.mono g3.step.zz
    have tgt : ∀ {Ea : List Ent} {ws : List Nat} (Q : St → Hp → Prop), AG (S.blk scope) (wipeE Ei vs) tg t Ea ws → (∀ j ∈ ws, j ∈ vs) → (∀ σ2, Beside S.K (Own σ E1) Z1 H1 D (.lst acc) Ea σ2 Z3 H3 → L2.wipe σ2 vs = L2.wipe σ vs → Q σ2 H3) → RG (S.blk scope) WX0 tg x (L2.wipe σ vs) H3 Q := by
      intro Ea ws Q ha hw kq
      refine ha.2.2 WX0 Z3 H3 (L2.wipe σ vs) x _ g3.st r3 fun σ2 st2 e2 => kq σ2 ?_ ?_
      · refine b3.slots st2 fun c ⟨j, u, h1, h2⟩ => ?_
        obtain ⟨a1, a2⟩ := ha.1 j ⟨u, h1⟩
        exact ⟨j, u, by rw [← a2]; exact h1, by rw [← e2.2 j a1]; exact h2⟩
      · rw [wipe_congr (σ := L2.wipe σ vs) e2.1 fun j hj => e2.2 j fun z => hj (hw j z), wipe_wipe]
    cases rt with
    | skip ha hw ht' hb hf rt' =>
      refine tgt _ ha hw fun σ2 b4 ew => ⟨ew, ht' WX0 Z3 H3 σ2 _ b4.st fun H4 Z4 g4 => iteF ?_⟩
      have b5 := b4.go g4 rfl (by intro ps q; cases q)
      have b6 := b5.slots (b5.st.wiped vs) fun c h => h.wiped
      rw [ew, hb] at b6
      exact ⟨_, acc, got, rest, Z4, rt', hgr, fun j hj => (hf j hj).trans (hvs j hj), Nat.le_trans hgl (Nat.mul_le_mul_right _ (Nat.le_succ _)), racc3.mono g4.step.zz, b6⟩
    | @take _ Ea Eb Ec Ed E1' _ _ _ ts1 us1 us2 ws ha hw ht' hi1 hn he hb hf rt' =>
      refine tgt _ ha hw fun σ2 b4 ew => ⟨ew, ht' WX0 Z3 H3 σ2 _ b4.st fun H4 Z4 g4 => iteT ?_⟩
      have b5 := b4.go g4 rfl (by intro ps q; cases q)
      refine hi1 WX0 Z4 H4 σ2 _ b5.st fun J1 H5 Z5 G1 Y1 g5 w1 hG1 hY1 => ?_
      have b6 := b5.go g5 rfl (by intro ps q; cases q)
      have ra6 := (racc3.mono g4.step.zz).mono g5.step.zz
      have hle : got.length + ts1.length ≤ (i + 1) * n1 := by rw [Nat.succ_mul]; omega
      refine lc_turns (S' := S.blk scope) (pre := got) b6 ra6 w1 hG1 hY1 he ?_ fun Z7 H7 acc7 b7 ra7 hv7 zz7 => ?_
      · exact Nat.le_trans hle (Nat.le_trans (Nat.mul_le_mul_right _ hlt) hz)
      · have b8 := b7.slots (b7.st.wiped vs) fun c h => h.wiped
        have e8 : L2.wipe (L2.wipe σ2 vs1) vs = L2.wipe σ vs := by
          rw [← ew]
          exact wipe_congr (wipe_length _ _) fun j hj => wipe_out fun z => hj (hv j z)
        rw [e8, hb] at b8
        refine ⟨_, acc7, got ++ us1, us2, Z7, rt', by rw [List.append_assoc]; exact hgr, fun j hj => (hf j hj).trans (hvs j hj), ?_, ra7, b8⟩
        rw [List.length_append]
        have := he.le
        omega
  · have e : i = ts.length := by omega
    subst e
    rw [List.drop_length] at rt
    cases rt with
    | nil =>
      rw [List.append_nil] at hgr
      subst hgr
      exact .inl ⟨w.stops H2 gg, lc_end (W := W) (B := Own σ E1) hD g1 no b racc hvs k⟩
end
end Cw
end L2

set_option Elab.async false
set_option linter.all false
set_option maxRecDepth 100000
set_option maxHeartbeats 2000000
namespace L2
namespace Cw
open PySem PySem.Spec PyProof.Rows
/-- a statement that doesn't go on -/
def Oc.Stops : Oc → Prop
  | .nx _ => False
  | _ => True
inductive ForR (S : SS) (tg : Expr) (body : List Stmt) : List Ent → List T → Oc → Prop
  | nil {E} : ForR S tg body E [] (.nx E)
  | step {E Ea E1 t ts o ws} (ha : AG S E tg t Ea ws) (hb : SGs S Ea body (.nx E1)) (r : ForR S tg body E1 ts o) : ForR S tg body E (t :: ts) o
  | cont {E Ea E1 t ts o ws} (ha : AG S E tg t Ea ws) (hb : SGs S Ea body (.cnt E1)) (r : ForR S tg body E1 ts o) : ForR S tg body E (t :: ts) o
  | brk {E Ea E1 t ts ws} (ha : AG S E tg t Ea ws) (hb : SGs S Ea body (.brk E1)) : ForR S tg body E (t :: ts) (.nx E1)
  | ret {E Ea E1 t ts ws u} (ha : AG S E tg t Ea ws) (hb : SGs S Ea body (.ret u E1)) : ForR S tg body E (t :: ts) (.ret u E1)
  | exc {E Ea E1 t ts ws C} (ha : AG S E tg t Ea ws) (hb : SGs S Ea body (.exc C E1)) : ForR S tg body E (t :: ts) (.exc C E1)
inductive WhileR (S : SS) (c : Expr) (body : List Stmt) : Nat → List Ent → Oc → Prop
  | stop {n E E1} (hc : TtG S E c false E1) : WhileR S c body n E (.nx E1)
  | step {n E E1 E2 o} (hc : TtG S E c true E1) (hb : SGs S E1 body (.nx E2)) (r : WhileR S c body n E2 o) : WhileR S c body (n + 1) E o
  | cont {n E E1 E2 o} (hc : TtG S E c true E1) (hb : SGs S E1 body (.cnt E2)) (r : WhileR S c body n E2 o) : WhileR S c body (n + 1) E o
  | brk {n E E1 E2} (hc : TtG S E c true E1) (hb : SGs S E1 body (.brk E2)) : WhileR S c body n E (.nx E2)
  | ret {n E E1 E2 u} (hc : TtG S E c true E1) (hb : SGs S E1 body (.ret u E2)) : WhileR S c body n E (.ret u E2)
section
variable {K : PySem.W.Frag} {Z Z' H H' : Hp} {σ σ' : St} {E E' E1 E2 E3 : List Ent} {S : SS} {o : Oc}
/-! ### comprehensions -/
theorem eg_lc {tg iter elt : Expr} {ifs : List Expr} {scope : Scope} {own : List (Str × Nat)} {pos : Pos} {ts us : List T} (ok : BlkOk S.N S.sc scope own) (hN : S.N.Nodup) (hi : IG S E tg iter ts E1) (no : NoOw E1 (own.map (·.2))) (r : LcTurns (S.blk scope) (own.map (·.2)) tg ifs elt E1 ts us E2) (hz : ts.length ≤ 16777216)
    (hs : ∀ env x, foldedSetIterable iter env x = pure x := by intro _ _; rfl) : EG S E (.ListComp elt [⟨tg, iter, ifs, 0⟩] scope pos) (.lst us) E2 := fun W Z H σ Q st k => by
  refine R.mk (fun X hX => ?_) (lc_read no r hz W Z H σ Q (hi.at' st) k)
  have e := hX.sc
  have pi := hX.pi tg iter
  have pg := fun s H C cl fp => (hX.blk scope s H C cl fp).pg tg
  have pt := fun s H C cl fp => (hX.blk scope s H C cl fp).pts ifs
  have pe := fun s H C cl fp => (hX.blk scope s H C cl fp).pe elt
  obtain ⟨A, s0, H0, env, outer, stack, ex, pn, xe, rfl⟩ := hX.ex
  exact pe_lc rfl hN pi (by rw [e]; exact ok) pg pt pe (hs _)

theorem eg_lc2 {tg iter tg1 iter1 elt : Expr} {ifs ifs1 : List Expr} {scope : Scope} {own : List (Str × Nat)} {vs1 : List Nat} {pos : Pos} {ts us : List T} {n1 : Nat} (ok : BlkOk S.N S.sc scope own) (hN : S.N.Nodup) (hi : IG S E tg iter ts E1) (no : NoOw E1 (own.map (·.2))) (hv : ∀ j ∈ vs1, j ∈ own.map (·.2)) (r : Lc2Turns (S.blk scope) (own.map (·.2)) vs1 tg ifs tg1 iter1 ifs1 elt n1 E1 ts us E2) (hz : ts.length * n1 ≤ 16777216)
    (hs : ∀ env x, foldedSetIterable iter env x = pure x := by intro _ _; rfl) (hs1 : ∀ env x, foldedSetIterable iter1 env x = pure x := by intro _ _; rfl) : EG S E (.ListComp elt [⟨tg, iter, ifs, 0⟩, ⟨tg1, iter1, ifs1, 0⟩] scope pos) (.lst us) E2 := fun W Z H σ Q st k => by
  refine R.mk (fun X hX => ?_) (lc2_read no hv r hz W Z H σ Q (hi.at' st) k)
  have e := hX.sc
  have pi := hX.pi tg iter
  have pg := fun s H C cl fp => (hX.blk scope s H C cl fp).pg tg
  have pt := fun s H C cl fp => (hX.blk scope s H C cl fp).pts ifs
  have pi1 := fun s H C cl fp => (hX.blk scope s H C cl fp).pi tg1 iter1
  have pg1 := fun s H C cl fp => (hX.blk scope s H C cl fp).pg tg1
  have pt1 := fun s H C cl fp => (hX.blk scope s H C cl fp).pts ifs1
  have pe := fun s H C cl fp => (hX.blk scope s H C cl fp).pe elt
  obtain ⟨A, s0, H0, env, outer, stack, ex, pn, xe, rfl⟩ := hX.ex
  exact pe_lc2 rfl hN pi (by rw [e]; exact ok) hv pg pt pi1 pg1 pt1 pe (hs _) hs1

/-! ### statements -/
theorem sgs_nil : SGs S E [] (.nx E) := fun W Z H σ D st k => RSs.mk (fun X hX => pss_nil) (show tNext D σ H from k _ _ _ (Go.refl st))
theorem sgs_cons {st : Stmt} {sts : List Stmt} (h1 : SG S E st (.nx E1)) (h2 : SGs S E1 sts o) : SGs S E (st :: sts) o := fun W Z H σ D s k =>
  RSs.mk (t := tSeq (RSt S W st) (RSs S W sts)) (fun X hX => pss_cons (hX.ps st) (hX.pss sts)) (h1 W Z H σ _ s fun σ1 Z1 H1 g1 => h2 W Z1 H1 σ1 D g1.st (k.after g1))
theorem sgs_stop {st : Stmt} {sts : List Stmt} (h1 : SG S E st o) (ho : o.Stops) : SGs S E (st :: sts) o := fun W Z H σ D s k =>
  RSs.mk (t := tSeq (RSt S W st) (RSs S W sts)) (fun X hX => pss_cons (hX.ps st) (hX.pss sts)) (h1 W Z H σ _ s (by cases o with
    | nx _ => exact ho.elim
    | ret t E' => exact k
    | exc C E' => exact k
    | brk E' => exact k
    | cnt E' => exact k))
theorem sgs_one {st : Stmt} (h1 : SG S E st o) : SGs S E [st] o := fun W Z H σ D s k => RSs.mk (t := RSt S W st) (fun X hX => pss_one (hX.ps st)) (h1 W Z H σ _ s k)
theorem sg_ret {e : Expr} {t : T} {pos : Pos} (h : EG S E e t E1) : SG S E (.Return (some e) pos) (.ret t E1) := fun W Z H σ D s k =>
  RSt.mk (t := tRet (R S W e)) (fun X hX => ps_ret (hX.pe e)) (h W Z H σ _ s fun v H1 Z1 g1 r => k v _ _ _ g1 r)
theorem sg_retN {pos : Pos} : SG S E (.Return none pos) (.ret .non E) := fun W Z H σ D s k =>
  RSt.mk (t := tRetN) (fun X hX => ps_retN) (k _ _ _ _ (Go.refl s) (rep_non.mpr rfl))
theorem sg_pass {pos : Pos} : SG S E (.Pass pos) (.nx E) := fun W Z H σ D s k => RSt.mk (t := tNext) (fun X hX => ps_pass) (k _ _ _ (Go.refl s))
theorem sg_brk {pos : Pos} : SG S E (.Break pos) (.brk E) := fun W Z H σ D s k => RSt.mk (t := tBreak) (fun X hX => ps_break) (k _ _ _ (Go.refl s))
theorem sg_cnt {pos : Pos} : SG S E (.Continue pos) (.cnt E) := fun W Z H σ D s k => RSt.mk (t := tCont) (fun X hX => ps_continue) (k _ _ _ (Go.refl s))
theorem sg_doc {x : Str} {j : Nat} {pos pos' : Pos} : SG S E (.Expr (.Constant (.str x) j pos) pos') (.nx E) := fun W Z H σ D s k => RSt.mk (t := tNext) (fun X hX => ps_doc) (k _ _ _ (Go.refl s))
theorem sg_expr {e : Expr} {t : T} {pos : Pos} (h : EG S E e t E1) (hs : ∀ env, swapsWith e none pos.line env = pure false := by intro _; rfl) : SG S E (.Expr e pos) (.nx E1) := fun W Z H σ D s k =>
  RSt.mk (t := tDrop (R S W e)) (fun X hX => ps_expr (hX.pe e) (hs _)) (h W Z H σ _ s fun v H1 Z1 g1 r => k _ _ _ g1)
theorem sg_if {c : Expr} {a b : List Stmt} {d : Bool} {pos : Pos} (hc : TtG S E c d E1) (ha : d = true → SGs S E1 a o) (hb : d = false → SGs S E1 b o) : SG S E (.If c a b pos) o := fun W Z H σ D s k =>
  RSt.mk (t := tIfS (RT S W c) (RSs S W a) (RSs S W b)) (fun X hX => ps_if (hX.pt c) (hX.pss a) (hX.pss b)) (hc W Z H σ _ s fun H1 Z1 g1 => by
    cases d with
    | true => exact iteT (ha rfl W Z1 H1 σ D g1.st (k.after g1))
    | false => exact iteF (hb rfl W Z1 H1 σ D g1.st (k.after g1)))
/-- a store's end -/
theorem AG.go {tg : Expr} {t : T} {ws : List Nat} (a : AG S E1 tg t E2 ws) {τ : St} (st : StOk S.K Z H τ E2) (e : τ.length = σ.length ∧ ∀ j, j ∉ ws → τ[j]? = σ[j]?) : Go S E1 σ Z H E2 τ Z H :=
  ⟨Step.refl _ _ _, st, fun c ⟨j, u, h1, h2⟩ => by
    obtain ⟨a1, a2⟩ := a.1 j ⟨u, h1⟩
    exact .inl ⟨j, u, by rw [← a2]; exact h1, by rw [← e.2 j a1]; exact h2⟩, fun j hj => e.2 j fun z => a.2.1 j z hj⟩
theorem sg_set {i : Nat} {x : Str} {e : Expr} {t : T} {pos pos' : Pos} (so : StoOk S i x) (h : EG S E e t E1) (hi : i < E1.length) (hs : ∀ env, swapsWith e (some (.Name x pos')) pos.line env = pure false := by intro _; rfl) : SG S E (.Assign [.Name x pos'] e pos) (.nx (E1.set i (.sh t))) := fun W Z H σ D s k => by
  have a : AG S E1 (.Name x pos') t (E1.set i (.sh t)) [i] := ag_name so hi
  refine RSt.mk (t := tAsg (R S W e) (gName i)) (fun X hX => ?_) (h W Z H σ _ s fun v H1 Z1 g1 r => ?_)
  · have q := hX.sc
    have pe := hX.pe e
    obtain ⟨A, s0, H0, env, outer, stack, ex, pn, xe, rfl⟩ := hX.ex
    exact ps_set so.nd so.hN (by rw [q]; exact so.loc) pe (hs _) (by rw [q]; exact so.hf)
  · exact k _ _ _ (g1.trans (a.go (σ := σ) (g1.st.set r (by rw [g1.st.len]; exact hi)) ⟨List.length_set, fun j hj => by rw [List.getElem?_set_ne (by simp at hj; exact fun e => hj e.symm)]⟩))
/-- target = value -/
theorem sg_asg {tg e : Expr} {t : T} {pos : Pos} {ws : List Nat} (h : EG S E e t E1) (a : AG S E1 tg t E2 ws) (hs : ∀ env, swapsWithSole [tg] e pos.line env = pure false := by intro _; rfl) (hw : ∀ env, swappedStores [tg] e env = pure none := by intro _; rfl) (h1 : ∀ env, (assignEach [tg] env).map (·.2) = [assign tg env] := by intro _; rfl) : SG S E (.Assign [tg] e pos) (.nx E2) := fun W Z H σ D s k => by
  refine RSt.mk (t := tAsg (R S W e) (RG S W tg)) (fun X hX => ps_asg (hX.pe e) (hX.pg tg) (hs _) (hw _) (h1 _)) (h W Z H σ _ s fun v H1 Z1 g1 r => ?_)
  exact a.2.2 W Z1 H1 σ v _ g1.st r fun τ st e => k _ _ _ (g1.trans (a.go st e))
/-- a local that is set to a comprehension standing on the same line -/
theorem sg_setLc {i : Nat} {y : Str} {py : Pos} {tg iter elt : Expr} {ifs : List Expr} {scope : Scope} {own : List (Str × Nat)} {pos spos : Pos} {ts us : List T} (so : StoOk S i y) (hyl : S.sc.names.lookup y = some .local) (hk : S.sc.kind = .function) (hl : (py.line == pos.line) = true)
    (hna : (scope.names.any fun (n, k) => n == y && (k == .local || k == .cell)) = false) (ok : BlkOk S.N S.sc scope own) (hi : IG S E tg iter ts E1) (no : NoOw E1 (own.map (·.2))) (r : LcTurns (S.blk scope) (own.map (·.2)) tg ifs elt E1 ts us E2) (hz : ts.length ≤ 16777216) (hlen : i < E2.length)
    (hs : ∀ env x, foldedSetIterable iter env x = pure x := by intro _ _; rfl) : SG S E (.Assign [.Name y py] (.ListComp elt [⟨tg, iter, ifs, 0⟩] scope pos) spos) (.nx (E2.set i (.sh (.lst us)))) := fun W Z H σ D s k => by
  have a : AG S E2 (.Name y py) (.lst us) (E2.set i (.sh (.lst us))) [i] := ag_name so hlen
  refine RSt.mk (fun X hX => ?_) (show tAsg (tLc (RI S W tg iter) (RG (S.blk scope) WX0 tg) (RTs (S.blk scope) WX0 ifs) (R (S.blk scope) WX0 elt) (own.map (·.2))) (gName i) D σ H from lc_read no r hz W Z H σ _ (hi.at' s) fun v H1 Z1 g1 r => ?_)
  · have e := hX.sc
    have pi := hX.pi tg iter
    have pg := fun s H C cl fp => (hX.blk scope s H C cl fp).pg tg
    have pt := fun s H C cl fp => (hX.blk scope s H C cl fp).pts ifs
    have pe := fun s H C cl fp => (hX.blk scope s H C cl fp).pe elt
    obtain ⟨A, s0, H0, env, outer, stack, ex, pn, xe, rfl⟩ := hX.ex
    have e' : env.scope = S.sc := e
    exact ps_setLc rfl so.nd so.hN (by show env.scope.names.lookup y = _; rw [e']; exact hyl) (sw_true (by rw [e']; exact hk) (by rw [e']; exact hyl) hl hna) pi (by rw [e]; exact ok) pg pt pe (hs _)
  · exact k _ _ _ (g1.trans (a.go (σ := σ) (g1.st.set r (by rw [g1.st.len]; exact hlen)) ⟨List.length_set, fun j hj => by rw [List.getElem?_set_ne (by simp at hj; exact fun e => hj e.symm)]⟩))
/-- a, b = x, y with plain local names -/
theorem sg_par {i j : Nat} {x y : Str} {a b : Expr} {t u : T} {px py pt : Pos} {kt k2 : Nat} {pt2 pos : Pos} (so1 : StoOk S i x) (so2 : StoOk S j y) (hij : i ≠ j) (hx : S.sc.names.lookup x = some .local) (hy : S.sc.names.lookup y = some .local) (hk : S.sc.kind = .function) (h : EAs S E [a, b] [t, u] E1) (hi : i < E1.length) (hj : j < E1.length)
    (hps : ∀ X : Cx, X.calm = true → X.N = S.N → X.env.scope = S.sc → ∀ ta, PA X [a, b] ta → PS X (.Assign [.Tuple [.Name x px, .Name y py] kt pt] (.Tuple [a, b] k2 pt2) pos) (tPar i j ta)) : SG S E (.Assign [.Tuple [.Name x px, .Name y py] kt pt] (.Tuple [a, b] k2 pt2) pos) (.nx ((E1.set i (.sh t)).set j (.sh u))) := fun W Z H σ D s k => by
  refine RSt.mk (t := tPar i j (RA S W [a, b])) (fun X hX => hps X hX.calm (by obtain ⟨A, s0, H0, env, outer, stack, ex, pn, xe, rfl⟩ := hX.ex; rfl) hX.sc _ (hX.pa [a, b])) (h W Z H σ _ s fun vs H1 Z1 g1 r => ?_)
  obtain ⟨v, w, rfl, r1, r2⟩ := reps_two r
  have a1 : AG S E1 (.Name x px) t (E1.set i (.sh t)) [i] := ag_name so1 hi
  have a2 : AG S (E1.set i (.sh t)) (.Name y py) u ((E1.set i (.sh t)).set j (.sh u)) [j] := ag_name so2 (by rw [List.length_set]; exact hj)
  refine ⟨v, w, rfl, ?_⟩
  have s1 := g1.st.set r1 (i := i) (by rw [g1.st.len]; exact hi)
  have s2 := s1.set r2 (i := j) (by rw [List.length_set, g1.st.len]; exact hj)
  exact k _ _ _ ((g1.trans (a1.go (σ := σ) s1 ⟨List.length_set, fun l hl => by rw [List.getElem?_set_ne (by simp at hl; exact fun e => hl e.symm)]⟩)).trans (a2.go s2 ⟨List.length_set, fun l hl => by rw [List.getElem?_set_ne (by simp at hl; exact fun e => hl e.symm)]⟩))

/-! ### for, while -/
theorem for_at {tg iter : Expr} {body : List Stmt} {ts : List T} {pos : Pos} {W : WX} {D : Ends} (hi : IGat S E tg iter ts E1 W Z H σ) (r : ForR S tg body E1 ts o) (k : o.Ok S E σ Z H D W) (hs : ∀ env x, foldedSetIterable iter env x = pure x) : RSt S W (.For tg iter body [] pos) D σ H := by
  refine RSt.mk (t := tFor (RI S W tg iter) (RG S W tg) (RSs S W body)) (fun X hX => ps_for hX.po hX.calm (hX.pi tg iter) (hX.pg tg) (hX.pss body) (hs _)) (hi _ fun J H1 Z1 G Y g1 w hG hY => ?_)
  refine for_it w (fun i σ2 H2 => ∃ (Ei : List Ent) (Z2 : Hp), ForR S tg body Ei (ts.drop i) o ∧ Go S E1 σ Z1 H1 Ei σ2 Z2 H2) ⟨E1, Z1, r, Go.refl g1.st⟩ ?_ ?_ ?_
  · rintro i σ2 H2 _ ⟨Ei, Z2, _, g⟩
    exact hG H2 (g.step.zz.trans g.st.zh)
  · rintro i x σ2 H2 H3 hlt ⟨Ei, Z2, rt, g⟩ y
    obtain ⟨t, ht, cm⟩ := hY i H2 x H3 y
    have hlt' : i < ts.length := hlt
    have ed : ts.drop i = t :: ts.drop (i + 1) := drop_at ht
    rw [ed] at rt
    obtain ⟨Z3, g3, r3⟩ := cm.go (S := S) (S' := S) (zs := g.step.zz) rfl g.st
    have kk := k.after g1
    cases rt with
    | step ha hb rt' => exact ha.2.2 W Z3 H3 σ2 x _ g3.st r3 fun τ st e => hb W Z3 H3 τ _ st fun σ4 Z4 H4 g4 => ⟨_, Z4, rt', ((g.trans g3).trans (ha.go st e)).trans g4⟩
    | cont ha hb rt' => exact ha.2.2 W Z3 H3 σ2 x _ g3.st r3 fun τ st e => hb W Z3 H3 τ _ st fun σ4 Z4 H4 g4 => ⟨_, Z4, rt', ((g.trans g3).trans (ha.go st e)).trans g4⟩
    | brk ha hb => exact ha.2.2 W Z3 H3 σ2 x _ g3.st r3 fun τ st e => hb W Z3 H3 τ _ st fun σ4 Z4 H4 g4 => kk _ _ _ (((g.trans g3).trans (ha.go st e)).trans g4)
    | ret ha hb => exact ha.2.2 W Z3 H3 σ2 x _ g3.st r3 fun τ st e => hb W Z3 H3 τ _ st fun v σ4 Z4 H4 g4 r4 => kk v _ _ _ (((g.trans g3).trans (ha.go st e)).trans g4) r4
    | exc ha hb => exact ha.2.2 W Z3 H3 σ2 x _ g3.st r3 fun τ st e => hb W Z3 H3 τ _ st fun σ4 Z4 H4 g4 => kk _ _ _ (((g.trans g3).trans (ha.go st e)).trans g4)
  · rintro σ2 H2 ⟨Ei, Z2, rt, g⟩
    rw [List.drop_length] at rt
    cases rt with
    | nil => exact k _ _ _ (g1.trans g)
theorem sg_for {tg iter : Expr} {body : List Stmt} {ts : List T} {pos : Pos} (hi : IG S E tg iter ts E1) (r : ForR S tg body E1 ts o) (hs : ∀ env x, foldedSetIterable iter env x = pure x := by intro _ _; rfl) : SG S E (.For tg iter body [] pos) o := fun W Z H σ D s k => for_at (hi.at' s) r k hs
theorem sg_while {c : Expr} {body : List Stmt} {n : Nat} {pos : Pos} (r : WhileR S c body n E o) : SG S E (.While c body [] pos) o := fun W Z H σ D s k => by
  refine RSt.mk (t := tWhile (RT S W c) (RSs S W body)) (fun X hX => ps_while hX.po (hX.pt c) (hX.pss body)) ⟨fun m σ2 H2 => ∃ (Ei : List Ent) (Z2 : Hp), WhileR S c body m Ei o ∧ Go S E σ Z H Ei σ2 Z2 H2, ⟨n, E, Z, r, Go.refl s⟩, ?_⟩
  rintro m σ2 H2 ⟨Ei, Z2, rt, g⟩
  cases rt with
  | stop hc => exact hc W Z2 H2 σ2 _ g.st fun H3 Z3 g3 => iteF (k _ _ _ (g.trans g3))
  | step hc hb rt' => exact hc W Z2 H2 σ2 _ g.st fun H3 Z3 g3 => iteT ⟨fun σ' H' => ∃ (Ei : List Ent) (Z2 : Hp), WhileR S c body _ Ei o ∧ Go S E σ Z H Ei σ' Z2 H', fun σ' H' h => ⟨_, Nat.lt_succ_self _, h⟩, hb W Z3 H3 σ2 _ g3.st fun σ4 Z4 H4 g4 => ⟨_, Z4, rt', (g.trans g3).trans g4⟩⟩
  | cont hc hb rt' => exact hc W Z2 H2 σ2 _ g.st fun H3 Z3 g3 => iteT ⟨fun σ' H' => ∃ (Ei : List Ent) (Z2 : Hp), WhileR S c body _ Ei o ∧ Go S E σ Z H Ei σ' Z2 H', fun σ' H' h => ⟨_, Nat.lt_succ_self _, h⟩, hb W Z3 H3 σ2 _ g3.st fun σ4 Z4 H4 g4 => ⟨_, Z4, rt', (g.trans g3).trans g4⟩⟩
  | brk hc hb => exact hc W Z2 H2 σ2 _ g.st fun H3 Z3 g3 => iteT ⟨fun _ _ => False, fun _ _ h => h.elim, hb W Z3 H3 σ2 _ g3.st fun σ4 Z4 H4 g4 => k _ _ _ ((g.trans g3).trans g4)⟩
  | ret hc hb => exact hc W Z2 H2 σ2 _ g.st fun H3 Z3 g3 => iteT ⟨fun _ _ => False, fun _ _ h => h.elim, hb W Z3 H3 σ2 _ g3.st fun v σ4 Z4 H4 g4 r4 => k v _ _ _ ((g.trans g3).trans g4) r4⟩
end
end Cw
end L2

set_option Elab.async false
set_option linter.all false
set_option maxRecDepth 100000
set_option maxHeartbeats 2000000
namespace L2
namespace Cw
open PySem PySem.Spec PyProof.Rows
/-! ### defs: what they are asked and what they give -/
inductive Ro where
  | ret (t : T) (as : List Ent) | exc (C : Addr) (as : List Ent)
structure GoA (K : PySem.W.Frag) (as : List Ent) (vs : List V) (Z H : Hp) (as' : List Ent) (Z' H' : Hp) : Prop where
  step : Step (Own (vs.map some) as) Z H Z' H'
  st : StOk K Z' H' (vs.map some) as'
def spOf (K : PySem.W.Frag) (as : List Ent) : Ro → Sp
  | .ret t as' => fun vs H Q _ => ∃ Z, StOk K Z H (vs.map some) as ∧ ∀ v H' Z', GoA K as vs Z H as' Z' H' → Rep K Z' t v → Q v H'
  | .exc C as' => fun vs H _ Ex => ∃ Z, StOk K Z H (vs.map some) as ∧ ∀ H' Z', GoA K as vs Z H as' Z' H' → Ex (.ref C) none H'
theorem spOf_len {K : PySem.W.Frag} {as : List Ent} {r : Ro} {vs : List V} {H : Hp} {Q : VK} {Ex : XK} (h : spOf K as r vs H Q Ex) : vs.length = as.length := by
  cases r with
  | ret t as' => obtain ⟨Z, st, _⟩ := h; have := st.len; rwa [List.length_map] at this
  | exc C as' => obtain ⟨Z, st, _⟩ := h; have := st.len; rwa [List.length_map] at this
def isOw : Ent → Bool
  | .ow _ => true
  | _ => false
/-- the places of what is borrowed -/
def pins (as : List Ent) : List Nat := (List.range as.length).filter fun j => (as[j]?.map isOw).getD false
theorem mem_pins {as : List Ent} {j : Nat} {t : T} (h : as[j]? = some (.ow t)) : j ∈ pins as := by
  refine List.mem_filter.mpr ⟨List.mem_range.mpr (List.getElem?_eq_some_iff.mp h).1, by rw [h]; rfl⟩
structure FinA (as E' as' : List Ent) : Prop where
  len : as'.length = as.length
  sh : ∀ (j : Nat) t, as'[j]? = some (.sh t) → as[j]? = some (.sh t)
  ow : ∀ (j : Nat) t, as'[j]? = some (.ow t) → E'[j]? = some (.ow t) ∧ ∃ u, as[j]? = some (.ow u)
/-- nothing borrowed -/
theorem FinA.all {as E' : List Ent} (h : ∀ e ∈ as, isOw e = false) : FinA as E' as := ⟨rfl, fun _ _ h => h, fun j t e => by
  have q := h _ (List.mem_of_getElem? e)
  cases q⟩
inductive Fin : List Ent → Oc → Ro → Prop
  | ret {as t E' as'} (h : FinA as E' as') : Fin as (.ret t E') (.ret t as')
  | nx {as E' as'} (h : FinA as E' as') : Fin as (.nx E') (.ret .non as')
  | exc {as C E' as'} (h : FinA as E' as') : Fin as (.exc C E') (.exc C as')
section
variable {w : World} {P : Program} {base : Heap} {K : PySem.W.Frag} {mg : Str → Option Value}
/-- the static facts of a def's body -/
abbrev defS (P : Program) (w : World) (K : PySem.W.Frag) (mg : Str → Option Value) (base : Heap) (k : Nat) (N : List Str) (sc : Scope) (as : List Ent) : SS := ⟨P, w, K, mg, base, k, N, sc, fun _ => true, pins as⟩
abbrev entry (N : List Str) (as : List Ent) : List Ent := as ++ List.replicate (N.length - as.length) .no
theorem entry_st {N : List Str} {as : List Ent} {vs : List V} {Z H : Hp} (st : StOk K Z H (vs.map some) as) : StOk K Z H (start N vs) (entry N as) ∧ ∀ c, Own (start N vs) (entry N as) c → Own (vs.map some) as c := by
  have hl : vs.length = as.length := by have := st.len; rwa [List.length_map] at this
  have at1 : ∀ {j : Nat} {e : Ent}, (entry N as)[j]? = some e → e ≠ .no → as[j]? = some e := fun {j e} h hn => by
    by_cases hj : j < as.length
    · rw [List.getElem?_append_left hj] at h; exact h
    · rw [List.getElem?_append_right (by omega), List.getElem?_replicate] at h
      split at h
      · cases h; exact absurd rfl hn
      · cases h
  have at2 : ∀ {j : Nat}, j < as.length → (start N vs)[j]? = (vs.map some)[j]? := fun {j} hj => by
    unfold start
    rw [List.getElem?_append_left (by rw [List.length_map]; omega)]
  have lt : ∀ {j : Nat} {e : Ent}, as[j]? = some e → j < as.length := fun h => (List.getElem?_eq_some_iff.mp h).1
  refine ⟨⟨st.zh, st.nt, by unfold start entry; rw [List.length_append, List.length_append, List.length_map, List.length_replicate, List.length_replicate, hl], fun j t h => ?_, fun j t h => ?_, fun i j a t u h1 h2 h3 h4 => ?_⟩, fun c ⟨j, t, h1, h2⟩ => ?_⟩
  · have q := at1 h (by intro z; cases z)
    rw [at2 (lt q)]; exact st.sh j t q
  · have q := at1 h (by intro z; cases z)
    rw [at2 (lt q)]; exact st.ow j t q
  · have q1 := at1 h1 (by intro z; cases z)
    have q2 := at1 h2 (by intro z; cases z)
    rw [at2 (lt q1)] at h3
    rw [at2 (lt q2)] at h4
    exact st.ds i j a t u q1 q2 h3 h4
  · have q := at1 h1 (by intro z; cases z)
    rw [at2 (lt q)] at h2
    exact ⟨j, t, q, h2⟩
theorem exit_st {S : SS} {N : List Str} {as as' E' : List Ent} {vs : List V} {σ' : St} {Z H Z' H' : Hp} (hK : S.K = K) (hp : S.pin = pins as) (st : StOk K Z H (vs.map some) as) (g : Go S (entry N as) (start N vs) Z H E' σ' Z' H') (f : FinA as E' as') : GoA K as vs Z H as' Z' H' := by
  subst hK
  have hl : vs.length = as.length := by have := st.len; rwa [List.length_map] at this
  have ow : ∀ {j : Nat} {t : T}, as'[j]? = some (.ow t) → E'[j]? = some (.ow t) ∧ σ'[j]? = (vs.map some)[j]? := fun {j t} h => by
    obtain ⟨h1, u, h2⟩ := f.ow j t h
    refine ⟨h1, (g.pin j (by rw [hp]; exact mem_pins h2)).trans ?_⟩
    have hj := (List.getElem?_eq_some_iff.mp h2).1
    unfold start
    rw [List.getElem?_append_left (by rw [List.length_map]; omega)]
  refine ⟨g.step.mono (entry_st (N := N) st).2, ⟨g.st.zh, g.st.nt, by rw [st.len, f.len], fun j t h => ?_, fun j t h => ?_, fun i j a t u h1 h2 h3 h4 => ?_⟩⟩
  · obtain ⟨v, h1, h2⟩ := st.sh j t (f.sh j t h)
    exact ⟨v, h1, h2.mono g.step.zz⟩
  · obtain ⟨h1, h2⟩ := ow h
    rw [← h2]; exact g.st.ow j t h1
  · obtain ⟨a1, a2⟩ := ow h1
    obtain ⟨b1, b2⟩ := ow h2
    rw [← a2] at h3
    rw [← b2] at h4
    exact g.st.ds i j a t u a1 b1 h3 h4
/-- a def (or method) of the text as it stands behind the top, whatever its defaults -/
structure FunA (K : PySem.W.Frag) (x qual : Str) (st : Stmt) (f : Addr) (fd : FuncData) : Prop where
  ex : ∃ (oc dV kV doc pm cdv ct : Value) (od an : Option Addr) (osl : Array (Option Value)),
    fd = PySem.W.fnOf x qual (defArgs st) (defBody st) (defScope st) dV kV doc pm an cdv ct ∧ K.lookup f = some ⟨oc, od, .func fd, osl⟩ ∧ PySem.W.codeIn K cdv qual = true
  kp : PySem.W.keepIn K (Value.ref f) = true
theorem funA_mk {x qual : Str} {st : Stmt} {f : Addr} {oc : Value} {od an : Option Addr} {osl : Array (Option Value)} {dV kV doc pm cdv ct : Value} (l : K.lookup f = some ⟨oc, od, .func (PySem.W.fnOf x qual (defArgs st) (defBody st) (defScope st) dV kV doc pm an cdv ct), osl⟩)
    (c : PySem.W.codeIn K cdv qual = true) (k : PySem.W.keepIn K (.ref f) = true) : FunA K x qual st f (PySem.W.fnOf x qual (defArgs st) (defBody st) (defScope st) dV kV doc pm an cdv ct) := ⟨⟨oc, dV, kV, doc, pm, cdv, ct, od, an, osl, rfl, l, c⟩, k⟩
/-- THE RULE for a def -/
theorem fn_ok {x qual : Str} {st : Stmt} {f : Addr} {fd : FuncData} {N ps : List Str} {k : Nat} {as : List Ent} {o : Oc} {r : Ro} (F : FunA K x qual st f fd) (Sc : FnScope N ps (defScope st)) (hl : as.length = ps.length) (hf : Fin as o r)
    (hb : SGs (defS P w K mg base k N (defScope st) as) (entry N as) (defBody st) o) : FnOk P w K mg base (L2.CX P w) (k + 1) f fd ps (spOf K as r) := by
  obtain ⟨oc, dV, kV, doc, pm, cdv, ct, od, an, osl, rfl, lk, hcd⟩ := F.ex
  refine fn_of lk hcd Sc (fun vs H Q E h => (spOf_len h).trans hl) (fun A outer s H vs Q Ex hr h => ?_)
  refine ⟨RSs (defS P w K mg base k N (defScope st) as) (fun cls d _ H => Ex cls d H) (defBody st), ⟨fun pins s' σ H' D I q => q _ ⟨⟨_, _, _, _, _, _, _, _, _, rfl⟩, hr, rfl, takes_of rfl rfl rfl rfl, passes_of rfl⟩ pins s' I⟩, ?_⟩
  cases hf with
  | ret h' =>
    obtain ⟨Z, st0, kq⟩ := h
    exact hb _ Z H (start N vs) _ (entry_st st0).1 fun v σ' Z' H' g r => kq v H' Z' (exit_st rfl rfl st0 g h') r
  | nx h' =>
    obtain ⟨Z, st0, kq⟩ := h
    exact hb _ Z H (start N vs) _ (entry_st st0).1 fun σ' Z' H' g => kq .non H' Z' (exit_st rfl rfl st0 g h') (rep_non.mpr rfl)
  | exc h' =>
    obtain ⟨Z, st0, kq⟩ := h
    exact hb _ Z H (start N vs) _ (entry_st st0).1 fun σ' Z' H' g => kq H' Z' (exit_st rfl rfl st0 g h')
end

/-! ### calls -/
inductive AD where
  | va (t : T) | bo (i : Nat) (t : T)
def AD.ent : AD → Ent
  | .va t => .sh t
  | .bo _ t => .ow t
def AdsOk (K : PySem.W.Frag) (Z : Hp) (σ : St) : List AD → List V → Prop
  | [], vs => vs = []
  | .va t :: ds, vs => ∃ v r, vs = v :: r ∧ Rep K Z t v ∧ AdsOk K Z σ ds r
  | .bo i _ :: ds, vs => ∃ a r, vs = .ref a :: r ∧ σ[i]? = some (some (.ref a)) ∧ AdsOk K Z σ ds r
def EAb (S : SS) (E : List Ent) (es : List Expr) (ds : List AD) (E' : List Ent) : Prop :=
  ∀ (W : WX) (Z H : Hp) (σ : St) (Q : List V → Hp → Prop), StOk S.K Z H σ E → (∀ vs H' Z', Go S E σ Z H E' σ Z' H' → AdsOk S.K Z' σ ds vs → Q vs H') → RA S W es σ H Q
def bos : List AD → List Nat
  | [] => []
  | .va _ :: ds => bos ds
  | .bo i _ :: ds => i :: bos ds
def updE (E : List Ent) : List AD → List Ent → List Ent
  | .bo i _ :: ds, .ow t :: as => (updE E ds as).set i (.ow t)
  | _ :: ds, _ :: as => updE E ds as
  | _, _ => E
section
variable {K : PySem.W.Frag} {Z Z' H H' : Hp} {σ σ' : St} {E E' E1 E2 E3 : List Ent} {S : SS} {o : Oc}
theorem AdsOk.mono (e : Same Z Z') : ∀ {ds : List AD} {vs : List V}, AdsOk K Z σ ds vs → AdsOk K Z' σ ds vs
  | [], _, h => h
  | .va t :: ds, _, h => by obtain ⟨v, r, h1, h2, h3⟩ := h; exact ⟨v, r, h1, h2.mono e, h3.mono e⟩
  | .bo i t :: ds, _, h => by obtain ⟨v, r, h1, h2, h3⟩ := h; exact ⟨v, r, h1, h2, h3.mono e⟩
theorem AdsOk.length : ∀ {ds : List AD} {vs : List V}, AdsOk K Z σ ds vs → vs.length = ds.length
  | [], _, h => by rw [show _ = [] from h]; rfl
  | .va t :: ds, _, h => by obtain ⟨v, r, rfl, h2, h3⟩ := h; rw [List.length_cons, List.length_cons, h3.length]
  | .bo i t :: ds, _, h => by obtain ⟨v, r, rfl, h2, h3⟩ := h; rw [List.length_cons, List.length_cons, h3.length]
theorem AdsOk.va : ∀ {ds : List AD} {vs : List V} {j : Nat} {t : T}, AdsOk K Z σ ds vs → ds[j]? = some (.va t) → ∃ v, vs[j]? = some v ∧ Rep K Z t v
  | .va t :: ds, _, 0, _, h, e => by obtain ⟨v, r, rfl, h2, h3⟩ := h; cases e; exact ⟨v, rfl, h2⟩
  | .bo i t :: ds, _, 0, _, h, e => by cases e
  | .va t :: ds, _, j + 1, _, h, e => by obtain ⟨v, r, rfl, h2, h3⟩ := h; simpa using h3.va (j := j) (by simpa using e)
  | .bo i t :: ds, _, j + 1, _, h, e => by obtain ⟨v, r, rfl, h2, h3⟩ := h; simpa using h3.va (j := j) (by simpa using e)
theorem AdsOk.bo : ∀ {ds : List AD} {vs : List V} {j i : Nat} {t : T}, AdsOk K Z σ ds vs → ds[j]? = some (.bo i t) → ∃ a, vs[j]? = some (.ref a) ∧ σ[i]? = some (some (.ref a))
  | .va t :: ds, _, 0, _, _, h, e => by cases e
  | .bo i t :: ds, _, 0, _, _, h, e => by obtain ⟨v, r, rfl, h2, h3⟩ := h; cases e; exact ⟨v, rfl, h2⟩
  | .va t :: ds, _, j + 1, _, _, h, e => by obtain ⟨v, r, rfl, h2, h3⟩ := h; simpa using h3.bo (j := j) (by simpa using e)
  | .bo i t :: ds, _, j + 1, _, _, h, e => by obtain ⟨v, r, rfl, h2, h3⟩ := h; simpa using h3.bo (j := j) (by simpa using e)
theorem mem_bos : ∀ {ds : List AD} {i : Nat}, i ∈ bos ds ↔ ∃ (j : Nat) (t : T), ds[j]? = some (.bo i t)
  | [], i => by simp [bos]
  | .va t :: ds, i => by
    unfold bos; rw [mem_bos (ds := ds)]
    constructor
    · rintro ⟨j, u, h⟩; exact ⟨j + 1, u, by simpa using h⟩
    · rintro ⟨j, u, h⟩
      cases j with
      | zero => cases h
      | succ j => exact ⟨j, u, by simpa using h⟩
  | .bo l t :: ds, i => by
    unfold bos; rw [List.mem_cons, mem_bos (ds := ds)]
    constructor
    · rintro (rfl | ⟨j, u, h⟩)
      · exact ⟨0, t, rfl⟩
      · exact ⟨j + 1, u, by simpa using h⟩
    · rintro ⟨j, u, h⟩
      cases j with
      | zero => cases h; exact .inl rfl
      | succ j => exact .inr ⟨j, u, by simpa using h⟩
theorem bos_at : ∀ {ds : List AD} {i j l : Nat} {t u : T}, (bos ds).Nodup → ds[j]? = some (.bo i t) → ds[l]? = some (.bo i u) → j = l
  | .va _ :: ds, i, 0, l, t, u, nd, h1, h2 => by cases h1
  | .va _ :: ds, i, j + 1, 0, t, u, nd, h1, h2 => by cases h2
  | .va _ :: ds, i, j + 1, l + 1, t, u, nd, h1, h2 => by rw [bos_at (ds := ds) (i := i) (j := j) (l := l) nd (by simpa using h1) (by simpa using h2)]
  | .bo _ _ :: ds, i, 0, 0, t, u, nd, h1, h2 => rfl
  | .bo _ _ :: ds, i, 0, l + 1, t, u, nd, h1, h2 => by cases h1; exact absurd (mem_bos.mpr ⟨l, u, by simpa using h2⟩) (List.nodup_cons.mp nd).1
  | .bo _ _ :: ds, i, j + 1, 0, t, u, nd, h1, h2 => by cases h2; exact absurd (mem_bos.mpr ⟨j, t, by simpa using h1⟩) (List.nodup_cons.mp nd).1
  | .bo _ _ :: ds, i, j + 1, l + 1, t, u, nd, h1, h2 => by rw [bos_at (ds := ds) (i := i) (j := j) (l := l) (List.nodup_cons.mp nd).2 (by simpa using h1) (by simpa using h2)]
theorem updE_length : ∀ {ds : List AD} {as : List Ent}, (updE E ds as).length = E.length
  | [], _ => by unfold updE; rfl
  | .va _ :: ds, [] => by simp [updE]
  | .bo _ _ :: ds, [] => by simp [updE]
  | .va _ :: ds, _ :: as => by simp only [updE]; exact updE_length
  | .bo i _ :: ds, .ow t :: as => by simp only [updE, List.length_set]; exact updE_length
  | .bo i _ :: ds, .sh t :: as => by simp only [updE]; exact updE_length
  | .bo i _ :: ds, .no :: as => by simp only [updE]; exact updE_length
theorem updE_out {i : Nat} : ∀ {ds : List AD} {as : List Ent}, i ∉ bos ds → (updE E ds as)[i]? = E[i]?
  | [], _, h => by unfold updE; rfl
  | .va _ :: ds, [], h => by simp [updE]
  | .bo _ _ :: ds, [], h => by simp [updE]
  | .va _ :: ds, _ :: as, h => by simp only [updE]; exact updE_out h
  | .bo l _ :: ds, .ow t :: as, h => by
    simp only [updE]
    have h' : i ≠ l ∧ i ∉ bos ds := by simpa [bos] using h
    rw [List.getElem?_set_ne (Ne.symm h'.1)]; exact updE_out h'.2
  | .bo l _ :: ds, .sh t :: as, h => by
    have h' : i ≠ l ∧ i ∉ bos ds := by simpa [bos] using h
    simp only [updE]; exact updE_out h'.2
  | .bo l _ :: ds, .no :: as, h => by
    have h' : i ≠ l ∧ i ∉ bos ds := by simpa [bos] using h
    simp only [updE]; exact updE_out h'.2
theorem updE_in {i : Nat} : ∀ {ds : List AD} {as : List Ent} {j : Nat} {t u : T}, (bos ds).Nodup → i < E.length → ds[j]? = some (.bo i t) → as[j]? = some (.ow u) → (updE E ds as)[i]? = some (.ow u)
  | .va _ :: ds, _, 0, t, u, nd, hi, h1, h2 => by cases h1
  | .bo _ _ :: ds, _ :: as, 0, t, u, nd, hi, h1, h2 => by
    cases h1; cases h2
    simp only [updE]
    exact List.getElem?_set_self (by rw [updE_length]; exact hi)
  | .va _ :: ds, _ :: as, j + 1, t, u, nd, hi, h1, h2 => by
    simp only [updE]
    exact updE_in (ds := ds) (j := j) (t := t) nd hi (by simpa using h1) (by simpa using h2)
  | .bo l v :: ds, e :: as, j + 1, t, u, nd, hi, h1, h2 => by
    have h1' : ds[j]? = some (.bo i t) := by simpa using h1
    have ne : l ≠ i := fun z => by subst z; exact (List.nodup_cons.mp nd).1 (mem_bos.mpr ⟨j, t, h1'⟩)
    have q := updE_in (ds := ds) (as := as) (j := j) (t := t) (u := u) (List.nodup_cons.mp nd).2 hi h1' (by simpa using h2)
    cases e with
    | ow w => simp only [updE]; rw [List.getElem?_set_ne ne]; exact q
    | sh w => simp only [updE]; exact q
    | no => simp only [updE]; exact q
theorem eab_nil : EAb S E [] [] E := fun W Z H σ Q st k => RA.mk (fun X hX => pa_nil) (show tNil σ H Q from k _ _ _ (Go.refl st) rfl)
theorem eab_va {e : Expr} {es : List Expr} {t : T} {ds : List AD} (ha : EG S E e t E1) (hb : EAb S E1 es ds E2) (hs : ∀ env, starEach (e :: es) env = (false, eval e env) :: starEach es env := by intro _; rfl) : EAb S E (e :: es) (.va t :: ds) E2 := fun W Z H σ Q st k =>
  RA.mk (t := tCons (R S W e) (RA S W es)) (fun X hX => pa_cons (hX.pe e) (hX.pa es) (hs _)) (ha W Z H σ _ st fun v H1 Z1 g1 r1 => hb W Z1 H1 σ _ g1.st fun vs H2 Z2 g2 r2 => k _ H2 Z2 (g1.trans g2) ⟨v, vs, rfl, r1.mono g2.step.zz, r2⟩)
theorem eab_bo {i : Nat} {x : Str} {p : Pos} {es : List Expr} {t : T} {ds : List AD} (v : VarOk S i x) (h : E[i]? = some (.ow t)) (hb : EAb S E es ds E2) (hs : ∀ env, starEach (.Name x p :: es) env = (false, eval (.Name x p) env) :: starEach es env := by intro _; rfl) : EAb S E (.Name x p :: es) (.bo i t :: ds) E2 := fun W Z H σ Q st k => by
  obtain ⟨a, o, h1, h2, h3, h4⟩ := st.ow i t h
  refine RA.mk (t := tCons (tVar i) (RA S W es)) (fun X hX => ?_) ⟨.ref a, h1, hb W Z H σ _ st fun vs H2 Z2 g2 r2 => k _ H2 Z2 g2 ⟨a, vs, rfl, h1, r2⟩⟩
  have hs' := hX.sc
  have pa := hX.pa es
  obtain ⟨A, s0, H0, env, outer, stack, ex, pn, xe, rfl⟩ := hX.ex
  exact pa_cons (pe_var v.hN (by rw [hs']; exact v.vis) v.h1 v.h2) pa (hs _)
/-- the callee's view -/
theorem call_st {ds : List AD} {vs ws : List V} {dts : List T} (st : StOk K Z H σ E) (r : AdsOk K Z σ ds vs) (hb : ∀ (j i : Nat) t, ds[j]? = some (.bo i t) → E[i]? = some (.ow t)) (nd : (bos ds).Nodup) (rd : Reps K Z dts ws) : StOk K Z H ((vs ++ ws).map some) (ds.map AD.ent ++ dts.map Ent.sh) := by
  have lv := r.length
  have lw := rd.length
  have cs : ∀ {j : Nat} {e : Ent}, (ds.map AD.ent ++ dts.map Ent.sh)[j]? = some e → (∃ d, ds[j]? = some d ∧ e = d.ent ∧ ((vs ++ ws).map some)[j]? = (vs[j]?).map some) ∨ (∃ t l, dts[l]? = some t ∧ e = .sh t ∧ ((vs ++ ws).map some)[j]? = (ws[l]?).map some) := fun {j e} h => by
    by_cases hj : j < ds.length
    · rw [List.getElem?_append_left (by rw [List.length_map]; exact hj), List.getElem?_map] at h
      cases q : ds[j]? with
      | none => rw [q] at h; cases h
      | some d => rw [q] at h; exact .inl ⟨d, rfl, (Option.some.inj h).symm, by rw [List.getElem?_map, List.getElem?_append_left (by omega)]⟩
    · rw [List.getElem?_append_right (by rw [List.length_map]; omega), List.getElem?_map, List.length_map] at h
      cases q : dts[j - ds.length]? with
      | none => rw [q] at h; cases h
      | some d => rw [q] at h; exact .inr ⟨d, j - ds.length, q, (Option.some.inj h).symm, by rw [List.getElem?_map, List.getElem?_append_right (by omega), lv]⟩
  have co : ∀ {j : Nat} {t : T}, (ds.map AD.ent ++ dts.map Ent.sh)[j]? = some (.ow t) → ∃ i a, ds[j]? = some (.bo i t) ∧ ((vs ++ ws).map some)[j]? = some (some (.ref a)) ∧ σ[i]? = some (some (.ref a)) := fun {j t} h => by
    rcases cs h with ⟨d, h1, h2, h3⟩ | ⟨t', l, h1, h2, h3⟩
    · cases d with
      | va u => cases h2
      | bo i u =>
        cases h2
        obtain ⟨a, e1, e2⟩ := r.bo h1
        exact ⟨i, a, h1, by rw [h3, e1]; rfl, e2⟩
    · cases h2
  refine ⟨st.zh, st.nt, by simp [lv, lw], fun j t h => ?_, fun j t h => ?_, fun i j a t u h1 h2 h3 h4 => ?_⟩
  · rcases cs h with ⟨d, h1, h2, h3⟩ | ⟨t', l, h1, h2, h3⟩
    · cases d with
      | va u =>
        cases h2
        obtain ⟨v, e1, e2⟩ := r.va h1
        exact ⟨v, by rw [h3, e1]; rfl, e2⟩
      | bo i u => cases h2
    · cases h2
      obtain ⟨v, e1, e2⟩ := rd.at h1
      exact ⟨v, by rw [h3, e1]; rfl, e2⟩
  · obtain ⟨i, a, h1, h2, h3⟩ := co h
    obtain ⟨a', o, e1, e2, e3, e4⟩ := st.ow i t (hb j i t h1)
    rw [h3] at e1; cases e1
    exact ⟨a, o, h2, e2, e3, e4⟩
  · obtain ⟨i1, a1, p1, p2, p3⟩ := co h1
    obtain ⟨i2, a2, q1, q2, q3⟩ := co h2
    rw [p2] at h3; cases h3
    rw [q2] at h4; cases h4
    have e := st.ds i1 i2 a t u (hb _ _ _ p1) (hb _ _ _ q1) p3 q3
    subst e
    exact bos_at nd p1 q1
/-- back at the caller -/
theorem call_back {ds : List AD} {vs ws : List V} {dts : List T} {as' : List Ent} (st : StOk S.K Z H σ E) (r : AdsOk S.K Z σ ds vs) (hb : ∀ (j i : Nat) t, ds[j]? = some (.bo i t) → E[i]? = some (.ow t)) (nd : (bos ds).Nodup) (g : GoA S.K (ds.map AD.ent ++ dts.map Ent.sh) (vs ++ ws) Z H as' Z' H')
    (ho : ∀ (j i : Nat) t, ds[j]? = some (.bo i t) → ∃ u, as'[j]? = some (.ow u)) : Go S E σ Z H (updE E ds as') σ Z' H' := by
  have lv := r.length
  have own : ∀ {c}, Own ((vs ++ ws).map some) (ds.map AD.ent ++ dts.map Ent.sh) c → ∃ (j i : Nat) (t : T), ds[j]? = some (.bo i t) ∧ σ[i]? = some (some (.ref c)) := fun {c} ⟨j, t, h1, h2⟩ => by
    by_cases hj : j < ds.length
    · rw [List.getElem?_append_left (by rw [List.length_map]; exact hj), List.getElem?_map] at h1
      cases q : ds[j]? with
      | none => rw [q] at h1; cases h1
      | some d =>
        rw [q] at h1
        cases d with
        | va u => cases h1
        | bo i u =>
          obtain ⟨a, e1, e2⟩ := r.bo q
          rw [List.getElem?_map, List.getElem?_append_left (by omega), e1] at h2
          cases h2
          exact ⟨j, i, u, q, e2⟩
    · rw [List.getElem?_append_right (by rw [List.length_map]; omega), List.getElem?_map] at h1
      cases q : dts[j - (ds.map AD.ent).length]? with
      | none => rw [q] at h1; cases h1
      | some d => rw [q] at h1; cases h1
  have own' : ∀ {c}, Own ((vs ++ ws).map some) (ds.map AD.ent ++ dts.map Ent.sh) c → Own σ E c := fun {c} h => by
    obtain ⟨j, i, t, h1, h2⟩ := own h
    exact ⟨i, t, hb j i t h1, h2⟩
  have lt : ∀ {i : Nat} {t : T}, E[i]? = some (.ow t) → i < E.length := fun h => (List.getElem?_eq_some_iff.mp h).1
  -- an owned slot behind the call
  have ow : ∀ {l : Nat} {t : T}, (updE E ds as')[l]? = some (.ow t) → (l ∉ bos ds ∧ E[l]? = some (.ow t)) ∨ ∃ (j : Nat) (u : T), ds[j]? = some (.bo l u) ∧ as'[j]? = some (.ow t) := fun {l t} h => by
    by_cases hl : l ∈ bos ds
    · obtain ⟨j, u, h1⟩ := mem_bos.mp hl
      obtain ⟨v, h2⟩ := ho j l u h1
      have := updE_in (E := E) nd (lt (hb j l u h1)) h1 h2
      rw [this] at h; cases h
      exact .inr ⟨j, u, h1, h2⟩
    · rw [updE_out hl] at h; exact .inl ⟨hl, h⟩
  have slot : ∀ {j l : Nat} {u : T}, ds[j]? = some (.bo l u) → ((vs ++ ws).map some)[j]? = σ[l]? := fun {j l u} h => by
    obtain ⟨a, e1, e2⟩ := r.bo h
    have hj : j < vs.length := (List.getElem?_eq_some_iff.mp e1).1
    rw [List.getElem?_map, List.getElem?_append_left hj, e1, e2]; rfl
  have addr : ∀ {l : Nat} {t : T} {a : Addr}, (updE E ds as')[l]? = some (.ow t) → σ[l]? = some (some (.ref a)) → Own σ E a := fun {l t a} h e => by
    rcases ow h with ⟨_, h1⟩ | ⟨j, u, h1, _⟩
    · exact ⟨l, t, h1, e⟩
    · exact ⟨l, u, hb j l u h1, e⟩
  refine ⟨g.step.mono fun c h => own' h, ⟨g.st.zh, g.st.nt, by rw [updE_length]; exact st.len, fun l t h => ?_, fun l t h => ?_, fun i j a t u h1 h2 h3 h4 => ?_⟩, fun c ⟨l, t, h1, h2⟩ => .inl (addr h1 h2), fun _ _ => rfl⟩
  · have hl : l ∉ bos ds := fun hl => by
      obtain ⟨j, u, h1⟩ := mem_bos.mp hl
      obtain ⟨v, h2⟩ := ho j l u h1
      rw [updE_in (E := E) nd (lt (hb j l u h1)) h1 h2] at h; cases h
    rw [updE_out hl] at h
    obtain ⟨v, h1, h2⟩ := st.sh l t h
    exact ⟨v, h1, h2.mono g.step.zz⟩
  · rcases ow h with ⟨hl, h1⟩ | ⟨j, u, h1, h2⟩
    · obtain ⟨a, o, e1, e2, e3, e4⟩ := st.ow l t h1
      have no : ¬ Own ((vs ++ ws).map some) (ds.map AD.ent ++ dts.map Ent.sh) a := fun z => by
        obtain ⟨j, i, u, q1, q2⟩ := own z
        have := st.ds l i a t u h1 (hb j i u q1) e1 q2
        subst this
        exact hl (mem_bos.mpr ⟨j, u, q1⟩)
      refine ⟨a, o, e1, g.step.keep a o e2 no, ?_, e4.mono g.step.zz⟩
      cases q : Z' a with
      | none => rfl
      | some v =>
        rcases g.step.new a v q with z | z | z
        · rw [e3] at z; cases z
        · rw [e2] at z; cases z
        · exact absurd z no
    · have := g.st.ow j t h2
      rw [slot h1] at this
      exact this
  · obtain ⟨i1, t1, p1, p2⟩ := addr h1 h3
    have key : ∀ {l : Nat} {t : T}, (updE E ds as')[l]? = some (.ow t) → ∃ u, E[l]? = some (.ow u) := fun {l t} h => by
      rcases ow h with ⟨_, h1⟩ | ⟨j, u, h1, _⟩
      · exact ⟨t, h1⟩
      · exact ⟨u, hb j l u h1⟩
    obtain ⟨u1, k1⟩ := key h1
    obtain ⟨u2, k2⟩ := key h2
    exact st.ds i j a u1 u2 k1 k2 h3 h4
end
end Cw
end L2

set_option Elab.async false
set_option linter.all false
set_option maxRecDepth 100000
set_option maxHeartbeats 2000000
namespace L2
namespace Cw
open PySem PySem.Spec PyProof.Rows
/-- a def as its callers know it; dV: the defaults that fill up -/
structure DefOk (S : SS) (x : Str) (f : Addr) (fd : FuncData) (ps : List Str) (dV : List Value) : Prop where
  mg : S.mg x = some (.ref f)
  kp : PySem.W.keepIn S.K (.ref f) = true
  bd : Binds S.K fd ps dV
/-- e raises an error of the class at C -/
def EX (S : SS) (E : List Ent) (e : Expr) (C : Addr) (E' : List Ent) : Prop :=
  ∀ (W : WX) (Z H : Hp) (σ : St) (Q : VK), StOk S.K Z H σ E → (∀ H' Z', Go S E σ Z H E' σ Z' H' → W (.ref C) none σ H') → R S W e σ H Q
section
variable {K : PySem.W.Frag} {Z Z' H H' : Hp} {σ σ' : St} {E E' E1 E2 E3 : List Ent} {S : SS} {o : Oc}
theorem passLL {X : Cx} : Passes (L2.CX X.prog X.w) X (fun _ _ _ => False) := fun _ _ _ _ _ _ _ h => match h with
  | ⟨_, _, _, _, _, _, _, _, _, _, _, _, z⟩ => z.elim
section
variable {k : Nat} {f : Addr} {fd : FuncData} {ps : List Str} {dV : List Value} {dvs : List V} {dts : List T} {x : Str} {p pos : Pos} {e : Expr} {es : List Expr} {t : T} {ds : List AD} {as' : List Ent} {C : Addr}
theorem eg_call (D : DefOk S x f fd ps dV) (g : GlOk S x) (F : FnOk S.P S.w S.K S.mg S.base (L2.CX S.P S.w) k f fd ps (spOf S.K (ds.map AD.ent ++ dts.map Ent.sh) (.ret t as'))) (hk : k ≤ S.k) (hd : Vals dvs dV) (hdt : ∀ Z, Reps S.K Z dts dvs) (ha : EAb S E (e :: es) ds E1)
    (hb : ∀ (j i : Nat) t, ds[j]? = some (.bo i t) → E1[i]? = some (.ow t)) (nd : (bos ds).Nodup) (ho : ∀ (j i : Nat) t, ds[j]? = some (.bo i t) → ∃ u, as'[j]? = some (.ow u))
    (he : ∀ env, starEach (e :: es) env = (false, eval e env) :: starEach es env := by intro _; rfl) (hpl : ∀ env, (backTo pos (starEach es env)).any (·.1) = false := by intro _; rfl) : EG S E (.Call (.Name x p) (e :: es) [] pos) t (updE E1 ds as') := fun W Z H σ Q st kq => by
  refine R.mk (t := tCall (spOf S.K (ds.map AD.ent ++ dts.map Ent.sh) (.ret t as')) dvs (fun _ _ _ => False) (RA S W (e :: es))) (fun X hX => ?_) (ha W Z H σ _ st fun vs H1 Z1 g1 r1 => ⟨Z1, call_st g1.st r1 hb nd (hdt Z1), fun v H2 Z2 g2 r2 => kq v H2 Z2 (g1.trans (call_back g1.st r1 hb nd g2 ho)) r2⟩)
  have gg := g.at hX
  have pa := hX.pa (e :: es)
  have hr := hX.room.mono hk
  obtain ⟨A, s0, H0, env, outer, stack, ex, pn, xe, rfl⟩ := hX.ex
  exact pe_call (CX := L2.CX S.P S.w) F hr gg D.mg D.kp D.bd hd passLL pa g.h1 (he _) (hpl _)
theorem eab_all : ∀ {ts : List T} {vs : List V}, Reps K Z ts vs → AdsOk K Z σ (ts.map AD.va) vs
  | [], _, h => h.unnil
  | t :: ts, _, h => by obtain ⟨v, r, rfl, h1, h2⟩ := h.uncons; exact ⟨v, r, rfl, h1, eab_all h2⟩
theorem eab_of {ts : List T} (h : EAs S E es ts E1) : EAb S E es (ts.map AD.va) E1 := fun W Z H σ Q st k => h W Z H σ Q st fun vs H1 Z1 g r => k vs H1 Z1 g (eab_all r)
theorem va_get {ts : List T} {j i : Nat} {t : T} : (ts.map AD.va)[j]? ≠ some (.bo i t) := fun h => by
  rw [List.getElem?_map] at h
  cases q : ts[j]? with
  | none => rw [q] at h; cases h
  | some u => rw [q] at h; cases h
theorem bos_va : ∀ {ts : List T}, bos (ts.map AD.va) = []
  | [] => rfl
  | _ :: ts => bos_va (ts := ts)
theorem updE_va : ∀ {ts : List T} {as : List Ent}, updE E (ts.map AD.va) as = E
  | [], _ => by unfold updE; rfl
  | _ :: ts, [] => by simp [updE]
  | _ :: ts, _ :: as => by simp only [List.map_cons, updE]; exact updE_va
theorem ent_va : ∀ {ts : List T}, (ts.map AD.va).map AD.ent = ts.map Ent.sh
  | [] => rfl
  | _ :: ts => by simp only [List.map_cons]; rw [ent_va]; rfl
/-- nothing borrowed -/
theorem eg_callP {ts : List T} (D : DefOk S x f fd ps dV) (g : GlOk S x) (F : FnOk S.P S.w S.K S.mg S.base (L2.CX S.P S.w) k f fd ps (spOf S.K ((ts ++ dts).map Ent.sh) (.ret t as'))) (hk : k ≤ S.k) (hd : Vals dvs dV) (hdt : ∀ Z, Reps S.K Z dts dvs) (ha : EAs S E (e :: es) ts E1)
    (he : ∀ env, starEach (e :: es) env = (false, eval e env) :: starEach es env := by intro _; rfl) (hpl : ∀ env, (backTo pos (starEach es env)).any (·.1) = false := by intro _; rfl) : EG S E (.Call (.Name x p) (e :: es) [] pos) t E1 := by
  have := eg_call (ds := ts.map AD.va) (dts := dts) (as' := as') (pos := pos) (p := p) D g (by rw [ent_va, ← List.map_append]; exact F) hk hd hdt (eab_of ha) (fun _ _ _ z => absurd z va_get) (by rw [bos_va]; exact List.nodup_nil) (fun _ _ _ z => absurd z va_get) he hpl
  rw [updE_va] at this
  exact this
theorem eg_callP0 {ts : List T} (D : DefOk S x f fd ps []) (g : GlOk S x) (F : FnOk S.P S.w S.K S.mg S.base (L2.CX S.P S.w) k f fd ps (spOf S.K (ts.map Ent.sh) (.ret t as'))) (hk : k ≤ S.k) (ha : EAs S E (e :: es) ts E1)
    (he : ∀ env, starEach (e :: es) env = (false, eval e env) :: starEach es env := by intro _; rfl) (hpl : ∀ env, (backTo pos (starEach es env)).any (·.1) = false := by intro _; rfl) : EG S E (.Call (.Name x p) (e :: es) [] pos) t E1 :=
  eg_callP (dts := []) (dvs := []) D g (by rw [List.append_nil]; exact F) hk .nil (fun _ => .nil) ha he hpl
/-- f() -/
theorem eg_call0 (D : DefOk S x f fd ps []) (g : GlOk S x) (F : FnOk S.P S.w S.K S.mg S.base (L2.CX S.P S.w) k f fd ps (spOf S.K [] (.ret t as'))) (hk : k ≤ S.k) : EG S E (.Call (.Name x p) [] [] pos) t E := fun W Z H σ Q st kq => by
  have r1 : AdsOk S.K Z σ ([] : List AD) [] := rfl
  refine R.mk (t := tCall (spOf S.K [] (.ret t as')) [] (fun _ _ _ => False) tNil) (fun X hX => ?_) (show spOf S.K [] (.ret t as') ([] ++ []) H Q (fun _ _ _ => False) from ⟨Z, call_st (ds := []) (dts := []) st r1 (fun _ _ _ z => by simp at z) List.nodup_nil .nil, fun v H2 Z2 g2 r2 => kq v H2 Z2 ?_ r2⟩)
  · have gg := g.at hX
    have hr := hX.room.mono hk
    obtain ⟨A, s0, H0, env, outer, stack, ex, pn, xe, rfl⟩ := hX.ex
    exact pe_call0 (CX := L2.CX S.P S.w) F hr gg D.mg D.kp D.bd .nil passLL g.h1
  · have := call_back (ds := []) (dts := []) (ws := []) st r1 (fun _ _ _ z => by simp at z) List.nodup_nil g2 (fun _ _ _ z => by simp at z)
    simpa [updE] using this

/-! ### what is raised -/
theorem run_fnSD {X : Cx} {CX : CXT} {sp : Sp} {Ex : XK} {pins : List (Addr × Obj)} {s : Shared} {Q : VK} {us : List Value} {vs : List V} (F : FnOk X.prog X.w X.K X.mg X.base CX k f fd ps sp) (hr : Room k X.A) (hb : Binds X.K fd ps dV) (hd : Vals dvs dV) (hx : PassesAt CX X σ Ex)
    (I : Inv X pins σ H s) (r : Vals vs us) (h : sp (vs ++ dvs) H Q Ex) : wpAny (model X.prog X.w) X.A (call (.ref f) us) (EP X pins σ Q) X.xe s := by
  have r2 : Vals (vs ++ dvs) (us ++ dV) := r.append hd
  have hl : (us ++ dV).length = ps.length := by rw [← r2.length]; exact F.len _ _ _ _ h
  refine wpAny_call (codeAny_mono (F.run X.A X.stack s H ⟨us, []⟩ (us ++ dV) (vs ++ dvs) Q Ex hr I.env0 (hb s us I.kIn hl) r2 h) fun r s' hq => ?_)
  cases r with
  | error bad => exact hx pins H s bad s' I hq
  | ok fl =>
    cases fl with
    | ret u => exact I.after hq
    | next => exact False.elim hq
    | brk => exact False.elim hq
    | cont => exact False.elim hq
theorem ex_call (D : DefOk S x f fd ps dV) (g : GlOk S x) (F : FnOk S.P S.w S.K S.mg S.base (L2.CX S.P S.w) k f fd ps (spOf S.K (ds.map AD.ent ++ dts.map Ent.sh) (.exc C as'))) (hk : k ≤ S.k) (hd : Vals dvs dV) (hdt : ∀ Z, Reps S.K Z dts dvs) (ha : EAb S E (e :: es) ds E1)
    (hb : ∀ (j i : Nat) t, ds[j]? = some (.bo i t) → E1[i]? = some (.ow t)) (nd : (bos ds).Nodup) (ho : ∀ (j i : Nat) t, ds[j]? = some (.bo i t) → ∃ u, as'[j]? = some (.ow u))
    (he : ∀ env, starEach (e :: es) env = (false, eval e env) :: starEach es env := by intro _; rfl) (hpl : ∀ env, (backTo pos (starEach es env)).any (·.1) = false := by intro _; rfl) : EX S E (.Call (.Name x p) (e :: es) [] pos) C (updE E1 ds as') := fun W Z H σ Q st kq => by
  intro X hX pins s I
  have gg := g.at hX
  have pa := hX.pa (e :: es)
  have hr := hX.room.mono hk
  have tk := hX.tk
  obtain ⟨A, s0, H0, env, outer, stack, ex, pn, xe, rfl⟩ := hX.ex
  refine wpAny_Call_Name_kw (ld_glob I gg D.mg ?_ g.h1)
  refine PySem.W.callWith_K (h₀ := S.base) I.ok.mod.kin D.kp (thn (pa.run pos pins s σ H (fun vs H' => spOf S.K (ds.map AD.ent ++ dts.map Ent.sh) (.exc C as') (vs ++ dvs) H' Q (fun cls d H'' => W cls d σ H'')) I (ha W Z H σ _ st fun vs H1 Z1 g1 r1 => ⟨Z1, call_st g1.st r1 hb nd (hdt Z1), fun H2 Z2 g2 => kq H2 Z2 (g1.trans (call_back g1.st r1 hb nd g2 ho))⟩)) fun us s1 ⟨vs, H1, I1, r, q⟩ => ⟨I1.kIn, ?_⟩) (he _) (hpl _)
  exact run_fnSD F hr D.bd hd (passAt tk σ) I1 r q
theorem ex_callP {ts : List T} (D : DefOk S x f fd ps dV) (g : GlOk S x) (F : FnOk S.P S.w S.K S.mg S.base (L2.CX S.P S.w) k f fd ps (spOf S.K ((ts ++ dts).map Ent.sh) (.exc C as'))) (hk : k ≤ S.k) (hd : Vals dvs dV) (hdt : ∀ Z, Reps S.K Z dts dvs) (ha : EAs S E (e :: es) ts E1)
    (he : ∀ env, starEach (e :: es) env = (false, eval e env) :: starEach es env := by intro _; rfl) (hpl : ∀ env, (backTo pos (starEach es env)).any (·.1) = false := by intro _; rfl) : EX S E (.Call (.Name x p) (e :: es) [] pos) C E1 := by
  have := ex_call (ds := ts.map AD.va) (dts := dts) (as' := as') (pos := pos) (p := p) D g (by rw [ent_va, ← List.map_append]; exact F) hk hd hdt (eab_of ha) (fun _ _ _ z => absurd z va_get) (by rw [bos_va]; exact List.nodup_nil) (fun _ _ _ z => absurd z va_get) he hpl
  rw [updE_va] at this
  exact this
theorem ex_callP0 {ts : List T} (D : DefOk S x f fd ps []) (g : GlOk S x) (F : FnOk S.P S.w S.K S.mg S.base (L2.CX S.P S.w) k f fd ps (spOf S.K (ts.map Ent.sh) (.exc C as'))) (hk : k ≤ S.k) (ha : EAs S E (e :: es) ts E1)
    (he : ∀ env, starEach (e :: es) env = (false, eval e env) :: starEach es env := by intro _; rfl) (hpl : ∀ env, (backTo pos (starEach es env)).any (·.1) = false := by intro _; rfl) : EX S E (.Call (.Name x p) (e :: es) [] pos) C E1 :=
  ex_callP (dts := []) (dvs := []) D g (by rw [List.append_nil]; exact F) hk .nil (fun _ => .nil) ha he hpl
end
theorem sg_retX {e : Expr} {C : Addr} {pos : Pos} (h : EX S E e C E1) : SG S E (.Return (some e) pos) (.exc C E1) := fun W Z H σ D s k =>
  RSt.mk (t := tRet (R S W e)) (fun X hX => ps_ret (hX.pe e)) (h W Z H σ _ s fun H1 Z1 g1 => k _ _ _ g1)
theorem sg_exprX {e : Expr} {C : Addr} {pos : Pos} (h : EX S E e C E1) (hs : ∀ env, swapsWith e none pos.line env = pure false := by intro _; rfl) : SG S E (.Expr e pos) (.exc C E1) := fun W Z H σ D s k =>
  RSt.mk (t := tDrop (R S W e)) (fun X hX => ps_expr (hX.pe e) (hs _)) (h W Z H σ _ s fun H1 Z1 g1 => k _ _ _ g1)
theorem sg_asgX {tg e : Expr} {C : Addr} {pos : Pos} (h : EX S E e C E1) (hg : ∀ W X, S.Has W X → ∃ g, PG X tg g) (hs : ∀ env, swapsWithSole [tg] e pos.line env = pure false := by intro _; rfl) (hw : ∀ env, swappedStores [tg] e env = pure none := by intro _; rfl) (h1 : ∀ env, (assignEach [tg] env).map (·.2) = [assign tg env] := by intro _; rfl) : SG S E (.Assign [tg] e pos) (.exc C E1) := fun W Z H σ D s k =>
  RSt.mk (t := tAsg (R S W e) (RG S W tg)) (fun X hX => ps_asg (hX.pe e) (hX.pg tg) (hs _) (hw _) (h1 _)) (h W Z H σ _ s fun H1 Z1 g1 => k _ _ _ g1)
/-- what an error class is -/
structure ExcOk (S : SS) (x : Str) (C : Addr) : Prop where
  mg : S.mg x = some (.ref C)
  xc : PySem.W.excIn S.K C [.type "ValueError", .type "Exception", .type "BaseException", .type "object"] "ValueError.__new__" = true
  kp : PySem.W.keepIn S.K (.ref C) = true
  sb : PySem.W.subIn S.K (.ref C) (.type "BaseException") = some true
  ty : PySem.W.typeIn S.K (.ref C) = some (.type "type")
theorem sg_raise {x m : Str} {j : Nat} {p p2 pos pos' : Pos} {C : Addr} (xo : ExcOk S x C) (g : GlOk S x) : SG S E (.Raise (some (.Call (.Name x p) [.Constant (.str m) j p2] [] pos)) none pos') (.exc C E) := fun W Z H σ D s k => by
  refine RSt.mk (t := fun _ σ H => W (.ref C) none σ H) (fun X hX => ?_) (k _ _ _ (Go.refl s))
  have gg := g.at hX
  have tk := hX.tk
  obtain ⟨A, s0, H0, env, outer, stack, ex, pn, xe, rfl⟩ := hX.ex
  exact ps_raise rfl tk (pmk_own PySem.F.excBase_ValueError xo.xc xo.mg xo.kp (raises_own xo.sb xo.ty) gg g.h1)
end
end Cw
end L2

set_option Elab.async false
set_option linter.all false
set_option maxRecDepth 100000
set_option maxHeartbeats 2000000
namespace L2
namespace Cw
open PySem PySem.Spec PyProof.Rows
section
variable {w : World} {P : Program} {base : Heap} {K : PySem.W.Frag} {mg : Str → Option Value}
/-- called with ts (that stand still) it gives t -/
def Gives (P : Program) (w : World) (K : PySem.W.Frag) (mg : Str → Option Value) (base : Heap) (k : Nat) (f : Addr) (fd : FuncData) (ps : List Str) (ts : List T) (t : T) : Prop := FnOk P w K mg base (L2.CX P w) k f fd ps (spOf K (ts.map Ent.sh) (.ret t (ts.map Ent.sh)))
/-- called with ts it raises an error of the class at C -/
def Errs (P : Program) (w : World) (K : PySem.W.Frag) (mg : Str → Option Value) (base : Heap) (k : Nat) (f : Addr) (fd : FuncData) (ps : List Str) (ts : List T) (C : Addr) : Prop := FnOk P w K mg base (L2.CX P w) k f fd ps (spOf K (ts.map Ent.sh) (.exc C (ts.map Ent.sh)))
abbrev defP (P : Program) (w : World) (K : PySem.W.Frag) (mg : Str → Option Value) (base : Heap) (k : Nat) (N : List Str) (sc : Scope) : SS := ⟨P, w, K, mg, base, k, N, sc, fun _ => true, []⟩
theorem pins_sh {ts : List T} : pins (ts.map Ent.sh) = [] := by
  refine List.filter_eq_nil_iff.mpr fun j hj => ?_
  rw [List.getElem?_map]
  cases ts[j]? <;> simp [isOw]
theorem sh_all {ts : List T} : ∀ e ∈ ts.map Ent.sh, isOw e = false := fun e he => by
  obtain ⟨t, _, rfl⟩ := List.mem_map.mp he
  rfl
theorem gives_of {x qual : Str} {st : Stmt} {f : Addr} {fd : FuncData} {N ps : List Str} {k : Nat} {ts : List T} {t : T} (F : FunA K x qual st f fd) (Sc : FnScope N ps (defScope st)) (hl : ts.length = ps.length)
    (hb : ∃ E', SGs (defP P w K mg base k N (defScope st)) (entry N (ts.map Ent.sh)) (defBody st) (.ret t E')) : Gives P w K mg base (k + 1) f fd ps ts t := by
  obtain ⟨E', hb⟩ := hb
  refine fn_ok (N := N) (o := .ret t E') F Sc (by rw [List.length_map]; exact hl) (.ret (.all sh_all)) ?_
  unfold defS
  rw [pins_sh]
  exact hb
theorem gives_nx {x qual : Str} {st : Stmt} {f : Addr} {fd : FuncData} {N ps : List Str} {k : Nat} {ts : List T} (F : FunA K x qual st f fd) (Sc : FnScope N ps (defScope st)) (hl : ts.length = ps.length)
    (hb : ∃ E', SGs (defP P w K mg base k N (defScope st)) (entry N (ts.map Ent.sh)) (defBody st) (.nx E')) : Gives P w K mg base (k + 1) f fd ps ts .non := by
  obtain ⟨E', hb⟩ := hb
  refine fn_ok (N := N) (o := .nx E') F Sc (by rw [List.length_map]; exact hl) (.nx (.all sh_all)) ?_
  unfold defS
  rw [pins_sh]
  exact hb
theorem errs_of {x qual : Str} {st : Stmt} {f : Addr} {fd : FuncData} {N ps : List Str} {k : Nat} {ts : List T} {C : Addr} (F : FunA K x qual st f fd) (Sc : FnScope N ps (defScope st)) (hl : ts.length = ps.length)
    (hb : ∃ E', SGs (defP P w K mg base k N (defScope st)) (entry N (ts.map Ent.sh)) (defBody st) (.exc C E')) : Errs P w K mg base (k + 1) f fd ps ts C := by
  obtain ⟨E', hb⟩ := hb
  refine fn_ok (N := N) (o := .exc C E') F Sc (by rw [List.length_map]; exact hl) (.exc (.all sh_all)) ?_
  unfold defS
  rw [pins_sh]
  exact hb
theorem Gives.mono {j k : Nat} {f : Addr} {fd : FuncData} {ps : List Str} {ts : List T} {t : T} (h : Gives P w K mg base j f fd ps ts t) (hk : j ≤ k) : Gives P w K mg base k f fd ps ts t := FnOk.mono h hk
end
section
variable {K : PySem.W.Frag} {E E1 E2 : List Ent} {S : SS} {k : Nat} {f : Addr} {fd : FuncData} {ps : List Str} {dV : List Value} {dvs : List V} {ts dts : List T} {x : Str} {p pos : Pos} {e : Expr} {es : List Expr} {t : T} {C : Addr}
theorem eg_fn (D : DefOk S x f fd ps []) (g : GlOk S x) (F : Gives S.P S.w S.K S.mg S.base k f fd ps ts t) (hk : k ≤ S.k) (ha : EAs S E (e :: es) ts E1)
    (he : ∀ env, starEach (e :: es) env = (false, eval e env) :: starEach es env := by intro _; rfl) (hpl : ∀ env, (backTo pos (starEach es env)).any (·.1) = false := by intro _; rfl) : EG S E (.Call (.Name x p) (e :: es) [] pos) t E1 := eg_callP0 D g F hk ha he hpl
theorem eg_fnD (D : DefOk S x f fd ps dV) (g : GlOk S x) (F : Gives S.P S.w S.K S.mg S.base k f fd ps (ts ++ dts) t) (hk : k ≤ S.k) (hd : Vals dvs dV) (hdt : ∀ Z, Reps S.K Z dts dvs) (ha : EAs S E (e :: es) ts E1)
    (he : ∀ env, starEach (e :: es) env = (false, eval e env) :: starEach es env := by intro _; rfl) (hpl : ∀ env, (backTo pos (starEach es env)).any (·.1) = false := by intro _; rfl) : EG S E (.Call (.Name x p) (e :: es) [] pos) t E1 := eg_callP D g F hk hd hdt ha he hpl
theorem ex_fn (D : DefOk S x f fd ps []) (g : GlOk S x) (F : Errs S.P S.w S.K S.mg S.base k f fd ps ts C) (hk : k ≤ S.k) (ha : EAs S E (e :: es) ts E1)
    (he : ∀ env, starEach (e :: es) env = (false, eval e env) :: starEach es env := by intro _; rfl) (hpl : ∀ env, (backTo pos (starEach es env)).any (·.1) = false := by intro _; rfl) : EX S E (.Call (.Name x p) (e :: es) [] pos) C E1 := ex_callP0 D g F hk ha he hpl
end
end Cw
end L2

set_option Elab.async false
set_option linter.all false
set_option maxRecDepth 100000
set_option maxHeartbeats 2000000
namespace L2
namespace Cw
open PySem PySem.Spec PyProof.Rows
mutual
def toD : T → PyData
  | .non => .none
  | .bl b => .bool b
  | .int i => .int i
  | .str s => .str s
  | .tup ts => .tuple (toDs ts)
  | .wtup ts => .tuple (toDs ts)
  | .lst ts => .list (toDs ts)
  | .slst ts => .list (toDs ts)
  | .fn _ => .none
  | .dicK _ _ => .none
  | .ext _ _ _ => .none
  | .ins _ _ _ => .none
def toDs : List T → List PyData
  | [] => []
  | t :: ts => toD t :: toDs ts
end
/-- plain data, nested at most n deep -/
def DOk : Nat → T → Prop
  | _, .non => True
  | _, .bl _ => True
  | _, .int _ => True
  | _, .str s => PyData.strOk s = true
  | n + 1, .tup ts => ∀ t ∈ ts, DOk n t
  | n + 1, .wtup ts => ∀ t ∈ ts, DOk n t
  | n + 1, .lst ts => ∀ t ∈ ts, DOk n t
  | n + 1, .slst ts => ∀ t ∈ ts, DOk n t
  | _, _ => False
def teq (t u : T) : Bool := PyData.eqv (toD t) (toD u)
section
variable {K : PySem.W.Frag} {Z Z' H H' : Hp} {σ σ' : St} {E E' E1 E2 E3 : List Ent} {S : SS} {o : Oc}
theorem dOk_spec : ∀ (n : Nat) (t : T), DOk n t → (toD t).canLay0 = true ∧ (toD t).depth ≤ n ∧ ∀ {Z H : Hp} {v : V}, Same Z H → Rep K Z t v → Dp K H v (toD t) := by
  intro n
  induction n with
  | zero =>
    intro t h
    cases t with
    | non => exact ⟨rfl, by simp [toD, PyData.depth], fun zh r => by rw [rep_non.mp r]; exact .non⟩
    | bl b => exact ⟨rfl, by simp [toD, PyData.depth], fun zh r => by rw [rep_bl.mp r]; exact .bl b⟩
    | int b => exact ⟨rfl, by simp [toD, PyData.depth], fun zh r => by rw [rep_int.mp r]; exact .int b⟩
    | str b => exact ⟨by simpa [toD, PyData.canLay0] using (show PyData.strOk b = true from h), by simp [toD, PyData.depth], fun zh r => by rw [rep_str.mp r]; exact .str b⟩
    | _ => exact (show False from h).elim
  | succ n ih =>
    have all : ∀ ts : List T, (∀ t ∈ ts, DOk n t) → PyData.canLayAll0 (toDs ts) = true ∧ PyData.depthAll (toDs ts) ≤ n ∧ ∀ {Z H : Hp} {vs : List V}, Same Z H → Reps K Z ts vs → DpAll K H vs (toDs ts) := by
      intro ts
      induction ts with
      | nil => exact fun _ => ⟨rfl, by simp [toDs, PyData.depthAll], fun zh r => by rw [r.unnil]; exact .nil⟩
      | cons t ts ih2 =>
        intro h
        obtain ⟨a1, a2, a3⟩ := ih t (h t List.mem_cons_self)
        obtain ⟨b1, b2, b3⟩ := ih2 fun u hu => h u (List.mem_cons_of_mem _ hu)
        refine ⟨by simp [toDs, PyData.canLayAll0, a1, b1], by simp only [toDs, PyData.depthAll]; omega, fun zh r => ?_⟩
        obtain ⟨v, vr, rfl, r1, r2⟩ := r.uncons
        exact .cons (a3 zh r1) (b3 zh r2)
    intro t h
    cases t with
    | non => exact ⟨rfl, by simp [toD, PyData.depth], fun zh r => by rw [rep_non.mp r]; exact .non⟩
    | bl b => exact ⟨rfl, by simp [toD, PyData.depth], fun zh r => by rw [rep_bl.mp r]; exact .bl b⟩
    | int b => exact ⟨rfl, by simp [toD, PyData.depth], fun zh r => by rw [rep_int.mp r]; exact .int b⟩
    | str b => exact ⟨by simpa [toD, PyData.canLay0] using (show PyData.strOk b = true from h), by simp [toD, PyData.depth], fun zh r => by rw [rep_str.mp r]; exact .str b⟩
    | tup ts =>
      obtain ⟨a1, a2, a3⟩ := all ts h
      refine ⟨by simpa [toD, PyData.canLay0] using a1, by simp only [toD, PyData.depth]; omega, fun zh r => ?_⟩
      obtain ⟨a, vs, rfl, h1, h2⟩ := rep_tup.mp r
      exact .tup (.inl (.inl (zh _ _ h1))) (a3 zh h2)
    | wtup ts =>
      obtain ⟨a1, a2, a3⟩ := all ts h
      refine ⟨by simpa [toD, PyData.canLay0] using a1, by simp only [toD, PyData.depth]; omega, fun zh r => ?_⟩
      obtain ⟨a, vs, rfl, h1, h2⟩ := rep_wtup.mp r
      exact .tup (Same_tup zh h1) (a3 zh h2)
    | lst ts =>
      obtain ⟨a1, a2, a3⟩ := all ts h
      refine ⟨by simpa [toD, PyData.canLay0] using a1, by simp only [toD, PyData.depth]; omega, fun zh r => ?_⟩
      obtain ⟨a, vs, rfl, h1, h2⟩ := rep_lst.mp r
      exact .lst (.inl (.inl (zh _ _ h1))) (a3 zh h2)
    | slst ts =>
      obtain ⟨a1, a2, a3⟩ := all ts h
      refine ⟨by simpa [toD, PyData.canLay0] using a1, by simp only [toD, PyData.depth]; omega, fun zh r => ?_⟩
      obtain ⟨a, vs, rfl, h1, h2⟩ := rep_slst.mp r
      exact .lst (zh.seq h1) (a3 zh h2)
    | _ => exact (show False from h).elim
theorem dOk_shaped {n : Nat} {t : T} (h : DOk n t) (hn : n ≤ 64) : SeqAt.shaped (toD t) = true := by
  obtain ⟨a, b, _⟩ := dOk_spec (K := ([] : List (Addr × Obj))) n t h
  unfold SeqAt.shaped
  rw [a, decide_eq_true (Nat.le_trans b hn)]
  rfl
def rEqN (K : PySem.W.Frag) (neg : Bool) : R2 := fun x y H Q => ∃ d e, Dp K H x d ∧ Dp K H y e ∧ SeqAt.shaped d = true ∧ SeqAt.shaped e = true ∧ Q (.bl (if neg then !PyData.eqv d e else PyData.eqv d e)) H
theorem opg_eqD {n : Nat} {t u : T} (hn : n ≤ 64) (h1 : DOk n t) (h2 : DOk n u) : OpG S (rEqD S.K) t u (.bl (teq t u)) := fun E Z H σ v w Q st r1 r2 k =>
  ⟨toD t, toD u, (dOk_spec n t h1).2.2 st.zh r1, (dOk_spec n u h2).2.2 st.zh r2, dOk_shaped h1 hn, dOk_shaped h2 hn, k _ _ _ (Go.refl st) (rep_bl.mpr rfl)⟩
theorem opg_neD {n : Nat} {t u : T} (hn : n ≤ 64) (h1 : DOk n t) (h2 : DOk n u) : OpG S (rNeD S.K) t u (.bl (!teq t u)) := fun E Z H σ v w Q st r1 r2 k =>
  ⟨toD t, toD u, (dOk_spec n t h1).2.2 st.zh r1, (dOk_spec n u h2).2.2 st.zh r2, dOk_shaped h1 hn, dOk_shaped h2 hn, k _ _ _ (Go.refl st) (rep_bl.mpr rfl)⟩
section
variable {a b : Expr} {pos : Pos} {t u : T} {n : Nat}
theorem eg_eq (ha : EG S E a t E1) (hb : EG S E1 b u E2) (h1 : DOk n t) (h2 : DOk n u) (hn : n ≤ 64 := by decide) (hm : behindInMarks .Eq b = false := by exact nomark _) : EG S E (.Compare a [.Eq] [b] pos) (.bl (teq t u)) E2 := eg_cmp (r := rEqD S.K) (fun W X hX => by rw [← hX.kk]; exact op_eqD hX.room.units) (opg_eqD hn h1 h2) ha hb hm
theorem eg_ne (ha : EG S E a t E1) (hb : EG S E1 b u E2) (h1 : DOk n t) (h2 : DOk n u) (hn : n ≤ 64 := by decide) (hm : behindInMarks .NotEq b = false := by exact nomark _) : EG S E (.Compare a [.NotEq] [b] pos) (.bl (!teq t u)) E2 := eg_cmp (r := rNeD S.K) (fun W X hX => by rw [← hX.kk]; exact op_neD hX.room.units) (opg_neD hn h1 h2) ha hb hm
theorem tt_eq (ha : EG S E a t E1) (hb : EG S E1 b u E2) (h1 : DOk n t) (h2 : DOk n u) (hn : n ≤ 64 := by decide) (hm : behindInMarks .Eq b = false := by exact nomark _) : TtG S E (.Compare a [.Eq] [b] pos) (teq t u) E2 := tg_cmp (r := rEqD S.K) (fun W X hX => by rw [← hX.kk]; exact op_eqD hX.room.units) (opg_eqD hn h1 h2) ha hb hm
theorem tt_ne (ha : EG S E a t E1) (hb : EG S E1 b u E2) (h1 : DOk n t) (h2 : DOk n u) (hn : n ≤ 64 := by decide) (hm : behindInMarks .NotEq b = false := by exact nomark _) : TtG S E (.Compare a [.NotEq] [b] pos) (!teq t u) E2 := tg_cmp (r := rNeD S.K) (fun W X hX => by rw [← hX.kk]; exact op_neD hX.room.units) (opg_neD hn h1 h2) ha hb hm
/-- scalars -/
def scT : T → Bool
  | .non => true
  | .bl _ => true
  | .int _ => true
  | .str _ => true
  | _ => false
variable {i j : Int}
theorem tt_lt (ha : EG S E a (.int i) E1) (hb : EG S E1 b (.int j) E2) (hm : behindInMarks .Lt b = false := by exact nomark _) : TtG S E (.Compare a [.Lt] [b] pos) (decide (i < j)) E2 := tg_cmp (fun _ _ _ => op_lt) (opg_rI0 fun _ => rep_bl.mpr rfl) ha hb hm
theorem tt_le (ha : EG S E a (.int i) E1) (hb : EG S E1 b (.int j) E2) (hm : behindInMarks .LtE b = false := by exact nomark _) : TtG S E (.Compare a [.LtE] [b] pos) (decide (i ≤ j)) E2 := tg_cmp (fun _ _ _ => op_le) (opg_rI0 fun _ => rep_bl.mpr rfl) ha hb hm
theorem tt_gt (ha : EG S E a (.int i) E1) (hb : EG S E1 b (.int j) E2) (hm : behindInMarks .Gt b = false := by exact nomark _) : TtG S E (.Compare a [.Gt] [b] pos) (decide (j < i)) E2 := tg_cmp (fun _ _ _ => op_gt) (opg_rI0 fun _ => rep_bl.mpr rfl) ha hb hm
theorem tt_ge (ha : EG S E a (.int i) E1) (hb : EG S E1 b (.int j) E2) (hm : behindInMarks .GtE b = false := by exact nomark _) : TtG S E (.Compare a [.GtE] [b] pos) (decide (j ≤ i)) E2 := tg_cmp (fun _ _ _ => op_ge) (opg_rI0 fun _ => rep_bl.mpr rfl) ha hb hm
/-- a op1 b op2 c -/
theorem tt_chain {c : Expr} {op op' : CmpOp} {ta tb tc : T} {r r' : R2} {c1 c2 : Bool} (ho : ∀ W X, S.Has W X → OpR X (compareOp op) r) (ho' : ∀ W X, S.Has W X → OpR X (compareOp op') r') (hr : OpG S r ta tb (.bl c1)) (hr' : OpG S r' tb tc (.bl c2)) (ha : EG S E a ta E) (hb : EG S E b tb E) (hc : c1 = true → EG S E c tc E)
    (hm : lastMarks [op, op'] [b, c] = false := by with_unfolding_all rfl) : TtG S E (.Compare a [op, op'] [b, c] pos) (c1 && c2) E := fun W Z H σ Q st k => by
  refine RT.mk (t := tTest (tChain r r' (R S W a) (R S W b) (R S W c))) (fun X hX => pt_chain (ho W X hX) (ho' W X hX) (hX.pe a) (hX.pe b) (hX.pe c) hm) (ha W Z H σ _ st fun v H1 Z1 g1 r1 => hb W Z1 H1 σ _ g1.st fun u H2 Z2 g2 r2 => hr _ _ _ _ _ _ _ g2.st (r1.mono g2.step.zz) r2 fun w H3 Z3 g3 r3 => ⟨c1, rep_bl.mp r3, ?_⟩)
  cases c1 with
  | true => exact iteT (hc rfl W Z3 H3 σ _ g3.st fun y H4 Z4 g4 r4 => hr' _ _ _ _ _ _ _ g4.st ((r2.mono g3.step.zz).mono g4.step.zz) r4 fun w' H5 Z5 g5 r5 => ⟨c2, rep_bl.mp r5, k _ _ ((((g1.trans g2).trans g3).trans g4).trans g5)⟩)
  | false => exact iteF ⟨false, rfl, k _ _ ((g1.trans g2).trans g3)⟩
end
end
theorem teq_refl {n : Nat} {t : T} (h : DOk n t) : teq t t = true := SeqAt.eqv_refl _ (dOk_spec (K := ([] : List (Addr × Obj))) n t h).1
theorem teq_int {i j : Int} : teq (.int i) (.int j) = (i == j) := by simp [teq, toD, PyData.eqv]
theorem teq_str {i j : Str} : teq (.str i) (.str j) = (i == j) := by simp [teq, toD, PyData.eqv]
end Cw
end L2

set_option Elab.async false
set_option linter.all false
set_option maxRecDepth 100000
set_option maxHeartbeats 2000000
namespace L2
namespace Cw
open PySem PySem.Spec PyProof.Rows
section
variable {K : PySem.W.Frag} {Z Z' H H' : Hp} {σ σ' : St} {E E' E1 E2 E3 : List Ent} {S : SS} {o : Oc}
theorem noOw_nil : NoOw E [] := fun j hj => by simp at hj
/-- each item gives one, the slots known ahead are as they were -/
theorem LcTurns.map {vs : List Nat} {tg elt : Expr} {f : T → T} : ∀ {ts : List T}, (∀ t ∈ ts, ∃ Ea Eb ws, AG S (wipeE E vs) tg t Ea ws ∧ (∀ j ∈ ws, j ∈ vs) ∧ EG S Ea elt (f t) Eb ∧ wipeE Eb vs = wipeE E vs) → LcTurns S vs tg [] elt E ts (ts.map f) E
  | [], _ => .nil
  | t :: ts, h => by
    obtain ⟨Ea, Eb, ws, h1, h2, h3, h4⟩ := h t List.mem_cons_self
    exact .take h1 h2 tgs_nil h3 h4 (fun _ _ => rfl) (LcTurns.map fun u hu => h u (List.mem_cons_of_mem _ hu))
/-- .. where it is kept -/
theorem LcTurns.filter {vs : List Nat} {tg elt c : Expr} {f : T → T} {b : T → Bool} : ∀ {ts : List T}, (∀ t ∈ ts, ∃ Ea Eb Ec ws, AG S (wipeE E vs) tg t Ea ws ∧ (∀ j ∈ ws, j ∈ vs) ∧ TtG S Ea c (b t) Eb ∧ wipeE Eb vs = wipeE E vs ∧ (b t = true → EG S Eb elt (f t) Ec ∧ wipeE Ec vs = wipeE E vs)) → LcTurns S vs tg [c] elt E ts ((ts.filter b).map f) E
  | [], _ => .nil
  | t :: ts, h => by
    obtain ⟨Ea, Eb, Ec, ws, h1, h2, h3, h4, h5⟩ := h t List.mem_cons_self
    have r := LcTurns.filter (f := f) (b := b) fun u hu => h u (List.mem_cons_of_mem _ hu)
    cases e : b t with
    | true =>
      rw [e] at h3
      rw [List.filter_cons_of_pos e, List.map_cons]
      exact .take h1 h2 (tgs_one h3) (h5 e).1 (h5 e).2 (fun _ _ => rfl) r
    | false =>
      rw [e] at h3
      rw [List.filter_cons_of_neg (by rw [e]; exact Bool.false_ne_true)]
      exact .skip h1 h2 (tgs_one h3) h4 (fun _ _ => rfl) r
/-- typed: xs stand for the items -/
theorem LcTurns.mapT {α : Type} {toT : α → T} {vs : List Nat} {tg elt : Expr} {f : α → T} : ∀ {xs : List α}, (∀ x ∈ xs, ∃ Ea Eb ws, AG S (wipeE E vs) tg (toT x) Ea ws ∧ (∀ j ∈ ws, j ∈ vs) ∧ EG S Ea elt (f x) Eb ∧ wipeE Eb vs = wipeE E vs) → LcTurns S vs tg [] elt E (xs.map toT) (xs.map f) E
  | [], _ => .nil
  | t :: ts, h => by
    obtain ⟨Ea, Eb, ws, h1, h2, h3, h4⟩ := h t List.mem_cons_self
    exact .take h1 h2 tgs_nil h3 h4 (fun _ _ => rfl) (LcTurns.mapT fun u hu => h u (List.mem_cons_of_mem _ hu))
theorem LcTurns.filterT {α : Type} {toT : α → T} {vs : List Nat} {tg elt c : Expr} {f : α → T} {b : α → Bool} : ∀ {xs : List α}, (∀ x ∈ xs, ∃ Ea Eb Ec ws, AG S (wipeE E vs) tg (toT x) Ea ws ∧ (∀ j ∈ ws, j ∈ vs) ∧ TtG S Ea c (b x) Eb ∧ wipeE Eb vs = wipeE E vs ∧ (b x = true → EG S Eb elt (f x) Ec ∧ wipeE Ec vs = wipeE E vs)) → LcTurns S vs tg [c] elt E (xs.map toT) ((xs.filter b).map f) E
  | [], _ => .nil
  | t :: ts, h => by
    obtain ⟨Ea, Eb, Ec, ws, h1, h2, h3, h4, h5⟩ := h t List.mem_cons_self
    have r := LcTurns.filterT (toT := toT) (f := f) (b := b) fun u hu => h u (List.mem_cons_of_mem _ hu)
    cases e : b t with
    | true =>
      rw [e] at h3
      rw [List.filter_cons_of_pos e, List.map_cons]
      exact .take h1 h2 (tgs_one h3) (h5 e).1 (h5 e).2 (fun _ _ => rfl) r
    | false =>
      rw [e] at h3
      rw [List.filter_cons_of_neg (by rw [e]; exact Bool.false_ne_true)]
      exact .skip h1 h2 (tgs_one h3) h4 (fun _ _ => rfl) r
/-- two clauses, typed, no tests -/
theorem Lc2Turns.mapT {α β : Type} {toT : α → T} {toU : β → T} {vs vs1 : List Nat} {tg tg1 iter1 elt : Expr} {n1 : Nat} {ys : α → List β} {f : α → β → T} : ∀ {xs : List α},
    (∀ x ∈ xs, ∃ Ea ws, AG S (wipeE E vs) tg (toT x) Ea ws ∧ (∀ j ∈ ws, j ∈ vs) ∧ IG S Ea tg1 iter1 ((ys x).map toU) Ea ∧ (ys x).length ≤ n1 ∧ LcTurns S vs1 tg1 [] elt Ea ((ys x).map toU) ((ys x).map (f x)) Ea ∧ wipeE (wipeE Ea vs1) vs = wipeE E vs) →
    Lc2Turns S vs vs1 tg [] tg1 iter1 [] elt n1 E (xs.map toT) (xs.flatMap fun x => (ys x).map (f x)) E
  | [], _ => .nil
  | t :: ts, h => by
    obtain ⟨Ea, ws, h1, h2, h3, h4, h5, h6⟩ := h t List.mem_cons_self
    rw [List.flatMap_cons]
    exact .take h1 h2 tgs_nil h3 (by rw [List.length_map]; exact h4) h5 h6 (fun _ _ => rfl) (Lc2Turns.mapT fun u hu => h u (List.mem_cons_of_mem _ hu))
/-- for, typed: each turn goes on, the slots as F says -/
theorem ForR.allT {α : Type} {toT : α → T} {tg : Expr} {body : List Stmt} {Ev : List α → List Ent} : ∀ {xs pre : List α}, (∀ pre x, ∃ Ea ws, AG S (Ev pre) tg (toT x) Ea ws ∧ SGs S Ea body (.nx (Ev (pre ++ [x])))) → ForR S tg body (Ev pre) (xs.map toT) (.nx (Ev (pre ++ xs)))
  | [], pre, h => by rw [List.append_nil]; exact .nil
  | x :: xs, pre, h => by
    obtain ⟨Ea, ws, h1, h2⟩ := h pre x
    have := ForR.allT (xs := xs) (pre := pre ++ [x]) h
    exact .step h1 h2 (by rwa [List.append_assoc] at this)
end
/-- one name in a comprehension: its slot -/
theorem wipeE_set {E : List Ent} {i : Nat} {e : Ent} : wipeE ((wipeE E [i]).set i e) [i] = wipeE E [i] := by
  show (((E.set i .no).set i e).set i .no) = E.set i .no
  rw [List.set_set, List.set_set]
end Cw
end L2

set_option Elab.async false
set_option linter.all false
set_option maxRecDepth 100000
set_option maxHeartbeats 2000000
namespace L2
namespace Cw
open PySem PySem.Spec PyProof.Rows
/-! ### the rules where nothing changes -/
abbrev PG_ (S : SS) (E : List Ent) (e : Expr) (t : T) : Prop := EG S E e t E
section
variable {K : PySem.W.Frag} {E : List Ent} {S : SS} {a b c e : Expr} {es : List Expr} {pos p px : Pos} {i j k : Int} {t u r : T} {ts us : List T} {x : Str} {o : Oc}
theorem pg_add (ha : EG S E a (.int i) E) (hb : EG S E b (.int j) E) : EG S E (.BinOp a .Add b pos) (.int (i + j)) E := eg_add ha hb
theorem pg_sub (ha : EG S E a (.int i) E) (hb : EG S E b (.int j) E) : EG S E (.BinOp a .Sub b pos) (.int (i - j)) E := eg_sub ha hb
theorem pg_mul (h : CMul i j) (ha : EG S E a (.int i) E) (hb : EG S E b (.int j) E) : EG S E (.BinOp a .Mult b pos) (.int (i * j)) E := eg_mul ha hb h
theorem pg_mod (h : j ≠ 0) (ha : EG S E a (.int i) E) (hb : EG S E b (.int j) E) : EG S E (.BinOp a .Mod b pos) (.int (i.fmod j)) E := eg_mod ha hb h
theorem pg_fdiv (h : CDivN i j) (ha : EG S E a (.int i) E) (hb : EG S E b (.int j) E) : EG S E (.BinOp a .FloorDiv b pos) (.int (i.fdiv j)) E := eg_fdiv ha hb h
theorem pas_cons (ha : EG S E e t E) (hb : EAs S E es ts E) (hs : ∀ env, starEach (e :: es) env = (false, eval e env) :: starEach es env := by intro _; rfl) : EAs S E (e :: es) (t :: ts) E := eas_cons ha hb hs
theorem pg_tup0 : EG S E (.Tuple [] 0 pos) (.tup []) E := eg_tup eas_nil (by decide)
theorem pg_tup1 {n : Nat} (ha : EG S E a t E) (h1 : ∀ env, starEach [a] env = (false, eval a env) :: starEach [] env := by intro _; rfl) : EG S E (.Tuple [a] n pos) (.tup [t]) E := eg_tup (eas_cons ha eas_nil h1) (by simp)
theorem pg_tup2 {n : Nat} (ha : EG S E a t E) (hb : EG S E b u E) (h1 : ∀ env, starEach [a, b] env = (false, eval a env) :: starEach [b] env := by intro _; rfl) (h2 : ∀ env, starEach [b] env = (false, eval b env) :: starEach [] env := by intro _; rfl) : EG S E (.Tuple [a, b] n pos) (.tup [t, u]) E := eg_tup (eas_cons ha (eas_cons hb eas_nil h2) h1) (by simp)
theorem pg_tup3 {n : Nat} (ha : EG S E a t E) (hb : EG S E b u E) (hc : EG S E c r E) (h1 : ∀ env, starEach [a, b, c] env = (false, eval a env) :: starEach [b, c] env := by intro _; rfl) (h2 : ∀ env, starEach [b, c] env = (false, eval b env) :: starEach [c] env := by intro _; rfl) (h3 : ∀ env, starEach [c] env = (false, eval c env) :: starEach [] env := by intro _; rfl) : EG S E (.Tuple [a, b, c] n pos) (.tup [t, u, r]) E := eg_tup (eas_cons ha (eas_cons hb (eas_cons hc eas_nil h3) h2) h1) (by simp)
theorem pg_lst0 : EG S E (.List [] pos) (.lst []) E := eg_lst eas_nil (by decide)
theorem pg_lst1 (ha : EG S E a t E) (h1 : ∀ env, starEach [a] env = (false, eval a env) :: starEach [] env := by intro _; rfl) : EG S E (.List [a] pos) (.lst [t]) E := eg_lst (eas_cons ha eas_nil h1) (by simp)
theorem pg_lst2 (ha : EG S E a t E) (hb : EG S E b u E) (h1 : ∀ env, starEach [a, b] env = (false, eval a env) :: starEach [b] env := by intro _; rfl) (h2 : ∀ env, starEach [b] env = (false, eval b env) :: starEach [] env := by intro _; rfl) : EG S E (.List [a, b] pos) (.lst [t, u]) E := eg_lst (eas_cons ha (eas_cons hb eas_nil h2) h1) (by simp)
theorem pg_lst3 (ha : EG S E a t E) (hb : EG S E b u E) (hc : EG S E c r E) (h1 : ∀ env, starEach [a, b, c] env = (false, eval a env) :: starEach [b, c] env := by intro _; rfl) (h2 : ∀ env, starEach [b, c] env = (false, eval b env) :: starEach [c] env := by intro _; rfl) (h3 : ∀ env, starEach [c] env = (false, eval c env) :: starEach [] env := by intro _; rfl) : EG S E (.List [a, b, c] pos) (.lst [t, u, r]) E := eg_lst (eas_cons ha (eas_cons hb (eas_cons hc eas_nil h3) h2) h1) (by simp)
theorem pg_item {q : T} (hq : SeqT q ts) (hi : atI ts i = some u) (ha : EG S E a q E) (hb : EG S E b (.int i) E) (hm : PlainIx b := by intro _ _; rfl) : EG S E (.Subscript a b pos) u E := eg_item hq ha hb hi hm
theorem pg_lt (ha : EG S E a (.int i) E) (hb : EG S E b (.int j) E) (hm : behindInMarks .Lt b = false := by exact nomark _) : EG S E (.Compare a [.Lt] [b] pos) (.bl (decide (i < j))) E := eg_lt ha hb hm
theorem pg_le (ha : EG S E a (.int i) E) (hb : EG S E b (.int j) E) (hm : behindInMarks .LtE b = false := by exact nomark _) : EG S E (.Compare a [.LtE] [b] pos) (.bl (decide (i ≤ j))) E := eg_le ha hb hm
theorem pg_ge (ha : EG S E a (.int i) E) (hb : EG S E b (.int j) E) (hm : behindInMarks .GtE b = false := by exact nomark _) : EG S E (.Compare a [.GtE] [b] pos) (.bl (decide (j ≤ i))) E := eg_ge ha hb hm
theorem pg_gt (ha : EG S E a (.int i) E) (hb : EG S E b (.int j) E) (hm : behindInMarks .Gt b = false := by exact nomark _) : EG S E (.Compare a [.Gt] [b] pos) (.bl (decide (j < i))) E := eg_gt ha hb hm
theorem pg_eq {n : Nat} (h1 : DOk n t) (h2 : DOk n u) (ha : EG S E a t E) (hb : EG S E b u E) (hn : n ≤ 64 := by decide) (hm : behindInMarks .Eq b = false := by exact nomark _) : EG S E (.Compare a [.Eq] [b] pos) (.bl (teq t u)) E := eg_eq ha hb h1 h2 hn hm
theorem pg_ne {n : Nat} (h1 : DOk n t) (h2 : DOk n u) (ha : EG S E a t E) (hb : EG S E b u E) (hn : n ≤ 64 := by decide) (hm : behindInMarks .NotEq b = false := by exact nomark _) : EG S E (.Compare a [.NotEq] [b] pos) (.bl (!teq t u)) E := eg_ne ha hb h1 h2 hn hm
theorem pt_lt (ha : EG S E a (.int i) E) (hb : EG S E b (.int j) E) (hm : behindInMarks .Lt b = false := by exact nomark _) : TtG S E (.Compare a [.Lt] [b] pos) (decide (i < j)) E := tt_lt ha hb hm
theorem pt_le (ha : EG S E a (.int i) E) (hb : EG S E b (.int j) E) (hm : behindInMarks .LtE b = false := by exact nomark _) : TtG S E (.Compare a [.LtE] [b] pos) (decide (i ≤ j)) E := tt_le ha hb hm
theorem pt_gt (ha : EG S E a (.int i) E) (hb : EG S E b (.int j) E) (hm : behindInMarks .Gt b = false := by exact nomark _) : TtG S E (.Compare a [.Gt] [b] pos) (decide (j < i)) E := tt_gt ha hb hm
theorem pt_ge (ha : EG S E a (.int i) E) (hb : EG S E b (.int j) E) (hm : behindInMarks .GtE b = false := by exact nomark _) : TtG S E (.Compare a [.GtE] [b] pos) (decide (j ≤ i)) E := tt_ge ha hb hm
theorem pt_eq {n : Nat} (h1 : DOk n t) (h2 : DOk n u) (ha : EG S E a t E) (hb : EG S E b u E) (hn : n ≤ 64 := by decide) (hm : behindInMarks .Eq b = false := by exact nomark _) : TtG S E (.Compare a [.Eq] [b] pos) (teq t u) E := tt_eq ha hb h1 h2 hn hm
theorem pt_ne {n : Nat} (h1 : DOk n t) (h2 : DOk n u) (ha : EG S E a t E) (hb : EG S E b u E) (hn : n ≤ 64 := by decide) (hm : behindInMarks .NotEq b = false := by exact nomark _) : TtG S E (.Compare a [.NotEq] [b] pos) (!teq t u) E := tt_ne ha hb h1 h2 hn hm
/-- i < j < k and the like -/
theorem pt_ltlt (ha : EG S E a (.int i) E) (hb : EG S E b (.int j) E) (hc : EG S E c (.int k) E) (hm : lastMarks [.Lt, .Lt] [b, c] = false := by with_unfolding_all rfl) : TtG S E (.Compare a [.Lt, .Lt] [b, c] pos) (decide (i < j) && decide (j < k)) E := tt_chain (fun _ _ _ => op_lt) (fun _ _ _ => op_lt) (opg_rI0 fun _ => rep_bl.mpr rfl) (opg_rI0 fun _ => rep_bl.mpr rfl) ha hb (fun _ => hc) hm
theorem pt_lelt (ha : EG S E a (.int i) E) (hb : EG S E b (.int j) E) (hc : EG S E c (.int k) E) (hm : lastMarks [.LtE, .Lt] [b, c] = false := by with_unfolding_all rfl) : TtG S E (.Compare a [.LtE, .Lt] [b, c] pos) (decide (i ≤ j) && decide (j < k)) E := tt_chain (fun _ _ _ => op_le) (fun _ _ _ => op_lt) (opg_rI0 fun _ => rep_bl.mpr rfl) (opg_rI0 fun _ => rep_bl.mpr rfl) ha hb (fun _ => hc) hm
theorem pt_lele (ha : EG S E a (.int i) E) (hb : EG S E b (.int j) E) (hc : EG S E c (.int k) E) (hm : lastMarks [.LtE, .LtE] [b, c] = false := by with_unfolding_all rfl) : TtG S E (.Compare a [.LtE, .LtE] [b, c] pos) (decide (i ≤ j) && decide (j ≤ k)) E := tt_chain (fun _ _ _ => op_le) (fun _ _ _ => op_le) (opg_rI0 fun _ => rep_bl.mpr rfl) (opg_rI0 fun _ => rep_bl.mpr rfl) ha hb (fun _ => hc) hm
theorem sg_ifT {A B : List Stmt} {d : Bool} (hd : d = true) (hc : TtG S E c d E) (h : SGs S E A o) : SG S E (.If c A B pos) o := sg_if hc (fun _ => h) (fun z => by rw [hd] at z; cases z)
theorem sg_ifF {A B : List Stmt} {d : Bool} (hd : d = false) (hc : TtG S E c d E) (h : SGs S E B o) : SG S E (.If c A B pos) o := sg_if hc (fun z => by rw [hd] at z; cases z) (fun _ => h)
theorem sg_ifFn {A : List Stmt} {d : Bool} (hd : d = false) (hc : TtG S E c d E) : SG S E (.If c A [] pos) (.nx E) := sg_ifF hd hc sgs_nil
theorem pg_ret {t : T} (h : EG S E e t E) : SG S E (.Return (some e) pos) (.ret t E) := sg_ret h
theorem pg_iter {tg : Expr} {q : T} (hq : SeqT q ts) (h : EG S E e q E) : IG S E tg e ts E := ig_seq hq h
theorem pg_range2 {tg : Expr} (g : GlOk S "range") (hm : S.mg "range" = none) (hb : (-(2 ^ 62) ≤ i ∧ i < 2 ^ 62) ∧ -(2 ^ 62) ≤ j ∧ j < 2 ^ 62) (h : EG S E a (.int i) E) (h2 : EG S E b (.int j) E) (he : ∀ env, starEach [a, b] env = (false, eval a env) :: starEach [b] env := by intro _; rfl) (he2 : ∀ env, starEach [b] env = (false, eval b env) :: starEach [] env := by intro _; rfl) : IG S E tg (.Call (.Name "range" p) [a, b] [] pos) (rangeT i (j - i).toNat) E := ig_range2 g hm h h2 hb he he2
end
/-! ### comprehensions by names -/
section
variable {E : List Ent} {S : SS} {elt iter c : Expr} {pos px py : Pos} {α β : Type} {x y : Str} {i j : Nat} {toT : α → T} {toU : β → T} {xs : List α} {f : α → T} {scope : Scope}
/-- [elt for x in iter] -/
theorem eg_lcN (ok : BlkOk S.N S.sc scope [(x, i)]) (hN : S.N.Nodup) (so : StoOk (S.blk scope) i x) (hl : i < E.length) (no : ∀ t, E[i]? ≠ some (.ow t)) (hz : xs.length ≤ 16777216) (hi : IG S E (.Name x px) iter (xs.map toT) E)
    (he : ∀ a ∈ xs, EG (S.blk scope) (E.set i (.sh (toT a))) elt (f a) (E.set i (.sh (toT a)))) (hs : ∀ env x, foldedSetIterable iter env x = pure x := by intro _ _; rfl) : EG S E (.ListComp elt [⟨.Name x px, iter, [], 0⟩] scope pos) (.lst (xs.map f)) E := by
  refine eg_lc ok hN hi (fun k hk t => ?_) (LcTurns.mapT fun a ha => ⟨((wipeE E [i]).set i (.sh (toT a))), ((wipeE E [i]).set i (.sh (toT a))), [i], ag_name so (by rw [wipeE_length]; exact hl), fun k hk => hk, ?_, wipeE_set⟩) (by rw [List.length_map]; exact hz) hs
  · simp at hk; subst hk; exact no t
  · have := he a ha
    have e : (wipeE E [i]).set i (.sh (toT a)) = E.set i (.sh (toT a)) := by show (E.set i .no).set i _ = _; rw [List.set_set]
    rw [e]; exact this
/-- [elt for x in iter if c] -/
theorem eg_lcNF {b : α → Bool} (ok : BlkOk S.N S.sc scope [(x, i)]) (hN : S.N.Nodup) (so : StoOk (S.blk scope) i x) (hl : i < E.length) (no : ∀ t, E[i]? ≠ some (.ow t)) (hz : xs.length ≤ 16777216) (hi : IG S E (.Name x px) iter (xs.map toT) E)
    (hc : ∀ a ∈ xs, TtG (S.blk scope) (E.set i (.sh (toT a))) c (b a) (E.set i (.sh (toT a)))) (he : ∀ a ∈ xs, b a = true → EG (S.blk scope) (E.set i (.sh (toT a))) elt (f a) (E.set i (.sh (toT a)))) (hs : ∀ env x, foldedSetIterable iter env x = pure x := by intro _ _; rfl) : EG S E (.ListComp elt [⟨.Name x px, iter, [c], 0⟩] scope pos) (.lst ((xs.filter b).map f)) E := by
  have e : ∀ t, (wipeE E [i]).set i (.sh t) = E.set i (.sh t) := fun t => by show (E.set i .no).set i _ = _; rw [List.set_set]
  refine eg_lc ok hN hi (fun k hk t => ?_) (LcTurns.filterT fun a ha => ⟨((wipeE E [i]).set i (.sh (toT a))), ((wipeE E [i]).set i (.sh (toT a))), ((wipeE E [i]).set i (.sh (toT a))), [i], ag_name so (by rw [wipeE_length]; exact hl), fun k hk => hk, ?_, wipeE_set, fun hb => ⟨?_, wipeE_set⟩⟩) (by rw [List.length_map]; exact hz) hs
  · simp at hk; subst hk; exact no t
  · rw [e]; exact hc a ha
  · rw [e]; exact he a ha hb
theorem wipeE2_set {E : List Ent} {i j : Nat} {e e' : Ent} (h : i ≠ j) : wipeE (((wipeE E [i, j]).set i e).set j e') [i, j] = wipeE E [i, j] := by
  show ((((((E.set j .no).set i .no).set i e).set j e').set j .no).set i .no) = (E.set j .no).set i .no
  rw [List.set_set, List.set_set, List.set_comm _ _ h, List.set_set, List.set_set]
theorem wipeE2_put {E : List Ent} {i j : Nat} {e e' : Ent} (h : i ≠ j) : ((wipeE E [i, j]).set i e).set j e' = (E.set i e).set j e' := by
  show ((((E.set j .no).set i .no).set i e).set j e') = (E.set i e).set j e'
  rw [List.set_set, List.set_comm _ _ (Ne.symm h), List.set_set]
/-- a pair's store -/
theorem ag_two {E : List Ent} {t u q : T} {k : Nat} (hq : q = .tup [t, u] ∨ q = .wtup [t, u]) (so1 : StoOk S i x) (so2 : StoOk S j y) (hi : i < E.length) (hj : j < E.length) : AG S E (.Tuple [.Name x px, .Name y py] k pos) q ((E.set i (.sh t)).set j (.sh u)) [i, j] :=
  ag_tup hq (ags_cons (ag_name so1 hi) (ags_cons (ag_name so2 (by rw [List.length_set]; exact hj)) ags_nil))
/-- [elt for x, y in iter] -/
theorem eg_lcT {k : Nat} {pt : Pos} {t u : α → T} (hq : ∀ a, toT a = .tup [t a, u a] ∨ toT a = .wtup [t a, u a]) (ok : BlkOk S.N S.sc scope [(x, i), (y, j)]) (hN : S.N.Nodup) (hij : i ≠ j) (so1 : StoOk (S.blk scope) i x) (so2 : StoOk (S.blk scope) j y) (hl : i < E.length) (hl2 : j < E.length) (no : ∀ t, E[i]? ≠ some (.ow t)) (no2 : ∀ t, E[j]? ≠ some (.ow t)) (hz : xs.length ≤ 16777216) (hi : IG S E (.Tuple [.Name x px, .Name y py] k pt) iter (xs.map toT) E)
    (he : ∀ a ∈ xs, EG (S.blk scope) ((E.set i (.sh (t a))).set j (.sh (u a))) elt (f a) ((E.set i (.sh (t a))).set j (.sh (u a)))) (hs : ∀ env x, foldedSetIterable iter env x = pure x := by intro _ _; rfl) : EG S E (.ListComp elt [⟨.Tuple [.Name x px, .Name y py] k pt, iter, [], 0⟩] scope pos) (.lst (xs.map f)) E := by
  refine eg_lc ok hN hi (fun k hk t => ?_) (LcTurns.mapT fun a ha => ⟨(((wipeE E [i, j]).set i (.sh (t a))).set j (.sh (u a))), (((wipeE E [i, j]).set i (.sh (t a))).set j (.sh (u a))), [i, j], ag_two (hq a) so1 so2 (by rw [wipeE_length]; exact hl) (by rw [wipeE_length]; exact hl2), fun k hk => hk, ?_, wipeE2_set hij⟩) (by rw [List.length_map]; exact hz) hs
  · simp at hk
    rcases hk with rfl | rfl
    · exact no t
    · exact no2 t
  · show EG _ (((wipeE E [i, j]).set i (.sh (t a))).set j (.sh (u a))) elt (f a) (((wipeE E [i, j]).set i (.sh (t a))).set j (.sh (u a)))
    rw [wipeE2_put hij]; exact he a ha
theorem eg_lcTF {k : Nat} {pt : Pos} {t u : α → T} {b : α → Bool} (hq : ∀ a, toT a = .tup [t a, u a] ∨ toT a = .wtup [t a, u a]) (ok : BlkOk S.N S.sc scope [(x, i), (y, j)]) (hN : S.N.Nodup) (hij : i ≠ j) (so1 : StoOk (S.blk scope) i x) (so2 : StoOk (S.blk scope) j y) (hl : i < E.length) (hl2 : j < E.length) (no : ∀ t, E[i]? ≠ some (.ow t)) (no2 : ∀ t, E[j]? ≠ some (.ow t)) (hz : xs.length ≤ 16777216) (hi : IG S E (.Tuple [.Name x px, .Name y py] k pt) iter (xs.map toT) E)
    (hc : ∀ a ∈ xs, TtG (S.blk scope) ((E.set i (.sh (t a))).set j (.sh (u a))) c (b a) ((E.set i (.sh (t a))).set j (.sh (u a)))) (he : ∀ a ∈ xs, b a = true → EG (S.blk scope) ((E.set i (.sh (t a))).set j (.sh (u a))) elt (f a) ((E.set i (.sh (t a))).set j (.sh (u a)))) (hs : ∀ env x, foldedSetIterable iter env x = pure x := by intro _ _; rfl) : EG S E (.ListComp elt [⟨.Tuple [.Name x px, .Name y py] k pt, iter, [c], 0⟩] scope pos) (.lst ((xs.filter b).map f)) E := by
  refine eg_lc ok hN hi (fun k hk t => ?_) (LcTurns.filterT fun a ha => ⟨(((wipeE E [i, j]).set i (.sh (t a))).set j (.sh (u a))), (((wipeE E [i, j]).set i (.sh (t a))).set j (.sh (u a))), (((wipeE E [i, j]).set i (.sh (t a))).set j (.sh (u a))), [i, j], ag_two (hq a) so1 so2 (by rw [wipeE_length]; exact hl) (by rw [wipeE_length]; exact hl2), fun k hk => hk, ?_, wipeE2_set hij, fun hb => ⟨?_, wipeE2_set hij⟩⟩) (by rw [List.length_map]; exact hz) hs
  · simp at hk
    rcases hk with rfl | rfl
    · exact no t
    · exact no2 t
  · show TtG _ (((wipeE E [i, j]).set i (.sh (t a))).set j (.sh (u a))) c (b a) (((wipeE E [i, j]).set i (.sh (t a))).set j (.sh (u a)))
    rw [wipeE2_put hij]; exact hc a ha
  · show EG _ (((wipeE E [i, j]).set i (.sh (t a))).set j (.sh (u a))) elt (f a) (((wipeE E [i, j]).set i (.sh (t a))).set j (.sh (u a)))
    rw [wipeE2_put hij]; exact he a ha hb
/-- [elt for x in iter for y in iter1] -/
theorem eg_lc2N {iter1 : Expr} {ys : α → List β} {n1 : Nat} {g : α → β → T} (ok : BlkOk S.N S.sc scope [(x, i), (y, j)]) (hN : S.N.Nodup) (hij : i ≠ j) (so1 : StoOk (S.blk scope) i x) (so2 : StoOk (S.blk scope) j y) (hl : i < E.length) (hl2 : j < E.length) (no : ∀ t, E[i]? ≠ some (.ow t)) (no2 : ∀ t, E[j]? ≠ some (.ow t)) (hz : xs.length * n1 ≤ 16777216) (hn1 : n1 ≤ 16777216) (hi : IG S E (.Name x px) iter (xs.map toT) E)
    (hy : ∀ a ∈ xs, (ys a).length ≤ n1) (hi1 : ∀ a ∈ xs, IG (S.blk scope) ((E.set j .no).set i (.sh (toT a))) (.Name y py) iter1 ((ys a).map toU) ((E.set j .no).set i (.sh (toT a))))
    (he : ∀ a ∈ xs, ∀ b ∈ ys a, EG (S.blk scope) ((E.set i (.sh (toT a))).set j (.sh (toU b))) elt (g a b) ((E.set i (.sh (toT a))).set j (.sh (toU b)))) (hs : ∀ env x, foldedSetIterable iter env x = pure x := by intro _ _; rfl) (hs1 : ∀ env x, foldedSetIterable iter1 env x = pure x := by intro _ _; rfl) : EG S E (.ListComp elt [⟨.Name x px, iter, [], 0⟩, ⟨.Name y py, iter1, [], 0⟩] scope pos) (.lst (xs.flatMap fun a => (ys a).map (g a))) E := by
  have e : ∀ t, (wipeE E [i, j]).set i (.sh t) = (E.set j .no).set i (.sh t) := fun t => by show ((E.set j .no).set i .no).set i _ = _; rw [List.set_set]
  refine eg_lc2 (vs1 := [j]) ok hN hi (fun k hk t => ?_) (fun k hk => by simp at hk; subst hk; simp) (Lc2Turns.mapT (n1 := n1) fun a ha => ⟨(E.set j .no).set i (.sh (toT a)), [i], ?_, fun k hk => by simp at hk; subst hk; simp, hi1 a ha, hy a ha, LcTurns.mapT fun b hb => ⟨((wipeE ((E.set j .no).set i (.sh (toT a))) [j]).set j (.sh (toU b))), ((wipeE ((E.set j .no).set i (.sh (toT a))) [j]).set j (.sh (toU b))), [j], ag_name so2 (by rw [wipeE_length, List.length_set, List.length_set]; exact hl2), fun k hk => hk, ?_, wipeE_set⟩, ?_⟩) (by rw [List.length_map]; exact hz) hs hs1
  · simp at hk
    rcases hk with rfl | rfl
    · exact no t
    · exact no2 t
  · have := ag_name (pos := px) (t := toT a) so1 (show i < (wipeE E [i, j]).length by rw [wipeE_length]; exact hl)
    rw [e] at this
    exact this
  · have q : (wipeE ((E.set j .no).set i (.sh (toT a))) [j]).set j (.sh (toU b)) = (E.set i (.sh (toT a))).set j (.sh (toU b)) := by
      show ((((E.set j .no).set i (.sh (toT a))).set j .no).set j (.sh (toU b))) = _
      rw [List.set_set, List.set_comm _ _ (Ne.symm hij), List.set_set]
    rw [q]
    exact he a ha b hb
  · show ((((((E.set j .no).set i (.sh (toT a))).set j .no).set j .no).set i .no)) = ((E.set j .no).set i .no)
    rw [List.set_set, List.set_comm _ _ hij, List.set_set, List.set_set]
end
end Cw
end L2

set_option Elab.async false
set_option linter.all false
set_option maxRecDepth 100000
set_option maxHeartbeats 2000000
namespace L2
namespace Cw
open PySem PySem.Spec PyProof.Rows
/-- the block hands back t, whatever the slots are then -/
def SGr (S : SS) (E : List Ent) (sts : List Stmt) (t : T) : Prop := ∃ E', SGs S E sts (.ret t E')
/-- the block raises an error of the class at C -/
def SGx (S : SS) (E : List Ent) (sts : List Stmt) (C : Addr) : Prop := ∃ E', SGs S E sts (.exc C E')
section
variable {E E1 : List Ent} {S : SS} {st : Stmt} {sts A B : List Stmt} {e c : Expr} {t : T} {C : Addr} {pos pos' p p2 : Pos} {d : Bool}
theorem sgr_cons (h1 : SG S E st (.nx E1)) (h2 : SGr S E1 sts t) : SGr S E (st :: sts) t := by obtain ⟨E', h⟩ := h2; exact ⟨E', sgs_cons h1 h⟩
theorem sgr_ret (h : EG S E e t E) : SGr S E (.Return (some e) pos :: sts) t := ⟨E, sgs_stop (sg_ret h) trivial⟩
theorem sgr_retE (h : EG S E e t E1) : SGr S E (.Return (some e) pos :: sts) t := ⟨E1, sgs_stop (sg_ret h) trivial⟩
theorem sgr_stop (h : ∃ E', SG S E st (.ret t E')) : SGr S E (st :: sts) t := by obtain ⟨E', h⟩ := h; exact ⟨E', sgs_stop h trivial⟩
theorem sgr_ifT (hd : d = true) (hc : TtG S E c d E) (h : SGr S E A t) : SGr S E (.If c A B pos :: sts) t := by obtain ⟨E', h⟩ := h; exact ⟨E', sgs_stop (sg_ifT hd hc h) trivial⟩
theorem sgr_ifF (hd : d = false) (hc : TtG S E c d E) (h : SGr S E B t) : SGr S E (.If c A B pos :: sts) t := by obtain ⟨E', h⟩ := h; exact ⟨E', sgs_stop (sg_ifF hd hc h) trivial⟩
theorem sgr_ifFn (hd : d = false) (hc : TtG S E c d E) (h : SGr S E sts t) : SGr S E (.If c A [] pos :: sts) t := sgr_cons (sg_ifFn hd hc) h
theorem sgx_cons (h1 : SG S E st (.nx E1)) (h2 : SGx S E1 sts C) : SGx S E (st :: sts) C := by obtain ⟨E', h⟩ := h2; exact ⟨E', sgs_cons h1 h⟩
theorem sgx_stop (h : SG S E st (.exc C E1)) : SGx S E (st :: sts) C := ⟨E1, sgs_stop h trivial⟩
theorem sgx_ifT (hd : d = true) (hc : TtG S E c d E) (h : SGx S E A C) : SGx S E (.If c A B pos :: sts) C := by obtain ⟨E', h⟩ := h; exact ⟨E', sgs_stop (sg_ifT hd hc h) trivial⟩
theorem sgx_ifFn (hd : d = false) (hc : TtG S E c d E) (h : SGx S E sts C) : SGx S E (.If c A [] pos :: sts) C := sgx_cons (sg_ifFn hd hc) h
theorem sgx_raise {x m : Str} {j : Nat} (xo : ExcOk S x C) (g : GlOk S x) : SGx S E (.Raise (some (.Call (.Name x p) [.Constant (.str m) j p2] [] pos)) none pos' :: sts) C := sgx_stop (sg_raise xo g)
end
section
variable {w : World} {P : Program} {base : Heap} {K : PySem.W.Frag} {mg : Str → Option Value}
theorem gives_p {x qual : Str} {st : Stmt} {f : Addr} {fd : FuncData} {N ps : List Str} {k : Nat} {ts : List T} {t : T} (E : List Ent) (F : FunA K x qual st f fd) (Sc : FnScope N ps (defScope st)) (hl : ts.length = ps.length) (hE : entry N (ts.map Ent.sh) = E)
    (hb : SGr (defP P w K mg base k N (defScope st)) E (defBody st) t) : Gives P w K mg base (k + 1) f fd ps ts t := gives_of F Sc hl (by rw [hE]; exact hb)
theorem errs_p {x qual : Str} {st : Stmt} {f : Addr} {fd : FuncData} {N ps : List Str} {k : Nat} {ts : List T} {C : Addr} (E : List Ent) (F : FunA K x qual st f fd) (Sc : FnScope N ps (defScope st)) (hl : ts.length = ps.length) (hE : entry N (ts.map Ent.sh) = E)
    (hb : SGx (defP P w K mg base k N (defScope st)) E (defBody st) C) : Errs P w K mg base (k + 1) f fd ps ts C := errs_of F Sc hl (by rw [hE]; exact hb)
end
end Cw
end L2

set_option Elab.async false
set_option linter.all false
set_option maxRecDepth 100000
set_option maxHeartbeats 2000000
namespace L2
namespace Cw
open PySem PySem.Spec PyProof.Rows
/-! ### keys of any depth as trees -/
mutual
def keyT : NestedKey → T
  | .none => .non
  | .num i => .int i
  | .text s => .str s
  | .tup ks => .tup (keyTs ks)
def keyTs : List NestedKey → List T
  | [] => []
  | k :: ks => keyT k :: keyTs ks
end
mutual
/-- the tree t may be asked as the key k -/
def KeyT : NestedKey → T → Prop
  | .none, t => t = .non
  | .num i, t => t = .int i ∨ ∃ b, i = (if b = true then 1 else 0) ∧ t = .bl b
  | .text s, t => t = .str s
  | .tup ks, t => ∃ ts, (t = .tup ts ∨ t = .wtup ts) ∧ KeyTs ks ts
def KeyTs : List NestedKey → List T → Prop
  | [], ts => ts = []
  | k :: ks, ts => ∃ t r, ts = t :: r ∧ KeyT k t ∧ KeyTs ks r
end
mutual
theorem keyT_self : ∀ k, KeyT k (keyT k)
  | .none => by simp [KeyT, keyT]
  | .num i => by simp [KeyT, keyT]
  | .text s => by simp [KeyT, keyT]
  | .tup ks => by
    simp only [KeyT, keyT]
    exact ⟨keyTs ks, .inl rfl, keyTs_self ks⟩
theorem keyTs_self : ∀ ks, KeyTs ks (keyTs ks)
  | [] => by simp [KeyTs, keyTs]
  | k :: ks => by
    simp only [KeyTs, keyTs]
    exact ⟨_, _, rfl, keyT_self k, keyTs_self ks⟩
end
section
variable {X : Cx} {pins : List (Addr × Obj)} {σ : St} {H Z : Hp} {s : Shared} {K : PySem.W.Frag} {w : World}
mutual
theorem key_is (I : Inv X pins σ H s) (zh : Same Z H) (hK : X.K = K) : ∀ (k : NestedKey) {t : T} {v : V} {u : Value}, KeyT k t → Rep K Z t v → RelV v u → NestedIs s.heap k u
  | .none, t, v, u, h, r, rv => by
    simp only [KeyT] at h; subst h
    rw [rep_non.mp r] at rv
    obtain rfl : u = Value.none := rv
    exact .none
  | .num i, t, v, u, h, r, rv => by
    simp only [KeyT] at h
    rcases h with rfl | ⟨b, e, rfl⟩
    · rw [rep_int.mp r] at rv
      obtain ⟨t, rfl⟩ := (show ∃ t, u = Value.int i t from rv)
      exact .int i t
    · rw [rep_bl.mp r] at rv
      obtain rfl : u = Value.bool b := rv
      exact .bool e
  | .text x, t, v, u, h, r, rv => by
    simp only [KeyT] at h; subst h
    rw [rep_str.mp r] at rv
    obtain ⟨t, rfl⟩ := (show ∃ t, u = Value.str x t from rv)
    exact .text x t
  | .tup ks, t, v, u, h, r, rv => by
    simp only [KeyT] at h
    obtain ⟨ts, h1, h2⟩ := h
    have q : ∃ a vs, v = .ref a ∧ SqT K H a vs ∧ Reps K Z ts vs := by
      rcases h1 with rfl | rfl
      · obtain ⟨a, vs, e, q1, q2⟩ := rep_tup.mp r
        exact ⟨a, vs, e, .inl (.inl (zh _ _ q1)), q2⟩
      · obtain ⟨a, vs, e, q1, q2⟩ := rep_wtup.mp r
        exact ⟨a, vs, e, Same_tup zh q1, q2⟩
    obtain ⟨a, vs, rfl, q1, q2⟩ := q
    obtain rfl : u = Value.ref a := rv
    rw [← hK] at q1
    obtain ⟨its, rr, ⟨o, e1, e2, n, e3⟩, _⟩ := I.tuple q1
    exact .tup e1 e2 e3 (by simpa using keys_are I zh hK ks h2 q2 rr)
theorem keys_are (I : Inv X pins σ H s) (zh : Same Z H) (hK : X.K = K) : ∀ (ks : List NestedKey) {ts : List T} {vs : List V} {us : List Value}, KeyTs ks ts → Reps K Z ts vs → Vals vs us → NestedAll s.heap ks us
  | [], ts, vs, us, h, r, rv => by
    simp only [KeyTs] at h; subst h
    rw [r.unnil] at rv
    cases rv
    exact .nil
  | k :: ks, ts, vs, us, h, r, rv => by
    simp only [KeyTs] at h
    obtain ⟨t, tr, rfl, h1, h2⟩ := h
    obtain ⟨v, vr, rfl, r1, r2⟩ := r.uncons
    cases rv with
    | cons a b => exact .cons (key_is I zh hK k h1 r1 a) (keys_are I zh hK ks h2 r2 b)
end
end
/-! ### dicts with such keys -/
def RawN (w : World) (h : Heap) (d : Addr) (xs : List (NestedKey × Addr × Value)) : Prop :=
  ∃ o es ep, h.get? d = some o ∧ o.ExactDict ∧ o.data = .dict es ep ∧ es.toList = xs.map (fun x => (⟨x.1.hash w, .ref x.2.1, x.2.2⟩ : DictEntry)) ∧ (xs.map (·.1)).Nodup
def dnP (w : World) (ks : List NestedKey) (d : Addr) (qs vs : List V) (h : Heap) : Prop :=
  (d == sysModules) = false ∧ ks.length ≤ sizeLine ∧ (∀ k ∈ ks, k.depth ≤ 8) ∧ ∃ xs : List (NestedKey × Addr × Value), xs.map (·.1) = ks ∧ qs = xs.map (fun x => V.ref x.2.1) ∧ Vals vs (xs.map (·.2.2)) ∧ RawN w h d xs
/-- a dict whose keys are tuples, nested as they may be -/
def dN (w : World) (l : List (NestedKey × T)) : T := .ext (dnP w (l.map (·.1))) (l.map fun x => keyT x.1) (l.map (·.2))
def getN {κ : Type} [DecidableEq κ] (l : List (κ × T)) (k : κ) : Option T := (l.find? fun p => decide (p.1 = k)).map (·.2)
def putN {κ : Type} [DecidableEq κ] (l : List (κ × T)) (k : κ) (t : T) : List (κ × T) := if (getN l k).isSome = true then l.map (fun p => if p.1 = k then (p.1, t) else p) else l ++ [(k, t)]
section
variable {K : PySem.W.Frag} {Z : Hp} {w : World}
def DRel (K : PySem.W.Frag) (Z : Hp) (l : List (NestedKey × T)) (xs : List (NestedKey × Addr × Value)) : Prop := Paired (fun (p : NestedKey × T) (x : NestedKey × Addr × Value) => x.1 = p.1 ∧ (∃ v, Rep K Z p.2 v ∧ RelV v x.2.2) ∧ Rep K Z (keyT x.1) (.ref x.2.1)) l xs
theorem drel_of : ∀ {l : List (NestedKey × T)} {xs : List (NestedKey × Addr × Value)} {vs : List V}, xs.map (·.1) = l.map (·.1) → Reps K Z (l.map fun x => keyT x.1) (xs.map fun x => V.ref x.2.1) → Reps K Z (l.map (·.2)) vs → Vals vs (xs.map (·.2.2)) → DRel K Z l xs
  | [], [], vs, _, _, _, _ => .nil
  | [], x :: xs, vs, h, _, _, _ => by simp at h
  | p :: l, [], vs, h, _, _, _ => by simp at h
  | p :: l, x :: xs, vs, h, rk, rs, rv => by
    rw [List.map_cons] at h
    injection h with h0 h1
    have h := And.intro h0 h1
    rw [List.map_cons] at rs
    rw [List.map_cons, List.map_cons] at rk
    obtain ⟨v, vr, rfl, r1, r2⟩ := rs.uncons
    obtain ⟨q, qr, e, k1, k2⟩ := rk.uncons
    cases e
    rw [List.map_cons] at rv
    cases rv with
    | cons a b => exact .cons ⟨h.1, ⟨v, r1, a⟩, by rw [h.1]; exact k1⟩ (drel_of h.2 k2 r2 b)
theorem drel_to {l : List (NestedKey × T)} {xs : List (NestedKey × Addr × Value)} (h : DRel K Z l xs) : xs.map (·.1) = l.map (·.1) ∧ Reps K Z (l.map fun x => keyT x.1) (xs.map fun x => V.ref x.2.1) ∧ ∃ vs, Reps K Z (l.map (·.2)) vs ∧ Vals vs (xs.map (·.2.2)) := by
  unfold DRel at h
  induction h with
  | nil => exact ⟨rfl, .nil, [], .nil, .nil⟩
  | cons a t ih =>
    obtain ⟨e, ⟨v, r, rv⟩, rk⟩ := a
    obtain ⟨i1, i2, vs, i3, i4⟩ := ih
    refine ⟨by simp [e, i1], ?_, v :: vs, .cons r i3, .cons rv i4⟩
    simp only [List.map_cons]
    exact .cons (by rw [← e]; exact rk) i2
theorem DRel.length {l : List (NestedKey × T)} {xs : List (NestedKey × Addr × Value)} (h : DRel K Z l xs) : l.length = xs.length := Paired.length h
theorem DRel.get {l : List (NestedKey × T)} {xs : List (NestedKey × Addr × Value)} (h : DRel K Z l xs) (k : NestedKey) : (∀ t, getN l k = some t → ∃ p v, atKey xs k = some p ∧ Rep K Z t v ∧ RelV v p.2) ∧ (getN l k).isSome = (atKey xs k).isSome := by
  unfold DRel at h
  induction h with
  | nil => exact ⟨fun t e => by simp [getN] at e, rfl⟩
  | @cons p x ps xs a t ih =>
    obtain ⟨e, ⟨v, r, rv⟩, _⟩ := a
    by_cases hk : p.1 = k
    · have hx : x.1 = k := e.trans hk
      have g1 : getN (p :: ps) k = some p.2 := by simp [getN, List.find?_cons, hk]
      have g2 : atKey (x :: xs) k = some x.2 := by simp [atKey, List.find?_cons, hx]
      rw [g1, g2]
      exact ⟨fun t q => ⟨x.2, v, rfl, by rw [← Option.some.inj q]; exact r, rv⟩, rfl⟩
    · have hx : ¬ x.1 = k := fun z => hk (e.symm.trans z)
      have g1 : getN (p :: ps) k = getN ps k := by simp [getN, List.find?_cons, hk]
      have g2 : atKey (x :: xs) k = atKey xs k := by simp [atKey, List.find?_cons, hx]
      rw [g1, g2]
      exact ih
theorem DRel.put {l : List (NestedKey × T)} {xs : List (NestedKey × Addr × Value)} (h : DRel K Z l xs) {k : NestedKey} {b : Addr} {t : T} {v : V} {u : Value} (rk : Rep K Z (keyT k) (.ref b)) (r : Rep K Z t v) (rv : RelV v u) : DRel K Z (putN l k t) (storedH xs k b u) := by
  unfold putN storedH
  rw [(h.get k).2]
  rcases Classical.em ((atKey xs k).isSome = true) with q | q
  · rw [if_pos q, if_pos q]
    clear q
    unfold DRel at h ⊢
    induction h with
    | nil => exact .nil
    | @cons p x ps xs a tt ih =>
      simp only [List.map_cons]
      refine .cons ?_ ih
      obtain ⟨e, hv, hk⟩ := a
      unfold putAt
      by_cases hq : p.1 = k
      · rw [if_pos hq, if_pos (e.trans hq)]; exact ⟨e, ⟨v, r, rv⟩, hk⟩
      · rw [if_neg hq, if_neg (fun z => hq (e.symm.trans z))]; exact ⟨e, hv, hk⟩
  · rw [if_neg q, if_neg q]
    unfold DRel at h ⊢
    exact Paired.snoc h ⟨rfl, ⟨v, r, rv⟩, rk⟩
theorem length_putN {κ : Type} [DecidableEq κ] {l : List (κ × T)} {k : κ} {t : T} : (putN l k t).length ≤ l.length + 1 := by
  unfold putN
  split
  · rw [List.length_map]; omega
  · simp
theorem depth_putN {l : List (NestedKey × T)} {k : NestedKey} {t : T} (h : ∀ p ∈ l, p.1.depth ≤ 8) (hk : k.depth ≤ 8) : ∀ p ∈ putN l k t, p.1.depth ≤ 8 := by
  unfold putN
  split
  · intro p hp
    have ⟨q, hq, e⟩ := List.mem_map.mp hp
    rw [← e]
    split
    · exact h q hq
    · exact h q hq
  · intro p hp
    exact (List.mem_append.mp hp).elim (h p) fun z => by rw [List.mem_singleton.mp z]; exact hk
end
section
variable {X : Cx} {pins : List (Addr × Obj)} {σ : St} {H Z : Hp} {s : Shared} {K : PySem.W.Frag} {w : World} {a : Addr} {o : HO} {l : List (NestedKey × T)}
/-- the object behind -/
theorem dn_open (I : Inv X pins σ H s) (zh : Same Z H) (hK : X.K = K) (hw : X.w = w) (h : Rd H a o) (r : ORep K Z a o (dN w l)) :
    (a == sysModules) = false ∧ l.length ≤ sizeLine ∧ (∀ p ∈ l, p.1.depth ≤ 8) ∧ ∃ xs, s.heap.DictOfH (nestedKind X.prog X.w) a xs ∧ DRel K Z l xs := by
  unfold dN ORep at r
  cases o with
  | ext ψ =>
    obtain ⟨qs, vs, rfl, r1, r2⟩ := r
    obtain ⟨p, _, _⟩ := (show ObjOk X.prog X.w H s.heap a (.ext (dnP w (l.map (·.1)) a qs vs)) from rd_of I.hok h)
    obtain ⟨h1, h2, h3, xs, h4, rfl, h5, ob, es, ep, e1, e2, e3, e4, e5⟩ := p
    have dr := drel_of h4 r1 r2 h5
    refine ⟨h1, by simpa using h2, fun p hp => h3 p.1 (List.mem_map_of_mem hp), xs, ⟨ob, es, ep, e1, e2, e3, ?_, ?_, e5⟩, dr⟩
    · rw [e4, ← hw]; rfl
    · intro x hx
      have all : ∀ {l : List (NestedKey × T)} {xs : List (NestedKey × Addr × Value)}, DRel K Z l xs → (∀ p ∈ l, p.1.depth ≤ 8) → ∀ x ∈ xs, (nestedKind X.prog X.w).is s.heap x.1 x.2.1 := by
        intro l xs d
        unfold DRel at d
        induction d with
        | nil => intro _ x hx; exact nomatch hx
        | @cons p x ps xs a t ih =>
          intro hd y hy
          match List.mem_cons.mp hy with
          | .inl e => subst e; exact ⟨key_is I zh hK _ (keyT_self _) a.2.2 rfl, by rw [a.1]; exact hd p List.mem_cons_self⟩
          | .inr hy => exact ih (fun p hp => hd p (List.mem_cons_of_mem _ hp)) y hy
      exact all dr (fun p hp => h3 p.1 (List.mem_map_of_mem hp)) x hx
  | _ => exact r.elim
/-- an object so made -/
theorem dn_close {P : Program} {h' : Heap} {xs : List (NestedKey × Addr × Value)} (hd : (a == sysModules) = false) (hl : l.length ≤ sizeLine) (hk : ∀ p ∈ l, p.1.depth ≤ 8) (m : h'.DictOfH (nestedKind P w) a xs) (dr : DRel K Z l xs) :
    ∃ o', ORep K Z a o' (dN w l) ∧ Mut (some o') ∧ ∀ H', ObjOk P w H' h' a o' := by
  obtain ⟨e, rk, vs, rs, rv⟩ := drel_to dr
  obtain ⟨ob, es, ep, e1, e2, e3, e4, _, e5⟩ := m
  refine ⟨.ext (dnP w (l.map (·.1)) a (xs.map fun x => V.ref x.2.1) vs), ⟨_, vs, rfl, rk, rs⟩, trivial, fun H' => ⟨⟨hd, by simpa using hl, fun k hk' => ?_, xs, e, rfl, rv, ob, es, ep, e1, e2, e3, e4, e5⟩, ⟨ob, e1⟩, fun h1 h2 p st => ?_⟩⟩
  · obtain ⟨p, hp, rfl⟩ := List.mem_map.mp hk'
    exact hk p hp
  · obtain ⟨p1, p2, p3, ys, p4, p5, p6, ob', es', ep', q1, q2, q3, q4, q5⟩ := p
    exact ⟨p1, p2, p3, ys, p4, p5, p6, ob', es', ep', st _ q1, q2, q3, q4, q5⟩
theorem dn_mut {u : Option HO} (h : u = some o) (r : ORep K Z a o (dN w l)) : Mut u := by
  subst h
  unfold dN ORep at r
  cases o with
  | ext ψ => trivial
  | _ => exact r.elim
/-- a shared one -/
theorem dn_rep (zh : Same Z H) {v : V} (r : Rep K Z (dN w l) v) : ∃ a o, v = .ref a ∧ Rd H a o ∧ ORep K Z a o (dN w l) := by
  obtain ⟨a, qs, vs, rfl, h1, h2, h3⟩ := rep_ext.mp r
  refine ⟨a, .ext (dnP w (l.map (·.1)) a qs vs), rfl, ?_, ⟨qs, vs, rfl, h2, h3⟩⟩
  rcases h1 with h | ⟨ob, h⟩
  · exact .inl (zh _ _ h)
  · exact .inr ⟨ob, zh _ _ h⟩
end
end Cw
end L2

set_option Elab.async false
set_option linter.all false
set_option maxRecDepth 100000
set_option maxHeartbeats 2000000
namespace L2
namespace Cw
open PySem PySem.Spec PyProof.Rows
section
variable {K : PySem.W.Frag} {Z Z' H H' : Hp} {σ σ' : St} {E E' E1 E2 E3 : List Ent} {S : SS} {o : Oc}
/-! ### running a judgement -/
theorem EG.run {e : Expr} {t : T} {W : WX} {X : Cx} {pins : List (Addr × Obj)} {s : Shared} {Post : Value → Shared → Prop} (h : EG S E e t E1) (hX : S.Has W X) (st : StOk S.K Z H σ E) (I : Inv X pins σ H s)
    (k : ∀ u s1 v H1 Z1, Inv X pins σ H1 s1 → RelV v u → Go S E σ Z H E1 σ Z1 H1 → Rep S.K Z1 t v → Post u s1) : wpAny (model X.prog X.w) X.A (eval e X.env) Post X.xe s :=
  thn (h W Z H σ (fun v H1 => ∃ Z1, Go S E σ Z H E1 σ Z1 H1 ∧ Rep S.K Z1 t v) st (fun v H1 Z1 g r => ⟨Z1, g, r⟩) X hX pins s I) fun u s1 ⟨v, H1, I1, rv, Z1, g, r⟩ => k u s1 v H1 Z1 I1 rv g r
/-- a thing read where it stands: shared, or ours -/
def At (K : PySem.W.Frag) (Z H : Hp) (t : T) (v : V) : Prop := Rep K Z t v ∨ ∃ a ob, v = .ref a ∧ H a = some ob ∧ Z a = none ∧ ORep K Z a ob t
/-- e is read from E on; at E2 it stands for t -/
def DA (S : SS) (E : List Ent) (e : Expr) (E1 E2 : List Ent) (t : T) : Prop :=
  ∀ (W : WX) (Z H : Hp) (σ : St) (Q : VK), StOk S.K Z H σ E → (∀ v H1 Z1, Go S E σ Z H E1 σ Z1 H1 → (∀ Z2 H2, Go S E1 σ Z1 H1 E2 σ Z2 H2 → At S.K Z2 H2 t v) → Q v H1) → R S W e σ H Q
theorem da_sh {e : Expr} {t : T} (h : EG S E e t E1) : DA S E e E1 E2 t := fun W Z H σ Q st k => h W Z H σ Q st fun v H1 Z1 g r => k v H1 Z1 g fun Z2 H2 g2 => .inl (r.mono g2.step.zz)
theorem da_ow {i : Nat} {x : Str} {p : Pos} {t0 t : T} (v : VarOk S i x) (h : E[i]? = some (.ow t0)) (h2 : E2[i]? = some (.ow t)) : DA S E (.Name x p) E E2 t := fun W Z H σ Q st k => by
  obtain ⟨a, ob, h1, _, _, _⟩ := st.ow i t0 h
  refine R.mk (fun X hX => ?_) (show tVar i σ H Q from ⟨.ref a, h1, k (.ref a) H Z (Go.refl st) fun Z2 H2 g2 => ?_⟩)
  · have hs := hX.sc
    obtain ⟨A, s0, H0, env, outer, stack, ex, pn, xe, rfl⟩ := hX.ex
    exact pe_var v.hN (by rw [hs]; exact v.vis) v.h1 v.h2
  · obtain ⟨b, o2, e1, e2, e3, e4⟩ := g2.st.ow i t h2
    rw [h1] at e1; cases e1
    exact .inr ⟨_, o2, rfl, e2, e3, e4⟩
theorem DA.run {e : Expr} {t : T} {W : WX} {X : Cx} {pins : List (Addr × Obj)} {s : Shared} {Post : Value → Shared → Prop} (h : DA S E e E1 E2 t) (hX : S.Has W X) (st : StOk S.K Z H σ E) (I : Inv X pins σ H s)
    (k : ∀ u s1 v H1 Z1, Inv X pins σ H1 s1 → RelV v u → Go S E σ Z H E1 σ Z1 H1 → (∀ Z2 H2, Go S E1 σ Z1 H1 E2 σ Z2 H2 → At S.K Z2 H2 t v) → Post u s1) : wpAny (model X.prog X.w) X.A (eval e X.env) Post X.xe s :=
  thn (h W Z H σ (fun v H1 => ∃ Z1, Go S E σ Z H E1 σ Z1 H1 ∧ ∀ Z2 H2, Go S E1 σ Z1 H1 E2 σ Z2 H2 → At S.K Z2 H2 t v) st (fun v H1 Z1 g r => ⟨Z1, g, r⟩) X hX pins s I) fun u s1 ⟨v, H1, I1, rv, Z1, g, r⟩ => k u s1 v H1 Z1 I1 rv g r
/-- the dict there -/
theorem At.dn {w : World} {l : List (NestedKey × T)} {v : V} (zh : Same Z H) (h : At K Z H (dN w l) v) : ∃ a ob, v = .ref a ∧ Rd H a ob ∧ ORep K Z a ob (dN w l) := by
  rcases h with h | ⟨a, ob, e1, e2, _, e3⟩
  · exact dn_rep zh h
  · exact ⟨a, ob, e1, .inl e2, e3⟩
/-- how two values are compared, by their expressions -/
def cmps (X : Cx) (op : CmpOp) (a b : Expr) (F : Value → Shared → Prop) : Shared → Prop :=
  wpAny (model X.prog X.w) X.A (eval a X.env) (fun v => wpAny (model X.prog X.w) X.A (eval b X.env) (fun u => wpAny (model X.prog X.w) X.A (compareOp op v u) F X.xe) X.xe) X.xe
/-- comparing -/
def CG (S : SS) (E : List Ent) (op : CmpOp) (a b : Expr) (c : Bool) (E' : List Ent) : Prop :=
  ∀ (W : WX) (Z H : Hp) (σ : St) (Q : VK), StOk S.K Z H σ E → (∀ H' Z', Go S E σ Z H E' σ Z' H' → Q (.bl c) H') → ∀ X, S.Has W X → ∀ pins s, Inv X pins σ H s →
    cmps X op a b (EP X pins σ Q) s
def RC (S : SS) (W : WX) (op : CmpOp) (a b : Expr) : TE := fun σ H Q => ∀ X, S.Has W X → ∀ pins s, Inv X pins σ H s →
    cmps X op a b (EP X pins σ Q) s
theorem SS.Has.pc {W : WX} {X : Cx} (h : S.Has W X) (op : CmpOp) (a b : Expr) : PC X op a b (RC S W op a b) := ⟨fun pins s σ H Q I q => q X h pins s I⟩
theorem eg_c {op : CmpOp} {a b : Expr} {c : Bool} {pos : Pos} (h : CG S E op a b c E1) (hm : behindInMarks op b = false := by with_unfolding_all rfl) : EG S E (.Compare a [op] [b] pos) (.bl c) E1 := fun W Z H σ Q st k =>
  R.mk (t := RC S W op a b) (fun X hX => pe_cmp (hX.pc op a b) hm) (fun X hX pins s I => h W Z H σ Q st (fun H1 Z1 g => k _ _ _ g (rep_bl.mpr rfl)) X hX pins s I)
theorem tt_c {op : CmpOp} {a b : Expr} {c : Bool} {pos : Pos} (h : CG S E op a b c E1) (hm : behindInMarks op b = false := by with_unfolding_all rfl) : TtG S E (.Compare a [op] [b] pos) c E1 := fun W Z H σ Q st k =>
  RT.mk (t := tB (RC S W op a b)) (fun X hX => pt_cmp (hX.pc op a b) hm) (fun X hX pins s I => h W Z H σ _ st (fun H1 Z1 g => ⟨c, rfl, k _ _ g⟩) X hX pins s I)

/-! ### dicts with tuples as keys -/
section
variable {d i : Expr} {l : List (NestedKey × T)} {ks : List NestedKey} {kt t : T} {pos : Pos}
theorem SS.Has.nroom {W : WX} {X : Cx} (h : S.Has W X) : (nestedKind X.prog X.w).room X.A.in1 := by
  show X.A.in1.units + 8 < cLine
  have := h.room.units
  show X.A.units + 1 + 8 < cLine
  omega
theorem eg_getN (hd : DA S E d E1 E2 (dN S.w l)) (hi : EG S E1 i kt E2) (hk : KeyT (.tup ks) kt) (h8 : (NestedKey.tup ks).depth ≤ 8) (hg : getN l (.tup ks) = some t) (hs : NoSl i := by intro _ _; rfl) : EG S E (.Subscript d i pos) t E2 := fun W Z H σ Q st k X hX pins s I => by
  refine subD_of PySem.F.slot_dict_getitem.lookup hs (hd.run hX st I fun u s1 v H1 Z1 I1 rv g1 hat => hi.run hX g1.st I1 fun u2 s2 v2 H2 Z2 I2 rv2 g2 r2 => ?_)
  obtain ⟨a, ob, rfl, hr, ro⟩ := (hat Z2 H2 g2).dn g2.st.zh
  obtain rfl : u = Value.ref a := rv
  obtain ⟨hy, hl, h8', xs, hm, dr⟩ := dn_open I2 g2.st.zh hX.kk hX.hw hr ro
  obtain ⟨p, v', hp, rt, rv'⟩ := (dr.get (.tup ks)).1 t hg
  obtain ⟨ts, hts, _⟩ := (show ∃ ts, (kt = .tup ts ∨ kt = .wtup ts) ∧ KeyTs ks ts from by simpa only [KeyT] using hk)
  have ek : ∃ b, v2 = .ref b := by
    rcases hts with rfl | rfl
    · obtain ⟨b, _, e, _⟩ := rep_tup.mp r2; exact ⟨b, e⟩
    · obtain ⟨b, _, e, _⟩ := rep_wtup.mp r2; exact ⟨b, e⟩
  obtain ⟨b, rfl⟩ := ek
  obtain rfl : u2 = Value.ref b := rv2
  have nk := key_is I2 g2.st.zh hX.kk (.tup ks) hk r2 rfl
  exact ⟨hm.typeIs, wpAny_getItem_heap (knd := nestedKind X.prog X.w) hX.nroom ⟨nk, h8⟩ hm hp ⟨v', H2, I2.tok _, rv', k v' H2 Z2 (g1.trans g2) rt⟩⟩
theorem cg_inN (hi : EG S E i kt E1) (hd : DA S E1 d E2 E2 (dN S.w l)) (hk : KeyT (.tup ks) kt) (h8 : (NestedKey.tup ks).depth ≤ 8) : CG S E .In i d (getN l (.tup ks)).isSome E2 := fun W Z H σ Q st k X hX pins s I => by
  refine hi.run hX st I fun u2 s1 v2 H1 Z1 I1 rv2 g1 r2 => hd.run hX g1.st I1 fun u s2 v H2 Z2 I2 rv g2 hat => ?_
  obtain ⟨a, ob, rfl, hr, ro⟩ := (hat Z2 H2 (Go.refl g2.st)).dn g2.st.zh
  obtain rfl : u = Value.ref a := rv
  obtain ⟨hy, hl, h8', xs, hm, dr⟩ := dn_open I2 g2.st.zh hX.kk hX.hw hr ro
  obtain ⟨ts, hts, _⟩ := (show ∃ ts, (kt = .tup ts ∨ kt = .wtup ts) ∧ KeyTs ks ts from by simpa only [KeyT] using hk)
  have ek : ∃ b, v2 = .ref b := by
    rcases hts with rfl | rfl
    · obtain ⟨b, _, e, _⟩ := rep_tup.mp r2; exact ⟨b, e⟩
    · obtain ⟨b, _, e, _⟩ := rep_wtup.mp r2; exact ⟨b, e⟩
  obtain ⟨b, rfl⟩ := ek
  obtain rfl : u2 = Value.ref b := rv2
  have nk := key_is I2 g2.st.zh hX.kk (.tup ks) hk (r2.mono g2.step.zz) rfl
  refine wpAny_in_heap (knd := nestedKind X.prog X.w) hX.nroom ⟨nk, h8⟩ hy hm ?_
  rw [← (dr.get (.tup ks)).2]
  exact ⟨.bl _, H2, I2.tok _, rfl, k H2 Z2 (g1.trans g2)⟩
theorem cg_ninN (hi : EG S E i kt E1) (hd : DA S E1 d E2 E2 (dN S.w l)) (hk : KeyT (.tup ks) kt) (h8 : (NestedKey.tup ks).depth ≤ 8) : CG S E .NotIn i d (!(getN l (.tup ks)).isSome) E2 := fun W Z H σ Q st k X hX pins s I => by
  refine hi.run hX st I fun u2 s1 v2 H1 Z1 I1 rv2 g1 r2 => hd.run hX g1.st I1 fun u s2 v H2 Z2 I2 rv g2 hat => ?_
  obtain ⟨a, ob, rfl, hr, ro⟩ := (hat Z2 H2 (Go.refl g2.st)).dn g2.st.zh
  obtain rfl : u = Value.ref a := rv
  obtain ⟨hy, hl, h8', xs, hm, dr⟩ := dn_open I2 g2.st.zh hX.kk hX.hw hr ro
  obtain ⟨ts, hts, _⟩ := (show ∃ ts, (kt = .tup ts ∨ kt = .wtup ts) ∧ KeyTs ks ts from by simpa only [KeyT] using hk)
  have ek : ∃ b, v2 = .ref b := by
    rcases hts with rfl | rfl
    · obtain ⟨b, _, e, _⟩ := rep_tup.mp r2; exact ⟨b, e⟩
    · obtain ⟨b, _, e, _⟩ := rep_wtup.mp r2; exact ⟨b, e⟩
  obtain ⟨b, rfl⟩ := ek
  obtain rfl : u2 = Value.ref b := rv2
  have nk := key_is I2 g2.st.zh hX.kk (.tup ks) hk (r2.mono g2.step.zz) rfl
  refine wpAny_notIn_heap (knd := nestedKind X.prog X.w) hX.nroom ⟨nk, h8⟩ hy hm ?_
  rw [← (dr.get (.tup ks)).2]
  exact ⟨.bl _, H2, I2.tok _, rfl, k H2 Z2 (g1.trans g2)⟩
theorem var_run {j : Nat} {x : Str} {p : Pos} {v : V} {W : WX} {X : Cx} {pins : List (Addr × Obj)} {s : Shared} {Post : Value → Shared → Prop} (vo : VarOk S j x) (hX : S.Has W X) (hσ : σ[j]? = some (some v)) (I : Inv X pins σ H s) (k : ∀ u s1, Inv X pins σ H s1 → RelV v u → Post u s1) :
    wpAny (model X.prog X.w) X.A (eval (.Name x p) X.env) Post X.xe s := by
  have hs := hX.sc
  obtain ⟨A, s0, H0, env, outer, stack, ex, pn, xe, rfl⟩ := hX.ex
  exact thn ((pe_var (pos := p) vo.hN (by rw [hs]; exact vo.vis) vo.h1 vo.h2).run pins s σ H (fun v' H' => v' = v ∧ H' = H) I ⟨v, hσ, rfl, rfl⟩) fun u s1 ⟨v', H', I', r, e1, e2⟩ => by subst e1 e2; exact k u s1 I' r
/-- an owned thing is written -/
theorem Go.wrote {j : Nat} {a : Addr} {o' : HO} {t t' : T} (st : StOk S.K Z H σ E) (hj : E[j]? = some (.ow t)) (ha : σ[j]? = some (some (.ref a))) (r : ORep S.K Z a o' t') : Go S E σ Z H (E.set j (.ow t')) σ Z (upd H a o') := by
  obtain ⟨b, ob, h1, h2, h3, h4⟩ := st.ow j t hj
  rw [ha] at h1; cases h1
  have oa : Own σ E a := ⟨j, t, hj, ha⟩
  have hlt : j < E.length := (List.getElem?_eq_some_iff.mp hj).1
  have own : ∀ {l u}, (E.set j (.ow t'))[l]? = some (.ow u) → (l = j ∧ u = t') ∨ (l ≠ j ∧ E[l]? = some (.ow u)) := fun {l u} h => by
    by_cases hl : j = l
    · subst hl; rw [List.getElem?_set_self hlt] at h; cases h; exact .inl ⟨rfl, rfl⟩
    · rw [List.getElem?_set_ne hl] at h; exact .inr ⟨fun e => hl e.symm, h⟩
  refine ⟨⟨Same.refl _, fun b u e nb => ?_, fun b u e => .inl e⟩, ⟨fun b u e => ?_, st.nt, by rw [List.length_set]; exact st.len, fun l u h => ?_, fun l u h => ?_, fun l m b u v h1 h2 h3 h4 => ?_⟩, fun b ⟨l, u, h1, h2⟩ => ?_, fun _ _ => rfl⟩
  · rw [upd_ne (fun z => nb (by rw [z]; exact oa))]; exact e
  · rw [upd_ne (fun z => by rw [z, h3] at e; cases e)]; exact st.zh b u e
  · by_cases hl : j = l
    · subst hl; rw [List.getElem?_set_self hlt] at h; cases h
    · rw [List.getElem?_set_ne hl] at h; exact st.sh l u h
  · rcases own h with ⟨rfl, rfl⟩ | ⟨hl, h⟩
    · exact ⟨a, o', ha, upd_same, h3, r⟩
    · obtain ⟨b, ob, e1, e2, e3, e4⟩ := st.ow l u h
      have ne : b ≠ a := fun z => hl (st.ds l j a u t h hj (by rw [← z]; exact e1) ha)
      exact ⟨b, ob, e1, by rw [upd_ne ne]; exact e2, e3, e4⟩
  · have o1 : ∃ u, E[l]? = some (.ow u) := by
      rcases own h1 with ⟨rfl, _⟩ | ⟨_, h⟩
      · exact ⟨t, hj⟩
      · exact ⟨_, h⟩
    have o2 : ∃ u, E[m]? = some (.ow u) := by
      rcases own h2 with ⟨rfl, _⟩ | ⟨_, h⟩
      · exact ⟨t, hj⟩
      · exact ⟨_, h⟩
    obtain ⟨u1, o1⟩ := o1
    obtain ⟨u2, o2⟩ := o2
    exact st.ds l m b u1 u2 o1 o2 h3 h4
  · rcases own h1 with ⟨rfl, _⟩ | ⟨_, h⟩
    · exact .inl ⟨l, t, hj, h2⟩
    · exact .inl ⟨l, u, h, h2⟩
/-- x[key] = value, x ours -/
theorem sg_putN {j : Nat} {x : Str} {p pos' : Pos} {value : Expr} {t0 : T} (hv : EG S E value t E1) (vo : VarOk S j x) (h0 : E1[j]? = some (.ow t0)) (hi : EG S E1 i (keyT (.tup ks)) E2) (h2 : E2[j]? = some (.ow (dN S.w l))) (h8 : (NestedKey.tup ks).depth ≤ 8) (hl : l.length < 16777216)
    (hs : ∀ env, swapsWith value (some (.Subscript (.Name x p) i pos')) pos.line env = pure false := by intro _; rfl) : SG S E (.Assign [.Subscript (.Name x p) i pos'] value pos) (.nx (E2.set j (.ow (dN S.w (putN l (.tup ks) t))))) := fun W Z H σ D st k X hX pins s I => by
  refine wpAny_Assign_Subscript (hv.run hX st I fun r s1 v H1 Z1 I1 rv g1 rt => ?_) (hs _)
  obtain ⟨a, ob0, hσ, _, _, _⟩ := g1.st.ow j _ h0
  refine var_run vo hX hσ I1 fun u s2 I2 ru => hi.run hX g1.st I2 fun iv s3 y H3 Z3 I3 ry g3 rk => ?_
  cases show u = .ref a from ru
  obtain ⟨a', ob, hσ', ha, hz, ro⟩ := g3.st.ow j _ h2
  rw [hσ] at hσ'; cases hσ'
  obtain ⟨hy, hz', h8', xs, hm, dr⟩ := dn_open I3 g3.st.zh hX.kk hX.hw (.inl ha) ro
  obtain ⟨b, bs, rfl, _⟩ := rep_tup.mp (show Rep S.K Z3 (.tup (keyTs ks)) y from rk)
  obtain rfl : iv = Value.ref b := ry
  have nk := key_is I3 g3.st.zh hX.kk (.tup ks) (keyT_self _) rk rfl
  have hsz : xs.length ≤ sizeLine := by rw [← dr.length]; exact hz'
  refine wpAny_setItem_heap (knd := nestedKind X.prog X.w) (hsz := hsz) hX.nroom ⟨nk, h8⟩ hm fun h' hm' sb => ?_
  have rt3 := rt.mono g3.step.zz
  have dr' := dr.put rk rt3 rv
  obtain ⟨o', ro', mu', new⟩ := dn_close (K := S.K) (Z := Z3) (P := X.prog) hy (by rw [sizeLine_eq]; exact Nat.le_trans length_putN hl) (depth_putN h8' h8) hm' dr'
  have he : ∃ q, h'.get? a = some q := by obtain ⟨q, _, _, e, _⟩ := hm'; exact ⟨q, e⟩
  refine ⟨σ, upd H3 a o', d_write I3 (dn_mut ha ro) sb he (new _), ?_⟩
  rw [hX.hw] at ro'
  exact k _ _ _ (g1.trans (g3.trans (Go.wrote g3.st h2 hσ ro')))
end
end
end Cw
end L2

set_option Elab.async false
set_option linter.all false
set_option maxRecDepth 100000
set_option maxHeartbeats 2000000
namespace L2
namespace Cw
open PySem PySem.Spec PyProof.Rows
/-! ### what is made anew, ours alone -/
def EO (S : SS) (E : List Ent) (e : Expr) (t : T) (E1 : List Ent) : Prop :=
  ∀ (W : WX) (Z H : Hp) (σ : St) (Q : VK), StOk S.K Z H σ E → (∀ D o H1 Z1, Beside S.K (Own σ E) Z H D o E1 σ Z1 H1 → (H D = none ∨ Own σ E D) → ORep S.K Z1 D o t → Q (.ref D) H1) → R S W e σ H Q
section
variable {K : PySem.W.Frag} {Z Z' H H' Z1 H1 Z2 H2 : Hp} {σ σ' : St} {E E' E1 E2 E3 : List Ent} {S : SS} {o : HO} {D : Addr} {B : Addr → Prop}
theorem Beside.pre (g : Go S E σ Z H E1 σ Z1 H1) (b : Beside S.K (Own σ E1) Z1 H1 D o E2 σ' Z2 H2) (hD : H1 D = none ∨ Own σ E1 D) : Beside S.K (Own σ E) Z H D o E2 σ' Z2 H2 ∧ (H D = none ∨ Own σ E D) := by
  refine ⟨⟨b.st, ?_, fun c h => ?_, b.nd, b.zd, b.hd⟩, ?_⟩
  · refine (g.step.mono (fun c h => .inl h)).trans b.step fun c h => ?_
    rcases h with h | h
    · rcases g.ow c h with z | z
      · exact .inl (.inl z)
      · exact .inr z
    · exact .inl (.inr h)
  · rcases b.ow c h with z | z
    · exact g.ow c z
    · exact (g.step.there z).symm
  · rcases hD with z | z
    · exact g.step.there z
    · exact (g.ow D z).symm
/-- the new thing set beside: a step of ours -/
theorem Beside.drop (b : Beside K B Z H D o E1 σ Z1 H1) (hD : H D = none ∨ B D) : Step B Z H Z1 H1 := by
  refine ⟨b.step.zz, fun c u e nb => b.step.keep c u e fun z => ?_, fun c u e => ?_⟩
  · rcases z with z | z
    · exact nb z
    · subst z; rcases hD with y | y
      · rw [e] at y; cases y
      · exact nb y
  · rcases b.step.new c u e with z | z | z
    · exact .inl z
    · exact .inr (.inl z)
    · rcases z with z | z
      · exact .inr (.inr z)
      · subst z; exact .inr hD
/-- frozen -/
theorem Beside.fz {t : T} (b : Beside S.K (Own σ E) Z H D o E1 σ Z1 H1) (hD : H D = none ∨ Own σ E D) (r : ORep S.K Z1 D o t) : Go S E σ Z H E1 σ (upd Z1 D o) H1 ∧ Rep S.K (upd Z1 D o) t (.ref D) := by
  have zz : Same Z1 (upd Z1 D o) := fun c u e => by rw [upd_ne (fun z => by subst z; rw [b.zd] at e; cases e)]; exact e
  have s0 := b.drop hD
  refine ⟨⟨⟨s0.zz.trans zz, s0.keep, fun c u e => ?_⟩, ⟨fun c u e => ?_, fun c ps e => ?_, b.st.len, fun i t h => ?_, fun i t h => ?_, b.st.ds⟩, fun c h => b.ow c h, fun _ _ => rfl⟩, (r.mono zz).rep upd_same⟩
  · by_cases hc : c = D
    · subst hc; exact .inr hD
    · rw [upd_ne hc] at e; exact s0.new c u e
  · by_cases hc : c = D
    · subst hc; rw [upd_same] at e; rw [← e]; exact b.hd
    · rw [upd_ne hc] at e; exact b.st.zh c u e
  · by_cases hc : c = D
    · subst hc; rw [upd_same] at e; exact r.notbl ps (Option.some.inj e)
    · rw [upd_ne hc] at e; exact b.st.nt c ps e
  · obtain ⟨v, h1, h2⟩ := b.st.sh i t h
    exact ⟨v, h1, h2.mono zz⟩
  · obtain ⟨a, u, h1, h2, h3, h4⟩ := b.st.ow i t h
    exact ⟨a, u, h1, h2, by rw [upd_ne (fun z => b.nd ⟨i, t, h, by rw [← z]; exact h1⟩)]; exact h3, h4.mono zz⟩
theorem eg_o {e : Expr} {t : T} (h : EO S E e t E1) : EG S E e t E1 := fun W Z H σ Q st k => h W Z H σ Q st fun D o H1 Z1 b hD r => by
  obtain ⟨g, rr⟩ := b.fz hD r
  exact k _ _ _ g rr
/-- set in a slot -/
theorem Beside.put {i : Nat} {t : T} (b : Beside S.K (Own σ E) Z H D o E1 σ Z1 H1) (hD : H D = none ∨ Own σ E D) (r : ORep S.K Z1 D o t) (hi : i < E1.length) (np : i ∉ S.pin) : Go S E σ Z H (E1.set i (.ow t)) (σ.set i (some (.ref D))) Z1 H1 := by
  have hi' : i < σ.length := by rw [b.st.len]; exact hi
  have out : ∀ {j : Nat} {u : T}, (E1.set i (.ow t))[j]? = some (.ow u) → (j = i ∧ u = t) ∨ (j ≠ i ∧ E1[j]? = some (.ow u)) := fun {j u} h => by
    by_cases hj : i = j
    · subst hj; rw [List.getElem?_set_self hi] at h; cases h; exact .inl ⟨rfl, rfl⟩
    · rw [List.getElem?_set_ne hj] at h; exact .inr ⟨fun e => hj e.symm, h⟩
  have sl : ∀ {j : Nat}, j ≠ i → (σ.set i (some (.ref D)))[j]? = σ[j]? := fun {j} h => by rw [List.getElem?_set_ne (fun e => h e.symm)]
  have nD : ∀ {j : Nat} {u : T}, E1[j]? = some (.ow u) → σ[j]? = some (some (.ref D)) → False := fun h e => b.nd ⟨_, _, h, e⟩
  refine ⟨b.drop hD, ⟨b.st.zh, b.st.nt, by rw [List.length_set, List.length_set]; exact b.st.len, fun j u h => ?_, fun j u h => ?_, fun j m a u v h1 h2 h3 h4 => ?_⟩, fun c ⟨j, u, h1, h2⟩ => ?_, fun j hj => sl fun e => np (by rw [← e]; exact hj)⟩
  · by_cases hj : i = j
    · subst hj; rw [List.getElem?_set_self hi] at h; cases h
    · rw [List.getElem?_set_ne hj] at h; rw [List.getElem?_set_ne hj]; exact b.st.sh j u h
  · rcases out h with ⟨rfl, rfl⟩ | ⟨hj, h⟩
    · exact ⟨D, o, List.getElem?_set_self hi', b.hd, b.zd, r⟩
    · rw [sl hj]; exact b.st.ow j u h
  · rcases out h1 with ⟨rfl, _⟩ | ⟨hj, k1⟩
    · rcases out h2 with ⟨rfl, _⟩ | ⟨hm, k2⟩
      · rfl
      · rw [List.getElem?_set_self hi'] at h3; cases h3
        rw [sl hm] at h4
        exact (nD k2 h4).elim
    · rw [sl hj] at h3
      rcases out h2 with ⟨rfl, _⟩ | ⟨hm, k2⟩
      · rw [List.getElem?_set_self hi'] at h4; cases h4
        exact (nD k1 h3).elim
      · rw [sl hm] at h4
        exact b.st.ds j m a u v k1 k2 h3 h4
  · rcases out h1 with ⟨rfl, _⟩ | ⟨hj, h1⟩
    · rw [List.getElem?_set_self hi'] at h2; cases h2
      exact hD.symm
    · rw [sl hj] at h2; exact b.ow c ⟨j, u, h1, h2⟩
theorem sg_setO {i : Nat} {x : Str} {e : Expr} {t : T} {pos pos' : Pos} (so : StoOk S i x) (h : EO S E e t E1) (hi : i < E1.length) (hs : ∀ env, swapsWith e (some (.Name x pos')) pos.line env = pure false := by intro _; rfl) : SG S E (.Assign [.Name x pos'] e pos) (.nx (E1.set i (.ow t))) := fun W Z H σ Dn s k => by
  refine RSt.mk (t := tAsg (R S W e) (gName i)) (fun X hX => ?_) (h W Z H σ _ s fun D o H1 Z1 b hD r => ?_)
  · have q := hX.sc
    have pe := hX.pe e
    obtain ⟨A, s0, H0, env, outer, stack, ex, pn, xe, rfl⟩ := hX.ex
    exact ps_set so.nd so.hN (by rw [q]; exact so.loc) pe (hs _) (by rw [q]; exact so.hf)
  · exact k _ _ _ (b.put hD r hi so.np)
/-- an owned thing read as a value: from here on it stands still -/
theorem eg_fz {i : Nat} {x : Str} {p : Pos} {t : T} (v : VarOk S i x) (h : E[i]? = some (.ow t)) : EG S E (.Name x p) t (E.set i (.sh t)) := fun W Z H σ Q st k => by
  obtain ⟨a, ob, h1, h2, h3, h4⟩ := st.ow i t h
  have hi : i < E.length := (List.getElem?_eq_some_iff.mp h).1
  have zz : Same Z (upd Z a ob) := fun c u e => by rw [upd_ne (fun z => by subst z; rw [h3] at e; cases e)]; exact e
  refine R.mk (fun X hX => ?_) (show tVar i σ H Q from ⟨.ref a, h1, k (.ref a) H (upd Z a ob) ?_ ((h4.mono zz).rep upd_same)⟩)
  · have hs := hX.sc
    obtain ⟨A, s0, H0, env, outer, stack, ex, pn, xe, rfl⟩ := hX.ex
    exact pe_var v.hN (by rw [hs]; exact v.vis) v.h1 v.h2
  · have out : ∀ {j : Nat} {u : T}, (E.set i (.sh t))[j]? = some (.ow u) → j ≠ i ∧ E[j]? = some (.ow u) := fun {j u} h => by
      by_cases hj : i = j
      · subst hj; rw [List.getElem?_set_self hi] at h; cases h
      · rw [List.getElem?_set_ne hj] at h; exact ⟨fun e => hj e.symm, h⟩
    refine ⟨⟨zz, fun c u e _ => e, fun c u e => ?_⟩, ⟨fun c u e => ?_, fun c ps e => ?_, by rw [List.length_set]; exact st.len, fun j u hj => ?_, fun j u hj => ?_, fun j m b u w h1 h2 h3 h4 => st.ds j m b u w (out h1).2 (out h2).2 h3 h4⟩, fun c ⟨j, u, q1, q2⟩ => .inl ⟨j, u, (out q1).2, q2⟩, fun _ _ => rfl⟩
    · by_cases hc : c = a
      · subst hc; exact .inr (.inr ⟨i, t, h, h1⟩)
      · rw [upd_ne hc] at e; exact .inl e
    · by_cases hc : c = a
      · subst hc; rw [upd_same] at e; rw [← e]; exact h2
      · rw [upd_ne hc] at e; exact st.zh c u e
    · by_cases hc : c = a
      · subst hc; rw [upd_same] at e; exact h4.notbl ps (Option.some.inj e)
      · rw [upd_ne hc] at e; exact st.nt c ps e
    · by_cases hj' : i = j
      · subst hj'; rw [List.getElem?_set_self hi] at hj; cases hj
        exact ⟨_, h1, (h4.mono zz).rep upd_same⟩
      · rw [List.getElem?_set_ne hj'] at hj
        obtain ⟨v', e1, e2⟩ := st.sh j u hj
        exact ⟨v', e1, e2.mono zz⟩
    · obtain ⟨hne, hj⟩ := out hj
      obtain ⟨b, o2, e1, e2, e3, e4⟩ := st.ow j u hj
      have ne : b ≠ a := fun z => hne (st.ds j i a u t hj h (by rw [← z]; exact e1) h1)
      exact ⟨b, o2, e1, e2, by rw [upd_ne ne]; exact e3, e4.mono zz⟩

/-! ### new ones -/
theorem eo_dict0 {pos : Pos} : EO S E (.Dict [] [] pos) (dN S.w []) E := fun W Z H σ Q st k X hX pins s I => by
  have hn : H s.heap.objs.size = none := I.hok.fresh Nat.le.refl
  have new : ObjOk X.prog X.w (upd H s.heap.objs.size (.ext (dnP S.w [] s.heap.objs.size [] []))) (s.heap.push { cls := .type "dict", data := .dict #[] }) s.heap.objs.size (.ext (dnP S.w [] s.heap.objs.size [] [])) := by
    refine ⟨⟨beq_eq_false_iff_ne.mpr (Ne.symm (Nat.ne_of_lt I.big)), Nat.zero_le _, (fun _ h => nomatch h), [], rfl, rfl, .nil, _, #[], 0, Heap.get?_push_size _ rfl, ⟨rfl, rfl, rfl⟩, rfl, rfl, List.nodup_nil⟩, ⟨_, Heap.get?_push_size _ rfl⟩, fun h1 h2 p st => ?_⟩
    obtain ⟨p1, p2, p3, ys, p4, p5, p6, ob', es', ep', q1, q2, q3, q4, q5⟩ := p
    exact ⟨p1, p2, p3, ys, p4, p5, p6, ob', es', ep', st _ q1, q2, q3, q4, q5⟩
  refine wpAny_Dict_empty ⟨.ref s.heap.objs.size, _, I.laid (a := s.heap.objs.size) (t' := s.toks) (fun _ _ q => Heap.get?_push_of_some _ q) (Nat.le_refl _) new, rfl, ?_⟩
  exact k _ _ _ _ (Beside.start st hn (by intro ps q; cases q)) (.inl hn) ⟨[], [], rfl, .nil, .nil⟩
theorem eo_lst {es : List Expr} {ts : List T} {pos : Pos} (h : EAs S E es ts E1) (hl : ts.length ≤ 16777216) : EO S E (.List es pos) (.lst ts) E1 := fun W Z H σ Q st k =>
  R.mk (t := tLst (RA S W es)) (fun X hX => pe_lst (hX.pa es)) (h W Z H σ _ st fun vs H1 Z1 g1 r1 => ⟨by rw [r1.length, sizeLine_eq]; exact hl, fun p hp => by
    obtain ⟨b, hD⟩ := (Beside.start (o := .lst vs) g1.st hp (by intro ps q; cases q)).pre g1 (.inl hp)
    exact k _ _ _ _ b hD r1⟩)
theorem eo_dictK0 {pos : Pos} : EO S E (.Dict [] [] pos) (.dicK [] []) E := fun W Z H σ Q st k =>
  R.mk (t := tDNewK) (fun X hX => pe_dnewK) (fun p hp => k _ _ _ _ (Beside.start (o := .dK []) st hp (by intro ps q; cases q)) (.inl hp) ⟨rfl, .nil⟩)
end
end Cw
end L2

set_option Elab.async false
set_option linter.all false
set_option maxRecDepth 100000
namespace L2.Cw
open PySem PySem.Spec PyProof.Rows PySem.W
/-- keys of a dict that stands locked, told by its object and what its keys are; nothing is said of how they are made -/
def ItR (d : Addr) (ob : Obj) (u : HO) (n : Nat) (ks : Nat → Option V) : It where
  go i H := H d = some (.frz ob u) ∧ i < n
  yld i H x H' := H' = H ∧ ks i = some x
  stop i H := H d = some (.frz ob u) ∧ i = n
/-- a walk that the library knows (Goes over the raw dict) serves as a turn of the hand layer: the bridge, for any content of the dict -/
theorem turn_goes {P : Program} {w : World} {K : PySem.W.Frag} {tg : Expr} {d it : Addr} {ob : Obj} {u : HO} {es : Array DictEntry} {ep : Nat} {ks : Nat → Option V} (apart : d ≠ it) (exact : ob.ExactDict) (raw : ob.data = .dict es ep)
    (keys : ∀ i (h : i < es.size), ∃ x, ks i = some x ∧ RelV x es[i].key) : Turn P w K tg (ItR d ob u es.size ks) [it] it (fun i h => h.IsKeyIter it d i es.size ep) := by
  have there : ∀ {Y : Cx} {pins : List (Addr × Obj)} {τ : St} {H : Hp} {s : Shared}, Inv Y pins τ H s → H d = some (.frz ob u) → s.heap.DictRaw d es ep := fun I e => ⟨ob, (I.hok d _ e).1, exact, raw⟩
  constructor
  · exact List.mem_singleton_self it
  · intro i h q b hb
    rw [List.mem_singleton.mp hb]
    obtain ⟨oi, e, _, f⟩ := q
    exact ⟨oi, e, fun v z => nomatch f.symm.trans z⟩
  · exact fun i h h' q stays => q.at fun oi e => stays it (List.mem_singleton_self it) oi e
  · rintro Y rfl rfl rfl calm i pins s τ H Ex I free q ⟨lock, lt⟩
    have G := Goes.rawKeys (prog := Y.prog) (w := Y.w) (target := tg) (I.ok.hd calm) it d apart es ep
    have fr := free it (List.mem_singleton_self it)
    have back : ∀ {h' : Heap} {tk : Nat}, (∀ b o, b ∉ [it] → s.heap.get? b = some o → h'.get? b = some o) → Inv Y pins τ H { s with heap := h', toks := tk } := fun kept =>
      I.turned (fun b o ne e => kept b o (fun z => ne (List.mem_singleton.mp z)) e) fr.1 fr.2.1 fr.2.2.2.1 fr.2.2.2.2.1 fr.2.2.2.2.2
    obtain ⟨x, hx, rx⟩ := keys i lt
    exact G.goes i s (fun v s2 => ∃ x H', Inv Y pins τ H' s2 ∧ RelV x v ∧ (ItR d ob u es.size ks).yld i H x H' ∧ s2.heap.IsKeyIter it d (i + 1) es.size ep ∧ ∀ b ∈ [it], H' b = none) Ex lt ⟨q, there I lock⟩
      fun v h' tk ⟨_, ev⟩ q' kept _ => ⟨x, H, back kept, by rw [ev]; exact rx, ⟨rfl, hx⟩, q'.1, fun b hb => (free b hb).1⟩
  · rintro Y rfl rfl rfl calm i pins s τ H Ex I free q ⟨lock, rfl⟩
    have fr := free it (List.mem_singleton_self it)
    exact (Goes.rawKeys (prog := Y.prog) (w := Y.w) (target := tg) (I.ok.hd calm) it d apart es ep).stops s (fun s1 => Inv Y pins τ H s1) Ex ⟨q, there I lock⟩
      fun h' tk kept _ => I.turned (fun b o ne e => kept b o (fun z => ne (List.mem_singleton.mp z)) e) fr.1 fr.2.1 fr.2.2.2.1 fr.2.2.2.2.1 fr.2.2.2.2.2
  · exact fun A i s Q Ex q h => wpAny_pyIter_keyiter q h
end L2.Cw

set_option Elab.async false
set_option linter.all false
set_option maxRecDepth 100000
set_option maxHeartbeats 2000000
namespace L2
namespace Cw
open PySem PySem.Spec PyProof.Rows
/-! ### instances -/
def getF (fs : List Str) (ts : List T) (f : Str) : Option T := (fs.zip ts).lookup f
section
variable {K : PySem.W.Frag} {Z Z' H H' Z1 H1 Z2 H2 : Hp} {σ σ' : St} {E E' E1 E2 E3 : List Ent} {S : SS} {o : HO} {D : Addr} {B : Addr → Prop} {C : Addr} {fs : List Str} {ts us : List T} {f m : Str} {t : T}
theorem getF_reps : ∀ {fv : List (Str × V)} {ts : List T}, Reps K Z ts (fv.map Prod.snd) → ((fv.map Prod.fst).zip ts).lookup f = some t → ∃ v, fv.lookup f = some v ∧ Rep K Z t v
  | [], _, _, e => by simp at e
  | (g, x) :: fv, [], h, _ => by have := h.unnil; simp at this
  | (g, x) :: fv, u :: ts, h, e => by
    obtain ⟨v, r, q, h1, h2⟩ := h.uncons
    simp only [List.map_cons, List.cons.injEq] at q
    obtain ⟨rfl, rfl⟩ := q
    simp only [List.map_cons, List.zip_cons_cons, List.lookup_cons] at e ⊢
    cases hb : f == g with
    | true => rw [hb] at e; simp only [Option.some.injEq] at e; subst e; exact ⟨x, rfl, h1⟩
    | false => rw [hb] at e; exact getF_reps h2 e
theorem At.ins {v : V} (zh : Same Z H) (h : At K Z H (.ins C fs ts) v) : ∃ a dx fv, v = .ref a ∧ H a = some (.ins C dx fv) ∧ fv.map Prod.fst = fs ∧ Reps K Z ts (fv.map Prod.snd) := by
  rcases h with h | ⟨a, ob, e1, e2, _, e3⟩
  · obtain ⟨a, dx, fv, h1, h2, h3, h4⟩ := rep_ins.mp h
    exact ⟨a, dx, fv, h1, zh _ _ h2, h3, h4⟩
  · cases ob <;> try exact e3.elim
    obtain ⟨rfl, h2, h3⟩ := e3
    exact ⟨a, _, _, e1, e2, h2, h3⟩
/-- o.f -/
theorem eg_fld {e : Expr} {pos : Pos} (c : Cls S.K C) (n : NoAttr S.K C f) (hd : DA S E e E1 E1 (.ins C fs ts)) (hf : getF fs ts f = some t) (hb : ∀ env, attributeBase e f env (eval e env) = eval e env := by intro _; rfl) : EG S E (.Attribute e f pos) t E1 := fun W Z H σ Q st k => by
  refine R.mk (t := tFld S.K (R S W e) f) (fun X hX => by rw [← hX.kk]; exact pe_fld (hX.pe e) (hb _)) (hd W Z H σ _ st fun v H1 Z1 g hat => ?_)
  obtain ⟨a, dx, fv, rfl, e2, e3, e4⟩ := (hat Z1 H1 (Go.refl g.st)).ins g.st.zh
  subst e3
  obtain ⟨u, hu, ru⟩ := getF_reps e4 hf
  exact ⟨a, C, dx, fv, u, rfl, e2, c, n, hu, k u H1 Z1 g ru⟩
theorem putF_new {y : V} : ∀ {fv : List (Str × V)}, f ∉ fv.map Prod.fst → putF f y fv = fv ++ [(f, y)]
  | [], _ => rfl
  | (g, x) :: fv, h => by
    simp only [List.map_cons, List.mem_cons, not_or] at h
    show (if g = f then (g, y) :: fv else (g, x) :: putF f y fv) = _
    rw [if_neg (fun z => h.1 z.symm), putF_new h.2]
    rfl
/-- self.f = e, a new field -/
theorem sg_fld {j : Nat} {x : Str} {p pos pos' : Pos} {value : Expr} (c : Cls S.K C) (n : NoAttr S.K C f) (hv : EG S E value t E1) (vo : VarOk S j x) (hj : E1[j]? = some (.ow (.ins C fs ts))) (hf : f ∉ fs) (hl : fs.length < 1000)
    (hs : ∀ env, swapsWith value (some (.Attribute (.Name x p) f pos')) pos.line env = pure false := by intro _; rfl) : SG S E (.Assign [.Attribute (.Name x p) f pos'] value pos) (.nx (E1.set j (.ow (.ins C (fs ++ [f]) (ts ++ [t]))))) := fun W Z H σ D st k => by
  refine RSt.mk (t := sFld S.K (tVar j) (R S W value) f) (fun X hX => ?_) (hv W Z H σ _ st fun v H1 Z1 g1 r1 => ?_)
  · have hsc := hX.sc
    have pe := hX.pe value
    have hK := hX.kk
    rw [← hK]
    obtain ⟨A, s0, H0, env, outer, stack, ex, pn, xe, rfl⟩ := hX.ex
    exact ps_fld (pe_var vo.hN (by rw [hsc]; exact vo.vis) vo.h1 vo.h2) pe (hs _)
  · obtain ⟨a, ob, h1, h2, h3, h4⟩ := g1.st.ow j _ hj
    cases ob <;> try exact h4.elim
    rename_i C' dx fv
    obtain ⟨rfl, e1, e2⟩ := h4
    subst e1
    refine ⟨.ref a, h1, a, _, dx, fv, rfl, h2, c, n, by rw [List.length_map] at hl; exact hl, k _ _ _ (g1.trans (Go.wrote g1.st hj h1 ?_))⟩
    rw [putF_new hf]
    refine ⟨rfl, by rw [List.map_append]; rfl, ?_⟩
    rw [List.map_append]
    exact e2.append (.cons r1 .nil)
/-- what __init__ promises: a new instance gets these fields -/
def Inits (P : Program) (w : World) (K : PySem.W.Frag) (mg : Str → Option Value) (base : Heap) (k : Nat) (f : Addr) (fd : FuncData) (ps : List Str) (C : Addr) (ts : List T) (fs : List Str) (us : List T) : Prop :=
  FnOk P w K mg base (L2.CX P w) k f fd ps (spOf K (.ow (.ins C [] []) :: ts.map Ent.sh) (.ret .non (.ow (.ins C fs us) :: ts.map Ent.sh)))
/-- .. or refuses -/
def InitErrs (P : Program) (w : World) (K : PySem.W.Frag) (mg : Str → Option Value) (base : Heap) (k : Nat) (f : Addr) (fd : FuncData) (ps : List Str) (C : Addr) (ts : List T) (X : Addr) : Prop :=
  ∃ as', FnOk P w K mg base (L2.CX P w) k f fd ps (spOf K (.ow (.ins C [] []) :: ts.map Ent.sh) (.exc X as'))
theorem make_st {vs : List V} {x dx : Addr} (st : StOk K Z H σ E) (hx : H x = none) (hdx : H dx = none) (ne : dx ≠ x) (r : Reps K Z ts vs) :
    StOk K Z (upd (upd H dx (.own x)) x (.ins C dx [])) ((V.ref x :: vs).map some) (.ow (.ins C [] []) :: ts.map Ent.sh) := by
  have zx : ∀ b u, Z b = some u → b ≠ x ∧ b ≠ dx := fun b u e => by
    have e' := st.zh _ _ e
    exact ⟨fun z => (by rw [← z, e'] at hx; cases hx), fun z => (by rw [← z, e'] at hdx; cases hdx)⟩
  refine ⟨fun b u e => ?_, st.nt, by simp [r.length], fun i u h => ?_, fun i u h => ?_, fun i j a u w h1 h2 h3 h4 => ?_⟩
  · rw [upd_ne (zx b u e).1, upd_ne (zx b u e).2]; exact st.zh b u e
  · cases i with
    | zero => cases h
    | succ i =>
      simp only [List.getElem?_cons_succ, List.getElem?_map] at h
      cases q : ts[i]? with
      | none => rw [q] at h; cases h
      | some u' =>
        rw [q] at h; cases h
        obtain ⟨v, e1, e2⟩ := r.at q
        exact ⟨v, by simp [e1], e2⟩
  · cases i with
    | zero =>
      cases h
      refine ⟨x, _, rfl, upd_same, ?_, ⟨rfl, rfl, .nil⟩⟩
      cases q : Z x with
      | none => rfl
      | some u => exact absurd rfl (zx x u q).1
    | succ i =>
      simp only [List.getElem?_cons_succ, List.getElem?_map] at h
      cases q : ts[i]? with
      | none => rw [q] at h; cases h
      | some u' => rw [q] at h; cases h
  · have z : ∀ {i : Nat} {u : T}, ((.ow (.ins C [] []) :: ts.map Ent.sh) : List Ent)[i]? = some (.ow u) → i = 0 := fun {i u} h => by
      cases i with
      | zero => rfl
      | succ i =>
        simp only [List.getElem?_cons_succ, List.getElem?_map] at h
        cases q : ts[i]? with
        | none => rw [q] at h; cases h
        | some u' => rw [q] at h; cases h
    rw [z h1, z h2]
theorem make_own {vs : List V} {x c : Addr} {as : T} (h : Own ((V.ref x :: vs).map some) (.ow as :: ts.map Ent.sh) c) : c = x := by
  obtain ⟨i, u, h1, h2⟩ := h
  cases i with
  | zero => cases h2; rfl
  | succ i =>
    simp only [List.getElem?_cons_succ, List.getElem?_map] at h1
    cases q : ts[i]? with
    | none => rw [q] at h1; cases h1
    | some u' => rw [q] at h1; cases h1
theorem make_step {vs : List V} {x dx : Addr} {as' : List Ent} (st : StOk K Z H σ E) (hx : H x = none) (hdx : H dx = none)
    (g : GoA K (.ow (.ins C [] []) :: ts.map Ent.sh) (V.ref x :: vs) Z (upd (upd H dx (.own x)) x (.ins C dx [])) as' Z' H') : Step (fun _ => False) Z H (fun b => if b = x then none else Z' b) H' ∧ (∀ (i : Nat) (u : T), E[i]? = some (Ent.ow u) → ∃ (a : Addr) (ob : HO), σ[i]? = some (some (V.ref a)) ∧ H' a = some ob ∧ (if a = x then none else Z' a) = none ∧ ORep K Z a ob u ∧ a ≠ x) := by
  have hxx : ∀ b u, H b = some u → b ≠ x ∧ b ≠ dx := fun b u e => by
    exact ⟨fun z => (by rw [← z, e] at hx; cases hx), fun z => (by rw [← z, e] at hdx; cases hdx)⟩
  have up : ∀ b u, H b = some u → (upd (upd H dx (.own x)) x (.ins C dx [])) b = some u := fun b u e => by rw [upd_ne (hxx b u e).1, upd_ne (hxx b u e).2]; exact e
  have dn : ∀ b, (upd (upd H dx (.own x)) x (.ins C dx [])) b = none → H b = none := fun b e => by
    cases q : H b with
    | none => rfl
    | some u => rw [up b u q] at e; cases e
  have nx : ∀ b, ¬ b = x → ¬ Own ((V.ref x :: vs).map some) (Ent.ow (T.ins C [] []) :: ts.map Ent.sh) b := fun b h z => h (make_own (as := T.ins C [] []) (ts := ts) z)
  have kp : ∀ b u, H b = some u → H' b = some u := fun b u e => g.step.keep b u (up b u e) (nx b (hxx b u e).1)
  refine ⟨⟨fun b u e => ?_, fun b u e _ => kp b u e, fun b u e => ?_⟩, fun i u h => ?_⟩
  · rw [if_neg (hxx b u (st.zh b u e)).1]; exact g.step.zz b u e
  · by_cases hb : b = x
    · rw [if_pos hb] at e; cases e
    · rw [if_neg hb] at e
      rcases g.step.new b u e with z | z | z
      · exact .inl z
      · exact .inr (.inl (dn b z))
      · exact absurd z (nx b hb)
  · obtain ⟨a, ob, h1, h2, h3, h4⟩ := st.ow i u h
    have na := (hxx a ob h2).1
    refine ⟨a, ob, h1, kp a ob h2, ?_, h4, na⟩
    rw [if_neg na]
    cases q : Z' a with
    | none => rfl
    | some w =>
      rcases g.step.new a w q with z | z | z
      · rw [h3] at z; cases z
      · rw [dn a z] at h2; cases h2
      · exact absurd z (nx a na)
/-- back from __init__: the instance stands still from here on -/
theorem make_back {vs : List V} {x dx : Addr} {as' : List Ent} (st : StOk S.K Z H σ E) (hx : H x = none) (hdx : H dx = none)
    (g : GoA S.K (.ow (.ins C [] []) :: ts.map Ent.sh) (V.ref x :: vs) Z (upd (upd H dx (.own x)) x (.ins C dx [])) (.ow (.ins C fs us) :: as') Z' H') :
    ∃ Z3, Go S E σ Z H E σ Z3 H' ∧ Rep S.K Z3 (.ins C fs us) (.ref x) := by
  obtain ⟨s1, s2⟩ := make_step st hx hdx g
  obtain ⟨a, ob, h1, h2, h3, h4⟩ := g.st.ow 0 _ rfl
  simp only [List.map_cons, List.getElem?_cons_zero, Option.some.injEq, V.ref.injEq] at h1
  subst h1
  have zz : Same Z' (upd Z' x ob) := fun b u e => by rw [upd_ne (fun z => by subst z; rw [h3] at e; cases e)]; exact e
  have zz0 : Same Z (upd Z' x ob) := g.step.zz.trans zz
  refine ⟨upd Z' x ob, ⟨⟨zz0, fun b u e _ => s1.keep b u e id, fun b u e => ?_⟩, ⟨fun b u e => ?_, fun b ps e => ?_, st.len, fun i t h => ?_, fun i t h => ?_, st.ds⟩, fun b h => .inl h, fun _ _ => rfl⟩, (h4.mono zz).rep upd_same⟩
  · by_cases hb : b = x
    · subst hb; exact .inr (.inl hx)
    · rw [upd_ne hb] at e
      rcases s1.new b u (by rw [if_neg hb]; exact e) with z | z | z
      · exact .inl z
      · exact .inr (.inl z)
      · exact z.elim
  · by_cases hb : b = x
    · subst hb; rw [upd_same] at e; rw [← e]; exact h2
    · rw [upd_ne hb] at e; exact g.st.zh b u e
  · by_cases hb : b = x
    · subst hb; rw [upd_same] at e; exact h4.notbl ps (Option.some.inj e)
    · rw [upd_ne hb] at e; exact g.st.nt b ps e
  · obtain ⟨v, e1, e2⟩ := st.sh i t h
    exact ⟨v, e1, e2.mono zz0⟩
  · obtain ⟨a, o2, e1, e2, e3, e4, e5⟩ := s2 i t h
    rw [if_neg e5] at e3
    exact ⟨a, o2, e1, e2, by rw [upd_ne e5]; exact e3, e4.mono zz0⟩
/-- a call of a method, told by its parts -/
def MCall (ob : Expr) (m : Str) (apos : Pos) (es : List Expr) (pos : Pos) : Prop := ∀ env, ∃ pl : Sem Bool, eval (.Call (.Attribute ob m apos) es [] pos) env = (eval ob env >>= fun q => standAt apos.atName >>= fun _ => holding [q] (getMethod q m pl) >>= fun z => callWith pos z.1 z.2 (backTo pos (starEach es env)) (backToKw pos (keywordEach [] env)))
section
variable {k : Nat} {fa : Addr} {fd : FuncData} {ps : List Str} {x : Str} {p pos apos : Pos} {e : Expr} {es : List Expr}
/-- C(args) -/
theorem eg_make (M : Mk S.K C fa) (g : GlOk S x) (hm : S.mg x = some (.ref C)) (hb : Binds S.K fd ps []) (F : Inits S.P S.w S.K S.mg S.base k fa fd ps C ts fs us) (hk : k + 1 ≤ S.k) (ha : EAs S E (e :: es) ts E1)
    (he : ∀ env, starEach (e :: es) env = (false, eval e env) :: starEach es env := by intro _; rfl) (hpl : ∀ env, (backTo pos (starEach es env)).any (·.1) = false := by intro _; rfl) : EG S E (.Call (.Name x p) (e :: es) [] pos) (.ins C fs us) E1 := fun W Z H σ Q st kq => by
  refine R.mk (t := tMake C (spOf S.K (.ow (.ins C [] []) :: ts.map Ent.sh) (.ret .non (.ow (.ins C fs us) :: ts.map Ent.sh))) [] (fun _ _ _ => False) (RA S W (e :: es))) (fun X hX => ?_) (ha W Z H σ _ st fun vs H1 Z1 g1 r1 x dx hx hdx ne => ?_)
  · have gg := g.at hX
    have pa := hX.pa (e :: es)
    have hr := hX.room.mono hk
    obtain ⟨A, s0, H0, env, outer, stack, ex, pn, xe, rfl⟩ := hX.ex
    exact pe_make (CX := L2.CX S.P S.w) M F hr gg hm hb .nil passLL pa g.h1 (he _) (hpl _)
  · rw [List.append_nil]
    refine ⟨Z1, make_st g1.st hx hdx ne r1, fun v H2 Z2 g2 r2 => ⟨rep_non.mp r2, ?_⟩⟩
    obtain ⟨Z3, g3, r3⟩ := make_back g1.st hx hdx g2
    exact kq _ H2 Z3 (g1.trans g3) r3
/-- o.m(args) -/
theorem eg_meth {ob : Expr} {t0 : T} (c : Cls S.K C) (hm : Meth S.K C m fa) (hn : m ∉ fs) (hb : Binds S.K fd ps []) (ho : EG S E ob (.ins C fs us) E1) (ha : EAs S E1 (e :: es) ts E2) (F : Gives S.P S.w S.K S.mg S.base k fa fd ps (.ins C fs us :: ts) t0) (hk : k ≤ S.k) (hc : MCall ob m apos (e :: es) pos := by intro _; exact ⟨_, rfl⟩)
    (he : ∀ env, starEach (e :: es) env = (false, eval e env) :: starEach es env := by intro _; rfl) (hpl : ∀ env, (backTo pos (starEach es env)).any (·.1) = false := by intro _; rfl) : EG S E (.Call (.Attribute ob m apos) (e :: es) [] pos) t0 E2 := fun W Z H σ Q st kq => by
  refine R.mk (t := tMeth C m (spOf S.K ((.ins C fs us :: ts).map Ent.sh) (.ret t0 ((.ins C fs us :: ts).map Ent.sh))) [] (fun _ _ _ => False) (R S W ob) (RA S W (e :: es))) (fun X hX => ?_) (ho W Z H σ _ st fun v H1 Z1 g1 r1 => ?_)
  · have po := hX.pe ob
    have pa := hX.pa (e :: es)
    have hr := hX.room.mono hk
    obtain ⟨A, s0, H0, env, outer, stack, ex, pn, xe, rfl⟩ := hX.ex
    obtain ⟨pl, hpl'⟩ := hc env
    exact pe_meth (CX := L2.CX S.P S.w) (pl := pl) po c hm F hr hb .nil passLL pa (he _) (hpl _) hpl'
  · obtain ⟨a, dx, fv, rfl, h2, h3, h4⟩ := rep_ins.mp r1
    refine ⟨a, dx, fv, rfl, g1.st.zh _ _ h2, ?_, ha W Z1 H1 σ _ g1.st fun vs H2 Z2 g2 r2 => ?_⟩
    · cases q : fv.lookup m with
      | none => rfl
      | some w => exact absurd (h3 ▸ List.mem_map_of_mem (f := Prod.fst) (PySem.mem_of_lookup q)) hn
    · rw [List.append_nil]
      have rr : AdsOk S.K Z2 σ ((.ins C fs us :: ts).map AD.va) (.ref a :: vs) := eab_all (.cons (r1.mono g2.step.zz) r2)
      have hst := call_st (dts := []) (ws := []) g2.st rr (fun _ _ _ z => absurd z va_get) (by rw [bos_va]; exact List.nodup_nil) .nil
      rw [ent_va, List.append_nil, List.map_nil, List.append_nil] at hst
      refine ⟨Z2, hst, fun w H3 Z3 g3 r3 => ?_⟩
      have gb := call_back (dts := []) (ws := []) (as' := (T.ins C fs us :: ts).map Ent.sh) g2.st rr (fun _ _ _ z => absurd z va_get) (by rw [bos_va]; exact List.nodup_nil) (by rw [ent_va, List.append_nil, List.map_nil, List.append_nil]; exact g3) (fun _ _ _ z => absurd z va_get)
      rw [updE_va] at gb
      exact kq w H3 Z3 ((g1.trans g2).trans gb) r3
theorem eg_meth0 {ob : Expr} {t0 : T} (c : Cls S.K C) (hm : Meth S.K C m fa) (hn : m ∉ fs) (hb : Binds S.K fd ps []) (ho : EG S E ob (.ins C fs us) E1) (F : Gives S.P S.w S.K S.mg S.base k fa fd ps [.ins C fs us] t) (hk : k ≤ S.k) (hc : MCall ob m apos [] pos := by intro _; exact ⟨_, rfl⟩) : EG S E (.Call (.Attribute ob m apos) [] [] pos) t E1 := fun W Z H σ Q st kq => by
  refine R.mk (t := tMeth C m (spOf S.K ([T.ins C fs us].map Ent.sh) (.ret t ([T.ins C fs us].map Ent.sh))) [] (fun _ _ _ => False) (R S W ob) tNil) (fun X hX => ?_) (ho W Z H σ _ st fun v H1 Z1 g1 r1 => ?_)
  · have po := hX.pe ob
    have hr := hX.room.mono hk
    obtain ⟨A, s0, H0, env, outer, stack, ex, pn, xe, rfl⟩ := hX.ex
    obtain ⟨pl, hpl'⟩ := hc env
    exact pe_meth0 (CX := L2.CX S.P S.w) (pl := pl) po c hm F hr hb .nil passLL hpl'
  · obtain ⟨a, dx, fv, rfl, h2, h3, h4⟩ := rep_ins.mp r1
    refine ⟨a, dx, fv, rfl, g1.st.zh _ _ h2, ?_, ?_⟩
    · cases q : fv.lookup m with
      | none => rfl
      | some w => exact absurd (h3 ▸ List.mem_map_of_mem (f := Prod.fst) (PySem.mem_of_lookup q)) hn
    · show spOf S.K ([T.ins C fs us].map Ent.sh) (.ret t ([T.ins C fs us].map Ent.sh)) [V.ref a] H1 Q (fun _ _ _ => False)
      have rr : AdsOk S.K Z1 σ ([T.ins C fs us].map AD.va) [.ref a] := eab_all (.cons r1 .nil)
      have hst := call_st (dts := []) (ws := []) g1.st rr (fun _ _ _ z => absurd z va_get) (by rw [bos_va]; exact List.nodup_nil) .nil
      rw [ent_va, List.append_nil, List.map_nil, List.append_nil] at hst
      refine ⟨Z1, hst, fun w H3 Z3 g3 r3 => ?_⟩
      have gb := call_back (dts := []) (ws := []) (as' := [T.ins C fs us].map Ent.sh) g1.st rr (fun _ _ _ z => absurd z va_get) (by rw [bos_va]; exact List.nodup_nil) (by rw [ent_va, List.append_nil, List.map_nil, List.append_nil]; exact g3) (fun _ _ _ z => absurd z va_get)
      rw [updE_va] at gb
      exact kq w H3 Z3 (g1.trans gb) r3
end
end
end Cw
end L2

set_option Elab.async false
set_option linter.all false
set_option maxRecDepth 100000
set_option maxHeartbeats 2000000
namespace L2
namespace Cw
open PySem PySem.Spec PyProof.Rows
def isNon : T → Bool
  | .non => true
  | _ => false
section
variable {K : PySem.W.Frag} {Z Z' H H' : Hp} {σ σ' : St} {E E' E1 E2 E3 : List Ent} {S : SS} {a b e : Expr} {pos p : Pos} {ts us : List T} {t u : T} {i j : Int}
theorem u65 {W : WX} {X : Cx} (h : S.Has W X) : X.A.units + 65 < cLine := by have := h.room.un; omega
theorem rep_isNon {v : V} (h : Rep K Z t v) : decide (v = .non) = isNon t := by
  cases t <;> simp only [Rep, isNon] at h ⊢
  all_goals first
    | (rw [h]; rfl)
    | (rw [h]; simp)
    | (obtain ⟨_, _, rfl, _⟩ := h; simp)
    | (obtain ⟨_, _, _, rfl, _⟩ := h; simp)
/-! ### is None -/
theorem eg_isN {q : Pos} {k : Nat} (ha : EG S E a t E1) (hm : behindInMarks .Is (.Constant .none k q) = false := by exact nomark _) : EG S E (.Compare a [.Is] [.Constant .none k q] pos) (.bl (isNon t)) E1 :=
  eg_cmp (tb := .non) (fun _ _ _ => op_isN) (fun E Z H σ v w Q st r1 r2 k => ⟨rep_non.mp r2, k _ _ _ (Go.refl st) (by rw [rep_isNon r1]; exact rep_bl.mpr rfl)⟩) ha eg_non hm
theorem tt_isN {q : Pos} {k : Nat} (ha : EG S E a t E1) (hm : behindInMarks .Is (.Constant .none k q) = false := by exact nomark _) : TtG S E (.Compare a [.Is] [.Constant .none k q] pos) (isNon t) E1 :=
  tg_cmp (tb := .non) (fun _ _ _ => op_isN) (fun E Z H σ v w Q st r1 r2 k => ⟨rep_non.mp r2, k _ _ _ (Go.refl st) (by rw [rep_isNon r1]; exact rep_bl.mpr rfl)⟩) ha eg_non hm
theorem tt_notN {q : Pos} {k : Nat} (ha : EG S E a t E1) (hm : behindInMarks .IsNot (.Constant .none k q) = false := by exact nomark _) : TtG S E (.Compare a [.IsNot] [.Constant .none k q] pos) (!isNon t) E1 :=
  tg_cmp (tb := .non) (fun _ _ _ => op_notN) (fun E Z H σ v w Q st r1 r2 k => ⟨rep_non.mp r2, k _ _ _ (Go.refl st) (by rw [rep_isNon r1]; exact rep_bl.mpr rfl)⟩) ha eg_non hm
theorem tt_isB {x y : Bool} (ha : EG S E a (.bl x) E1) (hb : EG S E1 b (.bl y) E2) (hm : behindInMarks .Is b = false := by exact nomark _) : TtG S E (.Compare a [.Is] [b] pos) (decide (x = y)) E2 :=
  tg_cmp (r := rIsB) (fun _ _ _ => op_isBl) (fun E Z H σ v w Q st r1 r2 k => ⟨x, y, rep_bl.mp r1, rep_bl.mp r2, k _ _ _ (Go.refl st) (rep_bl.mpr rfl)⟩) ha hb hm
/-! ### lists, tuples put together -/
theorem Go.tup {vs : List V} {P : Hp} (st : StOk S.K Z H σ E) (r : Reps S.K Z ts vs) {p : Addr} (hp : H p = none) : Go S E σ Z H E σ (upd Z p (.tup vs)) (upd H p (.tup vs)) ∧ Rep S.K (upd Z p (.tup vs)) (.tup ts) (.ref p) := by
  have g := Go.alloc (S := S) st (o := .tup vs) hp (by intro ps q; cases q)
  exact ⟨g, rep_tup.mpr ⟨p, vs, rfl, upd_same, r.mono g.step.zz⟩⟩
theorem Go.lst {vs : List V} (st : StOk S.K Z H σ E) (r : Reps S.K Z ts vs) {p : Addr} (hp : H p = none) : Go S E σ Z H E σ (upd Z p (.lst vs)) (upd H p (.lst vs)) ∧ Rep S.K (upd Z p (.lst vs)) (.lst ts) (.ref p) := by
  have g := Go.alloc (S := S) st (o := .lst vs) hp (by intro ps q; cases q)
  exact ⟨g, rep_lst.mpr ⟨p, vs, rfl, upd_same, r.mono g.step.zz⟩⟩
theorem eg_catL (ha : EG S E a (.lst ts) E1) (hb : EG S E1 b (.lst us) E2) (hl : ts.length + us.length ≤ 16777216) : EG S E (.BinOp a .Add b pos) (.lst (ts ++ us)) E2 :=
  eg_op (r := rCat) (fun _ _ _ => op_cat) (fun E Z H σ v w Q st r1 r2 k => by
    obtain ⟨l, xs, rfl, h1, h2⟩ := rep_lst.mp r1
    obtain ⟨m, ys, rfl, h3, h4⟩ := rep_lst.mp r2
    refine ⟨l, m, xs, ys, rfl, rfl, st.zh _ _ h1, st.zh _ _ h3, by rw [h2.length, h4.length, sizeLine_eq]; exact hl, fun q hq => ?_⟩
    obtain ⟨g, r⟩ := Go.lst st (h2.append h4) hq
    exact k _ _ _ g r) ha hb
theorem eg_catT (ha : EG S E a (.tup ts) E1) (hb : EG S E1 b (.tup us) E2) (hl : ts.length + us.length ≤ 16777216) : EG S E (.BinOp a .Add b pos) (.tup (ts ++ us)) E2 :=
  eg_op (r := rCatA S.K) (fun W X hX => by rw [← hX.kk]; exact op_catA) (fun E Z H σ v w Q st r1 r2 k => by
    obtain ⟨l, xs, rfl, h1, h2⟩ := rep_tup.mp r1
    obtain ⟨m, ys, rfl, h3, h4⟩ := rep_tup.mp r2
    refine ⟨l, m, xs, ys, rfl, rfl, .inl (.inl (st.zh _ _ h1)), .inl (.inl (st.zh _ _ h3)), by rw [h2.length, h4.length, sizeLine_eq]; exact hl, fun e => ?_, fun _ e => ?_, fun _ _ q hq => ?_⟩
    · subst e
      have : ts = [] := by have := h2.length; simpa using this.symm
      subst this
      exact k _ _ _ (Go.refl st) r2
    · subst e
      have : us = [] := by have := h4.length; simpa using this.symm
      subst this
      rw [List.append_nil] at k
      exact k _ _ _ (Go.refl st) r1
    · obtain ⟨g, r⟩ := Go.tup (P := H) st (h2.append h4) hq
      exact k _ _ _ g r) ha hb
theorem Reps.rep {n : Nat} {vs : List V} (r : Reps K Z ts vs) : Reps K Z (List.replicate n ts).flatten (List.replicate n vs).flatten := by
  induction n with
  | zero => exact .nil
  | succ n ih => simp only [List.replicate_succ, List.flatten_cons]; exact r.append ih
theorem eg_repL {n : Int} (ha : EG S E a (.lst ts) E1) (hb : EG S E1 b (.int n) E2) (h1 : -(2 ^ 63) ≤ n ∧ n < 2 ^ 63) (hl : ts.length * n.toNat ≤ 16777216) : EG S E (.BinOp a .Mult b pos) (.lst (List.replicate n.toNat ts).flatten) E2 :=
  eg_op (r := rRep) (fun _ _ _ => op_rep) (fun E Z H σ v w Q st r1 r2 k => by
    obtain ⟨l, xs, rfl, e1, h2⟩ := rep_lst.mp r1
    refine ⟨l, n, xs, rfl, rep_int.mp r2, st.zh _ _ e1, h1.1, h1.2, by rw [h2.length, sizeLine_eq]; exact hl, fun q hq => ?_⟩
    obtain ⟨g, r⟩ := Go.lst st (h2.rep (n := n.toNat)) hq
    exact k _ _ _ g r) ha hb
/-! ### slices -/
def cutT (xs : List T) (lo hi : Option Int) : List T := (xs.drop (HT.sIx xs.length 0 lo)).take (HT.sIx xs.length xs.length hi - HT.sIx xs.length 0 lo)
theorem Reps.drop : ∀ {ts : List T} {vs : List V} {n : Nat}, Reps K Z ts vs → Reps K Z (ts.drop n) (vs.drop n)
  | _, _, 0, h => h
  | [], _, n + 1, h => by rw [h.unnil]; exact .nil
  | t :: ts, _, n + 1, h => by
    obtain ⟨v, r, rfl, _, h2⟩ := h.uncons
    exact h2.drop (n := n)
theorem Reps.take : ∀ {ts : List T} {vs : List V} {n : Nat}, Reps K Z ts vs → Reps K Z (ts.take n) (vs.take n)
  | _, _, 0, h => .nil
  | [], _, n + 1, h => by rw [h.unnil]; exact .nil
  | t :: ts, _, n + 1, h => by
    obtain ⟨v, r, rfl, h1, h2⟩ := h.uncons
    exact .cons h1 (h2.take (n := n))
theorem Reps.cut {vs : List V} {lo hi : Option Int} (r : Reps K Z ts vs) : Reps K Z (cutT ts lo hi) (cutV vs lo hi) := by
  unfold cutT cutV
  rw [r.length]
  exact (r.drop).take
/-- a part of a slice -/
def PaG (S : SS) (E : List Ent) (e : Option Expr) (n : Option Int) : Prop :=
  match e, n with
  | none, none => True
  | some e, some i => EG S E e (.int i) E
  | _, _ => False
theorem pa_no : PaG S E none none := trivial
theorem pa_so (h : EG S E e (.int i) E) : PaG S E (some e) (some i) := h
def tPo (S : SS) (W : WX) (e : Option Expr) : (St → Hp → (Option Int → Hp → Prop) → Prop) := match e with
  | none => tNoPart
  | some e => tPart (R S W e)
theorem PaG.po {W : WX} {X : Cx} (hX : S.Has W X) (e : Option Expr) : PO X e (tPo S W e) := by
  cases e with
  | none => exact po_none
  | some e => exact po_some (hX.pe e)
theorem PaG.read {o : Option Expr} {n : Option Int} (h : PaG S E o n) {W : WX} {Q : Option Int → Hp → Prop} (st : StOk S.K Z H σ E) (k : ∀ H' Z', Go S E σ Z H E σ Z' H' → Q n H') : tPo S W o σ H Q := by
  cases o with
  | none =>
    cases n with
    | none => exact k _ _ (Go.refl st)
    | some i => exact h.elim
  | some e =>
    cases n with
    | none => exact h.elim
    | some i => exact h W Z H σ _ st fun v H1 Z1 g r => ⟨i, rep_int.mp r, k _ _ g⟩
theorem eg_sliceL {lo hi : Option Expr} {m n : Option Int} {p2 : Pos} (ha : EG S E a (.lst ts) E) (hl : PaG S E lo m) (hh : PaG S E hi n) : EG S E (.Subscript a (.Slice lo hi none p2) pos) (.lst (cutT ts m n)) E := fun W Z H σ Q st k => by
  refine R.mk (t := tSl (rSlL S.K) (R S W a) (tPo S W lo) (tPo S W hi)) (fun X hX => pe_slice (by rw [← hX.kk]; exact sl_list) (hX.pe a) (PaG.po hX lo) (PaG.po hX hi)) (ha W Z H σ _ st fun v H1 Z1 g1 r1 => ?_)
  refine hl.read g1.st fun H2 Z2 g2 => hh.read g2.st fun H3 Z3 g3 => ?_
  obtain ⟨l, xs, rfl, h1, h2⟩ := rep_lst.mp r1
  refine ⟨l, xs, rfl, .inl (.inl (g3.st.zh _ _ (g3.step.zz _ _ (g2.step.zz _ _ h1)))), fun q hq => ?_⟩
  obtain ⟨g4, r4⟩ := Go.lst g3.st (((h2.mono g2.step.zz).mono g3.step.zz).cut (lo := m) (hi := n)) hq
  exact k _ _ _ (((g1.trans g2).trans g3).trans g4) r4
theorem cutT_all {lo hi : Option Int} (h : HT.sIx ts.length 0 lo = 0 ∧ HT.sIx ts.length ts.length hi = ts.length) : cutT ts lo hi = ts := by
  unfold cutT
  rw [h.1, h.2, List.drop_zero, Nat.sub_zero, List.take_length]
theorem eg_sliceT {lo hi : Option Expr} {m n : Option Int} {p2 : Pos} (ha : EG S E a (.tup ts) E) (hl : PaG S E lo m) (hh : PaG S E hi n) : EG S E (.Subscript a (.Slice lo hi none p2) pos) (.tup (cutT ts m n)) E := fun W Z H σ Q st k => by
  refine R.mk (t := tSl (rSlA S.K) (R S W a) (tPo S W lo) (tPo S W hi)) (fun X hX => pe_slice (by rw [← hX.kk]; exact sl_tupA) (hX.pe a) (PaG.po hX lo) (PaG.po hX hi)) (ha W Z H σ _ st fun v H1 Z1 g1 r1 => ?_)
  refine hl.read g1.st fun H2 Z2 g2 => hh.read g2.st fun H3 Z3 g3 => ?_
  have r3 := (r1.mono g2.step.zz).mono g3.step.zz
  obtain ⟨l, xs, rfl, h1, h2⟩ := rep_tup.mp r3
  have hx := h2.length
  refine ⟨l, xs, rfl, .inl (.inl (g3.st.zh _ _ h1)), fun e => ?_, fun _ q hq => ?_⟩
  · rw [hx] at e
    rw [cutT_all e] at k
    exact k _ _ _ ((g1.trans g2).trans g3) r3
  · obtain ⟨g4, r4⟩ := Go.tup (P := H3) g3.st (h2.cut (lo := m) (hi := n)) hq
    exact k _ _ _ (((g1.trans g2).trans g3).trans g4) r4
theorem Reps.rev {vs : List V} (r : Reps K Z ts vs) : Reps K Z ts.reverse vs.reverse := by
  induction ts generalizing vs with
  | nil => rw [r.unnil]; exact .nil
  | cons t ts ih =>
    obtain ⟨v, w, rfl, h1, h2⟩ := r.uncons
    simp only [List.reverse_cons]
    exact (ih h2).append (.cons h1 .nil)
theorem eg_revL {k : Nat} {p1 p2 p3 : Pos} (ha : EG S E e (.lst ts) E1) : EG S E (.Subscript e (.Slice none none (some (.UnaryOp .USub (.Constant (.int 1) k p1) p2)) p3) pos) (.lst ts.reverse) E1 := fun W Z H σ Q st kq => by
  refine R.mk (t := tRevL S.K (R S W e)) (fun X hX => by rw [← hX.kk]; exact pe_revL (hX.pe e)) (ha W Z H σ _ st fun v H1 Z1 g1 r1 => ?_)
  obtain ⟨l, xs, rfl, h1, h2⟩ := rep_lst.mp r1
  refine ⟨l, xs, rfl, .inl (.inl (g1.st.zh _ _ h1)), fun q hq => ?_⟩
  obtain ⟨g, r⟩ := Go.lst g1.st h2.rev hq
  exact kq _ _ _ (g1.trans g) r
/-! ### in -/
theorem toDs_any {d : T} : ∀ {ts : List T}, (toDs ts).any (fun z => PyData.eqv z (toD d)) = ts.any fun t => teq t d
  | [] => rfl
  | t :: ts => by simp only [toDs, List.any_cons]; rw [toDs_any]; rfl
theorem opg_inD {n : Nat} (hn : n ≤ 64) (h1 : DOk n t) (h2 : DOk n (.lst us)) : OpG S (rInD S.K) t (.lst us) (.bl (us.any fun x => teq x t)) := fun E Z H σ v w Q st r1 r2 k =>
  ⟨toD t, toDs us, (dOk_spec n t h1).2.2 st.zh r1, (dOk_spec n (.lst us) h2).2.2 st.zh r2, dOk_shaped h1 hn, dOk_shaped h2 hn, by rw [toDs_any]; exact k _ _ _ (Go.refl st) (rep_bl.mpr rfl)⟩
theorem opg_ninD {n : Nat} (hn : n ≤ 64) (h1 : DOk n t) (h2 : DOk n (.lst us)) : OpG S (rNotInD S.K) t (.lst us) (.bl (!us.any fun x => teq x t)) := fun E Z H σ v w Q st r1 r2 k =>
  ⟨toD t, toDs us, (dOk_spec n t h1).2.2 st.zh r1, (dOk_spec n (.lst us) h2).2.2 st.zh r2, dOk_shaped h1 hn, dOk_shaped h2 hn, by rw [toDs_any]; exact k _ _ _ (Go.refl st) (rep_bl.mpr rfl)⟩
theorem eg_inL {n : Nat} (ha : EG S E a t E1) (hb : EG S E1 b (.lst us) E2) (h1 : DOk n t) (h2 : DOk n (.lst us)) (hn : n ≤ 64 := by decide) (hm : behindInMarks .In b = false := by with_unfolding_all rfl) : EG S E (.Compare a [.In] [b] pos) (.bl (us.any fun x => teq x t)) E2 :=
  eg_cmp (r := rInD S.K) (fun W X hX => by rw [← hX.kk]; exact op_inD (u65 hX)) (opg_inD hn h1 h2) ha hb hm
theorem tt_inL {n : Nat} (ha : EG S E a t E1) (hb : EG S E1 b (.lst us) E2) (h1 : DOk n t) (h2 : DOk n (.lst us)) (hn : n ≤ 64 := by decide) (hm : behindInMarks .In b = false := by with_unfolding_all rfl) : TtG S E (.Compare a [.In] [b] pos) (us.any fun x => teq x t) E2 :=
  tg_cmp (r := rInD S.K) (fun W X hX => by rw [← hX.kk]; exact op_inD (u65 hX)) (opg_inD hn h1 h2) ha hb hm
theorem eg_ninL {n : Nat} (ha : EG S E a t E1) (hb : EG S E1 b (.lst us) E2) (h1 : DOk n t) (h2 : DOk n (.lst us)) (hn : n ≤ 64 := by decide) (hm : behindInMarks .NotIn b = false := by with_unfolding_all rfl) : EG S E (.Compare a [.NotIn] [b] pos) (.bl (!us.any fun x => teq x t)) E2 :=
  eg_cmp (r := rNotInD S.K) (fun W X hX => by rw [← hX.kk]; exact op_notInD (u65 hX)) (opg_ninD hn h1 h2) ha hb hm
theorem tt_ninL {n : Nat} (ha : EG S E a t E1) (hb : EG S E1 b (.lst us) E2) (h1 : DOk n t) (h2 : DOk n (.lst us)) (hn : n ≤ 64 := by decide) (hm : behindInMarks .NotIn b = false := by with_unfolding_all rfl) : TtG S E (.Compare a [.NotIn] [b] pos) (!us.any fun x => teq x t) E2 :=
  tg_cmp (r := rNotInD S.K) (fun W X hX => by rw [← hX.kk]; exact op_notInD (u65 hX)) (opg_ninD hn h1 h2) ha hb hm
/-! ### methods of lists -/
/-- how a call of a built-in's method stands in the text -/
structure BCall (o : Expr) (m : Str) (apos : Pos) (e : Expr) (es : List Expr) (cpos : Pos) : Prop where
  base : ∀ env, attributeBase o m env (eval o env) = eval o env
  few : ∀ env, ((backTo cpos (starEach (e :: es) env)).all (fun x => !x.1) && (backToKw cpos (keywordEach [] env)).all (fun x => x.1.isSome) && decide ((e :: es).length + ([] : List Keyword).length + (if ([] : List Keyword).isEmpty then 0 else 1) < 30)) = true
  line : BEq.beq apos.endLine cpos.line = true
  star : ∀ env, starEach (e :: es) env = (false, eval e env) :: starEach es env
  plain : ∀ env, (backTo cpos (starEach es env)).any (·.1) = false
theorem eg_bmL {o : Expr} {m : Str} {id : String} {apos : Pos} {es : List Expr} {r : V → List V → Hp → VK → Prop} (bc : BCall o m apos e es pos) (slot : Slot "list" m id) (hty : typeOf (.builtin id) = pure (.type "method_descriptor")) (hm : ∀ W X, S.Has W X → MtR X id r)
    (ho : EG S E o (.lst ts) E1) (ha : EAs S E1 (e :: es) us E2) (hr : ∀ E Z H σ v vs (Q : VK), StOk S.K Z H σ E → Rep S.K Z (.lst ts) v → Reps S.K Z us vs → (∀ w H' Z', Go S E σ Z H E σ Z' H' → Rep S.K Z' t w → Q w H') → r v vs H Q) : EG S E (.Call (.Attribute o m apos) (e :: es) [] pos) t E2 := fun W Z H σ Q st k => by
  refine R.mk (t := tBM S.K "list" r (R S W o) (RA S W (e :: es))) (fun X hX => by rw [← hX.kk]; exact pe_bm PySem.F.plainAttrs_list slot hty (hm W X hX) (hX.pe o) (hX.pa (e :: es)) (bc.base _) (bc.few _) bc.line (bc.star _) (bc.plain _)) (ho W Z H σ _ st fun v H1 Z1 g1 r1 => ?_)
  obtain ⟨l, xs, rfl, h1, h2⟩ := rep_lst.mp r1
  refine ⟨.inl ⟨rfl, xs, .inl (.inl (g1.st.zh _ _ h1))⟩, ha W Z1 H1 σ _ g1.st fun vs H2 Z2 g2 r2 => ?_⟩
  exact hr E2 Z2 H2 σ _ vs Q g2.st (r1.mono g2.step.zz) r2 fun w H3 Z3 g3 r3 => k w H3 Z3 ((g1.trans g2).trans g3) r3
/-- xs.count(k), ints -/
theorem eg_count {o : Expr} {apos : Pos} {ns : List Int} {n : Int} (ho : EG S E o (.lst (ns.map T.int)) E1) (ha : EG S E1 e (.int n) E2) (bc : BCall o "count" apos e [] pos) : EG S E (.Call (.Attribute o "count" apos) [e] [] pos) (.int (ns.count n : Nat)) E2 :=
  eg_bmL (id := "list.count") (r := rCntI S.K) bc PySem.F.slot_list_count PySem.F.type_list_count (fun W X hX => by rw [← hX.kk]; exact mt_lcount) ho (eas_cons ha eas_nil bc.star) fun E Z H σ v vs Q st r1 r2 k => by
    obtain ⟨w, rfl, h⟩ := reps_one r2
    obtain ⟨l, xs, rfl, h1, h2⟩ := rep_lst.mp r1
    exact ⟨l, ns, n, rfl, by rw [rep_int.mp h], by rw [← ints_of h2]; exact .inl (.inl (st.zh _ _ h1)), k _ _ _ (Go.refl st) (rep_int.mpr rfl)⟩
theorem toDs_get : ∀ {ts : List T} {m : Nat}, (toDs ts)[m]? = (ts[m]?).map toD
  | [], _ => by simp [toDs]
  | t :: ts, 0 => by simp [toDs]
  | t :: ts, m + 1 => by simp only [toDs, List.getElem?_cons_succ]; exact toDs_get
/-- xs.index(y), which is there -/
theorem eg_index {o : Expr} {apos : Pos} {y z : T} {n j : Nat} (ho : EG S E o (.lst ts) E1) (ha : EG S E1 e y E2) (bc : BCall o "index" apos e [] pos) (h1 : DOk n y) (h2 : DOk n (.lst ts)) (hz : ts[j]? = some z) (hq : teq z y = true) (hf : ∀ m z', m < j → ts[m]? = some z' → teq z' y = false) (hn : n ≤ 64 := by decide) : EG S E (.Call (.Attribute o "index" apos) [e] [] pos) (.int (j : Nat)) E2 :=
  eg_bmL (id := "list.index") (r := rIndexD S.K) bc PySem.F.slot_list_index PySem.F.type_list_index (fun W X hX => by rw [← hX.kk]; exact mt_indexD (u65 hX)) ho (eas_cons ha eas_nil bc.star) fun E Z H σ v vs Q st r1 r2 k => by
    obtain ⟨w, rfl, h⟩ := reps_one r2
    have dl := (dOk_spec n (.lst ts) h2).2.2 st.zh r1
    obtain ⟨l, xs, rfl, h3, h4⟩ := rep_lst.mp r1
    refine ⟨l, w, toD y, toDs ts, j, toD z, rfl, rfl, dl, (dOk_spec n y h1).2.2 st.zh h, dOk_shaped h2 hn, dOk_shaped h1 hn, by rw [toDs_get, hz]; rfl, hq, fun m z' hm hz' => ?_, k _ _ _ (Go.refl st) (rep_int.mpr rfl)⟩
    rw [toDs_get] at hz'
    cases q : ts[m]? with
    | none => rw [q] at hz'; cases hz'
    | some z'' => rw [q] at hz'; cases hz'; exact hf m z'' hm q
/-! ### max, sum -/
theorem eg_maxL {ns : List Int} {m : Int} (g : GlOk S "max") (hm : S.mg "max" = none) (ha : EG S E e (.lst (ns.map T.int)) E1) (h0 : 0 < ns.length) (h1 : m ∈ ns) (h2 : ∀ y ∈ ns, y ≤ m) (he : ∀ env, starEach [e] env = (false, eval e env) :: starEach [] env := by intro _; rfl) : EG S E (.Call (.Name "max" p) [e] [] pos) (.int m) E1 :=
  eg_callB (r := rMax S.K) (fun W X hX => by rw [← hX.kk]; exact cr_max hX.calm) (fun E Z H σ vs Q st r k => by
    obtain ⟨v, rfl, h⟩ := reps_one r
    obtain ⟨a, vs, rfl, q1, q2⟩ := rep_lst.mp h
    refine ⟨a, ns, rfl, by rw [← ints_of q2]; exact .inl (.inl (st.zh _ _ q1)), h0, fun m' h1' h2' => ?_⟩
    have : m' = m := Int.le_antisymm (h2 m' h1') (h2' m h1)
    subst this
    exact k _ _ _ (Go.refl st) (rep_int.mpr rfl)) g hm (by decide +kernel) (eas_cons ha eas_nil he) (by decide) he (by intro _; rfl)
end
end Cw
end L2

set_option Elab.async false
set_option linter.all false
set_option maxRecDepth 100000
set_option maxHeartbeats 2000000
namespace L2
namespace Cw
open PySem PySem.Spec PyProof.Rows
/-! ### sum of a tuple of ints -/
theorem preSum_list (ns : List Int) : ∀ j, j ≤ ns.length → PySem.preSum (fun i => ns.getD i 0) j = (ns.take j).sum
  | 0, _ => by simp [PySem.preSum]
  | j + 1, h => by
    have hj : j < ns.length := h
    show PySem.preSum _ j + ns.getD j 0 = _
    rw [preSum_list ns j (Nat.le_of_succ_le h), List.take_succ, List.sum_append]
    simp [hj]
theorem ints_getD : ∀ {vs : List Value} {ns : List Int} {i : Nat} {v : Value}, IntsAre vs ns → vs[i]? = some v → ∃ t, v = .int (ns.getD i 0) t
  | _, _, _, _, .nil, h => by simp at h
  | _, _, 0, _, .cons n t r, h => by simp at h; subst h; exact ⟨t, rfl⟩
  | _, _, i + 1, _, .cons n t r, h => by
    obtain ⟨u, e⟩ := ints_getD (i := i) r (by simpa using h)
    exact ⟨u, by simpa using e⟩
def rSumT (K : PySem.W.Frag) : List V → Hp → VK → Prop := fun vs H Q => ∃ (a : Addr) (ns : List Int), vs = [V.ref a] ∧ SqT K H a (ns.map V.int) ∧ Q (.int ns.sum) H
theorem cr_sumT {X : Cx} (hc : X.calm = true) : CallR X (.builtin "sum") (rSumT X.K) := by
  rintro pins s σ H _ us Q I r ⟨a, ns, rfl, hs, q⟩
  obtain ⟨its, rv, tup, _⟩ := I.tuple hs
  rw [Vals.ref1 r]
  have tup0 := tup
  obtain ⟨o, ho, _⟩ := tup
  have ha := Heap.lt_size ho
  have hi : IntsAre its ns := rv.ints
  have hl : its.length = ns.length := hi.length
  refine call_sum_walkG (wpAny_pyIter_tuple tup0 ?_)
  refine ⟨s.heap.objs.size, _, _, its.toArray.size, _, _, fun i => ns.getD i 0, rfl, Walks.tuple (by simpa using I.ok.hd hc) s.heap.objs.size a (Nat.ne_of_lt ha) its.toArray, ⟨⟨_, Heap.get?_push_size _ rfl, rfl, rfl⟩, tup0.push _⟩, fun b hb => ?_, fun i v hv => ints_getD hi (by simpa using hv), fun h' tk t' k => ?_⟩
  · rw [Heap.size_push]
    have hb' : b = s.heap.objs.size ∨ b = a := by simpa using hb
    rcases hb' with e | e
    · exact e ▸ Nat.lt_succ_self s.heap.objs.size
    · rw [e]; exact Nat.lt_succ_of_lt ha
  · refine ⟨.int ns.sum, H, I.kept fun b u e => k b u (fun z => ?_) (Heap.get?_push_of_some _ e), ⟨t', ?_⟩, q⟩
    · have hb : b = s.heap.objs.size := by simpa using z
      rw [hb] at e
      exact absurd (Heap.lt_size e) (Nat.lt_irrefl _)
    · rw [preSum_list ns _ (by simp [hl]), List.take_of_length_le (by simp [hl])]
section
variable {K : PySem.W.Frag} {Z Z' H H' : Hp} {σ σ' : St} {E E' E1 E2 E3 : List Ent} {S : SS} {a b e : Expr} {pos p : Pos} {ts us : List T} {t u : T} {i j : Int} {o : Oc}
theorem eg_sumT {ns : List Int} (g : GlOk S "sum") (hm : S.mg "sum" = none) (ha : EG S E e (.tup (ns.map T.int)) E1) (he : ∀ env, starEach [e] env = (false, eval e env) :: starEach [] env := by intro _; rfl) : EG S E (.Call (.Name "sum" p) [e] [] pos) (.int ns.sum) E1 :=
  eg_callB (r := rSumT S.K) (fun W X hX => by rw [← hX.kk]; exact cr_sumT hX.calm) (fun E Z H σ vs Q st r k => by
    obtain ⟨v, rfl, h⟩ := reps_one r
    obtain ⟨a, vs, rfl, q1, q2⟩ := rep_tup.mp h
    exact ⟨a, ns, rfl, by rw [← ints_of q2]; exact .inl (.inl (st.zh _ _ q1)), k _ _ _ (Go.refl st) (rep_int.mpr rfl)⟩) g hm (by decide +kernel) (eas_cons ha eas_nil he) (by decide) he (by intro _; rfl)
/-! ### enumerate -/
def enumT (ts : List T) : List T := ts.mapIdx fun i t => T.tup [.int (i : Nat), t]
theorem ig_enum {elts : List Expr} {kk : Nat} {tpos : Pos} (g : GlOk S "enumerate") (hm : S.mg "enumerate" = none) (h : EG S E e (.lst ts) E1) (he : ∀ env, starEach [e] env = (false, eval e env) :: starEach [] env := by intro _; rfl) : IG S E (.Tuple elts kk tpos) (.Call (.Name "enumerate" p) [e] [] pos) (enumT ts) E1 := fun W Z H σ Rr st k => by
  refine RI.mk (wi := iEnum S.K (RA S W [e])) (fun X hX => ?_) ((eas_cons h eas_nil he) W Z H σ _ st fun vs H1 Z1 g1 r1 => ?_)
  · have gg := g.at hX
    have pa := hX.pa [e]
    obtain ⟨A, s0, H0, env, outer, stack, ex, pn, xe, rfl⟩ := hX.ex
    exact pi_enum gg hm pa (he _)
  · obtain ⟨v, rfl, h1⟩ := reps_one r1
    obtain ⟨l, xs, rfl, h2, h3⟩ := rep_lst.mp h1
    have hl := h3.length
    refine ⟨l, xs, rfl, .inl (.inl (g1.st.zh _ _ h2)), k _ H1 Z1 (fun H => SqL S.K H l xs) _ g1 (by unfold enumT; rw [List.length_mapIdx, ← hl]; exact walk_enum (xs := xs)) (fun H2 e => .inl (.inl (e _ _ h2))) fun i H2 x H3 y => ?_⟩
    obtain ⟨T', x1, x2, rfl, e1, rfl, e2, e3⟩ := y
    cases e2
    obtain ⟨t, ht, rt⟩ := h3.get e3
    refine ⟨.tup [.int (i : Nat), t], by unfold enumT; rw [List.getElem?_mapIdx, ht]; rfl, .inr ⟨T', [.int (i : Nat), t], [.int (i : Nat), x2], rfl, rfl, e1, rfl, .cons (rep_int.mpr rfl) (.cons rt .nil)⟩⟩
/-! ### x += n -/
theorem sg_aug {l : Nat} {x : Str} {n : Int} {pos' : Pos} (so : StoOk S l x) (h0 : E[l]? = some (.sh (.int j))) (h : EG S E e (.int n) E) (f : Int → Int → Int) (op : Operator) (ho : ∀ X, PIp X op (ipI f)) : SG S E (.AugAssign (.Name x pos') op e pos) (.nx (E.set l (.sh (.int (f j n))))) := fun W Z H σ D s k => by
  obtain ⟨v, hv, rv⟩ := s.sh l _ h0
  have hl : l < E.length := (List.getElem?_eq_some_iff.mp h0).1
  refine RSt.mk (t := tAug l (R S W e) (ipI f)) (fun X hX => ?_) ⟨v, hv, h W Z H σ _ s fun w H1 Z1 g1 r1 => ⟨j, n, rep_int.mp rv, rep_int.mp r1, ?_⟩⟩
  · have q := hX.sc
    have pe := hX.pe e
    obtain ⟨A, s0, H0, env, outer, stack, ex, pn, xe, rfl⟩ := hX.ex
    exact ps_aug so.nd so.hN (by rw [q]; exact so.loc) pe (ho _) (by rw [q]; exact so.hf)
  · have st2 := g1.st.set (t := .int (f j n)) (v := .int (f j n)) (rep_int.mpr rfl) (i := l) (by rw [g1.st.len]; exact hl)
    refine k _ _ _ (g1.trans ⟨Step.refl _ _ _, st2, fun c ⟨m, u, q1, q2⟩ => ?_, fun m hm => ?_⟩)
    · have hm : m ≠ l := fun z => by subst z; rw [List.getElem?_set_self hl] at q1; cases q1
      rw [List.getElem?_set_ne (fun z => hm z.symm)] at q1 q2
      exact .inl ⟨m, u, q1, q2⟩
    · rw [List.getElem?_set_ne (fun z => so.np (by rw [z]; exact hm))]
theorem sg_augAdd {l : Nat} {x : Str} {n : Int} {pos' : Pos} (so : StoOk S l x) (h0 : E[l]? = some (.sh (.int j))) (h : EG S E e (.int n) E) : SG S E (.AugAssign (.Name x pos') .Add e pos) (.nx (E.set l (.sh (.int (j + n))))) := sg_aug so h0 h (fun i j => i + j) .Add (fun _ => ip_add)
/-! ### xs.append(e), xs[i] = e, xs[i]: xs ours -/
theorem sg_append {l : Nat} {x : Str} {q apos : Pos} (vo : VarOk S l x) (h0 : E[l]? = some (.ow (.lst us))) (h : EG S E e t E1) (h1 : E1[l]? = some (.ow (.lst ts))) (hl : ts.length < 16777216) (bc : BCall (.Name x q) "append" apos e [] p) (hs : ∀ env, swapsWith (.Call (.Attribute (.Name x q) "append" apos) [e] [] p) none pos.line env = pure false := by intro _; rfl) :
    SG S E (.Expr (.Call (.Attribute (.Name x q) "append" apos) [e] [] p) pos) (.nx (E1.set l (.ow (.lst (ts ++ [t]))))) := fun W Z H σ D s k => by
  obtain ⟨a0, ob0, q1, q2, q3, q4⟩ := s.ow l _ h0
  refine RSt.mk (t := tDrop (tBM S.K "list" rAppend (tVar l) (RA S W [e]))) (fun X hX => ?_) (show tDrop (tBM S.K "list" rAppend (tVar l) (RA S W [e])) D σ H from ⟨.ref a0, q1, ?_, (eas_cons h eas_nil bc.star) W Z H σ _ s fun vs H1 Z1 g1 r1 => ?_⟩)
  · have hs' := hX.sc
    have hK := hX.kk
    have pa := hX.pa [e]
    rw [← hK]
    obtain ⟨A, s0, H0, env, outer, stack, ex, pn, xe, rfl⟩ := hX.ex
    exact ps_expr (pe_bm PySem.F.plainAttrs_list PySem.F.slot_list_append PySem.F.type_list_append mt_append (pe_var vo.hN (by rw [hs']; exact vo.vis) vo.h1 vo.h2) pa (bc.base _) (bc.few _) bc.line (bc.star _) (bc.plain _)) (hs _)
  · cases ob0 <;> try exact q4.elim
    exact .inl ⟨rfl, _, .inl (.inl q2)⟩
  · obtain ⟨v, rfl, rv⟩ := reps_one r1
    obtain ⟨b, ob, z1, z2, z3, z4⟩ := g1.st.ow l _ h1
    rw [q1] at z1; cases z1
    cases ob <;> try exact z4.elim
    rename_i xs
    refine ⟨_, xs, v, rfl, rfl, z2, ?_, k _ _ _ (g1.trans (Go.wrote g1.st h1 q1 ?_))⟩
    · rw [Reps.length z4, sizeLine_eq]; exact hl
    · exact Reps.append z4 (.cons rv .nil)
theorem Reps.set : ∀ {ts : List T} {vs : List V} {n : Nat} {v : V}, Reps K Z ts vs → Rep K Z t v → Reps K Z (ts.set n t) (vs.set n v)
  | [], _, _, _, h, _ => by rw [h.unnil]; exact .nil
  | u :: ts, _, 0, _, h, r => by
    obtain ⟨w, r', rfl, h1, h2⟩ := h.uncons
    exact .cons r h2
  | u :: ts, _, n + 1, _, h, r => by
    obtain ⟨w, r', rfl, h1, h2⟩ := h.uncons
    exact .cons h1 (h2.set r)
/-- xs[i] = e -/
theorem sg_putL {l m : Nat} {x : Str} {q spos : Pos} {i0 : Expr} {n : Int} (hv : EG S E e t E1) (vo : VarOk S l x) (hi : EG S E1 i0 (.int n) E1) (h1 : E1[l]? = some (.ow (.lst ts))) (hx : ixN ts.length n = some m) (hs : ∀ env, swapsWithSole [.Subscript (.Name x q) i0 spos] e pos.line env = pure false := by intro _; rfl)
    (hw : ∀ env, swappedStores [.Subscript (.Name x q) i0 spos] e env = pure none := by intro _; rfl) (ha : ∀ env, (assignEach [.Subscript (.Name x q) i0 spos] env).map (·.2) = [assign (.Subscript (.Name x q) i0 spos) env] := by intro _; rfl)
    (hg : ∀ env v, assign (.Subscript (.Name x q) i0 spos) env v = (holding [v] (eval (.Name x q) env) >>= fun ov => holding [v, ov] (eval i0 env) >>= fun iv => standAt spos >>= fun _ => holding [v, ov, iv] (setItem ov iv v) >>= fun _ => release [v, ov, iv] []) := by intro _ _; rfl) :
    SG S E (.Assign [.Subscript (.Name x q) i0 spos] e pos) (.nx (E1.set l (.ow (.lst (ts.set m t))))) := fun W Z H σ D s k => by
  refine RSt.mk (t := tAsg (R S W e) (gSub (tVar l) (R S W i0) rSetL)) (fun X hX => ?_) (hv W Z H σ _ s fun v H1 Z1 g1 r1 => ?_)
  · have hs' := hX.sc
    have pe := hX.pe e
    have pi := hX.pe i0
    obtain ⟨A, s0, H0, env, outer, stack, ex, pn, xe, rfl⟩ := hX.ex
    exact ps_asg pe (L2.pg_sub (pe_var vo.hN (by rw [hs']; exact vo.vis) vo.h1 vo.h2) pi set_list (hg _)) (hs _) (hw _) (ha _)
  · obtain ⟨a0, ob0, q1, q2, q3, q4⟩ := g1.st.ow l _ h1
    refine ⟨.ref a0, q1, hi W Z1 H1 σ _ g1.st fun w H2 Z2 g2 r2 => ?_⟩
    obtain ⟨b, ob, z1, z2, z3, z4⟩ := g2.st.ow l _ h1
    rw [q1] at z1; cases z1
    cases ob <;> try exact z4.elim
    rename_i xs
    refine ⟨_, xs, n, m, rfl, rep_int.mp r2, z2, by rw [Reps.length z4]; exact hx, k _ _ _ ((g1.trans g2).trans (Go.wrote g2.st h1 q1 ?_))⟩
    exact Reps.set z4 (r1.mono g2.step.zz)
/-- xs[i], xs ours -/
theorem eg_itemO {l : Nat} {x : Str} {q : Pos} {n : Int} (vo : VarOk S l x) (h0 : E[l]? = some (.ow (.lst us))) (hb : EG S E b (.int n) E1) (h1 : E1[l]? = some (.ow (.lst ts))) (hi : atI ts n = some u) (hm : PlainIx b := by intro _ _; rfl) : EG S E (.Subscript (.Name x q) b pos) u E1 := fun W Z H σ Q st k => by
  obtain ⟨a0, ob0, q1, q2, q3, q4⟩ := st.ow l _ h0
  refine R.mk (t := tOp (rIx S.K) (tVar l) (R S W b)) (fun X hX => ?_) ⟨.ref a0, q1, hb W Z H σ _ st fun w H2 Z2 g2 r2 => ?_⟩
  · have hs' := hX.sc
    have pb := hX.pe b
    rw [← hX.kk]
    obtain ⟨A, s0, H0, env, outer, stack, ex, pn, xe, rfl⟩ := hX.ex
    exact pe_ix ix_seq (pe_var vo.hN (by rw [hs']; exact vo.vis) vo.h1 vo.h2) pb hm
  · obtain ⟨c, ob, z1, z2, z3, z4⟩ := g2.st.ow l _ h1
    rw [q1] at z1; cases z1
    cases ob <;> try exact z4.elim
    rename_i xs
    obtain ⟨y, h3, h4⟩ := atI_reps z4 hi
    exact .inl ⟨_, xs, n, y, rfl, rep_int.mp r2, .inl (.inl z2), h3, k _ _ _ g2 h4⟩
end
end Cw
end L2

set_option Elab.async false
set_option linter.all false
set_option maxRecDepth 100000
set_option maxHeartbeats 4000000
namespace L2
namespace Cw
open PySem PySem.Spec PyProof.Rows
/-! ### how many unlike ones -/
section
variable {α : Type} [DecidableEq α] -- of any kind
def dist : List α → List α
  | [] => []
  | x :: xs => if x ∈ dist xs then dist xs else x :: dist xs
theorem mem_dist {x : α} : ∀ {l : List α}, x ∈ dist l ↔ x ∈ l
  | [] => Iff.rfl
  | y :: l => by
    unfold dist
    by_cases h : y ∈ dist l
    · rw [if_pos h, mem_dist, List.mem_cons]
      exact ⟨.inr, fun z => z.elim (fun e => by rw [e]; exact mem_dist.mp h) id⟩
    · rw [if_neg h, List.mem_cons, List.mem_cons, mem_dist]
theorem nodup_dist : ∀ l : List α, (dist l).Nodup
  | [] => List.nodup_nil
  | y :: l => by
    unfold dist
    by_cases h : y ∈ dist l
    · rw [if_pos h]; exact nodup_dist l
    · rw [if_neg h]; exact List.nodup_cons.mpr ⟨h, nodup_dist l⟩
theorem dist_len_le : ∀ l : List α, (dist l).length ≤ l.length
  | [] => Nat.le_refl _
  | y :: l => by
    have := dist_len_le l
    unfold dist
    by_cases h : y ∈ dist l
    · rw [if_pos h]; exact Nat.le_succ_of_le this
    · rw [if_neg h]; exact Nat.succ_le_succ this
theorem dist_len {l m : List α} (nd : m.Nodup) (h : ∀ x, x ∈ m ↔ x ∈ l) : m.length = (dist l).length :=
  List.Perm.length_eq ((List.perm_ext_iff_of_nodup nd (nodup_dist l)).mpr fun x => by rw [h, mem_dist])
theorem dist_all : ∀ {l : List α}, (dist l).length = l.length ↔ l.Nodup
  | [] => by simp [dist]
  | y :: l => by
    have le := dist_len_le l
    have ih := dist_all (l := l)
    unfold dist
    by_cases h : y ∈ dist l
    · rw [if_pos h, List.nodup_cons]
      refine ⟨fun e => ?_, fun e => absurd (mem_dist.mp h) e.1⟩
      simp only [List.length_cons] at e
      omega
    · rw [if_neg h, List.nodup_cons]
      simp only [List.length_cons, Nat.add_right_cancel_iff]
      exact ⟨fun e => ⟨fun z => h (mem_dist.mpr z), ih.mp e⟩, fun e => ih.mpr e.2⟩
end
theorem met_nodup (val : Nat → Int) : ∀ i, (firstMet val i).Nodup
  | 0 => List.nodup_nil
  | i + 1 => by
    rw [firstMet_succ]
    unfold step_dedup
    split
    · exact met_nodup val i
    · rename_i h
      refine List.nodup_append.mpr ⟨met_nodup val i, by simp, fun x hx y hy e => h ?_⟩
      have hy' : y = val i := by simpa using hy
      subst hy'
      subst e
      simpa using hx
theorem met_mem (ns : List Int) (x : Int) : x ∈ firstMet (fun i => ns.getD i 0) ns.length ↔ x ∈ ns := by
  have h := firstMet_any (fun i => ns.getD i 0) ns.length x
  have e : ((List.range ns.length).map fun i => ns.getD i 0) = ns := List.ext_getElem (by simp) (by intro i _ h2; simp [h2])
  rw [e] at h
  have z : ∀ l : List Int, (l.any fun y => y == x) = true ↔ x ∈ l := fun l => by simp
  rw [← z, ← z, h]
/-! ### set(xs) of a tuple of tuples of ints -/
section
variable {s : Shared} {A : Around} {P : Program} {w : World} {E : Value → Shared → Prop}
abbrev bareSet (w : World) : Obj := { cls := .type "set", dict := none, data := .set #[] 0 (.fresh 0 0 (!w.params.followText "set-order")) }
/-- __init__ fills the new set -/
theorem fill_tups {l n : Addr} {items : Array Value} (ks : List (Addr × List Int)) {R : PySem.Fin → Shared → Prop} (hh : A.handled = none) (hn : n = s.heap.objs.size) (hl : s.heap.IsTuple l items) (hit : items.toList = ks.map fun p => Value.ref p.1)
    (hk : ∀ p ∈ ks, IsT P w s.heap p.2 p.1) (few : ks.length < 64) (hu : A.units + 1 < cLine)
    (h : ∀ (h' : Heap) (tk : Nat) L es ep t, SetTR P w h' n L es ep t → Got ks ks.length L → (∀ b o, s.heap.get? b = some o → h'.get? b = some o) → R (.done (.ret .none)) { s with heap := h', toks := tk }) :
    wpAny (model P w) A (Builtin.«set.__init__» ⟨[.ref n, .ref l], []⟩) R E { s with heap := s.heap.push (bareSet w) } := by
  subst hn
  have num : items.size = ks.length := by rw [← Array.length_toList, hit, List.length_map]
  have st0 : (s.heap.push (bareSet w)).get? s.heap.objs.size = some (bareSet w) := Heap.get?_push_size _ rfl
  have tup1 := hl.push (bareSet w)
  have tup1' := tup1
  obtain ⟨ol, ho, hc, nl, hd⟩ := tup1'
  obtain ⟨c0, d0, dt, sl⟩ := ol
  dsimp only at hc hd
  subst hc hd
  have lt : l < s.heap.objs.size := by
    obtain ⟨o, q, _⟩ := hl
    exact Heap.lt_size q
  have f1 := F.sub_tuple_set
  have f2 := F.sub_tuple_frozenset
  have f3 : (Value.type "tuple" == Value.type "dict") = false := by decide
  unfold Builtin.«set.__init__»
  unfold noKeywords Builtin.Frozenset.updateFrom
  generalize walks : pyIter = wi
  wp_walk
  subst walks
  refine wpAny_pyIter_tuple tup1 (wpAny_bind (wpAny_runValue ?_))
  have sz : (s.heap.push (bareSet w)).objs.size = s.heap.objs.size + 1 := Heap.size_push ..
  have ne : l ≠ (s.heap.push (bareSet w)).objs.size := by
    rw [sz]; exact Nat.ne_of_lt (Nat.lt_succ_of_lt lt)
  have gone : ∀ b, s.heap.objs.size ≤ b → s.heap.get? b = none := fun b hb => by
    cases q : s.heap.get? b with
    | none => rfl
    | some o => exact absurd (Heap.lt_size q) (Nat.not_lt.mpr hb)
  have val : ∀ (i : Nat) (v : Value), items[i]? = some v → ∃ p, ks[i]? = some p ∧ v = .ref p.1 := fun i v hv => by
    have q : (ks.map fun p => Value.ref p.1)[i]? = some v := by rw [← hit, Array.getElem?_toList]; exact hv
    rw [List.getElem?_map] at q
    cases z : ks[i]? with
    | none => rw [z] at q; cases q
    | some p => rw [z] at q; exact ⟨p, rfl, (Option.some.inj q).symm⟩
  refine set_update_tups ((Walks.tuple (by simpa using hh) (s.heap.push (bareSet w)).objs.size l ne items).toS) s.heap.objs.size (fun z => ?_) ks num few val s.heap hk (gone _ (Nat.le_refl _)) (fun b hb => ?_) hu (items.size - 0) 0 _ rfl (Nat.zero_le _)
    ⟨⟨_, Heap.get?_push_size _ rfl, rfl, rfl⟩, tup1.push _⟩ (fun b o e => Heap.get?_push_of_some _ (Heap.get?_push_of_some _ e)) ?made fun s2 L es ep t mv full got kept => ?done
  · rw [sz] at z
    have z' : s.heap.objs.size = s.heap.objs.size + 1 ∨ s.heap.objs.size = l := by simpa using z
    rcases z' with z' | z'
    · exact absurd z' (Nat.ne_of_lt (Nat.lt_succ_self _))
    · rw [← z'] at lt; exact Nat.lt_irrefl _ lt
  · have e : b = (s.heap.push (bareSet w)).objs.size := by simpa using hb
    rw [e, sz]
    exact gone _ (Nat.le_succ _)
  case made => exact ⟨[], #[], 0, _, setTR_fresh (Heap.get?_push_of_some _ st0), Got.zero ks⟩
  case done =>
    obtain ⟨h2, g2, d2, t2, o2⟩ := s2
    obtain ⟨e1, e2, e3⟩ : g2 = s.gens ∧ d2 = s.drawn ∧ o2 = s.os := ⟨mv.gens, mv.drawn, mv.os⟩
    subst e1 e2 e3
    rw [num] at got
    exact wpAny_pure (wpAny_pure (h h2 t2 L es ep t full got kept))
/-- a new set, filled by its __init__ -/
theorem call_set_by {x : Value} {Q : Value → Shared → Prop} (h : wpAny (model P w) A.in1.in1 (Builtin.«set.__init__» ⟨[.ref s.heap.objs.size, x], []⟩) (fun fin s' => fin = .done (.ret .none) ∧ Q (.ref s.heap.objs.size) s') (fun _ _ => False) { s with heap := s.heap.push (bareSet w) }) :
    wpAny (model P w) A (call (.type "set") [x]) Q E s := by
  have new : (s.heap.push (bareSet w)).get? s.heap.objs.size = some (bareSet w) := Heap.get?_push_size _ rfl
  have ⟨c0, rest, mro0⟩ := F.called_set.mro
  have k1 := F.called_set.made
  have k2 := F.called_set.sub
  have k3 := F.called_set.notType
  have k4 := F.called_set.canCreate
  have k5 := F.typeCall_set_1 x
  have k6 := F.called_set.init.lookup
  have k7 := F.called_set.init.bind (.ref s.heap.objs.size)
  have ty : Shared.TypeIs { s with heap := s.heap.push (bareSet w) } (.ref s.heap.objs.size) "set" := ⟨_, new, rfl⟩
  refine wpAny_call (codeAny_of_tree (show wpAny _ _ (callAny (.type "set") _) _ _ _ from wpAny_pure ⟨Code.quiet_builtin _ (by decide +kernel), codeAny_builtin F.entry_type_call ?_⟩))
  rw [Around.under_plain (weight_type_call_type "set" [x] []) rfl]
  (repeat any_goals first | assumption | wp_step)
  refine codeAny_mono (code_set_led1 x (E := fun _ _ => False) (Q₁ := fun v s1 => v = .ref s.heap.objs.size ∧ s1 = { s with heap := s.heap.push (bareSet w) }) ⟨rfl, rfl⟩) fun made s1 q => ?_
  rcases made with e | fl
  · exact q.elim
  · cases fl <;> try exact q.elim
    obtain ⟨rfl, rfl⟩ := q
    (repeat any_goals first | assumption | wp_step)
    refine codeAny_mono (codeAny_call_builtin (R := wants (fun v s' => v = .none ∧ Q (.ref s.heap.objs.size) s') (fun _ _ => False)) F.called_set.init.plain F.entry_set_init (check_set_init_1 ty (wpAny_mono h (fun fin s' z => ?_) fun _ _ z => z))) fun out s2 q2 => ?_
    · obtain ⟨rfl, z⟩ := z
      exact ⟨rfl, z⟩
    · rcases out with e | fl
      · exact q2.elim
      · cases fl <;> try exact q2.elim
        obtain ⟨rfl, z⟩ := q2
        (repeat any_goals first | assumption | wp_step)
/-- set(xs), xs a tuple of tuples of ints -/
theorem call_set_tupT {l : Addr} {items : Array Value} (ks : List (Addr × List Int)) {Q : Value → Shared → Prop} (hh : A.handled = none) (hl : s.heap.IsTuple l items) (hit : items.toList = ks.map fun p => Value.ref p.1)
    (hk : ∀ p ∈ ks, IsT P w s.heap p.2 p.1) (few : ks.length < 64) (hu : A.units + 3 < cLine)
    (h : ∀ (h' : Heap) (tk : Nat) L es ep t, SetTR P w h' s.heap.objs.size L es ep t → Got ks ks.length L → (∀ b o, s.heap.get? b = some o → h'.get? b = some o) → Q (.ref s.heap.objs.size) { s with heap := h', toks := tk }) : wpAny (model P w) A (call (.type "set") [.ref l]) Q E s :=
  call_set_by (fill_tups ks (by simpa using hh) rfl hl hit hk few (by show A.units + 2 + 1 < cLine; omega) fun h' tk L es ep t a b c => ⟨rfl, h h' tk L es ep t a b c⟩)
end
end Cw
end L2

set_option Elab.async false
set_option linter.all false
set_option maxRecDepth 100000
set_option maxHeartbeats 2000000
namespace L2
namespace Cw
open PySem PySem.Spec PyProof.Rows
/-! ### sets, by how many are in -/
def SetN (n : Nat) (a : Addr) (h : Heap) : Prop := ∃ (o : Obj) (es : Array (Int × Value)) (ep : Nat) (t : SetTable), h.get? a = some o ∧ o.ExactSet ∧ o.data = .set es ep t ∧ t.fits es.size = true ∧ es.size = n
def setNT (n : Nat) : T := .ext (fun a _ _ => SetN n a) [] []
theorem setN_ok {P : Program} {w : World} {H : Hp} {h : Heap} {a : Addr} {n : Nat} (m : SetN n a h) : ObjOk P w H h a (.ext (SetN n a)) := by
  have ⟨o, es, ep, t, ho, q⟩ := m
  exact ⟨m, ⟨o, ho⟩, fun h1 h2 ⟨o', es', ep', t', ho', q'⟩ k => ⟨o', es', ep', t', k o' ho', q'⟩⟩
def rSetTT (K : PySem.W.Frag) : List V → Hp → VK → Prop := fun xs H Q => ∃ (l : Addr) (ks : List (Addr × List Int)), xs = [V.ref l] ∧ SqT K H l (ks.map fun p => V.ref p.1) ∧ (∀ p ∈ ks, SqT K H p.1 (p.2.map V.int)) ∧ ks.length < 64 ∧
  ∀ a, H a = none → Q (.ref a) (upd H a (.ext (SetN (dist (ks.map Prod.snd)).length a)))
section
variable {X : Cx}
theorem cr_setTT (hc : X.calm = true) (hu : X.A.units + 3 < cLine) : CallR X (.type "set") (rSetTT X.K) := fun pins s σ H xs us Q I r h => by
  obtain ⟨l, ks, rfl, hl, hk, few, q⟩ := h
  obtain ⟨its, rv, tup, _⟩ := I.tuple hl
  rw [Vals.ref1 r]
  refine call_set_tupT (P := X.prog) (w := X.w) ks (I.ok.hd hc) tup (by simpa using refs_of_vals rv) (fun p hp => I.isT (hk p hp)) few hu fun h' tk L es ep t R g k => ?_
  have num : (L.map Prod.snd).length = (dist (ks.map Prod.snd)).length := dist_len R.nd fun x => by
    refine ⟨fun hx => ?_, fun hx => ?_⟩
    · obtain ⟨p, hp, rfl⟩ := List.mem_map.mp hx
      exact List.mem_map_of_mem (List.mem_of_mem_take (g.sub p hp))
    · obtain ⟨p, hp, rfl⟩ := List.mem_map.mp hx
      exact g.all p (by rw [List.take_length]; exact hp)
  have ⟨o, ho, hex, hd⟩ := R.ob
  refine ⟨.ref s.heap.objs.size, _, I.laid (t' := tk) k (Nat.le_refl _) (setN_ok (n := (dist (ks.map Prod.snd)).length) ⟨o, es, ep, t, ho, hex, hd, R.fits (s := { s with heap := h', toks := tk }), ?_⟩), rfl, q _ (I.hok.fresh (Nat.le_refl _))⟩
  rw [R.size (s := { s with heap := h', toks := tk }), ← num, List.length_map]
def rSetI (K : PySem.W.Frag) : List V → Hp → VK → Prop := fun xs H Q => ∃ (l : Addr) (ns : List Int), xs = [V.ref l] ∧ SqL K H l (ns.map V.int) ∧ ns.length < 64 ∧ ∀ a, H a = none → Q (.ref a) (upd H a (.ext (SetN (dist ns).length a)))
theorem cr_setI (hc : X.calm = true) : CallR X (.type "set") (rSetI X.K) := fun pins s σ H xs us Q I r h => by
  obtain ⟨l, ns, rfl, hl, few, q⟩ := h
  obtain ⟨its, rv, li, _⟩ := I.list hl
  rw [Vals.ref1 r]
  have hi : IntsAre its ns := rv.ints
  have len : its.toArray.size = ns.length := by rw [List.size_toArray]; exact hi.length
  refine call_set_list (I.ok.hd hc) li.isList (ns := ns) (by simpa using hi) (by rw [len]; unfold scanBound; omega) fun h' tk R k => ?_
  rw [len] at R
  obtain ⟨o, es, ep, t, ho, hex, hd, _, _, _, fits, num⟩ := R
  rw [dist_len (met_nodup _ _) (met_mem ns)] at num
  exact ⟨.ref s.heap.objs.size, _, I.laid (t' := tk) (fun b u e => k b u (Heap.lt_size e) e) (Nat.le_refl _) (setN_ok ⟨o, es, ep, t, ho, hex, hd, fits, num⟩), rfl, q _ (I.hok.fresh (Nat.le_refl _))⟩
def rLenS (n : Nat) : List V → Hp → VK → Prop := fun xs H Q => ∃ a, xs = [V.ref a] ∧ Rd H a (.ext (SetN n a)) ∧ n < 2 ^ 62 ∧ Q (.int n) H
theorem cr_lenS {n : Nat} : CallR X (.builtin "len") (rLenS n) := fun pins s σ H xs us Q I r h => by
  obtain ⟨a, rfl, hs, small, q⟩ := h
  rw [Vals.ref1 r]
  have m : SetN n a s.heap := by
    rcases hs with hs | ⟨ob, hs⟩
    · exact (I.hok a _ hs).1
    · exact (I.hok a _ hs).2.1
  obtain ⟨o, es, ep, t, ho, hex, hd, fits, rfl⟩ := m
  exact call_len_set ho hex hd fits (by omega) ⟨.int es.size, H, I.tok _, ⟨_, rfl⟩, q⟩
end
section
variable {K : PySem.W.Frag} {Z H : Hp} {σ : St} {E E1 : List Ent} {S : SS} {e : Expr} {pos p : Pos}
theorem Go.setN {n : Nat} (st : StOk S.K Z H σ E) {a : Addr} (ha : H a = none) : Go S E σ Z H E σ (upd Z a (.ext (SetN n a))) (upd H a (.ext (SetN n a))) ∧ Rep S.K (upd Z a (.ext (SetN n a))) (setNT n) (.ref a) :=
  ⟨Go.alloc st ha (by intro ps q; cases q), rep_ext.mpr ⟨a, [], [], rfl, .inl upd_same, .nil, .nil⟩⟩
/-- a tuple of ints -/
def tupI (k : List Int) : T := .tup (k.map T.int)
theorem tups_of : ∀ {ks : List (List Int)} {vs : List V}, Reps K Z (ks.map tupI) vs → ∃ as : List (Addr × List Int), vs = as.map (fun p => V.ref p.1) ∧ as.map Prod.snd = ks ∧ ∀ p ∈ as, Z p.1 = some (.tup (p.2.map V.int))
  | [], _, h => ⟨[], by rw [h.unnil]; rfl, rfl, fun p hp => by simp at hp⟩
  | k :: ks, _, h => by
    obtain ⟨v, r, rfl, h1, h2⟩ := h.uncons
    obtain ⟨a, vs, rfl, h3, h4⟩ := rep_tup.mp h1
    obtain ⟨as, rfl, e2, e3⟩ := tups_of h2
    refine ⟨(a, k) :: as, rfl, by rw [List.map_cons, e2], fun p hp => ?_⟩
    match List.mem_cons.mp hp with
    | .inl e => rw [e, ← ints_of h4]; exact h3
    | .inr hp => exact e3 p hp
theorem eg_setTT {ks : List (List Int)} (g : GlOk S "set") (hm : S.mg "set" = none) (ha : EG S E e (.tup (ks.map tupI)) E1) (few : ks.length < 64) (he : ∀ env, starEach [e] env = (false, eval e env) :: starEach [] env := by intro _; rfl) : EG S E (.Call (.Name "set" p) [e] [] pos) (setNT (dist ks).length) E1 :=
  eg_callTy (r := rSetTT S.K) (fun W X hX => by rw [← hX.kk]; exact cr_setTT hX.calm (by have := u65 hX; omega)) (fun E Z H σ vs Q st r k => by
    obtain ⟨v, rfl, h⟩ := reps_one r
    obtain ⟨a, vs, rfl, q1, q2⟩ := rep_tup.mp h
    obtain ⟨as, rfl, rfl, e3⟩ := tups_of q2
    refine ⟨a, as, rfl, .inl (.inl (st.zh _ _ q1)), fun p hp => .inl (.inl (st.zh _ _ (e3 p hp))), by rw [List.length_map] at few; exact few, fun b hb => ?_⟩
    obtain ⟨g, rr⟩ := Go.setN st hb
    exact k _ _ _ g rr) g hm (by decide +kernel) (eas_cons ha eas_nil he) (by decide) he (by intro _; rfl)
theorem eg_setI {ns : List Int} (g : GlOk S "set") (hm : S.mg "set" = none) (ha : EG S E e (.lst (ns.map T.int)) E1) (few : ns.length < 64) (he : ∀ env, starEach [e] env = (false, eval e env) :: starEach [] env := by intro _; rfl) : EG S E (.Call (.Name "set" p) [e] [] pos) (setNT (dist ns).length) E1 :=
  eg_callTy (r := rSetI S.K) (fun W X hX => by rw [← hX.kk]; exact cr_setI hX.calm) (fun E Z H σ vs Q st r k => by
    obtain ⟨v, rfl, h⟩ := reps_one r
    obtain ⟨a, vs, rfl, q1, q2⟩ := rep_lst.mp h
    refine ⟨a, ns, rfl, by rw [← ints_of q2]; exact .inl (.inl (st.zh _ _ q1)), few, fun b hb => ?_⟩
    obtain ⟨g, rr⟩ := Go.setN st hb
    exact k _ _ _ g rr) g hm (by decide +kernel) (eas_cons ha eas_nil he) (by decide) he (by intro _; rfl)
theorem eg_lenS {n : Nat} (g : GlOk S "len") (hm : S.mg "len" = none) (ha : EG S E e (setNT n) E1) (small : n < 2 ^ 62) (he : ∀ env, starEach [e] env = (false, eval e env) :: starEach [] env := by intro _; rfl) : EG S E (.Call (.Name "len" p) [e] [] pos) (.int (n : Nat)) E1 :=
  eg_callB (r := rLenS n) (fun W X hX => cr_lenS) (fun E Z H σ vs Q st r k => by
    obtain ⟨v, rfl, h⟩ := reps_one r
    obtain ⟨a, qs, vs, rfl, q1, _, _⟩ := rep_ext.mp h
    exact ⟨a, rfl, q1.elim (fun z => .inl (st.zh _ _ z)) (fun ⟨ob, z⟩ => .inr ⟨ob, st.zh _ _ z⟩), small, k _ _ _ (Go.refl st) (rep_int.mpr rfl)⟩) g hm (by decide +kernel) (eas_cons ha eas_nil he) (by decide) he (by intro _; rfl)
end
end Cw
end L2

set_option Elab.async false
set_option linter.all false
set_option maxRecDepth 100000
set_option maxHeartbeats 2000000
namespace L2
namespace Cw
open PySem PySem.Spec PyProof.Rows
/-! ### dict(xs), xs a list of pairs whose keys are tuples -/
def mergeN (l : List (NestedKey × T)) (ps : List (List NestedKey × T)) : List (NestedKey × T) := ps.foldl (fun acc p => putN acc (.tup p.1) p.2) l
def pairT (p : List NestedKey × T) : T := .tup [keyT (.tup p.1), p.2]
/-- a call, by whatever it needs -/
def WC (S : SS) (f : Value) : List V → Hp → VK → Prop := fun vs H Q => ∀ W X, S.Has W X → ∀ pins s σ us, Inv X pins σ H s → Vals vs us → wpAny (model X.prog X.w) X.A (call f us) (EP X pins σ Q) X.xe s
theorem WC.rule {S : SS} {f : Value} {W : WX} {X : Cx} (hX : S.Has W X) : CallR X f (WC S f) := fun pins s σ H vs us Q I r h => h W X hX pins s σ us I r
/-- a pair as it lies: its tuple, its key, its value -/
structure Lies where
  at_ : Addr
  ks : List NestedKey
  key : Addr
  val : Value
abbrev Lies.entry (x : Lies) : NestedKey × Addr × Value := (.tup x.ks, x.key, x.val)
theorem paired_mem {α β : Type} {R : α → β → Prop} {xs : List α} {ys : List β} (h : Paired R xs ys) {y : β} (hy : y ∈ ys) : ∃ x ∈ xs, R x y := by
  induction h with
  | nil => exact absurd hy List.not_mem_nil
  | @cons x z xs ys c t ih =>
    match List.mem_cons.mp hy with
    | .inl e => exact ⟨x, List.mem_cons_self, e ▸ c⟩
    | .inr hy =>
      have ⟨q, hq, r⟩ := ih hy
      exact ⟨q, List.mem_cons_of_mem _ hq, r⟩
section
variable {X : Cx} {pins : List (Addr × Obj)} {σ : St} {H Z : Hp} {s : Shared} {K : PySem.W.Frag} {w : World}
theorem pairs_of (I : Inv X pins σ H s) (zh : Same Z H) (hK : X.K = K) : ∀ {ps : List (List NestedKey × T)} {vs : List V} {its : List Value}, Reps K Z (ps.map pairT) vs → Vals vs its →
    ∃ xs : List Lies, its = xs.map (fun x => Value.ref x.at_) ∧ (∀ x ∈ xs, PairAt s.heap x.at_ (.ref x.key) x.val) ∧ Paired (fun (p : List NestedKey × T) (x : Lies) => x.ks = p.1 ∧ (∃ v, Rep K Z p.2 v ∧ RelV v x.val) ∧ Rep K Z (keyT (.tup x.ks)) (.ref x.key)) ps xs
  | [], _, _, r, rv => by
    rw [r.unnil] at rv
    cases rv
    exact ⟨[], rfl, fun x hx => absurd hx (List.not_mem_nil), .nil⟩
  | p :: ps, _, _, r, rv => by
    obtain ⟨v, vr, rfl, r1, r2⟩ := r.uncons
    cases rv with
    | cons h1 h2 =>
      obtain ⟨xs, rfl, q1, q2⟩ := pairs_of I zh hK r2 h2
      obtain ⟨a, ws, rfl, m, rr⟩ := rep_tup.mp r1
      obtain ⟨kv, tv, rfl, rk, rt⟩ := reps_two rr
      cases h1
      have rk' := rk
      rw [keyT] at rk'
      obtain ⟨ka, _, rfl, _, _⟩ := rep_tup.mp rk'
      have mm : SqT X.K H a [.ref ka, tv] := .inl (.inl (zh _ _ m))
      obtain ⟨its, ri, tup, _⟩ := I.tuple mm
      cases ri with
      | cons c1 c2 =>
        cases c2 with
        | cons d1 d2 =>
          cases d2
          cases c1
          refine ⟨⟨a, p.1, ka, _⟩ :: xs, rfl, fun x hx => ?_, .cons ⟨rfl, ⟨tv, rt, d1⟩, rk⟩ q2⟩
          match List.mem_cons.mp hx with
          | .inl e => rw [e]; exact .inl tup
          | .inr hx => exact q1 x hx
theorem merge_rel {ps : List (List NestedKey × T)} {xs : List Lies} (q : Paired (fun (p : List NestedKey × T) (x : Lies) => x.ks = p.1 ∧ (∃ v, Rep K Z p.2 v ∧ RelV v x.val) ∧ Rep K Z (keyT (.tup x.ks)) (.ref x.key)) ps xs) :
    ∀ {l : List (NestedKey × T)} {ys : List (NestedKey × Addr × Value)}, DRel K Z l ys → DRel K Z (mergeN l ps) (storedAllH ys (xs.map Lies.entry)) := by
  induction q with
  | nil => intro l ys d; exact d
  | @cons p x ps xs a t ih =>
    intro l ys d
    obtain ⟨e, ⟨v, r, rv⟩, rk⟩ := a
    have d2 := d.put rk r rv
    rw [e] at d2
    have d3 := ih d2
    unfold mergeN storedAllH at d3 ⊢
    rw [List.map_cons, List.foldl_cons, List.foldl_cons]
    unfold Lies.entry
    rw [e]
    exact d3
theorem mergeN_len : ∀ {ps : List (List NestedKey × T)} {l : List (NestedKey × T)}, (mergeN l ps).length ≤ l.length + ps.length
  | [], l => Nat.le_refl _
  | p :: ps, l => by
    have h := mergeN_len (ps := ps) (l := putN l (.tup p.1) p.2)
    have h2 := length_putN (l := l) (k := NestedKey.tup p.1) (t := p.2)
    unfold mergeN at h ⊢
    rw [List.length_cons, List.foldl_cons]
    omega
theorem mergeN_depth : ∀ {ps : List (List NestedKey × T)} {l : List (NestedKey × T)}, (∀ p ∈ l, p.1.depth ≤ 8) → (∀ p ∈ ps, (NestedKey.tup p.1).depth ≤ 8) → ∀ p ∈ mergeN l ps, p.1.depth ≤ 8
  | [], l, h, _ => h
  | p :: ps, l, h, h2 => by
    have := mergeN_depth (ps := ps) (depth_putN (t := p.2) h (h2 p List.mem_cons_self)) fun q hq => h2 q (List.mem_cons_of_mem _ hq)
    unfold mergeN at this ⊢
    simpa only [List.foldl_cons] using this
end
section
variable {Z H : Hp} {σ : St} {E E1 : List Ent} {S : SS} {e : Expr} {pos p : Pos}
theorem eg_dictN {ps : List (List NestedKey × T)} (g : GlOk S "dict") (hm : S.mg "dict" = none) (ha : EG S E e (.lst (ps.map pairT)) E1) (hd : ∀ p ∈ ps, (NestedKey.tup p.1).depth ≤ 8) (hl : ps.length ≤ 16777216) (he : ∀ env, starEach [e] env = (false, eval e env) :: starEach [] env := by intro _; rfl) :
    EG S E (.Call (.Name "dict" p) [e] [] pos) (dN S.w (mergeN [] ps)) E1 :=
  eg_callTy (r := WC S (.type "dict")) (fun W X hX => WC.rule hX) (fun E Z H σ vs Q st r k W X hX pins s σ us I rv => by
    obtain ⟨v, rfl, h⟩ := reps_one r
    obtain ⟨a, vs, rfl, q1, q2⟩ := rep_lst.mp h
    rw [Vals.ref1 rv]
    have li : SqL X.K H a vs := .inl (.inl (st.zh _ _ q1))
    obtain ⟨its, ri, seq, _⟩ := I.list li
    obtain ⟨xs, rfl, x1, x2⟩ := pairs_of I st.zh hX.kk q2 ri
    have pl := Paired.length x2
    have hz : (xs.map Lies.entry).length = xs.length := List.length_map ..
    have hd0 := I.ok.hd hX.calm
    have nr : (nestedKind X.prog X.w).room X.A.in1.in1 := by
      show X.A.units + 2 + 8 < cLine
      have := u65 hX
      omega
    obtain ⟨oo, nn, ho, hcl, hdi, hda⟩ := seq
    refine call_dict_pairsH (knd := nestedKind X.prog X.w) (ps := xs.map Lies.entry) (PairArg.list a (xs.map fun x => Value.ref x.at_).toArray (fun j => (xs[j]?.map Lies.at_).getD 0) (xs.map fun x => (Value.ref x.key, x.val))) hd0 nr ⟨⟨oo, nn, ho, hcl, hdi, hda⟩, by simp, fun j kk vv e => ?_⟩ ⟨by simp, fun j kk vv e => ?_⟩ (fun h' kept x hx => ?_) (by simp only [List.length_map]; rw [sizeLine_eq, ← pl]; exact hl) fun h' tk made kept => ?_
    · rw [List.getElem?_map] at e
      cases q : xs[j]? with
      | none => simp [q] at e
      | some x =>
        rw [q] at e
        cases e
        exact ⟨by simp [q], by simpa [q] using x1 x (List.mem_of_getElem? q)⟩
    · rw [PairRel, List.getElem?_map] at e
      cases q : xs[j]? with
      | none => simp [q] at e
      | some x =>
        rw [q] at e
        cases e
        exact ⟨_, _, by rw [List.getElem?_map, q]; rfl, rfl⟩
    · obtain ⟨y, hy, rfl⟩ := List.mem_map.mp hx
      have I2 : Inv X pins σ H { s with heap := h', toks := s.toks } := I.kept fun b u z => kept b u (Nat.ne_of_lt (Heap.lt_size z)) (by simp) z
      obtain ⟨p, hp, e1, _, e3⟩ := paired_mem x2 hy
      exact ⟨key_is I2 st.zh hX.kk _ (keyT_self _) e3 rfl, by show (NestedKey.tup y.ks).depth ≤ 8; rw [e1]; exact hd p hp⟩
    · have dr : DRel S.K Z (mergeN [] ps) (storedAllH [] (xs.map Lies.entry)) := merge_rel x2 (show DRel S.K Z [] [] from .nil)
      have nd : (s.heap.objs.size == sysModules) = false := beq_eq_false_iff_ne.mpr (Ne.symm (Nat.ne_of_lt I.big))
      obtain ⟨o', r1, r2, r3⟩ := dn_close (w := X.w) (P := X.prog) nd (by have := mergeN_len (ps := ps) (l := []); rw [sizeLine_eq]; simp at this; omega) (mergeN_depth (fun _ z => absurd z List.not_mem_nil) hd) made dr
      have fresh := I.hok.fresh (Nat.le_refl s.heap.objs.size)
      rw [hX.hw] at r1
      have g := Go.alloc (S := S) (o := o') st fresh (fun ps z => r1.notbl ps z)
      exact ⟨.ref s.heap.objs.size, _, I.laid (t' := tk) (fun b u z => kept b u (by simp) z) (Nat.le_refl _) (r3 _), rfl, k _ _ _ g ((r1.mono g.step.zz).rep upd_same)⟩) g hm (by decide +kernel) (eas_cons ha eas_nil he) (by decide) he (by intro _; rfl)
end
end Cw
end L2

set_option Elab.async false
set_option linter.all false
set_option maxRecDepth 100000
set_option maxHeartbeats 2000000
namespace L2
namespace Cw
open PySem PySem.Spec PyProof.Rows
/-! ### data told by plain values -/
structure Enc {α : Type} [DecidableEq α] (n : Nat) (f : α → T) : Prop where
  eq : ∀ a b, teq (f a) (f b) = decide (a = b)
  ok : ∀ a, DOk n (f a)
theorem DOk.up : ∀ {n m : Nat} {t : T}, n ≤ m → DOk n t → DOk m t := by
  intro n
  induction n with
  | zero =>
    intro m t h d
    cases m <;> cases t <;> first | exact d | exact d.elim
  | succ n ih =>
    intro m t h d
    cases m with
    | zero => omega
    | succ m =>
      cases t <;> first | exact d | exact fun u hu => ih (Nat.le_of_succ_le_succ h) (d u hu)
section
variable {α β : Type} [DecidableEq α] [DecidableEq β] {f : α → T} {g : β → T} {n m : Nat}
theorem Enc.up (e : Enc n f) (h : n ≤ m) : Enc m f := ⟨e.eq, fun a => (e.ok a).up h⟩
theorem enc_int : Enc 0 T.int := ⟨fun a b => by simp [teq, toD, PyData.eqv]; rfl, fun _ => trivial⟩
theorem enc_bl : Enc 0 T.bl := ⟨fun a b => by cases a <;> cases b <;> simp [teq, toD, PyData.eqv], fun _ => trivial⟩
def ov : Option Int → T
  | none => .non
  | some i => .int i
theorem enc_ov : Enc 0 ov := ⟨fun a b => by
  cases a <;> cases b <;> simp [teq, toD, PyData.eqv, ov]
  rfl, fun a => by cases a <;> trivial⟩
theorem Enc.all (e : Enc n f) : ∀ xs ys : List α, PyData.eqvAll (toDs (xs.map f)) (toDs (ys.map f)) = decide (xs = ys)
  | [], [] => by simp [toDs, PyData.eqvAll]
  | [], y :: ys => by simp [toDs, PyData.eqvAll]
  | x :: xs, [] => by simp [toDs, PyData.eqvAll]
  | x :: xs, y :: ys => by
    have h := e.eq x y
    unfold teq at h
    simp only [List.map_cons, toDs, PyData.eqvAll, h, e.all xs ys]
    rcases Classical.em (x = y) with h1 | h1 <;> rcases Classical.em (xs = ys) with h2 | h2 <;> simp [h1, h2]
theorem Enc.tup (e : Enc n f) : Enc (n + 1) fun xs : List α => T.tup (xs.map f) := ⟨fun a b => by
  simp only [teq, toD, PyData.eqv]; exact e.all a b, fun a t ht => by obtain ⟨x, _, rfl⟩ := List.mem_map.mp ht; exact e.ok x⟩
theorem Enc.lst (e : Enc n f) : Enc (n + 1) fun xs : List α => T.lst (xs.map f) := ⟨fun a b => by
  simp only [teq, toD, PyData.eqv]; exact e.all a b, fun a t ht => by obtain ⟨x, _, rfl⟩ := List.mem_map.mp ht; exact e.ok x⟩
theorem Enc.comp (e : Enc n f) (h : β → α) (inj : ∀ a b, h a = h b → a = b) : Enc n fun b => f (h b) := ⟨fun a b => by
  rw [e.eq]
  by_cases q : a = b
  · simp [q]
  · rw [decide_eq_false q, decide_eq_false (fun z => q (inj a b z))], fun a => e.ok _⟩
theorem Enc.any (e : Enc n f) (a : α) (xs : List α) : ((xs.map f).any fun x => teq x (f a)) = decide (a ∈ xs) := by
  induction xs with
  | nil => simp
  | cons x xs ih =>
    rw [List.map_cons, List.any_cons, ih, e.eq]
    by_cases h1 : x = a <;> by_cases h2 : a ∈ xs <;> simp [h1, h2, eq_comm]
    all_goals (intro z; exact h1 z.symm)
theorem Enc.in_ (e : Enc n f) (xs : List α) : DOk (n + 1) (.lst (xs.map f)) := e.lst.ok xs
end
/-- what changes no slot -/
theorem sg_setP {S : SS} {E : List Ent} {i : Nat} {x : Str} {e : Expr} {t : T} {pos pos' : Pos} (so : StoOk S i x) (h : EG S E e t E) (hi : i < E.length) (hs : ∀ env, swapsWith e (some (.Name x pos')) pos.line env = pure false := by intro _; rfl) : SG S E (.Assign [.Name x pos'] e pos) (.nx (E.set i (.sh t))) := sg_set so h hi hs
/-- for, typed: each turn goes on, told of the items gone -/
theorem ForR.within {S : SS} {α : Type} {toT : α → T} {tg : Expr} {body : List Stmt} {Ev : List α → List Ent} {xs : List α} (h : ∀ pre x, pre.length < xs.length → ∃ Ea ws, AG S (Ev pre) tg (toT x) Ea ws ∧ SGs S Ea body (.nx (Ev (pre ++ [x])))) : ForR S tg body (Ev []) (xs.map toT) (.nx (Ev xs)) := by
  have go : ∀ (ys pre : List α), pre.length + ys.length = xs.length → ForR S tg body (Ev pre) (ys.map toT) (.nx (Ev (pre ++ ys))) := by
    intro ys
    induction ys with
    | nil => intro pre _; rw [List.append_nil]; exact .nil
    | cons y ys ih =>
      intro pre hl
      rw [List.length_cons] at hl
      obtain ⟨Ea, ws, h1, h2⟩ := h pre y (by omega)
      have := ih (pre ++ [y]) (by rw [List.length_append, List.length_singleton]; omega)
      exact .step h1 h2 (by rwa [List.append_assoc] at this)
  exact go xs [] (by simp)
theorem ForR.pre {S : SS} {α : Type} {toT : α → T} {tg : Expr} {body : List Stmt} {Ev : List α → List Ent} {xs : List α} (h : ∀ pre x post, pre ++ x :: post = xs → ∃ Ea ws, AG S (Ev pre) tg (toT x) Ea ws ∧ SGs S Ea body (.nx (Ev (pre ++ [x])))) : ForR S tg body (Ev []) (xs.map toT) (.nx (Ev xs)) := by
  have go : ∀ (ys pre : List α), pre ++ ys = xs → ForR S tg body (Ev pre) (ys.map toT) (.nx (Ev xs)) := by
    intro ys
    induction ys with
    | nil => intro pre e; rw [List.append_nil] at e; rw [e]; exact .nil
    | cons y ys ih =>
      intro pre e
      obtain ⟨Ea, ws, h1, h2⟩ := h pre y ys e
      exact .step h1 h2 (ih (pre ++ [y]) (by rw [List.append_assoc]; exact e))
  exact go xs [] rfl
theorem eg_neg {S : SS} {E E1 : List Ent} {a : Expr} {i : Int} {pos : Pos} (h : EG S E a (.int i) E1) : EG S E (.UnaryOp .USub a pos) (.int (-i)) E1 := fun W Z H σ Q st k =>
  R.mk (t := tUn (rU fun i => .int (-i)) (R S W a)) (fun X hX => pe_un un_neg (hX.pe a)) (h W Z H σ _ st fun v H1 Z1 g r => ⟨i, rep_int.mp r, k _ _ _ g (rep_int.mpr rfl)⟩)
theorem wg_andF' {S : SS} {E E1 : List Ent} {a b : Expr} {rest : List Expr} {pos : Pos} {c : Bool} (h : TtG S E a c E1) (hc : c = false) : WG S E (.BoolOp .And (a :: b :: rest) pos) c E1 := by
  subst hc; exact wg_andF h
/-- two-number tuples -/
theorem enc_tupI : Enc 1 tupI := enc_int.tup
theorem teq_nil {ts : List T} : teq (.tup ts) (.tup []) = ts.isEmpty := by
  cases ts <;> simp [teq, toD, toDs, PyData.eqv, PyData.eqvAll]
theorem teq_nilL {ts : List T} : teq (.lst ts) (.lst []) = ts.isEmpty := by
  cases ts <;> simp [teq, toD, toDs, PyData.eqv, PyData.eqvAll]
theorem at_last {t : T} {ts : List T} : atI (ts ++ [t]) (-1) = some t := by
  unfold atI ixN
  have h : -(((ts ++ [t]).length : Nat) : Int) ≤ -1 := by rw [List.length_append, List.length_singleton]; omega
  rw [if_neg (by decide), if_pos h]
  have e : ((-1 : Int) + ((ts ++ [t]).length : Nat)).toNat = ts.length := by rw [List.length_append, List.length_singleton]; omega
  rw [e]
  simp
theorem atI_at {ts : List T} {n : Nat} {t : T} (h : ts[n]? = some t) : atI ts (n : Int) = some t := by
  have hn : n < ts.length := (List.getElem?_eq_some_iff.mp h).1
  unfold atI ixN
  have h0 : (0 : Int) ≤ n := by omega
  simpa [h0, hn] using h
theorem cut_last {ts : List T} (t : T) : cutT (ts ++ [t]) none (some (-1)) = ts := by
  unfold cutT
  have e : HT.sIx (ts ++ [t]).length (ts ++ [t]).length (some (-1)) = ts.length := by
    simp only [HT.sIx]
    rw [if_pos (by decide), List.length_append, List.length_singleton]
    omega
  rw [HT.sIx_none, e, List.drop_zero, Nat.sub_zero]
  simp
theorem cut_take {ts : List T} {n : Nat} (h : n ≤ ts.length) : cutT ts none (some (n : Int)) = ts.take n := by
  unfold cutT
  rw [HT.sIx_none, HT.sIx_nat, List.drop_zero, Nat.sub_zero, Nat.min_eq_left h]
theorem dok_nil {n : Nat} : DOk (n + 1) (.tup []) := fun t h => absurd h List.not_mem_nil
theorem dok_nilL {n : Nat} : DOk (n + 1) (.lst []) := fun t h => absurd h List.not_mem_nil
end Cw
end L2

set_option Elab.async false
set_option linter.all false
set_option maxRecDepth 100000
set_option maxHeartbeats 2000000
namespace L2
namespace Cw
open PySem PySem.Spec PyProof.Rows
section
variable {K : PySem.W.Frag} {Z H : Hp} {σ : St} {E E1 E2 : List Ent} {S : SS} {d i e : Expr} {l : List (NestedKey × T)} {ks : List NestedKey} {kt : T} {apos pos p : Pos}
/-- d.get(i), keys tuples -/
theorem eg_get1N (bc : BCall d "get" apos i [] pos) (hd : EG S E d (dN S.w l) E1) (hi : EG S E1 i kt E2) (hk : KeyT (.tup ks) kt) (h8 : (NestedKey.tup ks).depth ≤ 8) : EG S E (.Call (.Attribute d "get" apos) [i] [] pos) ((getN l (.tup ks)).getD .non) E2 := fun W Z H σ Q st k X hX pins s I => by
  refine wpAny_Call_method_late (bc.base _) (bc.few _) bc.line rfl (hd.run hX st I fun u s1 v H1 Z1 I1 rv g1 r1 => ?_)
  obtain ⟨a, ob, rfl, hr, ro⟩ := dn_rep g1.st.zh r1
  obtain rfl : u = Value.ref a := rv
  obtain ⟨_, _, _, xs0, m0, _⟩ := dn_open I1 g1.st.zh hX.kk hX.hw hr ro
  have ⟨od, es, ep, ho, hex, _⟩ := m0
  refine ⟨"dict", "dict.get", PySem.F.plainAttrs_dict, PySem.F.slot_dict_get, PySem.F.type_dict_get, ⟨od, ho, hex.1⟩, fun b e => ?_, ?_⟩
  · cases e
    exact ⟨od, ho, hex.2.1⟩
  rw [bc.star]
  refine Calls.callWith_builtin (by show (false || (backTo pos (starEach [] X.env)).any (·.1)) = false; rw [bc.plain] <;> rfl) (Calls.evalArgs_plain (Calls.spliced_cons (hi.run hX g1.st I1 fun u2 s2 v2 H2 Z2 I2 rv2 g2 r2 => Calls.spliced_nil ?_)))
  obtain ⟨a2, ob2, e2, hr2, ro2⟩ := dn_rep (H := H2) g2.st.zh (r1.mono g2.step.zz)
  cases e2
  obtain ⟨hsys, hl, hdp, xs, m, dr⟩ := dn_open I2 g2.st.zh hX.kk hX.hw hr2 ro2
  have kk := hk
  simp only [KeyT] at kk
  obtain ⟨ts, h1, h2⟩ := kk
  have rt : ∃ b, v2 = .ref b := by
    rcases h1 with rfl | rfl
    · obtain ⟨b, _, e, _⟩ := rep_tup.mp r2; exact ⟨b, e⟩
    · obtain ⟨b, _, e, _⟩ := rep_wtup.mp r2; exact ⟨b, e⟩
  obtain ⟨b, rfl⟩ := rt
  obtain rfl : u2 = Value.ref b := rv2
  have nk := key_is I2 g2.st.zh hX.kk (.tup ks) hk r2 rfl
  refine call_meetsIn F.slot_dict_get m.typeIs F.entry_dict_get (F.args_dict_get_2 _ _) (meetsH_dict_get (nestedKind X.prog X.w) a b hsys) ⟨hX.nroom, .tup ks, xs, ⟨nk, h8⟩, m, ?_⟩
  obtain ⟨q1, q2⟩ := dr.get (.tup ks)
  cases q : getN l (.tup ks) with
  | none =>
    rw [q] at q2 k
    have none' : atKey xs (.tup ks) = none := by
      cases z : atKey xs (.tup ks) with
      | none => rfl
      | some _ => rw [z] at q2; cases q2
    rw [none']
    exact ⟨.non, H2, I2.tok _, rfl, k _ _ _ (g1.trans g2) (rep_non.mpr rfl)⟩
  | some t =>
    rw [q] at k
    obtain ⟨pp, v, e1, r3, rv3⟩ := q1 t q
    rw [e1]
    exact ⟨v, H2, I2.tok _, rv3, k _ _ _ (g1.trans g2) r3⟩
/-! ### dict(xs), keys ints, by its length -/
def keysI (ns : List Int) : List Int := ns.foldl (fun acc n => if n ∈ acc then acc else acc ++ [n]) []
theorem keysI_go (ns : List Int) : ∀ acc : List Int, acc.Nodup → (ns.foldl (fun acc n => if n ∈ acc then acc else acc ++ [n]) acc).Nodup ∧ ∀ x, x ∈ ns.foldl (fun acc n => if n ∈ acc then acc else acc ++ [n]) acc ↔ x ∈ acc ∨ x ∈ ns := by
  induction ns with
  | nil => intro acc h; exact ⟨h, fun x => by simp⟩
  | cons n ns ih =>
    intro acc h
    simp only [List.foldl_cons]
    by_cases hn : n ∈ acc
    · rw [if_pos hn]
      obtain ⟨a, b⟩ := ih acc h
      refine ⟨a, fun x => (b x).trans ?_⟩
      simp only [List.mem_cons]
      exact ⟨fun z => z.elim .inl fun z => .inr (.inr z), fun z => z.elim .inl fun z => z.elim (fun e => .inl (by rw [e]; exact hn)) .inr⟩
    · rw [if_neg hn]
      have nd : (acc ++ [n]).Nodup := List.nodup_append.mpr ⟨h, by simp, fun x hx y hy e => hn (by simp at hy; rw [← hy, ← e]; exact hx)⟩
      obtain ⟨a, b⟩ := ih _ nd
      refine ⟨a, fun x => (b x).trans ?_⟩
      simp only [List.mem_append, List.mem_cons, List.not_mem_nil, or_false]
      exact or_assoc
theorem keysI_len (ns : List Int) : (keysI ns).length = (dist ns).length := by
  obtain ⟨a, b⟩ := keysI_go ns [] List.nodup_nil
  exact dist_len a fun x => (b x).trans (by simp)
def kOne (n : Int) : Key × V := (Sum.inl n, .int 1)
theorem putK_one (acc : List Int) (n : Int) : putK (acc.map kOne) (Sum.inl n : Key) (.int 1) = (if n ∈ acc then acc else acc ++ [n]).map kOne := by
  have h : ((acc.map kOne).any fun kv => decide (kv.1 = (Sum.inl n : Key))) = decide (n ∈ acc) := by
    induction acc with
    | nil => simp
    | cons a acc ih =>
      rw [List.map_cons, List.any_cons, ih]
      by_cases h1 : a = n <;> by_cases h2 : n ∈ acc <;> simp [kOne, h1, h2]
      intro z; exact h1 z.symm
  unfold putK
  rw [h]
  by_cases hn : n ∈ acc
  · rw [decide_eq_true hn, if_pos rfl, if_pos hn, List.map_map]
    refine List.map_congr_left fun a _ => ?_
    show (if (kOne a).1 = Sum.inl n then ((kOne a).1, V.int 1) else kOne a) = kOne a
    split <;> rfl
  · rw [decide_eq_false hn, if_neg Bool.false_ne_true, if_neg hn, List.map_append]
    rfl
theorem mergeK_one (ns : List Int) : ∀ acc : List Int, mergeK (acc.map kOne) (ns.map kOne) = (ns.foldl (fun acc n => if n ∈ acc then acc else acc ++ [n]) acc).map kOne := by
  induction ns with
  | nil => intro acc; rfl
  | cons n ns ih =>
    intro acc
    have h := ih (if n ∈ acc then acc else acc ++ [n])
    rw [← putK_one] at h
    exact h
def onesT (n : Int) : T := .tup [.int n, .int 1]
theorem ones_of : ∀ {ns : List Int} {vs : List V}, Reps K Z (ns.map onesT) vs → ∃ as : List Addr, vs = as.map V.ref ∧ Paired (fun a kv => Z a = some (.tup [kV kv.1, kv.2])) as (ns.map kOne)
  | [], _, h => ⟨[], by rw [h.unnil]; rfl, .nil⟩
  | n :: ns, _, h => by
    obtain ⟨v, r, rfl, h1, h2⟩ := h.uncons
    obtain ⟨a, vs, rfl, h3, h4⟩ := rep_tup.mp h1
    obtain ⟨x, y, rfl, r1, r2⟩ := reps_two h4
    cases rep_int.mp r1
    cases rep_int.mp r2
    obtain ⟨as, rfl, q⟩ := ones_of h2
    exact ⟨a :: as, rfl, .cons h3 q⟩
theorem Paired.imp' {α β : Type} {R R' : α → β → Prop} (h : ∀ a b, R a b → R' a b) {xs : List α} {ys : List β} (p : Paired R xs ys) : Paired R' xs ys := by
  induction p with
  | nil => exact .nil
  | cons a t ih => exact .cons (h _ _ a) ih
def rLenDR : List V → Hp → VK → Prop := fun xs H Q => ∃ (a : Addr) (kvs : List (Key × V)), xs = [V.ref a] ∧ Rd H a (.dK kvs) ∧ Q (.int kvs.length) H
theorem cr_lenDR {X : Cx} : CallR X (.builtin "len") rLenDR := fun pins s σ H xs us Q I r h => by
  let ⟨a, kvs, e, ha, q⟩ := h
  subst e
  rw [Vals.ref1 r]
  exact d_len I ha fun t s' I' => ⟨.int kvs.length, H, I', ⟨t, rfl⟩, q⟩
theorem eg_dictOnes {ns : List Int} (g : GlOk S "dict") (hm : S.mg "dict" = none) (ha : EG S E e (.lst (ns.map onesT)) E1) (he : ∀ env, starEach [e] env = (false, eval e env) :: starEach [] env := by intro _; rfl) :
    EG S E (.Call (.Name "dict" p) [e] [] pos) (.dicK ((keysI ns).map Sum.inl) ((keysI ns).map fun _ => .int 1)) E1 :=
  eg_callTy (r := fun xs H Q => ∃ (a : Addr) (ps : List Addr) (kvs : List (Key × V)), xs = [.ref a] ∧ SqL S.K H a (ps.map V.ref) ∧ Paired (fun p kv => SqT S.K H p [kV kv.1, kv.2]) ps kvs ∧ ∀ p, H p = none → Q (.ref p) (upd H p (.dK (mergeK [] kvs)))) (fun W X hX => by rw [← hX.kk]; exact call_dictP hX.calm) (fun E Z H σ vs Q st r k => by
    obtain ⟨v, rfl, h⟩ := reps_one r
    obtain ⟨a, vs, rfl, q1, q2⟩ := rep_lst.mp h
    obtain ⟨as, rfl, pr⟩ := ones_of q2
    refine ⟨a, as, ns.map kOne, rfl, .inl (.inl (st.zh _ _ q1)), Paired.imp' (fun a b z => .inl (.inl (st.zh _ _ z))) pr, fun b hb => ?_⟩
    have g := Go.alloc (S := S) (o := .dK (mergeK [] (ns.map kOne))) st hb (by intro ps q; cases q)
    have e : mergeK [] (ns.map kOne) = (keysI ns).map kOne := mergeK_one ns []
    rw [e] at g ⊢
    refine k _ _ _ g (rep_dicK.mpr ⟨b, _, rfl, .inl upd_same, by rw [List.map_map]; rfl, ?_⟩)
    rw [List.map_map]
    have all : ∀ xs : List Int, Reps S.K (upd Z b (.dK ((keysI ns).map kOne))) (xs.map fun _ => T.int 1) (xs.map (Prod.snd ∘ kOne)) := by
      intro xs
      induction xs with
      | nil => exact .nil
      | cons x xs ih => exact .cons (rep_int.mpr rfl) ih
    exact all _) g hm (by decide +kernel) (eas_cons ha eas_nil he) (by decide) he (by intro _; rfl)
theorem eg_lenDK {ks : List Key} {ts : List T} (g : GlOk S "len") (hm : S.mg "len" = none) (ha : EG S E e (.dicK ks ts) E1) (he : ∀ env, starEach [e] env = (false, eval e env) :: starEach [] env := by intro _; rfl) : EG S E (.Call (.Name "len" p) [e] [] pos) (.int (ks.length : Nat)) E1 :=
  eg_callB (r := rLenDR) (fun W X hX => cr_lenDR) (fun E Z H σ vs Q st r k => by
    obtain ⟨v, rfl, h⟩ := reps_one r
    obtain ⟨a, kv, rfl, q1, rfl, _⟩ := rep_dicK.mp h
    exact ⟨a, kv, rfl, q1.elim (fun z => .inl (st.zh _ _ z)) (fun ⟨ob, z⟩ => .inr ⟨ob, st.zh _ _ z⟩), k _ _ _ (Go.refl st) (by rw [List.length_map]; exact rep_int.mpr rfl)⟩) g hm (by decide +kernel) (eas_cons ha eas_nil he) (by decide) he (by intro _; rfl)
/-! ### a <= b <= c as a value -/
theorem eg_chain {a b c : Expr} {op op' : CmpOp} {ta tb tc : T} {r r' : R2} {c1 c2 : Bool} (ho : ∀ W X, S.Has W X → OpR X (compareOp op) r) (ho' : ∀ W X, S.Has W X → OpR X (compareOp op') r') (hr : OpG S r ta tb (.bl c1)) (hr' : OpG S r' tb tc (.bl c2)) (ha : EG S E a ta E) (hb : EG S E b tb E) (hc : c1 = true → EG S E c tc E)
    (hm : lastMarks [op, op'] [b, c] = false := by with_unfolding_all rfl) : EG S E (.Compare a [op, op'] [b, c] pos) (.bl (c1 && c2)) E := fun W Z H σ Q st k => by
  refine R.mk (t := tChain r r' (R S W a) (R S W b) (R S W c)) (fun X hX => pe_chain (ho W X hX) (ho' W X hX) (hX.pe a) (hX.pe b) (hX.pe c) hm) (ha W Z H σ _ st fun v H1 Z1 g1 r1 => hb W Z1 H1 σ _ g1.st fun u H2 Z2 g2 r2 => hr _ _ _ _ _ _ _ g2.st (r1.mono g2.step.zz) r2 fun w H3 Z3 g3 r3 => ⟨c1, rep_bl.mp r3, ?_⟩)
  cases c1 with
  | true => exact iteT (hc rfl W Z3 H3 σ _ g3.st fun y H4 Z4 g4 r4 => hr' _ _ _ _ _ _ _ g4.st ((r2.mono g3.step.zz).mono g4.step.zz) r4 fun w' H5 Z5 g5 r5 => k _ _ _ ((((g1.trans g2).trans g3).trans g4).trans g5) r5)
  | false => exact iteF (k _ _ _ ((g1.trans g2).trans g3) (rep_bl.mpr rfl))
theorem pg_lele {a b c : Expr} {i j k : Int} (ha : EG S E a (.int i) E) (hb : EG S E b (.int j) E) (hc : EG S E c (.int k) E) (hm : lastMarks [.LtE, .LtE] [b, c] = false := by with_unfolding_all rfl) : EG S E (.Compare a [.LtE, .LtE] [b, c] pos) (.bl (decide (i ≤ j) && decide (j ≤ k))) E :=
  eg_chain (fun _ _ _ => op_le) (fun _ _ _ => op_le) (opg_rI0 fun _ => rep_bl.mpr rfl) (opg_rI0 fun _ => rep_bl.mpr rfl) ha hb (fun _ => hc) hm
end
/-! ### __init__, by its body -/
theorem sg_fldX {S : SS} {E E1 : List Ent} {value o : Expr} {f : Str} {pos pos' : Pos} {C : Addr} (h : EX S E value C E1) (hs : ∀ env, swapsWith value (some (.Attribute o f pos')) pos.line env = pure false := by intro _; rfl) : SG S E (.Assign [.Attribute o f pos'] value pos) (.exc C E1) := fun W Z H σ D s k =>
  RSt.mk (t := sFld S.K (R S W o) (R S W value) f) (fun X hX => by rw [← hX.kk]; exact ps_fld (hX.pe o) (hX.pe value) (hs _)) (h W Z H σ _ s fun H1 Z1 g1 => k _ _ _ g1)
section
variable {P : Program} {w : World} {K : PySem.W.Frag} {mg : Str → Option Value} {base : Heap} {qual : Str} {st : Stmt} {f : Addr} {fd : FuncData} {N ps : List Str} {k : Nat} {C : Addr} {ts us : List T} {fs : List Str}
abbrev initS (P : Program) (w : World) (K : PySem.W.Frag) (mg : Str → Option Value) (base : Heap) (k : Nat) (N : List Str) (sc : Scope) (C : Addr) (ts : List T) : SS := defS P w K mg base k N sc (.ow (.ins C [] []) :: ts.map Ent.sh)
theorem fin_init {E' : List Ent} (h0 : E'[0]? = some (.ow (.ins C fs us))) : FinA (.ow (.ins C [] []) :: ts.map Ent.sh) E' (.ow (.ins C fs us) :: ts.map Ent.sh) := by
  refine ⟨by simp, fun j t h => ?_, fun j t h => ?_⟩
  · cases j with
    | zero => cases h
    | succ j => exact h
  · cases j with
    | zero => cases h; exact ⟨h0, _, rfl⟩
    | succ j =>
      have h2 : (ts.map Ent.sh)[j]? = some (.ow t) := h
      rw [List.getElem?_map] at h2
      cases q : ts[j]? with
      | none => rw [q] at h2; cases h2
      | some u => rw [q] at h2; cases h2
theorem inits_of (E : List Ent) (F : FunA K "__init__" qual st f fd) (Sc : FnScope N ps (defScope st)) (hl : ts.length + 1 = ps.length) (hE : entry N (.ow (.ins C [] []) :: ts.map Ent.sh) = E)
    (hb : ∃ E', SGs (initS P w K mg base k N (defScope st) C ts) E (defBody st) (.nx E') ∧ E'[0]? = some (.ow (.ins C fs us))) : Inits P w K mg base (k + 1) f fd ps C ts fs us := by
  subst hE
  obtain ⟨E', h1, h2⟩ := hb
  exact fn_ok (N := N) (o := .nx E') F Sc (by rw [List.length_cons, List.length_map]; exact hl) (.nx (fin_init h2)) h1
theorem initErrs_of {X : Addr} (E : List Ent) (F : FunA K "__init__" qual st f fd) (Sc : FnScope N ps (defScope st)) (hl : ts.length + 1 = ps.length) (hE : entry N (.ow (.ins C [] []) :: ts.map Ent.sh) = E)
    (hb : ∃ E', SGs (initS P w K mg base k N (defScope st) C ts) E (defBody st) (.exc X E') ∧ ∃ fs us, E'[0]? = some (.ow (.ins C fs us))) : InitErrs P w K mg base (k + 1) f fd ps C ts X := by
  subst hE
  obtain ⟨E', h1, fs, us, h2⟩ := hb
  exact ⟨_, fn_ok (N := N) (o := .exc X E') F Sc (by rw [List.length_cons, List.length_map]; exact hl) (.exc (fin_init h2)) h1⟩
end
end Cw
end L2

set_option Elab.async false
set_option linter.all false
set_option maxRecDepth 100000
set_option maxHeartbeats 2000000
namespace L2
namespace Cw
open PySem PySem.Spec PyProof.Rows
/-! ### a comprehension, as a value and set to a name -/
structure LcD (S : SS) (E E2 : List Ent) (tg iter elt : Expr) (ifs : List Expr) (scope : Scope) (us : List T) : Prop where
  ex : ∃ (own : List (Str × Nat)) (ts : List T) (E1 : List Ent), BlkOk S.N S.sc scope own ∧ S.N.Nodup ∧ IG S E tg iter ts E1 ∧ NoOw E1 (own.map (·.2)) ∧ LcTurns (S.blk scope) (own.map (·.2)) tg ifs elt E1 ts us E2 ∧ ts.length ≤ 16777216
section
variable {S : SS} {E E2 : List Ent} {tg iter elt c : Expr} {ifs : List Expr} {scope : Scope} {us : List T} {pos px py : Pos} {x y : Str} {i j : Nat}
theorem LcD.eg (d : LcD S E E2 tg iter elt ifs scope us) (hs : ∀ env x, foldedSetIterable iter env x = pure x := by intro _ _; rfl) : EG S E (.ListComp elt [⟨tg, iter, ifs, 0⟩] scope pos) (.lst us) E2 := by
  obtain ⟨own, ts, E1, a, b, c, d, e, f⟩ := d.ex
  exact eg_lc a b c d e f hs
theorem LcD.set {z : Str} {m : Nat} {pz spos : Pos} (d : LcD S E E2 tg iter elt ifs scope us) (so : StoOk S m z) (hyl : S.sc.names.lookup z = some .local) (hk : S.sc.kind = .function) (hl : (pz.line == pos.line) = true)
    (hna : (scope.names.any fun (n, k) => n == z && (k == .local || k == .cell)) = false) (hlen : m < E2.length) (hs : ∀ env x, foldedSetIterable iter env x = pure x := by intro _ _; rfl) : SG S E (.Assign [.Name z pz] (.ListComp elt [⟨tg, iter, ifs, 0⟩] scope pos) spos) (.nx (E2.set m (.sh (.lst us)))) := by
  obtain ⟨own, ts, E1, a, b, c, d, e, f⟩ := d.ex
  exact sg_setLc so hyl hk hl hna a c d e f hlen hs
/-- a name that is a cell -/
theorem sw_cell {elt : Expr} {gs : List Comprehension} {scope : Scope} {p q : Pos} {z : Str} {l : Nat} {env : PySem.Env} (h : env.scope.names.lookup z = some .cell) : swapsWith (.ListComp elt gs scope p) (some (.Name z q)) l env = pure false := by
  have k : env.kindOf z = some .cell := h
  unfold swapsWith
  simp only [k]
  cases env.blockKind == .function <;> rfl
theorem LcD.setC {z : Str} {m : Nat} {pz spos : Pos} (d : LcD S E E2 tg iter elt ifs scope us) (so : StoOk S m z) (hyl : S.sc.names.lookup z = some .cell) (hlen : m < E2.length) (hs : ∀ env x, foldedSetIterable iter env x = pure x := by intro _ _; rfl) : SG S E (.Assign [.Name z pz] (.ListComp elt [⟨tg, iter, ifs, 0⟩] scope pos) spos) (.nx (E2.set m (.sh (.lst us)))) := fun W Z H σ D s k => by
  have a : AG S E2 (.Name z pz) (.lst us) (E2.set m (.sh (.lst us))) [m] := ag_name so hlen
  refine RSt.mk (t := tAsg (R S W _) (gName m)) (fun X hX => ?_) (d.eg (pos := pos) hs W Z H σ _ s fun v H1 Z1 g1 r => ?_)
  · have q := hX.sc
    have pe := hX.pe (.ListComp elt [⟨tg, iter, ifs, 0⟩] scope pos)
    obtain ⟨A, s0, H0, env, outer, stack, ex, pn, xe, rfl⟩ := hX.ex
    exact ps_set so.nd so.hN (by rw [q]; exact so.loc) pe (sw_cell (by rw [q]; exact hyl)) (by rw [q]; exact so.hf)
  · exact k _ _ _ (g1.trans (a.go (σ := σ) (g1.st.set r (by rw [g1.st.len]; exact hlen)) ⟨List.length_set, fun j hj => by rw [List.getElem?_set_ne (by simp at hj; exact fun e => hj e.symm)]⟩))
variable {α β : Type} {toT : α → T} {f : α → T} {xs : List α} {b : α → Bool}
theorem lcN (ok : BlkOk S.N S.sc scope [(x, i)]) (hN : S.N.Nodup) (so : StoOk (S.blk scope) i x) (hl : i < E.length) (no : ∀ t, E[i]? ≠ some (.ow t)) (hz : xs.length ≤ 16777216) (hi : IG S E (.Name x px) iter (xs.map toT) E)
    (he : ∀ a ∈ xs, EG (S.blk scope) (E.set i (.sh (toT a))) elt (f a) (E.set i (.sh (toT a)))) : LcD S E E (.Name x px) iter elt [] scope (xs.map f) := by
  refine ⟨_, _, E, ok, hN, hi, fun k hk t => ?_, LcTurns.mapT fun a ha => ⟨((wipeE E [i]).set i (.sh (toT a))), ((wipeE E [i]).set i (.sh (toT a))), [i], ag_name so (by rw [wipeE_length]; exact hl), fun k hk => hk, ?_, wipeE_set⟩, by rw [List.length_map]; exact hz⟩
  · have e : k = i := by simpa using hk
    subst e; exact no t
  · have e : (wipeE E [i]).set i (.sh (toT a)) = E.set i (.sh (toT a)) := by show (E.set i .no).set i _ = _; rw [List.set_set]
    rw [e]; exact he a ha
theorem lcNF (ok : BlkOk S.N S.sc scope [(x, i)]) (hN : S.N.Nodup) (so : StoOk (S.blk scope) i x) (hl : i < E.length) (no : ∀ t, E[i]? ≠ some (.ow t)) (hz : xs.length ≤ 16777216) (hi : IG S E (.Name x px) iter (xs.map toT) E)
    (hc : ∀ a ∈ xs, TtG (S.blk scope) (E.set i (.sh (toT a))) c (b a) (E.set i (.sh (toT a)))) (he : ∀ a ∈ xs, b a = true → EG (S.blk scope) (E.set i (.sh (toT a))) elt (f a) (E.set i (.sh (toT a)))) : LcD S E E (.Name x px) iter elt [c] scope ((xs.filter b).map f) := by
  have e : ∀ t, (wipeE E [i]).set i (.sh t) = E.set i (.sh t) := fun t => by show (E.set i .no).set i _ = _; rw [List.set_set]
  refine ⟨_, _, E, ok, hN, hi, fun k hk t => ?_, LcTurns.filterT fun a ha => ⟨((wipeE E [i]).set i (.sh (toT a))), ((wipeE E [i]).set i (.sh (toT a))), ((wipeE E [i]).set i (.sh (toT a))), [i], ag_name so (by rw [wipeE_length]; exact hl), fun k hk => hk, ?_, wipeE_set, fun hb => ⟨?_, wipeE_set⟩⟩, by rw [List.length_map]; exact hz⟩
  · have e : k = i := by simpa using hk
    subst e; exact no t
  · rw [e]; exact hc a ha
  · rw [e]; exact he a ha hb
end
end Cw
end L2

set_option Elab.async false
set_option linter.all false
set_option maxRecDepth 100000
set_option maxHeartbeats 2000000
namespace L2
namespace Cw
open PySem PySem.Spec PyProof.Rows
/-! ### a state that goes through the turns -/
def thr {α β σ : Type} (g : σ → α → β × σ) : List α → σ → List β × σ
  | [], s => ([], s)
  | a :: as, s => ((g s a).1 :: (thr g as (g s a).2).1, (thr g as (g s a).2).2)
def thrF {α σ : Type} (g : σ → α → Bool × σ) : List α → σ → List α × σ
  | [], s => ([], s)
  | a :: as, s => ((if (g s a).1 = true then a :: (thrF g as (g s a).2).1 else (thrF g as (g s a).2).1), (thrF g as (g s a).2).2)
section
variable {S : SS} {α β τ : Type} {toT : α → T} {f : β → T} {fa : α → T} {x : Str} {px : Pos} {i : Nat} {iter elt c : Expr} {scope : Scope} {E : List Ent} {Ev : τ → List Ent}
theorem wipe1 {e : List Ent} {t : T} : (wipeE e [i]).set i (.sh t) = e.set i (.sh t) := by show (e.set i .no).set i _ = _; rw [List.set_set]
theorem wipe2 {e : List Ent} {t : T} : wipeE (e.set i (.sh t)) [i] = wipeE e [i] := by show (e.set i _).set i _ = e.set i _; rw [List.set_set]
theorem ag_wipe {e : List Ent} {t : T} {S : SS} (so : StoOk S i x) (hl : i < e.length) : AG S (wipeE e [i]) (.Name x px) t (e.set i (.sh t)) [i] := by
  have h := ag_name (pos := px) (t := t) (E := wipeE e [i]) so (by rw [wipeE_length]; exact hl)
  rw [wipe1] at h
  exact h
theorem LcTurns.thr {g : τ → α → β × τ} (so : StoOk (S.blk scope) i x) (hl : ∀ s, i < (Ev s).length) (fix : ∀ s s', (Ev s)[i]? = (Ev s')[i]?) :
    ∀ {xs : List α} (s : τ), (∀ a ∈ xs, ∀ s, EG (S.blk scope) ((Ev s).set i (.sh (toT a))) elt (f (g s a).1) ((Ev (g s a).2).set i (.sh (toT a)))) → LcTurns (S.blk scope) [i] (.Name x px) [] elt (Ev s) (xs.map toT) ((Cw.thr g xs s).1.map f) (Ev (Cw.thr g xs s).2)
  | [], s, _ => .nil
  | a :: as, s, h => by
    have hf : ∀ j ∈ [i], (Ev (g s a).2)[j]? = (Ev s)[j]? := fun j hj => by
      have e : j = i := by simpa using hj
      subst e; exact fix _ _
    exact .take (ag_wipe so (hl s)) (fun k hk => hk) tgs_nil (h a List.mem_cons_self s) wipe2 hf (LcTurns.thr so hl fix (g s a).2 fun b hb => h b (List.mem_cons_of_mem _ hb))
theorem LcTurns.thrF {g : τ → α → Bool × τ} (so : StoOk (S.blk scope) i x) (hl : ∀ s, i < (Ev s).length) (fix : ∀ s s', (Ev s)[i]? = (Ev s')[i]?) :
    ∀ {xs : List α} (s : τ), (∀ a ∈ xs, ∀ s, TtG (S.blk scope) ((Ev s).set i (.sh (toT a))) c (g s a).1 ((Ev (g s a).2).set i (.sh (toT a)))) → (∀ a ∈ xs, ∀ s, EG (S.blk scope) ((Ev s).set i (.sh (toT a))) elt (fa a) ((Ev s).set i (.sh (toT a)))) →
      LcTurns (S.blk scope) [i] (.Name x px) [c] elt (Ev s) (xs.map toT) ((Cw.thrF g xs s).1.map fa) (Ev (Cw.thrF g xs s).2)
  | [], s, _, _ => .nil
  | a :: as, s, h, he => by
    have hf : ∀ j ∈ [i], (Ev (g s a).2)[j]? = (Ev s)[j]? := fun j hj => by
      have e : j = i := by simpa using hj
      subst e; exact fix _ _
    have r : LcTurns (S.blk scope) [i] (.Name x px) [c] elt (Ev (g s a).2) (as.map toT) ((Cw.thrF g as (g s a).2).1.map fa) (Ev (Cw.thrF g as (g s a).2).2) := LcTurns.thrF so hl fix (g s a).2 (fun b hb => h b (List.mem_cons_of_mem _ hb)) fun b hb => he b (List.mem_cons_of_mem _ hb)
    cases q : (g s a).1 with
    | false =>
      have e1 : Cw.thrF g (a :: as) s = Cw.thrF g as (g s a).2 := by simp [Cw.thrF, q]
      rw [e1]
      exact .skip (ag_wipe so (hl s)) (fun k hk => hk) (tgs_one (b := false) (by rw [← q]; exact h a List.mem_cons_self s)) wipe2 hf r
    | true =>
      have e1 : Cw.thrF g (a :: as) s = (a :: (Cw.thrF g as (g s a).2).1, (Cw.thrF g as (g s a).2).2) := by simp [Cw.thrF, q]
      rw [e1]
      exact .take (ag_wipe so (hl s)) (fun k hk => hk) (tgs_one (b := true) (by rw [← q]; exact h a List.mem_cons_self s)) (he a List.mem_cons_self (g s a).2) wipe2 hf r
theorem lcT {xs : List α} {g : τ → α → β × τ} (s : τ) (ok : BlkOk S.N S.sc scope [(x, i)]) (hN : S.N.Nodup) (so : StoOk (S.blk scope) i x) (hl : ∀ s, i < (Ev s).length) (fix : ∀ s s', (Ev s)[i]? = (Ev s')[i]?) (no : ∀ t, (Ev s)[i]? ≠ some (.ow t)) (hz : xs.length ≤ 16777216) (hi : IG S E (.Name x px) iter (xs.map toT) (Ev s))
    (he : ∀ a ∈ xs, ∀ s, EG (S.blk scope) ((Ev s).set i (.sh (toT a))) elt (f (g s a).1) ((Ev (g s a).2).set i (.sh (toT a)))) : LcD S E (Ev (thr g xs s).2) (.Name x px) iter elt [] scope ((thr g xs s).1.map f) :=
  ⟨_, _, _, ok, hN, hi, fun k hk t => by
    have e : k = i := by simpa using hk
    subst e; exact no t, LcTurns.thr so hl fix s he, by rw [List.length_map]; exact hz⟩
theorem lcTF {xs : List α} {g : τ → α → Bool × τ} (s : τ) (ok : BlkOk S.N S.sc scope [(x, i)]) (hN : S.N.Nodup) (so : StoOk (S.blk scope) i x) (hl : ∀ s, i < (Ev s).length) (fix : ∀ s s', (Ev s)[i]? = (Ev s')[i]?) (no : ∀ t, (Ev s)[i]? ≠ some (.ow t)) (hz : xs.length ≤ 16777216) (hi : IG S E (.Name x px) iter (xs.map toT) (Ev s))
    (hc : ∀ a ∈ xs, ∀ s, TtG (S.blk scope) ((Ev s).set i (.sh (toT a))) c (g s a).1 ((Ev (g s a).2).set i (.sh (toT a)))) (he : ∀ a ∈ xs, ∀ s, EG (S.blk scope) ((Ev s).set i (.sh (toT a))) elt (fa a) ((Ev s).set i (.sh (toT a)))) :
    LcD S E (Ev (thrF g xs s).2) (.Name x px) iter elt [c] scope ((thrF g xs s).1.map fa) :=
  ⟨_, _, _, ok, hN, hi, fun k hk t => by
    have e : k = i := by simpa using hk
    subst e; exact no t, LcTurns.thrF so hl fix s hc he, by rw [List.length_map]; exact hz⟩
end
/-! ### a, b = x, y and a, b, c = x, y, z -/
section
variable {S : SS} {E E1 : List Ent} {i j l : Nat} {x y z : Str} {a b c : Expr} {t u v : T} {px py pz pt pos : Pos} {kt k2 : Nat} {pt2 : Pos}
/-- neither all constants nor starred -/
def plainV (es : List Expr) : Bool := !(es.any fun | .Starred .. => true | _ => false) && !es.all (foldedForSure 8) && !es.all (constantsAlone 8)
theorem skip_if {c : Prop} [Decidable c] {γ : Type _} {p q r : γ} (h : ¬ c) (e : q = r) : (if c then p else q) = r := by rw [if_neg h, e]
theorem swap2 {env : PySem.Env} (hx : env.scope.names.lookup x = some .local) (hy : env.scope.names.lookup y = some .local) (hk : env.scope.kind = .function) (hl : (py.line == px.line) = true) (hne : ([x, y].eraseDups.length != 2) = false) (hp : plainV [a, b] = true) : swappedStores [.Tuple [.Name x px, .Name y py] kt pt] (.Tuple [a, b] k2 pt2) env = pure (some [x, y]) := by
  have kx : env.kindOf x = some .local := hx
  have kindY : env.kindOf y = some .local := hy
  have kb : env.blockKind = .function := by unfold PySem.Env.blockKind; rw [hk]; rfl
  unfold plainV at hp
  simp only [Bool.and_eq_true, Bool.not_eq_true'] at hp
  obtain ⟨⟨p1, p2⟩, p3⟩ := hp
  unfold swappedStores
  have kb2 : (env.blockKind != .function) = false := by rw [kb]; rfl
  have l0 : ((Expr.Name x px).pos.line) = px.line := rfl
  have nm : ∀ g : Expr → Option Str, g (.Name x px) = some x → g (.Name y py) = some y → [Expr.Name x px, Expr.Name y py].filterMap g = [x, y] := fun g h1 h2 => by rw [List.filterMap_cons_some h1, List.filterMap_cons_some h2, List.filterMap_nil]
  have f1 : ∀ n : Str, n = n := fun _ => rfl
  dsimp only
  refine skip_if (by rw [kb2]; simp) (skip_if (fun h => Bool.false_ne_true (p1.symm.trans h)) ?_)
  rw [nm _ (by simp [kx, l0]) (by simp only [kindY]; rw [show (Option.map (fun e : Expr => e.pos.line) [Expr.Name x px, Expr.Name y py].head?).getD 0 = px.line from rfl]; simp [hl])]
  exact skip_if (by rw [show ([x, y].length != [Expr.Name x px, Expr.Name y py].length) = false from rfl, show [x, y].length = 2 from rfl, hne]; decide) (skip_if (by rw [p2]; decide) (skip_if (by rw [p3]; decide) rfl))
theorem swap3 {env : PySem.Env} (hx : env.scope.names.lookup x = some .local) (hy : env.scope.names.lookup y = some .local) (hz : env.scope.names.lookup z = some .local) (hk : env.scope.kind = .function) (hl : (py.line == px.line) = true) (hl2 : (pz.line == px.line) = true) (hne : ([x, y, z].eraseDups.length != 3) = false) (hp : plainV [a, b, c] = true) : swappedStores [.Tuple [.Name x px, .Name y py, .Name z pz] kt pt] (.Tuple [a, b, c] k2 pt2) env = pure (some [x, y, z]) := by
  have kx : env.kindOf x = some .local := hx
  have kindY : env.kindOf y = some .local := hy
  have kz : env.kindOf z = some .local := hz
  have kb : env.blockKind = .function := by unfold PySem.Env.blockKind; rw [hk]; rfl
  unfold plainV at hp
  simp only [Bool.and_eq_true, Bool.not_eq_true'] at hp
  obtain ⟨⟨p1, p2⟩, p3⟩ := hp
  unfold swappedStores
  have kb2 : (env.blockKind != .function) = false := by rw [kb]; rfl
  have l0 : ((Expr.Name x px).pos.line) = px.line := rfl
  have nm : ∀ g : Expr → Option Str, g (.Name x px) = some x → g (.Name y py) = some y → g (.Name z pz) = some z → [Expr.Name x px, Expr.Name y py, Expr.Name z pz].filterMap g = [x, y, z] := fun g h1 h2 h3 => by rw [List.filterMap_cons_some h1, List.filterMap_cons_some h2, List.filterMap_cons_some h3, List.filterMap_nil]
  dsimp only
  refine skip_if (by rw [kb2]; simp) (skip_if (fun h => Bool.false_ne_true (p1.symm.trans h)) ?_)
  have lt : (Option.map (fun e : Expr => e.pos.line) [Expr.Name x px, Expr.Name y py, Expr.Name z pz].head?).getD 0 = px.line := rfl
  rw [nm _ (by simp [kx, l0]) (by simp only [kindY]; rw [lt]; simp [hl]) (by simp only [kz]; rw [lt]; simp [hl2])]
  exact skip_if (by rw [show ([x, y, z].length != [Expr.Name x px, Expr.Name y py, Expr.Name z pz].length) = false from rfl, show [x, y, z].length = 3 from rfl, hne]; decide) (skip_if (by rw [p2]; decide) (skip_if (by rw [p3]; decide) rfl))
/-- a, b = x, y -/
theorem sg_par2 (so1 : StoOk S i x) (so2 : StoOk S j y) (hx : S.sc.names.lookup x = some .local) (hy : S.sc.names.lookup y = some .local) (hk : S.sc.kind = .function) (h : EAs S E [a, b] [t, u] E1) (hi : i < E1.length) (hj : j < E1.length) (hl : (py.line == px.line) = true) (hij : i ≠ j := by decide) (hne : ([x, y].eraseDups.length != 2) = false := by decide) (hp : plainV [a, b] = true := by rfl)
    (hs : ∀ env, swapsWithSole [.Tuple [.Name x px, .Name y py] kt pt] (.Tuple [a, b] k2 pt2) pos.line env = pure false := by intro _; rfl) : SG S E (.Assign [.Tuple [.Name x px, .Name y py] kt pt] (.Tuple [a, b] k2 pt2) pos) (.nx ((E1.set i (.sh t)).set j (.sh u))) :=
  sg_par so1 so2 hij hx hy hk h hi hj fun X hc hN hsc ta ha => ps_par hc (by rw [hN]; exact so1.nd) (by rw [hN]; exact so1.hN) (by rw [hN]; exact so2.hN) hij (by rw [hsc]; exact hx) (by rw [hsc]; exact hy) ha (swap2 (by rw [hsc]; exact hx) (by rw [hsc]; exact hy) (by rw [hsc]; exact hk) hl hne hp) (hs _)
theorem sg_nx {st : Stmt} {E2 : List Ent} (h : SG S E st (.nx E1)) (e : E1 = E2) : SG S E st (.nx E2) := e ▸ h
theorem eg_to {e : Expr} {E2 : List Ent} (h : EG S E e t E1) (q : t = u) (q2 : E1 = E2) : EG S E e u E2 := q ▸ q2 ▸ h
theorem reps_3 {K : PySem.W.Frag} {Z : Hp} {vs : List V} (r : Reps K Z [t, u, v] vs) : ∃ v1 v2 v3, vs = [v1, v2, v3] ∧ Rep K Z t v1 ∧ Rep K Z u v2 ∧ Rep K Z v v3 := by
  obtain ⟨v1, r', rfl, h1, h2⟩ := r.uncons
  obtain ⟨v2, v3, rfl, h3, h4⟩ := reps_two h2
  exact ⟨v1, v2, v3, rfl, h1, h3, h4⟩
/-- a, b, c = x, y, z -/
theorem sg_par3 (so1 : StoOk S i x) (so2 : StoOk S j y) (so3 : StoOk S l z) (hx : S.sc.names.lookup x = some .local) (hy : S.sc.names.lookup y = some .local) (hz : S.sc.names.lookup z = some .local) (hk : S.sc.kind = .function) (h : EAs S E [a, b, c] [t, u, v] E1) (hi : i < E1.length) (hj : j < E1.length) (hl' : l < E1.length) (hl : (py.line == px.line) = true) (hl2 : (pz.line == px.line) = true) (hij : i ≠ j := by decide) (hil : i ≠ l := by decide) (hjl : j ≠ l := by decide) (hne : ([x, y, z].eraseDups.length != 3) = false := by decide) (hp : plainV [a, b, c] = true := by rfl)
    (hs : ∀ env, swapsWithSole [.Tuple [.Name x px, .Name y py, .Name z pz] kt pt] (.Tuple [a, b, c] k2 pt2) pos.line env = pure false := by intro _; rfl) : SG S E (.Assign [.Tuple [.Name x px, .Name y py, .Name z pz] kt pt] (.Tuple [a, b, c] k2 pt2) pos) (.nx (((E1.set i (.sh t)).set j (.sh u)).set l (.sh v))) := fun W Z H σ D s k => by
  refine RSt.mk (t := tPar3 i j l (RA S W [a, b, c])) (fun X hX => ?_) (h W Z H σ _ s fun vs H1 Z1 g1 r => ?_)
  · have pa := hX.pa [a, b, c]
    have hsc := hX.sc
    obtain ⟨A, s0, H0, env, outer, stack, ex, pn, xe, rfl⟩ := hX.ex
    exact ps_par3 rfl so1.nd so1.hN so2.hN so3.hN hij hil hjl (by rw [hsc]; exact hx) (by rw [hsc]; exact hy) (by rw [hsc]; exact hz) pa (swap3 (by rw [hsc]; exact hx) (by rw [hsc]; exact hy) (by rw [hsc]; exact hz) (by rw [hsc]; exact hk) hl hl2 hne hp) (hs _)
  · obtain ⟨v1, v2, v3, rfl, r1, r2, r3⟩ := reps_3 r
    have a1 : AG S E1 (.Name x px) t (E1.set i (.sh t)) [i] := ag_name so1 hi
    have a2 : AG S (E1.set i (.sh t)) (.Name y py) u ((E1.set i (.sh t)).set j (.sh u)) [j] := ag_name so2 (by rw [List.length_set]; exact hj)
    have a3 : AG S ((E1.set i (.sh t)).set j (.sh u)) (.Name z pz) v (((E1.set i (.sh t)).set j (.sh u)).set l (.sh v)) [l] := ag_name so3 (by rw [List.length_set, List.length_set]; exact hl')
    have ne : ∀ {m n : Nat}, m ∉ [n] → n ≠ m := fun h e => h (by rw [e]; exact List.mem_singleton.mpr rfl)
    refine ⟨v1, v2, v3, rfl, ?_⟩
    have s1 := g1.st.set r1 (i := i) (by rw [g1.st.len]; exact hi)
    have s2 := s1.set r2 (i := j) (by rw [List.length_set, g1.st.len]; exact hj)
    have s3 := s2.set r3 (i := l) (by rw [List.length_set, List.length_set, g1.st.len]; exact hl')
    exact k _ _ _ (((g1.trans (a1.go (σ := σ) s1 ⟨List.length_set, fun q hq => List.getElem?_set_ne (ne hq)⟩)).trans (a2.go s2 ⟨List.length_set, fun q hq => List.getElem?_set_ne (ne hq)⟩)).trans (a3.go s3 ⟨List.length_set, fun q hq => List.getElem?_set_ne (ne hq)⟩))
end
end Cw
end L2

set_option Elab.async false
set_option linter.all false
set_option maxRecDepth 100000
set_option maxHeartbeats 2000000
namespace L2
namespace Cw
open PySem PySem.Spec PyProof.Rows
/-! ### a lambda that takes nothing and captures nothing, as a value -/
/-- a code object of the name q -/
def codT (q : Str) : T := .ext (fun a _ _ h => ∃ (oc : Obj) (vs : Array Value) (t : Tok), h.get? a = some oc ∧ oc.data = .fields vs ∧ vs[1]? = some (.str q t)) [] []
def lamP (q : Str) (params : Arguments) (body : Expr) (scope : Scope) (a : Addr) (qs _vs : List V) (h : Heap) : Prop :=
  ∃ (c : Addr) (ct pm : Value), qs = [.ref c] ∧ h.get? a = some (PySem.W.kla_obj "<lambda>" q params body scope [] pm c ct)
def lamT (q : Str) (params : Arguments) (body : Expr) (scope : Scope) : T := .ext (lamP q params body scope) [codT q] []
section
variable {P : Program} {w : World} {K : PySem.W.Frag} {mg : Str → Option Value} {base : Heap} {q : Str} {params : Arguments} {body : Expr} {scope : Scope}
/-- called, its body is read in a frame of its own -/
theorem lam_goes {A : Around} {outer : List PySem.Env} {s : Shared} {H : Hp} {Q : VK} {Ex : XK} {k : Nat} {f c : Addr} {ct pm : Value} {t : TE} (hr : Room (k + 1) A) (e0 : Env0 P w K mg base A outer s H) (Sc : FnScope [] [] scope)
    (ho : s.heap.get? f = some (PySem.W.kla_obj "<lambda>" q params body scope [] pm c ct)) (hc : s.heap.CodeRec (.ref c) q) (hb : bindArgs (PySem.W.kla_fn "<lambda>" q params body scope [] pm (.ref c) ct) ⟨[], []⟩ = pure [])
    (pe : Room k (A.deeper (envOfC q scope s.heap.objs.size f (.ref c))) → PE (cxOf (L2.CX P w) P w K mg base [] q scope f (.ref c) A outer s H Ex) body t) (h : t [] H Q) :
    codeAny (model P w) A (.call (.ref f) ⟨[], []⟩) (CR (L2.CX P w) outer P w H s Q Ex) s := by
  have base0 := fun b o e => (e0.bs b o e).1
  have lim : s.heap.NoLimit := e0.mod.nolimit.keeps base0
  refine PySem.W.kla_callFunE hr.depth ho rfl Sc.co Sc.gen rfl hc ?_
  rw [hb]
  refine wpAny_pure (wpAny_newFunctionEnv_cells Sc.kind (fun y hy => absurd hy List.not_mem_nil) fun env he s1 x => ?_)
  subst he
  have I0 : Inv (cxOf (L2.CX P w) P w K mg base [] q scope f (.ref c) A outer s H Ex) [] (start [] []) H s1 := inv_start (ps := []) (us := []) (vs := []) Sc hr.hd e0 rfl .nil x
  refine And.intro (lim.keeps x.toInCall.keep) (PySem.W.kla_codeExpr (wpAny_mono ((pe (hr.deeper _)).run [] s1 [] H Q I0 h) (fun u s2 z => ?_) fun _ _ z => z))
  obtain ⟨v, H2, I2, rv, z⟩ := z
  exact ⟨v, H2, I2.os, I2.bare, I2.base, I2.hok, rv, z⟩
theorem lam_rep {Z : Hp} {v : V} (h : Rep K Z (lamT q params body scope) v) : ∃ (a c : Addr) (ct pm : Value) (vs : List V), v = .ref a ∧ Rd Z a (.ext (lamP q params body scope a [.ref c] vs)) ∧ Rep K Z (codT q) (.ref c) := by
  simp only [lamT, Rep] at h
  obtain ⟨a, qs, vs, rfl, h1, h2, _⟩ := h
  obtain ⟨v, r, rfl, h3, h4⟩ := h2.uncons
  rw [h4.unnil] at h1
  have h5 := h3
  simp only [codT, Rep] at h5
  obtain ⟨c, _, _, rfl, _⟩ := h5
  exact ⟨a, c, .none, .none, vs, rfl, h1, h3⟩
theorem cod_rep {X : Cx} {pins : List (Addr × Obj)} {σ : St} {Z H : Hp} {s : Shared} {c : Addr} (I : Inv X pins σ H s) (zh : Same Z H) (h : Rep K Z (codT q) (.ref c)) : s.heap.CodeRec (.ref c) q := by
  simp only [codT, Rep] at h
  obtain ⟨a, _, _, e, h1, _⟩ := h
  cases e
  obtain ⟨⟨oc, vs, t, e1, e2, e3⟩, _, _⟩ := (show ObjOk X.prog X.w H s.heap c (.ext _) from rd_of I.hok ((Same.lk zh).rd id h1))
  exact ⟨c, oc, vs, t, rfl, e1, e2, e3⟩
end
section
variable {S : SS} {E : List Ent} {q x : Str} {params : Arguments} {body : Expr} {scope : Scope} {i k : Nat} {t : T} {C : Addr} {p pos : Pos}
theorem st_none {K : PySem.W.Frag} {Z H : Hp} {σ : St} (st : StOk K Z H σ E) : StOk K Z H [] [] := ⟨st.zh, st.nt, rfl, fun j _ h => by simp at h, fun j _ h => by simp at h, fun j _ _ _ _ h => by simp at h⟩
/-- x() where the name x holds such a lambda -/
theorem act_run {W : WX} {X : Cx} {pins : List (Addr × Obj)} {s : Shared} {Z H : Hp} {σ : St} {Q : VK} (v : VarOk S i x) (h : E[i]? = some (.sh (lamT q params body scope))) (Sc : FnScope [] [] scope) (hb : ∀ (c : Addr) (ct pm : Value), bindArgs (PySem.W.kla_fn "<lambda>" q params body scope [] pm (.ref c) ct) ⟨[], []⟩ = pure [])
    (hk : k + 1 ≤ S.k) (st : StOk S.K Z H σ E) (hX : S.Has W X) (I : Inv X pins σ H s) (kr : R (defP S.P S.w S.K S.mg S.base k [] scope) (fun cls d _ H' => W cls d σ H') body [] H Q) :
    wpAny (model X.prog X.w) X.A (eval (.Call (.Name x p) [] [] pos) X.env) (EP X pins σ Q) X.xe s := by
  obtain ⟨u0, e0, r0⟩ := st.sh i _ h
  have hr := hX.room.mono hk
  have hs := hX.sc
  have tk := hX.tk
  obtain ⟨A, s0, H0, env, outer, stack, ex, pn, xe, rfl⟩ := hX.ex
  refine wpAny_Call_Name_kw (thn ((pe_var (pos := p) v.hN (by rw [hs]; exact v.vis) v.h1 v.h2).run pins s σ H (fun u H1 => u = u0 ∧ H1 = H) I ⟨u0, e0, rfl, rfl⟩) fun u s1 z => ?_)
  obtain ⟨u1, H1, I1, ru, rfl, rfl⟩ := z
  obtain ⟨a, c, _, _, vs, rfl, rd, rc⟩ := lam_rep r0
  have eu : u = Value.ref a := ru
  subst eu
  obtain ⟨⟨c', ct, pm, e1, ho⟩, _, _⟩ := (show ObjOk S.P S.w H1 s1.heap a (.ext _) from rd_of I1.hok ((Same.lk st.zh).rd id rd))
  cases e1
  refine PySem.W.callWith_F0 ⟨_, _, _, _, ho⟩ ?_
  refine wpAny_call (codeAny_mono (lam_goes (Ex := fun cls d H' => W cls d σ H') hr I1.env0 Sc ho (cod_rep I1 st.zh rc) (hb c ct pm) (fun hr' => SS.Has.pe (S := defP S.P S.w S.K S.mg S.base k [] scope) (W := fun cls d _ H' => W cls d σ H') ⟨⟨_, _, _, _, _, _, _, _, _, rfl⟩, hr', rfl, takes_of rfl rfl rfl rfl, passes_of rfl⟩ body) kr) fun r s' z => ?_)
  cases r with
  | error e => exact passAt tk σ _ _ _ _ _ I1 z
  | ok fl =>
    cases fl with
    | ret u => exact I1.after z
    | next => exact z.elim
    | brk => exact z.elim
    | cont => exact z.elim
theorem act_back {Z H Z' H' : Hp} {σ : St} (st : StOk S.K Z H σ E) {S' : SS} (g : Go S' [] [] Z H [] [] Z' H') (hK : S'.K = S.K) : Go S E σ Z H E σ Z' H' := by
  have g2 : GoA S.K (([] : List AD).map AD.ent ++ ([] : List T).map Ent.sh) ([] ++ []) Z H [] Z' H' := ⟨g.step, by have := g.st; rw [hK] at this; exact this⟩
  have r1 : AdsOk S.K Z σ ([] : List AD) [] := rfl
  have := call_back (ds := []) (dts := []) (ws := []) st r1 (fun _ _ _ z => by simp at z) List.nodup_nil g2 (fun _ _ _ z => by simp at z)
  simpa [updE] using this
/-- .. gives t -/
theorem eg_act (v : VarOk S i x) (h : E[i]? = some (.sh (lamT q params body scope))) (Sc : FnScope [] [] scope) (hb : ∀ (c : Addr) (ct pm : Value), bindArgs (PySem.W.kla_fn "<lambda>" q params body scope [] pm (.ref c) ct) ⟨[], []⟩ = pure [])
    (hk : k + 1 ≤ S.k) (G : EG (defP S.P S.w S.K S.mg S.base k [] scope) [] body t []) : EG S E (.Call (.Name x p) [] [] pos) t E := fun W Z H σ Q st kq X hX pins s I =>
  act_run v h Sc hb hk st hX I (G _ Z H [] Q (st_none st) fun u H' Z' g r => kq u H' Z' (act_back st g rfl) r)
/-- e raises an error of the class at C, in a frame that passes all on -/
def EXi (S : SS) (E : List Ent) (e : Expr) (C : Addr) (E' : List Ent) : Prop :=
  ∀ (W : XK) (Z H : Hp) (σ : St) (Q : VK), StOk S.K Z H σ E → (∀ H' Z', Go S E σ Z H E' σ Z' H' → W (.ref C) none H') → R S (fun cls d _ H' => W cls d H') e σ H Q
theorem ex_i {e : Expr} {E' : List Ent} (h : EX S E e C E') : EXi S E e C E' := fun W Z H σ Q st k => h _ Z H σ Q st k
/-- .. raises an error of the class at C -/
theorem ex_act (v : VarOk S i x) (h : E[i]? = some (.sh (lamT q params body scope))) (Sc : FnScope [] [] scope) (hb : ∀ (c : Addr) (ct pm : Value), bindArgs (PySem.W.kla_fn "<lambda>" q params body scope [] pm (.ref c) ct) ⟨[], []⟩ = pure [])
    (hk : k + 1 ≤ S.k) (G : EXi (defP S.P S.w S.K S.mg S.base k [] scope) [] body C []) : EX S E (.Call (.Name x p) [] [] pos) C E := fun W Z H σ Q st kq X hX pins s I =>
  act_run v h Sc hb hk st hX I (G (fun cls d H' => W cls d σ H') Z H [] Q (st_none st) fun H' Z' g => kq H' Z' (act_back st g rfl))
theorem make_gone {C0 : Addr} {ts : List T} {Z H Z' H' : Hp} {σ : St} {vs : List V} {y dx : Addr} {as' : List Ent} (st : StOk S.K Z H σ E) (hx : H y = none) (hdx : H dx = none)
    (g : GoA S.K (.ow (.ins C0 [] []) :: ts.map Ent.sh) (V.ref y :: vs) Z (upd (upd H dx (.own y)) y (.ins C0 dx [])) as' Z' H') : ∃ Z3, Go S E σ Z H E σ Z3 H' := by
  obtain ⟨s1, s2⟩ := make_step st hx hdx g
  have sub : ∀ {b u}, (if b = y then none else Z' b) = some u → Z' b = some u := fun {b u} e => by
    split at e
    · cases e
    · exact e
  refine ⟨_, ⟨s1.zz, fun b u e _ => s1.keep b u e id, fun b u e => ?_⟩, ⟨fun b u e => g.st.zh b u (sub e), fun b ps e => g.st.nt b ps (sub e), st.len, fun i t h => ?_, fun i t h => ?_, st.ds⟩, fun _ h => .inl h, fun _ _ => rfl⟩
  · rcases s1.new b u e with z | z | z
    · exact .inl z
    · exact .inr (.inl z)
    · exact z.elim
  · obtain ⟨v, e1, e2⟩ := st.sh i t h
    exact ⟨v, e1, e2.mono s1.zz⟩
  · obtain ⟨a, o2, e1, e2, e3, e4, _⟩ := s2 i t h
    exact ⟨a, o2, e1, e2, e3, e4.mono s1.zz⟩
/-- C(args) where __init__ refuses -/
theorem ex_make {C0 fa : Addr} {fd : FuncData} {ps : List Str} {ts : List T} {E1 : List Ent} {e : Expr} {es : List Expr} (M : Mk S.K C0 fa) (g : GlOk S x) (hm : S.mg x = some (.ref C0)) (hb : Binds S.K fd ps []) (F : InitErrs S.P S.w S.K S.mg S.base k fa fd ps C0 ts C) (hk : k + 1 ≤ S.k) (ha : EAs S E (e :: es) ts E1)
    (he : ∀ env, starEach (e :: es) env = (false, eval e env) :: starEach es env := by intro _; rfl) (hpl : ∀ env, (backTo pos (starEach es env)).any (·.1) = false := by intro _; rfl) : EXi S E (.Call (.Name x p) (e :: es) [] pos) C E1 := fun W Z H σ Q st kq => by
  obtain ⟨as', F⟩ := F
  refine R.mk (t := tMake C0 (spOf S.K (.ow (.ins C0 [] []) :: ts.map Ent.sh) (.exc C as')) [] W (RA S (fun cls d _ H' => W cls d H') (e :: es))) (fun X hX => ?_) (ha _ Z H σ _ st fun vs H1 Z1 g1 r1 y dx hx hdx ne => ?_)
  · have gg := g.at hX
    have pa := hX.pa (e :: es)
    have hr := hX.room.mono hk
    have tk := hX.tk
    obtain ⟨A, s0, H0, env, outer, stack, ex, pn, xe, rfl⟩ := hX.ex
    exact pe_make (CX := L2.CX S.P S.w) M F hr gg hm hb .nil (passes_call tk fun _ _ _ _ h => h) pa g.h1 (he _) (hpl _)
  · rw [List.append_nil]
    refine ⟨Z1, make_st g1.st hx hdx ne r1, fun H2 Z2 g2 => ?_⟩
    obtain ⟨Z3, g3⟩ := make_gone g1.st hx hdx g2
    exact kq H2 Z3 (g1.trans g3)
end
end Cw
end L2

set_option Elab.async false
set_option linter.all false
set_option maxRecDepth 100000
set_option maxHeartbeats 2000000
namespace L2
namespace Cw
open PySem PySem.Spec PyProof.Rows
/-! ### a def that is one try: what was raised, told by a word -/
/-- the clauses: each names a class and gives a word -/
inductive Hds (sc : Scope) (mg : Str → Option Value) : List ExceptHandler → List (Addr × Str) → Prop
  | nil : Hds sc mg [] []
  | cons {x : Str} {C : Addr} {ret : Str} {p1 p2 p3 p4 : Pos} {j : Nat} {hds : List ExceptHandler} {hs : List (Addr × Str)} (g : sc.names.lookup x = some .globalImplicit) (h1 : (x == ("__debug__" : Str)) = false) (hm : mg x = some (.ref C)) (r : Hds sc mg hds hs) :
      Hds sc mg (.ExceptHandler (some (.Name x p1)) none [.Return (some (.Constant (.str ret) j p2)) p3] p4 :: hds) ((C, ret) :: hs)
/-- the first clause that fits an error of the class at C gives the word w -/
inductive Catch (K : PySem.W.Frag) (C : Addr) : List (Addr × Str) → Str → Prop
  | here {D : Addr} {w : Str} {hs : List (Addr × Str)} (h : PySem.W.exmOne K (.ref C) (.ref D) = some true) : Catch K C ((D, w) :: hs) w
  | skip {D : Addr} {w v : Str} {hs : List (Addr × Str)} (h : PySem.W.exmOne K (.ref C) (.ref D) = some false) (r : Catch K C hs w) : Catch K C ((D, v) :: hs) w
def tellW (hs : List (Addr × Str)) : List (Value × (Addr → Value → Option Addr → TS)) := hs.map fun p => (.ref p.1, fun _ _ _ => tRet (tC (.str p.2)))
theorem Hds.ok {X : Cx} {sc : Scope} {mg : Str → Option Value} {hds : List ExceptHandler} {hs : List (Addr × Str)} (h : Hds sc mg hds hs) (hsc : X.env.scope = sc) (hm : X.mg = mg) : HdsOk X hds (tellW hs) := by
  induction h with
  | nil => exact .nil
  | cons g h1 m _ ih => exact .cons ⟨by unfold Gl PySem.Env.kindOf; rw [hsc]; exact g, h1, .inl (by rw [hm]; exact m)⟩ (fun a oe cls d pn _ _ => pss_one (ps_ret pe_str)) ih
theorem Catch.tells {K : PySem.W.Frag} {C : Addr} {hs : List (Addr × Str)} {w : Str} {Wo : WX} {D : Ends} {d : Option Addr} {σ : St} {H : Hp} (c : Catch K C hs w) (h : D.rt (.str w) H) : wMany K Wo D (tellW hs) (.ref C) d σ H := by
  induction c with
  | here e => exact ⟨true, e, fun _ _ _ => h, fun z => absurd z (by decide)⟩
  | skip e _ ih => exact ⟨false, e, fun z => absurd z (by decide), fun _ => ih h⟩
section
variable {P : Program} {w : World} {K : PySem.W.Frag} {mg : Str → Option Value} {base : Heap} {x qual : Str} {st : Stmt} {f : Addr} {fd : FuncData} {N ps : List Str} {k : Nat} {as E1 : List Ent} {hs : List (Addr × Str)} {body : List Stmt} {h₀ : ExceptHandler} {hds : List ExceptHandler} {pos : Pos} {o : Oc} {t : T} {C : Addr} {wd : Str}
/-- what the body leaves is what the def gives -/
inductive Told (K : PySem.W.Frag) (hs : List (Addr × Str)) : Oc → T → Prop
  | ret {t : T} {E1 : List Ent} : Told K hs (.ret t E1) t
  | exc {C : Addr} {wd : Str} {E1 : List Ent} (c : Catch K C hs wd) : Told K hs (.exc C E1) (.str wd)
theorem told_fn {ts : List T} (F : FunA K x qual st f fd) (Sc : FnScope N ps (defScope st)) (hl : ts.length = ps.length) (hb : defBody st = [.Try body (h₀ :: hds) [] [] pos]) (hh : Hds (defScope st) mg (h₀ :: hds) hs) (ho : Told K hs o t)
    (hs' : SGs (defP P w K mg base k N (defScope st)) (entry N (ts.map Ent.sh)) body o) : Gives P w K mg base (k + 1) f fd ps ts t := by
  obtain ⟨_, _, dv, kv, dc, pm, an, code, ct, _, rfl, lk, hcd⟩ := F.ex
  refine fn_of lk hcd Sc (fun vs H Q E h => (spOf_len h).trans (by rw [List.length_map]; exact hl)) (fun A outer s H vs Q Ex hr h => ?_)
  rw [hb]
  obtain ⟨Z, st0, kq⟩ := h
  refine ⟨_, pss_one (ps_try_many (Wout := fun _ _ _ _ => False) rfl rfl takes_none5 (tb := fun W => RSs (defP P w K mg base k N (defScope st)) W body) (fun W pn xe tk po => ⟨fun pins s' σ H' D I q => q _ ⟨⟨_, _, _, _, _, _, _, _, _, rfl⟩, hr, rfl, tk, po⟩ pins s' I⟩) (hh.ok rfl rfl)), ?_⟩
  refine hs' _ Z H (start N vs) _ (entry_st st0).1 ?_
  have fin : ∀ {σ' Z' H' E'}, Go (defP P w K mg base k N (defScope st)) (entry N (ts.map Ent.sh)) (start N vs) Z H E' σ' Z' H' → GoA K (ts.map Ent.sh) vs Z H (ts.map Ent.sh) Z' H' := fun g => exit_st rfl (by rw [pins_sh]) st0 g (.all sh_all)
  cases ho with
  | ret => exact fun v σ' Z' H' g r => kq v H' Z' (fin g) r
  | exc c => exact fun σ' Z' H' g => c.tells (kq (.str _) H' Z' (fin g) (rep_str.mpr rfl))
end
end Cw
end L2

set_option Elab.async false
set_option linter.all false
set_option maxRecDepth 100000
set_option maxHeartbeats 2000000
namespace L2
namespace Cw
open PySem PySem.Spec PyProof.Rows LamX
/-! ### the law's own level: lambdas may be made, so that tables of code are written -/
def RLt (S : SS) (L : Cx → Prop) (W : WX) (st : Stmt) : TS := fun D σ H => ∀ X, S.Has W X → L X → ∀ pins s, Inv X pins σ H s → wpAny (model X.prog X.w) X.A (exec st X.env) (SP X pins D) X.xe s
def RLs (S : SS) (L : Cx → Prop) (W : WX) (sts : List Stmt) : TS := fun D σ H => ∀ X, S.Has W X → L X → ∀ pins s, Inv X pins σ H s → wpAny (model X.prog X.w) X.A (execs sts X.env) (SP X pins D) X.xe s
def Oc.OkL (S : SS) (T : List (Addr × Str)) (Z : Hp) (D : Ends) : Oc → Prop
  | .nx E' => ∀ σ' Z' H', Same Z Z' → StOk S.K Z' H' σ' E' → Tabs T H' → D.nx σ' H'
  | .ret t _ => ∀ v Z' H', Rep S.K Z' t v → Same Z' H' → D.rt v H'
  | .brk E' => ∀ σ' Z' H', Same Z Z' → StOk S.K Z' H' σ' E' → Tabs T H' → D.bk σ' H'
  | .cnt E' => ∀ σ' Z' H', Same Z Z' → StOk S.K Z' H' σ' E' → Tabs T H' → D.ct σ' H'
  | .exc _ _ => False
def LG (S : SS) (L : Cx → Prop) (T : List (Addr × Str)) (E : List Ent) (st : Stmt) (o : Oc) : Prop :=
  ∀ (W : WX) (Z H : Hp) (σ : St) (D : Ends), StOk S.K Z H σ E → Tabs T H → o.OkL S T Z D → RLt S L W st D σ H
def LGs (S : SS) (L : Cx → Prop) (T : List (Addr × Str)) (E : List Ent) (sts : List Stmt) (o : Oc) : Prop :=
  ∀ (W : WX) (Z H : Hp) (σ : St) (D : Ends), StOk S.K Z H σ E → Tabs T H → o.OkL S T Z D → RLs S L W sts D σ H
/-- what is owned is lists -/
def OwL (E : List Ent) : Prop := ∀ (i : Nat) (t : T), E[i]? = some (.ow t) → ∃ ts, t = .lst ts
section
variable {S : SS} {L : Cx → Prop} {T : List (Addr × Str)} {E E1 E2 : List Ent} {o : Oc} {st : Stmt} {sts : List Stmt} {K : PySem.W.Frag} {Z Z' H H' : Hp} {σ σ' : St}
theorem RLt.mk {W : WX} {t : TS} {D : Ends} (h : ∀ X, S.Has W X → L X → PS X st t) (q : t D σ H) : RLt S L W st D σ H := fun X hX hL pins s I => (h X hX hL).run pins s σ H D I q
theorem RLs.mk {W : WX} {t : TS} {D : Ends} (h : ∀ X, S.Has W X → L X → PSs X sts t) (q : t D σ H) : RLs S L W sts D σ H := fun X hX hL pins s I => (h X hX hL).run pins s σ H D I q
theorem RLt.ps {W : WX} {X : Cx} (hX : S.Has W X) (hL : L X) : PS X st (RLt S L W st) := ⟨fun pins s σ H D I q => q X hX hL pins s I⟩
theorem RLs.pss {W : WX} {X : Cx} (hX : S.Has W X) (hL : L X) : PSs X sts (RLs S L W sts) := ⟨fun pins s σ H D I q => q X hX hL pins s I⟩
theorem not_own {b : Addr} {u : HO} (st : StOk K Z H σ E) (ow : OwL E) (h : H b = some u) (hu : ∀ vs, u ≠ .lst vs) : ¬ Own σ E b := fun ⟨i, t, h1, h2⟩ => by
  obtain ⟨a, ob, e1, e2, _, e4⟩ := st.ow i t h1
  rw [h2] at e1
  cases e1
  rw [h] at e2
  cases e2
  obtain ⟨ts, rfl⟩ := ow i t h1
  cases u with
  | lst vs => exact hu vs rfl
  | _ => exact e4
theorem tabs_go (g : Go S E σ Z H E1 σ' Z' H') (st : StOk S.K Z H σ E) (ow : OwL E) (h : Tabs T H) : Tabs T H' := fun p hp => by
  obtain ⟨ps, h1, h2, h3⟩ := h p hp
  refine ⟨ps, g.step.keep _ _ h1 (not_own st ow h1 fun vs z => by cases z), h2, fun pos cv hc => ?_⟩
  obtain ⟨co, is, at_⟩ := h3 pos cv hc
  exact ⟨co, is, g.step.keep _ _ at_ (not_own st ow at_ fun vs z => by cases z)⟩
theorem lg_of (h : SG S E st o) (ow : OwL E) : LG S L T E st o := fun W Z H σ D s tb k => by
  refine fun X hX _ pins s' I => (h W Z H σ D s ?_) X hX pins s' I
  cases o with
  | nx E' => exact fun σ' Z' H' g => k σ' Z' H' g.step.zz g.st (tabs_go g s ow tb)
  | ret t E' => exact fun v σ' Z' H' g r => k v Z' H' r g.st.zh
  | exc C E' => exact k.elim
  | brk E' => exact fun σ' Z' H' g => k σ' Z' H' g.step.zz g.st (tabs_go g s ow tb)
  | cnt E' => exact fun σ' Z' H' g => k σ' Z' H' g.step.zz g.st (tabs_go g s ow tb)
theorem Oc.OkL.up {D : Ends} (e : Same Z Z') (k : o.OkL S T Z D) : o.OkL S T Z' D := by
  cases o with
  | nx E' => exact fun σ' Z1 H' g => k σ' Z1 H' (e.trans g)
  | ret t E' => exact k
  | exc C E' => exact k.elim
  | brk E' => exact fun σ' Z1 H' g => k σ' Z1 H' (e.trans g)
  | cnt E' => exact fun σ' Z1 H' g => k σ' Z1 H' (e.trans g)
theorem lgs_nil : LGs S L T E [] (.nx E) := fun W Z H σ D s tb k => RLs.mk (fun X _ _ => pss_nil) (show tNext D σ H from k σ Z H (Same.refl Z) s tb)
theorem lgs_cons (h1 : LG S L T E st (.nx E1)) (h2 : LGs S L T E1 sts o) : LGs S L T E (st :: sts) o := fun W Z H σ D s tb k =>
  RLs.mk (t := tSeq (RLt S L W st) (RLs S L W sts)) (fun X hX hL => pss_cons (RLt.ps hX hL) (RLs.pss hX hL)) (h1 W Z H σ _ s tb fun σ1 Z1 H1 e st1 tb1 => h2 W Z1 H1 σ1 D st1 tb1 (k.up e))
theorem lgs_stop (h1 : LG S L T E st o) (ho : o.Stops) : LGs S L T E (st :: sts) o := fun W Z H σ D s tb k =>
  RLs.mk (t := tSeq (RLt S L W st) (RLs S L W sts)) (fun X hX hL => pss_cons (RLt.ps hX hL) (RLs.pss hX hL)) (h1 W Z H σ _ s tb (by cases o with
    | nx _ => exact ho.elim
    | ret t E' => exact k
    | exc C E' => exact k.elim
    | brk E' => exact k
    | cnt E' => exact k))
theorem lg_nx (h : LG S L T E st (.nx E1)) (e : E1 = E2) : LG S L T E st (.nx E2) := e ▸ h
theorem lg_if {c : Expr} {a b : List Stmt} {d : Bool} {pos : Pos} (hc : TtG S E c d E1) (ow : OwL E) (ha : d = true → LGs S L T E1 a o) (hb : d = false → LGs S L T E1 b o) : LG S L T E (.If c a b pos) o := fun W Z H σ D s tb k =>
  RLt.mk (t := tIfS (RT S W c) (RLs S L W a) (RLs S L W b)) (fun X hX hL => ps_if (hX.pt c) (RLs.pss hX hL) (RLs.pss hX hL)) (hc W Z H σ _ s fun H1 Z1 g => by
    cases d with
    | true => exact iteT (ha rfl W Z1 H1 σ D g.st (tabs_go g s ow tb) (k.up g.step.zz))
    | false => exact iteF (hb rfl W Z1 H1 σ D g.st (tabs_go g s ow tb) (k.up g.step.zz)))
end
end Cw
end L2

set_option Elab.async false
set_option linter.all false
set_option maxRecDepth 100000
set_option maxHeartbeats 2000000
namespace L2
namespace Cw
open PySem PySem.Spec PyProof.Rows LamX
/-! ### the making of a lambda that captures nothing -/
theorem clo_none {cells : List (Str × Addr)} : ∀ {names : List (Str × NameKind)} {acc : List (Str × Addr)}, (∀ y ∈ names, y.2 ≠ .free) → cloFrom cells names acc = acc
  | [], _, _ => rfl
  | (n, k) :: r, acc, h => by
    have hk : k ≠ .free := h _ List.mem_cons_self
    have ih := clo_none (cells := cells) (names := r) (acc := acc) fun y hy => h y (List.mem_cons_of_mem _ hy)
    cases k <;> first | exact absurd rfl hk | (unfold cloFrom; exact ih)
section
variable {X : Cx} {pins : List (Addr × Obj)} {σ : St} {H : Hp} {s : Shared} {q : Str} {params : Arguments} {body : Expr} {scope : Scope} {pos : Pos} {c P : Addr}
/-- the code object is there already, or it is new and told by the table -/
inductive CodeAt (P : Addr) (q : Str) (H : Hp) (c : Addr) : Hp → Prop
  | old (h : H c = some (CodeO c q)) : CodeAt P q H c H
  | new {ps ps' : Array Value} (hP : H P = some (.tbl ps)) (hc : H c = none) : CodeAt P q H c (upd (upd H P (.tbl ps')) c (CodeO c q))
theorem CodeAt.at {H1 : Hp} {c' : Addr} (h : CodeAt P q H c' H1) : H1 c' = some (CodeO c' q) := by
  cases h with
  | old h => exact h
  | new _ _ => exact upd_same
theorem lam_laid {f c' : Addr} {ct pm : Value} {H1 : Hp} {h' : Heap} {tk : Nat} (I : Inv X pins σ H1 { s with heap := h', toks := tk }) (e : f = h'.objs.size) :
    Inv X pins σ (upd H1 f (.ext (lamP q params body scope f [.ref c'] []))) { s with heap := h'.push (PySem.W.kla_obj "<lambda>" q params body scope [] pm c' ct), toks := tk } := by
  subst e
  have at_ : (h'.push (PySem.W.kla_obj "<lambda>" q params body scope [] pm c' ct)).get? h'.objs.size = some (PySem.W.kla_obj "<lambda>" q params body scope [] pm c' ct) := Heap.get?_push_size _ rfl
  exact I.laid (t' := tk) (fun b o e => Heap.get?_push_of_some _ e) (Nat.le_refl _) ⟨⟨c', ct, pm, rfl, at_⟩, ⟨_, at_⟩, fun h1 h2 ⟨d, x, y, e1, e2⟩ k => ⟨d, x, y, e1, k _ e2⟩⟩
theorem lam_made {Q E : Value → Shared → Prop} (I : Inv X pins σ H s) (TB : TabB X.base X.mg c P) (hcode : X.env.code = .ref c) (hq : X.env.qual ++ "<lambda>" = q) (hT : TabS H P q) (hdef : defaultsOf params X.env = ([], [])) (nf : ∀ y ∈ scope.names, y.2 ≠ .free)
    (h : ∀ (f c' : Addr) (H1 : Hp) (s' : Shared), CodeAt P q H c' H1 → TabS H1 P q → H1 f = none → Inv X pins σ (upd H1 f (.ext (lamP q params body scope f [.ref c'] []))) s' → Q (.ref f) s') : wpAny (model X.prog X.w) X.A (eval (.Lambda params body scope pos) X.env) Q E s := by
  subst hq
  obtain ⟨ps, hP, tri, told⟩ := hT
  have tb := I.hok P _ hP
  have cl : closureFor scope X.env = pure [] := (closure_ok fun y hy z => absurd z (nf y hy)).trans (by rw [clo_none nf])
  have built : s.heap.BuiltinsAt X.mg P := TB.bm.keeps I.bk
  apply PySem.W.kla_eval hdef
  rcases hc : codeAmong pos ps.toList with _ | cv
  · refine PySem.W.kla_makeFunction cl I.ok.glob (I.mod.glob.keeps I.bk) hcode (TB.code.keeps I.bk) tb tri hc TB.gP built fun c' ct h' tk but ge lt rec tab => ?_
    obtain ⟨_, oc, vs, t, e0, rest⟩ := rec
    cases e0
    have fresh : H c' = none := I.hok.fresh ge
    have I1 := inv_table (t' := tk) I hP (fun b o nb e => but b o nb e) tab ge ⟨oc, vs, t, rest⟩
    refine h _ c' _ _ (.new hP fresh) ⟨_, by rw [upd_ne (ne_of_none hP fresh), upd_same], by rw [Array.toList_append]; exact PySem.TriplesOk_snoc _ _ _ _ tri, fun p cv hcv => ?_⟩ (I1.hok.fresh (Nat.le_refl _)) (lam_laid I1 rfl)
    rw [Array.toList_append] at hcv
    rcases among_app _ tri hcv with z | z
    · obtain ⟨c0, e1, e2⟩ := told p cv z
      exact ⟨c0, e1, by rw [upd_ne (ne_of_none e2 fresh), upd_ne (fun z => by rw [z, hP] at e2; cases e2)]; exact e2⟩
    · exact ⟨c', z, upd_same⟩
  · obtain ⟨c', rfl, hco⟩ := told pos cv hc
    refine PySem.W.kla_makeFunctionHit cl I.ok.glob (I.mod.glob.keeps I.bk) hcode (TB.code.keeps I.bk) tb tri hc built fun ct h' tk all ge => ?_
    have I1 : Inv X pins σ H { s with heap := h', toks := tk } := I.kept all
    exact h _ c' H _ (.old hco) ⟨ps, hP, tri, told⟩ (I1.hok.fresh (Nat.le_refl _)) (lam_laid I1 rfl)
end
end Cw
end L2

set_option Elab.async false
set_option linter.all false
set_option maxRecDepth 100000
set_option maxHeartbeats 2000000
namespace L2
namespace Cw
open PySem PySem.Spec PyProof.Rows LamX
/-- what is known of the law's frame: its code object, its name -/
def LawF (c : Addr) (q : Str) (X : Cx) : Prop := X.env.code = .ref c ∧ X.env.qual ++ "<lambda>" = q
def RLe (S : SS) (L : Cx → Prop) (W : WX) (e : Expr) : TE := fun σ H Q => ∀ X, S.Has W X → L X → ∀ pins s, Inv X pins σ H s → wpAny (model X.prog X.w) X.A (eval e X.env) (EP X pins σ Q) X.xe s
def RLa (S : SS) (L : Cx → Prop) (W : WX) (es : List Expr) : TA := fun σ H Q => ∀ X, S.Has W X → L X → ∀ pos pins s, Inv X pins σ H s → wpAny (model X.prog X.w) X.A (spliced (backTo pos (starEach es X.env))) (AP X pins σ Q) X.xe s
def EL (S : SS) (L : Cx → Prop) (Tb : List (Addr × Str)) (E : List Ent) (e : Expr) (t : T) (E' : List Ent) : Prop :=
  ∀ (W : WX) (Z H : Hp) (σ : St) (Q : VK), StOk S.K Z H σ E → Tabs Tb H → (∀ v H' Z', Same Z Z' → StOk S.K Z' H' σ E' → Tabs Tb H' → Rep S.K Z' t v → Q v H') → RLe S L W e σ H Q
def ELs (S : SS) (L : Cx → Prop) (Tb : List (Addr × Str)) (E : List Ent) (es : List Expr) (ts : List T) (E' : List Ent) : Prop :=
  ∀ (W : WX) (Z H : Hp) (σ : St) (Q : List V → Hp → Prop), StOk S.K Z H σ E → Tabs Tb H → (∀ vs H' Z', Same Z Z' → StOk S.K Z' H' σ E' → Tabs Tb H' → Reps S.K Z' ts vs → Q vs H') → RLa S L W es σ H Q
section
variable {S : SS} {L : Cx → Prop} {Tb : List (Addr × Str)} {E E1 E2 : List Ent} {o : Oc} {st : Stmt} {sts : List Stmt} {K : PySem.W.Frag} {Z Z' H H' : Hp} {σ σ' : St} {e : Expr} {es : List Expr} {t : T} {ts : List T}
theorem RLe.pe {W : WX} {X : Cx} (hX : S.Has W X) (hL : L X) : PE X e (RLe S L W e) := ⟨fun pins s σ H Q I q => q X hX hL pins s I⟩
theorem RLa.pa {W : WX} {X : Cx} (hX : S.Has W X) (hL : L X) : PA X es (RLa S L W es) := ⟨fun pos pins s σ H Q I q => q X hX hL pos pins s I⟩
theorem RLe.mk {W : WX} {w : TE} {Q : VK} (h : ∀ X, S.Has W X → L X → PE X e w) (q : w σ H Q) : RLe S L W e σ H Q := fun X hX hL pins s I => (h X hX hL).run pins s σ H Q I q
theorem RLa.mk {W : WX} {w : TA} {Q : List V → Hp → Prop} (h : ∀ X, S.Has W X → L X → PA X es w) (q : w σ H Q) : RLa S L W es σ H Q := fun X hX hL pos pins s I => (h X hX hL).run pos pins s σ H Q I q
theorem el_of (h : EG S E e t E1) (ow : OwL E) : EL S L Tb E e t E1 := fun W Z H σ Q s tb k X hX _ pins s' I => h W Z H σ Q s (fun v H' Z' g r => k v H' Z' g.step.zz g.st (tabs_go g s ow tb) r) X hX pins s' I
theorem els_nil : ELs S L Tb E [] [] E := fun W Z H σ Q s tb k => RLa.mk (fun X _ _ => pa_nil) (show tNil σ H Q from k _ H Z (Same.refl Z) s tb .nil)
theorem els_cons (ha : EL S L Tb E e t E1) (hb : ELs S L Tb E1 es ts E2) (hs : ∀ env, starEach (e :: es) env = (false, eval e env) :: starEach es env := by intro _; rfl) : ELs S L Tb E (e :: es) (t :: ts) E2 := fun W Z H σ Q s tb k =>
  RLa.mk (w := tCons (RLe S L W e) (RLa S L W es)) (fun X hX hL => pa_cons (RLe.pe hX hL) (RLa.pa hX hL) (hs _)) (ha W Z H σ _ s tb fun v H1 Z1 z1 s1 t1 r1 => hb W Z1 H1 σ _ s1 t1 fun vs H2 Z2 z2 s2 t2 r2 => k _ H2 Z2 (z1.trans z2) s2 t2 (.cons (r1.mono z2) r2))
theorem st_more {p : Addr} {u : HO} (st : StOk K Z H σ E) (ow : OwL E) (h : H p = some u) (hu : ∀ vs, u ≠ .lst vs) (hn : ∀ ps, u ≠ .tbl ps) : StOk K (upd Z p u) H σ E ∧ Same Z (upd Z p u) := by
  have zz : Same Z (upd Z p u) := fun b v e => by
    by_cases hb : b = p
    · subst hb; rw [upd_same, ← h]; exact st.zh _ _ e
    · rw [upd_ne hb]; exact e
  refine ⟨⟨fun b v e => ?_, fun b ps e => ?_, st.len, fun i t e => ?_, fun i t e => ?_, st.ds⟩, zz⟩
  · by_cases hb : b = p
    · subst hb; rw [upd_same] at e; rw [h]; exact e
    · rw [upd_ne hb] at e; exact st.zh _ _ e
  · by_cases hb : b = p
    · subst hb; rw [upd_same] at e; cases e; exact hn ps rfl
    · rw [upd_ne hb] at e; exact st.nt _ _ e
  · obtain ⟨v, e1, r⟩ := st.sh i t e
    exact ⟨v, e1, r.mono zz⟩
  · obtain ⟨a, ob, e1, e2, e3, e4⟩ := st.ow i t e
    have hne : a ≠ p := fun z => by
      subst z
      exact not_own st ow h hu ⟨i, t, e, e1⟩
    exact ⟨a, ob, e1, e2, by rw [upd_ne hne]; exact e3, e4.mono zz⟩
theorem st_code {P c : Addr} {q : Str} {H1 : Hp} (st : StOk K Z H σ E) (ow : OwL E) (h : CodeAt P q H c H1) : ∃ Z1, StOk K Z1 H1 σ E ∧ Same Z Z1 ∧ Z1 c = some (CodeO c q) := by
  have cl : ∀ vs, CodeO c q ≠ .lst vs := fun vs z => by cases z
  have ct : ∀ ps, CodeO c q ≠ .tbl ps := fun ps z => by cases z
  cases h with
  | old h =>
    obtain ⟨a, b⟩ := st_more st ow h cl ct
    exact ⟨_, a, b, upd_same⟩
  | @new ps ps' hP hc =>
    have keep : ∀ b u, H b = some u → b ≠ P → upd (upd H P (.tbl ps')) c (CodeO c q) b = some u := fun b u e hb => by rw [upd_ne (ne_of_none e hc), upd_ne hb]; exact e
    have st1 : StOk K Z (upd (upd H P (.tbl ps')) c (CodeO c q)) σ E := by
      refine ⟨fun b u e => keep b u (st.zh _ _ e) fun z => ?_, st.nt, st.len, st.sh, fun i t e => ?_, st.ds⟩
      · subst z
        have := st.zh _ _ e
        rw [hP] at this
        cases this
        exact st.nt _ _ e
      · obtain ⟨a, ob, e1, e2, e3, e4⟩ := st.ow i t e
        exact ⟨a, ob, e1, keep a ob e2 fun z => by subst z; exact not_own st ow hP (fun vs z => by cases z) ⟨i, t, e, e1⟩, e3, e4⟩
    obtain ⟨a, b⟩ := st_more st1 ow (p := c) (u := CodeO c q) upd_same cl ct
    exact ⟨_, a, b, upd_same⟩
theorem el_tup {pos : Pos} {j : Nat} (h : ELs S L Tb E es ts E1) (hl : ts.length ≤ 16777216) : EL S L Tb E (.Tuple es j pos) (.tup ts) E1 := fun W Z H σ Q s tb k =>
  RLe.mk (w := tTup (RLa S L W es)) (fun X hX hL => pe_tup (RLa.pa hX hL)) (h W Z H σ _ s tb fun vs H1 Z1 z1 s1 t1 r1 => by
    refine ⟨by rw [r1.length, sizeLine_eq]; exact hl, fun p hp => ?_⟩
    obtain ⟨g, r⟩ := Go.tup (S := S) (E := E1) (P := fun _ => none) s1 r1 hp
    exact k _ _ _ (z1.trans g.step.zz) g.st (t1.ext fun b u e => by rw [upd_ne (ne_of_none e hp)]; exact e) r)
theorem el_lst {pos : Pos} (h : ELs S L Tb E es ts E1) (hl : ts.length ≤ 16777216) : EL S L Tb E (.List es pos) (.lst ts) E1 := fun W Z H σ Q s tb k =>
  RLe.mk (w := tLst (RLa S L W es)) (fun X hX hL => pe_lst (RLa.pa hX hL)) (h W Z H σ _ s tb fun vs H1 Z1 z1 s1 t1 r1 => by
    refine ⟨by rw [r1.length, sizeLine_eq]; exact hl, fun p hp => ?_⟩
    obtain ⟨g, r⟩ := Go.lst (S := S) (E := E1) s1 r1 hp
    exact k _ _ _ (z1.trans g.step.zz) g.st (t1.ext fun b u e => by rw [upd_ne (ne_of_none e hp)]; exact e) r)
/-- x = e -/
theorem lg_set {i : Nat} {x : Str} {pos pos' : Pos} (so : StoOk S i x) (h : EL S L Tb E e t E1) (hi : i < E1.length) (hs : ∀ env, swapsWith e (some (.Name x pos')) pos.line env = pure false := by intro _; rfl) : LG S L Tb E (.Assign [.Name x pos'] e pos) (.nx (E1.set i (.sh t))) := fun W Z H σ D s tb k => by
  refine RLt.mk (t := tAsg (RLe S L W e) (gName i)) (fun X hX hL => ?_) (h W Z H σ _ s tb fun v H1 Z1 z1 s1 t1 r1 => k _ Z1 H1 z1 (s1.set r1 (by rw [s1.len]; exact hi)) t1)
  have q := hX.sc
  have pe := RLe.pe (S := S) (L := L) (W := W) (e := e) hX hL
  obtain ⟨A, s0, H0, env, outer, stack, ex, pn, xe, rfl⟩ := hX.ex
  exact ps_set so.nd so.hN (by rw [q]; exact so.loc) pe (hs _) (by rw [q]; exact so.hf)
/-- a lambda that captures nothing -/
theorem el_lam {c P : Addr} {q : Str} {params : Arguments} {body : Expr} {scope : Scope} {pos : Pos} (TB : TabB S.base S.mg c P) (ow : OwL E) (hdef : ∀ env, defaultsOf params env = ([], [])) (nf : ∀ y ∈ scope.names, y.2 ≠ .free) : EL S (LawF c q) [(P, q)] E (.Lambda params body scope pos) (lamT q params body scope) E := fun W Z H σ Q st tb k X hX hL pins s I => by
  obtain ⟨hc, hq⟩ := hL
  have tb' := tb _ (List.mem_singleton.mpr rfl)
  have TB' : TabB X.base X.mg c P := by
    obtain ⟨A, s0, H0, env, outer, stack, ex, pn, xe, rfl⟩ := hX.ex
    exact TB
  refine lam_made I TB' hc hq tb' (hdef _) nf fun f c' H1 s' ca tb1 hf I1 => ?_
  obtain ⟨Z1, s1, z1, e1⟩ := st_code st ow ca
  have g := Go.alloc (S := S) (E := E) s1 (p := f) (o := .ext (lamP q params body scope f [.ref c'] [])) hf (by intro ps z; cases z)
  refine ⟨.ref f, _, I1, rfl, k (.ref f) _ _ (z1.trans g.step.zz) g.st (fun p hp => ?_) ?_⟩
  · cases List.mem_singleton.mp hp
    exact tb1.ext fun b u e => by rw [upd_ne (ne_of_none e hf)]; exact e
  · simp only [lamT, Rep]
    refine ⟨f, [.ref c'], [], rfl, .inl upd_same, .cons ?_ .nil, .nil⟩
    simp only [codT, Rep]
    exact ⟨c', [], [], rfl, .inl (g.step.zz _ _ e1), .nil, .nil⟩
end
end Cw
end L2

set_option Elab.async false
set_option linter.all false
set_option maxRecDepth 100000
set_option maxHeartbeats 2000000
namespace L2
namespace Cw
open PySem PySem.Spec PyProof.Rows LamX
/-! ### for x in [a new list of ints]: the list becomes the body's own -/
theorem ow_one {n i : Nat} {ns : List Int} : OwL ((List.replicate n Ent.no).set i (.ow (.lst (ns.map T.int)))) := fun j t h => by
  by_cases hj : i = j
  · subst hj
    by_cases hi : i < n
    · rw [List.getElem?_set_self (by simpa using hi)] at h; cases h; exact ⟨_, rfl⟩
    · rw [List.getElem?_eq_none (by simp; omega)] at h; cases h
  · rw [List.getElem?_set_ne hj, List.getElem?_replicate] at h
    split at h <;> cases h
section
variable {S : SS} {L : Cx → Prop} {Tb : List (Addr × Str)} {E E1 E2 E3 : List Ent} {x : Str} {i n : Nat} {e : Expr} {body rest : List Stmt} {ns : List Int} {t : T} {px pos : Pos}
theorem rep_lst1 {K : PySem.W.Frag} {Z : Hp} {v : V} (r : Rep K Z (.lst [.lst (ns.map T.int)]) v) : ∃ (a d : Addr) (us : List V), v = .ref a ∧ Z a = some (.lst [.ref d]) ∧ Z d = some (.lst us) ∧ Reps K Z (ns.map T.int) us ∧ a ≠ d := by
  obtain ⟨a, vs, rfl, h1, h2⟩ := rep_lst.mp r
  obtain ⟨u, r2, rfl, h3, h4⟩ := h2.uncons
  rw [h4.unnil] at h1
  obtain ⟨d, us, rfl, h5, h6⟩ := rep_lst.mp h3
  refine ⟨a, d, us, rfl, h1, h5, h6, fun z => ?_⟩
  subst z
  rw [h1] at h5
  cases h5
  cases ns with
  | nil => have := h6.length; simp at this
  | cons m ms =>
    obtain ⟨v, _, e, h7, _⟩ := h6.uncons
    cases e
    cases rep_int.mp h7
theorem reps_ints {K : PySem.W.Frag} {Z Z' : Hp} : ∀ {ns : List Int} {us : List V}, Reps K Z (ns.map T.int) us → Reps K Z' (ns.map T.int) us
  | [], us, h => by rw [h.unnil]; exact .nil
  | m :: ms, us, h => by
    obtain ⟨v, r, rfl, h1, h2⟩ := h.uncons
    exact .cons (rep_int.mpr (rep_int.mp h1)) (reps_ints h2)
theorem st_own {K : PySem.W.Frag} {Z H : Hp} {σ : St} {d : Addr} {us : List V} (zh : Same Z H) (nt : ∀ b ps, Z b ≠ some (.tbl ps)) (hn : σ.length = n) (hi : i < n) (hd : H d = some (.lst us)) (hz : Z d = none) (hr : Reps K Z (ns.map T.int) us) :
    StOk K Z H (σ.set i (some (.ref d))) ((List.replicate n Ent.no).set i (.ow (.lst (ns.map T.int)))) := by
  have out : ∀ {j : Nat} {u : Ent}, ((List.replicate n Ent.no).set i (.ow (.lst (ns.map T.int))))[j]? = some u → u ≠ .no → j = i ∧ u = .ow (.lst (ns.map T.int)) := fun {j u} h hu => by
    by_cases hj : i = j
    · subst hj
      rw [List.getElem?_set_self (by simpa using hi)] at h
      exact ⟨rfl, (Option.some.inj h).symm⟩
    · rw [List.getElem?_set_ne hj, List.getElem?_replicate] at h
      split at h
      · exact absurd (Option.some.inj h).symm hu
      · cases h
  refine ⟨zh, nt, by simp [hn], fun j t h => ?_, fun j t h => ?_, fun j l a t u h1 h2 _ _ => ?_⟩
  · have := (out h (by intro z; cases z)).2
    cases this
  · obtain ⟨rfl, e⟩ := out h (by intro z; cases z)
    cases e
    exact ⟨d, _, List.getElem?_set_self (by rw [hn]; exact hi), hd, hz, hr⟩
  · rw [(out h1 (by intro z; cases z)).1, (out h2 (by intro z; cases z)).1]
theorem lgs_forOwn (he : EG S E e (.lst [.lst (ns.map T.int)]) E1) (ow : OwL E) (hE : E.length = n) (so : StoOk S i x) (hi : i < n) (hb : LGs S L Tb ((List.replicate n Ent.no).set i (.ow (.lst (ns.map T.int)))) body (.nx E2)) (hr : LGs S L Tb E2 rest (.ret t E3))
    (hs : ∀ env x, foldedSetIterable e env x = pure x := by intro _ _; rfl) : LGs S L Tb E (.For (.Name x px) e body [] pos :: rest) (.ret t E3) := fun W Z H σ D s tb k => by
  refine RLs.mk (t := tSeq (tFor (iList S.K (R S W e)) (gName i) (RLs S L W body)) (RLs S L W rest)) (fun X hX hL => pss_cons (ps_for hX.po ?_ (by rw [← hX.kk]; exact pi_list (hX.pe e)) ?_ (RLs.pss hX hL) (hs _)) (RLs.pss hX hL)) ?_
  · exact hX.calm
  · have q := hX.sc
    obtain ⟨A, s0, H0, env, outer, stack, ex, pn, xe, rfl⟩ := hX.ex
    exact pg_name so.nd so.hN (by rw [q]; exact so.loc) (by rw [q]; exact so.hf)
  refine he W Z H σ _ s fun v H1 Z1 g r => ?_
  obtain ⟨a, d, us, rfl, h1, h2, h3, ne⟩ := rep_lst1 r
  have k1 := g.st.zh _ _ h1
  have k2 := g.st.zh _ _ h2
  have len : σ.length = n := by rw [s.len, hE]
  have za : ∀ {b : Addr} {u : HO}, upd (fun _ => none) a (HO.lst [V.ref d]) b = some u → b = a ∧ u = .lst [.ref d] := fun {b u} z => by
    by_cases hb : b = a
    · subst hb; rw [upd_same] at z; exact ⟨rfl, (Option.some.inj z).symm⟩
    · rw [upd_ne hb] at z; cases z
  refine ⟨a, rfl, ⟨_, .inl (.inl k1)⟩, for_it (walk_list (xs := [V.ref d])) (fun m σ2 H2 => (m = 0 ∧ σ2 = σ ∧ H2 = H1) ∨ (m = 1 ∧ ∃ Z2, Same (upd (fun _ => none) a (HO.lst [V.ref d])) Z2 ∧ StOk S.K Z2 H2 σ2 E2 ∧ Tabs Tb H2)) (.inl ⟨rfl, rfl, rfl⟩) ?_ ?_ ?_⟩
  · rintro m σ2 H2 _ (⟨_, _, rfl⟩ | ⟨_, Z2, z, st, _⟩)
    · exact .inl (.inl k1)
    · exact .inl (.inl (st.zh _ _ (z a _ upd_same)))
  · rintro m y σ2 H2 H3 hm (⟨rfl, rfl, rfl⟩ | ⟨rfl, _⟩) hy
    · obtain ⟨rfl, e1⟩ := hy
      cases e1
      refine hb W _ H3 _ _ (st_own (Z := upd (fun _ => none) a (HO.lst [V.ref d])) (fun b u z => by obtain ⟨rfl, rfl⟩ := za z; exact k1) (fun b ps z => by cases (za z).2) len hi k2 (by rw [upd_ne (fun z => ne z.symm)]) (reps_ints h3)) (tabs_go g s ow tb) ?_
      exact fun σ' Z' H' z st tb' => .inr ⟨rfl, Z', z, st, tb'⟩
    · simp at hm
  · rintro σ2 H2 (⟨z, _⟩ | ⟨_, Z2, _, st, tb'⟩)
    · simp at z
    · exact hr W Z2 H2 σ2 D st tb' k
end
end Cw
end L2

set_option Elab.async false
set_option linter.all false
set_option maxRecDepth 100000
set_option maxHeartbeats 2000000
namespace L2
namespace Cw
open PySem PySem.Spec PyProof.Rows LamX
/-! ### a lambda that captures, handed to the def that tells what it raised -/
def TTell (K : PySem.W.Frag) (hs : List (Addr × Str)) : (XK → Hp → VK → Prop) → Hp → VK → Prop := fun tl H Q => tl (fun cls _ H' => ∃ C wd, cls = .ref C ∧ Catch K C hs wd ∧ Q (.str wd) H') H Q
def tTell (f c : Addr) (q : Str) (tl : XK → Hp → VK → Prop) (W : WX) : TS := fun D σ H =>
  ∃ Ek : XK, (∀ cls d σ' H', Ek cls d H' → W cls d σ' H') ∧ (σ[0]? = some (some (.ref f)) ∧ H c = some (CodeO c q) ∧ tl Ek H D.rt)
section
variable {X : Cx} {Ng : List Str} {x a q : Str} {sg : Scope} {g : Addr} {cdg : Value} {hs : List (Addr × Str)} {h₀ : ExceptHandler} {hds : List ExceptHandler} {p1 p2 p3 pos : Pos}
theorem tell_gives (hh : Hds sg X.mg (h₀ :: hds) hs) (h0 : ∀ f : Addr, (start Ng [V.ref f])[0]? = some (some (V.ref f))) :
    GivesTo X Ng x sg g cdg [.Try [.Return (some (.Call (.Name a p1) [] [] p2)) p3] (h₀ :: hds) [] [] pos] a q (TTell X.K hs) := fun f c s H Q tl act hc h => by
  refine ⟨_, pss_one (ps_try_many (Wout := fun _ _ _ _ => False) rfl rfl takes_none5 (tb := tTell f c q tl) (fun W pn xe tk _ => pss_one ⟨fun pins s' σ H' D I z => ?_⟩) (hh.ok rfl rfl)), _, ?_, h0 f, hc, h⟩
  · obtain ⟨Ek, hW, z⟩ := z
    exact (ps_ret (act W pn xe Ek p1 p2 tk hW)).run pins s' σ H' D I z
  · rintro cls d σ' H' ⟨C, wd, rfl, ct, z⟩
    exact ct.tells z
end
section
variable {S : SS} {E : List Ent} {c P g : Addr} {q x a : Str} {fd : FuncData} {st : Stmt} {Ng : List Str} {k : Nat} {params : Arguments} {body : Expr} {scope : Scope} {hs : List (Addr × Str)} {h₀ : ExceptHandler} {hds : List ExceptHandler} {t : T} {o : Oc} {p1 p2 p3 p4 p lpos pos : Pos}
theorem st_extN {K : PySem.W.Frag} {Z H H1 : Hp} {σ : St} (s : StOk K Z H σ E) (ow : OwL E) (e : ExtN H H1) : StOk K Z H1 σ E := by
  refine ⟨fun b u z => e b u (s.zh b u z) fun ps y => ?_, s.nt, s.len, s.sh, fun i t h => ?_, s.ds⟩
  · subst y; exact s.nt _ _ z
  · obtain ⟨b, ob, e1, e2, e3, e4⟩ := s.ow i t h
    exact ⟨b, ob, e1, e b ob e2 fun ps y => by subst y; exact e4.notbl ps rfl, e3, e4⟩
/-- the frame of a lambda made in the frame of S -/
abbrev lamS (S : SS) (k : Nat) (scope : Scope) : SS := ⟨S.P, S.w, S.K, S.mg, S.base, k, S.N, scope, fun _ => false, []⟩
/-- what the lambda's body leaves -/
inductive LamB (S : SS) (k : Nat) (scope : Scope) (E : List Ent) (body : Expr) (hs : List (Addr × Str)) : T → Prop
  | ret {t : T} (h : EG (lamS S k scope) E body t E) : LamB S k scope E body hs t
  | exc {C : Addr} {wd : Str} (h : EXi (lamS S k scope) E body C E) (ct : Catch S.K C hs wd) : LamB S k scope E body hs (.str wd)
theorem el_told (F : FunA S.K x x st g fd) (gl : GlOk S x) (hm : S.mg x = some (.ref g)) (hb : Binds S.K fd [a] []) (Sg : FnScope Ng [a] (defScope st)) (hN : Ng[0]? = some a) (hv : Vis (defScope st) a) (hbd : defBody st = [.Try [.Return (some (.Call (.Name a p1) [] [] p2)) p3] (h₀ :: hds) [] [] p4]) (hh : Hds (defScope st) S.mg (h₀ :: hds) hs)
    (TB : TabB S.base S.mg c P) (hk : k + 2 ≤ S.k) (La : LamS S.sc scope) (hdef : ∀ env, defaultsOf params env = ([], [])) (hbind : ∀ (q : Str) (cl : List (Str × Addr)) (pm cv ctv : Value), bindArgs (PySem.W.kla_fn "<lambda>" q params body scope cl pm cv ctv) ⟨[], []⟩ = pure []) (ow : OwL E) (hB : LamB S k scope E body hs t)
    (hd : (a == ("__debug__" : Str)) = false := by decide) (hcd : (a == ("__classdict__" : Str)) = false := by decide) (hst : ∀ f : Addr, (start Ng [V.ref f])[0]? = some (some (V.ref f)) := by intro _; rfl) : EL S (LawF c q) [(P, q)] E (.Call (.Name x p) [.Lambda params body scope lpos] [] pos) t E := fun W Z H σ Q s tb kq => by
  refine RLe.mk (w := tLam [(P, q)] (TTell S.K hs) fun Ex => R (lamS S k scope) (fun cls d _ H' => Ex cls d H') body) (fun X hX hL => ?_) ⟨tb, fun H1 e1 tb1 => ?_⟩
  · obtain ⟨hc, rfl⟩ := hL
    obtain ⟨oc, od, dV, kV, doc, pm, an, cdv, ct, osl, rfl, lk, hcg⟩ := F.ex
    have gg := gl.at hX
    have hr := hX.room.mono hk
    have hsc := hX.sc
    obtain ⟨A, s0, H0, env, outer, stack, ex, pn, xe, rfl⟩ := hX.ex
    have hsc : env.scope = S.sc := hsc
    have La' : LamS env.scope scope := by rw [hsc]; exact La
    rw [hbd] at lk hb
    refine pe_lamcall gg hm F.kp lk hcg hb Sg hN hv (tell_gives hh hst) TB hc (List.mem_singleton.mpr rfl) (fun p hp _ => by cases List.mem_singleton.mp hp; rfl) hr La' (hdef _) hbind (fun A outer s H Ex f c' hr2 => ?_) gl.h1 hd hcd
    exact SS.Has.pe (S := lamS S k scope) (W := fun cls d _ H' => Ex cls d H') ⟨⟨_, _, _, _, _, _, _, _, _, rfl⟩, hr2, rfl, takes_of rfl rfl rfl rfl, passes_of rfl⟩ body
  · have s1 := st_extN s ow e1
    cases hB with
    | ret h => exact h _ Z H1 σ Q s1 fun v H' Z' g r => kq v H' Z' g.step.zz g.st (tabs_go (S := lamS S k scope) g s1 ow tb1) r
    | exc h ct => exact h (fun cls _ H' => ∃ C wd, cls = .ref C ∧ Catch S.K C hs wd ∧ Q (.str wd) H') Z H1 σ Q s1 fun H' Z' g => ⟨_, _, rfl, ct, kq (.str _) H' Z' g.step.zz g.st (tabs_go (S := lamS S k scope) g s1 ow tb1) (rep_str.mpr rfl)⟩
end
end Cw
end L2

set_option Elab.async false
set_option linter.all false
set_option maxRecDepth 100000
set_option maxHeartbeats 2000000
namespace L2
namespace Cw
open PySem PySem.Spec PyProof.Rows
section
variable {S : SS} {E E1 E2 : List Ent} {a b c e : Expr} {i j k : Int} {ts : List T} {m n : Option Int} {pos p2 : Pos}
theorem eg_pow (ha : EG S E a (.int i) E1) (hb : EG S E1 b (.int j) E2) (h : CPow i j) : EG S E (.BinOp a .Pow b pos) (.int (i ^ j.toNat)) E2 := eg_op (fun _ _ _ => op_pow) (opg_rI h fun _ => rep_int.mpr rfl) ha hb
/-- a slice of what was handed in -/
theorem eg_sliceS {lo hi : Option Expr} (ha : EG S E a (.slst ts) E) (hl : PaG S E lo m) (hh : PaG S E hi n) : EG S E (.Subscript a (.Slice lo hi none p2) pos) (.lst (cutT ts m n)) E := fun W Z H σ Q st kq => by
  refine R.mk (t := tSl (rSlL S.K) (R S W a) (tPo S W lo) (tPo S W hi)) (fun X hX => ?_) (ha W Z H σ _ st fun v H1 Z1 g1 r1 => hl.read g1.st fun H2 Z2 g2 => hh.read g2.st fun H3 Z3 g3 => ?_)
  · exact pe_slice (by rw [← hX.kk]; exact sl_list) (hX.pe a) (PaG.po hX lo) (PaG.po hX hi)
  · obtain ⟨d, us, rfl, q1, q2⟩ := rep_slst.mp (r1.mono (g2.step.zz.trans g3.step.zz))
    exact ⟨d, us, rfl, g3.st.zh.seq q1, fun q hq => by
      have z := Go.lst (S := S) (E := E) g3.st (q2.cut (lo := m) (hi := n)) hq
      exact kq _ _ _ (((g1.trans g2).trans g3).trans z.1) z.2⟩
end
end Cw
end L2

set_option Elab.async false
set_option linter.all false
set_option maxRecDepth 100000
set_option maxHeartbeats 2000000
namespace L2
namespace Cw
open PySem PySem.Spec PyProof.Rows PySem.SeqAt
/-! ### an instance whose class has no == of its own, beside a text -/
theorem str_declines {M : Model} {A : Around} {E : Value → Shared → Prop} {s : Shared} {x : Addr} {ox : Obj} {a : Str} {t : Tok} {Q : PySem.Fin → Shared → Prop} (ho : s.heap.get? x = some ox) (hd : ∀ z u, ox.data ≠ .prim (.str z u)) (h : Q (.done (.ret .notImplemented)) s) :
    wpAny M A (Builtin.«str.__eq__» ⟨[.str a t, .ref x], []⟩) Q E s := by
  unfold Builtin.«str.__eq__» Builtin.Str.strCompare Builtin.Str.strSlot
  repeat (first | wp_step)
  split
  · rename_i z u e
    exact absurd e (hd z u)
  · refine wpAny_pure ?_
    repeat (first | wp_step)
    exact h
section
variable {M : Model} {prog : Program} {w : World} {A : Around} {E : Value → Shared → Prop} {s : Shared} {K : PySem.W.Frag} {x C : Addr} {ox : Obj} {od : Option Obj} {a : Str} {t : Tok}
theorem obj_declines {Q : PySem.Fin → Shared → Prop} (hq : Q (.done (.ret .notImplemented)) s) : wpAny M A (Builtin.«object.__eq__» ⟨[.ref x, .str a t], []⟩) Q E s := by
  delta Builtin.«object.__eq__»
  have same : ∀ {R : Bool → Shared → Prop} {s' : Shared}, R false s' → wpAny M A (isSame (.ref x) (.str a t)) R E s' := fun h => wpAny_of_eq (rfl : isSame (.ref x) (.str a t) = pure false) h
  repeat (first | with_reducible refine same ?_ | wp_step)
  exact hq
theorem sub_str : PySem.W.subIn K (.type "str") (.ref C) = some false := by
  have e : fastBuiltinMro "str" = some [.type "str", .type "object"] := by decide +kernel
  unfold PySem.W.subIn
  simp [e]
theorem none_then {β : Type} {m : Sem (Option Value)} {f : Option Value → Sem β} {Q : β → Shared → Prop} (h : wpAny M A m (fun r s' => r = none ∧ s' = s) E s) (k : wpAny M A (f none) Q E s) : wpAny M A (m >>= f) Q E s :=
  wpAny_bind (wpAny_mono h (fun r s' ⟨e1, e2⟩ => by subst e1; subst e2; exact k) fun _ _ z => z)
theorem rc_str (hu : A.units < cLine) (X : K.In s.heap) (I : PySem.W.InstAt s.heap x ox C od) (hm : PySem.W.mroIn K C (.type "object") = some true) (hs : PySem.W.findIn K (.ref C) "__eq__" = some (some (.builtin "object.__eq__"))) (hd : ∀ z u, ox.data ≠ .prim (.str z u)) :
    RcAt A s (.ref x) (.str a t) false := fun prog w E Q h => by
  have left : wpAny (model prog w) A (tryCompare (.ref x) "__eq__" (.str a t)) (fun r s' => r = none ∧ s' = s) E s := by
    unfold tryCompare
    refine wpAny_bind (HN.ifBound_objEq X I hs ?_)
    refine wpAny_call (codeAny_call_builtin F.cmp_object.eq.plain F.cmpEntry_eq ?_)
    refine PySem.W.check_slot F.cmpKind_eq F.cmpSplit_eq ?_ (F.cmpArgs_eq _ _) (obj_declines ?_)
    · exact I.type.andThen (PySem.W.looks_mroIn X hm)
    · exact wpAny_pure ⟨rfl, rfl⟩
  have ty : s.TypeIs (.str a t) "str" := typeIs_str s a t
  have right : wpAny (model prog w) A (tryCompare (.str a t) "__eq__" (.ref x)) (fun r s' => r = none ∧ s' = s) E s := by
    refine wpAny_tryCompare_declines ty F.slot_str_eq_refl (call_givesAt (P := fun s' => s' = s) (m := .val .notImplemented) F.slot_str_eq_refl ty F.entry_str_eq (F.args_str_eq_2 _ _) (fun prog w A R s' hs' hm => ?_) rfl ⟨rfl, rfl, rfl⟩)
    subst hs'
    exact str_declines I.at_ hd hm
  simp only [oneThing_ref, cmpInfo_Eq, richCompare]
  refine wpAny_holding (wpAny_bind (wpAny_cRoomFor hu (wpAny_bind (I.type.here (wpAny_bind (wpAny_typeOf ty ?_))))))
  have ne : (Value.ref C != Value.type "str") = true := rfl
  rw [if_pos ne]
  refine wpAny_bind ((PySem.W.looks_subIn X sub_str).here ?_)
  rw [if_neg (show ¬ false = true by decide)]
  refine none_then left ?_
  show wpAny (model prog w) A (if (!false) = true then _ else _) Q E s
  rw [if_pos (by rfl : (!false) = true)]
  refine none_then right (wpAny_bind (wpAny_rule (wpAny_bind ?_)))
  exact wpAny_of_eq (rfl : isSame (.ref x) (.str a t) = pure false) (wpAny_pure h)
end
structure NoEq (K : PySem.W.Frag) (C : Addr) : Prop where
  mo : PySem.W.mroIn K C (.type "object") = some true
  eq : PySem.W.findIn K (.ref C) "__eq__" = some (some (.builtin "object.__eq__"))
def rInsStr (K : PySem.W.Frag) : R2 := fun x y H Q => ∃ (a C dx : Addr) (fs : List (Str × V)) (z : Str), x = .ref a ∧ y = .str z ∧ H a = some (.ins C dx fs) ∧ NoEq K C ∧ Q (.bl false) H
theorem op_insStr {X : Cx} (hu : X.A.units < cLine) : OpR X (compareOp .Eq) (rInsStr X.K) := by
  intro pins s σ H x y v u Q I repX repY h
  obtain ⟨a, C, dx, fs, z, rfl, rfl, e, ne, q⟩ := h
  have ev : v = Value.ref a := repX
  subst ev
  have eu : ∃ t, u = Value.str z t := repY
  obtain ⟨t, rfl⟩ := eu
  obtain ⟨mA, om, _⟩ := ins_get I.hok e
  obtain ⟨od, J, _⟩ := om.look
  exact rc_str hu I.kIn J ne.mo ne.eq (fun _ _ z => by cases z) _ _ _ _ ⟨.bl false, H, I, rfl, q⟩
section
variable {S : SS} {E E1 E2 : List Ent} {a b : Expr} {C : Addr} {fs : List Str} {us : List T} {z : Str} {pos : Pos}
theorem eg_eqIS (ha : EG S E a (.ins C fs us) E1) (hb : EG S E1 b (.str z) E2) (ne : NoEq S.K C) (hm : behindInMarks .Eq b = false := by exact nomark _) : EG S E (.Compare a [.Eq] [b] pos) (.bl false) E2 :=
  eg_cmp (r := rInsStr S.K) (fun W X hX => by rw [← hX.kk]; exact op_insStr (Nat.lt_of_le_of_lt (Nat.le_add_right _ 65) (u65 hX))) (fun E Z H σ v u Q st r1 r2 k => by
    simp only [Rep] at r1
    obtain ⟨x, dx, fv, rfl, e, _, _⟩ := r1
    rw [rep_str.mp r2]
    exact ⟨x, C, dx, fv, z, rfl, rfl, st.zh _ _ e, ne, k _ _ _ (Go.refl st) (rep_bl.mpr rfl)⟩) ha hb hm
end
end Cw
end L2

set_option Elab.async false
set_option linter.all false
set_option maxRecDepth 100000
set_option maxHeartbeats 4000000
namespace L2
namespace Cw
namespace K02
open PySem PySem.Spec PyProof.Rows
local macro_rules | `(tactic| walk_at "vo") => `(tactic| exact ⟨rfl, by first | exact .inl rfl | exact .inr (.inl rfl) | exact .inr (.inr rfl), by decide, by decide⟩)
local macro_rules | `(tactic| walk_at "gl") => `(tactic| exact ⟨rfl, by decide⟩)
local macro_rules | `(tactic| walk_at "nd") => `(tactic| (dsimp only [SS.blk, defP]; decide +kernel))
local macro_rules | `(tactic| walk_at "so") => `(tactic| exact ⟨by walk_at "nd", rfl, by first | exact .inl rfl | exact .inr rfl, by first | exact .inl rfl | exact .inr rfl, by first | (dsimp only [SS.blk, defP, pins]; decide) | (simp [SS.blk, defP, pins, isOw, List.range_succ]; done)⟩)
local macro_rules | `(tactic| walk_at "bk") => `(tactic| exact blkOk_by (by walk_at "nd"))
local macro_rules | `(tactic| walk_at "ln") => `(tactic| (simp; done))
local macro_rules | `(tactic| walk_at "no") => `(tactic| (intro t; simp; done))
local macro_rules | `(tactic| walk_at "lv") => `(tactic| (dsimp only [SS.blk, defP]; decide))
local macro_rules | `(tactic| walk_at "sc") => `(tactic| exact ⟨rfl, rfl, rfl, by decide +kernel, rfl, by decide +kernel, by decide +kernel⟩)
/- a name's value -/
local macro_rules | `(tactic| walk_at "v") => `(tactic| first
  | exact eg_sh (i := 0) (by walk_at "vo") rfl | exact eg_sh (i := 1) (by walk_at "vo") rfl | exact eg_sh (i := 2) (by walk_at "vo") rfl | exact eg_sh (i := 3) (by walk_at "vo") rfl
  | exact eg_sh (i := 4) (by walk_at "vo") rfl | exact eg_sh (i := 5) (by walk_at "vo") rfl | exact eg_sh (i := 6) (by walk_at "vo") rfl | exact eg_sh (i := 7) (by walk_at "vo") rfl)
def top (i : Nat) : Stmt := PySem.Challenge.pw_cluewright_k02_rules_that_may_be_kept.main.body.getD i (.Pass ⟨0, 0, 0, 0⟩)
/-- a def of the text as its callers know it -/
structure Dfn (K : PySem.W.Frag) (mg : Str → Option Value) (x : Str) (i : Nat) (ps : List Str) where
  f : Addr
  fd : FuncData
  F : FunA K x x (top i) f fd
  mgf : mg x = some (.ref f)
  bd : Binds K fd ps []
theorem Dfn.ok {K : PySem.W.Frag} {mg : Str → Option Value} {x : Str} {i : Nat} {ps : List Str} (D : Dfn K mg x i ps) {S : SS} (hK : S.K = K) (hm : S.mg = mg) : DefOk S x D.f D.fd ps [] := by
  subst hK; subst hm; exact ⟨D.mgf, D.F.kp, D.bd⟩
/-- an error's class -/
structure ExcF (K : PySem.W.Frag) (mg : Str → Option Value) (x : Str) where
  C : Addr
  mgC : mg x = some (.ref C)
  xc : PySem.W.excIn K C [.type "ValueError", .type "Exception", .type "BaseException", .type "object"] "ValueError.__new__" = true
  kp : (PySem.W.keepIn K (.ref C)) = true
  sb : PySem.W.subIn K (.ref C) (.type "BaseException") = some true
  ty : PySem.W.typeIn K (.ref C) = some (.type "type")
theorem ExcF.ok {K : PySem.W.Frag} {mg : Str → Option Value} {x : Str} (X : ExcF K mg x) {S : SS} (hK : S.K = K) (hm : S.mg = mg) : ExcOk S x X.C := by
  subst hK; subst hm; exact ⟨X.mgC, X.xc, X.kp, X.sb, X.ty⟩
/-- a method of a class of the text -/
structure Mth (K : PySem.W.Frag) (C : Addr) (m qual : Str) (i j : Nat) (ps : List Str) where
  f : Addr
  fd : FuncData
  F : FunA K m qual (inClass (top i) j) f fd
  bd : Binds K fd ps []
/-- a class of the text -/
structure ClsF (K : PySem.W.Frag) (mg : Str → Option Value) (x qi qm qs : Str) (i : Nat) (ps : List Str) where
  C : Addr
  mgC : mg x = some (.ref C)
  cl : Cls K C
  init : Mth K C "__init__" qi i 0 ps
  mayF : Mth K C "may" qm i 1 ["self", "values"]
  shownF : Mth K C "shown" qs i 2 ["self"]
  makes : Mk K C init.f
  mmay : Meth K C "may" mayF.f
  mshown : Meth K C "shown" shownF.f
  nSpots : NoAttr K C "spots"
structure Tx (K : PySem.W.Frag) (mg : Str → Option Value) where
  check_spots : Dfn K mg "check_spots" 19 ["spots"]
  known_of : Dfn K mg "known_of" 20 ["values"]
  ahead_of_unknown : Dfn K mg "ahead_of_unknown" 21 ["values"]
  tops : Dfn K mg "tops" 22 ["values"]
  runs_of : Dfn K mg "runs_of" 23 ["values"]
  may_begin_with : Dfn K mg "may_begin_with" 24 ["runs", "known"]
  kept : Dfn K mg "kept" 25 ["rule", "table"]
  cUnlike : ClsF K mg "Unlike" "Unlike.__init__" "Unlike.may" "Unlike.shown" 12 ["self", "spots"]
  cSum : ClsF K mg "Sum" "Sum.__init__" "Sum.may" "Sum.shown" 13 ["self", "spots", "whole"]
  nWhole : NoAttr K cSum.C "whole"
  cLess : ClsF K mg "Less" "Less.__init__" "Less.may" "Less.shown" 14 ["self", "one", "other"]
  cGap : ClsF K mg "Gap" "Gap.__init__" "Gap.may" "Gap.shown" 15 ["self", "one", "other", "much"]
  nMuch : NoAttr K cGap.C "much"
  cTops : ClsF K mg "Tops" "Tops.__init__" "Tops.may" "Tops.shown" 16 ["self", "spots", "count"]
  nTopsCount : NoAttr K cTops.C "count"
  cRuns : ClsF K mg "Runs" "Runs.__init__" "Runs.may" "Runs.shown" 17 ["self", "spots", "runs"]
  nRuns : NoAttr K cRuns.C "runs"
  cCount : ClsF K mg "Count" "Count.__init__" "Count.may" "Count.shown" 18 ["self", "spots", "value", "count"]
  nValue : NoAttr K cCount.C "value"
  nCountCount : NoAttr K cCount.C "count"
  flat : Dfn K mg "_law_flat" 27 ["rows"]
  dice : Dfn K mg "_law_dice" 28 ["cell"]
  roll : Dfn K mg "_law_roll" 29 ["dice", "many"]
  rounds : Dfn K mg "_law_rounds" 30 ["script", "most"]
  told : Dfn K mg "_law_told" 31 ["what"]
  all : Dfn K mg "_law_all" 32 ["values", "long"]
  rules : Dfn K mg "_law_rules" 33 ["dice", "spots"]
  keeps : Dfn K mg "_law_keeps" 34 ["test", "table"]
  xRule : ExcF K mg "BadRule"
  eSquare : Addr
  mSquare : mg "BadSquare" = some (.ref eSquare)
  eStep : Addr
  mStep : mg "BadStep" = some (.ref eStep)
  ePaper : Addr
  mPaper : mg "BadPaper" = some (.ref ePaper)
  eSize : Addr
  mSize : mg "BadSize" = some (.ref eSize)
  eText : Addr
  mText : mg "BadText" = some (.ref eText)
  eStore : Addr
  mStore : mg "BadStore" = some (.ref eStore)
  eNoWay : Addr
  mNoWay : mg "NoWay" = some (.ref eNoWay)
  eNoSuch : Addr
  mNoSuch : mg "NoSuch" = some (.ref eNoSuch)
  notSquare : PySem.W.exmOne K (.ref xRule.C) (.ref eSquare) = some false
  isRule : PySem.W.exmOne K (.ref xRule.C) (.ref xRule.C) = some true
  nAbs : mg "abs" = none
  nAll : mg "all" = none
  nAny : mg "any" = none
  nDict : mg "dict" = none
  nEnum : mg "enumerate" = none
  nInt : mg "int" = none
  nLen : mg "len" = none
  nList : mg "list" = none
  nMax : mg "max" = none
  nRange : mg "range" = none
  nSet : mg "set" = none
  nSum : mg "sum" = none
  nTuple : mg "tuple" = none
abbrev Sq := Int × Int
def sqT (p : Sq) : T := tupI [p.1, p.2]
theorem sqs_eq (ss : List Sq) : ss.map sqT = (ss.map fun p => [p.1, p.2]).map tupI := by rw [List.map_map]; rfl
theorem dist_sq (ss : List Sq) : (dist (ss.map fun p => [p.1, p.2])).length = ss.length ↔ ss.Nodup := by
  have h := dist_all (l := ss.map fun p : Sq => [p.1, p.2])
  rw [List.length_map] at h
  rw [h]
  unfold List.Nodup
  rw [List.pairwise_map]
  constructor
  · exact List.Pairwise.imp fun {a b} q e => q (by rw [e])
  · exact List.Pairwise.imp fun {a b} q e => q (by
      simp only [List.cons.injEq, and_true] at e
      exact Prod.ext e.1 e.2)
theorem enc_sq : Enc 1 sqT := enc_tupI.comp (fun p : Sq => [p.1, p.2]) fun a b e => by
  simp only [List.cons.injEq, and_true] at e
  exact Prod.ext e.1 e.2
/-! ### values, some not known -/
def valsT (vs : List (Option Int)) : T := .lst (vs.map ov)
def known (vs : List (Option Int)) : List Int := vs.filterMap id
section
variable {P : Program} {w : World} {K : PySem.W.Frag} {mg : Str → Option Value} {base : Heap} (T_ : Tx K mg)
/-! ### check_spots -/
theorem sc19 : FnScope ["spots", "found"] ["spots"] (defScope (top 19)) := by walk_at "sc"
def spotsOk (ss : List Sq) : Bool := !ss.isEmpty && decide ss.Nodup
theorem spots_d {ss : List Sq} (h : spotsOk ss = true) : (teq (.tup (ss.map sqT)) (.tup []) || !teq (.int ((dist (ss.map fun p => [p.1, p.2])).length : Nat)) (.int ((ss.map sqT).length : Nat))) = false := by
  unfold spotsOk at h
  simp only [Bool.and_eq_true, Bool.not_eq_true', decide_eq_true_eq] at h
  rw [teq_nil, enc_int.eq, List.length_map]
  have h1 : (ss.map sqT).isEmpty = false := by simpa using h.1
  have h2 : (((dist (ss.map fun p => [p.1, p.2])).length : Nat) : Int) = (ss.length : Nat) := by rw [(dist_sq ss).mpr h.2]
  rw [h1, decide_eq_true h2]
  rfl
theorem spots_dn {ss : List Sq} (h : spotsOk ss = false) : (teq (.tup (ss.map sqT)) (.tup []) || !teq (.int ((dist (ss.map fun p => [p.1, p.2])).length : Nat)) (.int ((ss.map sqT).length : Nat))) = true := by
  unfold spotsOk at h
  rw [teq_nil, enc_int.eq, List.length_map]
  cases ss with
  | nil => rfl
  | cons p ps =>
    have h3 : ¬ (p :: ps).Nodup := by simpa using h
    have h2 : ¬ (((dist ((p :: ps).map fun p => [p.1, p.2])).length : Nat) : Int) = ((p :: ps).length : Nat) := fun e => h3 ((dist_sq _).mp (by omega))
    rw [decide_eq_false h2]
    simp
theorem check_spots_ok {q : T} (ss : List Sq) (hq : q = .lst (ss.map sqT) ∨ q = .tup (ss.map sqT)) (h : spotsOk ss = true) (few : ss.length < 64) : Gives P w K mg base 1 T_.check_spots.f T_.check_spots.fd ["spots"] [q] (.tup (ss.map sqT)) := by
  have few2 : (ss.map sqT).length < 64 := by rw [List.length_map]; exact few
  refine gives_p [.sh q, .no] T_.check_spots.F sc19 rfl rfl (sgr_cons (sg_setP (i := 1) (t := .tup (ss.map sqT)) (by walk_at "so") ?_ (by walk_at "ln")) (sgr_ifFn (spots_d h) (tg_w (wg_or (pt_eq (n := 2) (enc_sq.tup.ok ss) dok_nil (by walk_at "v") pg_tup0) fun _ =>
    wg_or1 (pt_ne (n := 0) trivial trivial (eg_lenS (by walk_at "gl") T_.nLen (eg_setTT (ks := ss.map fun p => [p.1, p.2]) (by walk_at "gl") T_.nSet (by rw [← sqs_eq]; walk_at "v") (by simpa using few)) (by have := dist_len_le (ss.map fun p : Sq => [p.1, p.2]); simp at this; omega)) (eg_len .tup (by walk_at "gl") T_.nLen (by walk_at "v"))))) (sgr_ret (by walk_at "v"))))
  rcases hq with rfl | rfl
  · exact eg_tupleL (by walk_at "gl") T_.nTuple (eg_sh (i := 0) (by walk_at "vo") rfl)
  · exact eg_tupleT (by walk_at "gl") T_.nTuple (by walk_at "v")
theorem check_spots_no {q : T} (ss : List Sq) (hq : q = .lst (ss.map sqT) ∨ q = .tup (ss.map sqT)) (h : spotsOk ss = false) (few : ss.length < 64) : Errs P w K mg base 1 T_.check_spots.f T_.check_spots.fd ["spots"] [q] T_.xRule.C := by
  have few2 : (ss.map sqT).length < 64 := by rw [List.length_map]; exact few
  refine errs_p [.sh q, .no] T_.check_spots.F sc19 rfl rfl (sgx_cons (sg_setP (i := 1) (t := .tup (ss.map sqT)) (by walk_at "so") ?_ (by walk_at "ln")) (sgx_ifT (spots_dn h) (tg_w (wg_or (pt_eq (n := 2) (enc_sq.tup.ok ss) dok_nil (by walk_at "v") pg_tup0) fun _ =>
    wg_or1 (pt_ne (n := 0) trivial trivial (eg_lenS (by walk_at "gl") T_.nLen (eg_setTT (ks := ss.map fun p => [p.1, p.2]) (by walk_at "gl") T_.nSet (by rw [← sqs_eq]; walk_at "v") (by simpa using few)) (by have := dist_len_le (ss.map fun p : Sq => [p.1, p.2]); simp at this; omega)) (eg_len .tup (by walk_at "gl") T_.nLen (by walk_at "v"))))) (sgx_raise (T_.xRule.ok rfl rfl) (by walk_at "gl"))))
  rcases hq with rfl | rfl
  · exact eg_tupleL (by walk_at "gl") T_.nTuple (eg_sh (i := 0) (by walk_at "vo") rfl)
  · exact eg_tupleT (by walk_at "gl") T_.nTuple (by walk_at "v")
theorem known_filter : ∀ vs : List (Option Int), (vs.filter fun v => !isNon (ov v)).map ov = (known vs).map T.int
  | [] => rfl
  | none :: vs => by simpa [ov, isNon, known] using known_filter vs
  | some i :: vs => by simpa [ov, isNon, known] using known_filter vs
theorem sc20 : FnScope ["values", "value"] ["values"] (defScope (top 20)) := by walk_at "sc"
theorem known_of_ok (vs : List (Option Int)) (hl : vs.length ≤ 1000) : Gives P w K mg base 1 T_.known_of.f T_.known_of.fd ["values"] [valsT vs] (.lst ((known vs).map T.int)) := by
  refine gives_p [.sh (valsT vs), .no] T_.known_of.F sc20 rfl rfl (sgr_ret ?_)
  rw [← known_filter]
  exact eg_lcNF (α := Option Int) (toT := ov) (f := ov) (i := 1) (b := fun v => !isNon (ov v)) (by walk_at "bk") (by walk_at "nd") (by walk_at "so") (by walk_at "ln") (by walk_at "no") (by omega) (pg_iter .lst (by walk_at "v")) (fun a _ => tt_notN (by walk_at "v")) (fun a _ _ => by walk_at "v")
/-! ### ahead_of_unknown -/
def ahead (vs : List (Option Int)) : List Int := known (vs.takeWhile Option.isSome)
theorem ahead_map (vs : List (Option Int)) : (ahead vs).map T.int = (vs.takeWhile Option.isSome).map ov := by
  unfold ahead
  induction vs with
  | nil => rfl
  | cons v vs ih => cases v <;> simp [known, ov] at ih ⊢; exact ih
theorem ahead_len (vs : List (Option Int)) : (ahead vs).length = (vs.takeWhile Option.isSome).length := by
  have := congrArg List.length (ahead_map vs)
  simpa using this
theorem ahead_none : ∀ {vs : List (Option Int)}, none ∈ vs → vs[(ahead vs).length]? = some none
  | v :: vs, h => by
    rw [ahead_len]
    cases v with
    | none => simp
    | some i =>
      have h' : none ∈ vs := by simpa using h
      have := ahead_none h'
      rw [ahead_len] at this
      simpa using this
theorem ahead_some : ∀ {vs : List (Option Int)} {m : Nat} {z : Option Int}, m < (ahead vs).length → vs[m]? = some z → z ≠ none
  | [], m, z, h, e => by simp at e
  | none :: vs, m, z, h, e => by rw [ahead_len] at h; simp at h
  | some i :: vs, 0, z, h, e => by simp at e; subst e; simp
  | some i :: vs, m + 1, z, h, e => by
    rw [ahead_len] at h
    exact ahead_some (vs := vs) (m := m) (by rw [ahead_len]; simpa using h) (by simpa using e)
theorem ahead_take : ∀ vs : List (Option Int), vs.take (ahead vs).length = vs.takeWhile Option.isSome
  | [] => rfl
  | none :: vs => by rw [ahead_len]; simp
  | some i :: vs => by
    have := ahead_take vs
    rw [ahead_len] at this ⊢
    simpa using this
theorem sc21 : FnScope ["values", "row"] ["values"] (defScope (top 21)) := by walk_at "sc"
theorem ahead_of_unknown_ok (vs : List (Option Int)) (hn : none ∈ vs) : Gives P w K mg base 1 T_.ahead_of_unknown.f T_.ahead_of_unknown.fd ["values"] [valsT vs] (.lst ((ahead vs).map T.int)) := by
  have hle : (ahead vs).length ≤ (vs.map ov).length := by
    rw [ahead_len, List.length_map]; exact (List.takeWhile_sublist _).length_le
  have e : (ahead vs).map T.int = cutT (vs.map ov) none (some ((ahead vs).length : Nat)) := by
    rw [cut_take hle, ← List.map_take, ahead_take, ahead_map]
  rw [e]
  refine gives_p [.sh (valsT vs), .no] T_.ahead_of_unknown.F sc21 rfl rfl (sgr_cons (sg_setP (i := 1) (t := .lst (vs.map ov)) (by walk_at "so") (eg_listS .lst (by walk_at "gl") T_.nList (eg_sh (i := 0) (by walk_at "vo") rfl)) (by walk_at "ln")) (sgr_ret (eg_sliceL (eg_sh (i := 1) (by walk_at "vo") rfl) pa_no
    (pa_so (eg_index (n := 1) (z := .non) (eg_sh (i := 1) (by walk_at "vo") rfl) eg_non ⟨fun _ => rfl, fun _ => rfl, rfl, fun _ => rfl, fun _ => rfl⟩ trivial (enc_ov.in_ vs) (by rw [List.getElem?_map, ahead_none hn]; rfl) (enc_ov.eq none none) (fun m z' hm hz => ?_))))))
  rw [List.getElem?_map] at hz
  cases q : vs[m]? with
  | none => rw [q] at hz; cases hz
  | some z =>
    rw [q] at hz; cases hz
    have := ahead_some hm q
    have h2 := enc_ov.eq z none
    rw [decide_eq_false this] at h2
    exact h2
/-! ### tops -/
def topsN (ns : List Int) : Nat := ((ns.mapIdx fun i n => (i, n)).filter fun p => (ns.take p.1).all fun o => decide (o < p.2)).length
theorem enum_ints (ns : List Int) : enumT (ns.map T.int) = (ns.mapIdx fun i n => (i, n)).map fun p : Nat × Int => T.tup [.int (p.1 : Nat), .int p.2] := by
  unfold enumT
  refine List.ext_getElem (by simp) fun i in1 in2 => ?_
  simp
theorem sc22 : FnScope ["values", "at", "value", "one"] ["values"] (defScope (top 22)) := by walk_at "sc"
theorem tops_ok (ns : List Int) (hl : ns.length ≤ 1000) : Gives P w K mg base 1 T_.tops.f T_.tops.fd ["values"] [.lst (ns.map T.int)] (.int (topsN ns : Nat)) := by
  refine gives_p [.sh (.lst (ns.map T.int)), .no, .no, .no] T_.tops.F sc22 rfl rfl (sgr_ret ?_)
  have e : (topsN ns : Int) = ((((ns.mapIdx fun i n => (i, n)).filter fun p => ((ns.take p.1).map fun o => decide (o < p.2)).all id).map fun p : Nat × Int => T.int (p.1 : Nat)).length : Nat) := by
    rw [List.length_map]; unfold topsN; simp only [List.all_map, Function.comp_def, id]
  rw [e]
  refine eg_len .lst (by walk_at "gl") T_.nLen ?_
  refine eg_lcTF (α := Nat × Int) (toT := fun p => T.tup [.int (p.1 : Nat), .int p.2]) (t := fun p => .int (p.1 : Nat)) (u := fun p => .int p.2) (i := 1) (j := 2) (f := fun p => .int (p.1 : Nat)) (b := fun p => ((ns.take p.1).map fun o => decide (o < p.2)).all id) (fun a => .inl rfl) (by walk_at "bk") (by walk_at "nd") (by decide) (by walk_at "so") (by walk_at "so") (by walk_at "ln") (by walk_at "ln") (by walk_at "no") (by walk_at "no") (by simp; omega)
    (by rw [← enum_ints]; exact ig_enum (by walk_at "gl") T_.nEnum (eg_sh (i := 0) (by walk_at "vo") rfl)) (fun p hp => ?_) fun p _ _ => eg_sh (i := 1) (by walk_at "vo") rfl
  have hp1 : p.1 ≤ ns.length := by
    obtain ⟨i, h, e⟩ := List.mem_iff_getElem.mp hp
    simp at h e
    rw [← e]
    exact Nat.le_of_lt h
  refine tg_val (eg_all (by walk_at "gl") T_.nAll ?_)
  rw [List.map_map]
  refine eg_lcN (α := Int) (toT := T.int) (f := T.bl ∘ fun o => decide (o < p.2)) (i := 3) (by walk_at "bk") (by walk_at "nd") (by walk_at "so") (by walk_at "ln") (by walk_at "no") (by simp; omega) ?_ fun a _ => pg_lt (eg_sh (i := 3) (by walk_at "vo") rfl) (eg_sh (i := 2) (by walk_at "vo") rfl)
  have q : (ns.take p.1).map T.int = cutT (ns.map T.int) none (some (p.1 : Nat)) := by rw [cut_take (by simpa using hp1), List.map_take]
  rw [q]
  exact pg_iter .lst (eg_sliceL (eg_sh (i := 0) (by walk_at "vo") rfl) pa_no (pa_so (eg_sh (i := 1) (by walk_at "vo") rfl)))
/-! ### runs_of -/
def stepR (s : List Int × Int) (x : Int) : List Int × Int := if x = 1 then (s.1, s.2 + 1) else if 0 < s.2 then (s.1 ++ [s.2], 0) else s
def runsS (ns : List Int) : List Int × Int := ns.foldl stepR ([], 0)
def runsL (ns : List Int) : List Int := if 0 < (runsS ns).2 then (runsS ns).1 ++ [(runsS ns).2] else (runsS ns).1
theorem runsS_snoc (ns : List Int) (x : Int) : runsS (ns ++ [x]) = stepR (runsS ns) x := by unfold runsS; rw [List.foldl_append]; rfl
theorem runsS_len (ns : List Int) : (runsS ns).1.length ≤ ns.length := by
  have h : ∀ (xs : List Int) (s : List Int × Int), (xs.foldl stepR s).1.length ≤ s.1.length + xs.length := by
    intro xs
    induction xs with
    | nil => intro s; exact Nat.le_refl _
    | cons x xs ih =>
      intro s
      have := ih (stepR s x)
      have q : (stepR s x).1.length ≤ s.1.length + 1 := by
        unfold stepR
        split
        · exact Nat.le_succ _
        · split
          · simp
          · exact Nat.le_succ _
      simp only [List.length_cons, List.foldl_cons]
      omega
  have := h ns ([], 0)
  simpa [runsS] using this
def lastE (ns : List Int) : Ent := match ns.getLast? with
  | none => .no
  | some x => .sh (.int x)
theorem lastE_snoc (ns : List Int) (x : Int) : lastE (ns ++ [x]) = .sh (.int x) := by simp [lastE]
def runsE (q : T) (ns : List Int) : List Ent := [.sh q, .ow (.lst ((runsS ns).1.map T.int)), .sh (.int (runsS ns).2), lastE ns]
theorem sc23 : FnScope ["values", "runs", "long", "value"] ["values"] (defScope (top 23)) := by walk_at "sc"
theorem runs_of_ok {q : T} (ns : List Int) (hq : SeqT q (ns.map T.int)) (hl : ns.length ≤ 1000) : Gives P w K mg base 1 T_.runs_of.f T_.runs_of.fd ["values"] [q] (.tup ((runsL ns).map T.int)) := by
  refine gives_p [.sh q, .no, .no, .no] T_.runs_of.F sc23 rfl rfl (sgr_cons (sg_setO (i := 1) (t := .lst []) (by walk_at "so") (eo_lst eas_nil (by decide)) (by walk_at "ln")) (sgr_cons (sg_setP (i := 2) (t := .int 0) (by walk_at "so") eg_int (by walk_at "ln")) ?_))
  refine sgr_cons (E1 := runsE q ns) (sg_for (pg_iter hq (eg_sh (i := 0) (by walk_at "vo") rfl)) (ForR.within (Ev := runsE q) (fun pre x hpre => ?_))) ?_
  · refine ⟨(runsE q pre).set 3 (.sh (.int x)), [3], ag_name (by walk_at "so") (by simp [runsE]), ?_⟩
    have hlen : (runsS pre).1.length < 16777216 := by
      have := runsS_len pre
      have := hpre
      omega
    by_cases h1 : x = 1
    · have e : runsE q (pre ++ [x]) = [.sh q, .ow (.lst ((runsS pre).1.map T.int)), .sh (.int ((runsS pre).2 + 1)), .sh (.int x)] := by
        unfold runsE; rw [runsS_snoc, lastE_snoc]; simp [stepR, h1]
      rw [e]
      exact sgs_one (sg_ifT (d := teq (.int x) (.int 1)) (by rw [enc_int.eq]; simpa using h1) (pt_eq (n := 0) trivial trivial (eg_sh (i := 3) (by walk_at "vo") rfl) eg_int) (sgs_one (sg_augAdd (l := 2) (by walk_at "so") rfl eg_int)))
    · by_cases h2 : 0 < (runsS pre).2
      · have e : runsE q (pre ++ [x]) = [.sh q, .ow (.lst ((runsS pre).1.map T.int ++ [.int (runsS pre).2])), .sh (.int 0), .sh (.int x)] := by
          unfold runsE; rw [runsS_snoc, lastE_snoc]; simp [stepR, h1, h2]
        rw [e]
        exact sgs_one (sg_ifF (d := teq (.int x) (.int 1)) (by rw [enc_int.eq]; simpa using h1) (pt_eq (n := 0) trivial trivial (eg_sh (i := 3) (by walk_at "vo") rfl) eg_int) (sgs_one (sg_ifT (d := decide (0 < (runsS pre).2)) (by simpa using h2) (pt_gt (eg_sh (i := 2) (by walk_at "vo") rfl) eg_int)
          (sgs_cons (sg_append (l := 1) (by walk_at "vo") rfl (eg_sh (i := 2) (by walk_at "vo") rfl) rfl (by rw [List.length_map]; exact hlen) ⟨fun _ => rfl, fun _ => rfl, rfl, fun _ => rfl, fun _ => rfl⟩) (sgs_one (sg_setP (i := 2) (by walk_at "so") eg_int (by simp [runsE])))))))
      · have e : runsE q (pre ++ [x]) = [.sh q, .ow (.lst ((runsS pre).1.map T.int)), .sh (.int (runsS pre).2), .sh (.int x)] := by
          unfold runsE; rw [runsS_snoc, lastE_snoc]; simp [stepR, h1, h2]
        rw [e]
        exact sgs_one (sg_ifF (d := teq (.int x) (.int 1)) (by rw [enc_int.eq]; simpa using h1) (pt_eq (n := 0) trivial trivial (eg_sh (i := 3) (by walk_at "vo") rfl) eg_int) (sgs_one (sg_ifFn (d := decide (0 < (runsS pre).2)) (by simpa using h2) (pt_gt (eg_sh (i := 2) (by walk_at "vo") rfl) eg_int))))
  · have hlen : (runsS ns).1.length < 16777216 := by
      have := runsS_len ns
      omega
    by_cases h2 : 0 < (runsS ns).2
    · have e : (runsL ns).map T.int = (runsS ns).1.map T.int ++ [.int (runsS ns).2] := by unfold runsL; rw [if_pos h2]; simp
      rw [e]
      exact sgr_cons (sg_ifT (d := decide (0 < (runsS ns).2)) (by simpa using h2) (pt_gt (eg_sh (i := 2) (by walk_at "vo") rfl) eg_int) (sgs_one (sg_append (l := 1) (by walk_at "vo") rfl (eg_sh (i := 2) (by walk_at "vo") rfl) rfl (by rw [List.length_map]; exact hlen) ⟨fun _ => rfl, fun _ => rfl, rfl, fun _ => rfl, fun _ => rfl⟩)))
        (sgr_retE (eg_tupleL (by walk_at "gl") T_.nTuple (eg_fz (i := 1) (by walk_at "vo") rfl)))
    · have e : (runsL ns).map T.int = (runsS ns).1.map T.int := by unfold runsL; rw [if_neg h2]
      rw [e]
      exact sgr_cons (sg_ifFn (d := decide (0 < (runsS ns).2)) (by simpa using h2) (pt_gt (eg_sh (i := 2) (by walk_at "vo") rfl) eg_int)) (sgr_retE (eg_tupleL (by walk_at "gl") T_.nTuple (eg_fz (i := 1) (by walk_at "vo") rfl)))
/-! ### may_begin_with -/
/-- runs begun by what is known: the last of them goes on where the last number is one -/
def begins (rs ks : List Int) : Bool :=
  if rs.length < (runsL ks).length then false
  else if ks.getLast? = some 1 then decide ((runsL ks).dropLast = rs.take ((runsL ks).length - 1)) && decide (((runsL ks).getLast?.getD 0) ≤ (rs[(runsL ks).length - 1]?.getD 0))
  else decide (runsL ks = rs.take (runsL ks).length)
theorem runsS_nonneg (ns : List Int) : 0 ≤ (runsS ns).2 := by
  have h : ∀ (xs : List Int) (s : List Int × Int), 0 ≤ s.2 → 0 ≤ (xs.foldl stepR s).2 := by
    intro xs
    induction xs with
    | nil => intro s h; exact h
    | cons x xs ih =>
      intro s h
      refine ih _ ?_
      unfold stepR
      split
      · exact Int.le_add_one h
      · split
        · exact Int.le_refl 0
        · exact h
  exact h ns _ (Int.le_refl 0)
theorem runsL_last {ns : List Int} (h : ns.getLast? = some 1) : runsL ns = (runsS ns).1 ++ [(runsS ns).2] := by
  obtain ⟨pre, rfl⟩ := List.getLast?_eq_some_iff.mp h
  have := runsS_nonneg pre
  unfold runsL
  rw [runsS_snoc, if_pos (by simp [stepR]; omega)]
theorem sc24 : FnScope ["runs", "known", "found"] ["runs", "known"] (defScope (top 24)) := by walk_at "sc"
theorem may_begin_with_ok (rs ks : List Int) (hl : ks.length ≤ 1000) : Gives P w K mg base 2 T_.may_begin_with.f T_.may_begin_with.fd ["runs", "known"] [.tup (rs.map T.int), .lst (ks.map T.int)] (.bl (begins rs ks)) := by
  refine gives_p [.sh (.tup (rs.map T.int)), .sh (.lst (ks.map T.int)), .no] T_.may_begin_with.F sc24 rfl rfl (sgr_cons (sg_setP (i := 2) (t := .tup ((runsL ks).map T.int)) (by walk_at "so") (eg_fn (T_.runs_of.ok rfl rfl) (by walk_at "gl") (runs_of_ok T_ ks .lst hl) (by walk_at "lv") (pas_cons (eg_sh (i := 1) (by walk_at "vo") rfl) eas_nil)) (by walk_at "ln")) ?_)
  by_cases h1 : rs.length < (runsL ks).length
  · have e : begins rs ks = false := by unfold begins; rw [if_pos h1]
    rw [e]
    exact sgr_ifT (d := decide ((((rs.map T.int).length : Nat) : Int) < (((runsL ks).map T.int).length : Nat))) (by simpa using h1) (pt_gt (eg_len .tup (by walk_at "gl") T_.nLen (eg_sh (i := 2) (by walk_at "vo") rfl)) (eg_len .tup (by walk_at "gl") T_.nLen (eg_sh (i := 0) (by walk_at "vo") rfl))) (sgr_ret eg_bl)
  · refine sgr_ifFn (d := decide ((((rs.map T.int).length : Nat) : Int) < (((runsL ks).map T.int).length : Nat))) (by simpa using h1) (pt_gt (eg_len .tup (by walk_at "gl") T_.nLen (eg_sh (i := 2) (by walk_at "vo") rfl)) (eg_len .tup (by walk_at "gl") T_.nLen (eg_sh (i := 0) (by walk_at "vo") rfl))) ?_
    have hle : (runsL ks).length ≤ rs.length := Nat.le_of_not_lt h1
    by_cases h2 : ks.getLast? = some 1
    · obtain ⟨pre, hpre⟩ := List.getLast?_eq_some_iff.mp h2
      have hr := runsL_last h2
      have hk : ks.map T.int = pre.map T.int ++ [.int 1] := by rw [hpre]; simp
      have hf : (runsL ks).length = (runsS ks).1.length + 1 := by rw [hr]; simp
      have hlt : (runsS ks).1.length < rs.length := by omega
      have e : begins rs ks = (decide ((runsS ks).1 = rs.take (runsS ks).1.length) && decide ((runsS ks).2 ≤ rs[(runsS ks).1.length])) := by
        unfold begins
        rw [if_neg h1, if_pos h2, hr]
        simp [hlt]
      rw [e]
      have c1 : teq (.lst (ks.map T.int)) (.lst []) = false := by rw [teq_nilL, hk]; simp
      refine sgr_ifT (d := !teq (.lst (ks.map T.int)) (.lst []) && teq (.int 1) (.int 1)) (by rw [c1, enc_int.eq]; rfl) (tg_w (wg_and (pt_ne (n := 1) (enc_int.in_ ks) dok_nilL (eg_sh (i := 1) (by walk_at "vo") rfl) pg_lst0) fun _ => wg_and1 (pt_eq (n := 0) trivial trivial (eg_item (i := -1) .lst (eg_sh (i := 1) (by walk_at "vo") rfl) (eg_neg eg_int) (by rw [hk]; exact at_last)) eg_int))) (sgr_ret ?_)
      have s1 : teq (.tup (((runsS ks).1).map T.int)) (.tup ((rs.take (runsS ks).1.length).map T.int)) = decide ((runsS ks).1 = rs.take (runsS ks).1.length) := enc_int.tup.eq _ _
      rw [← s1]
      have hm : (runsL ks).map T.int = (runsS ks).1.map T.int ++ [.int (runsS ks).2] := by rw [hr]; simp
      have hi : ((((runsL ks).map T.int).length : Nat) : Int) - 1 = ((runsS ks).1.length : Nat) := by rw [hm]; simp
      refine eg_andV (pg_eq (n := 1) (enc_int.tup.ok _) (enc_int.tup.ok _) ?_ ?_) fun _ => eg_and1 (pg_le (eg_item (i := -1) .tup (eg_sh (i := 2) (by walk_at "vo") rfl) (eg_neg eg_int) (by rw [hm]; exact at_last)) (eg_item (i := ((((runsL ks).map T.int).length : Nat) : Int) - 1) .tup (eg_sh (i := 0) (by walk_at "vo") rfl) (eg_sub (eg_len .tup (by walk_at "gl") T_.nLen (eg_sh (i := 2) (by walk_at "vo") rfl)) eg_int) (by rw [hi]; exact atI_at (by simp [hlt]))))
      · have q : (runsS ks).1.map T.int = cutT ((runsL ks).map T.int) none (some (-1)) := by rw [hm, cut_last]
        rw [q]
        exact eg_sliceT (eg_sh (i := 2) (by walk_at "vo") rfl) pa_no (pa_so (eg_neg eg_int))
      · have q : (rs.take (runsS ks).1.length).map T.int = cutT (rs.map T.int) none (some (((((runsL ks).map T.int).length : Nat) : Int) - 1)) := by rw [hi, cut_take (by simp; omega), List.map_take]
        rw [q]
        exact eg_sliceT (eg_sh (i := 0) (by walk_at "vo") rfl) pa_no (pa_so (eg_sub (eg_len .tup (by walk_at "gl") T_.nLen (eg_sh (i := 2) (by walk_at "vo") rfl)) eg_int))
    · have e : begins rs ks = decide (runsL ks = rs.take (runsL ks).length) := by unfold begins; rw [if_neg h1, if_neg h2]
      rw [e]
      have s1 : teq (.tup ((runsL ks).map T.int)) (.tup ((rs.take (runsL ks).length).map T.int)) = decide (runsL ks = rs.take (runsL ks).length) := enc_int.tup.eq _ _
      rw [← s1]
      have fin : SGr (defP P w K mg base 1 ["runs", "known", "found"] (defScope (top 24))) [.sh (.tup (rs.map T.int)), .sh (.lst (ks.map T.int)), .sh (.tup ((runsL ks).map T.int))] [(defBody (top 24)).getD 3 (.Pass ⟨0, 0, 0, 0⟩)] (.bl (teq (.tup ((runsL ks).map T.int)) (.tup ((rs.take (runsL ks).length).map T.int)))) := by
        refine sgr_ret (pg_eq (n := 1) (enc_int.tup.ok _) (enc_int.tup.ok _) (eg_sh (i := 2) (by walk_at "vo") rfl) ?_)
        have q : (rs.take (runsL ks).length).map T.int = cutT (rs.map T.int) none (some ((((runsL ks).map T.int).length : Nat) : Int)) := by rw [cut_take (by simp; omega), List.length_map, List.map_take]
        rw [q]
        exact eg_sliceT (eg_sh (i := 0) (by walk_at "vo") rfl) pa_no (pa_so (eg_len .tup (by walk_at "gl") T_.nLen (eg_sh (i := 2) (by walk_at "vo") rfl)))
      cases hk : ks.reverse with
      | nil =>
        have hk0 : ks = [] := by simpa using hk
        subst hk0
        exact sgr_ifFn (d := !teq (.lst ([] : List T)) (.lst [])) (by rw [teq_nilL]; rfl) (tg_w (wg_andF' (pt_ne (n := 1) dok_nilL dok_nilL (eg_sh (i := 1) (by walk_at "vo") rfl) pg_lst0) (by rw [teq_nilL]; rfl))) fin
      | cons x pre =>
        have hk1 : ks = pre.reverse ++ [x] := by
          have := congrArg List.reverse hk
          simpa using this
        have hx : x ≠ 1 := fun z => h2 (by rw [hk1, z]; simp)
        have hm : ks.map T.int = pre.reverse.map T.int ++ [.int x] := by rw [hk1]; simp
        exact sgr_ifFn (d := !teq (.lst (ks.map T.int)) (.lst []) && teq (.int x) (.int 1)) (by rw [enc_int.eq, decide_eq_false hx, Bool.and_false]) (tg_w (wg_and (pt_ne (n := 1) (enc_int.in_ ks) dok_nilL (eg_sh (i := 1) (by walk_at "vo") rfl) pg_lst0) fun _ => wg_and1 (pt_eq (n := 0) trivial trivial (eg_item (i := -1) .lst (eg_sh (i := 1) (by walk_at "vo") rfl) (eg_neg eg_int) (by rw [hm]; exact at_last)) eg_int))) fin
end
end K02
end Cw
end L2

set_option Elab.async false
set_option linter.all false
set_option maxRecDepth 100000
set_option maxHeartbeats 4000000
namespace L2
namespace Cw
namespace K02
open PySem PySem.Spec PyProof.Rows
local macro_rules | `(tactic| walk_at "vo") => `(tactic| exact ⟨rfl, by first | exact .inl rfl | exact .inr (.inl rfl) | exact .inr (.inr rfl), by decide, by decide⟩)
local macro_rules | `(tactic| walk_at "gl") => `(tactic| exact ⟨rfl, by decide⟩)
local macro_rules | `(tactic| walk_at "nd") => `(tactic| (dsimp only [SS.blk, defP]; decide +kernel))
local macro_rules | `(tactic| walk_at "so") => `(tactic| exact ⟨by walk_at "nd", rfl, by first | exact .inl rfl | exact .inr rfl, by first | exact .inl rfl | exact .inr rfl, by first | (dsimp only [SS.blk, defP, pins]; decide) | (simp [SS.blk, defP, pins, isOw, List.range_succ]; done)⟩)
local macro_rules | `(tactic| walk_at "bk") => `(tactic| exact blkOk_by (by walk_at "nd"))
local macro_rules | `(tactic| walk_at "ln") => `(tactic| (simp; done))
local macro_rules | `(tactic| walk_at "no") => `(tactic| (intro t; simp; done))
local macro_rules | `(tactic| walk_at "lv") => `(tactic| (dsimp only [SS.blk, defP]; decide))
local macro_rules | `(tactic| walk_at "sc") => `(tactic| exact ⟨rfl, rfl, rfl, by decide +kernel, rfl, by decide +kernel, by decide +kernel⟩)
/- a name's value -/
local macro_rules | `(tactic| walk_at "v") => `(tactic| first
  | exact eg_sh (i := 0) (by walk_at "vo") rfl | exact eg_sh (i := 1) (by walk_at "vo") rfl | exact eg_sh (i := 2) (by walk_at "vo") rfl | exact eg_sh (i := 3) (by walk_at "vo") rfl
  | exact eg_sh (i := 4) (by walk_at "vo") rfl | exact eg_sh (i := 5) (by walk_at "vo") rfl | exact eg_sh (i := 6) (by walk_at "vo") rfl | exact eg_sh (i := 7) (by walk_at "vo") rfl)

/-- a rule, told by its numbers -/
inductive RS where
  | unlike (ss : List Sq) | sum (ss : List Sq) (whole : Int) | less (a b : Sq) | gap (a b : Sq) (much : Int) | tops (ss : List Sq) (count : Int) | runs (ss : List Sq) (rs : List Int) | count (ss : List Sq) (value count : Int)
def RS.spots : RS → List Sq
  | .unlike ss => ss
  | .sum ss _ => ss
  | .less a b => [a, b]
  | .gap a b _ => [a, b]
  | .tops ss _ => ss
  | .runs ss _ => ss
  | .count ss _ _ => ss
def spT (ss : List Sq) : T := .tup (ss.map sqT)
def isNone (vs : List (Option Int)) : Bool := decide (none ∈ vs)
/-- whether a rule may be kept -/
def RS.may : RS → List (Option Int) → Bool
  | .unlike _, vs => decide (known vs).Nodup
  | .sum _ w, vs => if isNone vs = true then decide ((known vs).sum ≤ w) else decide ((known vs).sum = w)
  | .less _ _, vs => isNone vs || decide ((known vs).getD 0 0 < (known vs).getD 1 0)
  | .gap _ _ d, vs => isNone vs || decide ((if (known vs).getD 0 0 - (known vs).getD 1 0 < 0 then -((known vs).getD 0 0 - (known vs).getD 1 0) else (known vs).getD 0 0 - (known vs).getD 1 0) = d)
  | .tops _ c, vs => isNone vs || decide ((topsN (known vs) : Int) = c)
  | .runs _ rs, vs => if isNone vs = false then decide (runsL (known vs) = rs) else begins rs (ahead vs)
  | .count _ v c, vs => decide (((vs.filter fun o => decide (o = some v)).length : Int) ≤ c) && decide (c ≤ ((vs.filter fun o => decide (o = some v)).length : Int) + ((vs.filter fun o => decide (o = none)).length : Int))
theorem known_all : ∀ {vs : List (Option Int)}, isNone vs = false → vs.map ov = (known vs).map T.int
  | [], _ => rfl
  | none :: vs, h => by simp [isNone] at h
  | some i :: vs, h => by
    have h2 : isNone vs = false := by simpa [isNone] using h
    have := known_all h2
    simp [known, ov] at this ⊢
    exact this
theorem known_len_le (vs : List (Option Int)) : (known vs).length ≤ vs.length := List.length_filterMap_le _ _
section
variable {P : Program} {w : World} {K : PySem.W.Frag} {mg : Str → Option Value} {base : Heap} (T_ : Tx K mg)
def RS.tree : RS → T
  | .unlike ss => .ins T_.cUnlike.C ["spots"] [spT ss]
  | .sum ss w => .ins T_.cSum.C ["spots", "whole"] [spT ss, .int w]
  | .less a b => .ins T_.cLess.C ["spots"] [spT [a, b]]
  | .gap a b d => .ins T_.cGap.C ["spots", "much"] [spT [a, b], .int d]
  | .tops ss c => .ins T_.cTops.C ["spots", "count"] [spT ss, .int c]
  | .runs ss rs => .ins T_.cRuns.C ["spots", "runs"] [spT ss, .tup (rs.map T.int)]
  | .count ss v c => .ins T_.cCount.C ["spots", "value", "count"] [spT ss, .int v, .int c]
abbrev sI (i : Nat) : Stmt := inClass (top i) 0
abbrev sM (i : Nat) : Stmt := inClass (top i) 1
abbrev sS (i : Nat) : Stmt := inClass (top i) 2
theorem none_any (vs : List (Option Int)) : ((vs.map ov).any fun x => teq x .non) = isNone vs := by
  have h := enc_ov.any none vs
  unfold isNone
  exact h.trans (decide_eq_decide.mpr Iff.rfl)
/-! ### Unlike -/
theorem sc12i : FnScope ["self", "spots"] ["self", "spots"] (defScope (sI 12)) := by walk_at "sc"
theorem unlike_init {q : T} (ss : List Sq) (hq : q = .lst (ss.map sqT) ∨ q = .tup (ss.map sqT)) (h : spotsOk ss = true) (few : ss.length < 64) : Inits P w K mg base 2 T_.cUnlike.init.f T_.cUnlike.init.fd ["self", "spots"] T_.cUnlike.C [q] ["spots"] [spT ss] :=
  inits_of [.ow (.ins T_.cUnlike.C [] []), .sh q] T_.cUnlike.init.F sc12i rfl rfl ⟨_, sgs_one (sg_fld (j := 0) (t := spT ss) T_.cUnlike.cl T_.cUnlike.nSpots (eg_fn (T_.check_spots.ok rfl rfl) (by walk_at "gl") (check_spots_ok T_ ss hq h few) (by walk_at "lv") (pas_cons (eg_sh (i := 1) (by walk_at "vo") rfl) eas_nil)) (by walk_at "vo") rfl (by simp) (by decide)), rfl⟩
theorem unlike_initX {q : T} (ss : List Sq) (hq : q = .lst (ss.map sqT) ∨ q = .tup (ss.map sqT)) (h : spotsOk ss = false) (few : ss.length < 64) : InitErrs P w K mg base 2 T_.cUnlike.init.f T_.cUnlike.init.fd ["self", "spots"] T_.cUnlike.C [q] T_.xRule.C :=
  initErrs_of [.ow (.ins T_.cUnlike.C [] []), .sh q] T_.cUnlike.init.F sc12i rfl rfl ⟨_, sgs_one (sg_fldX (ex_fn (T_.check_spots.ok rfl rfl) (by walk_at "gl") (check_spots_no T_ ss hq h few) (by walk_at "lv") (pas_cons (eg_sh (i := 1) (by walk_at "vo") rfl) eas_nil))), _, _, rfl⟩
theorem sc12m : FnScope ["self", "values", "known"] ["self", "values"] (defScope (sM 12)) := by walk_at "sc"
theorem unlike_may (ss : List Sq) (vs : List (Option Int)) (few : vs.length < 64) : Gives P w K mg base 2 T_.cUnlike.mayF.f T_.cUnlike.mayF.fd ["self", "values"] [RS.tree T_ (.unlike ss), valsT vs] (.bl ((RS.unlike ss).may vs)) := by
  have e : (RS.unlike ss).may vs = teq (.int ((dist (known vs)).length : Nat)) (.int (((known vs).map T.int).length : Nat)) := by
    rw [enc_int.eq, List.length_map]
    show decide _ = decide _
    have := dist_all (l := known vs)
    by_cases h : (known vs).Nodup
    · rw [decide_eq_true h, decide_eq_true (by rw [this.mpr h])]
    · rw [decide_eq_false h, decide_eq_false (fun z => h (this.mp (by omega)))]
  have kl := known_len_le vs
  rw [e]
  refine gives_p [.sh (RS.tree T_ (.unlike ss)), .sh (valsT vs), .no] T_.cUnlike.mayF.F sc12m rfl rfl (sgr_cons (sg_setP (i := 2) (t := .lst ((known vs).map T.int)) (by walk_at "so") (eg_fn (T_.known_of.ok rfl rfl) (by walk_at "gl") (known_of_ok T_ vs (by omega)) (by walk_at "lv") (pas_cons (eg_sh (i := 1) (by walk_at "vo") rfl) eas_nil)) (by walk_at "ln")) (sgr_ret ?_))
  exact pg_eq (n := 0) trivial trivial (eg_lenS (by walk_at "gl") T_.nLen (eg_setI (by walk_at "gl") T_.nSet (eg_sh (i := 2) (by walk_at "vo") rfl) (by omega)) (by have := dist_len_le (known vs); omega)) (eg_len .lst (by walk_at "gl") T_.nLen (eg_sh (i := 2) (by walk_at "vo") rfl))
theorem sc12s : FnScope ["self"] ["self"] (defScope (sS 12)) := by walk_at "sc"
theorem unlike_shown (ss : List Sq) : Gives P w K mg base 1 T_.cUnlike.shownF.f T_.cUnlike.shownF.fd ["self"] [RS.tree T_ (.unlike ss)] (.tup [.str "unlike", spT ss]) :=
  gives_p [.sh (RS.tree T_ (.unlike ss))] T_.cUnlike.shownF.F sc12s rfl rfl (sgr_ret (pg_tup2 eg_str (eg_fld T_.cUnlike.cl T_.cUnlike.nSpots (da_sh (eg_sh (i := 0) (by walk_at "vo") rfl)) rfl)))
/-! ### Sum -/
theorem sc13i : FnScope ["self", "spots", "whole"] ["self", "spots", "whole"] (defScope (sI 13)) := by walk_at "sc"
theorem sum_init {q : T} (ss : List Sq) (w0 : Int) (hq : q = .lst (ss.map sqT) ∨ q = .tup (ss.map sqT)) (h : spotsOk ss = true) (few : ss.length < 64) : Inits P w K mg base 2 T_.cSum.init.f T_.cSum.init.fd ["self", "spots", "whole"] T_.cSum.C [q, .int w0] ["spots", "whole"] [spT ss, .int w0] :=
  inits_of [.ow (.ins T_.cSum.C [] []), .sh q, .sh (.int w0)] T_.cSum.init.F sc13i rfl rfl ⟨_, sgs_cons (sg_fld (j := 0) (t := spT ss) T_.cSum.cl T_.cSum.nSpots (eg_fn (T_.check_spots.ok rfl rfl) (by walk_at "gl") (check_spots_ok T_ ss hq h few) (by walk_at "lv") (pas_cons (eg_sh (i := 1) (by walk_at "vo") rfl) eas_nil)) (by walk_at "vo") rfl (by simp) (by decide))
    (sgs_one (sg_fld (j := 0) (t := .int w0) T_.cSum.cl T_.nWhole (eg_sh (i := 2) (by walk_at "vo") rfl) (by walk_at "vo") rfl (by decide) (by decide))), rfl⟩
theorem sum_initX {q : T} (ss : List Sq) (w0 : Int) (hq : q = .lst (ss.map sqT) ∨ q = .tup (ss.map sqT)) (h : spotsOk ss = false) (few : ss.length < 64) : InitErrs P w K mg base 2 T_.cSum.init.f T_.cSum.init.fd ["self", "spots", "whole"] T_.cSum.C [q, .int w0] T_.xRule.C :=
  initErrs_of [.ow (.ins T_.cSum.C [] []), .sh q, .sh (.int w0)] T_.cSum.init.F sc13i rfl rfl ⟨_, sgs_stop (sg_fldX (ex_fn (T_.check_spots.ok rfl rfl) (by walk_at "gl") (check_spots_no T_ ss hq h few) (by walk_at "lv") (pas_cons (eg_sh (i := 1) (by walk_at "vo") rfl) eas_nil))) trivial, _, _, rfl⟩
theorem sc13m : FnScope ["self", "values", "total"] ["self", "values"] (defScope (sM 13)) := by walk_at "sc"
theorem sum_may (ss : List Sq) (w0 : Int) (vs : List (Option Int)) (few : vs.length < 64) : Gives P w K mg base 2 T_.cSum.mayF.f T_.cSum.mayF.fd ["self", "values"] [RS.tree T_ (.sum ss w0), valsT vs] (.bl ((RS.sum ss w0).may vs)) := by
  refine gives_p [.sh (RS.tree T_ (.sum ss w0)), .sh (valsT vs), .no] T_.cSum.mayF.F sc13m rfl rfl (sgr_cons (sg_setP (i := 2) (t := .int (known vs).sum) (by walk_at "so") (eg_sum (bs := known vs) rfl (by walk_at "gl") T_.nSum (eg_fn (T_.known_of.ok rfl rfl) (by walk_at "gl") (known_of_ok T_ vs (by omega)) (by walk_at "lv") (pas_cons (eg_sh (i := 1) (by walk_at "vo") rfl) eas_nil))) (by walk_at "ln")) ?_)
  cases hn : isNone vs with
  | true =>
    have e : (RS.sum ss w0).may vs = decide ((known vs).sum ≤ w0) := by show (if isNone vs = true then _ else _) = _; rw [if_pos hn]
    rw [e]
    exact sgr_ifT (d := (vs.map ov).any fun x => teq x .non) (by rw [none_any]; exact hn) (tt_inL (n := 1) eg_non (eg_sh (i := 1) (by walk_at "vo") rfl) trivial (enc_ov.in_ vs)) (sgr_ret (pg_le (eg_sh (i := 2) (by walk_at "vo") rfl) (eg_fld T_.cSum.cl T_.nWhole (da_sh (eg_sh (i := 0) (by walk_at "vo") rfl)) rfl)))
  | false =>
    have e : (RS.sum ss w0).may vs = teq (.int (known vs).sum) (.int w0) := by show (if isNone vs = true then _ else _) = _; rw [if_neg (by rw [hn]; exact Bool.false_ne_true), enc_int.eq]
    rw [e]
    exact sgr_ifFn (d := (vs.map ov).any fun x => teq x .non) (by rw [none_any]; exact hn) (tt_inL (n := 1) eg_non (eg_sh (i := 1) (by walk_at "vo") rfl) trivial (enc_ov.in_ vs)) (sgr_ret (pg_eq (n := 0) trivial trivial (eg_sh (i := 2) (by walk_at "vo") rfl) (eg_fld T_.cSum.cl T_.nWhole (da_sh (eg_sh (i := 0) (by walk_at "vo") rfl)) rfl)))
theorem sc13s : FnScope ["self"] ["self"] (defScope (sS 13)) := by walk_at "sc"
theorem sum_shown (ss : List Sq) (w0 : Int) : Gives P w K mg base 1 T_.cSum.shownF.f T_.cSum.shownF.fd ["self"] [RS.tree T_ (.sum ss w0)] (.tup [.str "sum", spT ss, .int w0]) :=
  gives_p [.sh (RS.tree T_ (.sum ss w0))] T_.cSum.shownF.F sc13s rfl rfl (sgr_ret (pg_tup3 eg_str (eg_fld T_.cSum.cl T_.cSum.nSpots (da_sh (eg_sh (i := 0) (by walk_at "vo") rfl)) rfl) (eg_fld T_.cSum.cl T_.nWhole (da_sh (eg_sh (i := 0) (by walk_at "vo") rfl)) rfl)))
/-! ### Less -/
theorem sc14i : FnScope ["self", "one", "other"] ["self", "one", "other"] (defScope (sI 14)) := by walk_at "sc"
theorem less_init (a b : Sq) (h : spotsOk [a, b] = true) : Inits P w K mg base 2 T_.cLess.init.f T_.cLess.init.fd ["self", "one", "other"] T_.cLess.C [sqT a, sqT b] ["spots"] [spT [a, b]] :=
  inits_of [.ow (.ins T_.cLess.C [] []), .sh (sqT a), .sh (sqT b)] T_.cLess.init.F sc14i rfl rfl ⟨_, sgs_one (sg_fld (j := 0) (t := spT [a, b]) T_.cLess.cl T_.cLess.nSpots (eg_fn (T_.check_spots.ok rfl rfl) (by walk_at "gl") (check_spots_ok T_ [a, b] (q := .tup [sqT a, sqT b]) (.inr rfl) h (by simp)) (by walk_at "lv") (pas_cons (pg_tup2 (eg_sh (i := 1) (by walk_at "vo") rfl) (eg_sh (i := 2) (by walk_at "vo") rfl)) eas_nil)) (by walk_at "vo") rfl (by simp) (by decide)), rfl⟩
theorem less_initX (a b : Sq) (h : spotsOk [a, b] = false) : InitErrs P w K mg base 2 T_.cLess.init.f T_.cLess.init.fd ["self", "one", "other"] T_.cLess.C [sqT a, sqT b] T_.xRule.C :=
  initErrs_of [.ow (.ins T_.cLess.C [] []), .sh (sqT a), .sh (sqT b)] T_.cLess.init.F sc14i rfl rfl ⟨_, sgs_one (sg_fldX (ex_fn (T_.check_spots.ok rfl rfl) (by walk_at "gl") (check_spots_no T_ [a, b] (q := .tup [sqT a, sqT b]) (.inr rfl) h (by simp)) (by walk_at "lv") (pas_cons (pg_tup2 (eg_sh (i := 1) (by walk_at "vo") rfl) (eg_sh (i := 2) (by walk_at "vo") rfl)) eas_nil))), _, _, rfl⟩
theorem two_known {vs : List (Option Int)} (h2 : vs.length = 2) (h : isNone vs = false) : ∃ x y, vs.map ov = [.int x, .int y] ∧ known vs = [x, y] := by
  match vs, h2 with
  | [some x, some y], _ => exact ⟨x, y, rfl, rfl⟩
  | [none, _], _ => simp [isNone] at h
  | [some _, none], _ => simp [isNone] at h
theorem at_0 {t : T} {ts : List T} : atI (t :: ts) 0 = some t := atI_at (n := 0) rfl
theorem at_1 {t u : T} {ts : List T} : atI (t :: u :: ts) 1 = some u := atI_at (n := 1) rfl
theorem sc14m : FnScope ["self", "values"] ["self", "values"] (defScope (sM 14)) := by walk_at "sc"
theorem less_may (a b : Sq) (vs : List (Option Int)) (h2 : vs.length = 2) : Gives P w K mg base 1 T_.cLess.mayF.f T_.cLess.mayF.fd ["self", "values"] [RS.tree T_ (.less a b), valsT vs] (.bl ((RS.less a b).may vs)) := by
  refine gives_p [.sh (RS.tree T_ (.less a b)), .sh (valsT vs)] T_.cLess.mayF.F sc14m rfl rfl (sgr_ret (eg_orV (c := isNone vs) (by rw [← none_any]; exact eg_inL (n := 1) eg_non (eg_sh (i := 1) (by walk_at "vo") rfl) trivial (enc_ov.in_ vs)) fun hn => ?_))
  obtain ⟨x, y, e1, e2⟩ := two_known h2 hn
  rw [e2]
  exact eg_or1 (pg_lt (pg_item .lst (i := 0) (ts := vs.map ov) (by rw [e1]; exact at_0) (eg_sh (i := 1) (by walk_at "vo") rfl) eg_int) (pg_item .lst (i := 1) (ts := vs.map ov) (by rw [e1]; exact at_1) (eg_sh (i := 1) (by walk_at "vo") rfl) eg_int))
theorem sc14s : FnScope ["self"] ["self"] (defScope (sS 14)) := by walk_at "sc"
theorem less_shown (a b : Sq) : Gives P w K mg base 1 T_.cLess.shownF.f T_.cLess.shownF.fd ["self"] [RS.tree T_ (.less a b)] (.tup [.str "less", spT [a, b]]) :=
  gives_p [.sh (RS.tree T_ (.less a b))] T_.cLess.shownF.F sc14s rfl rfl (sgr_ret (pg_tup2 eg_str (eg_fld T_.cLess.cl T_.cLess.nSpots (da_sh (eg_sh (i := 0) (by walk_at "vo") rfl)) rfl)))
/-! ### Gap -/
theorem sc15i : FnScope ["self", "one", "other", "much"] ["self", "one", "other", "much"] (defScope (sI 15)) := by walk_at "sc"
theorem gap_init (a b : Sq) (d : Int) (hd : 0 ≤ d) (h : spotsOk [a, b] = true) : Inits P w K mg base 2 T_.cGap.init.f T_.cGap.init.fd ["self", "one", "other", "much"] T_.cGap.C [sqT a, sqT b, .int d] ["spots", "much"] [spT [a, b], .int d] :=
  inits_of [.ow (.ins T_.cGap.C [] []), .sh (sqT a), .sh (sqT b), .sh (.int d)] T_.cGap.init.F sc15i rfl rfl ⟨_, sgs_cons (sg_ifFn (d := decide (d < 0)) (by simpa using hd) (pt_lt (eg_sh (i := 3) (by walk_at "vo") rfl) eg_int)) (sgs_cons (sg_fld (j := 0) (t := spT [a, b]) T_.cGap.cl T_.cGap.nSpots (eg_fn (T_.check_spots.ok rfl rfl) (by walk_at "gl") (check_spots_ok T_ [a, b] (q := .tup [sqT a, sqT b]) (.inr rfl) h (by simp)) (by walk_at "lv") (pas_cons (pg_tup2 (eg_sh (i := 1) (by walk_at "vo") rfl) (eg_sh (i := 2) (by walk_at "vo") rfl)) eas_nil)) (by walk_at "vo") rfl (by simp) (by decide))
    (sgs_one (sg_fld (j := 0) (t := .int d) T_.cGap.cl T_.nMuch (eg_sh (i := 3) (by walk_at "vo") rfl) (by walk_at "vo") rfl (by decide) (by decide)))), rfl⟩
theorem gap_initX (a b : Sq) (d : Int) (hd : d < 0) : InitErrs P w K mg base 2 T_.cGap.init.f T_.cGap.init.fd ["self", "one", "other", "much"] T_.cGap.C [sqT a, sqT b, .int d] T_.xRule.C :=
  initErrs_of [.ow (.ins T_.cGap.C [] []), .sh (sqT a), .sh (sqT b), .sh (.int d)] T_.cGap.init.F sc15i rfl rfl ⟨_, sgs_stop (sg_ifT (d := decide (d < 0)) (by simpa using hd) (pt_lt (eg_sh (i := 3) (by walk_at "vo") rfl) eg_int) (sgs_one (sg_raise (T_.xRule.ok rfl rfl) (by walk_at "gl")))) trivial, _, _, rfl⟩
theorem sc15m : FnScope ["self", "values"] ["self", "values"] (defScope (sM 15)) := by walk_at "sc"
theorem gap_may (a b : Sq) (d : Int) (vs : List (Option Int)) (h2 : vs.length = 2) : Gives P w K mg base 1 T_.cGap.mayF.f T_.cGap.mayF.fd ["self", "values"] [RS.tree T_ (.gap a b d), valsT vs] (.bl ((RS.gap a b d).may vs)) := by
  refine gives_p [.sh (RS.tree T_ (.gap a b d)), .sh (valsT vs)] T_.cGap.mayF.F sc15m rfl rfl (sgr_ret (eg_orV (c := isNone vs) (by rw [← none_any]; exact eg_inL (n := 1) eg_non (eg_sh (i := 1) (by walk_at "vo") rfl) trivial (enc_ov.in_ vs)) fun hn => ?_))
  obtain ⟨x, y, e1, e2⟩ := two_known h2 hn
  rw [e2, ← enc_int.eq]
  exact eg_or1 (pg_eq (n := 0) trivial trivial (eg_abs (by walk_at "gl") T_.nAbs (pg_sub (pg_item .lst (i := 0) (ts := vs.map ov) (by rw [e1]; exact at_0) (eg_sh (i := 1) (by walk_at "vo") rfl) eg_int) (pg_item .lst (i := 1) (ts := vs.map ov) (by rw [e1]; exact at_1) (eg_sh (i := 1) (by walk_at "vo") rfl) eg_int))) (eg_fld T_.cGap.cl T_.nMuch (da_sh (eg_sh (i := 0) (by walk_at "vo") rfl)) rfl))
theorem sc15s : FnScope ["self"] ["self"] (defScope (sS 15)) := by walk_at "sc"
theorem gap_shown (a b : Sq) (d : Int) : Gives P w K mg base 1 T_.cGap.shownF.f T_.cGap.shownF.fd ["self"] [RS.tree T_ (.gap a b d)] (.tup [.str "gap", spT [a, b], .int d]) :=
  gives_p [.sh (RS.tree T_ (.gap a b d))] T_.cGap.shownF.F sc15s rfl rfl (sgr_ret (pg_tup3 eg_str (eg_fld T_.cGap.cl T_.cGap.nSpots (da_sh (eg_sh (i := 0) (by walk_at "vo") rfl)) rfl) (eg_fld T_.cGap.cl T_.nMuch (da_sh (eg_sh (i := 0) (by walk_at "vo") rfl)) rfl)))
/-! ### Tops -/
theorem sc16i : FnScope ["self", "spots", "count"] ["self", "spots", "count"] (defScope (sI 16)) := by walk_at "sc"
theorem tops_init {q : T} (ss : List Sq) (c : Int) (hq : q = .lst (ss.map sqT) ∨ q = .tup (ss.map sqT)) (h : spotsOk ss = true) (few : ss.length < 64) : Inits P w K mg base 2 T_.cTops.init.f T_.cTops.init.fd ["self", "spots", "count"] T_.cTops.C [q, .int c] ["spots", "count"] [spT ss, .int c] :=
  inits_of [.ow (.ins T_.cTops.C [] []), .sh q, .sh (.int c)] T_.cTops.init.F sc16i rfl rfl ⟨_, sgs_cons (sg_fld (j := 0) (t := spT ss) T_.cTops.cl T_.cTops.nSpots (eg_fn (T_.check_spots.ok rfl rfl) (by walk_at "gl") (check_spots_ok T_ ss hq h few) (by walk_at "lv") (pas_cons (eg_sh (i := 1) (by walk_at "vo") rfl) eas_nil)) (by walk_at "vo") rfl (by simp) (by decide))
    (sgs_one (sg_fld (j := 0) (t := .int c) T_.cTops.cl T_.nTopsCount (eg_sh (i := 2) (by walk_at "vo") rfl) (by walk_at "vo") rfl (by decide) (by decide))), rfl⟩
theorem tops_initX {q : T} (ss : List Sq) (c : Int) (hq : q = .lst (ss.map sqT) ∨ q = .tup (ss.map sqT)) (h : spotsOk ss = false) (few : ss.length < 64) : InitErrs P w K mg base 2 T_.cTops.init.f T_.cTops.init.fd ["self", "spots", "count"] T_.cTops.C [q, .int c] T_.xRule.C :=
  initErrs_of [.ow (.ins T_.cTops.C [] []), .sh q, .sh (.int c)] T_.cTops.init.F sc16i rfl rfl ⟨_, sgs_stop (sg_fldX (ex_fn (T_.check_spots.ok rfl rfl) (by walk_at "gl") (check_spots_no T_ ss hq h few) (by walk_at "lv") (pas_cons (eg_sh (i := 1) (by walk_at "vo") rfl) eas_nil))) trivial, _, _, rfl⟩
theorem sc16m : FnScope ["self", "values"] ["self", "values"] (defScope (sM 16)) := by walk_at "sc"
theorem tops_may (ss : List Sq) (c : Int) (vs : List (Option Int)) (few : vs.length < 64) : Gives P w K mg base 2 T_.cTops.mayF.f T_.cTops.mayF.fd ["self", "values"] [RS.tree T_ (.tops ss c), valsT vs] (.bl ((RS.tops ss c).may vs)) := by
  refine gives_p [.sh (RS.tree T_ (.tops ss c)), .sh (valsT vs)] T_.cTops.mayF.F sc16m rfl rfl (sgr_ret (eg_orV (c := isNone vs) (by rw [← none_any]; exact eg_inL (n := 1) eg_non (eg_sh (i := 1) (by walk_at "vo") rfl) trivial (enc_ov.in_ vs)) fun hn => ?_))
  have kl := known_len_le vs
  rw [← enc_int.eq]
  exact eg_or1 (pg_eq (n := 0) trivial trivial (eg_fn (T_.tops.ok rfl rfl) (by walk_at "gl") (tops_ok T_ (known vs) (by omega)) (by walk_at "lv") (pas_cons (by rw [← known_all hn]; exact (eg_sh (i := 1) (by walk_at "vo") rfl)) eas_nil)) (eg_fld T_.cTops.cl T_.nTopsCount (da_sh (eg_sh (i := 0) (by walk_at "vo") rfl)) rfl))
theorem sc16s : FnScope ["self"] ["self"] (defScope (sS 16)) := by walk_at "sc"
theorem tops_shown (ss : List Sq) (c : Int) : Gives P w K mg base 1 T_.cTops.shownF.f T_.cTops.shownF.fd ["self"] [RS.tree T_ (.tops ss c)] (.tup [.str "tops", spT ss, .int c]) :=
  gives_p [.sh (RS.tree T_ (.tops ss c))] T_.cTops.shownF.F sc16s rfl rfl (sgr_ret (pg_tup3 eg_str (eg_fld T_.cTops.cl T_.cTops.nSpots (da_sh (eg_sh (i := 0) (by walk_at "vo") rfl)) rfl) (eg_fld T_.cTops.cl T_.nTopsCount (da_sh (eg_sh (i := 0) (by walk_at "vo") rfl)) rfl)))
/-! ### Runs -/
/-- the runs stand in so many squares -/
def fits (n : Nat) (rs : List Int) : Bool := !((rs.map fun r => decide (r < 1)).any id || decide ((n : Int) < rs.sum + (if (rs.length : Int) - 1 > 0 then (rs.length : Int) - 1 else 0)))
theorem sc17i : FnScope ["self", "spots", "runs", "run"] ["self", "spots", "runs"] (defScope (sI 17)) := by walk_at "sc"
theorem runs_init {q : T} (ss : List Sq) (rs : List Int) (hq : q = .lst (ss.map sqT) ∨ q = .tup (ss.map sqT)) (h : spotsOk ss = true) (few : ss.length < 64) (hr : fits ss.length rs = true) (fr : rs.length < 64) : Inits P w K mg base 2 T_.cRuns.init.f T_.cRuns.init.fd ["self", "spots", "runs"] T_.cRuns.C [q, .lst (rs.map T.int)] ["spots", "runs"] [spT ss, .tup (rs.map T.int)] := by
  refine inits_of [.ow (.ins T_.cRuns.C [] []), .sh q, .sh (.lst (rs.map T.int)), .no] T_.cRuns.init.F sc17i rfl rfl ⟨_, sgs_cons (sg_fld (j := 0) (t := spT ss) T_.cRuns.cl T_.cRuns.nSpots (eg_fn (T_.check_spots.ok rfl rfl) (by walk_at "gl") (check_spots_ok T_ ss hq h few) (by walk_at "lv") (pas_cons (eg_sh (i := 1) (by walk_at "vo") rfl) eas_nil)) (by walk_at "vo") rfl (by simp) (by decide))
    (sgs_cons (sg_fld (j := 0) (t := .tup (rs.map T.int)) T_.cRuns.cl T_.nRuns (eg_tupleL (by walk_at "gl") T_.nTuple (eg_sh (i := 2) (by walk_at "vo") rfl)) (by walk_at "vo") rfl (by decide) (by decide)) (sgs_one (sg_ifFn (d := ((rs.map fun r => decide (r < 1)).any id || decide ((((ss.map sqT).length : Nat) : Int) < rs.sum + (if (((rs.map T.int).length : Nat) : Int) - 1 > 0 then (((rs.map T.int).length : Nat) : Int) - 1 else 0)))) ?_ (tg_w (wg_or (tg_val (eg_any (bs := rs.map fun r => decide (r < 1)) (by walk_at "gl") T_.nAny (by rw [List.map_map]; exact eg_lcN (α := Int) (toT := T.int) (f := T.bl ∘ fun r => decide (r < 1)) (i := 3) (by walk_at "bk") (by walk_at "nd") (by walk_at "so") (by simp) (by intro t; simp) (by omega) (pg_iter .tup (eg_fld T_.cRuns.cl T_.nRuns (da_ow (i := 0) (by walk_at "vo") rfl rfl) rfl)) fun a _ => pg_lt (eg_sh (i := 3) (by walk_at "vo") rfl) eg_int))) fun _ =>
    wg_or1 (pt_gt (pg_add (eg_sumT (by walk_at "gl") T_.nSum (eg_fld T_.cRuns.cl T_.nRuns (da_ow (i := 0) (by walk_at "vo") rfl rfl) rfl)) (eg_max2 (by walk_at "gl") T_.nMax eg_int (pg_sub (eg_len .tup (by walk_at "gl") T_.nLen (eg_fld T_.cRuns.cl T_.nRuns (da_ow (i := 0) (by walk_at "vo") rfl rfl) rfl)) eg_int))) (eg_len .tup (by walk_at "gl") T_.nLen (eg_fld T_.cRuns.cl T_.cRuns.nSpots (da_ow (i := 0) (by walk_at "vo") rfl rfl) rfl)))))))), rfl⟩
  unfold fits at hr
  rw [List.length_map, List.length_map]
  simpa using hr
theorem runs_initX {q : T} (ss : List Sq) (rs : List Int) (hq : q = .lst (ss.map sqT) ∨ q = .tup (ss.map sqT)) (h : spotsOk ss = true) (few : ss.length < 64) (hr : fits ss.length rs = false) (fr : rs.length < 64) : InitErrs P w K mg base 2 T_.cRuns.init.f T_.cRuns.init.fd ["self", "spots", "runs"] T_.cRuns.C [q, .lst (rs.map T.int)] T_.xRule.C := by
  refine initErrs_of [.ow (.ins T_.cRuns.C [] []), .sh q, .sh (.lst (rs.map T.int)), .no] T_.cRuns.init.F sc17i rfl rfl ⟨_, sgs_cons (sg_fld (j := 0) (t := spT ss) T_.cRuns.cl T_.cRuns.nSpots (eg_fn (T_.check_spots.ok rfl rfl) (by walk_at "gl") (check_spots_ok T_ ss hq h few) (by walk_at "lv") (pas_cons (eg_sh (i := 1) (by walk_at "vo") rfl) eas_nil)) (by walk_at "vo") rfl (by simp) (by decide))
    (sgs_cons (sg_fld (j := 0) (t := .tup (rs.map T.int)) T_.cRuns.cl T_.nRuns (eg_tupleL (by walk_at "gl") T_.nTuple (eg_sh (i := 2) (by walk_at "vo") rfl)) (by walk_at "vo") rfl (by decide) (by decide)) (sgs_one (sg_ifT (d := ((rs.map fun r => decide (r < 1)).any id || decide ((((ss.map sqT).length : Nat) : Int) < rs.sum + (if (((rs.map T.int).length : Nat) : Int) - 1 > 0 then (((rs.map T.int).length : Nat) : Int) - 1 else 0)))) ?_ (tg_w (wg_or (tg_val (eg_any (bs := rs.map fun r => decide (r < 1)) (by walk_at "gl") T_.nAny (by rw [List.map_map]; exact eg_lcN (α := Int) (toT := T.int) (f := T.bl ∘ fun r => decide (r < 1)) (i := 3) (by walk_at "bk") (by walk_at "nd") (by walk_at "so") (by simp) (by intro t; simp) (by omega) (pg_iter .tup (eg_fld T_.cRuns.cl T_.nRuns (da_ow (i := 0) (by walk_at "vo") rfl rfl) rfl)) fun a _ => pg_lt (eg_sh (i := 3) (by walk_at "vo") rfl) eg_int))) fun _ =>
    wg_or1 (pt_gt (pg_add (eg_sumT (by walk_at "gl") T_.nSum (eg_fld T_.cRuns.cl T_.nRuns (da_ow (i := 0) (by walk_at "vo") rfl rfl) rfl)) (eg_max2 (by walk_at "gl") T_.nMax eg_int (pg_sub (eg_len .tup (by walk_at "gl") T_.nLen (eg_fld T_.cRuns.cl T_.nRuns (da_ow (i := 0) (by walk_at "vo") rfl rfl) rfl)) eg_int))) (eg_len .tup (by walk_at "gl") T_.nLen (eg_fld T_.cRuns.cl T_.cRuns.nSpots (da_ow (i := 0) (by walk_at "vo") rfl rfl) rfl))))) (sgs_one (sg_raise (T_.xRule.ok rfl rfl) (by walk_at "gl")))))), _, _, rfl⟩
  unfold fits at hr
  rw [List.length_map, List.length_map]
  simpa only [Bool.not_eq_false'] using hr
theorem sc17m : FnScope ["self", "values"] ["self", "values"] (defScope (sM 17)) := by walk_at "sc"
theorem runs_may (ss : List Sq) (rs : List Int) (vs : List (Option Int)) (few : vs.length < 64) : Gives P w K mg base 3 T_.cRuns.mayF.f T_.cRuns.mayF.fd ["self", "values"] [RS.tree T_ (.runs ss rs), valsT vs] (.bl ((RS.runs ss rs).may vs)) := by
  refine gives_p [.sh (RS.tree T_ (.runs ss rs)), .sh (valsT vs)] T_.cRuns.mayF.F sc17m rfl rfl ?_
  have kl := known_len_le vs
  cases hn : isNone vs with
  | false =>
    have e : (RS.runs ss rs).may vs = decide (runsL (known vs) = rs) := by show (if isNone vs = false then _ else _) = _; rw [if_pos hn]
    have s1 : teq (.tup ((runsL (known vs)).map T.int)) (.tup (rs.map T.int)) = decide (runsL (known vs) = rs) := enc_int.tup.eq _ _
    rw [e, ← s1]
    exact sgr_ifT (d := !((vs.map ov).any fun x => teq x .non)) (by rw [none_any, hn]; rfl) (tt_ninL (n := 1) eg_non (eg_sh (i := 1) (by walk_at "vo") rfl) trivial (enc_ov.in_ vs)) (sgr_ret (pg_eq (n := 1) (enc_int.tup.ok _) (enc_int.tup.ok _) (eg_fn (T_.runs_of.ok rfl rfl) (by walk_at "gl") (runs_of_ok T_ (q := .lst ((known vs).map T.int)) (known vs) .lst (by omega)) (by walk_at "lv") (pas_cons (by rw [← known_all hn]; exact (eg_sh (i := 1) (by walk_at "vo") rfl)) eas_nil)) (eg_fld T_.cRuns.cl T_.nRuns (da_sh (eg_sh (i := 0) (by walk_at "vo") rfl)) rfl)))
  | true =>
    have e : (RS.runs ss rs).may vs = begins rs (ahead vs) := by show (if isNone vs = false then _ else _) = _; rw [if_neg (by rw [hn]; simp)]
    have hm : none ∈ vs := by unfold isNone at hn; exact of_decide_eq_true hn
    have al : (ahead vs).length ≤ vs.length := by rw [ahead_len]; exact (List.takeWhile_sublist _).length_le
    rw [e]
    exact sgr_ifFn (d := !((vs.map ov).any fun x => teq x .non)) (by rw [none_any, hn]; rfl) (tt_ninL (n := 1) eg_non (eg_sh (i := 1) (by walk_at "vo") rfl) trivial (enc_ov.in_ vs)) (sgr_ret (eg_fn (T_.may_begin_with.ok rfl rfl) (by walk_at "gl") (may_begin_with_ok T_ rs (ahead vs) (by omega)) (by walk_at "lv") (pas_cons (eg_fld T_.cRuns.cl T_.nRuns (da_sh (eg_sh (i := 0) (by walk_at "vo") rfl)) rfl) (pas_cons (eg_fn (T_.ahead_of_unknown.ok rfl rfl) (by walk_at "gl") (ahead_of_unknown_ok T_ vs hm) (by walk_at "lv") (pas_cons (eg_sh (i := 1) (by walk_at "vo") rfl) eas_nil)) eas_nil))))
theorem sc17s : FnScope ["self"] ["self"] (defScope (sS 17)) := by walk_at "sc"
theorem runs_shown (ss : List Sq) (rs : List Int) : Gives P w K mg base 1 T_.cRuns.shownF.f T_.cRuns.shownF.fd ["self"] [RS.tree T_ (.runs ss rs)] (.tup [.str "runs", spT ss, .tup (rs.map T.int)]) :=
  gives_p [.sh (RS.tree T_ (.runs ss rs))] T_.cRuns.shownF.F sc17s rfl rfl (sgr_ret (pg_tup3 eg_str (eg_fld T_.cRuns.cl T_.cRuns.nSpots (da_sh (eg_sh (i := 0) (by walk_at "vo") rfl)) rfl) (eg_fld T_.cRuns.cl T_.nRuns (da_sh (eg_sh (i := 0) (by walk_at "vo") rfl)) rfl)))
/-! ### Count -/
theorem sc18i : FnScope ["self", "spots", "value", "count"] ["self", "spots", "value", "count"] (defScope (sI 18)) := by walk_at "sc"
theorem count_init {q : T} (ss : List Sq) (v c : Int) (hq : q = .lst (ss.map sqT) ∨ q = .tup (ss.map sqT)) (h : spotsOk ss = true) (few : ss.length < 64) : Inits P w K mg base 2 T_.cCount.init.f T_.cCount.init.fd ["self", "spots", "value", "count"] T_.cCount.C [q, .int v, .int c] ["spots", "value", "count"] [spT ss, .int v, .int c] :=
  inits_of [.ow (.ins T_.cCount.C [] []), .sh q, .sh (.int v), .sh (.int c)] T_.cCount.init.F sc18i rfl rfl ⟨_, sgs_cons (sg_fld (j := 0) (t := spT ss) T_.cCount.cl T_.cCount.nSpots (eg_fn (T_.check_spots.ok rfl rfl) (by walk_at "gl") (check_spots_ok T_ ss hq h few) (by walk_at "lv") (pas_cons (eg_sh (i := 1) (by walk_at "vo") rfl) eas_nil)) (by walk_at "vo") rfl (by simp) (by decide))
    (sgs_cons (sg_fld (j := 0) (t := .int v) T_.cCount.cl T_.nValue (eg_sh (i := 2) (by walk_at "vo") rfl) (by walk_at "vo") rfl (by decide) (by decide)) (sgs_one (sg_fld (j := 0) (t := .int c) T_.cCount.cl T_.nCountCount (eg_sh (i := 3) (by walk_at "vo") rfl) (by walk_at "vo") rfl (by decide) (by decide)))), rfl⟩
theorem count_initX {q : T} (ss : List Sq) (v c : Int) (hq : q = .lst (ss.map sqT) ∨ q = .tup (ss.map sqT)) (h : spotsOk ss = false) (few : ss.length < 64) : InitErrs P w K mg base 2 T_.cCount.init.f T_.cCount.init.fd ["self", "spots", "value", "count"] T_.cCount.C [q, .int v, .int c] T_.xRule.C :=
  initErrs_of [.ow (.ins T_.cCount.C [] []), .sh q, .sh (.int v), .sh (.int c)] T_.cCount.init.F sc18i rfl rfl ⟨_, sgs_stop (sg_fldX (ex_fn (T_.check_spots.ok rfl rfl) (by walk_at "gl") (check_spots_no T_ ss hq h few) (by walk_at "lv") (pas_cons (eg_sh (i := 1) (by walk_at "vo") rfl) eas_nil))) trivial, _, _, rfl⟩
theorem sc18m : FnScope ["self", "values", "here", "left", "one"] ["self", "values"] (defScope (sM 18)) := by walk_at "sc"
theorem count_may (ss : List Sq) (v c : Int) (vs : List (Option Int)) (few : vs.length < 64) : Gives P w K mg base 1 T_.cCount.mayF.f T_.cCount.mayF.fd ["self", "values"] [RS.tree T_ (.count ss v c), valsT vs] (.bl ((RS.count ss v c).may vs)) := by
  have e1 : ((((vs.filter fun o => decide (o = some v)).map ov).length : Nat) : Int) = ((vs.filter fun o => decide (o = some v)).length : Int) := by rw [List.length_map]
  have e2 : ((((vs.filter fun o => isNon (ov o)).map ov).length : Nat) : Int) = ((vs.filter fun o => decide (o = none)).length : Int) := by
    rw [List.length_map]
    have : (fun o => isNon (ov o)) = fun o : Option Int => decide (o = none) := by funext o; cases o <;> rfl
    rw [this]
  show Gives P w K mg base 1 _ _ _ _ (.bl (decide (((vs.filter fun o => decide (o = some v)).length : Int) ≤ c) && decide (c ≤ ((vs.filter fun o => decide (o = some v)).length : Int) + ((vs.filter fun o => decide (o = none)).length : Int))))
  rw [← e1, ← e2]
  refine gives_p [.sh (RS.tree T_ (.count ss v c)), .sh (valsT vs), .no, .no, .no] T_.cCount.mayF.F sc18m rfl rfl (sgr_cons (sg_setP (i := 2) (t := .int ((((vs.filter fun o => decide (o = some v)).map ov).length : Nat) : Int)) (by walk_at "so") (eg_len .lst (by walk_at "gl") T_.nLen ?_) (by walk_at "ln")) (sgr_cons (sg_setP (i := 3) (t := .int ((((vs.filter fun o => isNon (ov o)).map ov).length : Nat) : Int)) (by walk_at "so") (eg_len .lst (by walk_at "gl") T_.nLen ?_) (by walk_at "ln"))
    (sgr_ret (pg_lele (eg_sh (i := 2) (by walk_at "vo") rfl) (eg_fld T_.cCount.cl T_.nCountCount (da_sh (eg_sh (i := 0) (by walk_at "vo") rfl)) rfl) (pg_add (eg_sh (i := 2) (by walk_at "vo") rfl) (eg_sh (i := 3) (by walk_at "vo") rfl))))))
  · refine eg_lcNF (α := Option Int) (toT := ov) (f := ov) (i := 4) (b := fun o => decide (o = some v)) (by walk_at "bk") (by walk_at "nd") (by walk_at "so") (by walk_at "ln") (by walk_at "no") (by omega) (pg_iter .lst (eg_sh (i := 1) (by walk_at "vo") rfl)) (fun a _ => ?_) (fun a _ _ => (eg_sh (i := 4) (by walk_at "vo") rfl))
    rw [← enc_ov.eq]
    exact pt_eq (n := 0) (enc_ov.ok a) trivial (eg_sh (i := 4) (by walk_at "vo") rfl) (eg_fld T_.cCount.cl T_.nValue (da_sh (eg_sh (i := 0) (by walk_at "vo") rfl)) rfl)
  · exact eg_lcNF (α := Option Int) (toT := ov) (f := ov) (i := 4) (b := fun o => isNon (ov o)) (by walk_at "bk") (by walk_at "nd") (by walk_at "so") (by walk_at "ln") (by walk_at "no") (by omega) (pg_iter .lst (eg_sh (i := 1) (by walk_at "vo") rfl)) (fun a _ => tt_isN (eg_sh (i := 4) (by walk_at "vo") rfl)) (fun a _ _ => (eg_sh (i := 4) (by walk_at "vo") rfl))
theorem sc18s : FnScope ["self"] ["self"] (defScope (sS 18)) := by walk_at "sc"
theorem count_shown (ss : List Sq) (v c : Int) : Gives P w K mg base 1 T_.cCount.shownF.f T_.cCount.shownF.fd ["self"] [RS.tree T_ (.count ss v c)] (.tup [.str "count", spT ss, .int v, .int c]) :=
  gives_p [.sh (RS.tree T_ (.count ss v c))] T_.cCount.shownF.F sc18s rfl rfl (sgr_ret (eg_tup (eas_cons eg_str (eas_cons (eg_fld T_.cCount.cl T_.cCount.nSpots (da_sh (eg_sh (i := 0) (by walk_at "vo") rfl)) rfl) (eas_cons (eg_fld T_.cCount.cl T_.nValue (da_sh (eg_sh (i := 0) (by walk_at "vo") rfl)) rfl) (eas_cons (eg_fld T_.cCount.cl T_.nCountCount (da_sh (eg_sh (i := 0) (by walk_at "vo") rfl)) rfl) eas_nil)))) (by simp)))
end
end K02
end Cw
end L2

set_option Elab.async false
set_option linter.all false
set_option maxRecDepth 100000
set_option maxHeartbeats 4000000
namespace L2
namespace Cw
namespace K02
open PySem PySem.Spec PyProof.Rows
local macro_rules | `(tactic| walk_at "vo") => `(tactic| exact ⟨rfl, by first | exact .inl rfl | exact .inr (.inl rfl) | exact .inr (.inr rfl), by decide, by decide⟩)
local macro_rules | `(tactic| walk_at "gl") => `(tactic| exact ⟨rfl, by decide⟩)
local macro_rules | `(tactic| walk_at "nd") => `(tactic| (dsimp only [SS.blk, defP]; decide +kernel))
local macro_rules | `(tactic| walk_at "so") => `(tactic| exact ⟨by walk_at "nd", rfl, by first | exact .inl rfl | exact .inr rfl, by first | exact .inl rfl | exact .inr rfl, by first | (dsimp only [SS.blk, defP, pins]; decide) | (simp [SS.blk, defP, pins, isOw, List.range_succ]; done)⟩)
local macro_rules | `(tactic| walk_at "bk") => `(tactic| exact blkOk_by (by walk_at "nd"))
local macro_rules | `(tactic| walk_at "ln") => `(tactic| (simp; done))
local macro_rules | `(tactic| walk_at "no") => `(tactic| (intro t; simp; done))
local macro_rules | `(tactic| walk_at "lv") => `(tactic| (dsimp only [SS.blk, defP]; decide))
local macro_rules | `(tactic| walk_at "sc") => `(tactic| exact ⟨rfl, rfl, rfl, by decide +kernel, rfl, by decide +kernel, by decide +kernel⟩)
/- a name's value -/
local macro_rules | `(tactic| walk_at "v") => `(tactic| first
  | exact eg_sh (i := 0) (by walk_at "vo") rfl | exact eg_sh (i := 1) (by walk_at "vo") rfl | exact eg_sh (i := 2) (by walk_at "vo") rfl | exact eg_sh (i := 3) (by walk_at "vo") rfl
  | exact eg_sh (i := 4) (by walk_at "vo") rfl | exact eg_sh (i := 5) (by walk_at "vo") rfl | exact eg_sh (i := 6) (by walk_at "vo") rfl | exact eg_sh (i := 7) (by walk_at "vo") rfl)

def keyQ (p : Sq) : NestedKey := .tup [.num p.1, .num p.2]
theorem keyQ_T (p : Sq) : KeyT (keyQ p) (sqT p) := by
  have e : sqT p = keyT (keyQ p) := by simp [sqT, tupI, keyQ, keyT, keyTs]
  rw [e]
  exact keyT_self _
theorem keyQ_depth (p : Sq) : (keyQ p).depth ≤ 8 := by simp [keyQ, NestedKey.depth, NestedKey.depthAll]
theorem keyQ_inj {p q : Sq} (h : keyQ p = keyQ q) : p = q := by
  simp only [keyQ, NestedKey.tup.injEq, List.cons.injEq, NestedKey.num.injEq, and_true] at h
  exact Prod.ext h.1 h.2
section
variable {P : Program} {w : World} {K : PySem.W.Frag} {mg : Str → Option Value} {base : Heap} (T_ : Tx K mg)
/-- as many values as the rule's words speak of -/
def RS.fitsN : RS → Nat → Prop
  | .less _ _, n => n = 2
  | .gap _ _ _, n => n = 2
  | _, n => n < 64
theorem eg_spots {S : SS} {E : List Ent} {e : Expr} {pos : Pos} {r : RS} (hK : S.K = K) (h : EG S E e (RS.tree T_ r) E) (hb : ∀ env, attributeBase e "spots" env (eval e env) = eval e env := by intro _; rfl) : EG S E (.Attribute e "spots" pos) (spT r.spots) E := by
  subst hK
  cases r with
  | unlike ss => exact eg_fld T_.cUnlike.cl T_.cUnlike.nSpots (da_sh h) rfl hb
  | sum ss w => exact eg_fld T_.cSum.cl T_.cSum.nSpots (da_sh h) rfl hb
  | less a b => exact eg_fld T_.cLess.cl T_.cLess.nSpots (da_sh h) rfl hb
  | gap a b d => exact eg_fld T_.cGap.cl T_.cGap.nSpots (da_sh h) rfl hb
  | tops ss c => exact eg_fld T_.cTops.cl T_.cTops.nSpots (da_sh h) rfl hb
  | runs ss rs => exact eg_fld T_.cRuns.cl T_.cRuns.nSpots (da_sh h) rfl hb
  | count ss v c => exact eg_fld T_.cCount.cl T_.cCount.nSpots (da_sh h) rfl hb
theorem eg_may {S : SS} {E : List Ent} {e e2 : Expr} {apos pos : Pos} {r : RS} {vs : List (Option Int)} (hP : S.P = P) (hw : S.w = w) (hK : S.K = K) (hm : S.mg = mg) (hB : S.base = base) (hk : 3 ≤ S.k) (ho : EG S E e (RS.tree T_ r) E) (ha : EG S E e2 (valsT vs) E) (hn : r.fitsN vs.length)
    (he : ∀ env, starEach [e2] env = (false, eval e2 env) :: starEach [] env := by intro _; rfl) (hc : MCall e "may" apos [e2] pos := by intro _; exact ⟨_, rfl⟩) : EG S E (.Call (.Attribute e "may" apos) [e2] [] pos) (.bl (r.may vs)) E := by
  subst hP hw hK hm hB
  cases r with
  | unlike ss => exact eg_meth T_.cUnlike.cl T_.cUnlike.mmay (by simp; decide) T_.cUnlike.mayF.bd ho (eas_cons ha eas_nil he) (unlike_may T_ ss vs hn) (by omega) hc he
  | sum ss w => exact eg_meth T_.cSum.cl T_.cSum.mmay (by simp; decide) T_.cSum.mayF.bd ho (eas_cons ha eas_nil he) (sum_may T_ ss w vs hn) (by omega) hc he
  | less a b => exact eg_meth T_.cLess.cl T_.cLess.mmay (by simp; decide) T_.cLess.mayF.bd ho (eas_cons ha eas_nil he) (less_may T_ a b vs hn) (by omega) hc he
  | gap a b d => exact eg_meth T_.cGap.cl T_.cGap.mmay (by simp; decide) T_.cGap.mayF.bd ho (eas_cons ha eas_nil he) (gap_may T_ a b d vs hn) (by omega) hc he
  | tops ss c => exact eg_meth T_.cTops.cl T_.cTops.mmay (by simp; decide) T_.cTops.mayF.bd ho (eas_cons ha eas_nil he) (tops_may T_ ss c vs hn) (by omega) hc he
  | runs ss rs => exact eg_meth T_.cRuns.cl T_.cRuns.mmay (by simp; decide) T_.cRuns.mayF.bd ho (eas_cons ha eas_nil he) (runs_may T_ ss rs vs hn) (by omega) hc he
  | count ss v c => exact eg_meth T_.cCount.cl T_.cCount.mmay (by simp; decide) T_.cCount.mayF.bd ho (eas_cons ha eas_nil he) (count_may T_ ss v c vs hn) (by omega) hc he
/-- what a rule shows -/
def RS.shown : RS → T
  | .unlike ss => .tup [.str "unlike", spT ss]
  | .sum ss w => .tup [.str "sum", spT ss, .int w]
  | .less a b => .tup [.str "less", spT [a, b]]
  | .gap a b d => .tup [.str "gap", spT [a, b], .int d]
  | .tops ss c => .tup [.str "tops", spT ss, .int c]
  | .runs ss rs => .tup [.str "runs", spT ss, .tup (rs.map T.int)]
  | .count ss v c => .tup [.str "count", spT ss, .int v, .int c]
theorem eg_shown {S : SS} {E : List Ent} {e : Expr} {apos pos : Pos} {r : RS} (hP : S.P = P) (hw : S.w = w) (hK : S.K = K) (hm : S.mg = mg) (hB : S.base = base) (hk : 1 ≤ S.k) (ho : EG S E e (RS.tree T_ r) E)
    (hc : MCall e "shown" apos [] pos := by intro _; exact ⟨_, rfl⟩) : EG S E (.Call (.Attribute e "shown" apos) [] [] pos) r.shown E := by
  subst hP hw hK hm hB
  cases r with
  | unlike ss => exact eg_meth0 (t0 := .non) T_.cUnlike.cl T_.cUnlike.mshown (by simp; decide) T_.cUnlike.shownF.bd ho (unlike_shown T_ ss) hk hc
  | sum ss w => exact eg_meth0 (t0 := .non) T_.cSum.cl T_.cSum.mshown (by simp; decide) T_.cSum.shownF.bd ho (sum_shown T_ ss w) hk hc
  | less a b => exact eg_meth0 (t0 := .non) T_.cLess.cl T_.cLess.mshown (by simp; decide) T_.cLess.shownF.bd ho (less_shown T_ a b) hk hc
  | gap a b d => exact eg_meth0 (t0 := .non) T_.cGap.cl T_.cGap.mshown (by simp; decide) T_.cGap.shownF.bd ho (gap_shown T_ a b d) hk hc
  | tops ss c => exact eg_meth0 (t0 := .non) T_.cTops.cl T_.cTops.mshown (by simp; decide) T_.cTops.shownF.bd ho (tops_shown T_ ss c) hk hc
  | runs ss rs => exact eg_meth0 (t0 := .non) T_.cRuns.cl T_.cRuns.mshown (by simp; decide) T_.cRuns.shownF.bd ho (runs_shown T_ ss rs) hk hc
  | count ss v c => exact eg_meth0 (t0 := .non) T_.cCount.cl T_.cCount.mshown (by simp; decide) T_.cCount.shownF.bd ho (count_shown T_ ss v c) hk hc
/-! ### kept -/
theorem sc25 : FnScope ["rule", "table", "values", "spot"] ["rule", "table"] (defScope (top 25)) := by walk_at "sc"
theorem kept_ok (r : RS) (l : List (NestedKey × T)) (f : Sq → Option Int) (hf : ∀ p ∈ r.spots, (getN l (keyQ p)).getD .non = ov (f p)) (hn : r.fitsN r.spots.length) (few : r.spots.length < 64) : Gives P w K mg base 4 T_.kept.f T_.kept.fd ["rule", "table"] [RS.tree T_ r, dN w l] (.bl (!isNone (r.spots.map f) && r.may (r.spots.map f))) := by
  refine gives_p [.sh (RS.tree T_ r), .sh (dN w l), .no, .no] T_.kept.F sc25 rfl rfl (sgr_cons (LcD.set (m := 2) (E2 := [.sh (RS.tree T_ r), .sh (dN w l), .no, .no]) (us := (r.spots.map f).map ov) ?_ (by walk_at "so") rfl rfl rfl rfl (by walk_at "ln")) (sgr_ret ?_))
  · rw [List.map_map]
    refine lcN (α := Sq) (toT := sqT) (f := ov ∘ f) (i := 3) (by walk_at "bk") (by walk_at "nd") (by walk_at "so") (by walk_at "ln") (by walk_at "no") (by omega) (pg_iter .tup (eg_spots T_ rfl (eg_sh (i := 0) (by walk_at "vo") rfl))) fun p hp => ?_
    show EG _ _ _ (ov (f p)) _
    rw [← hf p hp]
    exact eg_get1N ⟨fun _ => rfl, fun _ => rfl, rfl, fun _ => rfl, fun _ => rfl⟩ (eg_sh (i := 1) (by walk_at "vo") rfl) (eg_sh (i := 3) (by walk_at "vo") rfl) (keyQ_T p) (keyQ_depth p)
  · refine eg_andV (c := !isNone (r.spots.map f)) ?_ fun _ => eg_and1 (eg_may T_ (vs := r.spots.map f) rfl rfl rfl rfl rfl (by walk_at "lv") (eg_sh (i := 0) (by walk_at "vo") rfl) (eg_sh (i := 2) (by walk_at "vo") rfl) (by rw [List.length_map]; exact hn))
    rw [← none_any]
    exact eg_ninL (n := 1) eg_non (eg_sh (i := 2) (by walk_at "vo") rfl) trivial (enc_ov.in_ _)
end
end K02
end Cw
end L2

set_option Elab.async false
set_option linter.all false
set_option maxRecDepth 100000
set_option maxHeartbeats 4000000
namespace L2
namespace Cw
namespace K02
open PySem PySem.Spec PyProof.Rows
local macro_rules | `(tactic| walk_at "vo") => `(tactic| exact ⟨rfl, by first | exact .inl rfl | exact .inr (.inl rfl) | exact .inr (.inr rfl), by decide, by decide⟩)
local macro_rules | `(tactic| walk_at "gl") => `(tactic| exact ⟨rfl, by decide⟩)
local macro_rules | `(tactic| walk_at "nd") => `(tactic| (dsimp only [SS.blk, defP]; decide +kernel))
local macro_rules | `(tactic| walk_at "so") => `(tactic| exact ⟨by walk_at "nd", rfl, by first | exact .inl rfl | exact .inr rfl, by first | exact .inl rfl | exact .inr rfl, by first | (dsimp only [SS.blk, defP, pins]; decide) | (simp [SS.blk, defP, pins, isOw, List.range_succ]; done)⟩)
local macro_rules | `(tactic| walk_at "bk") => `(tactic| exact blkOk_by (by walk_at "nd"))
local macro_rules | `(tactic| walk_at "ln") => `(tactic| (simp; done))
local macro_rules | `(tactic| walk_at "no") => `(tactic| (intro t; simp; done))
local macro_rules | `(tactic| walk_at "lv") => `(tactic| (dsimp only [SS.blk, defP]; decide))
local macro_rules | `(tactic| walk_at "sc") => `(tactic| exact ⟨rfl, rfl, rfl, by decide +kernel, rfl, by decide +kernel, by decide +kernel⟩)
/- a name's value -/
local macro_rules | `(tactic| walk_at "v") => `(tactic| first
  | exact eg_sh (i := 0) (by walk_at "vo") rfl | exact eg_sh (i := 1) (by walk_at "vo") rfl | exact eg_sh (i := 2) (by walk_at "vo") rfl | exact eg_sh (i := 3) (by walk_at "vo") rfl
  | exact eg_sh (i := 4) (by walk_at "vo") rfl | exact eg_sh (i := 5) (by walk_at "vo") rfl | exact eg_sh (i := 6) (by walk_at "vo") rfl | exact eg_sh (i := 7) (by walk_at "vo") rfl)

section
variable {P : Program} {w : World} {K : PySem.W.Frag} {mg : Str → Option Value} {base : Heap} (T_ : Tx K mg)
/-! ### _law_flat -/
theorem sc27 : FnScope ["rows", "found", "row"] ["rows"] (defScope (top 27)) := by walk_at "sc"
def flatE (rows : List (List T)) (pre : List (List T)) : List Ent := [.sh (.lst (rows.map T.lst)), .sh (.lst pre.flatten), match pre.getLast? with | none => .no | some r => .sh (.lst r)]
theorem flat_ok (rows : List (List T)) (hl : ∀ n, (rows.take n).flatten.length ≤ 16777216) : Gives P w K mg base 1 T_.flat.f T_.flat.fd ["rows"] [.lst (rows.map T.lst)] (.lst rows.flatten) := by
  refine gives_p [.sh (.lst (rows.map T.lst)), .no, .no] T_.flat.F sc27 rfl rfl (sgr_cons (sg_setP (i := 1) (t := .lst []) (by walk_at "so") pg_lst0 (by walk_at "ln")) (sgr_cons (E1 := flatE rows rows) (sg_for (pg_iter .lst (eg_sh (i := 0) (by walk_at "vo") rfl)) (ForR.pre (toT := T.lst) (Ev := flatE rows) (fun pre x post hx => ?_))) (sgr_ret (t := .lst rows.flatten) (eg_sh (i := 1) (by walk_at "vo") rfl))))
  refine ⟨(flatE rows pre).set 2 (.sh (.lst x)), [2], ag_name (by walk_at "so") (by simp [flatE]), ?_⟩
  have e : flatE rows (pre ++ [x]) = [.sh (.lst (rows.map T.lst)), .sh (.lst (pre.flatten ++ x)), .sh (.lst x)] := by simp [flatE]
  rw [e]
  have h2 := hl (pre.length + 1)
  have h3 : rows.take (pre.length + 1) = pre ++ [x] := by
    rw [← hx, List.take_append, List.take_of_length_le (Nat.le_succ _)]
    simp
  rw [h3] at h2
  simp only [List.flatten_append, List.flatten_cons, List.flatten_nil, List.append_nil, List.length_append] at h2
  exact sgs_one (sg_setP (i := 1) (by walk_at "so") (eg_catL (eg_sh (i := 1) (by walk_at "vo") rfl) (eg_sh (i := 2) (by walk_at "vo") rfl) h2) (by simp [flatE]))
theorem take_flat_le {α : Type} (rows : List (List α)) (m : Nat) : (rows.take m).flatten.length ≤ rows.flatten.length := by
  have h : rows.flatten = ((rows.take m) ++ rows.drop m).flatten := by rw [List.take_append_drop]
  rw [h, List.flatten_append, List.length_append]
  exact Nat.le_add_right _ _
/-! ### _law_all -/
def allL (vs : List Int) : Nat → List (List Int)
  | 0 => [[]]
  | n + 1 => (allL vs n).flatMap fun row => vs.map fun o => row ++ [o]
theorem allL_len (vs : List Int) : ∀ n, (allL vs n).length = vs.length ^ n
  | 0 => rfl
  | n + 1 => by
    unfold allL
    have h : ∀ l : List (List Int), (l.flatMap fun row => vs.map fun o => row ++ [o]).length = l.length * vs.length := by
      intro l
      induction l with
      | nil => simp
      | cons x l ih => rw [List.flatMap_cons, List.length_append, ih, List.length_map, List.length_cons, Nat.succ_mul, Nat.add_comm]
    rw [h, allL_len vs n, Nat.pow_succ]
theorem allL_few {vs : List Int} {n m : Nat} (hv : vs.length ≤ 3) (hn : n ≤ 6) (hm : m ≤ n) : (allL vs m).length ≤ 729 := by
  rw [allL_len]
  exact Nat.le_trans (Nat.pow_le_pow_left hv m) (Nat.pow_le_pow_right (n := 3) (by decide) (Nat.le_trans hm hn))
theorem allL_row {vs : List Int} : ∀ {n : Nat} {row : List Int}, row ∈ allL vs n → row.length = n
  | 0, row, h => by simp [allL] at h; rw [h]; rfl
  | n + 1, row, h => by
    unfold allL at h
    obtain ⟨r, hr, h2⟩ := List.mem_flatMap.mp h
    obtain ⟨o, _, rfl⟩ := List.mem_map.mp h2
    rw [List.length_append, allL_row hr]
    rfl
theorem sc32 : FnScope ["values", "long", "found", "k", "row", "one"] ["values", "long"] (defScope (top 32)) := by walk_at "sc"
def allE (vs : List Int) (n : Nat) (pre : List Nat) : List Ent := [.sh (.lst (vs.map T.int)), .sh (.int n), .sh (.lst ((allL vs pre.length).map tupI)), match pre.getLast? with | none => .no | some k => .sh (.int (0 + ((k : Nat) : Int))), .no, .no]
theorem all_ok (vs : List Int) (n : Nat) (hv : vs.length ≤ 3) (hn : n ≤ 6) : Gives P w K mg base 2 T_.all.f T_.all.fd ["values", "long"] [.lst (vs.map T.int), .int n] (.lst ((allL vs n).map tupI)) := by
  have en : (allL vs n) = allL vs (List.range n).length := by rw [List.length_range]
  refine gives_p [.sh (.lst (vs.map T.int)), .sh (.int n), .no, .no, .no, .no] T_.all.F sc32 rfl rfl (sgr_cons (sg_setP (i := 2) (t := .lst ((allL vs 0).map tupI)) (by walk_at "so") (pg_lst1 pg_tup0) (by walk_at "ln")) (sgr_cons (E1 := allE vs n (List.range n)) (sg_for (E1 := allE vs n []) (ts := (List.range n).map fun k : Nat => T.int (0 + (k : Int))) ?_ (ForR.pre (toT := fun k : Nat => T.int (0 + (k : Int))) (Ev := allE vs n) (fun pre x post hx => ?_))) (sgr_ret (by rw [en]; exact (eg_sh (i := 2) (by walk_at "vo") rfl)))))
  · exact ig_range (n := (n : Int)) (by walk_at "gl") T_.nRange (eg_sh (i := 1) (by walk_at "vo") rfl) (by omega)
  · have hlen : pre.length + 1 ≤ n := by
      have := congrArg List.length hx
      simp at this
      omega
    refine ⟨(allE vs n pre).set 3 (.sh (.int (0 + (x : Int)))), [3], ag_name (by walk_at "so") (by simp [allE]), ?_⟩
    have e : allE vs n (pre ++ [x]) = [.sh (.lst (vs.map T.int)), .sh (.int n), .sh (.lst ((allL vs (pre.length + 1)).map tupI)), .sh (.int (0 + (x : Int))), .no, .no] := by simp [allE]
    rw [e]
    have fl : ((allL vs pre.length).map fun row => vs.map fun o => tupI (row ++ [o])).flatten = (allL vs (pre.length + 1)).map tupI := by
      show _ = ((allL vs pre.length).flatMap fun row => vs.map fun o => row ++ [o]).map tupI
      rw [List.map_flatMap, List.flatMap_def]
      simp only [List.map_map]
      rfl
    refine sgs_one (sg_setP (i := 2) (t := .lst ((allL vs (pre.length + 1)).map tupI)) (by walk_at "so") ?_ (by simp [allE]))
    rw [← fl]
    refine eg_fn (T_.flat.ok rfl rfl) (by walk_at "gl") (flat_ok T_ _ fun m => ?_) (by walk_at "lv") (pas_cons ?_ eas_nil)
    · refine Nat.le_trans (take_flat_le _ _) ?_
      rw [fl, List.length_map]
      exact Nat.le_trans (allL_few hv hn hlen) (by decide)
    · rw [List.map_map]
      have f1 := allL_few (m := pre.length) hv hn (by omega)
      refine (lcN (α := List Int) (toT := tupI) (f := T.lst ∘ fun row => vs.map fun o => tupI (row ++ [o])) (i := 4) (by walk_at "bk") (by walk_at "nd") (by walk_at "so") (by simp [allE]) (by intro t; simp [allE]) (by omega) (pg_iter .lst (eg_sh (i := 2) (by walk_at "vo") rfl)) fun row hrow => ?_).eg
      refine (lcN (α := Int) (toT := T.int) (f := fun o => tupI (row ++ [o])) (i := 5) (by walk_at "bk") (by walk_at "nd") (by walk_at "so") (by simp [allE]) (by intro t; simp [allE]) (by omega) (pg_iter .lst (eg_sh (i := 0) (by walk_at "vo") rfl)) fun o _ => ?_).eg
      have q : tupI (row ++ [o]) = .tup (row.map T.int ++ [.int o]) := by simp [tupI]
      rw [q]
      exact eg_catT (eg_sh (i := 4) (by walk_at "vo") rfl) (pg_tup1 (eg_sh (i := 5) (by walk_at "vo") rfl)) (by simp [allL_row hrow]; omega)
/-! ### _law_dice, _law_roll -/
def diceL (c : Int) : List Int := if -10 < c ∧ c < 10 then [if c < 0 then -c else c, 0, 2] else [c, 1 + c.fmod 1009, if (10 : Int) ^ 18 ≤ c then 1 else 0]
theorem sc28 : FnScope ["cell"] ["cell"] (defScope (top 28)) := by walk_at "sc"
theorem sc29 : FnScope ["dice", "many", "found"] ["dice", "many"] (defScope (top 29)) := by walk_at "sc"
/-- what is rolled, and the dice behind -/
def rollF (d : List Int) (m : Int) : Int × List Int :=
  let a := d.getD 0 0
  let b := d.getD 1 0
  let c := d.getD 2 0
  if c = 2 ∨ (c = 1 ∧ 0 < a) then (a.fmod m, [a.fdiv m, b, c])
  else
    let a' := (a * 48271 + b * 69621 + 11).fmod 2147483647
    ((a'.fdiv 7 + a').fmod m, [a', b + 1, 0])
theorem rollF_t {a b c m : Int} (h : c = 2 ∨ (c = 1 ∧ 0 < a)) : rollF [a, b, c] m = (a.fmod m, [a.fdiv m, b, c]) := by
  show (if c = 2 ∨ (c = 1 ∧ 0 < a) then _ else _) = _
  rw [if_pos h]
  rfl
theorem rollF_f {a b c m : Int} (h : ¬ (c = 2 ∨ (c = 1 ∧ 0 < a))) : rollF [a, b, c] m = ((((a * 48271 + b * 69621 + 11).fmod 2147483647).fdiv 7 + (a * 48271 + b * 69621 + 11).fmod 2147483647).fmod m, [(a * 48271 + b * 69621 + 11).fmod 2147483647, b + 1, 0]) := by
  show (if c = 2 ∨ (c = 1 ∧ 0 < a) then _ else _) = _
  rw [if_neg h]
  rfl
def rollOk (m : Int) : Prop := m ≠ 0 ∧ m.natAbs < 1073741824
theorem fin_roll {as' : List Ent} {t t' : T} {m : Int} {e : Ent} : FinA [.ow t, .sh (.int m)] [.ow t', .sh (.int m), e] [.ow t', .sh (.int m)] := by
  refine ⟨rfl, fun j t h => ?_, fun j t h => ?_⟩
  · match j with
    | 0 => cases h
    | 1 => exact h
    | j + 2 => cases h
  · match j with
    | 0 => cases h; exact ⟨rfl, _, rfl⟩
    | 1 => cases h
    | j + 2 => cases h
theorem roll_ok (a b c m : Int) (hm : rollOk m) : FnOk P w K mg base (L2.CX P w) 1 T_.roll.f T_.roll.fd ["dice", "many"] (spOf K [.ow (.lst ([a, b, c].map T.int)), .sh (.int m)] (.ret (.int (rollF [a, b, c] m).1) [.ow (.lst ((rollF [a, b, c] m).2.map T.int)), .sh (.int m)])) := by
  have at0 : ∀ {x y z : Int}, atI ([.int x, .int y, .int z] : List T) 0 = some (.int x) := at_0
  have at1 : ∀ {x y z : Int}, atI ([.int x, .int y, .int z] : List T) 1 = some (.int y) := at_1
  have at2 : ∀ {x y z : Int}, atI ([.int x, .int y, .int z] : List T) 2 = some (.int z) := atI_at (n := 2) rfl
  by_cases h : c = 2 ∨ (c = 1 ∧ 0 < a)
  · rw [rollF_t h]
    refine fn_ok (N := ["dice", "many", "found"]) (o := .ret (.int (a.fmod m)) [.ow (.lst [.int (a.fdiv m), .int b, .int c]), .sh (.int m), .sh (.int (a.fmod m))]) T_.roll.F sc29 rfl (.ret (fin_roll (as' := []))) ?_
    show SGs _ [.ow (.lst [.int a, .int b, .int c]), .sh (.int m), .no] _ _
    refine sgs_stop (sg_ifT (d := teq (.int c) (.int 2) || (teq (.int c) (.int 1) && decide (0 < a))) ?_ (tg_w (wg_or (pt_eq (n := 0) trivial trivial (eg_itemO (l := 0) (by walk_at "vo") rfl eg_int rfl at2) eg_int) fun _ => wg_or1 (tg_w (wg_and (pt_eq (n := 0) trivial trivial (eg_itemO (l := 0) (by walk_at "vo") rfl eg_int rfl at2) eg_int) fun _ => wg_and1 (pt_gt (eg_itemO (l := 0) (by walk_at "vo") rfl eg_int rfl at0) eg_int))))) ?_) trivial
    · rw [enc_int.eq, enc_int.eq]; simpa using h
    · exact sgs_cons (sg_setP (i := 2) (by walk_at "so") (pg_mod hm.1 (eg_intI (by walk_at "gl") T_.nInt (eg_itemO (l := 0) (by walk_at "vo") rfl eg_int rfl at0)) (eg_sh (i := 1) (by walk_at "vo") rfl)) (by walk_at "ln")) (sgs_cons (sg_putL (l := 0) (m := 0) (eg_fdiv (eg_itemO (l := 0) (by walk_at "vo") rfl eg_int rfl at0) (eg_sh (i := 1) (by walk_at "vo") rfl) hm) (by walk_at "vo") eg_int rfl rfl) (sgs_one (sg_ret (eg_sh (i := 2) (by walk_at "vo") rfl))))
  · rw [rollF_f h]
    refine fn_ok (N := ["dice", "many", "found"]) (o := .ret (.int ((((a * 48271 + b * 69621 + 11).fmod 2147483647).fdiv 7 + (a * 48271 + b * 69621 + 11).fmod 2147483647).fmod m)) [.ow (.lst [.int ((a * 48271 + b * 69621 + 11).fmod 2147483647), .int (b + 1), .int 0]), .sh (.int m), .no]) T_.roll.F sc29 rfl (.ret (fin_roll (as' := []))) ?_
    show SGs _ [.ow (.lst [.int a, .int b, .int c]), .sh (.int m), .no] _ _
    refine sgs_cons (sg_ifFn (d := teq (.int c) (.int 2) || (teq (.int c) (.int 1) && decide (0 < a))) ?_ (tg_w (wg_or (pt_eq (n := 0) trivial trivial (eg_itemO (l := 0) (by walk_at "vo") rfl eg_int rfl at2) eg_int) fun _ => wg_or1 (tg_w (wg_and (pt_eq (n := 0) trivial trivial (eg_itemO (l := 0) (by walk_at "vo") rfl eg_int rfl at2) eg_int) fun _ => wg_and1 (pt_gt (eg_itemO (l := 0) (by walk_at "vo") rfl eg_int rfl at0) eg_int)))))) ?_
    · rw [enc_int.eq, enc_int.eq]
      cases q : (decide (c = 2) || (decide (c = 1) && decide (0 < a))) with
      | false => rfl
      | true => exact absurd (by simpa using q) h
    · exact sgs_cons (sg_putL (l := 0) (m := 2) eg_int (by walk_at "vo") eg_int rfl rfl) (sgs_cons (sg_putL (l := 0) (m := 0) (pg_mod (by decide) (eg_intI (by walk_at "gl") T_.nInt (pg_add (pg_add (pg_mul (.inr (by decide)) (eg_itemO (l := 0) (by walk_at "vo") rfl eg_int rfl at0) eg_int) (pg_mul (.inr (by decide)) (eg_itemO (l := 0) (by walk_at "vo") rfl eg_int rfl at1) eg_int)) eg_int)) eg_int) (by walk_at "vo") eg_int rfl rfl)
        (sgs_cons (sg_putL (l := 0) (m := 1) (pg_add (eg_itemO (l := 0) (by walk_at "vo") rfl eg_int rfl at1) eg_int) (by walk_at "vo") eg_int rfl rfl) (sgs_one (sg_ret (pg_mod hm.1 (eg_intI (by walk_at "gl") T_.nInt (pg_add (pg_fdiv (by exact ⟨by decide, by decide⟩) (eg_itemO (l := 0) (by walk_at "vo") rfl eg_int rfl at0) eg_int) (eg_itemO (l := 0) (by walk_at "vo") rfl eg_int rfl at0))) (eg_sh (i := 1) (by walk_at "vo") rfl))))))
end
end K02
end Cw
end L2

set_option Elab.async false
set_option linter.all false
set_option maxRecDepth 100000
set_option maxHeartbeats 4000000
namespace L2
namespace Cw
namespace K02
open PySem PySem.Spec PyProof.Rows
local macro_rules | `(tactic| walk_at "vo") => `(tactic| exact ⟨rfl, by first | exact .inl rfl | exact .inr (.inl rfl) | exact .inr (.inr rfl), by decide, by decide⟩)
local macro_rules | `(tactic| walk_at "gl") => `(tactic| exact ⟨rfl, by decide⟩)
local macro_rules | `(tactic| walk_at "nd") => `(tactic| (dsimp only [SS.blk, defP]; decide +kernel))
local macro_rules | `(tactic| walk_at "so") => `(tactic| exact ⟨by walk_at "nd", rfl, by first | exact .inl rfl | exact .inr rfl, by first | exact .inl rfl | exact .inr rfl, by first | (dsimp only [SS.blk, defP, pins]; decide) | (simp [SS.blk, defP, pins, isOw, List.range_succ]; done)⟩)
local macro_rules | `(tactic| walk_at "bk") => `(tactic| exact blkOk_by (by walk_at "nd"))
local macro_rules | `(tactic| walk_at "ln") => `(tactic| (simp; done))
local macro_rules | `(tactic| walk_at "no") => `(tactic| (intro t; simp; done))
local macro_rules | `(tactic| walk_at "lv") => `(tactic| (dsimp only [SS.blk, defP]; decide))
local macro_rules | `(tactic| walk_at "sc") => `(tactic| exact ⟨rfl, rfl, rfl, by decide +kernel, rfl, by decide +kernel, by decide +kernel⟩)
/- a name's value -/
local macro_rules | `(tactic| walk_at "v") => `(tactic| first
  | exact eg_sh (i := 0) (by walk_at "vo") rfl | exact eg_sh (i := 1) (by walk_at "vo") rfl | exact eg_sh (i := 2) (by walk_at "vo") rfl | exact eg_sh (i := 3) (by walk_at "vo") rfl
  | exact eg_sh (i := 4) (by walk_at "vo") rfl | exact eg_sh (i := 5) (by walk_at "vo") rfl | exact eg_sh (i := 6) (by walk_at "vo") rfl | exact eg_sh (i := 7) (by walk_at "vo") rfl)

/-- what the law itself asks of a whole row -/
def RS.keeps : RS → List Int → Bool
  | .unlike _, r => decide r.Nodup
  | .sum _ w, r => decide (r.sum = w)
  | .less _ _, r => decide (r.getD 0 0 < r.getD 1 0)
  | .gap _ _ d, r => decide ((if r.getD 0 0 - r.getD 1 0 < 0 then -(r.getD 0 0 - r.getD 1 0) else r.getD 0 0 - r.getD 1 0) = d)
  | .tops _ c, r => decide ((topsN r : Int) = c)
  | .count _ v c, r => decide ((r.count v : Int) = c)
  | .runs _ _, _ => false
def RS.test : RS → T
  | .unlike ss => .tup [.str "unlike", .lst (ss.map sqT), .int 0]
  | .sum ss w => .tup [.str "sum", .lst (ss.map sqT), .int w]
  | .less a b => .tup [.str "less", .lst [sqT a, sqT b], .int 0]
  | .gap a b d => .tup [.str "gap", .lst [sqT a, sqT b], .int d]
  | .tops ss c => .tup [.str "tops", .lst (ss.map sqT), .int c]
  | .count ss v c => .tup [.str "count", .lst (ss.map sqT), .tup [.int v, .int c]]
  | .runs _ _ => .non
def RS.word : RS → Str
  | .unlike _ => "unlike" | .sum _ _ => "sum" | .less _ _ => "less" | .gap _ _ _ => "gap" | .tops _ _ => "tops" | .count _ _ _ => "count" | .runs _ _ => ""
def RS.much : RS → T
  | .unlike _ => .int 0 | .sum _ w => .int w | .less _ _ => .int 0 | .gap _ _ d => .int d | .tops _ c => .int c | .count _ v c => .tup [.int v, .int c] | .runs _ _ => .non
def RS.isRuns : RS → Bool
  | .runs _ _ => true
  | _ => false
theorem test_eq {r : RS} (h : r.isRuns = false) : r.test = .tup [.str r.word, .lst (r.spots.map sqT), r.much] := by
  cases r <;> first | rfl | cases h
section
variable {P : Program} {w : World} {K : PySem.W.Frag} {mg : Str → Option Value} {base : Heap} (T_ : Tx K mg)
theorem sc34 : FnScope ["test", "table", "kind", "spots", "much", "values", "spot", "value", "k"] ["test", "table"] (defScope (top 34)) := by walk_at "sc"
/-- the ifs ahead that aren't taken -/
theorem sgr_kind {S : SS} {E : List Ent} {A : List Stmt} {sts : List Stmt} {x y : Str} {pos p q : Pos} {j : Nat} {t : T} (vo : VarOk S 2 "kind") (h : E[2]? = some (.sh (.str x))) (hx : PyData.strOk x = true) (hy : PyData.strOk y = true) (ne : (x == y) = false) (hm : behindInMarks .Eq (.Constant (.str y) j q) = false := by exact nomark _) (rest : SGr S E sts t) :
    SGr S E (.If (.Compare (.Name "kind" p) [.Eq] [.Constant (.str y) j q] pos) A [] pos' :: sts) t :=
  sgr_ifFn (d := teq (.str x) (.str y)) (by rw [teq_str]; exact ne) (pt_eq (n := 0) hx hy (eg_sh (i := 2) vo h) eg_str) rest
/-! ### how many rise above all ahead, in the law's words -/
def maxTo : Int → List Int → Int
  | m, [] => m
  | m, x :: xs => maxTo (if m < x then x else m) xs
theorem maxTo_spec : ∀ (xs : List Int) (m : Int), maxTo m xs ∈ m :: xs ∧ ∀ y ∈ m :: xs, y ≤ maxTo m xs
  | [], m => ⟨by simp [maxTo], by simp [maxTo]⟩
  | x :: xs, m => by
    by_cases hmx : m < x
    · have e : maxTo m (x :: xs) = maxTo x xs := by simp [maxTo, hmx]
      obtain ⟨h1, h2⟩ := maxTo_spec xs x
      rw [e]
      refine ⟨List.mem_cons_of_mem _ h1, fun y hy => ?_⟩
      have h3 := h2 x List.mem_cons_self
      obtain rfl | hy := List.mem_cons.mp hy
      · omega
      · exact h2 y hy
    · have e : maxTo m (x :: xs) = maxTo m xs := by simp [maxTo, hmx]
      obtain ⟨h1, h2⟩ := maxTo_spec xs m
      rw [e]
      refine ⟨?_, fun y hy => ?_⟩
      · rcases List.mem_cons.mp h1 with h | h
        · rw [h]
          exact List.mem_cons_self
        · exact List.mem_cons_of_mem _ (List.mem_cons_of_mem _ h)
      · have h3 := h2 m List.mem_cons_self
        obtain rfl | hy := List.mem_cons.mp hy
        · exact h3
        · obtain rfl | hy := List.mem_cons.mp hy
          · omega
          · exact h2 y (List.mem_cons_of_mem _ hy)
theorem maxTo_lt {xs : List Int} {m z : Int} : maxTo m xs < z ↔ m < z ∧ ∀ x ∈ xs, x < z := by
  obtain ⟨h1, h2⟩ := maxTo_spec xs m
  refine ⟨fun h => ⟨Int.lt_of_le_of_lt (h2 m List.mem_cons_self) h, fun x hx => Int.lt_of_le_of_lt (h2 x (List.mem_cons_of_mem _ hx)) h⟩, fun ⟨a, b⟩ => ?_⟩
  rcases List.mem_cons.mp h1 with h | h
  · rw [h]; exact a
  · exact b _ h
def risesB (ns : List Int) (k : Nat) : Bool := decide (maxTo (-1) (ns.take k) < ns.getD k 0)
theorem rises_tops {ns : List Int} (h0 : ∀ x ∈ ns, 0 ≤ x) : ((List.range ns.length).filter (risesB ns)).length = topsN ns := by
  unfold topsN
  have e : (ns.mapIdx fun i n => (i, n)) = (List.range ns.length).map fun i => (i, ns.getD i 0) := by
    refine List.ext_getElem (by simp) fun i a b => ?_
    simp at a
    simp [a]
  rw [e, List.filter_map, List.length_map]
  congr 1
  refine List.filter_congr fun k hk => ?_
  have hk' : k < ns.length := List.mem_range.mp hk
  have g : ns.getD k 0 = ns[k] := by simp [hk']
  show decide _ = List.all _ _
  rw [Bool.eq_iff_iff, decide_eq_true_eq, maxTo_lt, List.all_eq_true]
  simp only [decide_eq_true_eq, Function.comp]
  exact ⟨fun h => h.2, fun h => ⟨by rw [g]; have := h0 _ (List.getElem_mem hk'); omega, h⟩⟩
theorem rises_eg {S : SS} {E : List Ent} {ns : List Int} {iv ik : Nat} {scope : Scope} {y x : Str} {p1 p2 p3 p4 p5 p6 p7 p8 p9 p10 p11 p12 p13 p14 p15 p16 p17 p18 p19 p20 p21 : Pos} {j1 j2 : Nat} (hl : ns.length ≤ 1000) (ok : BlkOk S.N S.sc scope [(x, ik)]) (hN : S.N.Nodup) (so : StoOk (S.blk scope) ik x) (hik : ik < E.length) (no : ∀ t, E[ik]? ≠ some (.ow t))
    (vS : VarOk S iv y) (vB : VarOk (S.blk scope) iv y) (kB : VarOk (S.blk scope) ik x) (hv : E[iv]? = some (.sh (.lst (ns.map T.int)))) (hne : iv ≠ ik) (gl : GlOk S "len") (gr : GlOk S "range") (gm : GlOk (S.blk scope) "max") (mgl : S.mg "len" = none) (mgr : S.mg "range" = none) (mgm : S.mg "max" = none) :
    EG S E (.ListComp (.Name x p1) [⟨.Name x p2, .Call (.Name "range" p3) [.Call (.Name "len" p4) [.Name y p5] [] p6] [] p7, [.Compare (.Subscript (.Name y p8) (.Name x p9) p10) [.Gt] [.Call (.Name "max" p11) [.BinOp (.List [.BinOp (.Constant (.int 0) j1 p12) .Sub (.Constant (.int 1) j2 p13) p14] p15) .Add (.Subscript (.Name y p16) (.Slice none (some (.Name x p17)) none p18) p19) p20] [] p21] pos1], 0⟩] scope pos2) (.lst (((List.range ns.length).filter (risesB ns)).map fun k : Nat => T.int (0 + (k : Int)))) E := by
  have hB : ∀ t, (E.set ik (.sh t))[iv]? = some (.sh (.lst (ns.map T.int))) := fun t => by rw [List.getElem?_set_ne (Ne.symm hne)]; exact hv
  have kk : ∀ t, (E.set ik (.sh t))[ik]? = some (.sh t) := fun t => List.getElem?_set_self hik
  refine (lcNF (α := Nat) (toT := fun k : Nat => T.int (0 + (k : Int))) (f := fun k : Nat => T.int (0 + (k : Int))) (b := risesB ns) ok hN so hik no (by simp; omega) ?_ (fun k hk => ?_) fun k _ _ => eg_sh kB (kk _)).eg
  · have q := ig_range (tg := .Name x p2) (n := ((ns.map T.int).length : Nat)) (pos := p7) (p := p3) gr mgr (eg_len (pos := p6) (p := p4) .lst gl mgl (eg_sh (pos := p5) vS hv)) (by rw [List.length_map]; omega)
    rw [Int.toNat_natCast, List.length_map] at q
    exact q
  · have hk' : k < ns.length := List.mem_range.mp hk
    have z : (0 : Int) + (k : Int) = (k : Nat) := by omega
    have cut : cutT (ns.map T.int) none (some (0 + (k : Int))) = (ns.take k).map T.int := by rw [z, cut_take (by simp; omega), List.map_take]
    have m0 : EG (S.blk scope) (E.set ik (.sh (.int (0 + (k : Int))))) (.BinOp (.List [.BinOp (.Constant (.int 0) j1 p12) .Sub (.Constant (.int 1) j2 p13) p14] p15) .Add (.Subscript (.Name y p16) (.Slice none (some (.Name x p17)) none p18) p19) p20) (.lst ((-1 :: ns.take k).map T.int)) (E.set ik (.sh (.int (0 + (k : Int))))) := by
      have a := eg_catL (pos := p20) (pg_lst1 (pos := p15) (pg_sub (pos := p14) (eg_int (pos := p12) (j := j1) (n := 0)) (eg_int (pos := p13) (j := j2) (n := 1)))) (eg_sliceL (S := S.blk scope) (p2 := p18) (pos := p19) (eg_sh (pos := p16) vB (hB _)) pa_no (pa_so (eg_sh (pos := p17) kB (kk _)))) (by rw [cut]; simp; omega)
      rw [cut] at a
      exact a
    obtain ⟨h1, h2⟩ := maxTo_spec (ns.take k) (-1)
    have g : ns.getD k 0 = ns[k] := by simp [hk']
    unfold risesB
    rw [g]
    refine pt_gt (pg_item .lst (i := 0 + (k : Int)) (by rw [z]; exact atI_at (by simp [hk'])) (eg_sh vB (hB _)) (eg_sh kB (kk _))) (eg_maxL (ns := -1 :: ns.take k) gm mgm m0 (by simp) h1 h2)
end
end K02
end Cw
end L2

set_option Elab.async false
set_option linter.all false
set_option maxRecDepth 100000
set_option maxHeartbeats 4000000
namespace L2
namespace Cw
namespace K02
open PySem PySem.Spec PyProof.Rows
local macro_rules | `(tactic| walk_at "vo") => `(tactic| exact ⟨rfl, by first | exact .inl rfl | exact .inr (.inl rfl) | exact .inr (.inr rfl), by decide, by decide⟩)
local macro_rules | `(tactic| walk_at "gl") => `(tactic| exact ⟨rfl, by decide⟩)
local macro_rules | `(tactic| walk_at "nd") => `(tactic| (dsimp only [SS.blk, defP]; decide +kernel))
local macro_rules | `(tactic| walk_at "so") => `(tactic| exact ⟨by walk_at "nd", rfl, by first | exact .inl rfl | exact .inr rfl, by first | exact .inl rfl | exact .inr rfl, by first | (dsimp only [SS.blk, defP, pins]; decide) | (simp [SS.blk, defP, pins, isOw, List.range_succ]; done)⟩)
local macro_rules | `(tactic| walk_at "bk") => `(tactic| exact blkOk_by (by walk_at "nd"))
local macro_rules | `(tactic| walk_at "ln") => `(tactic| (simp; done))
local macro_rules | `(tactic| walk_at "no") => `(tactic| (intro t; simp; done))
local macro_rules | `(tactic| walk_at "lv") => `(tactic| (dsimp only [SS.blk, defP]; decide))
local macro_rules | `(tactic| walk_at "sc") => `(tactic| exact ⟨rfl, rfl, rfl, by decide +kernel, rfl, by decide +kernel, by decide +kernel⟩)
/- a name's value -/
local macro_rules | `(tactic| walk_at "v") => `(tactic| first
  | exact eg_sh (i := 0) (by walk_at "vo") rfl | exact eg_sh (i := 1) (by walk_at "vo") rfl | exact eg_sh (i := 2) (by walk_at "vo") rfl | exact eg_sh (i := 3) (by walk_at "vo") rfl
  | exact eg_sh (i := 4) (by walk_at "vo") rfl | exact eg_sh (i := 5) (by walk_at "vo") rfl | exact eg_sh (i := 6) (by walk_at "vo") rfl | exact eg_sh (i := 7) (by walk_at "vo") rfl)

section
variable {P : Program} {w : World} {K : PySem.W.Frag} {mg : Str → Option Value} {base : Heap} (T_ : Tx K mg)
def mtE (r : RS) (w : World) (l : List (NestedKey × T)) (ns : List Int) : List Ent := [.sh r.test, .sh (dN w l), .sh (.str r.word), .sh (.lst (r.spots.map sqT)), .sh r.much, .sh (.lst (ns.map T.int)), .no, .no, .no]
theorem keeps_ok (r : RS) (hr : r.isRuns = false) (l : List (NestedKey × T)) (f : Sq → Int) (hf : ∀ p ∈ r.spots, getN l (keyQ p) = some (.int (f p))) (few : r.spots.length < 64) (h0 : ∀ p ∈ r.spots, 0 ≤ f p) : Gives P w K mg base 1 T_.keeps.f T_.keeps.fd ["test", "table"] [r.test, dN w l] (.bl (r.keeps (r.spots.map f))) := by
  refine gives_p [.sh r.test, .sh (dN w l), .no, .no, .no, .no, .no, .no, .no] T_.keeps.F sc34 rfl rfl
    (sgr_cons (E1 := [.sh r.test, .sh (dN w l), .sh (.str r.word), .sh (.lst (r.spots.map sqT)), .sh r.much, .no, .no, .no, .no]) (sg_asg (ws := [2, 3, 4]) (eg_sh (i := 0) (by walk_at "vo") rfl) (ag_tup (.inl (test_eq hr)) (ags_cons (ag_name (by walk_at "so") (by walk_at "ln")) (ags_cons (ag_name (by walk_at "so") (by walk_at "ln")) (ags_cons (ag_name (by walk_at "so") (by walk_at "ln")) ags_nil)))))
    (sgr_cons (E1 := mtE r w l (r.spots.map f)) (LcD.setC (m := 5) (E2 := [.sh r.test, .sh (dN w l), .sh (.str r.word), .sh (.lst (r.spots.map sqT)), .sh r.much, .no, .no, .no, .no]) (us := (r.spots.map f).map T.int) ?_ (by walk_at "so") rfl (by walk_at "ln")) ?_))
  · rw [List.map_map]
    refine lcN (α := Sq) (toT := sqT) (f := T.int ∘ f) (i := 6) (by walk_at "bk") (by walk_at "nd") (by walk_at "so") (by walk_at "ln") (by walk_at "no") (by omega) (pg_iter .lst (eg_sh (i := 3) (by walk_at "vo") rfl)) fun p hp => ?_
    exact eg_getN (da_sh (eg_sh (i := 1) (by walk_at "vo") rfl)) (eg_sh (i := 6) (by walk_at "vo") rfl) (keyQ_T p) (keyQ_depth p) (hf p hp)
  · have fewR : (r.spots.map f).length < 64 := by rw [List.length_map]; exact few
    have h0R : ∀ x ∈ r.spots.map f, 0 ≤ x := by
      intro x hx
      obtain ⟨p, hp, rfl⟩ := List.mem_map.mp hx
      exact h0 p hp
    cases r with
    | unlike ss =>
      have e : (RS.unlike ss).keeps (ss.map f) = teq (.int ((keysI (ss.map f)).map Sum.inl : List Key).length) (.int ((ss.map f).map T.int).length) := by
        rw [enc_int.eq, List.length_map, List.length_map, List.length_map, keysI_len]
        have := dist_all (l := ss.map f)
        rw [List.length_map] at this
        show decide _ = decide _
        by_cases h : (ss.map f).Nodup
        · rw [decide_eq_true h, decide_eq_true (by rw [this.mpr h])]
        · rw [decide_eq_false h, decide_eq_false (fun z => h (this.mp (by omega)))]
      rw [show (RS.unlike ss).spots = ss from rfl, e]
      refine sgr_ifT (d := teq (.str "unlike") (.str "unlike")) (by rw [teq_str]; simp) (pt_eq (n := 0) (by decide +kernel : PyData.strOk "unlike" = true) (by decide +kernel : PyData.strOk "unlike" = true) (eg_sh (i := 2) (by walk_at "vo") rfl) eg_str) (sgr_ret (pg_eq (n := 0) trivial trivial (eg_lenDK (by walk_at "gl") T_.nLen (eg_dictOnes (by walk_at "gl") T_.nDict ?_)) (eg_len .lst (by walk_at "gl") T_.nLen (eg_sh (i := 5) (by walk_at "vo") rfl))))
      refine (lcN (α := Int) (toT := T.int) (f := onesT) (i := 7) (by walk_at "bk") (by walk_at "nd") (by walk_at "so") (by simp [mtE]) (by intro t; simp [mtE]) (by have : (ss.map f).length < 64 := fewR; omega) (pg_iter .lst (eg_sh (i := 5) (by walk_at "vo") rfl)) fun n hn => ?_).eg
      exact pg_tup2 (eg_sh (i := 7) (by walk_at "vo") rfl) eg_int
    | sum ss w0 =>
      rw [show (RS.sum ss w0).keeps ((RS.sum ss w0).spots.map f) = teq (.int (ss.map f).sum) (.int w0) by rw [enc_int.eq]; rfl]
      exact sgr_kind (by walk_at "vo") rfl (show PyData.strOk "sum" = true by decide +kernel) (show PyData.strOk "unlike" = true by decide +kernel) (show (("sum" : Str) == "unlike") = false by decide +kernel) (by exact nomark _) (sgr_ifT (d := teq (.str "sum") (.str "sum")) (by rw [teq_str]; simp) (pt_eq (n := 0) (by decide +kernel : PyData.strOk "sum" = true) (by decide +kernel : PyData.strOk "sum" = true) (eg_sh (i := 2) (by walk_at "vo") rfl) eg_str) (sgr_ret (pg_eq (n := 0) trivial trivial (eg_sum (bs := ss.map f) rfl (by walk_at "gl") T_.nSum (eg_sh (i := 5) (by walk_at "vo") rfl)) (eg_sh (i := 4) (by walk_at "vo") rfl))))
    | less a b => exact sgr_kind (by walk_at "vo") rfl (show PyData.strOk "less" = true by decide +kernel) (show PyData.strOk "unlike" = true by decide +kernel) (show (("less" : Str) == "unlike") = false by decide +kernel) (by exact nomark _) (sgr_kind (by walk_at "vo") rfl (show PyData.strOk "less" = true by decide +kernel) (show PyData.strOk "sum" = true by decide +kernel) (show (("less" : Str) == "sum") = false by decide +kernel) (by exact nomark _) (sgr_ifT (d := teq (.str "less") (.str "less")) (by rw [teq_str]; simp) (pt_eq (n := 0) (by decide +kernel : PyData.strOk "less" = true) (by decide +kernel : PyData.strOk "less" = true) (eg_sh (i := 2) (by walk_at "vo") rfl) eg_str) (sgr_ret (pg_lt (pg_item .lst (i := 0) at_0 (eg_sh (i := 5) (by walk_at "vo") rfl) eg_int) (pg_item .lst (i := 1) at_1 (eg_sh (i := 5) (by walk_at "vo") rfl) eg_int)))))
    | gap a b d =>
      rw [show (RS.gap a b d).keeps ((RS.gap a b d).spots.map f) = teq (.int (if f a - f b < 0 then -(f a - f b) else f a - f b)) (.int d) by rw [enc_int.eq]; rfl]
      exact sgr_kind (by walk_at "vo") rfl (show PyData.strOk "gap" = true by decide +kernel) (show PyData.strOk "unlike" = true by decide +kernel) (show (("gap" : Str) == "unlike") = false by decide +kernel) (by exact nomark _) (sgr_kind (by walk_at "vo") rfl (show PyData.strOk "gap" = true by decide +kernel) (show PyData.strOk "sum" = true by decide +kernel) (show (("gap" : Str) == "sum") = false by decide +kernel) (by exact nomark _) (sgr_kind (by walk_at "vo") rfl (show PyData.strOk "gap" = true by decide +kernel) (show PyData.strOk "less" = true by decide +kernel) (show (("gap" : Str) == "less") = false by decide +kernel) (by exact nomark _) (sgr_ifT (d := teq (.str "gap") (.str "gap")) (by rw [teq_str]; simp) (pt_eq (n := 0) (by decide +kernel : PyData.strOk "gap" = true) (by decide +kernel : PyData.strOk "gap" = true) (eg_sh (i := 2) (by walk_at "vo") rfl) eg_str) (sgr_ret (pg_eq (n := 0) trivial trivial (eg_abs (by walk_at "gl") T_.nAbs (pg_sub (pg_item .lst (i := 0) at_0 (eg_sh (i := 5) (by walk_at "vo") rfl) eg_int) (pg_item .lst (i := 1) at_1 (eg_sh (i := 5) (by walk_at "vo") rfl) eg_int))) (eg_sh (i := 4) (by walk_at "vo") rfl))))))
    | tops ss c =>
      rw [show (RS.tops ss c).keeps ((RS.tops ss c).spots.map f) = teq (.int (((List.range (ss.map f).length).filter (risesB (ss.map f))).map fun k : Nat => T.int (0 + (k : Int))).length) (.int c) by rw [enc_int.eq, List.length_map, show ((List.range (ss.map f).length).filter (risesB (ss.map f))).length = topsN (ss.map f) from rises_tops h0R]; rfl]
      exact sgr_kind (by walk_at "vo") rfl (show PyData.strOk "tops" = true by decide +kernel) (show PyData.strOk "unlike" = true by decide +kernel) (show (("tops" : Str) == "unlike") = false by decide +kernel) (by exact nomark _) (sgr_kind (by walk_at "vo") rfl (show PyData.strOk "tops" = true by decide +kernel) (show PyData.strOk "sum" = true by decide +kernel) (show (("tops" : Str) == "sum") = false by decide +kernel) (by exact nomark _) (sgr_kind (by walk_at "vo") rfl (show PyData.strOk "tops" = true by decide +kernel) (show PyData.strOk "less" = true by decide +kernel) (show (("tops" : Str) == "less") = false by decide +kernel) (by exact nomark _) (sgr_kind (by walk_at "vo") rfl (show PyData.strOk "tops" = true by decide +kernel) (show PyData.strOk "gap" = true by decide +kernel) (show (("tops" : Str) == "gap") = false by decide +kernel) (by exact nomark _) (sgr_ifT (d := teq (.str "tops") (.str "tops")) (by rw [teq_str]; simp) (pt_eq (n := 0) (by decide +kernel : PyData.strOk "tops" = true) (by decide +kernel : PyData.strOk "tops" = true) (eg_sh (i := 2) (by walk_at "vo") rfl) eg_str) (sgr_ret (pg_eq (n := 0) trivial trivial (eg_len .lst (by walk_at "gl") T_.nLen (rises_eg (iv := 5) (ik := 8) (by rw [List.length_map]; show ss.length ≤ 1000; have : ss.length < 64 := few; omega) (by walk_at "bk") (by walk_at "nd") (by walk_at "so") (by simp [mtE]) (by intro t; simp [mtE]) (by walk_at "vo") (by walk_at "vo") (by walk_at "vo") rfl (by decide) (by walk_at "gl") (by walk_at "gl") (by walk_at "gl") T_.nLen T_.nRange T_.nMax)) (eg_sh (i := 4) (by walk_at "vo") rfl)))))))
    | runs ss rs => cases hr
    | count ss v c =>
      rw [show (RS.count ss v c).keeps ((RS.count ss v c).spots.map f) = teq (.int ((ss.map f).count v : Nat)) (.int c) by rw [enc_int.eq]; rfl]
      exact sgr_kind (by walk_at "vo") rfl (show PyData.strOk "count" = true by decide +kernel) (show PyData.strOk "unlike" = true by decide +kernel) (show (("count" : Str) == "unlike") = false by decide +kernel) (by exact nomark _) (sgr_kind (by walk_at "vo") rfl (show PyData.strOk "count" = true by decide +kernel) (show PyData.strOk "sum" = true by decide +kernel) (show (("count" : Str) == "sum") = false by decide +kernel) (by exact nomark _) (sgr_kind (by walk_at "vo") rfl (show PyData.strOk "count" = true by decide +kernel) (show PyData.strOk "less" = true by decide +kernel) (show (("count" : Str) == "less") = false by decide +kernel) (by exact nomark _) (sgr_kind (by walk_at "vo") rfl (show PyData.strOk "count" = true by decide +kernel) (show PyData.strOk "gap" = true by decide +kernel) (show (("count" : Str) == "gap") = false by decide +kernel) (by exact nomark _) (sgr_kind (by walk_at "vo") rfl (show PyData.strOk "count" = true by decide +kernel) (show PyData.strOk "tops" = true by decide +kernel) (show (("count" : Str) == "tops") = false by decide +kernel) (by exact nomark _) (sgr_ret (pg_eq (n := 0) trivial trivial (eg_count (ns := ss.map f) (n := v) (eg_sh (i := 5) (by walk_at "vo") rfl) (pg_item .tup (i := 0) at_0 (eg_sh (i := 4) (by walk_at "vo") rfl) eg_int) ⟨fun _ => rfl, fun _ => rfl, rfl, fun _ => rfl, fun _ => rfl⟩) (pg_item .tup (i := 1) at_1 (eg_sh (i := 4) (by walk_at "vo") rfl) eg_int)))))))
end
end K02
end Cw
end L2

set_option Elab.async false
set_option linter.all false
set_option maxRecDepth 100000
set_option maxHeartbeats 4000000
namespace L2
namespace Cw
namespace K02
open PySem PySem.Spec PyProof.Rows
local macro_rules | `(tactic| walk_at "vo") => `(tactic| exact ⟨rfl, by first | exact .inl rfl | exact .inr (.inl rfl) | exact .inr (.inr rfl), by decide, by decide⟩)
local macro_rules | `(tactic| walk_at "gl") => `(tactic| exact ⟨rfl, by decide⟩)
local macro_rules | `(tactic| walk_at "nd") => `(tactic| (dsimp only [SS.blk, defP]; decide +kernel))
local macro_rules | `(tactic| walk_at "so") => `(tactic| exact ⟨by walk_at "nd", rfl, by first | exact .inl rfl | exact .inr rfl, by first | exact .inl rfl | exact .inr rfl, by first | (dsimp only [SS.blk, defP, pins]; decide) | (simp [SS.blk, defP, pins, isOw, List.range_succ]; done)⟩)
local macro_rules | `(tactic| walk_at "bk") => `(tactic| exact blkOk_by (by walk_at "nd"))
local macro_rules | `(tactic| walk_at "ln") => `(tactic| (simp; done))
local macro_rules | `(tactic| walk_at "no") => `(tactic| (intro t; simp; done))
local macro_rules | `(tactic| walk_at "lv") => `(tactic| (dsimp only [SS.blk, defP]; decide))
local macro_rules | `(tactic| walk_at "sc") => `(tactic| exact ⟨rfl, rfl, rfl, by decide +kernel, rfl, by decide +kernel, by decide +kernel⟩)
/- a name's value -/
local macro_rules | `(tactic| walk_at "v") => `(tactic| first
  | exact eg_sh (i := 0) (by walk_at "vo") rfl | exact eg_sh (i := 1) (by walk_at "vo") rfl | exact eg_sh (i := 2) (by walk_at "vo") rfl | exact eg_sh (i := 3) (by walk_at "vo") rfl
  | exact eg_sh (i := 4) (by walk_at "vo") rfl | exact eg_sh (i := 5) (by walk_at "vo") rfl | exact eg_sh (i := 6) (by walk_at "vo") rfl | exact eg_sh (i := 7) (by walk_at "vo") rfl)

abbrev Dc := Int × Int × Int
def dT (d : Dc) : T := .lst [.int d.1, .int d.2.1, .int d.2.2]
/-- what is rolled, and the dice behind -/
def roll (d : Dc) (m : Int) : Int × Dc := ((rollF [d.1, d.2.1, d.2.2] m).1, ((rollF [d.1, d.2.1, d.2.2] m).2.getD 0 0, (rollF [d.1, d.2.1, d.2.2] m).2.getD 1 0, (rollF [d.1, d.2.1, d.2.2] m).2.getD 2 0))
theorem dT_roll (d : Dc) (m : Int) : dT (roll d m).2 = .lst ((rollF [d.1, d.2.1, d.2.2] m).2.map T.int) := by
  obtain ⟨a, b, c⟩ := d
  show dT (roll (a, b, c) m).2 = .lst ((rollF [a, b, c] m).2.map T.int)
  unfold roll dT
  by_cases h : c = 2 ∨ (c = 1 ∧ 0 < a)
  · simp only [rollF_t h]; rfl
  · simp only [rollF_f h]; rfl
theorem roll_lt (d : Dc) {m : Int} (hm : 0 < m) : 0 ≤ (roll d m).1 ∧ (roll d m).1 < m := by
  obtain ⟨a, b, c⟩ := d
  show 0 ≤ (rollF [a, b, c] m).1 ∧ (rollF [a, b, c] m).1 < m
  by_cases h : c = 2 ∨ (c = 1 ∧ 0 < a)
  · rw [rollF_t h]; exact ⟨Int.fmod_nonneg_of_pos _ hm, Int.fmod_lt_of_pos _ hm⟩
  · rw [rollF_f h]; exact ⟨Int.fmod_nonneg_of_pos _ hm, Int.fmod_lt_of_pos _ hm⟩
section
variable {P : Program} {w : World} {K : PySem.W.Frag} {mg : Str → Option Value} {base : Heap} (T_ : Tx K mg)
include T_ in
theorem eg_roll {S : SS} {E : List Ent} {e : Expr} {i : Nat} {m : Int} {d : Dc} {p q pos : Pos} (hP : S.P = P) (hw : S.w = w) (hK : S.K = K) (hm : S.mg = mg) (hB : S.base = base) (hk : 1 ≤ S.k) (vo : VarOk S i "dice") (g : GlOk S "_law_roll") (h0 : E[i]? = some (.ow (dT d))) (h : EG S E e (.int m) E) (ok : rollOk m)
    (he : ∀ env, starEach [.Name "dice" q, e] env = (false, eval (.Name "dice" q) env) :: starEach [e] env := by intro _; rfl) (he2 : ∀ env, starEach [e] env = (false, eval e env) :: starEach [] env := by intro _; rfl) (hpl : ∀ env, (backTo pos (starEach [e] env)).any (·.1) = false := by intro _; rfl) :
    EG S E (.Call (.Name "_law_roll" p) [.Name "dice" q, e] [] pos) (.int (roll d m).1) (E.set i (.ow (dT (roll d m).2))) := by
  subst hP hw hK hm hB
  have h := eg_call (S := S) (E := E) (E1 := E) (k := 1) (x := "_law_roll") (p := p) (pos := pos) (e := .Name "dice" q) (es := [e]) (ds := [.bo i (dT d), .va (.int m)]) (dts := []) (dvs := []) (dV := []) (t := .int (roll d m).1) (as' := [.ow (dT (roll d m).2), .sh (.int m)]) (T_.roll.ok rfl rfl) g (by rw [dT_roll]; exact roll_ok T_ d.1 d.2.1 d.2.2 m ok) hk .nil (fun _ => .nil) (eab_bo vo h0 (eab_va h (eab_of eas_nil) he2) he) ?_ ?_ ?_ he hpl
  · exact h
  · intro j i' t hj
    match j with
    | 0 => cases hj; exact h0
    | 1 => cases hj
    | j + 2 => cases hj
  · exact List.nodup_cons.mpr ⟨List.not_mem_nil, List.nodup_nil⟩
  · intro j i' t hj
    match j with
    | 0 => exact ⟨_, rfl⟩
    | 1 => cases hj
    | j + 2 => cases hj
end
end K02
end Cw
end L2

set_option Elab.async false
set_option linter.all false
set_option maxRecDepth 100000
set_option maxHeartbeats 4000000
namespace L2
namespace Cw
namespace K02
open PySem PySem.Spec PyProof.Rows
local macro_rules | `(tactic| walk_at "vo") => `(tactic| exact ⟨rfl, by first | exact .inl rfl | exact .inr (.inl rfl) | exact .inr (.inr rfl), by decide, by decide⟩)
local macro_rules | `(tactic| walk_at "gl") => `(tactic| exact ⟨rfl, by decide⟩)
local macro_rules | `(tactic| walk_at "nd") => `(tactic| (dsimp only [SS.blk, defP]; decide +kernel))
local macro_rules | `(tactic| walk_at "so") => `(tactic| exact ⟨by walk_at "nd", rfl, by first | exact .inl rfl | exact .inr rfl, by first | exact .inl rfl | exact .inr rfl, by first | (dsimp only [SS.blk, defP, pins]; decide) | (simp [SS.blk, defP, pins, isOw, List.range_succ]; done)⟩)
local macro_rules | `(tactic| walk_at "bk") => `(tactic| exact blkOk_by (by walk_at "nd"))
local macro_rules | `(tactic| walk_at "ln") => `(tactic| (simp; done))
local macro_rules | `(tactic| walk_at "no") => `(tactic| (intro t; simp; done))
local macro_rules | `(tactic| walk_at "lv") => `(tactic| (dsimp only [SS.blk, defP]; decide))
local macro_rules | `(tactic| walk_at "sc") => `(tactic| exact ⟨rfl, rfl, rfl, by decide +kernel, rfl, by decide +kernel, by decide +kernel⟩)
/- a name's value -/
local macro_rules | `(tactic| walk_at "v") => `(tactic| first
  | exact eg_sh (i := 0) (by walk_at "vo") rfl | exact eg_sh (i := 1) (by walk_at "vo") rfl | exact eg_sh (i := 2) (by walk_at "vo") rfl | exact eg_sh (i := 3) (by walk_at "vo") rfl
  | exact eg_sh (i := 4) (by walk_at "vo") rfl | exact eg_sh (i := 5) (by walk_at "vo") rfl | exact eg_sh (i := 6) (by walk_at "vo") rfl | exact eg_sh (i := 7) (by walk_at "vo") rfl)

def pick (ss : List Sq) (d : Dc) : List Sq × Dc := thrF (fun d (_ : Sq) => (decide ((roll d 2).1 = 0), (roll d 2).2)) ss d
def pickS (ss : List Sq) (d : Dc) : List Sq := if 1 < (pick ss d).1.length then (pick ss d).1 else ss.take 2
/-- a turn: its kind, its squares, its number; the dice behind -/
def kindR (d : Dc) : Int := (roll d 6).1
def dR1 (ss : List Sq) (d : Dc) : Dc := (pick ss (roll d 6).2).2
def some1R (ss : List Sq) (d : Dc) : List Sq := pickS ss (roll d 6).2
def someR (ss : List Sq) (d : Dc) : List Sq := if (roll (dR1 ss d) 3).1 = 0 then (some1R ss d).reverse else some1R ss d
def dR2 (ss : List Sq) (d : Dc) : Dc := (roll (dR1 ss d) 3).2
def muchR (ss : List Sq) (d : Dc) : Int := (roll (dR2 ss d) 5).1
def dR3 (ss : List Sq) (d : Dc) : Dc := (roll (dR2 ss d) 5).2
def oneR (ss : List Sq) (d : Dc) : Sq := (someR ss d).getD 0 (0, 0)
def otherR (ss : List Sq) (d : Dc) : Sq := (someR ss d).getD 1 (0, 0)
def ruleR (ss : List Sq) (d : Dc) (turn : Nat) : RS :=
  if kindR d = 0 then .unlike (someR ss d) else if kindR d = 1 then .sum (someR ss d) (muchR ss d + 1) else if kindR d = 2 then .less (oneR ss d) (otherR ss d)
  else if kindR d = 3 then .gap (oneR ss d) (otherR ss d) ((muchR ss d).fmod 3) else if kindR d = 4 then .tops (someR ss d) (1 + (muchR ss d).fmod 2) else .count (someR ss d) ((0 + (turn : Int)).fmod 3) ((muchR ss d).fmod 3)
def gR (ss : List Sq) (d : Dc) (turn : Nat) : RS × Dc := (ruleR ss d turn, dR3 ss d)
theorem thrF_sub {α σ : Type} (g : σ → α → Bool × σ) : ∀ (xs : List α) (s : σ), (thrF g xs s).1.Sublist xs
  | [], s => List.Sublist.slnil
  | x :: xs, s => by
    unfold thrF
    split
    · exact (thrF_sub g xs _).cons_cons x
    · exact (thrF_sub g xs _).cons x
theorem thr_snoc {α β σ : Type} (g : σ → α → β × σ) (x : α) : ∀ (xs : List α) (s : σ), thr g (xs ++ [x]) s = ((thr g xs s).1 ++ [(g (thr g xs s).2 x).1], (g (thr g xs s).2 x).2)
  | [], s => rfl
  | y :: ys, s => by
    show ((g s y).1 :: (thr g (ys ++ [x]) (g s y).2).1, (thr g (ys ++ [x]) (g s y).2).2) = _
    rw [thr_snoc g x ys]
    rfl
theorem thr_len {α β σ : Type} (g : σ → α → β × σ) : ∀ (xs : List α) (s : σ), (thr g xs s).1.length = xs.length
  | [], s => rfl
  | x :: xs, s => congrArg Nat.succ (thr_len g xs _)
theorem some1R_sub (ss : List Sq) (d : Dc) : (some1R ss d).Sublist ss := by
  unfold some1R pickS
  split
  · exact thrF_sub _ _ _
  · exact List.take_sublist 2 ss
theorem some1R_len {ss : List Sq} (d : Dc) (h : 2 ≤ ss.length) : 2 ≤ (some1R ss d).length := by
  unfold some1R pickS
  split
  · assumption
  · rw [List.length_take]; omega
theorem someR_len {ss : List Sq} (d : Dc) (h : 2 ≤ ss.length) : 2 ≤ (someR ss d).length ∧ (someR ss d).length ≤ ss.length := by
  have a := some1R_len d h
  have b := (some1R_sub ss d).length_le
  unfold someR
  split
  · rw [List.length_reverse]; exact ⟨a, b⟩
  · exact ⟨a, b⟩
theorem someR_nd {ss : List Sq} (d : Dc) (h : ss.Nodup) : (someR ss d).Nodup := by
  have a := h.sublist (some1R_sub ss d)
  unfold someR
  split
  · exact List.pairwise_reverse.mpr (a.imp fun h => h.symm)
  · exact a
theorem someR_two {ss : List Sq} (d : Dc) (h : 2 ≤ ss.length) : ∃ rest, someR ss d = oneR ss d :: otherR ss d :: rest := by
  have a := (someR_len d h).1
  unfold oneR otherR
  match someR ss d, a with
  | x :: y :: r, _ => exact ⟨r, rfl⟩
theorem someR_ok {ss : List Sq} (d : Dc) (h : 2 ≤ ss.length) (nd : ss.Nodup) : spotsOk (someR ss d) = true := by
  obtain ⟨r, e⟩ := someR_two d h
  have n := someR_nd d nd
  unfold spotsOk
  rw [decide_eq_true n, e]
  rfl
theorem two_ok {ss : List Sq} (d : Dc) (h : 2 ≤ ss.length) (nd : ss.Nodup) : spotsOk [oneR ss d, otherR ss d] = true := by
  obtain ⟨r, e⟩ := someR_two d h
  have n := someR_nd d nd
  rw [e] at n
  have n2 : [oneR ss d, otherR ss d].Nodup := n.sublist (by simp)
  unfold spotsOk
  rw [decide_eq_true n2]
  rfl
section
variable {P : Program} {w : World} {K : PySem.W.Frag} {mg : Str → Option Value} {base : Heap} (T_ : Tx K mg)
def RS.pair (r : RS) : T := .tup [r.tree T_, r.test]
def turnE (ss : List Sq) (d : Dc) (t : Nat) : List Ent := [.sh (.int (0 + (t : Int))), .sh (.int (kindR d)), .sh (.lst ((someR ss d).map sqT)), .sh (sqT (oneR ss d)), .sh (sqT (otherR ss d)), .sh (.int (muchR ss d)), .no]
def rulesE (ss : List Sq) (d : Dc) (pre : List Nat) : List Ent :=
  [.ow (dT (thr (gR ss) pre d).2), .sh (.lst (ss.map sqT)), .ow (.lst ((thr (gR ss) pre d).1.map (RS.pair T_)))] ++ (match pre.getLast? with | none => [.no, .no, .no, .no, .no, .no, .no] | some t => turnE ss (thr (gR ss) pre.dropLast d).2 t)
theorem sc33 : FnScope ["dice", "spots", "found", "turn", "kind", "some", "one", "other", "much", "spot"] ["dice", "spots"] (defScope (top 33)) := by walk_at "sc"
theorem rules_ok (ss : List Sq) (d : Dc) (h2 : 2 ≤ ss.length) (h8 : ss.length < 64) (nd : ss.Nodup) : FnOk P w K mg base (L2.CX P w) 4 T_.rules.f T_.rules.fd ["dice", "spots"] (spOf K [.ow (dT d), .sh (.lst (ss.map sqT))] (.ret (.lst ((thr (gR ss) (List.range (roll d 4).1.toNat) (roll d 4).2).1.map (RS.pair T_))) [.ow (dT (thr (gR ss) (List.range (roll d 4).1.toNat) (roll d 4).2).2), .sh (.lst (ss.map sqT))])) := by
  obtain ⟨l0, l4⟩ := roll_lt d (m := 4) (by decide)
  generalize hd1 : (roll d 4).2 = d1
  generalize hn : (roll d 4).1.toNat = n
  refine fn_ok (N := ["dice", "spots", "found", "turn", "kind", "some", "one", "other", "much", "spot"]) (o := .ret (.lst ((thr (gR ss) (List.range n) d1).1.map (RS.pair T_))) ((rulesE T_ ss d1 (List.range n)).set 2 (.sh (.lst ((thr (gR ss) (List.range n) d1).1.map (RS.pair T_)))))) T_.rules.F sc33 rfl (.ret ⟨rfl, fun j t h => ?_, fun j t h => ?_⟩) ?_
  · match j with
    | 0 => cases h
    | 1 => exact h
    | j + 2 => cases h
  · match j with
    | 0 => cases h; exact ⟨rfl, _, rfl⟩
    | 1 => cases h
    | j + 2 => cases h
  show SGs _ [.ow (dT d), .sh (.lst (ss.map sqT)), .no, .no, .no, .no, .no, .no, .no, .no] _ _
  refine sgs_cons (sg_setO (i := 2) (t := .lst []) (by walk_at "so") (eo_lst eas_nil (by decide)) (by walk_at "ln")) (sgs_cons (E1 := rulesE T_ ss d1 (List.range n)) (sg_for (E1 := rulesE T_ ss d1 []) (ts := (List.range n).map fun k : Nat => T.int (0 + (k : Int))) ?_ (ForR.pre (toT := fun k : Nat => T.int (0 + (k : Int))) (Ev := rulesE T_ ss d1) (fun pre x post hx => ?_))) (sgs_one (sg_ret (eg_fz (i := 2) (by walk_at "vo") rfl))))
  · rw [← hn, ← hd1]
    exact ig_range (E := [.ow (dT d), .sh (.lst (ss.map sqT)), .ow (.lst []), .no, .no, .no, .no, .no, .no, .no]) (by walk_at "gl") T_.nRange (eg_roll T_ (i := 0) rfl rfl rfl rfl rfl (by walk_at "lv") (by walk_at "vo") (by walk_at "gl") rfl eg_int ⟨by decide, by decide⟩) (by omega)
  · have hpre : pre.length + (1 + post.length) = n := by
      have := congrArg List.length hx
      simp at this
      omega
    have gl : (thr (gR ss) pre d1).1.length < 16777216 := by rw [thr_len]; omega
    obtain ⟨e3, e4, e5, e6, e7, e8, eq⟩ : ∃ e3 e4 e5 e6 e7 e8, rulesE T_ ss d1 pre = [.ow (dT (thr (gR ss) pre d1).2), .sh (.lst (ss.map sqT)), .ow (.lst ((thr (gR ss) pre d1).1.map (RS.pair T_))), e3, e4, e5, e6, e7, e8, .no] := by
      unfold rulesE
      cases pre.getLast? with
      | none => exact ⟨_, _, _, _, _, _, rfl⟩
      | some t => exact ⟨_, _, _, _, _, _, rfl⟩
    have eq2 : rulesE T_ ss d1 (pre ++ [x]) = [.ow (dT (dR3 ss (thr (gR ss) pre d1).2)), .sh (.lst (ss.map sqT)), .ow (.lst ((thr (gR ss) pre d1).1.map (RS.pair T_) ++ [(ruleR ss (thr (gR ss) pre d1).2 x).pair T_]))] ++ turnE ss (thr (gR ss) pre d1).2 x := by
      unfold rulesE
      rw [thr_snoc, List.getLast?_concat, List.dropLast_concat, List.map_append]
      rfl
    rw [eq, eq2]
    refine ⟨_, [3], ag_name (i := 3) (by walk_at "so") (by walk_at "ln"), ?_⟩
    show SGs _ [.ow (dT (thr (gR ss) pre d1).2), .sh (.lst (ss.map sqT)), .ow (.lst ((thr (gR ss) pre d1).1.map (RS.pair T_))), .sh (.int (0 + (x : Int))), e4, e5, e6, e7, e8, .no] _ _
    generalize (thr (gR ss) pre d1).2 = c
    rw [← List.length_map (f := RS.pair T_)] at gl
    generalize (thr (gR ss) pre d1).1.map (RS.pair T_) = fs at gl
    -- kind, some
    refine sgs_cons (E1 := [.ow (dT (dR1 ss c)), .sh (.lst (ss.map sqT)), .ow (.lst fs), .sh (.int (0 + (x : Int))), .sh (.int (kindR c)), .sh (.lst ((pick ss (roll c 6).2).1.map sqT)), e6, e7, e8, .no]) (sg_nx (sg_par2 (i := 4) (j := 5) (by walk_at "so") (by walk_at "so") rfl rfl rfl (eas_cons (eg_roll T_ (i := 0) rfl rfl rfl rfl rfl (by walk_at "lv") (by walk_at "vo") (by walk_at "gl") rfl eg_int ⟨by decide, by decide⟩) (eas_cons ((lcTF (toT := sqT) (fa := sqT) (i := 9) (Ev := fun c' => [.ow (dT c'), .sh (.lst (ss.map sqT)), .ow (.lst fs), .sh (.int (0 + (x : Int))), e4, e5, e6, e7, e8, .no]) (g := fun d (_ : Sq) => (decide ((roll d 2).1 = 0), (roll d 2).2)) (xs := ss) (roll c 6).2 (by walk_at "bk") (by walk_at "nd") (by walk_at "so") (fun _ => by walk_at "ln") (fun _ _ => rfl) (by walk_at "no") (by omega) (pg_iter .lst (eg_sh (i := 1) (by walk_at "vo") rfl)) (fun a _ s => ?_) fun a _ s => (eg_sh (i := 9) (by walk_at "vo") rfl)).eg) eas_nil)) (by show 4 < 10; decide) (by show 5 < 10; decide) (by decide)) rfl) ?_
    · have q := enc_int.eq (roll s 2).1 0
      rw [← q]
      exact tt_eq (n := 0) (eg_roll T_ (i := 0) rfl rfl rfl rfl rfl (by walk_at "lv") (by walk_at "vo") (by walk_at "gl") rfl eg_int ⟨by decide, by decide⟩) eg_int trivial trivial
    -- some, once more
    refine sgs_cons (E1 := [.ow (dT (dR1 ss c)), .sh (.lst (ss.map sqT)), .ow (.lst fs), .sh (.int (0 + (x : Int))), .sh (.int (kindR c)), .sh (.lst ((some1R ss c).map sqT)), e6, e7, e8, .no]) (sg_setP (i := 5) (t := .lst ((some1R ss c).map sqT)) (by walk_at "so") ?_ (by walk_at "ln")) ?_
    · have q : T.lst ((some1R ss c).map sqT) = if decide ((1 : Int) < (((pick ss (roll c 6).2).1.map sqT).length : Nat)) = true then .lst ((pick ss (roll c 6).2).1.map sqT) else .lst ((ss.take 2).map sqT) := by
        unfold some1R pickS
        by_cases h : 1 < (pick ss (roll c 6).2).1.length
        · rw [if_pos h, if_pos (by simp; omega)]
        · rw [if_neg h, if_neg (by simp; omega)]
      rw [q]
      refine eg_if (pt_gt (eg_len .lst (by walk_at "gl") T_.nLen (eg_sh (i := 5) (by walk_at "vo") rfl)) eg_int) (fun _ => (eg_sh (i := 5) (by walk_at "vo") rfl)) fun _ => eg_listS .lst (by walk_at "gl") T_.nList ?_
      exact eg_to (eg_sliceL (lo := none) (m := none) (n := some ((2 : Nat) : Int)) (eg_sh (i := 1) (by walk_at "vo") rfl) pa_no (pa_so eg_int)) (by rw [cut_take (by rw [List.length_map]; exact h2), ← List.map_take]) rfl
    refine sgs_cons (E1 := [.ow (dT (dR2 ss c)), .sh (.lst (ss.map sqT)), .ow (.lst fs), .sh (.int (0 + (x : Int))), .sh (.int (kindR c)), .sh (.lst ((someR ss c).map sqT)), e6, e7, e8, .no]) (sg_nx (sg_set (i := 5) (t := .lst ((someR ss c).map sqT)) (E1 := [.ow (dT (dR2 ss c)), .sh (.lst (ss.map sqT)), .ow (.lst fs), .sh (.int (0 + (x : Int))), .sh (.int (kindR c)), .sh (.lst ((some1R ss c).map sqT)), e6, e7, e8, .no]) (by walk_at "so") ?_ (by walk_at "ln")) rfl) ?_
    · have q : T.lst ((someR ss c).map sqT) = if teq (.int (roll (dR1 ss c) 3).1) (.int 0) = true then .lst ((some1R ss c).map sqT).reverse else .lst ((some1R ss c).map sqT) := by
        rw [enc_int.eq]
        unfold someR
        by_cases h : (roll (dR1 ss c) 3).1 = 0
        · rw [if_pos h, if_pos (by simpa using h), List.map_reverse]
        · rw [if_neg h, if_neg (by simpa using h)]
      rw [q]
      exact eg_if (E1 := [.ow (dT (dR2 ss c)), .sh (.lst (ss.map sqT)), .ow (.lst fs), .sh (.int (0 + (x : Int))), .sh (.int (kindR c)), .sh (.lst ((some1R ss c).map sqT)), e6, e7, e8, .no]) (tt_eq (n := 0) (eg_roll T_ (i := 0) rfl rfl rfl rfl rfl (by walk_at "lv") (by walk_at "vo") (by walk_at "gl") rfl eg_int ⟨by decide, by decide⟩) eg_int trivial trivial) (fun _ => eg_revL (eg_sh (i := 5) (by walk_at "vo") rfl)) fun _ => (eg_sh (i := 5) (by walk_at "vo") rfl)
    obtain ⟨rest, er⟩ := someR_two c h2
    have ea0 : atI ((someR ss c).map sqT) 0 = some (sqT (oneR ss c)) := by rw [er]; exact at_0
    have ea1 : atI ((someR ss c).map sqT) 1 = some (sqT (otherR ss c)) := by rw [er]; exact at_1
    refine sgs_cons (E1 := [.ow (dT (dR3 ss c)), .sh (.lst (ss.map sqT)), .ow (.lst fs), .sh (.int (0 + (x : Int))), .sh (.int (kindR c)), .sh (.lst ((someR ss c).map sqT)), .sh (sqT (oneR ss c)), .sh (sqT (otherR ss c)), .sh (.int (muchR ss c)), .no]) (sg_nx (sg_par3 (i := 6) (j := 7) (l := 8) (by walk_at "so") (by walk_at "so") (by walk_at "so") rfl rfl rfl rfl (eas_cons (pg_item .lst (i := 0) ea0 (eg_sh (i := 5) (by walk_at "vo") rfl) eg_int) (eas_cons (pg_item .lst (i := 1) ea1 (eg_sh (i := 5) (by walk_at "vo") rfl) eg_int) (eas_cons (eg_roll T_ (i := 0) rfl rfl rfl rfl rfl (by walk_at "lv") (by walk_at "vo") (by walk_at "gl") rfl eg_int ⟨by decide, by decide⟩) eas_nil))) (by show 6 < 10; decide) (by show 7 < 10; decide) (by show 8 < 10; decide) (by decide) (by decide)) rfl) ?_
    show SGs _ _ _ (.nx [.ow (dT (dR3 ss c)), .sh (.lst (ss.map sqT)), .ow (.lst (fs ++ [RS.pair T_ (ruleR ss c x)])), .sh (.int (0 + (x : Int))), .sh (.int (kindR c)), .sh (.lst ((someR ss c).map sqT)), .sh (sqT (oneR ss c)), .sh (sqT (otherR ss c)), .sh (.int (muchR ss c)), .no])
    have tk : ∀ n : Int, kindR c = n → teq (.int (kindR c)) (.int n) = true := fun n h => by rw [enc_int.eq]; simpa using h
    have fk : ∀ n : Int, kindR c ≠ n → teq (.int (kindR c)) (.int n) = false := fun n h => by rw [enc_int.eq]; simpa using h
    by_cases k0 : kindR c = 0
    · have er0 : ruleR ss c x = .unlike (someR ss c) := by unfold ruleR; rw [if_pos k0]
      exact sgs_one (sg_ifT (d := teq (.int (kindR c)) (.int 0)) (tk 0 k0) (pt_eq (n := 0) trivial trivial (eg_sh (i := 4) (by walk_at "vo") rfl) eg_int) (sgs_one (sg_nx (sg_append (l := 2) (by walk_at "vo") rfl (pg_tup2 (eg_make T_.cUnlike.makes (by walk_at "gl") T_.cUnlike.mgC T_.cUnlike.init.bd (unlike_init T_ (someR ss c) (.inl rfl) (someR_ok c h2 nd) (by have := (someR_len c h2).2; omega)) (by walk_at "lv") (pas_cons (eg_sh (i := 5) (by walk_at "vo") rfl) eas_nil)) (pg_tup3 eg_str (eg_sh (i := 5) (by walk_at "vo") rfl) eg_int)) rfl gl ⟨fun _ => rfl, fun _ => rfl, rfl, fun _ => rfl, fun _ => rfl⟩) (by rw [er0]; rfl))))
    by_cases k1 : kindR c = 1
    · have er0 : ruleR ss c x = .sum (someR ss c) (muchR ss c + 1) := by unfold ruleR; rw [if_neg k0, if_pos k1]
      exact sgs_one (sg_ifF (d := teq (.int (kindR c)) (.int 0)) (fk 0 k0) (pt_eq (n := 0) trivial trivial (eg_sh (i := 4) (by walk_at "vo") rfl) eg_int) (sgs_one (sg_ifT (d := teq (.int (kindR c)) (.int 1)) (tk 1 k1) (pt_eq (n := 0) trivial trivial (eg_sh (i := 4) (by walk_at "vo") rfl) eg_int) (sgs_one (sg_nx (sg_append (l := 2) (by walk_at "vo") rfl (pg_tup2 (eg_make T_.cSum.makes (by walk_at "gl") T_.cSum.mgC T_.cSum.init.bd (sum_init T_ (someR ss c) (muchR ss c + 1) (.inl rfl) (someR_ok c h2 nd) (by have := (someR_len c h2).2; omega)) (by walk_at "lv") (pas_cons (eg_sh (i := 5) (by walk_at "vo") rfl) (pas_cons (pg_add (eg_sh (i := 8) (by walk_at "vo") rfl) eg_int) eas_nil))) (pg_tup3 eg_str (eg_sh (i := 5) (by walk_at "vo") rfl) (pg_add (eg_sh (i := 8) (by walk_at "vo") rfl) eg_int))) rfl gl ⟨fun _ => rfl, fun _ => rfl, rfl, fun _ => rfl, fun _ => rfl⟩) (by rw [er0]; rfl))))))
    by_cases k2 : kindR c = 2
    · have er0 : ruleR ss c x = .less (oneR ss c) (otherR ss c) := by unfold ruleR; rw [if_neg k0, if_neg k1, if_pos k2]
      exact sgs_one (sg_ifF (d := teq (.int (kindR c)) (.int 0)) (fk 0 k0) (pt_eq (n := 0) trivial trivial (eg_sh (i := 4) (by walk_at "vo") rfl) eg_int) (sgs_one (sg_ifF (d := teq (.int (kindR c)) (.int 1)) (fk 1 k1) (pt_eq (n := 0) trivial trivial (eg_sh (i := 4) (by walk_at "vo") rfl) eg_int) (sgs_one (sg_ifT (d := teq (.int (kindR c)) (.int 2)) (tk 2 k2) (pt_eq (n := 0) trivial trivial (eg_sh (i := 4) (by walk_at "vo") rfl) eg_int) (sgs_one (sg_nx (sg_append (l := 2) (by walk_at "vo") rfl (pg_tup2 (eg_make T_.cLess.makes (by walk_at "gl") T_.cLess.mgC T_.cLess.init.bd (less_init T_ (oneR ss c) (otherR ss c) (two_ok c h2 nd)) (by walk_at "lv") (pas_cons (eg_sh (i := 6) (by walk_at "vo") rfl) (pas_cons (eg_sh (i := 7) (by walk_at "vo") rfl) eas_nil))) (pg_tup3 eg_str (pg_lst2 (eg_sh (i := 6) (by walk_at "vo") rfl) (eg_sh (i := 7) (by walk_at "vo") rfl)) eg_int)) rfl gl ⟨fun _ => rfl, fun _ => rfl, rfl, fun _ => rfl, fun _ => rfl⟩) (by rw [er0]; rfl))))))))
    by_cases k3 : kindR c = 3
    · have er0 : ruleR ss c x = .gap (oneR ss c) (otherR ss c) ((muchR ss c).fmod 3) := by unfold ruleR; rw [if_neg k0, if_neg k1, if_neg k2, if_pos k3]
      exact sgs_one (sg_ifF (d := teq (.int (kindR c)) (.int 0)) (fk 0 k0) (pt_eq (n := 0) trivial trivial (eg_sh (i := 4) (by walk_at "vo") rfl) eg_int) (sgs_one (sg_ifF (d := teq (.int (kindR c)) (.int 1)) (fk 1 k1) (pt_eq (n := 0) trivial trivial (eg_sh (i := 4) (by walk_at "vo") rfl) eg_int) (sgs_one (sg_ifF (d := teq (.int (kindR c)) (.int 2)) (fk 2 k2) (pt_eq (n := 0) trivial trivial (eg_sh (i := 4) (by walk_at "vo") rfl) eg_int) (sgs_one (sg_ifT (d := teq (.int (kindR c)) (.int 3)) (tk 3 k3) (pt_eq (n := 0) trivial trivial (eg_sh (i := 4) (by walk_at "vo") rfl) eg_int) (sgs_one (sg_nx (sg_append (l := 2) (by walk_at "vo") rfl (pg_tup2 (eg_make T_.cGap.makes (by walk_at "gl") T_.cGap.mgC T_.cGap.init.bd (gap_init T_ (oneR ss c) (otherR ss c) ((muchR ss c).fmod 3) (Int.fmod_nonneg_of_pos _ (by decide)) (two_ok c h2 nd)) (by walk_at "lv") (pas_cons (eg_sh (i := 6) (by walk_at "vo") rfl) (pas_cons (eg_sh (i := 7) (by walk_at "vo") rfl) (pas_cons (pg_mod (by decide) (eg_sh (i := 8) (by walk_at "vo") rfl) eg_int) eas_nil)))) (pg_tup3 eg_str (pg_lst2 (eg_sh (i := 6) (by walk_at "vo") rfl) (eg_sh (i := 7) (by walk_at "vo") rfl)) (pg_mod (by decide) (eg_sh (i := 8) (by walk_at "vo") rfl) eg_int))) rfl gl ⟨fun _ => rfl, fun _ => rfl, rfl, fun _ => rfl, fun _ => rfl⟩) (by rw [er0]; rfl))))))))))
    by_cases k4 : kindR c = 4
    · have er0 : ruleR ss c x = .tops (someR ss c) (1 + (muchR ss c).fmod 2) := by unfold ruleR; rw [if_neg k0, if_neg k1, if_neg k2, if_neg k3, if_pos k4]
      exact sgs_one (sg_ifF (d := teq (.int (kindR c)) (.int 0)) (fk 0 k0) (pt_eq (n := 0) trivial trivial (eg_sh (i := 4) (by walk_at "vo") rfl) eg_int) (sgs_one (sg_ifF (d := teq (.int (kindR c)) (.int 1)) (fk 1 k1) (pt_eq (n := 0) trivial trivial (eg_sh (i := 4) (by walk_at "vo") rfl) eg_int) (sgs_one (sg_ifF (d := teq (.int (kindR c)) (.int 2)) (fk 2 k2) (pt_eq (n := 0) trivial trivial (eg_sh (i := 4) (by walk_at "vo") rfl) eg_int) (sgs_one (sg_ifF (d := teq (.int (kindR c)) (.int 3)) (fk 3 k3) (pt_eq (n := 0) trivial trivial (eg_sh (i := 4) (by walk_at "vo") rfl) eg_int) (sgs_one (sg_ifT (d := teq (.int (kindR c)) (.int 4)) (tk 4 k4) (pt_eq (n := 0) trivial trivial (eg_sh (i := 4) (by walk_at "vo") rfl) eg_int) (sgs_one (sg_nx (sg_append (l := 2) (by walk_at "vo") rfl (pg_tup2 (eg_make T_.cTops.makes (by walk_at "gl") T_.cTops.mgC T_.cTops.init.bd (tops_init T_ (someR ss c) (1 + (muchR ss c).fmod 2) (.inl rfl) (someR_ok c h2 nd) (by have := (someR_len c h2).2; omega)) (by walk_at "lv") (pas_cons (eg_sh (i := 5) (by walk_at "vo") rfl) (pas_cons (pg_add eg_int (pg_mod (by decide) (eg_sh (i := 8) (by walk_at "vo") rfl) eg_int)) eas_nil))) (pg_tup3 eg_str (eg_sh (i := 5) (by walk_at "vo") rfl) (pg_add eg_int (pg_mod (by decide) (eg_sh (i := 8) (by walk_at "vo") rfl) eg_int)))) rfl gl ⟨fun _ => rfl, fun _ => rfl, rfl, fun _ => rfl, fun _ => rfl⟩) (by rw [er0]; rfl))))))))))))
    have er0 : ruleR ss c x = .count (someR ss c) ((0 + (x : Int)).fmod 3) ((muchR ss c).fmod 3) := by unfold ruleR; rw [if_neg k0, if_neg k1, if_neg k2, if_neg k3, if_neg k4]
    exact sgs_one (sg_ifF (d := teq (.int (kindR c)) (.int 0)) (fk 0 k0) (pt_eq (n := 0) trivial trivial (eg_sh (i := 4) (by walk_at "vo") rfl) eg_int) (sgs_one (sg_ifF (d := teq (.int (kindR c)) (.int 1)) (fk 1 k1) (pt_eq (n := 0) trivial trivial (eg_sh (i := 4) (by walk_at "vo") rfl) eg_int) (sgs_one (sg_ifF (d := teq (.int (kindR c)) (.int 2)) (fk 2 k2) (pt_eq (n := 0) trivial trivial (eg_sh (i := 4) (by walk_at "vo") rfl) eg_int) (sgs_one (sg_ifF (d := teq (.int (kindR c)) (.int 3)) (fk 3 k3) (pt_eq (n := 0) trivial trivial (eg_sh (i := 4) (by walk_at "vo") rfl) eg_int) (sgs_one (sg_ifF (d := teq (.int (kindR c)) (.int 4)) (fk 4 k4) (pt_eq (n := 0) trivial trivial (eg_sh (i := 4) (by walk_at "vo") rfl) eg_int) ((sgs_one (sg_nx (sg_append (l := 2) (by walk_at "vo") rfl (pg_tup2 (eg_make T_.cCount.makes (by walk_at "gl") T_.cCount.mgC T_.cCount.init.bd (count_init T_ (someR ss c) ((0 + (x : Int)).fmod 3) ((muchR ss c).fmod 3) (.inl rfl) (someR_ok c h2 nd) (by have := (someR_len c h2).2; omega)) (by walk_at "lv") (pas_cons (eg_sh (i := 5) (by walk_at "vo") rfl) (pas_cons (pg_mod (by decide) (eg_sh (i := 3) (by walk_at "vo") rfl) eg_int) (pas_cons (pg_mod (by decide) (eg_sh (i := 8) (by walk_at "vo") rfl) eg_int) eas_nil)))) (pg_tup3 eg_str (eg_sh (i := 5) (by walk_at "vo") rfl) (pg_tup2 (pg_mod (by decide) (eg_sh (i := 3) (by walk_at "vo") rfl) eg_int) (pg_mod (by decide) (eg_sh (i := 8) (by walk_at "vo") rfl) eg_int)))) rfl gl ⟨fun _ => rfl, fun _ => rfl, rfl, fun _ => rfl, fun _ => rfl⟩) (by rw [er0]; rfl)))))))))))))
end
end K02
end Cw
end L2

set_option Elab.async false
set_option linter.all false
set_option maxRecDepth 100000
set_option maxHeartbeats 4000000
namespace L2
namespace Cw
namespace K02
open PySem PySem.Spec PyProof.Rows
local macro_rules | `(tactic| walk_at "vo") => `(tactic| exact ⟨rfl, by first | exact .inl rfl | exact .inr (.inl rfl) | exact .inr (.inr rfl), by decide, by decide⟩)
local macro_rules | `(tactic| walk_at "gl") => `(tactic| exact ⟨rfl, by decide⟩)
local macro_rules | `(tactic| walk_at "nd") => `(tactic| (dsimp only [SS.blk, defP]; decide +kernel))
local macro_rules | `(tactic| walk_at "so") => `(tactic| exact ⟨by walk_at "nd", rfl, by first | exact .inl rfl | exact .inr rfl, by first | exact .inl rfl | exact .inr rfl, by first | (dsimp only [SS.blk, defP, pins]; decide) | (simp [SS.blk, defP, pins, isOw, List.range_succ]; done)⟩)
local macro_rules | `(tactic| walk_at "bk") => `(tactic| exact blkOk_by (by walk_at "nd"))
local macro_rules | `(tactic| walk_at "ln") => `(tactic| (simp; done))
local macro_rules | `(tactic| walk_at "no") => `(tactic| (intro t; simp; done))
local macro_rules | `(tactic| walk_at "lv") => `(tactic| (dsimp only [SS.blk, defP]; decide))
local macro_rules | `(tactic| walk_at "sc") => `(tactic| exact ⟨rfl, rfl, rfl, by decide +kernel, rfl, by decide +kernel, by decide +kernel⟩)
/- a name's value -/
local macro_rules | `(tactic| walk_at "v") => `(tactic| first
  | exact eg_sh (i := 0) (by walk_at "vo") rfl | exact eg_sh (i := 1) (by walk_at "vo") rfl | exact eg_sh (i := 2) (by walk_at "vo") rfl | exact eg_sh (i := 3) (by walk_at "vo") rfl
  | exact eg_sh (i := 4) (by walk_at "vo") rfl | exact eg_sh (i := 5) (by walk_at "vo") rfl | exact eg_sh (i := 6) (by walk_at "vo") rfl | exact eg_sh (i := 7) (by walk_at "vo") rfl)

section
variable {P : Program} {w : World} {K : PySem.W.Frag} {mg : Str → Option Value} {base : Heap} (T_ : Tx K mg)
theorem dice_ok (c : Int) : Gives P w K mg base 1 T_.dice.f T_.dice.fd ["cell"] [.int c] (.lst ((diceL c).map T.int)) := by
  by_cases h : -10 < c ∧ c < 10
  · have e : (diceL c).map T.int = [.int (if c < 0 then -c else c), .int 0, .int 2] := by unfold diceL; rw [if_pos h]; rfl
    rw [e]
    exact gives_p [.sh (.int c)] T_.dice.F sc28 rfl rfl (sgr_ifT (d := decide ((0 : Int) - 10 < c) && decide (c < 10)) (by simpa using h) (pt_ltlt (pg_sub eg_int eg_int) (eg_sh (i := 0) (by walk_at "vo") rfl) eg_int) (sgr_ret (pg_lst3 (eg_abs (by walk_at "gl") T_.nAbs (eg_sh (i := 0) (by walk_at "vo") rfl)) eg_int eg_int)))
  · have e : (diceL c).map T.int = [.int c, .int (1 + c.fmod 1009), .int (if decide ((10 : Int) ^ (18 : Int).toNat ≤ c) = true then 1 else 0)] := by
      unfold diceL
      rw [if_neg h, show (18 : Int).toNat = 18 from rfl]
      by_cases h2 : (10 : Int) ^ 18 ≤ c
      · rw [if_pos h2, if_pos (decide_eq_true h2)]; rfl
      · rw [if_neg h2, if_neg (by rw [decide_eq_false h2]; exact Bool.false_ne_true)]; rfl
    rw [e]
    have hd : (decide ((0 : Int) - 10 < c) && decide (c < 10)) = false := by
      cases q : (decide ((0 : Int) - 10 < c) && decide (c < 10)) with
      | false => rfl
      | true => exact absurd (by simpa using q) h
    exact gives_p [.sh (.int c)] T_.dice.F sc28 rfl rfl (sgr_ifFn (d := decide ((0 : Int) - 10 < c) && decide (c < 10)) hd (pt_ltlt (pg_sub eg_int eg_int) (eg_sh (i := 0) (by walk_at "vo") rfl) eg_int) (sgr_ret (pg_lst3 (eg_sh (i := 0) (by walk_at "vo") rfl) (pg_add eg_int (pg_mod (by decide) (eg_intI (by walk_at "gl") T_.nInt (eg_sh (i := 0) (by walk_at "vo") rfl)) eg_int)) (eg_intB (by walk_at "gl") T_.nInt (eg_ge (eg_sh (i := 0) (by walk_at "vo") rfl) (eg_pow eg_int eg_int ⟨by decide, by decide, by decide⟩))))))
theorem sc30 : FnScope ["script", "most", "cells", "cell"] ["script", "most"] (defScope (top 30)) := by walk_at "sc"
def firstC (ns : List Int) : List Int := if ns = [] then [0] else ns.take 1
theorem firstC_eq (ns : List Int) : firstC ns = [ns.headD 0] := by
  cases ns <;> rfl
theorem rounds_ok (ns : List Int) : Gives P w K mg base 2 T_.rounds.f T_.rounds.fd ["script", "most"] [.slst (ns.map T.int), .int 1] (.lst [.lst ((diceL (ns.headD 0)).map T.int)]) := by
  refine gives_p [.sh (.slst (ns.map T.int)), .sh (.int 1), .no, .no] T_.rounds.F sc30 rfl rfl (sgr_cons (sg_setP (i := 2) (t := .lst ((ns.take 1).map T.int)) (by walk_at "so") (eg_to (eg_sliceS (lo := none) (m := none) (n := some 1) (eg_sh (i := 0) (by walk_at "vo") rfl) pa_no (pa_so (eg_sh (i := 1) (by walk_at "vo") rfl))) ?_ rfl) (by walk_at "ln")) (sgr_cons (E1 := [.sh (.slst (ns.map T.int)), .sh (.int 1), .sh (.lst ((firstC ns).map T.int)), .no]) ?_ (sgr_ret ?_)))
  · rw [List.map_take]
    cases ns with
    | nil => rfl
    | cons x xs => exact congrArg T.lst (cut_take (n := 1) (by simp))
  · by_cases h : ns = []
    · subst h
      exact sg_ifT (d := teq (.lst []) (.lst [])) (by rw [teq_nilL]; rfl) (pt_eq (n := 1) dok_nilL dok_nilL (eg_sh (i := 2) (by walk_at "vo") rfl) pg_lst0) (sgs_one (sg_setP (i := 2) (by walk_at "so") (pg_lst1 eg_int) (by walk_at "ln")))
    · have e : firstC ns = ns.take 1 := by unfold firstC; rw [if_neg h]
      rw [e]
      refine sg_ifFn (d := teq (.lst ((ns.take 1).map T.int)) (.lst [])) ?_ (pt_eq (n := 1) (enc_int.lst.ok _) dok_nilL (eg_sh (i := 2) (by walk_at "vo") rfl) pg_lst0)
      rw [teq_nilL]
      cases ns with
      | nil => exact absurd rfl h
      | cons x xs => rfl
  · refine eg_to (lcN (α := Int) (toT := T.int) (f := fun c => T.lst ((diceL c).map T.int)) (xs := firstC ns) (i := 3) (by walk_at "bk") (by walk_at "nd") (by walk_at "so") (by walk_at "ln") (by walk_at "no") (by rw [firstC_eq]; show 1 ≤ 16777216; decide) (pg_iter .lst (eg_sh (i := 2) (by walk_at "vo") rfl)) fun c _ => ?_).eg (by rw [firstC_eq]; rfl) rfl
    exact eg_fn (T_.dice.ok rfl rfl) (by walk_at "gl") (dice_ok T_ c) (by walk_at "lv") (pas_cons (eg_sh (i := 3) (by walk_at "vo") rfl) eas_nil)
end
end K02
end Cw
end L2

set_option Elab.async false
set_option linter.all false
set_option maxRecDepth 100000
set_option maxHeartbeats 4000000
namespace L2
namespace Cw
namespace K02
open PySem PySem.Spec PyProof.Rows
local macro_rules | `(tactic| walk_at "vo") => `(tactic| exact ⟨rfl, by first | exact .inl rfl | exact .inr (.inl rfl) | exact .inr (.inr rfl), by decide, by decide⟩)
local macro_rules | `(tactic| walk_at "gl") => `(tactic| exact ⟨rfl, by decide⟩)
local macro_rules | `(tactic| walk_at "nd") => `(tactic| (dsimp only [SS.blk, defP]; decide +kernel))
local macro_rules | `(tactic| walk_at "so") => `(tactic| exact ⟨by walk_at "nd", rfl, by first | exact .inl rfl | exact .inr rfl, by first | exact .inl rfl | exact .inr rfl, by first | (dsimp only [SS.blk, defP, pins]; decide) | (simp [SS.blk, defP, pins, isOw, List.range_succ]; done)⟩)
local macro_rules | `(tactic| walk_at "bk") => `(tactic| exact blkOk_by (by walk_at "nd"))
local macro_rules | `(tactic| walk_at "ln") => `(tactic| (simp; done))
local macro_rules | `(tactic| walk_at "no") => `(tactic| (intro t; simp; done))
local macro_rules | `(tactic| walk_at "lv") => `(tactic| (dsimp only [SS.blk, defP]; decide))
local macro_rules | `(tactic| walk_at "sc") => `(tactic| exact ⟨rfl, rfl, rfl, by decide +kernel, rfl, by decide +kernel, by decide +kernel⟩)
/- a name's value -/
local macro_rules | `(tactic| walk_at "v") => `(tactic| first
  | exact eg_sh (i := 0) (by walk_at "vo") rfl | exact eg_sh (i := 1) (by walk_at "vo") rfl | exact eg_sh (i := 2) (by walk_at "vo") rfl | exact eg_sh (i := 3) (by walk_at "vo") rfl
  | exact eg_sh (i := 4) (by walk_at "vo") rfl | exact eg_sh (i := 5) (by walk_at "vo") rfl | exact eg_sh (i := 6) (by walk_at "vo") rfl | exact eg_sh (i := 7) (by walk_at "vo") rfl)

section
variable {P : Program} {w : World} {K : PySem.W.Frag} {mg : Str → Option Value} {base : Heap} (T_ : Tx K mg)
/-! ### _law_told -/
theorem sc31 : FnScope ["what"] ["what"] (defScope (top 31)) := by walk_at "sc"
def words (T_ : Tx K mg) : List (Addr × Str) := [(T_.eSquare, "square"), (T_.xRule.C, "rule"), (T_.eStep, "step"), (T_.ePaper, "paper"), (T_.eSize, "size"), (T_.eText, "text"), (T_.eStore, "store"), (T_.eNoWay, "no way"), (T_.eNoSuch, "no such")]
theorem caught : Catch K T_.xRule.C (words T_) "rule" := .skip T_.notSquare (.here T_.isRule)
def tryH : List ExceptHandler := match defBody (top 31) with | [.Try _ hds _ _ _] => hds | _ => []
theorem hds31 : Hds (defScope (top 31)) mg tryH (words T_) :=
  .cons rfl (by decide) T_.mSquare (.cons rfl (by decide) T_.xRule.mgC (.cons rfl (by decide) T_.mStep (.cons rfl (by decide) T_.mPaper (.cons rfl (by decide) T_.mSize (.cons rfl (by decide) T_.mText (.cons rfl (by decide) T_.mStore (.cons rfl (by decide) T_.mNoWay (.cons rfl (by decide) T_.mNoSuch .nil))))))))
theorem told_rule {q : Str} {ps : Arguments} {body : Expr} {sc : Scope} {k : Nat} (Sc : FnScope [] [] sc) (hb : ∀ (c : Addr) (ct pm : Value), bindArgs (PySem.W.kla_fn "<lambda>" q ps body sc [] pm (.ref c) ct) ⟨[], []⟩ = pure []) (G : EXi (defP P w K mg base k [] sc) [] body T_.xRule.C []) :
    Gives P w K mg base (k + 2) T_.told.f T_.told.fd ["what"] [lamT q ps body sc] (.str "rule") :=
  told_fn T_.told.F sc31 rfl rfl (hds31 T_) (.exc (caught T_)) (sgs_one (sg_retX (ex_act (i := 0) (by walk_at "vo") rfl Sc hb (Nat.le_refl _) G)))
end
end K02
end Cw
end L2

set_option Elab.async false
set_option linter.all false
set_option maxRecDepth 100000
set_option maxHeartbeats 4000000
namespace L2
namespace Cw
namespace K02
open PySem PySem.Spec PyProof.Rows
local macro_rules | `(tactic| walk_at "vo") => `(tactic| exact ⟨rfl, by first | exact .inl rfl | exact .inr (.inl rfl) | exact .inr (.inr rfl), by decide, by decide⟩)
local macro_rules | `(tactic| walk_at "gl") => `(tactic| exact ⟨rfl, by decide⟩)
local macro_rules | `(tactic| walk_at "nd") => `(tactic| (dsimp only [SS.blk, defP]; decide +kernel))
local macro_rules | `(tactic| walk_at "so") => `(tactic| exact ⟨by walk_at "nd", rfl, by first | exact .inl rfl | exact .inr rfl, by first | exact .inl rfl | exact .inr rfl, by first | (dsimp only [SS.blk, defP, pins]; decide) | (simp [SS.blk, defP, pins, isOw, List.range_succ]; done)⟩)
local macro_rules | `(tactic| walk_at "bk") => `(tactic| exact blkOk_by (by walk_at "nd"))
local macro_rules | `(tactic| walk_at "ln") => `(tactic| (simp; done))
local macro_rules | `(tactic| walk_at "no") => `(tactic| (intro t; simp; done))
local macro_rules | `(tactic| walk_at "lv") => `(tactic| (dsimp only [SS.blk, defP]; decide))
local macro_rules | `(tactic| walk_at "sc") => `(tactic| exact ⟨rfl, rfl, rfl, by decide +kernel, rfl, by decide +kernel, by decide +kernel⟩)
/- a name's value -/
local macro_rules | `(tactic| walk_at "v") => `(tactic| first
  | exact eg_sh (i := 0) (by walk_at "vo") rfl | exact eg_sh (i := 1) (by walk_at "vo") rfl | exact eg_sh (i := 2) (by walk_at "vo") rfl | exact eg_sh (i := 3) (by walk_at "vo") rfl
  | exact eg_sh (i := 4) (by walk_at "vo") rfl | exact eg_sh (i := 5) (by walk_at "vo") rfl | exact eg_sh (i := 6) (by walk_at "vo") rfl | exact eg_sh (i := 7) (by walk_at "vo") rfl)

/-- the law's names -/
abbrev lawN : List Str := ["script", "dice", "spots", "rule", "test", "many", "row", "full", "known", "ways_now", "table", "size", "lots", "here", "value", "place", "fits_now", "made_now", "good", "begun", "values", "wrong", "drawn", "line", "k", "one", "pair"]
section
variable {P : Program} {w : World} {K : PySem.W.Frag} {mg : Str → Option Value} {base : Heap} (T_ : Tx K mg)
theorem sc35 : FnScope lawN ["script"] (defScope (top 35)) := by walk_at "sc"
abbrev lawS (P : Program) (w : World) (K : PySem.W.Frag) (mg : Str → Option Value) (base : Heap) : SS := defP P w K mg base 8 lawN (defScope (top 35))
/-- a lambda that must be told 'rule', beside this word -/
def WOk (P : Program) (w : World) (base : Heap) (q : Str) (t : T) : Prop := ∃ (ps : Arguments) (body : Expr) (sc : Scope), t = .tup [lamT q ps body sc, .str "rule"] ∧ FnScope [] [] sc ∧ (∀ (c : Addr) (ct pm : Value), bindArgs (PySem.W.kla_fn "<lambda>" q ps body sc [] pm (.ref c) ct) ⟨[], []⟩ = pure []) ∧ EXi (defP P w K mg base 4 [] sc) [] body T_.xRule.C []
def Wrongs (P : Program) (w : World) (base : Heap) (q : Str) (c D : Addr) (E : List Ent) (es : List Expr) : Prop := ∃ ts, ELs (lawS P w K mg base) (LawF c q) [(D, q)] E es ts E ∧ ts.length = es.length ∧ ∀ t ∈ ts, WOk T_ P w base q t
theorem wr_nil {q : Str} {c D : Addr} {E : List Ent} : Wrongs T_ P w base q c D E [] := ⟨[], els_nil, rfl, fun _ h => absurd h List.not_mem_nil⟩
theorem wr_cons {q : Str} {c D : Addr} {E : List Ent} {ps : Arguments} {body : Expr} {sc : Scope} {p1 p2 p3 : Pos} {j n : Nat} {es : List Expr} (TB : LamX.TabB base mg c D) (ow : OwL E) (hdef : ∀ env, defaultsOf ps env = ([], [])) (Sc : FnScope [] [] sc)
    (hb : ∀ (c : Addr) (ct pm : Value), bindArgs (PySem.W.kla_fn "<lambda>" q ps body sc [] pm (.ref c) ct) ⟨[], []⟩ = pure []) (G : EXi (defP P w K mg base 4 [] sc) [] body T_.xRule.C []) (r : Wrongs T_ P w base q c D E es)
    (hs : ∀ env, starEach (.Tuple [.Lambda ps body sc p1, .Constant (.str "rule") j p2] n p3 :: es) env = (false, eval (.Tuple [.Lambda ps body sc p1, .Constant (.str "rule") j p2] n p3) env) :: starEach es env := by intro _; rfl) :
    Wrongs T_ P w base q c D E (.Tuple [.Lambda ps body sc p1, .Constant (.str "rule") j p2] n p3 :: es) := by
  obtain ⟨ts, h1, hl, h2⟩ := r
  refine ⟨_ :: ts, els_cons (el_tup (els_cons (el_lam TB ow hdef Sc.nofree) (els_cons (el_of eg_str ow) els_nil)) (by show 2 ≤ 16777216; decide)) h1 hs, by simp [hl], fun t ht => ?_⟩
  rcases List.mem_cons.mp ht with rfl | ht
  · exact ⟨ps, body, sc, rfl, Sc, hb, G⟩
  · exact h2 t ht
def wrongE : List Expr := match (defBody (top 35)).getD 1 (.Pass ⟨0, 0, 0, 0⟩) with | .Assign _ (.List es _) _ => es | _ => []
theorem wrong_all {q : Str} {c D : Addr} {E : List Ent} (TB : LamX.TabB base mg c D) (ow : OwL E) : Wrongs T_ P w base q c D E wrongE :=
  (wr_cons T_ TB ow (fun _ => rfl) (by walk_at "sc") (fun _ _ _ => rfl) (ex_i (ex_fn (T_.check_spots.ok rfl rfl) (by walk_at "gl") (check_spots_no T_ [] (.inl rfl) (by decide) (by decide)) (by walk_at "lv") (pas_cons pg_lst0 eas_nil))) (wr_cons T_ TB ow (fun _ => rfl) (by walk_at "sc") (fun _ _ _ => rfl) (ex_make T_.cUnlike.makes (by walk_at "gl") T_.cUnlike.mgC T_.cUnlike.init.bd (unlike_initX T_ [(0, 0), (0, 0)] (.inl rfl) (by decide) (by decide)) (by walk_at "lv") (pas_cons (pg_lst2 (pg_tup2 eg_int eg_int) (pg_tup2 eg_int eg_int)) eas_nil)) (wr_cons T_ TB ow (fun _ => rfl) (by walk_at "sc") (fun _ _ _ => rfl) (ex_make T_.cSum.makes (by walk_at "gl") T_.cSum.mgC T_.cSum.init.bd (sum_initX T_ [] 3 (.inl rfl) (by decide) (by decide)) (by walk_at "lv") (pas_cons pg_lst0 (pas_cons eg_int eas_nil))) (wr_cons T_ TB ow (fun _ => rfl) (by walk_at "sc") (fun _ _ _ => rfl) (ex_make T_.cLess.makes (by walk_at "gl") T_.cLess.mgC T_.cLess.init.bd (less_initX T_ (0, 0) (0, 0) (by decide)) (by walk_at "lv") (pas_cons (pg_tup2 eg_int eg_int) (pas_cons (pg_tup2 eg_int eg_int) eas_nil))) (wr_cons T_ TB ow (fun _ => rfl) (by walk_at "sc") (fun _ _ _ => rfl) (ex_make T_.cGap.makes (by walk_at "gl") T_.cGap.mgC T_.cGap.init.bd (gap_initX T_ (0, 0) (0, 1) (0 - 1) (by decide)) (by walk_at "lv") (pas_cons (pg_tup2 eg_int eg_int) (pas_cons (pg_tup2 eg_int eg_int) (pas_cons (pg_sub eg_int eg_int) eas_nil)))) (wr_cons T_ TB ow (fun _ => rfl) (by walk_at "sc") (fun _ _ _ => rfl) (ex_make T_.cTops.makes (by walk_at "gl") T_.cTops.mgC T_.cTops.init.bd (tops_initX T_ [] 1 (.inl rfl) (by decide) (by decide)) (by walk_at "lv") (pas_cons pg_lst0 (pas_cons eg_int eas_nil))) (wr_cons T_ TB ow (fun _ => rfl) (by walk_at "sc") (fun _ _ _ => rfl) (ex_make T_.cCount.makes (by walk_at "gl") T_.cCount.mgC T_.cCount.init.bd (count_initX T_ [] 1 1 (.inl rfl) (by decide) (by decide)) (by walk_at "lv") (pas_cons pg_lst0 (pas_cons eg_int (pas_cons eg_int eas_nil)))) (wr_cons T_ TB ow (fun _ => rfl) (by walk_at "sc") (fun _ _ _ => rfl) (ex_make T_.cRuns.makes (by walk_at "gl") T_.cRuns.mgC T_.cRuns.init.bd (runs_initX T_ [(0, 0)] [0] (.inl rfl) (by decide) (by decide) (by decide) (by decide)) (by walk_at "lv") (pas_cons (pg_lst1 (pg_tup2 eg_int eg_int)) (pas_cons (pg_lst1 eg_int) eas_nil))) (wr_cons T_ TB ow (fun _ => rfl) (by walk_at "sc") (fun _ _ _ => rfl) (ex_make T_.cRuns.makes (by walk_at "gl") T_.cRuns.mgC T_.cRuns.init.bd (runs_initX T_ [(0, 0)] [2] (.inl rfl) (by decide) (by decide) (by decide) (by decide)) (by walk_at "lv") (pas_cons (pg_lst1 (pg_tup2 eg_int eg_int)) (pas_cons (pg_lst1 eg_int) eas_nil))) (wr_nil T_))))))))))
end
end K02
end Cw
end L2

set_option Elab.async false
set_option linter.all false
set_option maxRecDepth 100000
set_option maxHeartbeats 4000000
namespace L2
namespace Cw
namespace K02
open PySem PySem.Spec PyProof.Rows
local macro_rules | `(tactic| walk_at "vo") => `(tactic| exact ⟨rfl, by first | exact .inl rfl | exact .inr (.inl rfl) | exact .inr (.inr rfl), by decide, by decide⟩)
local macro_rules | `(tactic| walk_at "gl") => `(tactic| exact ⟨rfl, by decide⟩)
local macro_rules | `(tactic| walk_at "nd") => `(tactic| (dsimp only [SS.blk, defP]; decide +kernel))
local macro_rules | `(tactic| walk_at "so") => `(tactic| exact ⟨by walk_at "nd", rfl, by first | exact .inl rfl | exact .inr rfl, by first | exact .inl rfl | exact .inr rfl, by first | (dsimp only [SS.blk, defP, pins]; decide) | (simp [SS.blk, defP, pins, isOw, List.range_succ]; done)⟩)
local macro_rules | `(tactic| walk_at "bk") => `(tactic| exact blkOk_by (by walk_at "nd"))
local macro_rules | `(tactic| walk_at "ln") => `(tactic| (simp; done))
local macro_rules | `(tactic| walk_at "no") => `(tactic| (intro t; simp; done))
local macro_rules | `(tactic| walk_at "lv") => `(tactic| (dsimp only [SS.blk, defP]; decide))
local macro_rules | `(tactic| walk_at "sc") => `(tactic| exact ⟨rfl, rfl, rfl, by decide +kernel, rfl, by decide +kernel, by decide +kernel⟩)
/- a name's value -/
local macro_rules | `(tactic| walk_at "v") => `(tactic| first
  | exact eg_sh (i := 0) (by walk_at "vo") rfl | exact eg_sh (i := 1) (by walk_at "vo") rfl | exact eg_sh (i := 2) (by walk_at "vo") rfl | exact eg_sh (i := 3) (by walk_at "vo") rfl
  | exact eg_sh (i := 4) (by walk_at "vo") rfl | exact eg_sh (i := 5) (by walk_at "vo") rfl | exact eg_sh (i := 6) (by walk_at "vo") rfl | exact eg_sh (i := 7) (by walk_at "vo") rfl)

section
variable {P : Program} {w : World} {K : PySem.W.Frag} {mg : Str → Option Value} {base : Heap} (T_ : Tx K mg)
include T_ in
theorem tail_ok {q : Str} {c D : Addr} {E : List Ent} (TB : LamX.TabB base mg c D) (ow : OwL E) (hl : E.length = 27) (no : ∀ t, E[26]? ≠ some (.ow t)) : ∃ E', LGs (lawS P w K mg base) (LawF c q) [(D, q)] E ((defBody (top 35)).drop 1) (.ret (.bl true) E') := by
  obtain ⟨ts, h1, hlen, h2⟩ := wrong_all T_ (P := P) (w := w) (q := q) TB ow
  have h21 : 21 < E.length := by omega
  have at21 : (E.set 21 (.sh (.lst ts)))[21]? = some (.sh (.lst ts)) := List.getElem?_set_self h21
  have ow2 : OwL (E.set 21 (.sh (.lst ts))) := fun i t h => by
    by_cases hi : 21 = i
    · subst hi; rw [List.getElem?_set_self h21] at h; cases h
    · rw [List.getElem?_set_ne hi] at h; exact ow i t h
  have n9 : wrongE.length = 9 := rfl
  refine ⟨E.set 21 (.sh (.lst ts)), lgs_cons (lg_set (i := 21) (by walk_at "so") (el_lst h1 (by rw [hlen, n9]; decide)) h21) (lgs_stop (lg_of (sg_ret ?_) ow2) trivial)⟩
  refine eg_to (t := .bl (teq (.lst []) (.lst []))) (pg_eq (n := 1) dok_nilL dok_nilL ?_ pg_lst0) (by rw [teq_nilL]; rfl) rfl
  have z : ((ts.filter fun _ => false).map fun t : T => t) = [] := by simp
  refine eg_to (lcNF (α := T) (toT := fun t => t) (f := fun t => t) (b := fun _ => false) (xs := ts) (i := 26) (by walk_at "bk") (by walk_at "nd") (by walk_at "so") (by rw [List.length_set]; omega) (fun t => by rw [List.getElem?_set_ne (by decide)]; exact no t) (by rw [hlen, n9]; decide) (pg_iter .lst (by rw [List.map_id']; exact eg_sh (i := 21) (by walk_at "vo") at21)) (fun t ht => ?_) fun t _ hb => absurd hb (by decide)).eg (by rw [z]) rfl
  obtain ⟨ps, bd, sc, rfl, Sc, hb, G⟩ := h2 t ht
  have at26 : ∀ u, ((E.set 21 (.sh (.lst ts))).set 26 (.sh u))[26]? = some (.sh u) := fun u => List.getElem?_set_self (by rw [List.length_set]; omega)
  have e : (!teq (.str "rule") (.str "rule")) = false := by rw [teq_str]; simp
  rw [← e]
  exact tt_ne (n := 0) (eg_fn (T_.told.ok rfl rfl) (by walk_at "gl") (told_rule T_ Sc hb G) (by walk_at "lv") (pas_cons (pg_item .tup (i := 0) at_0 (eg_sh (i := 26) (by walk_at "vo") (at26 _)) eg_int) eas_nil)) (pg_item .tup (i := 1) at_1 (eg_sh (i := 26) (by walk_at "vo") (at26 _)) eg_int) (by decide +kernel : PyData.strOk "rule" = true) (by decide +kernel : PyData.strOk "rule" = true)
end
end K02
end Cw
end L2

set_option Elab.async false
set_option linter.all false
set_option maxRecDepth 100000
set_option maxHeartbeats 4000000
namespace L2
namespace Cw
namespace K02
open PySem PySem.Spec PyProof.Rows
/-! ### what a dict made of pairs holds -/
theorem getN_map {κ : Type} [DecidableEq κ] {l : List (κ × T)} {k k' : κ} {t : T} : getN (l.map fun p => if p.1 = k then (p.1, t) else p) k' = if k = k' ∧ (getN l k').isSome then some t else getN l k' := by
  unfold getN
  induction l with
  | nil => simp
  | cons p l ih =>
    rw [List.map_cons, List.find?_cons, List.find?_cons]
    have e : (if p.1 = k then (p.1, t) else p).1 = p.1 := by split <;> rfl
    rw [e]
    by_cases h : p.1 = k'
    · rw [decide_eq_true h]
      by_cases h2 : k = k'
      · have h3 : p.1 = k := h.trans h2.symm
        simp [h2, h]
      · have h3 : ¬ p.1 = k := fun z => h2 (z.symm.trans h)
        simp [h2, h3]
    · rw [decide_eq_false h]
      exact ih
theorem getN_put {κ : Type} [DecidableEq κ] {l : List (κ × T)} {k k' : κ} {t : T} : getN (putN l k t) k' = if k = k' then some t else getN l k' := by
  unfold putN
  by_cases h : (getN l k).isSome = true
  · rw [if_pos h, getN_map]
    by_cases e : k = k'
    · subst e; rw [if_pos ⟨rfl, h⟩, if_pos rfl]
    · rw [if_neg (fun z => e z.1), if_neg e]
  · rw [if_neg h]
    have hn : getN l k = none := by simpa using h
    unfold getN at hn ⊢
    rw [List.find?_append]
    by_cases e : k = k'
    · subst e
      have : l.find? (fun p => decide (p.1 = k)) = none := by simpa using hn
      rw [this]
      simp
    · rw [if_neg e]
      cases l.find? fun p => decide (p.1 = k') with
      | some q => rfl
      | none => simp [e]
def keyL (p : Sq) : List NestedKey := [.num p.1, .num p.2]
theorem keyL_Q (p : Sq) : NestedKey.tup (keyL p) = keyQ p := rfl
theorem pair_eq (p : Sq) (t : T) : pairT (keyL p, t) = .tup [sqT p, t] := by
  simp [pairT, keyL, keyT, keyTs, sqT, tupI]
theorem get_rev {ss : List Sq} (nd : ss.Nodup) (u : Nat → T) {i : Nat} (hi : i < ss.length) : ∀ ks : List Nat, (∀ k ∈ ks, k < ss.length) → getN (mergeN [] (ks.reverse.map fun k => (keyL (ss.getD k (0, 0)), u k))) (keyQ ss[i]) = if i ∈ ks then some (u i) else none
  | [], _ => rfl
  | k :: ks, h => by
    have hk : k < ss.length := h k List.mem_cons_self
    have ih := get_rev nd u hi ks fun j hj => h j (List.mem_cons_of_mem _ hj)
    rw [List.reverse_cons, List.map_append]
    unfold mergeN at ih ⊢
    rw [List.foldl_append, List.map_singleton, List.foldl_cons, List.foldl_nil, getN_put, ih, keyL_Q]
    have g : ss.getD k (0, 0) = ss[k] := by simp [hk]
    rw [g]
    by_cases e : k = i
    · subst e; simp
    · have ne : ¬ keyQ ss[k] = keyQ ss[i] := fun z => e ((List.getElem_inj nd).mp (keyQ_inj z))
      rw [if_neg ne]
      have : i ∈ k :: ks ↔ i ∈ ks := by simp [Ne.symm e]
      simp only [this]
theorem get_at {ss : List Sq} (nd : ss.Nodup) (u : Nat → T) {i : Nat} (hi : i < ss.length) {ks : List Nat} (h : ∀ k ∈ ks, k < ss.length) : getN (mergeN [] (ks.map fun k => (keyL (ss.getD k (0, 0)), u k))) (keyQ ss[i]) = if i ∈ ks then some (u i) else none := by
  have := get_rev nd u hi ks.reverse fun k hk => h k (List.mem_reverse.mp hk)
  rw [List.reverse_reverse] at this
  rw [this]
  simp only [List.mem_reverse]
theorem fun_of {α : Type} (d : α) : ∀ {ss : List Sq} {vs : List α}, ss.Nodup → ss.length = vs.length → ∃ f : Sq → α, ss.map f = vs
  | [], [], _, _ => ⟨fun _ => d, rfl⟩
  | s :: ss, v :: vs, nd, h => by
    obtain ⟨h1, h2⟩ := List.nodup_cons.mp nd
    obtain ⟨f, hf⟩ := fun_of d (vs := vs) h2 (by simpa using h)
    refine ⟨fun p => if p = s then v else f p, ?_⟩
    rw [List.map_cons, if_pos rfl, ← hf]
    congr 1
    exact List.map_congr_left fun p hp => if_neg fun z => h1 (by rw [← z]; exact hp)
/-! ### whole rows: what may be is what is kept -/
theorem known_some (row : List Int) : known (row.map some) = row := by
  unfold known
  rw [List.filterMap_map]
  simp
theorem none_some (row : List Int) : isNone (row.map some) = false := by
  unfold isNone
  simp
theorem count_some (row : List Int) (v : Int) : ((row.map some).filter fun o => decide (o = some v)).length = row.count v := by
  induction row with
  | nil => rfl
  | cons x row ih =>
    rw [List.map_cons, List.filter_cons, List.count_cons]
    by_cases h : x = v
    · simp [h, ih]
    · simp [h, ih]
theorem count_none (row : List Int) : ((row.map some).filter fun o => decide (o = none)).length = 0 := by
  induction row with
  | nil => rfl
  | cons x row ih => rw [List.map_cons, List.filter_cons]; simpa using ih
theorem may_full {r : RS} (hr : r.isRuns = false) (row : List Int) : r.may (row.map some) = r.keeps row := by
  cases r with
  | unlike ss => show decide _ = decide _; rw [known_some]
  | sum ss w => show (if isNone _ = true then _ else _) = _; rw [none_some, if_neg (by decide), known_some]; rfl
  | less a b => show (isNone _ || _) = _; rw [none_some, known_some]; rfl
  | gap a b d => show (isNone _ || _) = _; rw [none_some, known_some]; rfl
  | tops ss c => show (isNone _ || _) = _; rw [none_some, known_some]; rfl
  | runs ss rs => cases hr
  | count ss v c =>
    show (decide _ && decide _) = decide _
    rw [count_some, count_none]
    rw [Bool.eq_iff_iff]
    simp
    omega
/-! ### some numbers known: what agrees with a kept row may be kept -/
inductive Agr : List (Option Int) → List Int → Prop
  | nil : Agr [] []
  | no {vs : List (Option Int)} {r : List Int} (x : Int) (h : Agr vs r) : Agr (none :: vs) (x :: r)
  | so {vs : List (Option Int)} {r : List Int} (x : Int) (h : Agr vs r) : Agr (some x :: vs) (x :: r)
theorem agr_of : ∀ {vs : List (Option Int)} {r : List Int}, vs.length = r.length → (∀ k, k < vs.length → vs.getD k none = none ∨ vs.getD k none = some (r.getD k 0)) → Agr vs r
  | [], [], _, _ => .nil
  | v :: vs, x :: r, hl, h => by
    have ih : Agr vs r := agr_of (by simpa using hl) fun k hk => by
      have := h (k + 1) (by simpa using hk)
      simpa using this
    have h0 := h 0 (by simp)
    rw [List.getD_cons_zero, List.getD_cons_zero] at h0
    rcases h0 with rfl | rfl
    · exact .no x ih
    · exact .so x ih
theorem Agr.whole {vs : List (Option Int)} {r : List Int} (h : Agr vs r) (hn : isNone vs = false) : vs = r.map some := by
  induction h with
  | nil => rfl
  | no x h ih => simp [isNone] at hn
  | so x h ih => rw [List.map_cons, ih (by simpa [isNone] using hn)]
theorem Agr.sub {vs : List (Option Int)} {r : List Int} (h : Agr vs r) : (known vs).Sublist r := by
  induction h with
  | nil => exact List.Sublist.slnil
  | no x h ih => exact ih.cons x
  | so x h ih => exact ih.cons_cons x
theorem Agr.sum {vs : List (Option Int)} {r : List Int} (h : Agr vs r) (h0 : ∀ x ∈ r, 0 ≤ x) : (known vs).sum ≤ r.sum := by
  induction h with
  | nil => exact Int.le_refl _
  | no x h ih =>
    have := ih fun y hy => h0 y (List.mem_cons_of_mem _ hy)
    have hx := h0 x List.mem_cons_self
    show (known _).sum ≤ _
    rw [List.sum_cons]
    simp only [known, List.filterMap_cons, id] at this ⊢
    omega
  | so x h ih =>
    have := ih fun y hy => h0 y (List.mem_cons_of_mem _ hy)
    simp only [known, List.filterMap_cons, id, List.sum_cons] at this ⊢
    omega
theorem Agr.count {vs : List (Option Int)} {r : List Int} (v : Int) (h : Agr vs r) : (vs.filter fun o => decide (o = some v)).length ≤ r.count v ∧ r.count v ≤ (vs.filter fun o => decide (o = some v)).length + (vs.filter fun o => decide (o = none)).length := by
  induction h with
  | nil => exact ⟨Nat.le_refl _, Nat.le_refl _⟩
  | no x h ih =>
    rw [List.count_cons]
    simp only [List.filter_cons]
    by_cases hx : x = v
    · simp [hx]; omega
    · simp [hx]; omega
  | so x h ih =>
    rw [List.count_cons]
    simp only [List.filter_cons]
    by_cases hx : x = v
    · simp [hx]; omega
    · simp [hx]; omega
theorem may_part {r : RS} (hr : r.isRuns = false) {vs : List (Option Int)} {row : List Int} (h : Agr vs row) (h0 : ∀ x ∈ row, 0 ≤ x) (hk : r.keeps row = true) : r.may vs = true := by
  cases hn : isNone vs with
  | false => rw [h.whole hn, may_full hr]; exact hk
  | true =>
    cases r with
    | unlike ss =>
      have k : row.Nodup := by simpa [RS.keeps] using hk
      exact decide_eq_true (k.sublist h.sub)
    | sum ss w =>
      have k : row.sum = w := by simpa [RS.keeps] using hk
      show (if isNone vs = true then _ else _) = true
      rw [if_pos hn, ← k]
      exact decide_eq_true (h.sum h0)
    | less a b => show (isNone vs || _) = true; rw [hn]; rfl
    | gap a b d => show (isNone vs || _) = true; rw [hn]; rfl
    | tops ss c => show (isNone vs || _) = true; rw [hn]; rfl
    | runs ss rs => cases hr
    | count ss v c =>
      have k : (row.count v : Int) = c := by simpa [RS.keeps] using hk
      have q := h.count v
      show (decide _ && decide _) = true
      rw [Bool.and_eq_true, decide_eq_true_eq, decide_eq_true_eq, ← k]
      omega
theorem agr_self (row : List Int) : Agr (row.map some) row := by
  induction row with
  | nil => exact .nil
  | cons x row ih => exact .so x ih
theorem all_known : ∀ {vs : List (Option Int)}, isNone vs = false → vs = (known vs).map some
  | [], _ => rfl
  | none :: vs, h => by simp [isNone] at h
  | some v :: vs, h => by
    have := all_known (vs := vs) (by simpa [isNone] using h)
    show _ = some v :: (known vs).map some
    rw [← this]
end K02
end Cw
end L2

set_option Elab.async false
set_option linter.all false
set_option maxRecDepth 100000
set_option maxHeartbeats 4000000
namespace L2
namespace Cw
namespace K02
open PySem PySem.Spec PyProof.Rows
/-! ### runs -/
theorem fold_pre : ∀ (ts a : List Int) (h : Int), ts.foldl stepR (a, h) = (a ++ (ts.foldl stepR ([], h)).1, (ts.foldl stepR ([], h)).2)
  | [], a, h => by simp
  | x :: ts, a, h => by
    simp only [List.foldl_cons]
    unfold stepR
    by_cases h1 : x = 1
    · simp only [if_pos h1]; exact fold_pre ts a (h + 1)
    · simp only [if_neg h1]
      by_cases h2 : 0 < h
      · simp only [if_pos h2]
        have e1 := fold_pre ts (a ++ [h]) 0
        have e2 := fold_pre ts ([] ++ [h]) 0
        unfold stepR at e1 e2
        rw [e1, e2]
        simp
      · simp only [if_neg h2]; exact fold_pre ts a h
/-- what comes behind a run of h -/
def behind (h : Int) (ts : List Int) : List Int := if 0 < (ts.foldl stepR ([], h)).2 then (ts.foldl stepR ([], h)).1 ++ [(ts.foldl stepR ([], h)).2] else (ts.foldl stepR ([], h)).1
theorem runs_app (ks ts : List Int) : runsL (ks ++ ts) = (runsS ks).1 ++ behind (runsS ks).2 ts := by
  have e : runsS (ks ++ ts) = ((runsS ks).1 ++ (ts.foldl stepR ([], (runsS ks).2)).1, (ts.foldl stepR ([], (runsS ks).2)).2) := by
    unfold runsS
    rw [List.foldl_append]
    exact fold_pre ts _ _
  unfold runsL behind
  rw [e]
  split <;> simp
theorem behind_pos : ∀ (ts : List Int) (h : Int), 0 < h → ∃ f l, behind h ts = f :: l ∧ h ≤ f
  | [], h, hp => ⟨h, [], by simp [behind, hp], Int.le_refl _⟩
  | x :: ts, h, hp => by
    by_cases h1 : x = 1
    · obtain ⟨f, l, e, g⟩ := behind_pos ts (h + 1) (by omega)
      refine ⟨f, l, ?_, by omega⟩
      rw [← e]
      unfold behind
      rw [List.foldl_cons, show stepR ([], h) x = ([], h + 1) by simp [stepR, h1]]
    · refine ⟨h, behind 0 ts, ?_, Int.le_refl _⟩
      unfold behind
      rw [List.foldl_cons, show stepR ([], h) x = ([h], 0) by simp [stepR, h1, hp], fold_pre ts [h] 0]
      split <;> simp
theorem last_run (ks : List Int) : ks.getLast? = some 1 ↔ 0 < (runsS ks).2 := by
  rcases List.eq_nil_or_concat ks with rfl | ⟨l, x, rfl⟩
  · simp [runsS]
  · rw [List.concat_eq_append, List.getLast?_append, runsS_snoc]
    have nn := runsS_nonneg l
    simp only [List.getLast?_singleton, Option.some_or, Option.some.injEq]
    unfold stepR
    by_cases h : x = 1
    · rw [if_pos h]; exact ⟨fun _ => by show 0 < (runsS l).2 + 1; omega, fun _ => h⟩
    · rw [if_neg h]
      refine ⟨fun z => absurd z h, fun z => ?_⟩
      split at z
      · exact absurd (show (0 : Int) < 0 from z) (by decide)
      · rename_i h2; exact absurd z h2
theorem begins_pre (ks ts : List Int) : begins (runsL (ks ++ ts)) ks = true := by
  rw [runs_app]
  by_cases h : 0 < (runsS ks).2
  · obtain ⟨f, l, e, g⟩ := behind_pos ts _ h
    have el : runsL ks = (runsS ks).1 ++ [(runsS ks).2] := by unfold runsL; rw [if_pos h]
    unfold begins
    rw [e, el, if_neg (by simp), if_pos ((last_run ks).mpr h)]
    simp [g]
  · have nn := runsS_nonneg ks
    have el : runsL ks = (runsS ks).1 := by unfold runsL; rw [if_neg h]
    unfold begins
    rw [el, if_neg (by simp), if_neg (fun z => h ((last_run ks).mp z))]
    simp
theorem known_pre (ks : List Int) (n : Nat) : known (ks.map some ++ List.replicate n none) = ks := by
  unfold known
  rw [List.filterMap_append, List.filterMap_map]
  simp
theorem ahead_pre (ks : List Int) : ∀ n : Nat, ahead (ks.map some ++ List.replicate n none) = ks := by
  intro n
  unfold ahead
  induction ks with
  | nil =>
    cases n with
    | zero => rfl
    | succ n => rfl
  | cons x ks ih =>
    rw [List.map_cons, List.cons_append, List.takeWhile_cons]
    show known (some x :: _) = _
    unfold known at ih ⊢
    rw [List.filterMap_cons]
    simp only [id]
    rw [ih]
/-- a begun row may be kept when it begins a row with just these runs -/
theorem may_begun (ss : List Sq) (row : List Int) {p : Nat} (hp : p ≤ row.length) : (RS.runs ss (runsL row)).may ((row.take p).map some ++ List.replicate (row.length - p) none) = true := by
  show (if isNone _ = false then _ else _) = true
  by_cases hz : row.length - p = 0
  · have e : p = row.length := by omega
    subst e
    rw [if_pos (by rw [hz]; simp [isNone]), hz, known_pre, List.take_length]
    exact decide_eq_true rfl
  · rw [if_neg (by simp [isNone, List.mem_replicate, hz]), ahead_pre]
    have := begins_pre (row.take p) (row.drop p)
    rwa [List.take_append_drop] at this
theorem may_runs (ss : List Sq) (rs row : List Int) : (RS.runs ss rs).may (row.map some) = decide (runsL row = rs) := by
  show (if isNone _ = false then _ else _) = _
  rw [if_pos (none_some row), known_some]
/-! ### the law's own way to tell runs -/
def stepW (s : List Int × Int) (x : Int) : List Int × Int := (s.1 ++ (if (x = 0 ∧ 0 < s.2) then [s.2] else []), if x = 1 then s.2 + 1 else 0)
theorem stepW_eq {s : List Int × Int} {x : Int} (hs : 0 ≤ s.2) (hx : x = 0 ∨ x = 1) : stepW s x = stepR s x := by
  obtain ⟨a, h⟩ := s
  unfold stepW stepR
  rcases hx with rfl | rfl
  · by_cases h2 : 0 < h
    · simp [h2]
    · have : h = 0 := by have : 0 ≤ h := hs; omega
      subst this
      simp
  · simp
theorem foldW (row : List Int) (h01 : ∀ x ∈ row, x = 0 ∨ x = 1) : row.foldl stepW ([], 0) = runsS row := by
  have h : ∀ (xs : List Int) (s : List Int × Int), (∀ x ∈ xs, x = 0 ∨ x = 1) → 0 ≤ s.2 → xs.foldl stepW s = xs.foldl stepR s := by
    intro xs
    induction xs with
    | nil => intro s _ _; rfl
    | cons x xs ih =>
      intro s hx hs
      rw [List.foldl_cons, List.foldl_cons, stepW_eq hs (hx x List.mem_cons_self)]
      refine ih _ (fun y hy => hx y (List.mem_cons_of_mem _ hy)) ?_
      unfold stepR
      split
      · show 0 ≤ s.2 + 1; omega
      · split
        · exact Int.le_refl _
        · exact hs
  exact h row ([], 0) h01 (Int.le_refl _)
theorem lots_eq (row : List Int) (h01 : ∀ x ∈ row, x = 0 ∨ x = 1) : ((row ++ [0]).foldl stepW ([], 0)).1 = runsL row := by
  rw [List.foldl_append, foldW row h01]
  show (runsS row).1 ++ (if ((0 : Int) = 0 ∧ 0 < (runsS row).2) then [(runsS row).2] else []) = _
  unfold runsL
  by_cases h : 0 < (runsS row).2
  · rw [if_pos ⟨rfl, h⟩, if_pos h]
  · rw [if_neg (fun z => h z.2), if_neg h, List.append_nil]
theorem runsS_room (ns : List Int) : (∀ x ∈ (runsS ns).1, 1 ≤ x) ∧ (runsS ns).1.sum + (runsS ns).1.length + (runsS ns).2 ≤ ns.length := by
  have h : ∀ (xs : List Int) (s : List Int × Int), (∀ x ∈ s.1, 1 ≤ x) → (∀ x ∈ (xs.foldl stepR s).1, 1 ≤ x) ∧ (xs.foldl stepR s).1.sum + (xs.foldl stepR s).1.length + (xs.foldl stepR s).2 ≤ s.1.sum + s.1.length + s.2 + xs.length := by
    intro xs
    induction xs with
    | nil => intro s h; exact ⟨h, by simp⟩
    | cons x xs ih =>
      intro s h
      rw [List.foldl_cons]
      obtain ⟨a, m⟩ := s
      by_cases h1 : x = 1
      · have e : stepR (a, m) x = (a, m + 1) := by simp [stepR, h1]
        rw [e]
        have q := ih (a, m + 1) h
        refine ⟨q.1, Int.le_trans q.2 ?_⟩
        simp only [List.length_cons]
        omega
      · by_cases h2 : 0 < m
        · have e : stepR (a, m) x = (a ++ [m], 0) := by simp [stepR, h1, h2]
          rw [e]
          have q := ih (a ++ [m], 0) (by
            intro y hy
            obtain hy | hy := List.mem_append.mp hy
            · exact h y hy
            · have : y = m := by simpa using hy
              omega)
          refine ⟨q.1, Int.le_trans q.2 ?_⟩
          simp only [List.length_cons, List.sum_append, List.length_append, List.sum_cons, List.sum_nil, List.length_nil]
          omega
        · have e : stepR (a, m) x = (a, m) := by simp [stepR, h1, h2]
          rw [e]
          have q := ih (a, m) h
          refine ⟨q.1, Int.le_trans q.2 ?_⟩
          simp only [List.length_cons]
          omega
  have := h ns ([], 0) (by simp)
  simpa [runsS] using this
theorem fits_runs (row : List Int) : fits row.length (runsL row) = true := by
  obtain ⟨h1, h2⟩ := runsS_room row
  have nn := runsS_nonneg row
  unfold fits
  rw [Bool.not_eq_true', Bool.or_eq_false_iff]
  unfold runsL
  by_cases h : 0 < (runsS row).2
  · rw [if_pos h]
    refine ⟨?_, decide_eq_false ?_⟩
    · rw [List.any_eq_false]
      intro b hb
      obtain ⟨r, hr, rfl⟩ := List.mem_map.mp hb
      have : 1 ≤ r := by
        rcases List.mem_append.mp hr with z | z
        · exact h1 r z
        · have : r = (runsS row).2 := by simpa using z
          omega
      simp; omega
    · simp only [List.sum_append, List.length_append, List.sum_cons, List.sum_nil, List.length_cons, List.length_nil]
      split <;> omega
  · rw [if_neg h]
    refine ⟨?_, decide_eq_false ?_⟩
    · rw [List.any_eq_false]
      intro b hb
      obtain ⟨r, hr, rfl⟩ := List.mem_map.mp hb
      have := h1 r hr
      simp; omega
    · split <;> omega
end K02
end Cw
end L2

set_option Elab.async false
set_option linter.all false
set_option maxRecDepth 100000
set_option maxHeartbeats 4000000
namespace L2
namespace Cw
namespace K02
open PySem PySem.Spec PyProof.Rows
local macro_rules | `(tactic| walk_at "vo") => `(tactic| exact ⟨rfl, by first | exact .inl rfl | exact .inr (.inl rfl) | exact .inr (.inr rfl), by decide, by decide⟩)
local macro_rules | `(tactic| walk_at "gl") => `(tactic| exact ⟨rfl, by decide⟩)
local macro_rules | `(tactic| walk_at "nd") => `(tactic| (dsimp only [SS.blk, defP]; decide +kernel))
local macro_rules | `(tactic| walk_at "so") => `(tactic| exact ⟨by walk_at "nd", rfl, by first | exact .inl rfl | exact .inr rfl, by first | exact .inl rfl | exact .inr rfl, by first | (dsimp only [SS.blk, defP, pins]; decide) | (simp [SS.blk, defP, pins, isOw, List.range_succ]; done)⟩)
local macro_rules | `(tactic| walk_at "bk") => `(tactic| exact blkOk_by (by walk_at "nd"))
local macro_rules | `(tactic| walk_at "ln") => `(tactic| (simp; done))
local macro_rules | `(tactic| walk_at "no") => `(tactic| (intro t; simp; done))
local macro_rules | `(tactic| walk_at "lv") => `(tactic| (dsimp only [SS.blk, defP]; decide))
local macro_rules | `(tactic| walk_at "sc") => `(tactic| exact ⟨rfl, rfl, rfl, by decide +kernel, rfl, by decide +kernel, by decide +kernel⟩)
/- a name's value -/
local macro_rules | `(tactic| walk_at "v") => `(tactic| first
  | exact eg_sh (i := 0) (by walk_at "vo") rfl | exact eg_sh (i := 1) (by walk_at "vo") rfl | exact eg_sh (i := 2) (by walk_at "vo") rfl | exact eg_sh (i := 3) (by walk_at "vo") rfl
  | exact eg_sh (i := 4) (by walk_at "vo") rfl | exact eg_sh (i := 5) (by walk_at "vo") rfl | exact eg_sh (i := 6) (by walk_at "vo") rfl | exact eg_sh (i := 7) (by walk_at "vo") rfl)

def lawBody : List Stmt := match (defBody (top 35)).getD 0 (.Pass ⟨0, 0, 0, 0⟩) with | .For _ _ b _ _ => b | _ => []
def bS (i : Nat) : Stmt := lawBody.getD i (.Pass ⟨0, 0, 0, 0⟩)
/-- the law's slots while rules are walked -/
abbrev RE (d : Dc) (ss : List Sq) (a3 a4 a5 a7 a8 a9 a10 : Ent) : List Ent := [.no, .ow (dT d), .sh (.lst (ss.map sqT)), a3, a4, a5, .no, a7, a8, a9, a10, .no, .no, .no, .no, .no, .no, .no, .no, .no, .no, .no, .no, .no, .no, .no, .no]
theorem at_map {α : Type} {f : α → T} {l : List α} {k : Nat} (z : α) (hk : k < l.length) : atI (l.map f) (0 + (k : Int)) = some (f (l.getD k z)) := by
  rw [Int.zero_add]
  exact atI_at (by simp [hk])
theorem ig_rng {S : SS} {E E1 : List Ent} {tg a : Expr} {n : Nat} {p pos : Pos} (g : GlOk S "range") (hm : S.mg "range" = none) (h : EG S E a (.int (n : Nat)) E1) (hn : n ≤ 1000) (he : ∀ env, starEach [a] env = (false, eval a env) :: starEach [] env := by intro _; rfl) : IG S E tg (.Call (.Name "range" p) [a] [] pos) ((List.range n).map fun k : Nat => T.int (0 + (k : Int))) E1 := by
  have q := ig_range (tg := tg) (pos := pos) (p := p) g hm h (by omega) he
  rw [Int.toNat_natCast] at q
  exact q
theorem allL_mem {vs : List Int} : ∀ {n : Nat} {row : List Int}, row ∈ allL vs n → ∀ x ∈ row, x ∈ vs
  | 0, row, h, x, hx => by
    have : row = [] := by simpa [allL] using h
    subst this
    cases hx
  | n + 1, row, h, x, hx => by
    unfold allL at h
    obtain ⟨r, hr, h2⟩ := List.mem_flatMap.mp h
    obtain ⟨o, ho, rfl⟩ := List.mem_map.mp h2
    rcases List.mem_append.mp hx with z | z
    · exact allL_mem hr x z
    · have : x = o := by simpa using z
      rw [this]; exact ho
theorem allL_has {vs : List Int} : ∀ {n : Nat} {row : List Int}, row.length = n → (∀ x ∈ row, x ∈ vs) → row ∈ allL vs n := by
  intro n
  induction n with
  | zero => intro row h _; rw [List.length_eq_zero_iff.mp h]; simp [allL]
  | succ n ih =>
    intro row h hx
    rcases List.eq_nil_or_concat row with rfl | ⟨l, x, rfl⟩
    · cases h
    · rw [List.concat_eq_append] at h hx ⊢
      unfold allL
      exact List.mem_flatMap.mpr ⟨l, ih (by simpa using h) fun y hy => hx y (by simp [hy]), List.mem_map.mpr ⟨x, hx x (by simp), rfl⟩⟩
theorem nn012 {x : Int} (h : x ∈ [0, 1, 2]) : 0 ≤ x := by
  simp at h
  omega
/-- known numbers, drawn -/
def gK (d : Dc) (_ : Nat) : Option Int × Dc := if (roll d 2).1 = 0 then (some (roll (roll d 2).2 3).1, (roll (roll d 2).2 3).2) else (none, (roll d 2).2)
def fullR (r : RS) : List (List Int) := (allL [0, 1, 2] r.spots.length).filter r.keeps
section
variable {P : Program} {w : World} {K : PySem.W.Frag} {mg : Str → Option Value} {base : Heap} (T_ : Tx K mg)
theorem fits_len {r : RS} (h : r.spots.length ≤ 4) : r.fitsN r.spots.length := by
  cases r with
  | less a b => rfl
  | gap a b d => rfl
  | _ => exact Nat.lt_of_le_of_lt h (by decide)
/-- the dict of a rule's squares -/
def psOf (ss : List Sq) (ks : List Nat) (u : Nat → T) : List (List NestedKey × T) := ks.map fun k => (keyL (ss.getD k (0, 0)), u k)
theorem psOf_T (ss : List Sq) (ks : List Nat) (u : Nat → T) : (psOf ss ks u).map pairT = ks.map fun k => T.tup [sqT (ss.getD k (0, 0)), u k] := by
  unfold psOf
  rw [List.map_map]
  exact List.map_congr_left fun k _ => pair_eq _ _
theorem psOf_depth (ss : List Sq) (ks : List Nat) (u : Nat → T) : ∀ p ∈ psOf ss ks u, (NestedKey.tup p.1).depth ≤ 8 := by
  intro p hp
  obtain ⟨k, _, rfl⟩ := List.mem_map.mp hp
  exact keyQ_depth _
theorem psOf_get {ss : List Sq} (nd : ss.Nodup) (row : List Int) (h : ss.length = row.length) {f : Sq → Int} (hf : ss.map f = row) : ∀ p ∈ ss, getN (mergeN [] (psOf ss (List.range ss.length) fun k => .int (row.getD k 0))) (keyQ p) = some (.int (f p)) := by
  intro p hp
  obtain ⟨i, hi, ep⟩ := List.getElem_of_mem hp
  subst ep
  have e := get_at nd (fun k => T.int (row.getD k 0)) hi (ks := List.range ss.length) fun k hk => List.mem_range.mp hk
  unfold psOf
  rw [e, if_pos (List.mem_range.mpr hi)]
  have : row[i]'(by omega) = f ss[i] := by
    have q := congrArg (fun l : List Int => l[i]?) hf
    simp [hi] at q
    rw [List.getElem?_eq_getElem (by omega)] at q
    exact Eq.symm (Option.some.inj q)
  rw [← this]
  simp [show i < row.length by omega]
end
end K02
end Cw
end L2

set_option Elab.async false
set_option linter.all false
set_option maxRecDepth 100000
set_option maxHeartbeats 4000000
namespace L2
namespace Cw
namespace K02
open PySem PySem.Spec PyProof.Rows
local macro_rules | `(tactic| walk_at "vo") => `(tactic| exact ⟨rfl, by first | exact .inl rfl | exact .inr (.inl rfl) | exact .inr (.inr rfl), by decide, by decide⟩)
local macro_rules | `(tactic| walk_at "gl") => `(tactic| exact ⟨rfl, by decide⟩)
local macro_rules | `(tactic| walk_at "nd") => `(tactic| (dsimp only [SS.blk, defP]; decide +kernel))
local macro_rules | `(tactic| walk_at "so") => `(tactic| exact ⟨by walk_at "nd", rfl, by first | exact .inl rfl | exact .inr rfl, by first | exact .inl rfl | exact .inr rfl, by first | (dsimp only [SS.blk, defP, pins]; decide) | (simp [SS.blk, defP, pins, isOw, List.range_succ]; done)⟩)
local macro_rules | `(tactic| walk_at "bk") => `(tactic| exact blkOk_by (by walk_at "nd"))
local macro_rules | `(tactic| walk_at "ln") => `(tactic| (simp; done))
local macro_rules | `(tactic| walk_at "no") => `(tactic| (intro t; simp; done))
local macro_rules | `(tactic| walk_at "lv") => `(tactic| (dsimp only [SS.blk, defP]; decide))
local macro_rules | `(tactic| walk_at "sc") => `(tactic| exact ⟨rfl, rfl, rfl, by decide +kernel, rfl, by decide +kernel, by decide +kernel⟩)
/- a name's value -/
local macro_rules | `(tactic| walk_at "v") => `(tactic| first
  | exact eg_sh (i := 0) (by walk_at "vo") rfl | exact eg_sh (i := 1) (by walk_at "vo") rfl | exact eg_sh (i := 2) (by walk_at "vo") rfl | exact eg_sh (i := 3) (by walk_at "vo") rfl
  | exact eg_sh (i := 4) (by walk_at "vo") rfl | exact eg_sh (i := 5) (by walk_at "vo") rfl | exact eg_sh (i := 6) (by walk_at "vo") rfl | exact eg_sh (i := 7) (by walk_at "vo") rfl)

/-- a rule of the law's, as drawn -/
structure RS.Fine (r : RS) : Prop where
  hr : r.isRuns = false
  nd : r.spots.Nodup
  h2 : 2 ≤ r.spots.length
  h4 : r.spots.length ≤ 4
section
variable {P : Program} {w : World} {K : PySem.W.Frag} {mg : Str → Option Value} {base : Heap} (T_ : Tx K mg)
theorem few_all {n : Nat} (h : n ≤ 4) : (allL [0, 1, 2] n).length ≤ 16777216 := Nat.le_trans (allL_few (m := n) (n := 4) (by decide) (by decide) h) (by decide)
def ruleBody : List Stmt := match bS 1 with | .For _ _ b _ _ => b | _ => []
def rS (i : Nat) : Stmt := ruleBody.getD i (.Pass ⟨0, 0, 0, 0⟩)
theorem c1_ok (r : RS) (d : Dc) (ss : List Sq) (e5 e7 e8 e9 e10 : Ent) : SG (lawS P w K mg base) (RE d ss (.sh (r.tree T_)) (.sh r.test) e5 e7 e8 e9 e10) (rS 0) (.nx (RE d ss (.sh (r.tree T_)) (.sh r.test) (.sh (.int (r.spots.length : Nat))) e7 e8 e9 e10)) := by
  refine sg_nx (sg_setP (i := 5) (t := .int (r.spots.length : Nat)) (by walk_at "so") (eg_to (eg_len .tup (by walk_at "gl") T_.nLen (eg_spots T_ rfl (eg_sh (i := 3) (by walk_at "vo") rfl))) (by rw [List.length_map]) rfl) (by walk_at "ln")) rfl
theorem c2_ok (r : RS) (F : r.Fine) (d : Dc) (ss : List Sq) (e7 e8 e9 e10 : Ent) : SG (lawS P w K mg base) (RE d ss (.sh (r.tree T_)) (.sh r.test) (.sh (.int (r.spots.length : Nat))) e7 e8 e9 e10) (rS 1) (.nx (RE d ss (.sh (r.tree T_)) (.sh r.test) (.sh (.int (r.spots.length : Nat))) (.sh (.lst ((fullR r).map tupI))) e8 e9 e10)) := by
  have h4 := F.h4
  refine sg_nx (LcD.setC (m := 7) (E2 := (RE d ss (.sh (r.tree T_)) (.sh r.test) (.sh (.int (r.spots.length : Nat))) e7 e8 e9 e10)) (us := (fullR r).map tupI) ?_ (by walk_at "so") rfl (by walk_at "ln")) rfl
  refine lcNF (α := List Int) (toT := tupI) (f := tupI) (b := r.keeps) (xs := allL [0, 1, 2] r.spots.length) (i := 6) (by walk_at "bk") (by walk_at "nd") (by walk_at "so") (by walk_at "ln") (by walk_at "no") (few_all h4) (pg_iter .lst (eg_fn (T_.all.ok rfl rfl) (by walk_at "gl") (all_ok T_ [0, 1, 2] r.spots.length (by decide) (by omega)) (by walk_at "lv") (pas_cons (pg_lst3 eg_int eg_int eg_int) (pas_cons (eg_sh (i := 5) (by walk_at "vo") rfl) eas_nil)))) (fun row hrow => ?_) fun row _ _ => (eg_sh (i := 6) (by walk_at "vo") rfl)
  have hl : row.length = r.spots.length := allL_row hrow
  obtain ⟨f, hf⟩ := fun_of (0 : Int) F.nd hl.symm
  refine tg_val (eg_to (eg_fn (T_.keeps.ok rfl rfl) (by walk_at "gl") (keeps_ok T_ r F.hr (mergeN [] (psOf r.spots (List.range r.spots.length) fun k => .int (row.getD k 0))) f (psOf_get F.nd row hl.symm hf) (by omega) (fun p hp => ?_)) (by walk_at "lv") (pas_cons (eg_sh (i := 4) (by walk_at "vo") rfl) (pas_cons (eg_dictN (by walk_at "gl") T_.nDict ?_ (psOf_depth _ _ _) ?_) eas_nil))) (by rw [hf]) rfl)
  · have : f p ∈ row := by rw [← hf]; exact List.mem_map.mpr ⟨p, hp, rfl⟩
    exact nn012 (allL_mem hrow _ this)
  · rw [psOf_T]
    refine (lcN (α := Nat) (toT := fun k : Nat => T.int (0 + (k : Int))) (f := fun k => T.tup [sqT (r.spots.getD k (0, 0)), .int (row.getD k 0)]) (xs := List.range r.spots.length) (i := 24) (by walk_at "bk") (by walk_at "nd") (by walk_at "so") (by walk_at "ln") (by walk_at "no") (by rw [List.length_range]; omega) (ig_rng (by walk_at "gl") T_.nRange (eg_sh (i := 5) (by walk_at "vo") rfl) (by omega)) fun k hk => ?_).eg
    have hk' := List.mem_range.mp hk
    exact pg_tup2 (pg_item .tup (i := 0 + (k : Int)) (at_map (0, 0) hk') (eg_spots T_ rfl (eg_sh (i := 3) (by walk_at "vo") rfl)) (eg_sh (i := 24) (by walk_at "vo") rfl)) (pg_item .tup (i := 0 + (k : Int)) (at_map 0 (by omega)) (eg_sh (i := 6) (by walk_at "vo") rfl) (eg_sh (i := 24) (by walk_at "vo") rfl))
  · unfold psOf
    rw [List.length_map]
    rw [List.length_range]
    omega
theorem c3_ok (r : RS) (F : r.Fine) (d : Dc) (ss : List Sq) (e8 e9 e10 : Ent) : SG (lawS P w K mg base) (RE d ss (.sh (r.tree T_)) (.sh r.test) (.sh (.int (r.spots.length : Nat))) (.sh (.lst ((fullR r).map tupI))) e8 e9 e10) (rS 2) (.nx (RE d ss (.sh (r.tree T_)) (.sh r.test) (.sh (.int (r.spots.length : Nat))) (.sh (.lst ((fullR r).map tupI))) e8 e9 e10)) := by
  have h4 := F.h4
  have z : (((allL [0, 1, 2] r.spots.length).filter fun _ => false).map tupI) = [] := by simp
  refine sg_ifFn (d := !teq (.lst (((allL [0, 1, 2] r.spots.length).filter fun _ => false).map tupI)) (.lst [])) (by rw [z, teq_nilL]; rfl) (pt_ne (n := 2) (enc_tupI.lst.ok _) dok_nilL ?_ pg_lst0)
  refine (lcNF (α := List Int) (toT := tupI) (f := tupI) (b := fun _ => false) (xs := allL [0, 1, 2] r.spots.length) (i := 6) (by walk_at "bk") (by walk_at "nd") (by walk_at "so") (by walk_at "ln") (by walk_at "no") (few_all h4) (pg_iter .lst (eg_fn (T_.all.ok rfl rfl) (by walk_at "gl") (all_ok T_ [0, 1, 2] r.spots.length (by decide) (by omega)) (by walk_at "lv") (pas_cons (pg_lst3 eg_int eg_int eg_int) (pas_cons (eg_sh (i := 5) (by walk_at "vo") rfl) eas_nil)))) (fun row hrow => ?_) fun row _ hb => absurd hb (by decide)).eg
  have hl : row.length = r.spots.length := allL_row hrow
  have e : (!teq (.bl (r.may (row.map some))) (.bl (decide (row ∈ fullR r)))) = false := by
    rw [enc_bl.eq, may_full F.hr]
    have : decide (row ∈ fullR r) = r.keeps row := by
      unfold fullR
      rw [Bool.eq_iff_iff, decide_eq_true_eq, List.mem_filter]
      exact ⟨fun h => h.2, fun h => ⟨hrow, h⟩⟩
    rw [this]
    simp
  rw [← e]
  refine tt_ne (n := 0) (eg_may T_ (vs := row.map some) rfl rfl rfl rfl rfl (by walk_at "lv") (eg_sh (i := 3) (by walk_at "vo") rfl) (eg_to (eg_listS .tup (by walk_at "gl") T_.nList (eg_sh (i := 6) (by walk_at "vo") rfl)) ?_ rfl) ?_) (eg_to (eg_inL (n := 2) (eg_sh (i := 6) (by walk_at "vo") rfl) (eg_sh (i := 7) (by walk_at "vo") rfl) (DOk.up (by decide) (enc_tupI.ok row)) (enc_tupI.in_ _)) (by rw [enc_tupI.any]; exact congrArg T.bl (decide_eq_decide.mpr Iff.rfl)) rfl) trivial trivial
  · unfold valsT
    rw [List.map_map]
    rfl
  · rw [List.length_map, hl]; exact fits_len h4
def knownR (r : RS) (d : Dc) : List (Option Int) := (thr gK (List.range r.spots.length) d).1
def diceR (r : RS) (d : Dc) : Dc := (thr gK (List.range r.spots.length) d).2
def badK (vs : List (Option Int)) (row : List Int) (k : Nat) : Bool := !(vs.getD k none).isNone && !decide (vs.getD k none = some (row.getD k 0))
def waysR (r : RS) (d : Dc) : List (List Int) := (fullR r).filter fun row => ((List.range r.spots.length).filter (badK (knownR r d) row)).isEmpty
def tableR (r : RS) (d : Dc) : List (NestedKey × T) := mergeN [] (psOf r.spots ((List.range r.spots.length).filter fun k => !((knownR r d).getD k none).isNone) fun k => ov ((knownR r d).getD k none))
theorem isNon_ov (o : Option Int) : isNon (ov o) = o.isNone := by cases o <;> rfl
theorem known_len (r : RS) (d : Dc) : (knownR r d).length = r.spots.length := by unfold knownR; rw [thr_len, List.length_range]
theorem c4_ok (r : RS) (F : r.Fine) (d : Dc) (ss : List Sq) (e8 e9 e10 : Ent) : SG (lawS P w K mg base) (RE d ss (.sh (r.tree T_)) (.sh r.test) (.sh (.int (r.spots.length : Nat))) (.sh (.lst ((fullR r).map tupI))) e8 e9 e10) (rS 3) (.nx (RE (diceR r d) ss (.sh (r.tree T_)) (.sh r.test) (.sh (.int (r.spots.length : Nat))) (.sh (.lst ((fullR r).map tupI))) (.sh (valsT (knownR r d))) e9 e10)) := by
  have h4 := F.h4
  refine sg_nx (LcD.setC (m := 8) (E2 := (RE (diceR r d) ss (.sh (r.tree T_)) (.sh r.test) (.sh (.int (r.spots.length : Nat))) (.sh (.lst ((fullR r).map tupI))) e8 e9 e10)) (us := (knownR r d).map ov) ?_ (by walk_at "so") rfl (by walk_at "ln")) rfl
  refine lcT (toT := fun k : Nat => T.int (0 + (k : Int))) (f := ov) (g := gK) (Ev := fun d' => (RE d' ss (.sh (r.tree T_)) (.sh r.test) (.sh (.int (r.spots.length : Nat))) (.sh (.lst ((fullR r).map tupI))) e8 e9 e10)) (xs := List.range r.spots.length) (i := 24) d (by walk_at "bk") (by walk_at "nd") (by walk_at "so") (fun _ => by walk_at "ln") (fun _ _ => rfl) (by walk_at "no") (by rw [List.length_range]; omega) (ig_rng (by walk_at "gl") T_.nRange (eg_sh (i := 5) (by walk_at "vo") rfl) (by omega)) fun k _ s => ?_
  have q := enc_int.eq (roll s 2).1 0
  by_cases h : (roll s 2).1 = 0
  · have e : gK s k = (some (roll (roll s 2).2 3).1, (roll (roll s 2).2 3).2) := by unfold gK; rw [if_pos h]
    rw [e]
    have tt : decide ((roll s 2).1 = 0) = true := decide_eq_true h
    refine eg_ifT (E1 := (RE (roll s 2).2 ss (.sh (r.tree T_)) (.sh r.test) (.sh (.int (r.spots.length : Nat))) (.sh (.lst ((fullR r).map tupI))) e8 e9 e10).set 24 (.sh (.int (0 + (k : Int))))) ?_ (eg_roll T_ (i := 1) rfl rfl rfl rfl rfl (by walk_at "lv") (by walk_at "vo") (by walk_at "gl") rfl eg_int ⟨by decide, by decide⟩)
    rw [← tt, ← q]
    exact tt_eq (n := 0) (eg_roll T_ (i := 1) rfl rfl rfl rfl rfl (by walk_at "lv") (by walk_at "vo") (by walk_at "gl") rfl eg_int ⟨by decide, by decide⟩) eg_int trivial trivial
  · have e : gK s k = (none, (roll s 2).2) := by unfold gK; rw [if_neg h]
    rw [e]
    have tt : decide ((roll s 2).1 = 0) = false := decide_eq_false h
    refine eg_ifF (E1 := (RE (roll s 2).2 ss (.sh (r.tree T_)) (.sh r.test) (.sh (.int (r.spots.length : Nat))) (.sh (.lst ((fullR r).map tupI))) e8 e9 e10).set 24 (.sh (.int (0 + (k : Int))))) ?_ eg_non
    rw [← tt, ← q]
    exact tt_eq (n := 0) (eg_roll T_ (i := 1) rfl rfl rfl rfl rfl (by walk_at "lv") (by walk_at "vo") (by walk_at "gl") rfl eg_int ⟨by decide, by decide⟩) eg_int trivial trivial
theorem c5_ok (r : RS) (F : r.Fine) (d d' : Dc) (ss : List Sq) (e9 e10 : Ent) : SG (lawS P w K mg base) (RE d' ss (.sh (r.tree T_)) (.sh r.test) (.sh (.int (r.spots.length : Nat))) (.sh (.lst ((fullR r).map tupI))) (.sh (valsT (knownR r d))) e9 e10) (rS 4) (.nx (RE d' ss (.sh (r.tree T_)) (.sh r.test) (.sh (.int (r.spots.length : Nat))) (.sh (.lst ((fullR r).map tupI))) (.sh (valsT (knownR r d))) (.sh (.lst ((waysR r d).map tupI))) e10)) := by
  have h4 := F.h4
  have kl := known_len r d
  refine sg_nx (LcD.set (m := 9) (E2 := (RE d' ss (.sh (r.tree T_)) (.sh r.test) (.sh (.int (r.spots.length : Nat))) (.sh (.lst ((fullR r).map tupI))) (.sh (valsT (knownR r d))) e9 e10)) (us := (waysR r d).map tupI) ?_ (by walk_at "so") rfl rfl rfl rfl (by walk_at "ln")) rfl
  refine lcNF (α := List Int) (toT := tupI) (f := tupI) (b := fun row => ((List.range r.spots.length).filter (badK (knownR r d) row)).isEmpty) (xs := fullR r) (i := 6) (by walk_at "bk") (by walk_at "nd") (by walk_at "so") (by walk_at "ln") (by walk_at "no") (Nat.le_trans (List.length_filter_le _ _) (few_all h4)) (pg_iter .lst (eg_sh (i := 7) (by walk_at "vo") rfl)) (fun row hrow => ?_) fun row _ _ => (eg_sh (i := 6) (by walk_at "vo") rfl)
  have hl : row.length = r.spots.length := allL_row (List.mem_filter.mp hrow).1
  have e : teq (.lst (((List.range r.spots.length).filter (badK (knownR r d) row)).map fun k : Nat => T.int (0 + (k : Int)))) (.lst []) = ((List.range r.spots.length).filter (badK (knownR r d) row)).isEmpty := by rw [teq_nilL, List.isEmpty_map]
  rw [← e]
  refine pt_eq (n := 1) (DOk.up (by decide) ((enc_int.comp (fun k : Nat => 0 + (k : Int)) fun a b h => by omega).lst.ok _)) dok_nilL ?_ pg_lst0
  refine (lcNF (α := Nat) (toT := fun k : Nat => T.int (0 + (k : Int))) (f := fun k : Nat => T.int (0 + (k : Int))) (b := badK (knownR r d) row) (xs := List.range r.spots.length) (i := 24) (by walk_at "bk") (by walk_at "nd") (by walk_at "so") (by walk_at "ln") (by walk_at "no") (by rw [List.length_range]; omega) (ig_rng (by walk_at "gl") T_.nRange (eg_sh (i := 5) (by walk_at "vo") rfl) (by omega)) (fun k hk => ?_) fun k _ _ => (eg_sh (i := 24) (by walk_at "vo") rfl)).eg
  have hk' := List.mem_range.mp hk
  have b1 : badK (knownR r d) row k = (!isNon (ov ((knownR r d).getD k none)) && !teq (ov ((knownR r d).getD k none)) (ov (some (row.getD k 0)))) := by
    unfold badK
    rw [isNon_ov, enc_ov.eq]
  rw [b1]
  exact tg_w (wg_and (tt_notN (pg_item .lst (i := 0 + (k : Int)) (at_map none (by omega)) (eg_sh (i := 8) (by walk_at "vo") rfl) (eg_sh (i := 24) (by walk_at "vo") rfl))) fun _ => wg_and1 (pt_ne (n := 0) (enc_ov.ok _) (enc_ov.ok _) (pg_item .lst (i := 0 + (k : Int)) (at_map none (by omega)) (eg_sh (i := 8) (by walk_at "vo") rfl) (eg_sh (i := 24) (by walk_at "vo") rfl)) (pg_item .tup (i := 0 + (k : Int)) (at_map 0 (by omega)) (eg_sh (i := 6) (by walk_at "vo") rfl) (eg_sh (i := 24) (by walk_at "vo") rfl))))
end
end K02
end Cw
end L2

set_option Elab.async false
set_option linter.all false
set_option maxRecDepth 100000
set_option maxHeartbeats 4000000
namespace L2
namespace Cw
namespace K02
open PySem PySem.Spec PyProof.Rows
local macro_rules | `(tactic| walk_at "vo") => `(tactic| exact ⟨rfl, by first | exact .inl rfl | exact .inr (.inl rfl) | exact .inr (.inr rfl), by decide, by decide⟩)
local macro_rules | `(tactic| walk_at "gl") => `(tactic| exact ⟨rfl, by decide⟩)
local macro_rules | `(tactic| walk_at "nd") => `(tactic| (dsimp only [SS.blk, defP]; decide +kernel))
local macro_rules | `(tactic| walk_at "so") => `(tactic| exact ⟨by walk_at "nd", rfl, by first | exact .inl rfl | exact .inr rfl, by first | exact .inl rfl | exact .inr rfl, by first | (dsimp only [SS.blk, defP, pins]; decide) | (simp [SS.blk, defP, pins, isOw, List.range_succ]; done)⟩)
local macro_rules | `(tactic| walk_at "bk") => `(tactic| exact blkOk_by (by walk_at "nd"))
local macro_rules | `(tactic| walk_at "ln") => `(tactic| (simp; done))
local macro_rules | `(tactic| walk_at "no") => `(tactic| (intro t; simp; done))
local macro_rules | `(tactic| walk_at "lv") => `(tactic| (dsimp only [SS.blk, defP]; decide))
local macro_rules | `(tactic| walk_at "sc") => `(tactic| exact ⟨rfl, rfl, rfl, by decide +kernel, rfl, by decide +kernel, by decide +kernel⟩)
/- a name's value -/
local macro_rules | `(tactic| walk_at "v") => `(tactic| first
  | exact eg_sh (i := 0) (by walk_at "vo") rfl | exact eg_sh (i := 1) (by walk_at "vo") rfl | exact eg_sh (i := 2) (by walk_at "vo") rfl | exact eg_sh (i := 3) (by walk_at "vo") rfl
  | exact eg_sh (i := 4) (by walk_at "vo") rfl | exact eg_sh (i := 5) (by walk_at "vo") rfl | exact eg_sh (i := 6) (by walk_at "vo") rfl | exact eg_sh (i := 7) (by walk_at "vo") rfl)

theorem gK_in (d : Dc) (k : Nat) : ∀ x, (gK d k).1 = some x → x ∈ [0, 1, 2] := by
  intro x h
  unfold gK at h
  split at h
  · have q := roll_lt (roll d 2).2 (m := 3) (by decide)
    have e : (roll (roll d 2).2 3).1 = x := Option.some.inj h
    simp
    omega
  · cases h
theorem thr_all {α β σ : Type} {g : σ → α → β × σ} {p : β → Prop} (h : ∀ s a, p (g s a).1) : ∀ (xs : List α) (s : σ), ∀ b ∈ (thr g xs s).1, p b
  | [], s, b, hb => by cases hb
  | x :: xs, s, b, hb => by
    obtain rfl | hb := List.mem_cons.mp hb
    · exact h s x
    · exact thr_all h xs _ b hb
theorem known_in (r : RS) (d : Dc) : ∀ x ∈ known (knownR r d), x ∈ [0, 1, 2] := by
  intro x hx
  unfold known at hx
  obtain ⟨o, ho, e⟩ := List.mem_filterMap.mp hx
  exact thr_all (p := fun o => ∀ x, o = some x → x ∈ [0, 1, 2]) gK_in _ _ o ho x e
theorem ways_agr {r : RS} {d : Dc} {row : List Int} (h : row ∈ waysR r d) : Agr (knownR r d) row ∧ r.keeps row = true ∧ ∀ x ∈ row, 0 ≤ x := by
  obtain ⟨h1, h2⟩ := List.mem_filter.mp h
  obtain ⟨h3, h4⟩ := List.mem_filter.mp h1
  have kl := known_len r d
  refine ⟨agr_of (by rw [kl, allL_row h3]) fun k hk => ?_, h4, fun x hx => nn012 (allL_mem h3 x hx)⟩
  rw [List.isEmpty_iff, List.filter_eq_nil_iff] at h2
  have q := h2 k (List.mem_range.mpr (by omega))
  unfold badK at q
  cases e : (knownR r d).getD k none with
  | none => exact .inl rfl
  | some x =>
    rw [e] at q
    refine .inr ?_
    simpa using q
theorem ways_self {r : RS} {d : Dc} (hn : isNone (knownR r d) = false) (hk : r.keeps (known (knownR r d)) = true) : known (knownR r d) ∈ waysR r d := by
  have e := all_known hn
  have kl := known_len r d
  have kl2 : (known (knownR r d)).length = r.spots.length := by
    have := congrArg List.length e
    rw [List.length_map] at this
    omega
  refine List.mem_filter.mpr ⟨List.mem_filter.mpr ⟨allL_has kl2 (known_in r d), hk⟩, ?_⟩
  rw [List.isEmpty_iff, List.filter_eq_nil_iff]
  intro k hk
  have hk' := List.mem_range.mp hk
  unfold badK
  have g : (knownR r d).getD k none = some ((known (knownR r d)).getD k 0) := by
    conv => lhs; rw [e]
    simp [kl2, hk']
  rw [g]
  simp
theorem may_ways {r : RS} {d : Dc} (hr : r.isRuns = false) (h : waysR r d ≠ []) : r.may (knownR r d) = true := by
  obtain ⟨row, hrow⟩ := List.exists_mem_of_ne_nil _ h
  obtain ⟨a, b, c⟩ := ways_agr hrow
  exact may_part hr a c b
theorem may_whole {r : RS} {d : Dc} (hr : r.isRuns = false) (hn : isNone (knownR r d) = false) : r.may (knownR r d) = !(waysR r d).isEmpty := by
  cases h : (waysR r d) with
  | cons x xs => rw [may_ways hr (by rw [h]; simp)]; rfl
  | nil =>
    show _ = false
    cases hm : r.may (knownR r d) with
    | false => rfl
    | true =>
      rw [all_known hn, may_full hr] at hm
      have := ways_self hn hm
      rw [h] at this
      cases this
section
variable {P : Program} {w : World} {K : PySem.W.Frag} {mg : Str → Option Value} {base : Heap} (T_ : Tx K mg)
theorem ways_T (r : RS) (d : Dc) : teq (.lst ((waysR r d).map tupI)) (.lst []) = (waysR r d).isEmpty := by rw [teq_nilL, List.isEmpty_map]
theorem c6_ok (r : RS) (F : r.Fine) (d d' : Dc) (ss : List Sq) (e10 : Ent) : SG (lawS P w K mg base) (RE d' ss (.sh (r.tree T_)) (.sh r.test) (.sh (.int (r.spots.length : Nat))) (.sh (.lst ((fullR r).map tupI))) (.sh (valsT (knownR r d))) (.sh (.lst ((waysR r d).map tupI))) e10) (rS 5) (.nx (RE d' ss (.sh (r.tree T_)) (.sh r.test) (.sh (.int (r.spots.length : Nat))) (.sh (.lst ((fullR r).map tupI))) (.sh (valsT (knownR r d))) (.sh (.lst ((waysR r d).map tupI))) e10)) := by
  have h4 := F.h4
  have hd : ((!teq (.lst ((waysR r d).map tupI)) (.lst []) && !r.may (knownR r d)) || ((!(((knownR r d).map ov).any fun x => teq x .non)) && !teq (.bl (r.may (knownR r d))) (.bl (!teq (.lst ((waysR r d).map tupI)) (.lst []))))) = false := by
    rw [ways_T, none_any, enc_bl.eq]
    have m1 : (waysR r d).isEmpty = false → r.may (knownR r d) = true := fun z => may_ways F.hr (by intro q; rw [q] at z; cases z)
    have m2 := may_whole (r := r) (d := d) F.hr
    cases q : (waysR r d).isEmpty with
    | false =>
      rw [m1 q]
      cases q2 : isNone (knownR r d) <;> simp
    | true =>
      cases q2 : isNone (knownR r d) with
      | true => simp
      | false => rw [m2 q2, q]; simp
  exact sg_ifFn hd (tg_w (wg_or (tg_w (wg_and (pt_ne (n := 2) (DOk.up (by decide) (enc_tupI.lst.ok _)) dok_nilL (eg_sh (i := 9) (by walk_at "vo") rfl) pg_lst0) fun _ => wg_and1 (tg_not (tg_val (eg_may T_ (vs := knownR r d) rfl rfl rfl rfl rfl (by walk_at "lv") (eg_sh (i := 3) (by walk_at "vo") rfl) (eg_sh (i := 8) (by walk_at "vo") rfl) (by rw [known_len]; exact fits_len h4)))))) fun _ => wg_or1 (tg_w (wg_and (tt_ninL (n := 1) eg_non (eg_sh (i := 8) (by walk_at "vo") rfl) trivial (enc_ov.in_ _)) fun _ => wg_and1 (tt_ne (n := 0) (eg_may T_ (vs := knownR r d) rfl rfl rfl rfl rfl (by walk_at "lv") (eg_sh (i := 3) (by walk_at "vo") rfl) (eg_sh (i := 8) (by walk_at "vo") rfl) (by rw [known_len]; exact fits_len h4)) (pg_ne (n := 2) (DOk.up (by decide) (enc_tupI.lst.ok _)) dok_nilL (eg_sh (i := 9) (by walk_at "vo") rfl) pg_lst0) trivial trivial)))))
theorem c7_ok (r : RS) (F : r.Fine) (d d' : Dc) (ss : List Sq) (e10 : Ent) : SG (lawS P w K mg base) (RE d' ss (.sh (r.tree T_)) (.sh r.test) (.sh (.int (r.spots.length : Nat))) (.sh (.lst ((fullR r).map tupI))) (.sh (valsT (knownR r d))) (.sh (.lst ((waysR r d).map tupI))) e10) (rS 6) (.nx (RE d' ss (.sh (r.tree T_)) (.sh r.test) (.sh (.int (r.spots.length : Nat))) (.sh (.lst ((fullR r).map tupI))) (.sh (valsT (knownR r d))) (.sh (.lst ((waysR r d).map tupI))) (.sh (dN w (tableR r d))))) := by
  have h4 := F.h4
  have kl := known_len r d
  refine sg_nx (sg_setP (i := 10) (t := dN w (tableR r d)) (by walk_at "so") (eg_dictN (by walk_at "gl") T_.nDict ?_ (psOf_depth _ _ _) ?_) (by walk_at "ln")) rfl
  · rw [psOf_T]
    refine (lcNF (α := Nat) (toT := fun k : Nat => T.int (0 + (k : Int))) (f := fun k => T.tup [sqT (r.spots.getD k (0, 0)), ov ((knownR r d).getD k none)]) (b := fun k => !((knownR r d).getD k none).isNone) (xs := List.range r.spots.length) (i := 24) (by walk_at "bk") (by walk_at "nd") (by walk_at "so") (by walk_at "ln") (by walk_at "no") (by rw [List.length_range]; omega) (ig_rng (by walk_at "gl") T_.nRange (eg_sh (i := 5) (by walk_at "vo") rfl) (by omega)) (fun k hk => ?_) fun k hk _ => ?_).eg
    · have hk' := List.mem_range.mp hk
      show TtG _ _ _ (!((knownR r d).getD k none).isNone) _
      rw [← isNon_ov]
      exact tt_notN (pg_item .lst (i := 0 + (k : Int)) (at_map none (by omega)) (eg_sh (i := 8) (by walk_at "vo") rfl) (eg_sh (i := 24) (by walk_at "vo") rfl))
    · have hk' := List.mem_range.mp hk
      exact pg_tup2 (pg_item .tup (i := 0 + (k : Int)) (at_map (0, 0) hk') (eg_spots T_ rfl (eg_sh (i := 3) (by walk_at "vo") rfl)) (eg_sh (i := 24) (by walk_at "vo") rfl)) (pg_item .lst (i := 0 + (k : Int)) (at_map none (by omega)) (eg_sh (i := 8) (by walk_at "vo") rfl) (eg_sh (i := 24) (by walk_at "vo") rfl))
  · unfold psOf
    rw [List.length_map]
    exact Nat.le_trans (List.length_filter_le _ _) (by rw [List.length_range]; omega)
theorem shown_1 (r : RS) : ∃ ts, r.shown = .tup ts ∧ atI ts 1 = some (spT r.spots) := by
  cases r <;> exact ⟨_, rfl, at_1⟩
theorem c8_ok (r : RS) (F : r.Fine) (d d' : Dc) (ss : List Sq) : SG (lawS P w K mg base) (RE d' ss (.sh (r.tree T_)) (.sh r.test) (.sh (.int (r.spots.length : Nat))) (.sh (.lst ((fullR r).map tupI))) (.sh (valsT (knownR r d))) (.sh (.lst ((waysR r d).map tupI))) (.sh (dN w (tableR r d)))) (rS 7) (.nx (RE d' ss (.sh (r.tree T_)) (.sh r.test) (.sh (.int (r.spots.length : Nat))) (.sh (.lst ((fullR r).map tupI))) (.sh (valsT (knownR r d))) (.sh (.lst ((waysR r d).map tupI))) (.sh (dN w (tableR r d))))) := by
  have h4 := F.h4
  have kl := known_len r d
  obtain ⟨f, hf⟩ := fun_of (none : Option Int) (vs := knownR r d) F.nd kl.symm
  obtain ⟨ts, es, e1⟩ := shown_1 r
  have hg : ∀ p ∈ r.spots, (getN (tableR r d) (keyQ p)).getD .non = ov (f p) := by
    intro p hp
    obtain ⟨i, hi, ep⟩ := List.getElem_of_mem hp
    subst ep
    have e := get_at F.nd (fun k => ov ((knownR r d).getD k none)) hi (ks := (List.range r.spots.length).filter fun k => !((knownR r d).getD k none).isNone) fun k hk => List.mem_range.mp (List.mem_filter.mp hk).1
    unfold tableR psOf
    rw [e]
    have v : (knownR r d).getD i none = f r.spots[i] := by
      have q := congrArg (fun l : List (Option Int) => l.getD i none) hf
      simp [hi] at q
      rw [q]
      simp
    rw [v]
    by_cases hn : f r.spots[i] = none
    · rw [hn]
      split <;> rfl
    · rw [if_pos (List.mem_filter.mpr ⟨List.mem_range.mpr hi, by rw [v]; cases h : f r.spots[i] with | none => exact absurd h hn | some x => rfl⟩)]
      rfl
  have hd : ((!teq (.bl (!isNone (knownR r d) && r.may (knownR r d))) (.bl (!(((knownR r d).map ov).any fun x => teq x .non) && !teq (.lst ((waysR r d).map tupI)) (.lst [])))) || !teq (spT r.spots) (spT r.spots)) = false := by
    have t2 : teq (spT r.spots) (spT r.spots) = true := by
      have := enc_sq.tup.eq r.spots r.spots
      unfold spT
      rw [this]
      simp
    rw [t2, ways_T, none_any, enc_bl.eq]
    cases q2 : isNone (knownR r d) with
    | true => simp
    | false => rw [may_whole F.hr q2]; simp
  have kept := eg_fn (S := lawS P w K mg base) (E := (RE d' ss (.sh (r.tree T_)) (.sh r.test) (.sh (.int (r.spots.length : Nat))) (.sh (.lst ((fullR r).map tupI))) (.sh (valsT (knownR r d))) (.sh (.lst ((waysR r d).map tupI))) (.sh (dN w (tableR r d))))) (x := "kept") (p := ⟨242, 15, 242, 19⟩) (pos := ⟨242, 15, 242, 32⟩) (e := .Name "rule" ⟨242, 20, 242, 24⟩) (es := [.Name "table" ⟨242, 26, 242, 31⟩]) (T_.kept.ok rfl rfl) (by walk_at "gl") (kept_ok T_ r (tableR r d) f hg (fits_len h4) (by omega)) (by walk_at "lv") (pas_cons (eg_sh (i := 3) (by walk_at "vo") rfl) (pas_cons (eg_sh (i := 10) (by walk_at "vo") rfl) eas_nil))
  rw [hf] at kept
  refine sg_ifFn hd (tg_w (wg_or (tt_ne (n := 0) kept (eg_andV (c := !(((knownR r d).map ov).any fun x => teq x .non)) (eg_ninL (n := 1) eg_non (eg_sh (i := 8) (by walk_at "vo") rfl) trivial (enc_ov.in_ _)) fun _ => eg_and1 (pg_ne (n := 2) (DOk.up (by decide) (enc_tupI.lst.ok _)) dok_nilL (eg_sh (i := 9) (by walk_at "vo") rfl) pg_lst0)) trivial trivial) fun _ => wg_or1 (tt_ne (n := 2) (pg_item .tup (i := 1) e1 (eg_to (eg_shown T_ rfl rfl rfl rfl rfl (by walk_at "lv") (eg_sh (i := 3) (by walk_at "vo") rfl)) es rfl) eg_int) (eg_spots T_ rfl (eg_sh (i := 3) (by walk_at "vo") rfl)) (enc_sq.tup.ok _) (enc_sq.tup.ok _))))
end
end K02
end Cw
end L2

set_option Elab.async false
set_option linter.all false
set_option maxRecDepth 100000
set_option maxHeartbeats 4000000
namespace L2
namespace Cw
namespace K02
open PySem PySem.Spec PyProof.Rows
local macro_rules | `(tactic| walk_at "vo") => `(tactic| exact ⟨rfl, by first | exact .inl rfl | exact .inr (.inl rfl) | exact .inr (.inr rfl), by decide, by decide⟩)
local macro_rules | `(tactic| walk_at "gl") => `(tactic| exact ⟨rfl, by decide⟩)
local macro_rules | `(tactic| walk_at "nd") => `(tactic| (dsimp only [SS.blk, defP]; decide +kernel))
local macro_rules | `(tactic| walk_at "so") => `(tactic| exact ⟨by walk_at "nd", rfl, by first | exact .inl rfl | exact .inr rfl, by first | exact .inl rfl | exact .inr rfl, by first | (dsimp only [SS.blk, defP, pins]; decide) | (simp [SS.blk, defP, pins, isOw, List.range_succ]; done)⟩)
local macro_rules | `(tactic| walk_at "bk") => `(tactic| exact blkOk_by (by walk_at "nd"))
local macro_rules | `(tactic| walk_at "ln") => `(tactic| (simp; done))
local macro_rules | `(tactic| walk_at "no") => `(tactic| (intro t; simp; done))
local macro_rules | `(tactic| walk_at "lv") => `(tactic| (dsimp only [SS.blk, defP]; decide))
local macro_rules | `(tactic| walk_at "sc") => `(tactic| exact ⟨rfl, rfl, rfl, by decide +kernel, rfl, by decide +kernel, by decide +kernel⟩)
/- a name's value -/
local macro_rules | `(tactic| walk_at "v") => `(tactic| first
  | exact eg_sh (i := 0) (by walk_at "vo") rfl | exact eg_sh (i := 1) (by walk_at "vo") rfl | exact eg_sh (i := 2) (by walk_at "vo") rfl | exact eg_sh (i := 3) (by walk_at "vo") rfl
  | exact eg_sh (i := 4) (by walk_at "vo") rfl | exact eg_sh (i := 5) (by walk_at "vo") rfl | exact eg_sh (i := 6) (by walk_at "vo") rfl | exact eg_sh (i := 7) (by walk_at "vo") rfl)

theorem ruleR_fine {ss : List Sq} (d : Dc) (t : Nat) (nd : ss.Nodup) (h2 : 2 ≤ ss.length) (h4 : ss.length ≤ 4) : (ruleR ss d t).Fine := by
  obtain ⟨l1, l2⟩ := someR_len d h2
  have n1 := someR_nd d nd
  obtain ⟨rest, e⟩ := someR_two d h2
  have n2 : [oneR ss d, otherR ss d].Nodup := by
    rw [e] at n1
    exact n1.sublist (by simp)
  have h4' : (someR ss d).length ≤ 4 := by omega
  unfold ruleR
  split
  · exact ⟨rfl, n1, l1, h4'⟩
  · split
    · exact ⟨rfl, n1, l1, h4'⟩
    · split
      · exact ⟨rfl, n2, Nat.le_refl _, (by decide : 2 ≤ 4)⟩
      · split
        · exact ⟨rfl, n2, Nat.le_refl _, (by decide : 2 ≤ 4)⟩
        · split
          · exact ⟨rfl, n1, l1, h4'⟩
          · exact ⟨rfl, n1, l1, h4'⟩
theorem forR_inv {S : SS} {α τ : Type} {toT : α → T} {tg : Expr} {body : List Stmt} {next : τ → α → τ} {I : τ → List Ent → Prop} : ∀ (xs : List α), (∀ s, ∀ a ∈ xs, ∀ E, I s E → ∃ Ea ws E1, AG S E tg (toT a) Ea ws ∧ SGs S Ea body (.nx E1) ∧ I (next s a) E1) → ∀ (s : τ) (E : List Ent), I s E → ∃ E', ForR S tg body E (xs.map toT) (.nx E') ∧ I (xs.foldl next s) E'
  | [], _, s, E, h => ⟨E, .nil, h⟩
  | a :: as, st, s, E, h => by
    obtain ⟨Ea, ws, E1, ag, sg, i1⟩ := st s a List.mem_cons_self E h
    obtain ⟨E', fr, i2⟩ := forR_inv as (fun s b hb => st s b (List.mem_cons_of_mem _ hb)) (next s a) E1 i1
    exact ⟨E', .step ag sg fr, i2⟩
section
variable {P : Program} {w : World} {K : PySem.W.Frag} {mg : Str → Option Value} {base : Heap} (T_ : Tx K mg)
def drawnRules (ss : List Sq) (d : Dc) : List RS := (thr (gR ss) (List.range (roll d 4).1.toNat) (roll d 4).2).1
def rulesD (ss : List Sq) (d : Dc) : Dc := (thr (gR ss) (List.range (roll d 4).1.toNat) (roll d 4).2).2
theorem drawn_fine {ss : List Sq} {d : Dc} (nd : ss.Nodup) (h2 : 2 ≤ ss.length) (h4 : ss.length ≤ 4) : ∀ r ∈ drawnRules ss d, r.Fine := fun r hr =>
  thr_all (p := RS.Fine) (fun s t => ruleR_fine s t nd h2 h4) _ _ r hr
include T_ in
theorem eg_rules {S : SS} {E : List Ent} {e : Expr} {i : Nat} {ss : List Sq} {d : Dc} {p q pos : Pos} (hP : S.P = P) (hw : S.w = w) (hK : S.K = K) (hm : S.mg = mg) (hB : S.base = base) (hk : 4 ≤ S.k) (vo : VarOk S i "dice") (g : GlOk S "_law_rules") (h0 : E[i]? = some (.ow (dT d))) (h : EG S E e (.lst (ss.map sqT)) E) (nd : ss.Nodup) (h2 : 2 ≤ ss.length) (h4 : ss.length ≤ 4)
    (he : ∀ env, starEach [.Name "dice" q, e] env = (false, eval (.Name "dice" q) env) :: starEach [e] env := by intro _; rfl) (he2 : ∀ env, starEach [e] env = (false, eval e env) :: starEach [] env := by intro _; rfl) (hpl : ∀ env, (backTo pos (starEach [e] env)).any (·.1) = false := by intro _; rfl) :
    EG S E (.Call (.Name "_law_rules" p) [.Name "dice" q, e] [] pos) (.lst ((drawnRules ss d).map (RS.pair T_))) (E.set i (.ow (dT (rulesD ss d)))) := by
  subst hP hw hK hm hB
  have h := eg_call (S := S) (E := E) (E1 := E) (k := 4) (x := "_law_rules") (p := p) (pos := pos) (e := .Name "dice" q) (es := [e]) (ds := [.bo i (dT d), .va (.lst (ss.map sqT))]) (dts := []) (dvs := []) (dV := []) (t := .lst ((drawnRules ss d).map (RS.pair T_))) (as' := [.ow (dT (rulesD ss d)), .sh (.lst (ss.map sqT))]) (T_.rules.ok rfl rfl) g (rules_ok T_ ss d h2 (by omega) nd) hk .nil (fun _ => .nil) (eab_bo vo h0 (eab_va h (eab_of eas_nil) he2) he) ?_ ?_ ?_ he hpl
  · exact h
  · intro j i' t hj
    match j with
    | 0 => cases hj; exact h0
    | 1 => cases hj
    | j + 2 => cases hj
  · exact List.nodup_cons.mpr ⟨List.not_mem_nil, List.nodup_nil⟩
  · intro j i' t hj
    match j with
    | 0 => exact ⟨_, rfl⟩
    | 1 => cases hj
    | j + 2 => cases hj
/-- the slots that hold whatever was there -/
def RI_ (ss : List Sq) (d : Dc) (E : List Ent) : Prop := ∃ a3 a4 a5 a7 a8 a9 a10 : Ent, E = RE d ss a3 a4 a5 a7 a8 a9 a10 ∧ ∀ a ∈ [a3, a4, a5, a7, a8, a9, a10], isOw a = false
include T_ in
theorem b2_ok (ss : List Sq) (d : Dc) (nd : ss.Nodup) (h2 : 2 ≤ ss.length) (h4 : ss.length ≤ 4) : ∃ E', SG (lawS P w K mg base) (RE d ss .no .no .no .no .no .no .no) (bS 1) (.nx E') ∧ RI_ ss ((drawnRules ss d).foldl (fun d r => diceR r d) (rulesD ss d)) E' := by
  obtain ⟨E', fr, i2⟩ := forR_inv (S := lawS P w K mg base) (toT := RS.pair T_) (tg := match bS 1 with | .For t _ _ _ _ => t | _ => .Constant .none 0 ⟨0, 0, 0, 0⟩) (body := ruleBody) (next := fun d r => diceR r d) (I := RI_ ss) (drawnRules ss d) (fun d1 r hr E hE => by
    obtain ⟨a3, a4, a5, a7, a8, a9, a10, rfl, hno⟩ := hE
    have F := drawn_fine nd h2 h4 r hr
    refine ⟨RE d1 ss (.sh (r.tree T_)) (.sh r.test) a5 a7 a8 a9 a10, [3, 4], RE (diceR r d1) ss (.sh (r.tree T_)) (.sh r.test) (.sh (.int (r.spots.length : Nat))) (.sh (.lst ((fullR r).map tupI))) (.sh (valsT (knownR r d1))) (.sh (.lst ((waysR r d1).map tupI))) (.sh (dN w (tableR r d1))), ag_tup (.inl rfl) (ags_cons (ag_name (by walk_at "so") (by walk_at "ln")) (ags_cons (ag_name (by walk_at "so") (by walk_at "ln")) ags_nil)), ?_, ?_⟩
    · exact sgs_cons (c1_ok T_ r d1 ss a5 a7 a8 a9 a10) (sgs_cons (c2_ok T_ r F d1 ss a7 a8 a9 a10) (sgs_cons (c3_ok T_ r F d1 ss a8 a9 a10) (sgs_cons (c4_ok T_ r F d1 ss a8 a9 a10) (sgs_cons (c5_ok T_ r F d1 _ ss a9 a10) (sgs_cons (c6_ok T_ r F d1 _ ss a10) (sgs_cons (c7_ok T_ r F d1 _ ss a10) (sgs_one (c8_ok T_ r F d1 _ ss))))))))
    · exact ⟨_, _, _, _, _, _, _, rfl, by simp [isOw]⟩) (rulesD ss d) (RE (rulesD ss d) ss .no .no .no .no .no .no .no) ⟨_, _, _, _, _, _, _, rfl, by simp [isOw]⟩
  exact ⟨E', sg_for (E1 := RE (rulesD ss d) ss .no .no .no .no .no .no .no) (ts := (drawnRules ss d).map (RS.pair T_)) (ig_seq .lst (eg_to (t := .lst ((drawnRules ss d).map (RS.pair T_))) (eg_rules T_ (i := 1) (d := d) (ss := ss) rfl rfl rfl rfl rfl (by walk_at "lv") (by walk_at "vo") (by walk_at "gl") rfl (eg_sh (i := 2) (by walk_at "vo") rfl) nd h2 h4) rfl rfl)) fr, i2⟩
end
end K02
end Cw
end L2

set_option Elab.async false
set_option linter.all false
set_option maxRecDepth 100000
set_option maxHeartbeats 4000000
namespace L2
namespace Cw
namespace K02
open PySem PySem.Spec PyProof.Rows
local macro_rules | `(tactic| walk_at "vo") => `(tactic| exact ⟨rfl, by first | exact .inl rfl | exact .inr (.inl rfl) | exact .inr (.inr rfl), by decide, by decide⟩)
local macro_rules | `(tactic| walk_at "gl") => `(tactic| exact ⟨rfl, by decide⟩)
local macro_rules | `(tactic| walk_at "nd") => `(tactic| (dsimp only [SS.blk, defP]; decide +kernel))
local macro_rules | `(tactic| walk_at "so") => `(tactic| exact ⟨by walk_at "nd", rfl, by first | exact .inl rfl | exact .inr rfl, by first | exact .inl rfl | exact .inr rfl, by first | (dsimp only [SS.blk, defP, pins]; decide) | (simp [SS.blk, defP, pins, isOw, List.range_succ]; done)⟩)
local macro_rules | `(tactic| walk_at "bk") => `(tactic| exact blkOk_by (by walk_at "nd"))
local macro_rules | `(tactic| walk_at "ln") => `(tactic| (simp; done))
local macro_rules | `(tactic| walk_at "no") => `(tactic| (intro t; simp; done))
local macro_rules | `(tactic| walk_at "lv") => `(tactic| (dsimp only [SS.blk, defP]; decide))
local macro_rules | `(tactic| walk_at "sc") => `(tactic| exact ⟨rfl, rfl, rfl, by decide +kernel, rfl, by decide +kernel, by decide +kernel⟩)
/- a name's value -/
local macro_rules | `(tactic| walk_at "v") => `(tactic| first
  | exact eg_sh (i := 0) (by walk_at "vo") rfl | exact eg_sh (i := 1) (by walk_at "vo") rfl | exact eg_sh (i := 2) (by walk_at "vo") rfl | exact eg_sh (i := 3) (by walk_at "vo") rfl
  | exact eg_sh (i := 4) (by walk_at "vo") rfl | exact eg_sh (i := 5) (by walk_at "vo") rfl | exact eg_sh (i := 6) (by walk_at "vo") rfl | exact eg_sh (i := 7) (by walk_at "vo") rfl)

section
variable {S : SS} {α β τ : Type} {toT : α → T} {f : α → T} {x : Str} {px : Pos} {i : Nat} {iter elt : Expr} {scope : Scope} {E E1 : List Ent}
theorem thr_same {α : Type} : ∀ (xs : List α), thr (fun (_ : Unit) (a : α) => (a, ())) xs () = (xs, ())
  | [] => rfl
  | a :: as => by
    show (a :: (thr _ as ()).1, (thr _ as ()).2) = _
    rw [thr_same as]
theorem lcNE {xs : List α} (ok : BlkOk S.N S.sc scope [(x, i)]) (hN : S.N.Nodup) (so : StoOk (S.blk scope) i x) (hl : i < E1.length) (no : ∀ t, E1[i]? ≠ some (.ow t)) (hz : xs.length ≤ 16777216) (hi : IG S E (.Name x px) iter (xs.map toT) E1)
    (he : ∀ a ∈ xs, EG (S.blk scope) (E1.set i (.sh (toT a))) elt (f a) (E1.set i (.sh (toT a)))) : LcD S E E1 (.Name x px) iter elt [] scope (xs.map f) := by
  have h := lcT (S := S) (E := E) (τ := Unit) (g := fun _ a => (a, ())) (f := f) (toT := toT) (Ev := fun _ => E1) (xs := xs) () ok hN so (fun _ => hl) (fun _ _ => rfl) no hz hi fun a ha _ => he a ha
  rw [thr_same] at h
  exact h
end
def spotsD (d : Dc) : List Sq := (List.range (2 + (roll d 3).1).toNat).map fun k : Nat => ((0 : Int), 0 + (k : Int))
theorem row_nodup (z : Int) (n : Nat) : ((List.range n).map fun k : Nat => ((z, 0 + (k : Int)) : Sq)).Nodup := by
  unfold List.Nodup
  rw [List.pairwise_map]
  exact List.nodup_range.imp fun {a b} h e => h (by
    have := (Prod.mk.inj e).2
    omega)
theorem spotsD_ok (d : Dc) : (spotsD d).Nodup ∧ 2 ≤ (spotsD d).length ∧ (spotsD d).length ≤ 4 := by
  have q := roll_lt d (m := 3) (by decide)
  refine ⟨row_nodup 0 _, ?_, ?_⟩ <;> (unfold spotsD; rw [List.length_map, List.length_range]; omega)
def sizeD (d : Dc) : Nat := (1 + (roll d 5).1).toNat
theorem sizeD_ok (d : Dc) : 1 ≤ sizeD d ∧ sizeD d ≤ 5 := by
  have q := roll_lt d (m := 5) (by decide)
  unfold sizeD
  omega
def g2 (d : Dc) (_ : Nat) : Int × Dc := roll d 2
def rowD (n : Nat) (d : Dc) : List Int := (thr g2 (List.range n) d).1
theorem rowD_ok (n : Nat) (d : Dc) : (rowD n d).length = n ∧ ∀ x ∈ rowD n d, x = 0 ∨ x = 1 := by
  refine ⟨by unfold rowD; rw [thr_len, List.length_range], thr_all (p := fun x => x = 0 ∨ x = 1) (fun s a => ?_) _ _⟩
  have q := roll_lt s (m := 2) (by decide)
  unfold g2
  omega
def lineD (n : Nat) : List Sq := (List.range n).map fun k : Nat => ((1 : Int), 0 + (k : Int))
theorem lineD_ok {n : Nat} (h : 1 ≤ n) : spotsOk (lineD n) = true ∧ (lineD n).length = n := by
  have l : (lineD n).length = n := by unfold lineD; rw [List.length_map, List.length_range]
  refine ⟨?_, l⟩
  unfold spotsOk
  have nd : (lineD n).Nodup := row_nodup 1 n
  rw [decide_eq_true nd]
  cases e : lineD n with
  | nil => rw [e] at l; simp at l; omega
  | cons x xs => rfl
theorem foldW_len (xs : List Int) : (xs.foldl stepW ([], 0)).1.length ≤ xs.length := by
  have h : ∀ (xs : List Int) (s : List Int × Int), (xs.foldl stepW s).1.length ≤ s.1.length + xs.length := by
    intro xs
    induction xs with
    | nil => intro s; exact Nat.le_refl _
    | cons x xs ih =>
      intro s
      rw [List.foldl_cons]
      refine Nat.le_trans (ih _) ?_
      have : (stepW s x).1.length ≤ s.1.length + 1 := by
        unfold stepW
        rw [List.length_append]
        split <;> simp
      simp only [List.length_cons]
      omega
  simpa using h xs ([], 0)
section
variable {P : Program} {w : World} {K : PySem.W.Frag} {mg : Str → Option Value} {base : Heap} (T_ : Tx K mg)
include T_
theorem b1_ok (d : Dc) : SG (lawS P w K mg base) ((List.replicate 27 Ent.no).set 1 (.ow (dT d))) (bS 0) (.nx (RE (roll d 3).2 (spotsD d) .no .no .no .no .no .no .no)) := by
  have q := roll_lt d (m := 3) (by decide)
  have e : (spotsD d).map sqT = (List.range (2 + (roll d 3).1).toNat).map fun k : Nat => T.tup [.int 0, .int (0 + (k : Int))] := by
    unfold spotsD
    rw [List.map_map]
    rfl
  have hs : SG (lawS P w K mg base) ((List.replicate 27 Ent.no).set 1 (.ow (dT d))) (bS 0) (.nx ((((List.replicate 27 Ent.no).set 1 (.ow (dT d))).set 1 (.ow (dT (roll d 3).2))).set 2 (.sh (.lst ((spotsD d).map sqT))))) := by
    rw [e]
    refine LcD.set (m := 2) (lcNE (toT := fun k : Nat => T.int (0 + (k : Int))) (f := fun k : Nat => T.tup [.int 0, .int (0 + (k : Int))]) (xs := List.range (2 + (roll d 3).1).toNat) (i := 24) (E1 := ((List.replicate 27 Ent.no).set 1 (.ow (dT d))).set 1 (.ow (dT (roll d 3).2))) (by walk_at "bk") (by walk_at "nd") (by walk_at "so") (by simp) (by intro t; simp [List.replicate]) (by rw [List.length_range]; omega) (ig_range (by walk_at "gl") T_.nRange (eg_add eg_int (eg_roll T_ (i := 1) rfl rfl rfl rfl rfl (by walk_at "lv") (by walk_at "vo") (by walk_at "gl") rfl eg_int ⟨by decide, by decide⟩)) (by omega)) fun k _ => ?_) (by walk_at "so") rfl rfl rfl rfl (by simp)
    exact pg_tup2 eg_int (eg_sh (i := 24) (by walk_at "vo") rfl)
  exact hs
variable (ss : List Sq) (a3 a4 a5 a7 a8 a9 a10 : Ent)
theorem b3_ok (d : Dc) : SG (lawS P w K mg base) [.no, .ow (dT d), .sh (.lst (ss.map sqT)), a3, a4, a5, .no, a7, a8, a9, a10, .no, .no, .no, .no, .no, .no, .no, .no, .no, .no, .no, .no, .no, .no, .no, .no] (bS 2) (.nx [.no, .ow (dT (roll d 5).2), .sh (.lst (ss.map sqT)), a3, a4, a5, .no, a7, a8, a9, a10, .sh (.int (sizeD d : Nat)), .no, .no, .no, .no, .no, .no, .no, .no, .no, .no, .no, .no, .no, .no, .no]) := by
  have q := roll_lt d (m := 5) (by decide)
  have e : T.int (sizeD d : Nat) = .int (1 + (roll d 5).1) := by unfold sizeD; congr 1; omega
  rw [e]
  exact sg_nx (sg_set (i := 11) (by walk_at "so") (eg_add eg_int (eg_roll T_ (i := 1) rfl rfl rfl rfl rfl (by walk_at "lv") (by walk_at "vo") (by walk_at "gl") rfl eg_int ⟨by decide, by decide⟩)) (by simp)) rfl
theorem b4_ok (d : Dc) (n : Nat) (hn : n ≤ 5) : SG (lawS P w K mg base) [.no, .ow (dT d), .sh (.lst (ss.map sqT)), a3, a4, a5, .no, a7, a8, a9, a10, .sh (.int (n : Nat)), .no, .no, .no, .no, .no, .no, .no, .no, .no, .no, .no, .no, .no, .no, .no] (bS 3) (.nx [.no, .ow (dT (thr g2 (List.range n) d).2), .sh (.lst (ss.map sqT)), a3, a4, a5, .sh (.lst ((rowD n d).map T.int)), a7, a8, a9, a10, .sh (.int (n : Nat)), .no, .no, .no, .no, .no, .no, .no, .no, .no, .no, .no, .no, .no, .no, .no]) := by
  refine sg_nx (LcD.set (m := 6) (lcT (toT := fun k : Nat => T.int (0 + (k : Int))) (f := T.int) (g := g2) (Ev := fun d' => [.no, .ow (dT d'), .sh (.lst (ss.map sqT)), a3, a4, a5, .no, a7, a8, a9, a10, .sh (.int (n : Nat)), .no, .no, .no, .no, .no, .no, .no, .no, .no, .no, .no, .no, .no, .no, .no]) (xs := List.range n) (i := 24) d (by walk_at "bk") (by walk_at "nd") (by walk_at "so") (fun _ => by walk_at "ln") (fun _ _ => rfl) (by walk_at "no") (by rw [List.length_range]; omega) (ig_rng (by walk_at "gl") T_.nRange (eg_sh (i := 11) (by walk_at "vo") rfl) (by omega)) fun k _ s => ?_) (by walk_at "so") rfl rfl rfl rfl (by walk_at "ln")) rfl
  exact (eg_roll T_ (i := 1) rfl rfl rfl rfl rfl (by walk_at "lv") (by walk_at "vo") (by walk_at "gl") rfl eg_int ⟨by decide, by decide⟩)
theorem b5_ok (d : Dc) (n : Nat) (row : List Int) : SG (lawS P w K mg base) [.no, .ow (dT d), .sh (.lst (ss.map sqT)), a3, a4, a5, .sh (.lst (row.map T.int)), a7, a8, a9, a10, .sh (.int (n : Nat)), .no, .no, .no, .no, .no, .no, .no, .no, .no, .no, .no, .no, .no, .no, .no] (bS 4) (.nx [.no, .ow (dT d), .sh (.lst (ss.map sqT)), a3, a4, a5, .sh (.lst (row.map T.int)), a7, a8, a9, a10, .sh (.int (n : Nat)), .sh (.lst []), .sh (.int 0), .no, .no, .no, .no, .no, .no, .no, .no, .no, .no, .no, .no, .no]) :=
  sg_nx (sg_par2 (i := 12) (j := 13) (by walk_at "so") (by walk_at "so") rfl rfl rfl (pas_cons pg_lst0 (pas_cons eg_int eas_nil)) (by show 12 < 27; decide) (by show 13 < 27; decide) (by decide)) rfl
end
end K02
end Cw
end L2

set_option Elab.async false
set_option linter.all false
set_option maxRecDepth 100000
set_option maxHeartbeats 4000000
namespace L2
namespace Cw
namespace K02
open PySem PySem.Spec PyProof.Rows
local macro_rules | `(tactic| walk_at "vo") => `(tactic| exact ⟨rfl, by first | exact .inl rfl | exact .inr (.inl rfl) | exact .inr (.inr rfl), by decide, by decide⟩)
local macro_rules | `(tactic| walk_at "gl") => `(tactic| exact ⟨rfl, by decide⟩)
local macro_rules | `(tactic| walk_at "nd") => `(tactic| (dsimp only [SS.blk, defP]; decide +kernel))
local macro_rules | `(tactic| walk_at "so") => `(tactic| exact ⟨by walk_at "nd", rfl, by first | exact .inl rfl | exact .inr rfl, by first | exact .inl rfl | exact .inr rfl, by first | (dsimp only [SS.blk, defP, pins]; decide) | (simp [SS.blk, defP, pins, isOw, List.range_succ]; done)⟩)
local macro_rules | `(tactic| walk_at "bk") => `(tactic| exact blkOk_by (by walk_at "nd"))
local macro_rules | `(tactic| walk_at "ln") => `(tactic| (simp; done))
local macro_rules | `(tactic| walk_at "no") => `(tactic| (intro t; simp; done))
local macro_rules | `(tactic| walk_at "lv") => `(tactic| (dsimp only [SS.blk, defP]; decide))
local macro_rules | `(tactic| walk_at "sc") => `(tactic| exact ⟨rfl, rfl, rfl, by decide +kernel, rfl, by decide +kernel, by decide +kernel⟩)
/- a name's value -/
local macro_rules | `(tactic| walk_at "v") => `(tactic| first
  | exact eg_sh (i := 0) (by walk_at "vo") rfl | exact eg_sh (i := 1) (by walk_at "vo") rfl | exact eg_sh (i := 2) (by walk_at "vo") rfl | exact eg_sh (i := 3) (by walk_at "vo") rfl
  | exact eg_sh (i := 4) (by walk_at "vo") rfl | exact eg_sh (i := 5) (by walk_at "vo") rfl | exact eg_sh (i := 6) (by walk_at "vo") rfl | exact eg_sh (i := 7) (by walk_at "vo") rfl)

def g3 (d : Dc) (_ : Nat) : Int × Dc := (1 + (roll d 3).1, (roll d 3).2)
def drawnD (d : Dc) : List Int := (thr g3 (List.range (roll d 3).1.toNat) (roll d 3).2).1
def drawnE (d : Dc) : Dc := (thr g3 (List.range (roll d 3).1.toNat) (roll d 3).2).2
theorem drawnD_ok (d : Dc) : (drawnD d).length ≤ 2 ∧ ∀ x ∈ drawnD d, 1 ≤ x := by
  have q := roll_lt d (m := 3) (by decide)
  refine ⟨by unfold drawnD; rw [thr_len, List.length_range]; omega, thr_all (p := fun x => 1 ≤ x) (fun s a => ?_) _ _⟩
  have q := roll_lt s (m := 3) (by decide)
  unfold g3
  show 1 ≤ 1 + (roll s 3).1
  omega
theorem runsL_len (row : List Int) : (runsL row).length ≤ row.length + 1 := by
  have := runsS_len row
  unfold runsL
  split
  · rw [List.length_append]
    simp
    omega
  · omega
theorem fits_eq {n : Nat} {rs : List Int} (h : ∀ x ∈ rs, 1 ≤ x) : fits n rs = decide (rs.sum + (if (rs.length : Int) - 1 > 0 then (rs.length : Int) - 1 else 0) ≤ (n : Int)) := by
  unfold fits
  have e : ((rs.map fun r => decide (r < 1)).any id) = false := by
    rw [List.any_eq_false]
    intro b hb
    obtain ⟨r, hr, rfl⟩ := List.mem_map.mp hb
    have := h r hr
    simp; omega
  rw [e, Bool.false_or]
  generalize rs.sum + _ = m
  by_cases hm : m ≤ (n : Int)
  · rw [decide_eq_true hm, decide_eq_false (by omega)]; rfl
  · rw [decide_eq_false hm, decide_eq_true (by omega)]; rfl
section
variable {P : Program} {w : World} {K : PySem.W.Frag} {mg : Str → Option Value} {base : Heap} (T_ : Tx K mg)
include T_
variable (ss : List Sq) (a3 a4 a5 a7 a8 a9 a10 : Ent)
def sc6 (row pre : List Int) : List Ent := [.sh (.lst ((pre.foldl stepW ([], 0)).1.map T.int)), .sh (.int (pre.foldl stepW ([], 0)).2), lastE pre]
omit T_ in
abbrev b6E (ss : List Sq) (a3 a4 a5 a7 a8 a9 a10 : Ent) (d : Dc) (n : Nat) (row pre : List Int) : List Ent := [.no, .ow (dT d), .sh (.lst (ss.map sqT)), a3, a4, a5, .sh (.lst (row.map T.int)), a7, a8, a9, a10, .sh (.int (n : Nat)), .sh (.lst ((pre.foldl stepW ([], 0)).1.map T.int)), .sh (.int (pre.foldl stepW ([], 0)).2), lastE pre, .no, .no, .no, .no, .no, .no, .no, .no, .no, .no, .no, .no]
theorem b6_ok (d : Dc) (n : Nat) (row : List Int) (hl : row.length = n) (hn : n ≤ 5) (h01 : ∀ x ∈ row, x = 0 ∨ x = 1) : ∃ x13 x14 : Ent, isOw x13 = false ∧ isOw x14 = false ∧ SG (lawS P w K mg base) [.no, .ow (dT d), .sh (.lst (ss.map sqT)), a3, a4, a5, .sh (.lst (row.map T.int)), a7, a8, a9, a10, .sh (.int (n : Nat)), .sh (.lst []), .sh (.int 0), .no, .no, .no, .no, .no, .no, .no, .no, .no, .no, .no, .no, .no] (bS 5) (.nx [.no, .ow (dT d), .sh (.lst (ss.map sqT)), a3, a4, a5, .sh (.lst (row.map T.int)), a7, a8, a9, a10, .sh (.int (n : Nat)), .sh (.lst ((runsL row).map T.int)), x13, x14, .no, .no, .no, .no, .no, .no, .no, .no, .no, .no, .no, .no]) := by
  refine ⟨.sh (.int ((row ++ [0]).foldl stepW ([], 0)).2), lastE (row ++ [0]), rfl, by rw [lastE_snoc]; rfl, ?_⟩
  rw [← lots_eq row h01]
  refine sg_for (E1 := b6E ss a3 a4 a5 a7 a8 a9 a10 d n row []) (ts := (row ++ [0]).map T.int) (ig_seq .lst (eg_to (eg_catL (eg_sh (i := 6) (by walk_at "vo") rfl) (pg_lst1 eg_int) (by rw [List.length_map]; show _ + 1 ≤ _; omega)) (by simp) rfl)) (ForR.pre (toT := T.int) (Ev := b6E ss a3 a4 a5 a7 a8 a9 a10 d n row) (fun pre x post hx => ?_))
  have hpre : pre.length ≤ 5 := by
    have := congrArg List.length hx
    simp at this
    omega
  have fl := foldW_len pre
  refine ⟨_, [14], ag_name (i := 14) (by walk_at "so") (by walk_at "ln"), ?_⟩
  have e2 : (pre ++ [x]).foldl stepW ([], 0) = stepW (pre.foldl stepW ([], 0)) x := by rw [List.foldl_append]; rfl
  unfold b6E
  rw [e2, lastE_snoc]
  generalize hs : pre.foldl stepW ([], 0) = s at fl
  obtain ⟨lots, here⟩ := s
  generalize lastE pre = z
  have e3 : (stepW (lots, here) x).1 = lots ++ (if (x = 0 ∧ 0 < here) then [here] else []) := rfl
  have e4 : (stepW (lots, here) x).2 = if x = 1 then here + 1 else 0 := rfl
  rw [e3, e4]
  refine sgs_cons (sg_setP (i := 12) (t := .lst ((lots ++ (if (x = 0 ∧ 0 < here) then [here] else [])).map T.int)) (by walk_at "so") (eg_to (eg_catL (ts := lots.map T.int) (us := if (teq (.int x) (.int 0) && decide (0 < here)) = true then [.int here] else []) (eg_sh (i := 12) (by walk_at "vo") rfl) (eg_to (eg_if (t := .lst [.int here]) (u := .lst []) (tg_w (wg_and (pt_eq (n := 0) (t := .int x) (u := .int 0) trivial trivial (eg_sh (i := 14) (by walk_at "vo") rfl) eg_int) fun _ => wg_and1 (pt_gt (eg_sh (i := 13) (by walk_at "vo") rfl) eg_int))) (fun _ => pg_lst1 (eg_sh (i := 13) (by walk_at "vo") rfl)) fun _ => pg_lst0) (by split <;> rfl) rfl) ?_) ?_ rfl) (by walk_at "ln")) (sgs_one (sg_nx (sg_setP (i := 13) (t := .int (if x = 1 then here + 1 else 0)) (by walk_at "so") (eg_to (eg_if (t := .int (here + 1)) (u := .int 0) (pt_eq (n := 0) (t := .int x) (u := .int 1) trivial trivial (eg_sh (i := 14) (by walk_at "vo") rfl) eg_int) (fun _ => pg_add (eg_sh (i := 13) (by walk_at "vo") rfl) eg_int) fun _ => eg_int) ?_ rfl) (by walk_at "ln")) rfl))
  · rw [List.length_map]
    have : lots.length ≤ pre.length := fl
    split <;> simp <;> omega
  · rw [enc_int.eq]
    congr 1
    by_cases h1 : x = 0 ∧ 0 < here
    · simp [h1]
    · rw [if_neg h1, if_neg (by simpa using h1)]; simp
  · rw [enc_int.eq]
    by_cases h1 : x = 1
    · simp [h1]
    · simp [h1]
variable (x13 x14 : Ent)
theorem b7_ok (d : Dc) (n : Nat) (hn : n ≤ 5) (row : List Int) : SG (lawS P w K mg base) [.no, .ow (dT d), .sh (.lst (ss.map sqT)), a3, a4, a5, .sh (.lst (row.map T.int)), a7, a8, a9, a10, .sh (.int (n : Nat)), .sh (.lst ((runsL row).map T.int)), x13, x14, .no, .no, .no, .no, .no, .no, .no, .no, .no, .no, .no, .no] (bS 6) (.nx [.no, .ow (dT d), .sh (.lst (ss.map sqT)), a3, a4, a5, .sh (.lst (row.map T.int)), a7, a8, a9, a10, .sh (.int (n : Nat)), .sh (.lst ((runsL row).map T.int)), x13, x14, .no, .no, .no, .no, .no, .no, .no, .no, .sh (.lst ((lineD n).map sqT)), .no, .no, .no]) := by
  have e : (lineD n).map sqT = (List.range n).map fun k : Nat => T.tup [.int 1, .int (0 + (k : Int))] := by
    unfold lineD
    rw [List.map_map]
    rfl
  rw [e]
  refine sg_nx (LcD.setC (m := 23) (lcN (toT := fun k : Nat => T.int (0 + (k : Int))) (f := fun k : Nat => T.tup [.int 1, .int (0 + (k : Int))]) (xs := List.range n) (i := 24) (by walk_at "bk") (by walk_at "nd") (by walk_at "so") (by walk_at "ln") (by walk_at "no") (by rw [List.length_range]; omega) (ig_rng (by walk_at "gl") T_.nRange (eg_sh (i := 11) (by walk_at "vo") rfl) (by omega)) fun k _ => ?_) (by walk_at "so") rfl (by walk_at "ln")) rfl
  exact pg_tup2 eg_int (eg_sh (i := 24) (by walk_at "vo") rfl)
theorem b8_ok (d : Dc) (n : Nat) (h1 : 1 ≤ n) (hn : n ≤ 5) (row : List Int) (hl : row.length = n) : SG (lawS P w K mg base) [.no, .ow (dT d), .sh (.lst (ss.map sqT)), a3, a4, a5, .sh (.lst (row.map T.int)), a7, a8, a9, a10, .sh (.int (n : Nat)), .sh (.lst ((runsL row).map T.int)), x13, x14, .no, .no, .no, .no, .no, .no, .no, .no, .sh (.lst ((lineD n).map sqT)), .no, .no, .no] (bS 7) (.nx [.no, .ow (dT d), .sh (.lst (ss.map sqT)), a3, a4, a5, .sh (.lst (row.map T.int)), a7, a8, a9, a10, .sh (.int (n : Nat)), .sh (.lst ((runsL row).map T.int)), x13, x14, .no, .no, .no, .no, .no, .no, .no, .no, .sh (.lst ((lineD n).map sqT)), .no, .no, .no]) := by
  obtain ⟨lo, ll⟩ := lineD_ok h1
  have fi : fits (lineD n).length (runsL row) = true := by rw [ll, ← hl]; exact fits_runs row
  have hd : ((!teq (.tup ((runsL row).map T.int)) (.tup ((runsL row).map T.int))) || (!(RS.runs (lineD n) (runsL row)).may (row.map some) || !teq (RS.shown (.runs (lineD n) (runsL row))) (RS.shown (.runs (lineD n) (runsL row))))) = false := by
    have t1 : teq (.tup ((runsL row).map T.int)) (.tup ((runsL row).map T.int)) = true := by rw [enc_int.tup.eq]; simp
    have t2 : teq (RS.shown (.runs (lineD n) (runsL row))) (RS.shown (.runs (lineD n) (runsL row))) = true := by
      have q1 := enc_sq.tup.eq (lineD n) (lineD n)
      rw [decide_eq_true rfl] at q1
      unfold teq at t1 q1 ⊢
      simp [toD, PyData.eqv] at t1 q1
      simp [RS.shown, spT, toD, toDs, PyData.eqv, PyData.eqvAll]
      exact ⟨q1, t1⟩
    rw [t1, t2, may_runs, decide_eq_true rfl]
    rfl
  have dk : DOk 3 (RS.shown (.runs (lineD n) (runsL row))) := by
    intro t ht
    simp at ht
    rcases ht with rfl | rfl | rfl
    · exact (by decide +kernel : PyData.strOk "runs" = true)
    · exact enc_sq.tup.ok _
    · exact DOk.up (by decide) (enc_int.tup.ok _)
  refine sg_ifFn hd (tg_w (wg_or (pt_ne (n := 1) (enc_int.tup.ok _) (enc_int.tup.ok _) (eg_fn (T_.runs_of.ok rfl rfl) (by walk_at "gl") (runs_of_ok T_ row .lst (by omega)) (by walk_at "lv") (pas_cons (eg_sh (i := 6) (by walk_at "vo") rfl) eas_nil)) (eg_tupleL (by walk_at "gl") T_.nTuple (eg_sh (i := 12) (by walk_at "vo") rfl))) fun _ => wg_or (tg_not (tg_val (eg_may T_ (r := .runs (lineD n) (runsL row)) (vs := row.map some) rfl rfl rfl rfl rfl (by walk_at "lv") (eg_make T_.cRuns.makes (by walk_at "gl") T_.cRuns.mgC T_.cRuns.init.bd (runs_init T_ (lineD n) (runsL row) (.inl rfl) lo (by omega) fi (by have := runsL_len row; omega)) (by walk_at "lv") (pas_cons (eg_sh (i := 23) (by walk_at "vo") rfl) (pas_cons (eg_sh (i := 12) (by walk_at "vo") rfl) eas_nil))) (eg_to (eg_sh (i := 6) (by walk_at "vo") rfl) (by unfold valsT; rw [List.map_map]; rfl) rfl) (by rw [List.length_map]; show _ < 64; omega)))) fun _ => wg_or1 (pt_ne (n := 3) dk dk (eg_shown T_ (r := .runs (lineD n) (runsL row)) rfl rfl rfl rfl rfl (by walk_at "lv") (eg_make T_.cRuns.makes (by walk_at "gl") T_.cRuns.mgC T_.cRuns.init.bd (runs_init T_ (lineD n) (runsL row) (.inl rfl) lo (by omega) fi (by have := runsL_len row; omega)) (by walk_at "lv") (pas_cons (eg_sh (i := 23) (by walk_at "vo") rfl) (pas_cons (eg_sh (i := 12) (by walk_at "vo") rfl) eas_nil)))) (pg_tup3 eg_str (eg_tupleL (by walk_at "gl") T_.nTuple (eg_sh (i := 23) (by walk_at "vo") rfl)) (eg_tupleL (by walk_at "gl") T_.nTuple (eg_sh (i := 12) (by walk_at "vo") rfl))))))
theorem b9_ok (d : Dc) (n : Nat) (h1 : 1 ≤ n) (hn : n ≤ 5) (row : List Int) : SG (lawS P w K mg base) [.no, .ow (dT d), .sh (.lst (ss.map sqT)), a3, a4, a5, .sh (.lst (row.map T.int)), a7, a8, a9, a10, .sh (.int (n : Nat)), .sh (.lst ((runsL row).map T.int)), x13, x14, .no, .no, .no, .no, .no, .no, .no, .no, .sh (.lst ((lineD n).map sqT)), .no, .no, .no] (bS 8) (.nx [.no, .ow (dT (roll d (n + 1)).2), .sh (.lst (ss.map sqT)), a3, a4, a5, .sh (.lst (row.map T.int)), a7, a8, a9, a10, .sh (.int (n : Nat)), .sh (.lst ((runsL row).map T.int)), x13, x14, .sh (.int ((roll d (n + 1)).1.toNat : Nat)), .no, .no, .no, .no, .no, .no, .no, .sh (.lst ((lineD n).map sqT)), .no, .no, .no]) := by
  have q := roll_lt d (m := (n : Int) + 1) (by omega)
  have e : T.int ((roll d (n + 1)).1.toNat : Nat) = .int (roll d (n + 1)).1 := by congr 1; omega
  rw [e]
  exact sg_nx (sg_set (i := 15) (by walk_at "so") (eg_roll T_ (i := 1) rfl rfl rfl rfl rfl (by walk_at "lv") (by walk_at "vo") (by walk_at "gl") rfl (pg_add (eg_sh (i := 11) (by walk_at "vo") rfl) eg_int) ⟨by omega, by omega⟩) (by simp)) rfl
omit T_ in
theorem cutN (row : List Int) {p : Nat} (hp : p ≤ row.length) : cutT (row.map T.int) none (some (p : Int)) = ((row.take p).map some).map ov := by
  rw [cut_take (by rw [List.length_map]; exact hp), ← List.map_take, List.map_map]
  rfl
omit T_ in
theorem repN (m : Nat) : (List.replicate ((m : Int)).toNat [T.non]).flatten = (List.replicate m (none : Option Int)).map ov := by
  rw [Int.toNat_natCast]
  induction m with
  | zero => rfl
  | succ m ih => rw [List.replicate_succ, List.flatten_cons, ih]; rfl
theorem b10_ok (d : Dc) (n p : Nat) (h1 : 1 ≤ n) (hn : n ≤ 5) (hp : p ≤ n) (row : List Int) (hl : row.length = n) : SG (lawS P w K mg base) [.no, .ow (dT d), .sh (.lst (ss.map sqT)), a3, a4, a5, .sh (.lst (row.map T.int)), a7, a8, a9, a10, .sh (.int (n : Nat)), .sh (.lst ((runsL row).map T.int)), x13, x14, .sh (.int (p : Nat)), .no, .no, .no, .no, .no, .no, .no, .sh (.lst ((lineD n).map sqT)), .no, .no, .no] (bS 9) (.nx [.no, .ow (dT d), .sh (.lst (ss.map sqT)), a3, a4, a5, .sh (.lst (row.map T.int)), a7, a8, a9, a10, .sh (.int (n : Nat)), .sh (.lst ((runsL row).map T.int)), x13, x14, .sh (.int (p : Nat)), .no, .no, .no, .no, .no, .no, .no, .sh (.lst ((lineD n).map sqT)), .no, .no, .no]) := by
  obtain ⟨lo, ll⟩ := lineD_ok h1
  have fi : fits (lineD n).length (runsL row) = true := by rw [ll, ← hl]; exact fits_runs row
  have hd : (!(RS.runs (lineD n) (runsL row)).may ((row.take p).map some ++ List.replicate (n - p) none)) = false := by
    have := may_begun (lineD n) row (p := p) (by omega)
    rw [hl] at this
    rw [this]
    rfl
  have e : ((n : Int) - (p : Int)) = ((n - p : Nat) : Int) := by omega
  refine sg_ifFn hd (tg_not (tg_val (eg_may T_ (r := .runs (lineD n) (runsL row)) (vs := (row.take p).map some ++ List.replicate (n - p) none) rfl rfl rfl rfl rfl (by walk_at "lv") (eg_make T_.cRuns.makes (by walk_at "gl") T_.cRuns.mgC T_.cRuns.init.bd (runs_init T_ (lineD n) (runsL row) (.inl rfl) lo (by omega) fi (by have := runsL_len row; omega)) (by walk_at "lv") (pas_cons (eg_sh (i := 23) (by walk_at "vo") rfl) (pas_cons (eg_sh (i := 12) (by walk_at "vo") rfl) eas_nil))) ?_ ?_)))
  · refine eg_to (eg_catL (ts := ((row.take p).map some).map ov) (us := (List.replicate (n - p) (none : Option Int)).map ov) (eg_to (eg_sliceL (lo := none) (m := none) (n := some (p : Int)) (eg_sh (i := 6) (by walk_at "vo") rfl) pa_no (pa_so (eg_sh (i := 15) (by walk_at "vo") rfl))) (by rw [cutN row (by omega)]) rfl) (eg_to (eg_repL (ts := [T.non]) (n := ((n - p : Nat) : Int)) (pg_lst1 eg_non) (by rw [← e]; exact pg_sub (eg_sh (i := 11) (by walk_at "vo") rfl) (eg_sh (i := 15) (by walk_at "vo") rfl)) (by omega) (by rw [Int.toNat_natCast]; show 1 * _ ≤ _; omega)) (by rw [repN]) rfl) (by simp; omega)) (by unfold valsT; rw [List.map_append]) rfl
  · show _ < 64
    simp
    omega
theorem b11_ok (d : Dc) (n p : Nat) (row : List Int) : SG (lawS P w K mg base) [.no, .ow (dT d), .sh (.lst (ss.map sqT)), a3, a4, a5, .sh (.lst (row.map T.int)), a7, a8, a9, a10, .sh (.int (n : Nat)), .sh (.lst ((runsL row).map T.int)), x13, x14, .sh (.int (p : Nat)), .no, .no, .no, .no, .no, .no, .no, .sh (.lst ((lineD n).map sqT)), .no, .no, .no] (bS 10) (.nx [.no, .ow (dT (drawnE d)), .sh (.lst (ss.map sqT)), a3, a4, a5, .sh (.lst (row.map T.int)), a7, a8, a9, a10, .sh (.int (n : Nat)), .sh (.lst ((runsL row).map T.int)), x13, x14, .sh (.int (p : Nat)), .no, .no, .no, .no, .no, .no, .sh (.lst ((drawnD d).map T.int)), .sh (.lst ((lineD n).map sqT)), .no, .no, .no]) := by
  have q := roll_lt d (m := 3) (by decide)
  refine sg_nx (LcD.setC (m := 22) (lcT (toT := fun k : Nat => T.int (0 + (k : Int))) (f := T.int) (g := g3) (Ev := fun d' => [.no, .ow (dT d'), .sh (.lst (ss.map sqT)), a3, a4, a5, .sh (.lst (row.map T.int)), a7, a8, a9, a10, .sh (.int (n : Nat)), .sh (.lst ((runsL row).map T.int)), x13, x14, .sh (.int (p : Nat)), .no, .no, .no, .no, .no, .no, .no, .sh (.lst ((lineD n).map sqT)), .no, .no, .no]) (xs := List.range (roll d 3).1.toNat) (i := 24) (roll d 3).2 (by walk_at "bk") (by walk_at "nd") (by walk_at "so") (fun _ => by walk_at "ln") (fun _ _ => rfl) (by walk_at "no") (by rw [List.length_range]; omega) (ig_range (by walk_at "gl") T_.nRange (eg_roll T_ (i := 1) rfl rfl rfl rfl rfl (by walk_at "lv") (by walk_at "vo") (by walk_at "gl") rfl eg_int ⟨by decide, by decide⟩) (by omega)) fun k _ s => ?_) (by walk_at "so") rfl (by walk_at "ln")) rfl
  exact eg_add eg_int (eg_roll T_ (i := 1) rfl rfl rfl rfl rfl (by walk_at "lv") (by walk_at "vo") (by walk_at "gl") rfl eg_int ⟨by decide, by decide⟩)
theorem b12_ok (d : Dc) (n p : Nat) (row drawn : List Int) (h1 : ∀ x ∈ drawn, 1 ≤ x) : SG (lawS P w K mg base) [.no, .ow (dT d), .sh (.lst (ss.map sqT)), a3, a4, a5, .sh (.lst (row.map T.int)), a7, a8, a9, a10, .sh (.int (n : Nat)), .sh (.lst ((runsL row).map T.int)), x13, x14, .sh (.int (p : Nat)), .no, .no, .no, .no, .no, .no, .sh (.lst (drawn.map T.int)), .sh (.lst ((lineD n).map sqT)), .no, .no, .no] (bS 11) (.nx [.no, .ow (dT d), .sh (.lst (ss.map sqT)), a3, a4, a5, .sh (.lst (row.map T.int)), a7, a8, a9, a10, .sh (.int (n : Nat)), .sh (.lst ((runsL row).map T.int)), x13, x14, .sh (.int (p : Nat)), .sh (.bl (fits n drawn)), .no, .no, .no, .no, .no, .sh (.lst (drawn.map T.int)), .sh (.lst ((lineD n).map sqT)), .no, .no, .no]) := by
  rw [fits_eq h1]
  refine sg_nx (sg_setP (i := 16) (by walk_at "so") (eg_to (pg_le (pg_add (eg_sum (bs := drawn) rfl (by walk_at "gl") T_.nSum (eg_sh (i := 22) (by walk_at "vo") rfl)) (eg_max2 (by walk_at "gl") T_.nMax eg_int (pg_sub (eg_len .lst (by walk_at "gl") T_.nLen (eg_sh (i := 22) (by walk_at "vo") rfl)) eg_int))) (eg_sh (i := 11) (by walk_at "vo") rfl)) (by rw [List.length_map]) rfl) (by walk_at "ln")) rfl
end
end K02
end Cw
end L2

set_option Elab.async false
set_option linter.all false
set_option maxRecDepth 100000
set_option maxHeartbeats 4000000
namespace L2
namespace Cw
namespace K02
open PySem PySem.Spec PyProof.Rows
local macro_rules | `(tactic| walk_at "vo") => `(tactic| exact ⟨rfl, by first | exact .inl rfl | exact .inr (.inl rfl) | exact .inr (.inr rfl), by decide, by decide⟩)
local macro_rules | `(tactic| walk_at "gl") => `(tactic| exact ⟨rfl, by decide⟩)
local macro_rules | `(tactic| walk_at "nd") => `(tactic| (dsimp only [SS.blk, defP]; decide +kernel))
local macro_rules | `(tactic| walk_at "so") => `(tactic| exact ⟨by walk_at "nd", rfl, by first | exact .inl rfl | exact .inr rfl, by first | exact .inl rfl | exact .inr rfl, by first | (dsimp only [SS.blk, defP, pins]; decide) | (simp [SS.blk, defP, pins, isOw, List.range_succ]; done)⟩)
local macro_rules | `(tactic| walk_at "bk") => `(tactic| exact blkOk_by (by walk_at "nd"))
local macro_rules | `(tactic| walk_at "ln") => `(tactic| (simp; done))
local macro_rules | `(tactic| walk_at "no") => `(tactic| (intro t; simp; done))
local macro_rules | `(tactic| walk_at "lv") => `(tactic| (dsimp only [SS.blk, defP]; decide))
local macro_rules | `(tactic| walk_at "sc") => `(tactic| exact ⟨rfl, rfl, rfl, by decide +kernel, rfl, by decide +kernel, by decide +kernel⟩)
/- a name's value -/
local macro_rules | `(tactic| walk_at "v") => `(tactic| first
  | exact eg_sh (i := 0) (by walk_at "vo") rfl | exact eg_sh (i := 1) (by walk_at "vo") rfl | exact eg_sh (i := 2) (by walk_at "vo") rfl | exact eg_sh (i := 3) (by walk_at "vo") rfl
  | exact eg_sh (i := 4) (by walk_at "vo") rfl | exact eg_sh (i := 5) (by walk_at "vo") rfl | exact eg_sh (i := 6) (by walk_at "vo") rfl | exact eg_sh (i := 7) (by walk_at "vo") rfl)

section
variable {P : Program} {w : World} {K : PySem.W.Frag} {mg : Str → Option Value} {base : Heap} (T_ : Tx K mg)
def madeT (n : Nat) (drawn : List Int) : T := if fits n drawn = true then RS.tree T_ (.runs (lineD n) drawn) else .str "rule"
theorem owl_of {E : List Ent} (h : ∀ e ∈ E, isOw e = true → ∃ ts, e = .ow (.lst ts)) : OwL E := fun i t e => by
  obtain ⟨ts, z⟩ := h _ (List.mem_of_getElem? e) rfl
  cases z
  exact ⟨ts, rfl⟩
include T_
variable (ss : List Sq) (a3 a4 a5 a7 a8 a9 a10 x13 x14 : Ent)
theorem b13_ok {q : Str} {c D : Addr} (TB : LamX.TabB base mg c D) (hno : ∀ a ∈ [a3, a4, a5, a7, a8, a9, a10, x13, x14], isOw a = false) (d : Dc) (n p : Nat) (h1 : 1 ≤ n) (hn : n ≤ 5) (row drawn : List Int) (hd : drawn.length ≤ 2) :
    LG (lawS P w K mg base) (LawF c q) [(D, q)] [.no, .ow (dT d), .sh (.lst (ss.map sqT)), a3, a4, a5, .sh (.lst (row.map T.int)), a7, a8, a9, a10, .sh (.int (n : Nat)), .sh (.lst ((runsL row).map T.int)), x13, x14, .sh (.int (p : Nat)), .sh (.bl (fits n drawn)), .no, .no, .no, .no, .no, .sh (.lst (drawn.map T.int)), .sh (.lst ((lineD n).map sqT)), .no, .no, .no] (bS 12) (.nx [.no, .ow (dT d), .sh (.lst (ss.map sqT)), a3, a4, a5, .sh (.lst (row.map T.int)), a7, a8, a9, a10, .sh (.int (n : Nat)), .sh (.lst ((runsL row).map T.int)), x13, x14, .sh (.int (p : Nat)), .sh (.bl (fits n drawn)), .sh (madeT T_ n drawn), .no, .no, .no, .no, .sh (.lst (drawn.map T.int)), .sh (.lst ((lineD n).map sqT)), .no, .no, .no]) := by
  obtain ⟨lo, ll⟩ := lineD_ok h1
  have ow : OwL [.no, .ow (dT d), .sh (.lst (ss.map sqT)), a3, a4, a5, .sh (.lst (row.map T.int)), a7, a8, a9, a10, .sh (.int (n : Nat)), .sh (.lst ((runsL row).map T.int)), x13, x14, .sh (.int (p : Nat)), .sh (.bl (fits n drawn)), .no, .no, .no, .no, .no, .sh (.lst (drawn.map T.int)), .sh (.lst ((lineD n).map sqT)), .no, .no, .no] := owl_of fun e he ho => by
    simp only [List.mem_cons, List.not_mem_nil, or_false] at he hno
    rcases he with rfl | rfl | rfl | he
    · cases ho
    · exact ⟨_, rfl⟩
    · cases ho
    · exfalso
      have : isOw e = false := by
        rcases he with rfl | rfl | rfl | rfl | rfl | rfl | rfl | rfl | rfl | rfl | rfl | rfl | rfl | rfl | rfl | rfl | rfl | rfl | rfl | rfl | rfl | rfl | rfl | rfl <;> first | rfl | (apply hno; simp)
      rw [this] at ho
      cases ho
  refine lg_nx (lg_set (i := 17) (t := madeT T_ n drawn) (by walk_at "so") (el_told (k := 6) T_.told.F (by walk_at "gl") T_.told.mgf T_.told.bd sc31 rfl (.inl rfl) rfl (hds31 T_) TB (by walk_at "lv") (LamX.lamS_by (by show LamX.lamSB (defScope (top 35)) _ = true; decide +kernel)) (fun _ => rfl) (fun _ _ _ _ _ => rfl) ow ?_) (by walk_at "ln")) rfl
  unfold madeT
  by_cases hf : fits n drawn = true
  · rw [if_pos hf]
    exact .ret (eg_make T_.cRuns.makes (by walk_at "gl") T_.cRuns.mgC T_.cRuns.init.bd (runs_init T_ (lineD n) drawn (.inl rfl) lo (by omega) (by rw [ll]; exact hf) (by omega)) (by walk_at "lv") (pas_cons (eg_sh (i := 23) (by walk_at "vo") rfl) (pas_cons (eg_sh (i := 22) (by walk_at "vo") rfl) eas_nil)))
  · rw [if_neg hf]
    exact .exc (ex_make T_.cRuns.makes (by walk_at "gl") T_.cRuns.mgC T_.cRuns.init.bd (runs_initX T_ (lineD n) drawn (.inl rfl) lo (by omega) (by rw [ll]; simpa using hf) (by omega)) (by walk_at "lv") (pas_cons (eg_sh (i := 23) (by walk_at "vo") rfl) (pas_cons (eg_sh (i := 22) (by walk_at "vo") rfl) eas_nil))) (caught T_)
end
end K02
end Cw
end L2

set_option Elab.async false
set_option linter.all false
set_option maxRecDepth 100000
set_option maxHeartbeats 4000000
namespace L2
namespace Cw
namespace K02
open PySem PySem.Spec PyProof.Rows
local macro_rules | `(tactic| walk_at "vo") => `(tactic| exact ⟨rfl, by first | exact .inl rfl | exact .inr (.inl rfl) | exact .inr (.inr rfl), by decide, by decide⟩)
local macro_rules | `(tactic| walk_at "gl") => `(tactic| exact ⟨rfl, by decide⟩)
local macro_rules | `(tactic| walk_at "nd") => `(tactic| (dsimp only [SS.blk, defP]; decide +kernel))
local macro_rules | `(tactic| walk_at "so") => `(tactic| exact ⟨by walk_at "nd", rfl, by first | exact .inl rfl | exact .inr rfl, by first | exact .inl rfl | exact .inr rfl, by first | (dsimp only [SS.blk, defP, pins]; decide) | (simp [SS.blk, defP, pins, isOw, List.range_succ]; done)⟩)
local macro_rules | `(tactic| walk_at "bk") => `(tactic| exact blkOk_by (by walk_at "nd"))
local macro_rules | `(tactic| walk_at "ln") => `(tactic| (simp; done))
local macro_rules | `(tactic| walk_at "no") => `(tactic| (intro t; simp; done))
local macro_rules | `(tactic| walk_at "lv") => `(tactic| (dsimp only [SS.blk, defP]; decide))
local macro_rules | `(tactic| walk_at "sc") => `(tactic| exact ⟨rfl, rfl, rfl, by decide +kernel, rfl, by decide +kernel, by decide +kernel⟩)
/- a name's value -/
local macro_rules | `(tactic| walk_at "v") => `(tactic| first
  | exact eg_sh (i := 0) (by walk_at "vo") rfl | exact eg_sh (i := 1) (by walk_at "vo") rfl | exact eg_sh (i := 2) (by walk_at "vo") rfl | exact eg_sh (i := 3) (by walk_at "vo") rfl
  | exact eg_sh (i := 4) (by walk_at "vo") rfl | exact eg_sh (i := 5) (by walk_at "vo") rfl | exact eg_sh (i := 6) (by walk_at "vo") rfl | exact eg_sh (i := 7) (by walk_at "vo") rfl)

section
variable {S : SS} {E E1 E2 : List Ent} {a b : Expr} {ns : List Int} {pos : Pos}
theorem reps_iv {K : PySem.W.Frag} {Z : Hp} : ∀ {ns : List Int} {vs : List V}, Reps K Z (ns.map T.int) vs → vs = ns.map V.int
  | [], vs, h => h.unnil
  | n :: ns, vs, h => by
    obtain ⟨v, r, rfl, h1, h2⟩ := h.uncons
    rw [rep_int.mp h1, reps_iv h2]
    rfl
theorem flat_ints : ∀ ns : List Int, (ns.map V.int).all flatV = true
  | [] => rfl
  | n :: ns => by rw [List.map_cons, List.all_cons, flat_ints ns]; rfl
theorem in_ints : ∀ ns : List Int, inV .non (ns.map V.int) = false
  | [] => rfl
  | n :: ns => by
    have := in_ints ns
    unfold inV at this ⊢
    rw [List.map_cons, List.any_cons, this]
    rfl
/-- None isn't in a tuple of ints -/
theorem tt_ninNT (ha : EG S E a .non E1) (hb : EG S E1 b (.tup (ns.map T.int)) E2) (hm : behindInMarks .NotIn b = false := by with_unfolding_all rfl) : TtG S E (.Compare a [.NotIn] [b] pos) true E2 :=
  tg_cmp (r := rIn S.K true) (fun W X hX => by rw [← hX.kk]; exact op_notIn_seq) (fun E Z H σ v u Q st r1 r2 k => by
    obtain ⟨p, us, rfl, h1, h2⟩ := rep_tup.mp r2
    rw [rep_non.mp r1]
    refine ⟨p, us, rfl, .inr (Same_tup st.zh (.inl (.inl h1))), rfl, by rw [reps_iv h2]; exact flat_ints ns, ?_⟩
    rw [reps_iv h2, in_ints]
    exact k _ _ _ (Go.refl st) (rep_bl.mpr rfl)) ha hb hm
end
section
variable {P : Program} {w : World} {K : PySem.W.Frag} {mg : Str → Option Value} {base : Heap} (T_ : Tx K mg)
/-- may, asked of a tuple -/
theorem runs_mayT (ss : List Sq) (rs row : List Int) (few : row.length < 64) : Gives P w K mg base 3 T_.cRuns.mayF.f T_.cRuns.mayF.fd ["self", "values"] [RS.tree T_ (.runs ss rs), tupI row] (.bl (decide (runsL row = rs))) := by
  have s1 : teq (.tup ((runsL row).map T.int)) (.tup (rs.map T.int)) = decide (runsL row = rs) := enc_int.tup.eq _ _
  rw [← s1]
  exact gives_p [.sh (RS.tree T_ (.runs ss rs)), .sh (tupI row)] T_.cRuns.mayF.F sc17m rfl rfl (sgr_ifT (d := true) rfl (tt_ninNT (ns := row) eg_non (eg_sh (i := 1) (by walk_at "vo") rfl)) (sgr_ret (pg_eq (n := 1) (enc_int.tup.ok _) (enc_int.tup.ok _) (eg_fn (T_.runs_of.ok rfl rfl) (by walk_at "gl") (runs_of_ok T_ (q := .tup (row.map T.int)) row .tup (by omega)) (by walk_at "lv") (pas_cons (eg_sh (i := 1) (by walk_at "vo") rfl) eas_nil)) (eg_fld T_.cRuns.cl T_.nRuns (da_sh (eg_sh (i := 0) (by walk_at "vo") rfl)) rfl))))
include T_ in
theorem eg_mayT {S : SS} {E : List Ent} {e e2 : Expr} {apos pos : Pos} {ss : List Sq} {rs row : List Int} (hP : S.P = P) (hw : S.w = w) (hK : S.K = K) (hm : S.mg = mg) (hB : S.base = base) (hk : 3 ≤ S.k) (ho : EG S E e (RS.tree T_ (.runs ss rs)) E) (ha : EG S E e2 (tupI row) E) (few : row.length < 64)
    (he : ∀ env, starEach [e2] env = (false, eval e2 env) :: starEach [] env := by intro _; rfl) (hc : MCall e "may" apos [e2] pos := by intro _; exact ⟨_, rfl⟩) : EG S E (.Call (.Attribute e "may" apos) [e2] [] pos) (.bl (decide (runsL row = rs))) E := by
  subst hP hw hK hm hB
  exact eg_meth T_.cRuns.cl T_.cRuns.mmay (by simp; decide) T_.cRuns.mayF.bd ho (eas_cons ha eas_nil he) (runs_mayT T_ ss rs row few) hk hc he
end
end K02
end Cw
end L2

set_option Elab.async false
set_option linter.all false
set_option maxRecDepth 100000
set_option maxHeartbeats 4000000
namespace L2
namespace Cw
namespace K02
open PySem PySem.Spec PyProof.Rows
local macro_rules | `(tactic| walk_at "vo") => `(tactic| exact ⟨rfl, by first | exact .inl rfl | exact .inr (.inl rfl) | exact .inr (.inr rfl), by decide, by decide⟩)
local macro_rules | `(tactic| walk_at "gl") => `(tactic| exact ⟨rfl, by decide⟩)
local macro_rules | `(tactic| walk_at "nd") => `(tactic| (dsimp only [SS.blk, defP]; decide +kernel))
local macro_rules | `(tactic| walk_at "so") => `(tactic| exact ⟨by walk_at "nd", rfl, by first | exact .inl rfl | exact .inr rfl, by first | exact .inl rfl | exact .inr rfl, by first | (dsimp only [SS.blk, defP, pins]; decide) | (simp [SS.blk, defP, pins, isOw, List.range_succ]; done)⟩)
local macro_rules | `(tactic| walk_at "bk") => `(tactic| exact blkOk_by (by walk_at "nd"))
local macro_rules | `(tactic| walk_at "ln") => `(tactic| (simp; done))
local macro_rules | `(tactic| walk_at "no") => `(tactic| (intro t; simp; done))
local macro_rules | `(tactic| walk_at "lv") => `(tactic| (dsimp only [SS.blk, defP]; decide))
local macro_rules | `(tactic| walk_at "sc") => `(tactic| exact ⟨rfl, rfl, rfl, by decide +kernel, rfl, by decide +kernel, by decide +kernel⟩)
/- a name's value -/
local macro_rules | `(tactic| walk_at "v") => `(tactic| first
  | exact eg_sh (i := 0) (by walk_at "vo") rfl | exact eg_sh (i := 1) (by walk_at "vo") rfl | exact eg_sh (i := 2) (by walk_at "vo") rfl | exact eg_sh (i := 3) (by walk_at "vo") rfl
  | exact eg_sh (i := 4) (by walk_at "vo") rfl | exact eg_sh (i := 5) (by walk_at "vo") rfl | exact eg_sh (i := 6) (by walk_at "vo") rfl | exact eg_sh (i := 7) (by walk_at "vo") rfl)

def goodR (n : Nat) (drawn : List Int) : List (List Int) := (allL [0, 1] n).filter fun one => decide (runsL one = drawn)
theorem few01 {n : Nat} (h : n ≤ 5) : (allL [0, 1] n).length ≤ 16777216 := Nat.le_trans (allL_few (m := n) (n := 5) (by decide) (by decide) h) (by decide)
def g5 (d : Dc) (_ : Nat) : Int × Dc := roll d 5
def valsD (d : Dc) : List Int := (thr g5 (List.range (roll d 6).1.toNat) (roll d 6).2).1
def valsE (d : Dc) : Dc := (thr g5 (List.range (roll d 6).1.toNat) (roll d 6).2).2
theorem valsD_ok (d : Dc) : (valsD d).length ≤ 5 ∧ ∀ x ∈ valsD d, 0 ≤ x := by
  have q := roll_lt d (m := 6) (by decide)
  refine ⟨by unfold valsD; rw [thr_len, List.length_range]; omega, thr_all (p := fun x => 0 ≤ x) (fun s a => ?_) _ _⟩
  exact (roll_lt s (m := 5) (by decide)).1
section
variable {P : Program} {w : World} {K : PySem.W.Frag} {mg : Str → Option Value} {base : Heap} (T_ : Tx K mg)
include T_
variable (ss : List Sq) (a3 a4 a5 a7 a8 a9 a10 x13 x14 : Ent)
theorem b14_ok (ne : NoEq K T_.cRuns.C) (d : Dc) (n p : Nat) (row drawn : List Int) : SG (lawS P w K mg base) [.no, .ow (dT d), .sh (.lst (ss.map sqT)), a3, a4, a5, .sh (.lst (row.map T.int)), a7, a8, a9, a10, .sh (.int (n : Nat)), .sh (.lst ((runsL row).map T.int)), x13, x14, .sh (.int (p : Nat)), .sh (.bl (fits n drawn)), .sh (madeT T_ n drawn), .no, .no, .no, .no, .sh (.lst (drawn.map T.int)), .sh (.lst ((lineD n).map sqT)), .no, .no, .no] (bS 13) (.nx [.no, .ow (dT d), .sh (.lst (ss.map sqT)), a3, a4, a5, .sh (.lst (row.map T.int)), a7, a8, a9, a10, .sh (.int (n : Nat)), .sh (.lst ((runsL row).map T.int)), x13, x14, .sh (.int (p : Nat)), .sh (.bl (fits n drawn)), .sh (madeT T_ n drawn), .no, .no, .no, .no, .sh (.lst (drawn.map T.int)), .sh (.lst ((lineD n).map sqT)), .no, .no, .no]) := by
  have hd : (!teq (.bl (!fits n drawn)) (.bl (!fits n drawn))) = false := by rw [enc_bl.eq]; simp
  refine sg_ifFn hd (tt_ne (n := 0) ?_ (eg_notV (eg_sh (i := 16) (by walk_at "vo") rfl)) trivial trivial)
  have hv : EG (lawS P w K mg base) [.no, .ow (dT d), .sh (.lst (ss.map sqT)), a3, a4, a5, .sh (.lst (row.map T.int)), a7, a8, a9, a10, .sh (.int (n : Nat)), .sh (.lst ((runsL row).map T.int)), x13, x14, .sh (.int (p : Nat)), .sh (.bl (fits n drawn)), .sh (madeT T_ n drawn), .no, .no, .no, .no, .sh (.lst (drawn.map T.int)), .sh (.lst ((lineD n).map sqT)), .no, .no, .no] (.Name "made_now" ⟨260, 12, 260, 20⟩) (madeT T_ n drawn) [.no, .ow (dT d), .sh (.lst (ss.map sqT)), a3, a4, a5, .sh (.lst (row.map T.int)), a7, a8, a9, a10, .sh (.int (n : Nat)), .sh (.lst ((runsL row).map T.int)), x13, x14, .sh (.int (p : Nat)), .sh (.bl (fits n drawn)), .sh (madeT T_ n drawn), .no, .no, .no, .no, .sh (.lst (drawn.map T.int)), .sh (.lst ((lineD n).map sqT)), .no, .no, .no] := (eg_sh (i := 17) (by walk_at "vo") rfl)
  by_cases hf : fits n drawn = true
  · rw [show madeT T_ n drawn = RS.tree T_ (.runs (lineD n) drawn) from if_pos hf] at hv ⊢
    rw [hf] at hv ⊢
    exact eg_eqIS hv eg_str ne
  · rw [show madeT T_ n drawn = .str "rule" from if_neg hf] at hv ⊢
    have e : T.bl (!fits n drawn) = .bl (teq (.str "rule") (.str "rule")) := by
      rw [teq_str]
      simp [show fits n drawn = false by simpa using hf]
    rw [e]
    exact pg_eq (n := 0) (by decide +kernel : PyData.strOk "rule" = true) (by decide +kernel : PyData.strOk "rule" = true) hv eg_str
def fitBody : List Stmt := match bS 14 with | .If _ b _ _ => b | _ => []
def fS (i : Nat) : Stmt := fitBody.getD i (.Pass ⟨0, 0, 0, 0⟩)
omit T_ in
theorem dummy_ : True := trivial
theorem f1_ok (d : Dc) (n p : Nat) (hn : n ≤ 5) (row drawn : List Int) : SG (lawS P w K mg base) [.no, .ow (dT d), .sh (.lst (ss.map sqT)), a3, a4, a5, .sh (.lst (row.map T.int)), a7, a8, a9, a10, .sh (.int (n : Nat)), .sh (.lst ((runsL row).map T.int)), x13, x14, .sh (.int (p : Nat)), .sh (.bl true), .sh (RS.tree T_ (.runs (lineD n) drawn)), .no, .no, .no, .no, .sh (.lst (drawn.map T.int)), .sh (.lst ((lineD n).map sqT)), .no, .no, .no] (fS 0) (.nx [.no, .ow (dT d), .sh (.lst (ss.map sqT)), a3, a4, a5, .sh (.lst (row.map T.int)), a7, a8, a9, a10, .sh (.int (n : Nat)), .sh (.lst ((runsL row).map T.int)), x13, x14, .sh (.int (p : Nat)), .sh (.bl true), .sh (RS.tree T_ (.runs (lineD n) drawn)), .sh (.lst ((goodR n drawn).map tupI)), .no, .no, .no, .sh (.lst (drawn.map T.int)), .sh (.lst ((lineD n).map sqT)), .no, .no, .no]) := by
  refine sg_nx (LcD.setC (m := 18) (E2 := [.no, .ow (dT d), .sh (.lst (ss.map sqT)), a3, a4, a5, .sh (.lst (row.map T.int)), a7, a8, a9, a10, .sh (.int (n : Nat)), .sh (.lst ((runsL row).map T.int)), x13, x14, .sh (.int (p : Nat)), .sh (.bl true), .sh (RS.tree T_ (.runs (lineD n) drawn)), .no, .no, .no, .no, .sh (.lst (drawn.map T.int)), .sh (.lst ((lineD n).map sqT)), .no, .no, .no]) (us := (goodR n drawn).map tupI) (lcNF (α := List Int) (toT := tupI) (f := tupI) (b := fun one => decide (runsL one = drawn)) (xs := allL [0, 1] n) (i := 25) (by walk_at "bk") (by walk_at "nd") (by walk_at "so") (by walk_at "ln") (by walk_at "no") (few01 hn) (pg_iter .lst (eg_fn (T_.all.ok rfl rfl) (by walk_at "gl") (all_ok T_ [0, 1] n (by decide) (by omega)) (by walk_at "lv") (pas_cons (pg_lst2 eg_int eg_int) (pas_cons (eg_sh (i := 11) (by walk_at "vo") rfl) eas_nil)))) (fun one ho => ?_) fun one _ _ => (eg_sh (i := 25) (by walk_at "vo") rfl)) (by walk_at "so") rfl (by walk_at "ln")) rfl
  have hl : one.length = n := allL_row ho
  have e : teq (.tup ((runsL one).map T.int)) (.tup (drawn.map T.int)) = decide (runsL one = drawn) := enc_int.tup.eq _ _
  rw [← e]
  exact pt_eq (n := 1) (enc_int.tup.ok _) (enc_int.tup.ok _) (eg_fn (T_.runs_of.ok rfl rfl) (by walk_at "gl") (runs_of_ok T_ (q := .tup (one.map T.int)) one .tup (by omega)) (by walk_at "lv") (pas_cons (eg_sh (i := 25) (by walk_at "vo") rfl) eas_nil)) (eg_tupleL (by walk_at "gl") T_.nTuple (eg_sh (i := 22) (by walk_at "vo") rfl))
theorem f2_ok (d : Dc) (n p : Nat) (hn : n ≤ 5) (row drawn : List Int) : SG (lawS P w K mg base) [.no, .ow (dT d), .sh (.lst (ss.map sqT)), a3, a4, a5, .sh (.lst (row.map T.int)), a7, a8, a9, a10, .sh (.int (n : Nat)), .sh (.lst ((runsL row).map T.int)), x13, x14, .sh (.int (p : Nat)), .sh (.bl true), .sh (RS.tree T_ (.runs (lineD n) drawn)), .sh (.lst ((goodR n drawn).map tupI)), .no, .no, .no, .sh (.lst (drawn.map T.int)), .sh (.lst ((lineD n).map sqT)), .no, .no, .no] (fS 1) (.nx [.no, .ow (dT d), .sh (.lst (ss.map sqT)), a3, a4, a5, .sh (.lst (row.map T.int)), a7, a8, a9, a10, .sh (.int (n : Nat)), .sh (.lst ((runsL row).map T.int)), x13, x14, .sh (.int (p : Nat)), .sh (.bl true), .sh (RS.tree T_ (.runs (lineD n) drawn)), .sh (.lst ((goodR n drawn).map tupI)), .no, .no, .no, .sh (.lst (drawn.map T.int)), .sh (.lst ((lineD n).map sqT)), .no, .no, .no]) := by
  have z : (((allL [0, 1] n).filter fun _ => false).map tupI) = [] := by simp
  refine sg_ifFn (d := !teq (.lst (((allL [0, 1] n).filter fun _ => false).map tupI)) (.lst [])) (by rw [z, teq_nilL]; rfl) (pt_ne (n := 2) (enc_tupI.lst.ok _) dok_nilL ?_ pg_lst0)
  refine (lcNF (α := List Int) (toT := tupI) (f := tupI) (b := fun _ => false) (xs := allL [0, 1] n) (i := 25) (by walk_at "bk") (by walk_at "nd") (by walk_at "so") (by walk_at "ln") (by walk_at "no") (few01 hn) (pg_iter .lst (eg_fn (T_.all.ok rfl rfl) (by walk_at "gl") (all_ok T_ [0, 1] n (by decide) (by omega)) (by walk_at "lv") (pas_cons (pg_lst2 eg_int eg_int) (pas_cons (eg_sh (i := 11) (by walk_at "vo") rfl) eas_nil)))) (fun one ho => ?_) fun one _ hb => absurd hb (by decide)).eg
  have hl : one.length = n := allL_row ho
  have e : (!teq (.bl (decide (runsL one = drawn))) (.bl (decide (one ∈ goodR n drawn)))) = false := by
    rw [enc_bl.eq]
    have : decide (one ∈ goodR n drawn) = decide (runsL one = drawn) := by
      unfold goodR
      rw [Bool.eq_iff_iff, decide_eq_true_eq, List.mem_filter]
      exact ⟨fun h => h.2, fun h => ⟨ho, h⟩⟩
    rw [this]
    simp
  rw [← e]
  exact tt_ne (n := 0) (eg_mayT T_ (ss := lineD n) (rs := drawn) (row := one) rfl rfl rfl rfl rfl (by walk_at "lv") (eg_sh (i := 17) (by walk_at "vo") rfl) (eg_sh (i := 25) (by walk_at "vo") rfl) (by omega)) (eg_to (eg_inL (n := 2) (eg_sh (i := 25) (by walk_at "vo") rfl) (eg_sh (i := 18) (by walk_at "vo") rfl) (DOk.up (by decide) (enc_tupI.ok one)) (enc_tupI.in_ _)) (by rw [enc_tupI.any]; exact congrArg T.bl (decide_eq_decide.mpr Iff.rfl)) rfl) trivial trivial
theorem f3_ok (d : Dc) (n p : Nat) (row drawn : List Int) (hl : row.length = n) (hp : p ≤ n) : SG (lawS P w K mg base) [.no, .ow (dT d), .sh (.lst (ss.map sqT)), a3, a4, a5, .sh (.lst (row.map T.int)), a7, a8, a9, a10, .sh (.int (n : Nat)), .sh (.lst ((runsL row).map T.int)), x13, x14, .sh (.int (p : Nat)), .sh (.bl true), .sh (RS.tree T_ (.runs (lineD n) drawn)), .sh (.lst ((goodR n drawn).map tupI)), .no, .no, .no, .sh (.lst (drawn.map T.int)), .sh (.lst ((lineD n).map sqT)), .no, .no, .no] (fS 2) (.nx [.no, .ow (dT d), .sh (.lst (ss.map sqT)), a3, a4, a5, .sh (.lst (row.map T.int)), a7, a8, a9, a10, .sh (.int (n : Nat)), .sh (.lst ((runsL row).map T.int)), x13, x14, .sh (.int (p : Nat)), .sh (.bl true), .sh (RS.tree T_ (.runs (lineD n) drawn)), .sh (.lst ((goodR n drawn).map tupI)), .sh (.lst ((row.take p).map T.int)), .no, .no, .sh (.lst (drawn.map T.int)), .sh (.lst ((lineD n).map sqT)), .no, .no, .no]) := by
  refine sg_nx (sg_setP (i := 19) (t := .lst ((row.take p).map T.int)) (by walk_at "so") (eg_to (eg_sliceL (lo := none) (m := none) (n := some (p : Int)) (eg_sh (i := 6) (by walk_at "vo") rfl) pa_no (pa_so (eg_sh (i := 15) (by walk_at "vo") rfl))) (by rw [cut_take (by rw [List.length_map]; omega), List.map_take]) rfl) (by walk_at "ln")) rfl
theorem f4_ok (d : Dc) (n p : Nat) (h1 : 1 ≤ n) (hn : n ≤ 5) (row drawn : List Int) (hl : row.length = n) (hp : p ≤ n) : SG (lawS P w K mg base) [.no, .ow (dT d), .sh (.lst (ss.map sqT)), a3, a4, a5, .sh (.lst (row.map T.int)), a7, a8, a9, a10, .sh (.int (n : Nat)), .sh (.lst ((runsL row).map T.int)), x13, x14, .sh (.int (p : Nat)), .sh (.bl true), .sh (RS.tree T_ (.runs (lineD n) drawn)), .sh (.lst ((goodR n drawn).map tupI)), .sh (.lst ((row.take p).map T.int)), .no, .no, .sh (.lst (drawn.map T.int)), .sh (.lst ((lineD n).map sqT)), .no, .no, .no] (fS 3) (.nx [.no, .ow (dT d), .sh (.lst (ss.map sqT)), a3, a4, a5, .sh (.lst (row.map T.int)), a7, a8, a9, a10, .sh (.int (n : Nat)), .sh (.lst ((runsL row).map T.int)), x13, x14, .sh (.int (p : Nat)), .sh (.bl true), .sh (RS.tree T_ (.runs (lineD n) drawn)), .sh (.lst ((goodR n drawn).map tupI)), .sh (.lst ((row.take p).map T.int)), .no, .no, .sh (.lst (drawn.map T.int)), .sh (.lst ((lineD n).map sqT)), .no, .no, .no]) := by
  have hd : (decide ((RS.runs (lineD n) drawn).may ((row.take p).map some ++ List.replicate (n - p) none) = false) && !teq (.lst (((goodR n drawn).filter fun one => decide (one.take p = row.take p)).map tupI)) (.lst [])) = false := by
    rw [teq_nilL, List.isEmpty_map]
    cases hg : (goodR n drawn).filter fun one => decide (one.take p = row.take p) with
    | nil => simp
    | cons one rest =>
      have hm : one ∈ (goodR n drawn).filter fun one => decide (one.take p = row.take p) := by rw [hg]; exact List.mem_cons_self
      obtain ⟨m1, m2⟩ := List.mem_filter.mp hm
      obtain ⟨m3, m4⟩ := List.mem_filter.mp m1
      have ol : one.length = n := allL_row m3
      have q := may_begun (lineD n) one (p := p) (by omega)
      rw [of_decide_eq_true m4, of_decide_eq_true m2, ol] at q
      rw [q]
      rfl
  have e : ((n : Int) - (p : Int)) = ((n - p : Nat) : Int) := by omega
  refine sg_ifFn hd (tg_w (wg_and (tt_isB (eg_may T_ (r := .runs (lineD n) drawn) (vs := (row.take p).map some ++ List.replicate (n - p) none) rfl rfl rfl rfl rfl (by walk_at "lv") (eg_sh (i := 17) (by walk_at "vo") rfl) ?_ ?_) eg_bl) fun _ => wg_and1 (pt_ne (n := 2) (enc_tupI.lst.ok _) dok_nilL ?_ pg_lst0)))
  · refine eg_to (eg_catL (ts := ((row.take p).map some).map ov) (us := (List.replicate (n - p) (none : Option Int)).map ov) (eg_to (eg_sh (i := 19) (by walk_at "vo") rfl) (by rw [List.map_map]; rfl) rfl) (eg_to (eg_repL (ts := [T.non]) (n := ((n - p : Nat) : Int)) (pg_lst1 eg_non) (by rw [← e]; exact pg_sub (eg_sh (i := 11) (by walk_at "vo") rfl) (eg_sh (i := 15) (by walk_at "vo") rfl)) (by omega) (by rw [Int.toNat_natCast]; show 1 * _ ≤ _; omega)) (by rw [repN]) rfl) (by simp; omega)) (by unfold valsT; rw [List.map_append]) rfl
  · show _ < 64
    simp
    omega
  · refine (lcNF (α := List Int) (toT := tupI) (f := tupI) (b := fun one => decide (one.take p = row.take p)) (xs := goodR n drawn) (i := 25) (by walk_at "bk") (by walk_at "nd") (by walk_at "so") (by walk_at "ln") (by walk_at "no") (Nat.le_trans (List.length_filter_le _ _) (few01 hn)) (pg_iter .lst (eg_sh (i := 18) (by walk_at "vo") rfl)) (fun one ho => ?_) fun one _ _ => (eg_sh (i := 25) (by walk_at "vo") rfl)).eg
    have ol : one.length = n := allL_row (List.mem_filter.mp ho).1
    have e2 : teq (.lst ((one.take p).map T.int)) (.lst ((row.take p).map T.int)) = decide (one.take p = row.take p) := enc_int.lst.eq _ _
    rw [← e2]
    exact pt_eq (n := 1) (enc_int.lst.ok _) (enc_int.lst.ok _) (eg_to (eg_listS .tup (by walk_at "gl") T_.nList (eg_sliceT (lo := none) (m := none) (n := some (p : Int)) (eg_sh (i := 25) (by walk_at "vo") rfl) pa_no (pa_so (eg_sh (i := 15) (by walk_at "vo") rfl)))) (by rw [cut_take (by rw [List.length_map]; omega), List.map_take]) rfl) (eg_sh (i := 19) (by walk_at "vo") rfl)
theorem b15_ok (d : Dc) (n p : Nat) (h1 : 1 ≤ n) (hn : n ≤ 5) (row drawn : List Int) (hl : row.length = n) (hp : p ≤ n) : ∃ x18 x19 : Ent, isOw x18 = false ∧ isOw x19 = false ∧ SG (lawS P w K mg base) [.no, .ow (dT d), .sh (.lst (ss.map sqT)), a3, a4, a5, .sh (.lst (row.map T.int)), a7, a8, a9, a10, .sh (.int (n : Nat)), .sh (.lst ((runsL row).map T.int)), x13, x14, .sh (.int (p : Nat)), .sh (.bl (fits n drawn)), .sh (madeT T_ n drawn), .no, .no, .no, .no, .sh (.lst (drawn.map T.int)), .sh (.lst ((lineD n).map sqT)), .no, .no, .no] (bS 14) (.nx [.no, .ow (dT d), .sh (.lst (ss.map sqT)), a3, a4, a5, .sh (.lst (row.map T.int)), a7, a8, a9, a10, .sh (.int (n : Nat)), .sh (.lst ((runsL row).map T.int)), x13, x14, .sh (.int (p : Nat)), .sh (.bl (fits n drawn)), .sh (madeT T_ n drawn), x18, x19, .no, .no, .sh (.lst (drawn.map T.int)), .sh (.lst ((lineD n).map sqT)), .no, .no, .no]) := by
  by_cases hf : fits n drawn = true
  · have em : madeT T_ n drawn = RS.tree T_ (.runs (lineD n) drawn) := if_pos hf
    rw [em, hf]
    exact ⟨.sh (.lst ((goodR n drawn).map tupI)), .sh (.lst ((row.take p).map T.int)), rfl, rfl, sg_ifT (d := true) rfl (tg_val (eg_sh (i := 16) (by walk_at "vo") rfl)) (sgs_cons (f1_ok T_ ss a3 a4 a5 a7 a8 a9 a10 x13 x14 d n p hn row drawn) (sgs_cons (f2_ok T_ ss a3 a4 a5 a7 a8 a9 a10 x13 x14 d n p hn row drawn) (sgs_cons (f3_ok T_ ss a3 a4 a5 a7 a8 a9 a10 x13 x14 d n p row drawn hl hp) (sgs_one (f4_ok T_ ss a3 a4 a5 a7 a8 a9 a10 x13 x14 d n p h1 hn row drawn hl hp)))))⟩
  · exact ⟨.no, .no, rfl, rfl, sg_ifFn (d := fits n drawn) (by simpa using hf) (tg_val (eg_sh (i := 16) (by walk_at "vo") rfl))⟩
variable (x18 x19 : Ent)
theorem b16_ok (d : Dc) (n p : Nat) (row drawn : List Int) : SG (lawS P w K mg base) [.no, .ow (dT d), .sh (.lst (ss.map sqT)), a3, a4, a5, .sh (.lst (row.map T.int)), a7, a8, a9, a10, .sh (.int (n : Nat)), .sh (.lst ((runsL row).map T.int)), x13, x14, .sh (.int (p : Nat)), .sh (.bl (fits n drawn)), .sh (madeT T_ n drawn), x18, x19, .no, .no, .sh (.lst (drawn.map T.int)), .sh (.lst ((lineD n).map sqT)), .no, .no, .no] (bS 15) (.nx [.no, .ow (dT (valsE d)), .sh (.lst (ss.map sqT)), a3, a4, a5, .sh (.lst (row.map T.int)), a7, a8, a9, a10, .sh (.int (n : Nat)), .sh (.lst ((runsL row).map T.int)), x13, x14, .sh (.int (p : Nat)), .sh (.bl (fits n drawn)), .sh (madeT T_ n drawn), x18, x19, .sh (.lst ((valsD d).map T.int)), .no, .sh (.lst (drawn.map T.int)), .sh (.lst ((lineD n).map sqT)), .no, .no, .no]) := by
  have q := roll_lt d (m := 6) (by decide)
  refine sg_nx (LcD.setC (m := 20) (lcT (toT := fun k : Nat => T.int (0 + (k : Int))) (f := T.int) (g := g5) (Ev := fun d' => [.no, .ow (dT d'), .sh (.lst (ss.map sqT)), a3, a4, a5, .sh (.lst (row.map T.int)), a7, a8, a9, a10, .sh (.int (n : Nat)), .sh (.lst ((runsL row).map T.int)), x13, x14, .sh (.int (p : Nat)), .sh (.bl (fits n drawn)), .sh (madeT T_ n drawn), x18, x19, .no, .no, .sh (.lst (drawn.map T.int)), .sh (.lst ((lineD n).map sqT)), .no, .no, .no]) (xs := List.range (roll d 6).1.toNat) (i := 24) (roll d 6).2 (by walk_at "bk") (by walk_at "nd") (by walk_at "so") (fun _ => by walk_at "ln") (fun _ _ => rfl) (by walk_at "no") (by rw [List.length_range]; omega) (ig_range (by walk_at "gl") T_.nRange (eg_roll T_ (i := 1) rfl rfl rfl rfl rfl (by walk_at "lv") (by walk_at "vo") (by walk_at "gl") rfl eg_int ⟨by decide, by decide⟩) (by omega)) fun k _ s => ?_) (by walk_at "so") rfl (by walk_at "ln")) rfl
  exact (eg_roll T_ (i := 1) rfl rfl rfl rfl rfl (by walk_at "lv") (by walk_at "vo") (by walk_at "gl") rfl eg_int ⟨by decide, by decide⟩)
theorem b17_ok (d : Dc) (n p : Nat) (row drawn vals : List Int) (hl : vals.length ≤ 5) (h0 : ∀ x ∈ vals, 0 ≤ x) : SG (lawS P w K mg base) [.no, .ow (dT d), .sh (.lst (ss.map sqT)), a3, a4, a5, .sh (.lst (row.map T.int)), a7, a8, a9, a10, .sh (.int (n : Nat)), .sh (.lst ((runsL row).map T.int)), x13, x14, .sh (.int (p : Nat)), .sh (.bl (fits n drawn)), .sh (madeT T_ n drawn), x18, x19, .sh (.lst (vals.map T.int)), .no, .sh (.lst (drawn.map T.int)), .sh (.lst ((lineD n).map sqT)), .no, .no, .no] (bS 16) (.nx [.no, .ow (dT d), .sh (.lst (ss.map sqT)), a3, a4, a5, .sh (.lst (row.map T.int)), a7, a8, a9, a10, .sh (.int (n : Nat)), .sh (.lst ((runsL row).map T.int)), x13, x14, .sh (.int (p : Nat)), .sh (.bl (fits n drawn)), .sh (madeT T_ n drawn), x18, x19, .sh (.lst (vals.map T.int)), .no, .sh (.lst (drawn.map T.int)), .sh (.lst ((lineD n).map sqT)), .no, .no, .no]) := by
  have hd : (!teq (.int (topsN vals : Nat)) (.int (((List.range vals.length).filter (risesB vals)).map fun k : Nat => T.int (0 + (k : Int))).length)) = false := by
    rw [List.length_map, rises_tops h0, enc_int.eq]
    simp
  exact sg_ifFn hd (pt_ne (n := 0) (t := .int (topsN vals : Nat)) (u := .int (((List.range vals.length).filter (risesB vals)).map fun k : Nat => T.int (0 + (k : Int))).length) trivial trivial (eg_fn (T_.tops.ok rfl rfl) (by walk_at "gl") (tops_ok T_ vals (by omega)) (by walk_at "lv") (pas_cons (eg_sh (i := 20) (by walk_at "vo") rfl) eas_nil)) (eg_len .lst (by walk_at "gl") T_.nLen (rises_eg (iv := 20) (ik := 24) (by omega) (by walk_at "bk") (by walk_at "nd") (by walk_at "so") (by walk_at "ln") (by walk_at "no") (by walk_at "vo") (by walk_at "vo") (by walk_at "vo") rfl (by decide) (by walk_at "gl") (by walk_at "gl") (by walk_at "gl") T_.nLen T_.nRange T_.nMax)))
end
end K02
end Cw
end L2

set_option Elab.async false
set_option linter.all false
set_option maxRecDepth 100000
set_option maxHeartbeats 4000000
namespace L2
namespace Cw
namespace K02
open PySem PySem.Spec PyProof.Rows
local macro_rules | `(tactic| walk_at "vo") => `(tactic| exact ⟨rfl, by first | exact .inl rfl | exact .inr (.inl rfl) | exact .inr (.inr rfl), by decide, by decide⟩)
local macro_rules | `(tactic| walk_at "gl") => `(tactic| exact ⟨rfl, by decide⟩)
local macro_rules | `(tactic| walk_at "nd") => `(tactic| (dsimp only [SS.blk, defP]; decide +kernel))
local macro_rules | `(tactic| walk_at "so") => `(tactic| exact ⟨by walk_at "nd", rfl, by first | exact .inl rfl | exact .inr rfl, by first | exact .inl rfl | exact .inr rfl, by first | (dsimp only [SS.blk, defP, pins]; decide) | (simp [SS.blk, defP, pins, isOw, List.range_succ]; done)⟩)
local macro_rules | `(tactic| walk_at "bk") => `(tactic| exact blkOk_by (by walk_at "nd"))
local macro_rules | `(tactic| walk_at "ln") => `(tactic| (simp; done))
local macro_rules | `(tactic| walk_at "no") => `(tactic| (intro t; simp; done))
local macro_rules | `(tactic| walk_at "lv") => `(tactic| (dsimp only [SS.blk, defP]; decide))
local macro_rules | `(tactic| walk_at "sc") => `(tactic| exact ⟨rfl, rfl, rfl, by decide +kernel, rfl, by decide +kernel, by decide +kernel⟩)
/- a name's value -/
local macro_rules | `(tactic| walk_at "v") => `(tactic| first
  | exact eg_sh (i := 0) (by walk_at "vo") rfl | exact eg_sh (i := 1) (by walk_at "vo") rfl | exact eg_sh (i := 2) (by walk_at "vo") rfl | exact eg_sh (i := 3) (by walk_at "vo") rfl
  | exact eg_sh (i := 4) (by walk_at "vo") rfl | exact eg_sh (i := 5) (by walk_at "vo") rfl | exact eg_sh (i := 6) (by walk_at "vo") rfl | exact eg_sh (i := 7) (by walk_at "vo") rfl)

def owOk : Ent → Bool
  | .ow (.lst _) => true
  | .ow _ => false
  | _ => true
theorem owOk_n : owOk .no = true := rfl
theorem owOk_s (t : T) : owOk (.sh t) = true := rfl
theorem owOk_d (d : Dc) : owOk (.ow (dT d)) = true := rfl
theorem owOk_no {e : Ent} (h : isOw e = false) : owOk e = true := by
  cases e with
  | ow t => cases h
  | _ => rfl
theorem owl_all {E : List Ent} (h : E.all owOk = true) : OwL E := fun i t e => by
  have := List.all_eq_true.mp h _ (List.mem_of_getElem? e)
  cases t <;> first | exact ⟨_, rfl⟩ | cases this
section
variable {P : Program} {w : World} {K : PySem.W.Frag} {mg : Str → Option Value} {base : Heap} (T_ : Tx K mg)
theorem body_all : lawBody = [bS 0, bS 1, bS 2, bS 3, bS 4, bS 5, bS 6, bS 7, bS 8, bS 9, bS 10, bS 11, bS 12, bS 13, bS 14, bS 15, bS 16] := rfl
include T_ in
theorem turn_ok {q : Str} {c D : Addr} (TB : LamX.TabB base mg c D) (ne : NoEq K T_.cRuns.C) (d : Dc) : ∃ E2, LGs (lawS P w K mg base) (LawF c q) [(D, q)] ((List.replicate 27 Ent.no).set 1 (.ow (dT d))) lawBody (.nx E2) ∧ OwL E2 ∧ E2.length = 27 ∧ ∀ t, E2[26]? ≠ some (.ow t) := by
  rw [body_all]
  obtain ⟨nd, l2, l4⟩ := spotsD_ok d
  obtain ⟨E1, s2, a3, a4, a5, a7, a8, a9, a10, rfl, hno⟩ := b2_ok T_ (P := P) (w := w) (base := base) (spotsD d) (roll d 3).2 nd l2 l4
  have s1 := b1_ok T_ (P := P) (w := w) (base := base) d
  generalize spotsD d = ss at s1 s2
  generalize (roll d 3).2 = d1 at s1 s2
  generalize List.foldl (fun d r => diceR r d) (rulesD ss d1) (drawnRules ss d1) = d2 at s2
  have hno' : ∀ a ∈ [a3, a4, a5, a7, a8, a9, a10], owOk a = true := fun a ha => owOk_no (hno a ha)
  have o3 : owOk a3 = true := hno' _ (by simp)
  have o4 : owOk a4 = true := hno' _ (by simp)
  have o5 : owOk a5 = true := hno' _ (by simp)
  have o7 : owOk a7 = true := hno' _ (by simp)
  have o8 : owOk a8 = true := hno' _ (by simp)
  have o9 : owOk a9 = true := hno' _ (by simp)
  have o10 : owOk a10 = true := hno' _ (by simp)
  have s3 := b3_ok T_ (P := P) (w := w) (base := base) ss a3 a4 a5 a7 a8 a9 a10 d2
  obtain ⟨n1, n5⟩ := sizeD_ok d2
  generalize sizeD d2 = n at s3 n1 n5
  generalize (roll d2 5).2 = d3 at s3
  have s4 := b4_ok T_ (P := P) (w := w) (base := base) ss a3 a4 a5 a7 a8 a9 a10 d3 n n5
  obtain ⟨rl, r01⟩ := rowD_ok n d3
  generalize rowD n d3 = row at s4 rl r01
  generalize (thr g2 (List.range n) d3).2 = d4 at s4
  have s5 := b5_ok T_ (P := P) (w := w) (base := base) ss a3 a4 a5 a7 a8 a9 a10 d4 n row
  obtain ⟨x13, x14, q13, q14, s6⟩ := b6_ok T_ (P := P) (w := w) (base := base) ss a3 a4 a5 a7 a8 a9 a10 d4 n row rl n5 r01
  have o13 := owOk_no q13
  have o14 := owOk_no q14
  have s7 := b7_ok T_ (P := P) (w := w) (base := base) ss a3 a4 a5 a7 a8 a9 a10 x13 x14 d4 n n5 row
  have s8 := b8_ok T_ (P := P) (w := w) (base := base) ss a3 a4 a5 a7 a8 a9 a10 x13 x14 d4 n n1 n5 row rl
  have s9 := b9_ok T_ (P := P) (w := w) (base := base) ss a3 a4 a5 a7 a8 a9 a10 x13 x14 d4 n n1 n5 row
  have hp : (roll d4 ((n : Int) + 1)).1.toNat ≤ n := by
    have := roll_lt d4 (m := (n : Int) + 1) (by omega)
    omega
  generalize (roll d4 ((n : Int) + 1)).1.toNat = p at s9 hp
  generalize (roll d4 ((n : Int) + 1)).2 = d5 at s9
  have s10 := b10_ok T_ (P := P) (w := w) (base := base) ss a3 a4 a5 a7 a8 a9 a10 x13 x14 d5 n p n1 n5 hp row rl
  have s11 := b11_ok T_ (P := P) (w := w) (base := base) ss a3 a4 a5 a7 a8 a9 a10 x13 x14 d5 n p row
  obtain ⟨dl, dp⟩ := drawnD_ok d5
  generalize drawnD d5 = drawn at s11 dl dp
  generalize drawnE d5 = d6 at s11
  have s12 := b12_ok T_ (P := P) (w := w) (base := base) ss a3 a4 a5 a7 a8 a9 a10 x13 x14 d6 n p row drawn dp
  have s13 := b13_ok T_ (P := P) (w := w) ss a3 a4 a5 a7 a8 a9 a10 x13 x14 (q := q) TB (by
    intro a ha
    simp only [List.mem_cons, List.not_mem_nil, or_false] at ha
    rcases ha with rfl | rfl | rfl | rfl | rfl | rfl | rfl | rfl | rfl <;> first | assumption | (apply hno; simp)) d6 n p n1 n5 row drawn dl
  have s14 := b14_ok T_ (P := P) (w := w) (base := base) ss a3 a4 a5 a7 a8 a9 a10 x13 x14 ne d6 n p row drawn
  obtain ⟨x18, x19, q18, q19, s15⟩ := b15_ok T_ (P := P) (w := w) (base := base) ss a3 a4 a5 a7 a8 a9 a10 x13 x14 d6 n p n1 n5 row drawn rl hp
  have o18 := owOk_no q18
  have o19 := owOk_no q19
  have s16 := b16_ok T_ (P := P) (w := w) (base := base) ss a3 a4 a5 a7 a8 a9 a10 x13 x14 x18 x19 d6 n p row drawn
  obtain ⟨vl, v0⟩ := valsD_ok d6
  generalize valsD d6 = vals at s16 vl v0
  generalize valsE d6 = d7 at s16
  have s17 := b17_ok T_ (P := P) (w := w) (base := base) ss a3 a4 a5 a7 a8 a9 a10 x13 x14 x18 x19 d7 n p row drawn vals vl v0
  refine ⟨_, lgs_cons (lg_of s1 (owl_all (by rfl))) (lgs_cons (lg_of s2 (owl_all (by simp only [RE, List.all_cons, List.all_nil, owOk_d, owOk_n, owOk_s, o3, o4, o5, o7, o8, o9, o10, Bool.and_self]))) (lgs_cons (lg_of s3 (owl_all (by simp only [RE, List.all_cons, List.all_nil, owOk_d, owOk_n, owOk_s, o3, o4, o5, o7, o8, o9, o10, Bool.and_self]))) (lgs_cons (lg_of s4 (owl_all (by simp only [RE, List.all_cons, List.all_nil, owOk_d, owOk_n, owOk_s, o3, o4, o5, o7, o8, o9, o10, Bool.and_self]))) (lgs_cons (lg_of s5 (owl_all (by simp only [RE, List.all_cons, List.all_nil, owOk_d, owOk_n, owOk_s, o3, o4, o5, o7, o8, o9, o10, Bool.and_self]))) (lgs_cons (lg_of s6 (owl_all (by simp only [RE, List.all_cons, List.all_nil, owOk_d, owOk_n, owOk_s, o3, o4, o5, o7, o8, o9, o10, Bool.and_self]))) (lgs_cons (lg_of s7 (owl_all (by simp only [RE, List.all_cons, List.all_nil, owOk_d, owOk_n, owOk_s, o3, o4, o5, o7, o8, o9, o10, o13, o14, Bool.and_self]))) (lgs_cons (lg_of s8 (owl_all (by simp only [RE, List.all_cons, List.all_nil, owOk_d, owOk_n, owOk_s, o3, o4, o5, o7, o8, o9, o10, o13, o14, Bool.and_self]))) (lgs_cons (lg_of s9 (owl_all (by simp only [RE, List.all_cons, List.all_nil, owOk_d, owOk_n, owOk_s, o3, o4, o5, o7, o8, o9, o10, o13, o14, Bool.and_self]))) (lgs_cons (lg_of s10 (owl_all (by simp only [RE, List.all_cons, List.all_nil, owOk_d, owOk_n, owOk_s, o3, o4, o5, o7, o8, o9, o10, o13, o14, Bool.and_self]))) (lgs_cons (lg_of s11 (owl_all (by simp only [RE, List.all_cons, List.all_nil, owOk_d, owOk_n, owOk_s, o3, o4, o5, o7, o8, o9, o10, o13, o14, Bool.and_self]))) (lgs_cons (lg_of s12 (owl_all (by simp only [RE, List.all_cons, List.all_nil, owOk_d, owOk_n, owOk_s, o3, o4, o5, o7, o8, o9, o10, o13, o14, Bool.and_self]))) (lgs_cons s13 (lgs_cons (lg_of s14 (owl_all (by simp only [RE, List.all_cons, List.all_nil, owOk_d, owOk_n, owOk_s, o3, o4, o5, o7, o8, o9, o10, o13, o14, Bool.and_self]))) (lgs_cons (lg_of s15 (owl_all (by simp only [RE, List.all_cons, List.all_nil, owOk_d, owOk_n, owOk_s, o3, o4, o5, o7, o8, o9, o10, o13, o14, Bool.and_self]))) (lgs_cons (lg_of s16 (owl_all (by simp only [RE, List.all_cons, List.all_nil, owOk_d, owOk_n, owOk_s, o3, o4, o5, o7, o8, o9, o10, o13, o14, o18, o19, Bool.and_self]))) (lgs_cons (lg_of s17 (owl_all (by simp only [RE, List.all_cons, List.all_nil, owOk_d, owOk_n, owOk_s, o3, o4, o5, o7, o8, o9, o10, o13, o14, o18, o19, Bool.and_self]))) lgs_nil)))))))))))))))), (owl_all (by simp only [RE, List.all_cons, List.all_nil, owOk_d, owOk_n, owOk_s, o3, o4, o5, o7, o8, o9, o10, o13, o14, o18, o19, Bool.and_self])), rfl, by intro t h; cases h⟩
end
end K02
end Cw
end L2

set_option Elab.async false
set_option linter.all false
set_option maxRecDepth 100000
set_option maxHeartbeats 4000000
namespace L2
namespace Cw
namespace K02
open PySem PySem.Spec PyProof.Rows
local macro_rules | `(tactic| walk_at "vo") => `(tactic| exact ⟨rfl, by first | exact .inl rfl | exact .inr (.inl rfl) | exact .inr (.inr rfl), by decide, by decide⟩)
local macro_rules | `(tactic| walk_at "gl") => `(tactic| exact ⟨rfl, by decide⟩)
local macro_rules | `(tactic| walk_at "nd") => `(tactic| (dsimp only [SS.blk, defP]; decide +kernel))
local macro_rules | `(tactic| walk_at "so") => `(tactic| exact ⟨by walk_at "nd", rfl, by first | exact .inl rfl | exact .inr rfl, by first | exact .inl rfl | exact .inr rfl, by first | (dsimp only [SS.blk, defP, pins]; decide) | (simp [SS.blk, defP, pins, isOw, List.range_succ]; done)⟩)
local macro_rules | `(tactic| walk_at "bk") => `(tactic| exact blkOk_by (by walk_at "nd"))
local macro_rules | `(tactic| walk_at "ln") => `(tactic| (simp; done))
local macro_rules | `(tactic| walk_at "no") => `(tactic| (intro t; simp; done))
local macro_rules | `(tactic| walk_at "lv") => `(tactic| (dsimp only [SS.blk, defP]; decide))
local macro_rules | `(tactic| walk_at "sc") => `(tactic| exact ⟨rfl, rfl, rfl, by decide +kernel, rfl, by decide +kernel, by decide +kernel⟩)
/- a name's value -/
local macro_rules | `(tactic| walk_at "v") => `(tactic| first
  | exact eg_sh (i := 0) (by walk_at "vo") rfl | exact eg_sh (i := 1) (by walk_at "vo") rfl | exact eg_sh (i := 2) (by walk_at "vo") rfl | exact eg_sh (i := 3) (by walk_at "vo") rfl
  | exact eg_sh (i := 4) (by walk_at "vo") rfl | exact eg_sh (i := 5) (by walk_at "vo") rfl | exact eg_sh (i := 6) (by walk_at "vo") rfl | exact eg_sh (i := 7) (by walk_at "vo") rfl)

section
variable {P : Program} {w : World} {K : PySem.W.Frag} {mg : Str → Option Value} {base : Heap} (T_ : Tx K mg)
def diceC (c : Int) : Dc := ((diceL c).getD 0 0, (diceL c).getD 1 0, (diceL c).getD 2 0)
theorem diceC_T (c : Int) : dT (diceC c) = .lst ((diceL c).map T.int) := by
  unfold diceC diceL dT
  split <;> rfl
theorem law_all : defBody (top 35) = .For (match (defBody (top 35)).getD 0 (.Pass ⟨0, 0, 0, 0⟩) with | .For t _ _ _ _ => t | _ => .Constant .none 0 ⟨0, 0, 0, 0⟩) (match (defBody (top 35)).getD 0 (.Pass ⟨0, 0, 0, 0⟩) with | .For _ i _ _ _ => i | _ => .Constant .none 0 ⟨0, 0, 0, 0⟩) lawBody [] (match (defBody (top 35)).getD 0 (.Pass ⟨0, 0, 0, 0⟩) with | .For _ _ _ _ p => p | _ => ⟨0, 0, 0, 0⟩) :: (defBody (top 35)).drop 1 := rfl
include T_ in
theorem law_ok {q : Str} {c D : Addr} (TB : LamX.TabB base mg c D) (ne : NoEq K T_.cRuns.C) (ns : List Int) : ∃ E', LGs (lawS P w K mg base) (LawF c q) [(D, q)] (.sh (.slst (ns.map T.int)) :: List.replicate 26 Ent.no) (defBody (top 35)) (.ret (.bl true) E') := by
  obtain ⟨E2, h1, h2, h3, h4⟩ := turn_ok T_ (P := P) (w := w) (q := q) TB ne (diceC (ns.headD 0))
  obtain ⟨E', t1⟩ := tail_ok T_ (P := P) (w := w) (q := q) TB h2 h3 h4
  rw [diceC_T] at h1
  rw [law_all]
  refine ⟨E', lgs_forOwn (n := 27) (i := 1) (ns := diceL (ns.headD 0)) (E1 := .sh (.slst (ns.map T.int)) :: List.replicate 26 Ent.no) ?_ (owl_all (by rfl)) (by simp) (by walk_at "so") (by decide) h1 t1⟩
  exact eg_fn (T_.rounds.ok rfl rfl) (by walk_at "gl") (rounds_ok T_ ns) (by walk_at "lv") (pas_cons (eg_sh (i := 0) (by walk_at "vo") rfl) (pas_cons eg_int eas_nil))
end
end K02
end Cw
end L2

set_option Elab.async false
set_option linter.all false
set_option maxRecDepth 100000
set_option maxHeartbeats 4000000
namespace L2
namespace Cw
namespace K02
open PySem PySem.Spec PyProof.Rows
local macro_rules | `(tactic| walk_at "vo") => `(tactic| exact ⟨rfl, by first | exact .inl rfl | exact .inr (.inl rfl) | exact .inr (.inr rfl), by decide, by decide⟩)
local macro_rules | `(tactic| walk_at "gl") => `(tactic| exact ⟨rfl, by decide⟩)
local macro_rules | `(tactic| walk_at "nd") => `(tactic| (dsimp only [SS.blk, defP]; decide +kernel))
local macro_rules | `(tactic| walk_at "so") => `(tactic| exact ⟨by walk_at "nd", rfl, by first | exact .inl rfl | exact .inr rfl, by first | exact .inl rfl | exact .inr rfl, by first | (dsimp only [SS.blk, defP, pins]; decide) | (simp [SS.blk, defP, pins, isOw, List.range_succ]; done)⟩)
local macro_rules | `(tactic| walk_at "bk") => `(tactic| exact blkOk_by (by walk_at "nd"))
local macro_rules | `(tactic| walk_at "ln") => `(tactic| (simp; done))
local macro_rules | `(tactic| walk_at "no") => `(tactic| (intro t; simp; done))
local macro_rules | `(tactic| walk_at "lv") => `(tactic| (dsimp only [SS.blk, defP]; decide))
local macro_rules | `(tactic| walk_at "sc") => `(tactic| exact ⟨rfl, rfl, rfl, by decide +kernel, rfl, by decide +kernel, by decide +kernel⟩)
/- a name's value -/
local macro_rules | `(tactic| walk_at "v") => `(tactic| first
  | exact eg_sh (i := 0) (by walk_at "vo") rfl | exact eg_sh (i := 1) (by walk_at "vo") rfl | exact eg_sh (i := 2) (by walk_at "vo") rfl | exact eg_sh (i := 3) (by walk_at "vo") rfl
  | exact eg_sh (i := 4) (by walk_at "vo") rfl | exact eg_sh (i := 5) (by walk_at "vo") rfl | exact eg_sh (i := 6) (by walk_at "vo") rfl | exact eg_sh (i := 7) (by walk_at "vo") rfl)

section
variable {P : Program} {w : World} {K : PySem.W.Frag} {mg : Str → Option Value} (T_ : Tx K mg)
def lawQ : Str := (("law" : Str) ++ (".<locals>." : Str)) ++ ("<lambda>" : Str)
/-- what the law is called with, and that it gives True -/
def spLaw (K : PySem.W.Frag) (D : Addr) : Sp := fun vs H Q _ => ∃ (a : Addr) (ns : List Int), vs = [.ref a] ∧ H D = some (.tbl #[]) ∧ SqL K H a (ns.map V.int) ∧ ∀ v H', v = V.bl true → Q v H'
theorem reps_ns {Z : Hp} : ∀ ns : List Int, Reps K Z (ns.map T.int) (ns.map V.int)
  | [] => .nil
  | n :: ns => .cons (rep_int.mpr rfl) (reps_ns ns)
theorem seq_frozen {H : Hp} {a : Addr} {xs : List V} (h : SqL K H a xs) : ∃ Z : Hp, Same Z H ∧ (∀ b ps, Z b ≠ some (.tbl ps)) ∧ SqL K Z a xs := by
  have one : ∀ u : HO, H a = some u → Same (upd (fun _ => none) a u) H := fun u e b v z => by
    by_cases hb : b = a
    · subst hb; rw [upd_same] at z; rw [e]; exact z
    · rw [upd_ne hb] at z; cases z
  have nt : ∀ u : HO, (∀ ps, u ≠ .tbl ps) → ∀ b ps, upd (fun _ => none) a u b ≠ some (.tbl ps) := fun u hu b ps z => by
    by_cases hb : b = a
    · subst hb; rw [upd_same] at z; exact hu ps (Option.some.inj z)
    · rw [upd_ne hb] at z; cases z
  obtain (h | ⟨o, h⟩) | h := h
  · exact ⟨_, one _ h, nt _ (fun ps z => by cases z), .inl (.inl upd_same)⟩
  · exact ⟨_, one _ h, nt _ (fun ps z => by cases z), .inl (.inr ⟨o, upd_same⟩)⟩
  · refine ⟨fun _ => none, ?_, ?_, .inr h⟩
    · intro b v z
      cases z
    · intro b ps z
      cases z
/-- the law's own record: its code object stands at c -/
structure LawA (K : PySem.W.Frag) (st : Stmt) (f : Addr) (fd : FuncData) (c : Addr) : Prop where
  ex : ∃ (oc : Value) (od : Option Addr) (dV kV doc pm : Value) (an : Option Addr) (ct : Value) (osl : Array (Option Value)),
    fd = PySem.W.fnOf "law" "law" (defArgs st) (defBody st) (defScope st) dV kV doc pm an (.ref c) ct ∧ K.lookup f = some ⟨oc, od, .func fd, osl⟩ ∧ PySem.W.codeIn K (.ref c) "law" = true
include T_ in
theorem law_fn {base : Heap} {fa c D : Addr} {fd : FuncData} (F : LawA K (top 35) fa fd c) (TB : LamX.TabB base mg c D) (ne : NoEq K T_.cRuns.C) : FnOk P w K mg base (L2.CX P w) 9 fa fd ["script"] (spLaw K D) := by
  obtain ⟨oc, od, dV, kV, doc, pm, an, ct, osl, rfl, lk, hcd⟩ := F.ex
  refine fn_of (k := 8) lk hcd sc35 (fun vs H Q E h => ?_) (fun A outer s H vs Q Ex hr h => ?_)
  · obtain ⟨a, ns, rfl, _⟩ := h
    rfl
  obtain ⟨a, ns, rfl, hD, hS, hQ⟩ := h
  obtain ⟨E', hl⟩ := law_ok T_ (P := P) (w := w) (q := lawQ) TB ne ns
  obtain ⟨Z, zz, nt, hz⟩ := seq_frozen hS
  refine ⟨RLs (lawS P w K mg base) (LawF c lawQ) (fun cls d _ H => Ex cls d H) (defBody (top 35)), ⟨fun pins s' σ H' D I q => q _ ⟨⟨_, _, _, _, _, _, _, _, _, rfl⟩, hr, rfl, takes_of rfl rfl rfl rfl, passes_of rfl⟩ ⟨rfl, by unfold lawQ; dsimp only [cxOf, envOfC]⟩ pins s' I⟩, ?_⟩
  refine hl _ Z H _ _ ⟨zz, nt, rfl, fun i t h => ?_, fun i t h => ?_, fun i j b t u h1 _ _ _ => ?_⟩ (fun p hp => ?_) fun v Z' H' r _ => hQ v H' (rep_bl.mp r)
  · match i with
    | 0 =>
      cases h
      exact ⟨.ref a, rfl, rep_slst.mpr ⟨a, _, rfl, hz, reps_ns ns⟩⟩
    | i + 1 =>
      rw [List.getElem?_cons_succ, List.getElem?_replicate] at h
      split at h <;> cases h
  · match i with
    | 0 => cases h
    | i + 1 =>
      rw [List.getElem?_cons_succ, List.getElem?_replicate] at h
      split at h <;> cases h
  · match i with
    | 0 => cases h1
    | i + 1 =>
      rw [List.getElem?_cons_succ, List.getElem?_replicate] at h1
      split at h1 <;> cases h1
  · cases List.mem_singleton.mp hp
    exact LamX.TabS.nil hD
theorem law_at {l : PySem.W.OpenLaw} {w : World} {h : Heap} {fa c D : Addr} {fd : FuncData} (T_ : Tx K mg) (ne : NoEq K T_.cRuns.C) (F : LawA K (top 35) fa fd c) (hb : ∀ (s : Shared) (u : Value), BindsTo s fd ⟨[u], []⟩ [("script", u)]) (hT : h.get? D = some { cls := .none, data := .fields #[] }) (nT : K.lookup D = none) (hC : PySem.W.CodeHd h c D) :
    LamX.LawAtS l w K (L2.CX l.prog w) 9 63 "script" mg fa h := by
  refine ⟨fd, [(c, D)], spLaw K D, fun p hp => ?_, fun p hp => ?_, fun p hp => ?_, hb, fun H a ns _ _ ht hS => ⟨a, ns, rfl, ht (c, D) List.mem_cons_self, hS, fun v H' e => e⟩, fun base _ _ tb => law_fn T_ F (tb (c, D) List.mem_cons_self) ne⟩
  · cases List.mem_singleton.mp hp; exact hT
  · cases List.mem_singleton.mp hp; exact nT
  · cases List.mem_singleton.mp hp; exact hC
end
end K02
end Cw
end L2

set_option Elab.async false
set_option linter.all false
set_option maxRecDepth 100000
set_option maxHeartbeats 8000000
namespace L2
namespace Cw
namespace K02
open PySem PySem.Spec PyProof.Rows
theorem all_mk {l : PySem.W.OpenLaw} {w : World} {K : PySem.W.Frag} {h : Heap} {mg : Str → Option Value} {fa f19 f20 f21 f22 f23 f24 f25 f27 f28 f29 f30 f31 f32 f33 f34 C12 f12m0 f12m1 f12m2 C13 f13m0 f13m1 f13m2 C14 f14m0 f14m1 f14m2 C15 f15m0 f15m1 f15m2 C16 f16m0 f16m1 f16m2 C17 f17m0 f17m1 f17m2 C18 f18m0 f18m1 f18m2 CR ESquare EStep EPaper ESize EText EStore ENoWay ENoSuch f35 cc DD : Addr} (X : K.In h) (G : h.Ns mainGlobals mg) (hfa : mg "law" = some (.ref fa))
    {od19 an19 od20 an20 od21 an21 od22 an22 od23 an23 od24 an24 od25 an25 od27 an27 od28 an28 od29 an29 od30 an30 od31 an31 od32 an32 od33 an33 od34 an34 od12m0 an12m0 od12m1 an12m1 od12m2 an12m2 od13m0 an13m0 od13m1 an13m1 od13m2 an13m2 od14m0 an14m0 od14m1 an14m1 od14m2 an14m2 od15m0 an15m0 od15m1 an15m1 od15m2 an15m2 od16m0 an16m0 od16m1 an16m1 od16m2 an16m2 od17m0 an17m0 od17m1 an17m1 od17m2 an17m2 od18m0 an18m0 od18m1 an18m1 od18m2 an18m2 od35 an35 : Option Addr} {sl19 sl20 sl21 sl22 sl23 sl24 sl25 sl27 sl28 sl29 sl30 sl31 sl32 sl33 sl34 sl12m0 sl12m1 sl12m2 sl13m0 sl13m1 sl13m2 sl14m0 sl14m1 sl14m2 sl15m0 sl15m1 sl15m2 sl16m0 sl16m1 sl16m2 sl17m0 sl17m1 sl17m2 sl18m0 sl18m1 sl18m2 sl35 : Array (Option Value)} {oc19 kV19 dc19 pm19 cd19 ct19 oc20 kV20 dc20 pm20 cd20 ct20 oc21 kV21 dc21 pm21 cd21 ct21 oc22 kV22 dc22 pm22 cd22 ct22 oc23 kV23 dc23 pm23 cd23 ct23 oc24 kV24 dc24 pm24 cd24 ct24 oc25 kV25 dc25 pm25 cd25 ct25 oc27 kV27 dc27 pm27 cd27 ct27 oc28 kV28 dc28 pm28 cd28 ct28 oc29 kV29 dc29 pm29 cd29 ct29 oc30 kV30 dc30 pm30 cd30 ct30 oc31 kV31 dc31 pm31 cd31 ct31 oc32 kV32 dc32 pm32 cd32 ct32 oc33 kV33 dc33 pm33 cd33 ct33 oc34 kV34 dc34 pm34 cd34 ct34 oc12m0 kV12m0 dc12m0 pm12m0 cd12m0 ct12m0 oc12m1 kV12m1 dc12m1 pm12m1 cd12m1 ct12m1 oc12m2 kV12m2 dc12m2 pm12m2 cd12m2 ct12m2 oc13m0 kV13m0 dc13m0 pm13m0 cd13m0 ct13m0 oc13m1 kV13m1 dc13m1 pm13m1 cd13m1 ct13m1 oc13m2 kV13m2 dc13m2 pm13m2 cd13m2 ct13m2 oc14m0 kV14m0 dc14m0 pm14m0 cd14m0 ct14m0 oc14m1 kV14m1 dc14m1 pm14m1 cd14m1 ct14m1 oc14m2 kV14m2 dc14m2 pm14m2 cd14m2 ct14m2 oc15m0 kV15m0 dc15m0 pm15m0 cd15m0 ct15m0 oc15m1 kV15m1 dc15m1 pm15m1 cd15m1 ct15m1 oc15m2 kV15m2 dc15m2 pm15m2 cd15m2 ct15m2 oc16m0 kV16m0 dc16m0 pm16m0 cd16m0 ct16m0 oc16m1 kV16m1 dc16m1 pm16m1 cd16m1 ct16m1 oc16m2 kV16m2 dc16m2 pm16m2 cd16m2 ct16m2 oc17m0 kV17m0 dc17m0 pm17m0 cd17m0 ct17m0 oc17m1 kV17m1 dc17m1 pm17m1 cd17m1 ct17m1 oc17m2 kV17m2 dc17m2 pm17m2 cd17m2 ct17m2 oc18m0 kV18m0 dc18m0 pm18m0 cd18m0 ct18m0 oc18m1 kV18m1 dc18m1 pm18m1 cd18m1 ct18m1 oc18m2 kV18m2 dc18m2 pm18m2 cd18m2 ct18m2 oc35 kV35 dc35 pm35 ct35 : Value}
    (a19 : PySem.W.nsIn K mainGlobals "check_spots" = some (some (.ref f19)))
    (l19 : K.lookup f19 = some ⟨oc19, od19, .func (PySem.W.fnOf "check_spots" "check_spots" (defArgs (top 19)) (defBody (top 19)) (defScope (top 19)) .none kV19 dc19 pm19 an19 cd19 ct19), sl19⟩)
    (c19 : PySem.W.codeIn K cd19 "check_spots" = true)
    (k19 : PySem.W.keepIn K (.ref f19) = true)
    (a20 : PySem.W.nsIn K mainGlobals "known_of" = some (some (.ref f20)))
    (l20 : K.lookup f20 = some ⟨oc20, od20, .func (PySem.W.fnOf "known_of" "known_of" (defArgs (top 20)) (defBody (top 20)) (defScope (top 20)) .none kV20 dc20 pm20 an20 cd20 ct20), sl20⟩)
    (c20 : PySem.W.codeIn K cd20 "known_of" = true)
    (k20 : PySem.W.keepIn K (.ref f20) = true)
    (a21 : PySem.W.nsIn K mainGlobals "ahead_of_unknown" = some (some (.ref f21)))
    (l21 : K.lookup f21 = some ⟨oc21, od21, .func (PySem.W.fnOf "ahead_of_unknown" "ahead_of_unknown" (defArgs (top 21)) (defBody (top 21)) (defScope (top 21)) .none kV21 dc21 pm21 an21 cd21 ct21), sl21⟩)
    (c21 : PySem.W.codeIn K cd21 "ahead_of_unknown" = true)
    (k21 : PySem.W.keepIn K (.ref f21) = true)
    (a22 : PySem.W.nsIn K mainGlobals "tops" = some (some (.ref f22)))
    (l22 : K.lookup f22 = some ⟨oc22, od22, .func (PySem.W.fnOf "tops" "tops" (defArgs (top 22)) (defBody (top 22)) (defScope (top 22)) .none kV22 dc22 pm22 an22 cd22 ct22), sl22⟩)
    (c22 : PySem.W.codeIn K cd22 "tops" = true)
    (k22 : PySem.W.keepIn K (.ref f22) = true)
    (a23 : PySem.W.nsIn K mainGlobals "runs_of" = some (some (.ref f23)))
    (l23 : K.lookup f23 = some ⟨oc23, od23, .func (PySem.W.fnOf "runs_of" "runs_of" (defArgs (top 23)) (defBody (top 23)) (defScope (top 23)) .none kV23 dc23 pm23 an23 cd23 ct23), sl23⟩)
    (c23 : PySem.W.codeIn K cd23 "runs_of" = true)
    (k23 : PySem.W.keepIn K (.ref f23) = true)
    (a24 : PySem.W.nsIn K mainGlobals "may_begin_with" = some (some (.ref f24)))
    (l24 : K.lookup f24 = some ⟨oc24, od24, .func (PySem.W.fnOf "may_begin_with" "may_begin_with" (defArgs (top 24)) (defBody (top 24)) (defScope (top 24)) .none kV24 dc24 pm24 an24 cd24 ct24), sl24⟩)
    (c24 : PySem.W.codeIn K cd24 "may_begin_with" = true)
    (k24 : PySem.W.keepIn K (.ref f24) = true)
    (a25 : PySem.W.nsIn K mainGlobals "kept" = some (some (.ref f25)))
    (l25 : K.lookup f25 = some ⟨oc25, od25, .func (PySem.W.fnOf "kept" "kept" (defArgs (top 25)) (defBody (top 25)) (defScope (top 25)) .none kV25 dc25 pm25 an25 cd25 ct25), sl25⟩)
    (c25 : PySem.W.codeIn K cd25 "kept" = true)
    (k25 : PySem.W.keepIn K (.ref f25) = true)
    (a27 : PySem.W.nsIn K mainGlobals "_law_flat" = some (some (.ref f27)))
    (l27 : K.lookup f27 = some ⟨oc27, od27, .func (PySem.W.fnOf "_law_flat" "_law_flat" (defArgs (top 27)) (defBody (top 27)) (defScope (top 27)) .none kV27 dc27 pm27 an27 cd27 ct27), sl27⟩)
    (c27 : PySem.W.codeIn K cd27 "_law_flat" = true)
    (k27 : PySem.W.keepIn K (.ref f27) = true)
    (a28 : PySem.W.nsIn K mainGlobals "_law_dice" = some (some (.ref f28)))
    (l28 : K.lookup f28 = some ⟨oc28, od28, .func (PySem.W.fnOf "_law_dice" "_law_dice" (defArgs (top 28)) (defBody (top 28)) (defScope (top 28)) .none kV28 dc28 pm28 an28 cd28 ct28), sl28⟩)
    (c28 : PySem.W.codeIn K cd28 "_law_dice" = true)
    (k28 : PySem.W.keepIn K (.ref f28) = true)
    (a29 : PySem.W.nsIn K mainGlobals "_law_roll" = some (some (.ref f29)))
    (l29 : K.lookup f29 = some ⟨oc29, od29, .func (PySem.W.fnOf "_law_roll" "_law_roll" (defArgs (top 29)) (defBody (top 29)) (defScope (top 29)) .none kV29 dc29 pm29 an29 cd29 ct29), sl29⟩)
    (c29 : PySem.W.codeIn K cd29 "_law_roll" = true)
    (k29 : PySem.W.keepIn K (.ref f29) = true)
    (a30 : PySem.W.nsIn K mainGlobals "_law_rounds" = some (some (.ref f30)))
    (l30 : K.lookup f30 = some ⟨oc30, od30, .func (PySem.W.fnOf "_law_rounds" "_law_rounds" (defArgs (top 30)) (defBody (top 30)) (defScope (top 30)) .none kV30 dc30 pm30 an30 cd30 ct30), sl30⟩)
    (c30 : PySem.W.codeIn K cd30 "_law_rounds" = true)
    (k30 : PySem.W.keepIn K (.ref f30) = true)
    (a31 : PySem.W.nsIn K mainGlobals "_law_told" = some (some (.ref f31)))
    (l31 : K.lookup f31 = some ⟨oc31, od31, .func (PySem.W.fnOf "_law_told" "_law_told" (defArgs (top 31)) (defBody (top 31)) (defScope (top 31)) .none kV31 dc31 pm31 an31 cd31 ct31), sl31⟩)
    (c31 : PySem.W.codeIn K cd31 "_law_told" = true)
    (k31 : PySem.W.keepIn K (.ref f31) = true)
    (a32 : PySem.W.nsIn K mainGlobals "_law_all" = some (some (.ref f32)))
    (l32 : K.lookup f32 = some ⟨oc32, od32, .func (PySem.W.fnOf "_law_all" "_law_all" (defArgs (top 32)) (defBody (top 32)) (defScope (top 32)) .none kV32 dc32 pm32 an32 cd32 ct32), sl32⟩)
    (c32 : PySem.W.codeIn K cd32 "_law_all" = true)
    (k32 : PySem.W.keepIn K (.ref f32) = true)
    (a33 : PySem.W.nsIn K mainGlobals "_law_rules" = some (some (.ref f33)))
    (l33 : K.lookup f33 = some ⟨oc33, od33, .func (PySem.W.fnOf "_law_rules" "_law_rules" (defArgs (top 33)) (defBody (top 33)) (defScope (top 33)) .none kV33 dc33 pm33 an33 cd33 ct33), sl33⟩)
    (c33 : PySem.W.codeIn K cd33 "_law_rules" = true)
    (k33 : PySem.W.keepIn K (.ref f33) = true)
    (a34 : PySem.W.nsIn K mainGlobals "_law_keeps" = some (some (.ref f34)))
    (l34 : K.lookup f34 = some ⟨oc34, od34, .func (PySem.W.fnOf "_law_keeps" "_law_keeps" (defArgs (top 34)) (defBody (top 34)) (defScope (top 34)) .none kV34 dc34 pm34 an34 cd34 ct34), sl34⟩)
    (c34 : PySem.W.codeIn K cd34 "_law_keeps" = true)
    (k34 : PySem.W.keepIn K (.ref f34) = true)
    (g12 : PySem.W.nsIn K mainGlobals "Unlike" = some (some (.ref C12)))
    (pg12 : PySem.W.plainGet K C12 Str.empty = true)
    (hd12 : PySem.W.hasDictIn K C12 = true)
    (po12 : PySem.W.plainOver K C12 = true)
    (sa12 : PySem.W.findIn K (.ref C12) "__setattr__" = some (some (.builtin "object.__setattr__")))
    (mk12 : PySem.W.makesIn K C12 = true)
    (kc12 : PySem.W.keepIn K (.ref C12) = true)
    (ns12 : PySem.W.findIn K (.ref C12) "spots" = some none)
    (a12m0 : PySem.W.findIn K (.ref C12) "__init__" = some (some (.ref f12m0)))
    (i12m0 : PySem.W.isFn K (.ref f12m0) = true)
    (l12m0 : K.lookup f12m0 = some ⟨oc12m0, od12m0, .func (PySem.W.fnOf "__init__" "Unlike.__init__" (defArgs (inClass (top 12) 0)) (defBody (inClass (top 12) 0)) (defScope (inClass (top 12) 0)) .none kV12m0 dc12m0 pm12m0 an12m0 cd12m0 ct12m0), sl12m0⟩)
    (c12m0 : PySem.W.codeIn K cd12m0 "Unlike.__init__" = true)
    (k12m0 : PySem.W.keepIn K (.ref f12m0) = true)
    (a12m1 : PySem.W.findIn K (.ref C12) "may" = some (some (.ref f12m1)))
    (i12m1 : PySem.W.isFn K (.ref f12m1) = true)
    (l12m1 : K.lookup f12m1 = some ⟨oc12m1, od12m1, .func (PySem.W.fnOf "may" "Unlike.may" (defArgs (inClass (top 12) 1)) (defBody (inClass (top 12) 1)) (defScope (inClass (top 12) 1)) .none kV12m1 dc12m1 pm12m1 an12m1 cd12m1 ct12m1), sl12m1⟩)
    (c12m1 : PySem.W.codeIn K cd12m1 "Unlike.may" = true)
    (k12m1 : PySem.W.keepIn K (.ref f12m1) = true)
    (a12m2 : PySem.W.findIn K (.ref C12) "shown" = some (some (.ref f12m2)))
    (i12m2 : PySem.W.isFn K (.ref f12m2) = true)
    (l12m2 : K.lookup f12m2 = some ⟨oc12m2, od12m2, .func (PySem.W.fnOf "shown" "Unlike.shown" (defArgs (inClass (top 12) 2)) (defBody (inClass (top 12) 2)) (defScope (inClass (top 12) 2)) .none kV12m2 dc12m2 pm12m2 an12m2 cd12m2 ct12m2), sl12m2⟩)
    (c12m2 : PySem.W.codeIn K cd12m2 "Unlike.shown" = true)
    (k12m2 : PySem.W.keepIn K (.ref f12m2) = true)
    (g13 : PySem.W.nsIn K mainGlobals "Sum" = some (some (.ref C13)))
    (pg13 : PySem.W.plainGet K C13 Str.empty = true)
    (hd13 : PySem.W.hasDictIn K C13 = true)
    (po13 : PySem.W.plainOver K C13 = true)
    (sa13 : PySem.W.findIn K (.ref C13) "__setattr__" = some (some (.builtin "object.__setattr__")))
    (mk13 : PySem.W.makesIn K C13 = true)
    (kc13 : PySem.W.keepIn K (.ref C13) = true)
    (ns13 : PySem.W.findIn K (.ref C13) "spots" = some none)
    (a13m0 : PySem.W.findIn K (.ref C13) "__init__" = some (some (.ref f13m0)))
    (i13m0 : PySem.W.isFn K (.ref f13m0) = true)
    (l13m0 : K.lookup f13m0 = some ⟨oc13m0, od13m0, .func (PySem.W.fnOf "__init__" "Sum.__init__" (defArgs (inClass (top 13) 0)) (defBody (inClass (top 13) 0)) (defScope (inClass (top 13) 0)) .none kV13m0 dc13m0 pm13m0 an13m0 cd13m0 ct13m0), sl13m0⟩)
    (c13m0 : PySem.W.codeIn K cd13m0 "Sum.__init__" = true)
    (k13m0 : PySem.W.keepIn K (.ref f13m0) = true)
    (a13m1 : PySem.W.findIn K (.ref C13) "may" = some (some (.ref f13m1)))
    (i13m1 : PySem.W.isFn K (.ref f13m1) = true)
    (l13m1 : K.lookup f13m1 = some ⟨oc13m1, od13m1, .func (PySem.W.fnOf "may" "Sum.may" (defArgs (inClass (top 13) 1)) (defBody (inClass (top 13) 1)) (defScope (inClass (top 13) 1)) .none kV13m1 dc13m1 pm13m1 an13m1 cd13m1 ct13m1), sl13m1⟩)
    (c13m1 : PySem.W.codeIn K cd13m1 "Sum.may" = true)
    (k13m1 : PySem.W.keepIn K (.ref f13m1) = true)
    (a13m2 : PySem.W.findIn K (.ref C13) "shown" = some (some (.ref f13m2)))
    (i13m2 : PySem.W.isFn K (.ref f13m2) = true)
    (l13m2 : K.lookup f13m2 = some ⟨oc13m2, od13m2, .func (PySem.W.fnOf "shown" "Sum.shown" (defArgs (inClass (top 13) 2)) (defBody (inClass (top 13) 2)) (defScope (inClass (top 13) 2)) .none kV13m2 dc13m2 pm13m2 an13m2 cd13m2 ct13m2), sl13m2⟩)
    (c13m2 : PySem.W.codeIn K cd13m2 "Sum.shown" = true)
    (k13m2 : PySem.W.keepIn K (.ref f13m2) = true)
    (xnWhole : PySem.W.findIn K (.ref C13) "whole" = some none)
    (g14 : PySem.W.nsIn K mainGlobals "Less" = some (some (.ref C14)))
    (pg14 : PySem.W.plainGet K C14 Str.empty = true)
    (hd14 : PySem.W.hasDictIn K C14 = true)
    (po14 : PySem.W.plainOver K C14 = true)
    (sa14 : PySem.W.findIn K (.ref C14) "__setattr__" = some (some (.builtin "object.__setattr__")))
    (mk14 : PySem.W.makesIn K C14 = true)
    (kc14 : PySem.W.keepIn K (.ref C14) = true)
    (ns14 : PySem.W.findIn K (.ref C14) "spots" = some none)
    (a14m0 : PySem.W.findIn K (.ref C14) "__init__" = some (some (.ref f14m0)))
    (i14m0 : PySem.W.isFn K (.ref f14m0) = true)
    (l14m0 : K.lookup f14m0 = some ⟨oc14m0, od14m0, .func (PySem.W.fnOf "__init__" "Less.__init__" (defArgs (inClass (top 14) 0)) (defBody (inClass (top 14) 0)) (defScope (inClass (top 14) 0)) .none kV14m0 dc14m0 pm14m0 an14m0 cd14m0 ct14m0), sl14m0⟩)
    (c14m0 : PySem.W.codeIn K cd14m0 "Less.__init__" = true)
    (k14m0 : PySem.W.keepIn K (.ref f14m0) = true)
    (a14m1 : PySem.W.findIn K (.ref C14) "may" = some (some (.ref f14m1)))
    (i14m1 : PySem.W.isFn K (.ref f14m1) = true)
    (l14m1 : K.lookup f14m1 = some ⟨oc14m1, od14m1, .func (PySem.W.fnOf "may" "Less.may" (defArgs (inClass (top 14) 1)) (defBody (inClass (top 14) 1)) (defScope (inClass (top 14) 1)) .none kV14m1 dc14m1 pm14m1 an14m1 cd14m1 ct14m1), sl14m1⟩)
    (c14m1 : PySem.W.codeIn K cd14m1 "Less.may" = true)
    (k14m1 : PySem.W.keepIn K (.ref f14m1) = true)
    (a14m2 : PySem.W.findIn K (.ref C14) "shown" = some (some (.ref f14m2)))
    (i14m2 : PySem.W.isFn K (.ref f14m2) = true)
    (l14m2 : K.lookup f14m2 = some ⟨oc14m2, od14m2, .func (PySem.W.fnOf "shown" "Less.shown" (defArgs (inClass (top 14) 2)) (defBody (inClass (top 14) 2)) (defScope (inClass (top 14) 2)) .none kV14m2 dc14m2 pm14m2 an14m2 cd14m2 ct14m2), sl14m2⟩)
    (c14m2 : PySem.W.codeIn K cd14m2 "Less.shown" = true)
    (k14m2 : PySem.W.keepIn K (.ref f14m2) = true)
    (g15 : PySem.W.nsIn K mainGlobals "Gap" = some (some (.ref C15)))
    (pg15 : PySem.W.plainGet K C15 Str.empty = true)
    (hd15 : PySem.W.hasDictIn K C15 = true)
    (po15 : PySem.W.plainOver K C15 = true)
    (sa15 : PySem.W.findIn K (.ref C15) "__setattr__" = some (some (.builtin "object.__setattr__")))
    (mk15 : PySem.W.makesIn K C15 = true)
    (kc15 : PySem.W.keepIn K (.ref C15) = true)
    (ns15 : PySem.W.findIn K (.ref C15) "spots" = some none)
    (a15m0 : PySem.W.findIn K (.ref C15) "__init__" = some (some (.ref f15m0)))
    (i15m0 : PySem.W.isFn K (.ref f15m0) = true)
    (l15m0 : K.lookup f15m0 = some ⟨oc15m0, od15m0, .func (PySem.W.fnOf "__init__" "Gap.__init__" (defArgs (inClass (top 15) 0)) (defBody (inClass (top 15) 0)) (defScope (inClass (top 15) 0)) .none kV15m0 dc15m0 pm15m0 an15m0 cd15m0 ct15m0), sl15m0⟩)
    (c15m0 : PySem.W.codeIn K cd15m0 "Gap.__init__" = true)
    (k15m0 : PySem.W.keepIn K (.ref f15m0) = true)
    (a15m1 : PySem.W.findIn K (.ref C15) "may" = some (some (.ref f15m1)))
    (i15m1 : PySem.W.isFn K (.ref f15m1) = true)
    (l15m1 : K.lookup f15m1 = some ⟨oc15m1, od15m1, .func (PySem.W.fnOf "may" "Gap.may" (defArgs (inClass (top 15) 1)) (defBody (inClass (top 15) 1)) (defScope (inClass (top 15) 1)) .none kV15m1 dc15m1 pm15m1 an15m1 cd15m1 ct15m1), sl15m1⟩)
    (c15m1 : PySem.W.codeIn K cd15m1 "Gap.may" = true)
    (k15m1 : PySem.W.keepIn K (.ref f15m1) = true)
    (a15m2 : PySem.W.findIn K (.ref C15) "shown" = some (some (.ref f15m2)))
    (i15m2 : PySem.W.isFn K (.ref f15m2) = true)
    (l15m2 : K.lookup f15m2 = some ⟨oc15m2, od15m2, .func (PySem.W.fnOf "shown" "Gap.shown" (defArgs (inClass (top 15) 2)) (defBody (inClass (top 15) 2)) (defScope (inClass (top 15) 2)) .none kV15m2 dc15m2 pm15m2 an15m2 cd15m2 ct15m2), sl15m2⟩)
    (c15m2 : PySem.W.codeIn K cd15m2 "Gap.shown" = true)
    (k15m2 : PySem.W.keepIn K (.ref f15m2) = true)
    (xnMuch : PySem.W.findIn K (.ref C15) "much" = some none)
    (g16 : PySem.W.nsIn K mainGlobals "Tops" = some (some (.ref C16)))
    (pg16 : PySem.W.plainGet K C16 Str.empty = true)
    (hd16 : PySem.W.hasDictIn K C16 = true)
    (po16 : PySem.W.plainOver K C16 = true)
    (sa16 : PySem.W.findIn K (.ref C16) "__setattr__" = some (some (.builtin "object.__setattr__")))
    (mk16 : PySem.W.makesIn K C16 = true)
    (kc16 : PySem.W.keepIn K (.ref C16) = true)
    (ns16 : PySem.W.findIn K (.ref C16) "spots" = some none)
    (a16m0 : PySem.W.findIn K (.ref C16) "__init__" = some (some (.ref f16m0)))
    (i16m0 : PySem.W.isFn K (.ref f16m0) = true)
    (l16m0 : K.lookup f16m0 = some ⟨oc16m0, od16m0, .func (PySem.W.fnOf "__init__" "Tops.__init__" (defArgs (inClass (top 16) 0)) (defBody (inClass (top 16) 0)) (defScope (inClass (top 16) 0)) .none kV16m0 dc16m0 pm16m0 an16m0 cd16m0 ct16m0), sl16m0⟩)
    (c16m0 : PySem.W.codeIn K cd16m0 "Tops.__init__" = true)
    (k16m0 : PySem.W.keepIn K (.ref f16m0) = true)
    (a16m1 : PySem.W.findIn K (.ref C16) "may" = some (some (.ref f16m1)))
    (i16m1 : PySem.W.isFn K (.ref f16m1) = true)
    (l16m1 : K.lookup f16m1 = some ⟨oc16m1, od16m1, .func (PySem.W.fnOf "may" "Tops.may" (defArgs (inClass (top 16) 1)) (defBody (inClass (top 16) 1)) (defScope (inClass (top 16) 1)) .none kV16m1 dc16m1 pm16m1 an16m1 cd16m1 ct16m1), sl16m1⟩)
    (c16m1 : PySem.W.codeIn K cd16m1 "Tops.may" = true)
    (k16m1 : PySem.W.keepIn K (.ref f16m1) = true)
    (a16m2 : PySem.W.findIn K (.ref C16) "shown" = some (some (.ref f16m2)))
    (i16m2 : PySem.W.isFn K (.ref f16m2) = true)
    (l16m2 : K.lookup f16m2 = some ⟨oc16m2, od16m2, .func (PySem.W.fnOf "shown" "Tops.shown" (defArgs (inClass (top 16) 2)) (defBody (inClass (top 16) 2)) (defScope (inClass (top 16) 2)) .none kV16m2 dc16m2 pm16m2 an16m2 cd16m2 ct16m2), sl16m2⟩)
    (c16m2 : PySem.W.codeIn K cd16m2 "Tops.shown" = true)
    (k16m2 : PySem.W.keepIn K (.ref f16m2) = true)
    (xnTopsCount : PySem.W.findIn K (.ref C16) "count" = some none)
    (g17 : PySem.W.nsIn K mainGlobals "Runs" = some (some (.ref C17)))
    (pg17 : PySem.W.plainGet K C17 Str.empty = true)
    (hd17 : PySem.W.hasDictIn K C17 = true)
    (po17 : PySem.W.plainOver K C17 = true)
    (sa17 : PySem.W.findIn K (.ref C17) "__setattr__" = some (some (.builtin "object.__setattr__")))
    (mk17 : PySem.W.makesIn K C17 = true)
    (kc17 : PySem.W.keepIn K (.ref C17) = true)
    (ns17 : PySem.W.findIn K (.ref C17) "spots" = some none)
    (a17m0 : PySem.W.findIn K (.ref C17) "__init__" = some (some (.ref f17m0)))
    (i17m0 : PySem.W.isFn K (.ref f17m0) = true)
    (l17m0 : K.lookup f17m0 = some ⟨oc17m0, od17m0, .func (PySem.W.fnOf "__init__" "Runs.__init__" (defArgs (inClass (top 17) 0)) (defBody (inClass (top 17) 0)) (defScope (inClass (top 17) 0)) .none kV17m0 dc17m0 pm17m0 an17m0 cd17m0 ct17m0), sl17m0⟩)
    (c17m0 : PySem.W.codeIn K cd17m0 "Runs.__init__" = true)
    (k17m0 : PySem.W.keepIn K (.ref f17m0) = true)
    (a17m1 : PySem.W.findIn K (.ref C17) "may" = some (some (.ref f17m1)))
    (i17m1 : PySem.W.isFn K (.ref f17m1) = true)
    (l17m1 : K.lookup f17m1 = some ⟨oc17m1, od17m1, .func (PySem.W.fnOf "may" "Runs.may" (defArgs (inClass (top 17) 1)) (defBody (inClass (top 17) 1)) (defScope (inClass (top 17) 1)) .none kV17m1 dc17m1 pm17m1 an17m1 cd17m1 ct17m1), sl17m1⟩)
    (c17m1 : PySem.W.codeIn K cd17m1 "Runs.may" = true)
    (k17m1 : PySem.W.keepIn K (.ref f17m1) = true)
    (a17m2 : PySem.W.findIn K (.ref C17) "shown" = some (some (.ref f17m2)))
    (i17m2 : PySem.W.isFn K (.ref f17m2) = true)
    (l17m2 : K.lookup f17m2 = some ⟨oc17m2, od17m2, .func (PySem.W.fnOf "shown" "Runs.shown" (defArgs (inClass (top 17) 2)) (defBody (inClass (top 17) 2)) (defScope (inClass (top 17) 2)) .none kV17m2 dc17m2 pm17m2 an17m2 cd17m2 ct17m2), sl17m2⟩)
    (c17m2 : PySem.W.codeIn K cd17m2 "Runs.shown" = true)
    (k17m2 : PySem.W.keepIn K (.ref f17m2) = true)
    (xnRuns : PySem.W.findIn K (.ref C17) "runs" = some none)
    (g18 : PySem.W.nsIn K mainGlobals "Count" = some (some (.ref C18)))
    (pg18 : PySem.W.plainGet K C18 Str.empty = true)
    (hd18 : PySem.W.hasDictIn K C18 = true)
    (po18 : PySem.W.plainOver K C18 = true)
    (sa18 : PySem.W.findIn K (.ref C18) "__setattr__" = some (some (.builtin "object.__setattr__")))
    (mk18 : PySem.W.makesIn K C18 = true)
    (kc18 : PySem.W.keepIn K (.ref C18) = true)
    (ns18 : PySem.W.findIn K (.ref C18) "spots" = some none)
    (a18m0 : PySem.W.findIn K (.ref C18) "__init__" = some (some (.ref f18m0)))
    (i18m0 : PySem.W.isFn K (.ref f18m0) = true)
    (l18m0 : K.lookup f18m0 = some ⟨oc18m0, od18m0, .func (PySem.W.fnOf "__init__" "Count.__init__" (defArgs (inClass (top 18) 0)) (defBody (inClass (top 18) 0)) (defScope (inClass (top 18) 0)) .none kV18m0 dc18m0 pm18m0 an18m0 cd18m0 ct18m0), sl18m0⟩)
    (c18m0 : PySem.W.codeIn K cd18m0 "Count.__init__" = true)
    (k18m0 : PySem.W.keepIn K (.ref f18m0) = true)
    (a18m1 : PySem.W.findIn K (.ref C18) "may" = some (some (.ref f18m1)))
    (i18m1 : PySem.W.isFn K (.ref f18m1) = true)
    (l18m1 : K.lookup f18m1 = some ⟨oc18m1, od18m1, .func (PySem.W.fnOf "may" "Count.may" (defArgs (inClass (top 18) 1)) (defBody (inClass (top 18) 1)) (defScope (inClass (top 18) 1)) .none kV18m1 dc18m1 pm18m1 an18m1 cd18m1 ct18m1), sl18m1⟩)
    (c18m1 : PySem.W.codeIn K cd18m1 "Count.may" = true)
    (k18m1 : PySem.W.keepIn K (.ref f18m1) = true)
    (a18m2 : PySem.W.findIn K (.ref C18) "shown" = some (some (.ref f18m2)))
    (i18m2 : PySem.W.isFn K (.ref f18m2) = true)
    (l18m2 : K.lookup f18m2 = some ⟨oc18m2, od18m2, .func (PySem.W.fnOf "shown" "Count.shown" (defArgs (inClass (top 18) 2)) (defBody (inClass (top 18) 2)) (defScope (inClass (top 18) 2)) .none kV18m2 dc18m2 pm18m2 an18m2 cd18m2 ct18m2), sl18m2⟩)
    (c18m2 : PySem.W.codeIn K cd18m2 "Count.shown" = true)
    (k18m2 : PySem.W.keepIn K (.ref f18m2) = true)
    (xnValue : PySem.W.findIn K (.ref C18) "value" = some none)
    (xnCountCount : PySem.W.findIn K (.ref C18) "count" = some none)
    (gR : PySem.W.nsIn K mainGlobals "BadRule" = some (some (.ref CR)))
    (xR : PySem.W.excIn K CR [.type "ValueError", .type "Exception", .type "BaseException", .type "object"] "ValueError.__new__" = true)
    (pR : PySem.W.keepIn K (.ref CR) = true)
    (sR : PySem.W.subIn K (.ref CR) (.type "BaseException") = some true)
    (tR : PySem.W.typeIn K (.ref CR) = some (.type "type"))
    (eSquare : PySem.W.nsIn K mainGlobals "BadSquare" = some (some (.ref ESquare)))
    (eStep : PySem.W.nsIn K mainGlobals "BadStep" = some (some (.ref EStep)))
    (ePaper : PySem.W.nsIn K mainGlobals "BadPaper" = some (some (.ref EPaper)))
    (eSize : PySem.W.nsIn K mainGlobals "BadSize" = some (some (.ref ESize)))
    (eText : PySem.W.nsIn K mainGlobals "BadText" = some (some (.ref EText)))
    (eStore : PySem.W.nsIn K mainGlobals "BadStore" = some (some (.ref EStore)))
    (eNoWay : PySem.W.nsIn K mainGlobals "NoWay" = some (some (.ref ENoWay)))
    (eNoSuch : PySem.W.nsIn K mainGlobals "NoSuch" = some (some (.ref ENoSuch)))
    (hR : PySem.W.hasDictIn K CR = true)
    (qR : PySem.W.subIn K (.ref CR) (.ref CR) = some true)
    (sS : PySem.W.subIn K (.ref ESquare) (.type "BaseException") = some true)
    (hS : PySem.W.hasDictIn K ESquare = true)
    (tS : PySem.W.typeIn K (.ref ESquare) = some (.type "type"))
    (qS : PySem.W.subIn K (.ref CR) (.ref ESquare) = some false)
    (znAbs : PySem.W.nsIn K mainGlobals "abs" = some none)
    (znAll : PySem.W.nsIn K mainGlobals "all" = some none)
    (znAny : PySem.W.nsIn K mainGlobals "any" = some none)
    (znDict : PySem.W.nsIn K mainGlobals "dict" = some none)
    (znEnum : PySem.W.nsIn K mainGlobals "enumerate" = some none)
    (znInt : PySem.W.nsIn K mainGlobals "int" = some none)
    (znLen : PySem.W.nsIn K mainGlobals "len" = some none)
    (znList : PySem.W.nsIn K mainGlobals "list" = some none)
    (znMax : PySem.W.nsIn K mainGlobals "max" = some none)
    (znRange : PySem.W.nsIn K mainGlobals "range" = some none)
    (znSet : PySem.W.nsIn K mainGlobals "set" = some none)
    (znSum : PySem.W.nsIn K mainGlobals "sum" = some none)
    (znTuple : PySem.W.nsIn K mainGlobals "tuple" = some none)
    (y1 : PySem.W.mroIn K C17 (.type "object") = some true)
    (y2 : PySem.W.findIn K (.ref C17) "__eq__" = some (some (.builtin "object.__eq__")))
    (a35 : PySem.W.nsIn K mainGlobals "law" = some (some (.ref f35)))
    (l35 : K.lookup f35 = some ⟨oc35, od35, .func (PySem.W.fnOf "law" "law" (defArgs (top 35)) (defBody (top 35)) (defScope (top 35)) .none kV35 dc35 pm35 an35 (.ref cc) ct35), sl35⟩)
    (c35 : PySem.W.codeIn K (.ref cc) "law" = true)
    (w2 : PySem.W.codeHdIn K cc DD = true)
    (w3 : K.lookup DD = none)
    (w4 : h.get? DD = some { cls := .none, data := .fields #[] }) :
    LamX.LawAtS l w K (L2.CX l.prog w) 9 63 "script" mg fa h := by
  have e := hfa.symm.trans (PySem.W.mg_of X G a35)
  cases e
  exact law_at { check_spots := ⟨f19, _, funA_mk l19 c19 k19, PySem.W.mg_of X G a19, (fun_mk (st := top 19) l19 c19 k19).binds (ps := ["spots"]) fun _ _ _ _ _ _ us hl => match us, hl with | [_], _ => rfl⟩, known_of := ⟨f20, _, funA_mk l20 c20 k20, PySem.W.mg_of X G a20, (fun_mk (st := top 20) l20 c20 k20).binds (ps := ["values"]) fun _ _ _ _ _ _ us hl => match us, hl with | [_], _ => rfl⟩, ahead_of_unknown := ⟨f21, _, funA_mk l21 c21 k21, PySem.W.mg_of X G a21, (fun_mk (st := top 21) l21 c21 k21).binds (ps := ["values"]) fun _ _ _ _ _ _ us hl => match us, hl with | [_], _ => rfl⟩, tops := ⟨f22, _, funA_mk l22 c22 k22, PySem.W.mg_of X G a22, (fun_mk (st := top 22) l22 c22 k22).binds (ps := ["values"]) fun _ _ _ _ _ _ us hl => match us, hl with | [_], _ => rfl⟩, runs_of := ⟨f23, _, funA_mk l23 c23 k23, PySem.W.mg_of X G a23, (fun_mk (st := top 23) l23 c23 k23).binds (ps := ["values"]) fun _ _ _ _ _ _ us hl => match us, hl with | [_], _ => rfl⟩, may_begin_with := ⟨f24, _, funA_mk l24 c24 k24, PySem.W.mg_of X G a24, (fun_mk (st := top 24) l24 c24 k24).binds (ps := ["runs", "known"]) fun _ _ _ _ _ _ us hl => match us, hl with | [_, _], _ => rfl⟩, kept := ⟨f25, _, funA_mk l25 c25 k25, PySem.W.mg_of X G a25, (fun_mk (st := top 25) l25 c25 k25).binds (ps := ["rule", "table"]) fun _ _ _ _ _ _ us hl => match us, hl with | [_, _], _ => rfl⟩, flat := ⟨f27, _, funA_mk l27 c27 k27, PySem.W.mg_of X G a27, (fun_mk (st := top 27) l27 c27 k27).binds (ps := ["rows"]) fun _ _ _ _ _ _ us hl => match us, hl with | [_], _ => rfl⟩, dice := ⟨f28, _, funA_mk l28 c28 k28, PySem.W.mg_of X G a28, (fun_mk (st := top 28) l28 c28 k28).binds (ps := ["cell"]) fun _ _ _ _ _ _ us hl => match us, hl with | [_], _ => rfl⟩, roll := ⟨f29, _, funA_mk l29 c29 k29, PySem.W.mg_of X G a29, (fun_mk (st := top 29) l29 c29 k29).binds (ps := ["dice", "many"]) fun _ _ _ _ _ _ us hl => match us, hl with | [_, _], _ => rfl⟩, rounds := ⟨f30, _, funA_mk l30 c30 k30, PySem.W.mg_of X G a30, (fun_mk (st := top 30) l30 c30 k30).binds (ps := ["script", "most"]) fun _ _ _ _ _ _ us hl => match us, hl with | [_, _], _ => rfl⟩, told := ⟨f31, _, funA_mk l31 c31 k31, PySem.W.mg_of X G a31, (fun_mk (st := top 31) l31 c31 k31).binds (ps := ["what"]) fun _ _ _ _ _ _ us hl => match us, hl with | [_], _ => rfl⟩, all := ⟨f32, _, funA_mk l32 c32 k32, PySem.W.mg_of X G a32, (fun_mk (st := top 32) l32 c32 k32).binds (ps := ["values", "long"]) fun _ _ _ _ _ _ us hl => match us, hl with | [_, _], _ => rfl⟩, rules := ⟨f33, _, funA_mk l33 c33 k33, PySem.W.mg_of X G a33, (fun_mk (st := top 33) l33 c33 k33).binds (ps := ["dice", "spots"]) fun _ _ _ _ _ _ us hl => match us, hl with | [_, _], _ => rfl⟩, keeps := ⟨f34, _, funA_mk l34 c34 k34, PySem.W.mg_of X G a34, (fun_mk (st := top 34) l34 c34 k34).binds (ps := ["test", "table"]) fun _ _ _ _ _ _ us hl => match us, hl with | [_, _], _ => rfl⟩, cUnlike := ⟨C12, PySem.W.mg_of X G g12, ⟨pg12, hd12, po12, sa12⟩, ⟨f12m0, _, funA_mk l12m0 c12m0 k12m0, (fun_mk (st := inClass (top 12) 0) l12m0 c12m0 k12m0).binds (ps := ["self", "spots"]) fun _ _ _ _ _ _ us hl => match us, hl with | [_, _], _ => rfl⟩, ⟨f12m1, _, funA_mk l12m1 c12m1 k12m1, (fun_mk (st := inClass (top 12) 1) l12m1 c12m1 k12m1).binds (ps := ["self", "values"]) fun _ _ _ _ _ _ us hl => match us, hl with | [_, _], _ => rfl⟩, ⟨f12m2, _, funA_mk l12m2 c12m2 k12m2, (fun_mk (st := inClass (top 12) 2) l12m2 c12m2 k12m2).binds (ps := ["self"]) fun _ _ _ _ _ _ us hl => match us, hl with | [_], _ => rfl⟩, ⟨mk12, a12m0, i12m0, kc12⟩, ⟨a12m1, i12m1, k12m1⟩, ⟨a12m2, i12m2, k12m2⟩, ns12⟩, cSum := ⟨C13, PySem.W.mg_of X G g13, ⟨pg13, hd13, po13, sa13⟩, ⟨f13m0, _, funA_mk l13m0 c13m0 k13m0, (fun_mk (st := inClass (top 13) 0) l13m0 c13m0 k13m0).binds (ps := ["self", "spots", "whole"]) fun _ _ _ _ _ _ us hl => match us, hl with | [_, _, _], _ => rfl⟩, ⟨f13m1, _, funA_mk l13m1 c13m1 k13m1, (fun_mk (st := inClass (top 13) 1) l13m1 c13m1 k13m1).binds (ps := ["self", "values"]) fun _ _ _ _ _ _ us hl => match us, hl with | [_, _], _ => rfl⟩, ⟨f13m2, _, funA_mk l13m2 c13m2 k13m2, (fun_mk (st := inClass (top 13) 2) l13m2 c13m2 k13m2).binds (ps := ["self"]) fun _ _ _ _ _ _ us hl => match us, hl with | [_], _ => rfl⟩, ⟨mk13, a13m0, i13m0, kc13⟩, ⟨a13m1, i13m1, k13m1⟩, ⟨a13m2, i13m2, k13m2⟩, ns13⟩, nWhole := xnWhole, cLess := ⟨C14, PySem.W.mg_of X G g14, ⟨pg14, hd14, po14, sa14⟩, ⟨f14m0, _, funA_mk l14m0 c14m0 k14m0, (fun_mk (st := inClass (top 14) 0) l14m0 c14m0 k14m0).binds (ps := ["self", "one", "other"]) fun _ _ _ _ _ _ us hl => match us, hl with | [_, _, _], _ => rfl⟩, ⟨f14m1, _, funA_mk l14m1 c14m1 k14m1, (fun_mk (st := inClass (top 14) 1) l14m1 c14m1 k14m1).binds (ps := ["self", "values"]) fun _ _ _ _ _ _ us hl => match us, hl with | [_, _], _ => rfl⟩, ⟨f14m2, _, funA_mk l14m2 c14m2 k14m2, (fun_mk (st := inClass (top 14) 2) l14m2 c14m2 k14m2).binds (ps := ["self"]) fun _ _ _ _ _ _ us hl => match us, hl with | [_], _ => rfl⟩, ⟨mk14, a14m0, i14m0, kc14⟩, ⟨a14m1, i14m1, k14m1⟩, ⟨a14m2, i14m2, k14m2⟩, ns14⟩, cGap := ⟨C15, PySem.W.mg_of X G g15, ⟨pg15, hd15, po15, sa15⟩, ⟨f15m0, _, funA_mk l15m0 c15m0 k15m0, (fun_mk (st := inClass (top 15) 0) l15m0 c15m0 k15m0).binds (ps := ["self", "one", "other", "much"]) fun _ _ _ _ _ _ us hl => match us, hl with | [_, _, _, _], _ => rfl⟩, ⟨f15m1, _, funA_mk l15m1 c15m1 k15m1, (fun_mk (st := inClass (top 15) 1) l15m1 c15m1 k15m1).binds (ps := ["self", "values"]) fun _ _ _ _ _ _ us hl => match us, hl with | [_, _], _ => rfl⟩, ⟨f15m2, _, funA_mk l15m2 c15m2 k15m2, (fun_mk (st := inClass (top 15) 2) l15m2 c15m2 k15m2).binds (ps := ["self"]) fun _ _ _ _ _ _ us hl => match us, hl with | [_], _ => rfl⟩, ⟨mk15, a15m0, i15m0, kc15⟩, ⟨a15m1, i15m1, k15m1⟩, ⟨a15m2, i15m2, k15m2⟩, ns15⟩, nMuch := xnMuch, cTops := ⟨C16, PySem.W.mg_of X G g16, ⟨pg16, hd16, po16, sa16⟩, ⟨f16m0, _, funA_mk l16m0 c16m0 k16m0, (fun_mk (st := inClass (top 16) 0) l16m0 c16m0 k16m0).binds (ps := ["self", "spots", "count"]) fun _ _ _ _ _ _ us hl => match us, hl with | [_, _, _], _ => rfl⟩, ⟨f16m1, _, funA_mk l16m1 c16m1 k16m1, (fun_mk (st := inClass (top 16) 1) l16m1 c16m1 k16m1).binds (ps := ["self", "values"]) fun _ _ _ _ _ _ us hl => match us, hl with | [_, _], _ => rfl⟩, ⟨f16m2, _, funA_mk l16m2 c16m2 k16m2, (fun_mk (st := inClass (top 16) 2) l16m2 c16m2 k16m2).binds (ps := ["self"]) fun _ _ _ _ _ _ us hl => match us, hl with | [_], _ => rfl⟩, ⟨mk16, a16m0, i16m0, kc16⟩, ⟨a16m1, i16m1, k16m1⟩, ⟨a16m2, i16m2, k16m2⟩, ns16⟩, nTopsCount := xnTopsCount, cRuns := ⟨C17, PySem.W.mg_of X G g17, ⟨pg17, hd17, po17, sa17⟩, ⟨f17m0, _, funA_mk l17m0 c17m0 k17m0, (fun_mk (st := inClass (top 17) 0) l17m0 c17m0 k17m0).binds (ps := ["self", "spots", "runs"]) fun _ _ _ _ _ _ us hl => match us, hl with | [_, _, _], _ => rfl⟩, ⟨f17m1, _, funA_mk l17m1 c17m1 k17m1, (fun_mk (st := inClass (top 17) 1) l17m1 c17m1 k17m1).binds (ps := ["self", "values"]) fun _ _ _ _ _ _ us hl => match us, hl with | [_, _], _ => rfl⟩, ⟨f17m2, _, funA_mk l17m2 c17m2 k17m2, (fun_mk (st := inClass (top 17) 2) l17m2 c17m2 k17m2).binds (ps := ["self"]) fun _ _ _ _ _ _ us hl => match us, hl with | [_], _ => rfl⟩, ⟨mk17, a17m0, i17m0, kc17⟩, ⟨a17m1, i17m1, k17m1⟩, ⟨a17m2, i17m2, k17m2⟩, ns17⟩, nRuns := xnRuns, cCount := ⟨C18, PySem.W.mg_of X G g18, ⟨pg18, hd18, po18, sa18⟩, ⟨f18m0, _, funA_mk l18m0 c18m0 k18m0, (fun_mk (st := inClass (top 18) 0) l18m0 c18m0 k18m0).binds (ps := ["self", "spots", "value", "count"]) fun _ _ _ _ _ _ us hl => match us, hl with | [_, _, _, _], _ => rfl⟩, ⟨f18m1, _, funA_mk l18m1 c18m1 k18m1, (fun_mk (st := inClass (top 18) 1) l18m1 c18m1 k18m1).binds (ps := ["self", "values"]) fun _ _ _ _ _ _ us hl => match us, hl with | [_, _], _ => rfl⟩, ⟨f18m2, _, funA_mk l18m2 c18m2 k18m2, (fun_mk (st := inClass (top 18) 2) l18m2 c18m2 k18m2).binds (ps := ["self"]) fun _ _ _ _ _ _ us hl => match us, hl with | [_], _ => rfl⟩, ⟨mk18, a18m0, i18m0, kc18⟩, ⟨a18m1, i18m1, k18m1⟩, ⟨a18m2, i18m2, k18m2⟩, ns18⟩, nValue := xnValue, nCountCount := xnCountCount, xRule := ⟨CR, PySem.W.mg_of X G gR, xR, pR, sR, tR⟩, eSquare := ESquare, mSquare := PySem.W.mg_of X G eSquare, eStep := EStep, mStep := PySem.W.mg_of X G eStep, ePaper := EPaper, mPaper := PySem.W.mg_of X G ePaper, eSize := ESize, mSize := PySem.W.mg_of X G eSize, eText := EText, mText := PySem.W.mg_of X G eText, eStore := EStore, mStore := PySem.W.mg_of X G eStore, eNoWay := ENoWay, mNoWay := PySem.W.mg_of X G eNoWay, eNoSuch := ENoSuch, mNoSuch := PySem.W.mg_of X G eNoSuch, notSquare := PySem.W.exm_ref sS hS tS qS, isRule := PySem.W.exm_ref sR hR tR qR, nAbs := PySem.W.mg_none_of X G znAbs, nAll := PySem.W.mg_none_of X G znAll, nAny := PySem.W.mg_none_of X G znAny, nDict := PySem.W.mg_none_of X G znDict, nEnum := PySem.W.mg_none_of X G znEnum, nInt := PySem.W.mg_none_of X G znInt, nLen := PySem.W.mg_none_of X G znLen, nList := PySem.W.mg_none_of X G znList, nMax := PySem.W.mg_none_of X G znMax, nRange := PySem.W.mg_none_of X G znRange, nSet := PySem.W.mg_none_of X G znSet, nSum := PySem.W.mg_none_of X G znSum, nTuple := PySem.W.mg_none_of X G znTuple } ⟨y1, y2⟩ ⟨_, _, _, _, _, _, _, _, _, rfl, l35, c35⟩ (fun s v => .of_eq rfl) w4 w3 (PySem.W.codeHd_of_K X w2)
theorem cx_none {P : Program} {w : World} {H : Hp} {s s' : Shared} {e : Value} : L2.CX P w [] H s (fun _ _ _ => False) e s' → False := fun h => match h with
  | ⟨_, _, _, _, _, _, _, _, _, _, _, _, z⟩ => z.elim
end K02
end Cw
end L2
open PySem PySem.W PyProof.Rows
set_option maxRecDepth 100000 in
set_option maxHeartbeats 0 in
theorem PySem.Challenge.cw_cluewright_k02_rules_that_may_be_kept_holds : PySem.Challenge.rw_cluewright_k02_rules_that_may_be_kept.Holds := by
  w_on
  o_law
  k_head
  (case hw => w_witness2)
  k_fill
  refine LamX.walk_ofTs (l := PySem.Challenge.rw_cluewright_k02_rules_that_may_be_kept) (n := 63) (k := 9) (x := "script") (CX := fun w => L2.CX (PySem.Challenge.rw_cluewright_k02_rules_that_may_be_kept).prog w) rfl (by decide) rfl ⟨rfl, by decide, by decide⟩ (fun w h Y => km_in_of Y) ?F (fun _ _ _ _ _ z => L2.Cw.K02.cx_none z)
  case F =>
    intro w mg fa h Y KX G hmg
    refine' L2.Cw.K02.all_mk (DD := 469) KX G hmg ?a19 ?l19 ?c19 ?k19 ?a20 ?l20 ?c20 ?k20 ?a21 ?l21 ?c21 ?k21 ?a22 ?l22 ?c22 ?k22 ?a23 ?l23 ?c23 ?k23 ?a24 ?l24 ?c24 ?k24 ?a25 ?l25 ?c25 ?k25 ?a27 ?l27 ?c27 ?k27 ?a28 ?l28 ?c28 ?k28 ?a29 ?l29 ?c29 ?k29 ?a30 ?l30 ?c30 ?k30 ?a31 ?l31 ?c31 ?k31 ?a32 ?l32 ?c32 ?k32 ?a33 ?l33 ?c33 ?k33 ?a34 ?l34 ?c34 ?k34 ?g12 ?pg12 ?hd12 ?po12 ?sa12 ?mk12 ?kc12 ?ns12 ?a12m0 ?i12m0 ?l12m0 ?c12m0 ?k12m0 ?a12m1 ?i12m1 ?l12m1 ?c12m1 ?k12m1 ?a12m2 ?i12m2 ?l12m2 ?c12m2 ?k12m2 ?g13 ?pg13 ?hd13 ?po13 ?sa13 ?mk13 ?kc13 ?ns13 ?a13m0 ?i13m0 ?l13m0 ?c13m0 ?k13m0 ?a13m1 ?i13m1 ?l13m1 ?c13m1 ?k13m1 ?a13m2 ?i13m2 ?l13m2 ?c13m2 ?k13m2 ?xnWhole ?g14 ?pg14 ?hd14 ?po14 ?sa14 ?mk14 ?kc14 ?ns14 ?a14m0 ?i14m0 ?l14m0 ?c14m0 ?k14m0 ?a14m1 ?i14m1 ?l14m1 ?c14m1 ?k14m1 ?a14m2 ?i14m2 ?l14m2 ?c14m2 ?k14m2 ?g15 ?pg15 ?hd15 ?po15 ?sa15 ?mk15 ?kc15 ?ns15 ?a15m0 ?i15m0 ?l15m0 ?c15m0 ?k15m0 ?a15m1 ?i15m1 ?l15m1 ?c15m1 ?k15m1 ?a15m2 ?i15m2 ?l15m2 ?c15m2 ?k15m2 ?xnMuch ?g16 ?pg16 ?hd16 ?po16 ?sa16 ?mk16 ?kc16 ?ns16 ?a16m0 ?i16m0 ?l16m0 ?c16m0 ?k16m0 ?a16m1 ?i16m1 ?l16m1 ?c16m1 ?k16m1 ?a16m2 ?i16m2 ?l16m2 ?c16m2 ?k16m2 ?xnTopsCount ?g17 ?pg17 ?hd17 ?po17 ?sa17 ?mk17 ?kc17 ?ns17 ?a17m0 ?i17m0 ?l17m0 ?c17m0 ?k17m0 ?a17m1 ?i17m1 ?l17m1 ?c17m1 ?k17m1 ?a17m2 ?i17m2 ?l17m2 ?c17m2 ?k17m2 ?xnRuns ?g18 ?pg18 ?hd18 ?po18 ?sa18 ?mk18 ?kc18 ?ns18 ?a18m0 ?i18m0 ?l18m0 ?c18m0 ?k18m0 ?a18m1 ?i18m1 ?l18m1 ?c18m1 ?k18m1 ?a18m2 ?i18m2 ?l18m2 ?c18m2 ?k18m2 ?xnValue ?xnCountCount ?gR ?xR ?pR ?sR ?tR ?eSquare ?eStep ?ePaper ?eSize ?eText ?eStore ?eNoWay ?eNoSuch ?hR ?qR ?sS ?hS ?tS ?qS ?znAbs ?znAll ?znAny ?znDict ?znEnum ?znInt ?znLen ?znList ?znMax ?znRange ?znSet ?znSum ?znTuple ?y1 ?y2 ?a35 ?l35 ?c35 ?w2 ?w3 ?w4
    (case a19 => k_is)
    (case l19 => k_is)
    (case c19 => k_is)
    (case k19 => k_is)
    (case a20 => k_is)
    (case l20 => k_is)
    (case c20 => k_is)
    (case k20 => k_is)
    (case a21 => k_is)
    (case l21 => k_is)
    (case c21 => k_is)
    (case k21 => k_is)
    (case a22 => k_is)
    (case l22 => k_is)
    (case c22 => k_is)
    (case k22 => k_is)
    (case a23 => k_is)
    (case l23 => k_is)
    (case c23 => k_is)
    (case k23 => k_is)
    (case a24 => k_is)
    (case l24 => k_is)
    (case c24 => k_is)
    (case k24 => k_is)
    (case a25 => k_is)
    (case l25 => k_is)
    (case c25 => k_is)
    (case k25 => k_is)
    (case a27 => k_is)
    (case l27 => k_is)
    (case c27 => k_is)
    (case k27 => k_is)
    (case a28 => k_is)
    (case l28 => k_is)
    (case c28 => k_is)
    (case k28 => k_is)
    (case a29 => k_is)
    (case l29 => k_is)
    (case c29 => k_is)
    (case k29 => k_is)
    (case a30 => k_is)
    (case l30 => k_is)
    (case c30 => k_is)
    (case k30 => k_is)
    (case a31 => k_is)
    (case l31 => k_is)
    (case c31 => k_is)
    (case k31 => k_is)
    (case a32 => k_is)
    (case l32 => k_is)
    (case c32 => k_is)
    (case k32 => k_is)
    (case a33 => k_is)
    (case l33 => k_is)
    (case c33 => k_is)
    (case k33 => k_is)
    (case a34 => k_is)
    (case l34 => k_is)
    (case c34 => k_is)
    (case k34 => k_is)
    (case g12 => k_is)
    (case pg12 => k_is)
    (case hd12 => k_is)
    (case po12 => k_is)
    (case sa12 => k_is)
    (case mk12 => k_is)
    (case kc12 => k_is)
    (case ns12 => k_is)
    (case a12m0 => k_is)
    (case i12m0 => k_is)
    (case l12m0 => k_is)
    (case c12m0 => k_is)
    (case k12m0 => k_is)
    (case a12m1 => k_is)
    (case i12m1 => k_is)
    (case l12m1 => k_is)
    (case c12m1 => k_is)
    (case k12m1 => k_is)
    (case a12m2 => k_is)
    (case i12m2 => k_is)
    (case l12m2 => k_is)
    (case c12m2 => k_is)
    (case k12m2 => k_is)
    (case g13 => k_is)
    (case pg13 => k_is)
    (case hd13 => k_is)
    (case po13 => k_is)
    (case sa13 => k_is)
    (case mk13 => k_is)
    (case kc13 => k_is)
    (case ns13 => k_is)
    (case a13m0 => k_is)
    (case i13m0 => k_is)
    (case l13m0 => k_is)
    (case c13m0 => k_is)
    (case k13m0 => k_is)
    (case a13m1 => k_is)
    (case i13m1 => k_is)
    (case l13m1 => k_is)
    (case c13m1 => k_is)
    (case k13m1 => k_is)
    (case a13m2 => k_is)
    (case i13m2 => k_is)
    (case l13m2 => k_is)
    (case c13m2 => k_is)
    (case k13m2 => k_is)
    (case xnWhole => k_is)
    (case g14 => k_is)
    (case pg14 => k_is)
    (case hd14 => k_is)
    (case po14 => k_is)
    (case sa14 => k_is)
    (case mk14 => k_is)
    (case kc14 => k_is)
    (case ns14 => k_is)
    (case a14m0 => k_is)
    (case i14m0 => k_is)
    (case l14m0 => k_is)
    (case c14m0 => k_is)
    (case k14m0 => k_is)
    (case a14m1 => k_is)
    (case i14m1 => k_is)
    (case l14m1 => k_is)
    (case c14m1 => k_is)
    (case k14m1 => k_is)
    (case a14m2 => k_is)
    (case i14m2 => k_is)
    (case l14m2 => k_is)
    (case c14m2 => k_is)
    (case k14m2 => k_is)
    (case g15 => k_is)
    (case pg15 => k_is)
    (case hd15 => k_is)
    (case po15 => k_is)
    (case sa15 => k_is)
    (case mk15 => k_is)
    (case kc15 => k_is)
    (case ns15 => k_is)
    (case a15m0 => k_is)
    (case i15m0 => k_is)
    (case l15m0 => k_is)
    (case c15m0 => k_is)
    (case k15m0 => k_is)
    (case a15m1 => k_is)
    (case i15m1 => k_is)
    (case l15m1 => k_is)
    (case c15m1 => k_is)
    (case k15m1 => k_is)
    (case a15m2 => k_is)
    (case i15m2 => k_is)
    (case l15m2 => k_is)
    (case c15m2 => k_is)
    (case k15m2 => k_is)
    (case xnMuch => k_is)
    (case g16 => k_is)
    (case pg16 => k_is)
    (case hd16 => k_is)
    (case po16 => k_is)
    (case sa16 => k_is)
    (case mk16 => k_is)
    (case kc16 => k_is)
    (case ns16 => k_is)
    (case a16m0 => k_is)
    (case i16m0 => k_is)
    (case l16m0 => k_is)
    (case c16m0 => k_is)
    (case k16m0 => k_is)
    (case a16m1 => k_is)
    (case i16m1 => k_is)
    (case l16m1 => k_is)
    (case c16m1 => k_is)
    (case k16m1 => k_is)
    (case a16m2 => k_is)
    (case i16m2 => k_is)
    (case l16m2 => k_is)
    (case c16m2 => k_is)
    (case k16m2 => k_is)
    (case xnTopsCount => k_is)
    (case g17 => k_is)
    (case pg17 => k_is)
    (case hd17 => k_is)
    (case po17 => k_is)
    (case sa17 => k_is)
    (case mk17 => k_is)
    (case kc17 => k_is)
    (case ns17 => k_is)
    (case a17m0 => k_is)
    (case i17m0 => k_is)
    (case l17m0 => k_is)
    (case c17m0 => k_is)
    (case k17m0 => k_is)
    (case a17m1 => k_is)
    (case i17m1 => k_is)
    (case l17m1 => k_is)
    (case c17m1 => k_is)
    (case k17m1 => k_is)
    (case a17m2 => k_is)
    (case i17m2 => k_is)
    (case l17m2 => k_is)
    (case c17m2 => k_is)
    (case k17m2 => k_is)
    (case xnRuns => k_is)
    (case g18 => k_is)
    (case pg18 => k_is)
    (case hd18 => k_is)
    (case po18 => k_is)
    (case sa18 => k_is)
    (case mk18 => k_is)
    (case kc18 => k_is)
    (case ns18 => k_is)
    (case a18m0 => k_is)
    (case i18m0 => k_is)
    (case l18m0 => k_is)
    (case c18m0 => k_is)
    (case k18m0 => k_is)
    (case a18m1 => k_is)
    (case i18m1 => k_is)
    (case l18m1 => k_is)
    (case c18m1 => k_is)
    (case k18m1 => k_is)
    (case a18m2 => k_is)
    (case i18m2 => k_is)
    (case l18m2 => k_is)
    (case c18m2 => k_is)
    (case k18m2 => k_is)
    (case xnValue => k_is)
    (case xnCountCount => k_is)
    (case gR => k_is)
    (case xR => k_exc)
    (case pR => k_is)
    (case sR => k_is)
    (case tR => k_is)
    (case eSquare => k_is)
    (case eStep => k_is)
    (case ePaper => k_is)
    (case eSize => k_is)
    (case eText => k_is)
    (case eStore => k_is)
    (case eNoWay => k_is)
    (case eNoSuch => k_is)
    (case hR => k_is)
    (case qR => first | rfl | k_is)
    (case sS => k_is)
    (case hS => k_is)
    (case tS => k_is)
    (case qS => first | rfl | k_is)
    (case znAbs => k_is)
    (case znAll => k_is)
    (case znAny => k_is)
    (case znDict => k_is)
    (case znEnum => k_is)
    (case znInt => k_is)
    (case znLen => k_is)
    (case znList => k_is)
    (case znMax => k_is)
    (case znRange => k_is)
    (case znSet => k_is)
    (case znSum => k_is)
    (case znTuple => k_is)
    (case y1 => k_is)
    (case y2 => k_is)
    (case a35 => k_is)
    (case l35 => k_is)
    (case c35 => k_is)
    (case w2 => kernel_rfl)
    (case w3 => kernel_rfl)
    (case w4 => exact km_tabs_of Y _ (by k_mem))
#print axioms PySem.Challenge.cw_cluewright_k02_rules_that_may_be_kept_holds
