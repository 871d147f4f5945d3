import PyProof.Rows.All
import Wide.All
import OpenK.AllK
import Wide.FinOn
import HandS.ForMost
import HandS.Exc
import HandS.ExcOwn
import HandS.TryMany
import HandS.WordsExc
import HandS.Walk
import HandS.Deep
import KE.KDictKeyed
import KE.KeyNested
import HandS.DictComp
import KE.GoesDict
import HandS.TupAny
import HandS.Style
import HandS.SetFor
import HandS.Wide
import PyProof.SumWalkG
import PyProof.WalksMore
import HandS.TupSets
import KE.KDictPairs
import HandS.Lambda
import HandS.More
import KE.SortData
import KE.KDictSum
import KE.KDictCopyH
import HandS.Conv
import HandS.DictEq
import PyProof.SeqIndex
import KE.KEqDict
import KE.GoesNew
import KE.GoesEnum
import HandS.SetKeys
import HandS.Text
import PyProof.Rows.TupDisplay
import PySem.Challenge.RW_cluewright_k01_squares_of_a_board
import HandS.EndTab
import KE.KNestM
import HandS.ExcIs
import HandS.Words
import HandS.Defaults
set_option Elab.async false
set_option linter.all false
set_option maxRecDepth 100000
set_option maxHeartbeats 2000000
namespace L2
namespace Cw
open PySem PySem.Spec PyProof.Rows

/-- a value as a whole -/
inductive T where
  | non | bl (b : Bool) | int (i : Int) | str (s : Str) | fn (a : Addr)
  | tup (ts : List T) | lst (ts : List T) | wtup (ts : List T) | slst (ts : List T) | dicK (ks : List Key) (ts : List T) | dct (φ : Addr → List V → List V → Heap → Prop) (ks ts : List T) | ext (φ : Addr → List V → List V → Heap → Prop) (ks ts : List T) | ins (C : Addr) (fs : List Str) (ts : List T)

section
variable (K : PySem.W.Frag) (Z : Hp)
mutual
def Rep : T → V → Prop
  | .non, v => v = .non
  | .bl b, v => v = .bl b
  | .int i, v => v = .int i
  | .str s, v => v = .str s
  | .fn a, v => v = .ref a
  | .tup ts, v => ∃ a vs, v = .ref a ∧ Z a = some (.tup vs) ∧ Reps ts vs
  | .lst ts, v => ∃ a vs, v = .ref a ∧ Z a = some (.lst vs) ∧ Reps ts vs
  | .wtup ts, v => ∃ a vs, v = .ref a ∧ SqT K Z a vs ∧ Reps ts vs
  | .slst ts, v => ∃ a vs, v = .ref a ∧ SqL K Z a vs ∧ Reps ts vs
  | .dicK ks ts, v => ∃ a ob kv, v = .ref a ∧ Z a = some (.frz ob (.dK kv)) ∧ kv.map Prod.fst = ks ∧ Reps ts (kv.map Prod.snd)
  | .dct φ ks ts, v => ∃ a ob qs vs, v = .ref a ∧ Z a = some (.frz ob (.ext (φ a qs vs))) ∧ Reps ks qs ∧ Reps ts vs
  | .ext φ ks ts, v => ∃ a qs vs, v = .ref a ∧ Rd Z a (.ext (φ a qs vs)) ∧ Reps ks qs ∧ Reps ts vs
  | .ins C fs ts, v => ∃ a dx fv, v = .ref a ∧ Z a = some (.ins C dx fv) ∧ fv.map Prod.fst = fs ∧ Reps ts (fv.map Prod.snd)
def Reps : List T → List V → Prop
  | [], vs => vs = []
  | t :: ts, vs => ∃ v r, vs = v :: r ∧ Rep t v ∧ Reps ts r
end
/-- what stands at an address, as a whole -/
def ORep (a : Addr) : HO → T → Prop
  | .lst vs, .lst ts => Reps K Z ts vs
  | .dK kv, .dicK ks ts => kv.map Prod.fst = ks ∧ Reps K Z ts (kv.map Prod.snd)
  | .ext ψ, .dct φ ks ts => ∃ qs vs, ψ = φ a qs vs ∧ Reps K Z ks qs ∧ Reps K Z ts vs
  | .ext ψ, .ext φ ks ts => ∃ qs vs, ψ = φ a qs vs ∧ Reps K Z ks qs ∧ Reps K Z ts vs
  | .ins C _ fv, .ins C' fs ts => C = C' ∧ fv.map Prod.fst = fs ∧ Reps K Z ts (fv.map Prod.snd)
  | _, _ => False
end

section
variable {K : PySem.W.Frag} {Z Z' H H' : Hp}
/-- all that stands is there still, or more: as a reader asks -/
structure Lk (Z Z' : Hp) : Prop where
  rd : ∀ {a : Addr} {u : HO}, Rd Z a u → Rd Z' a u
  st : ∀ {a : Addr} {u : HO}, Z a = some u → Z' a = some u
theorem Same.lk (e : Same Z Z') : Lk Z Z' := ⟨fun {a u} h => by
  rcases h with h | ⟨o, h⟩
  · exact .inl (e _ _ h)
  · exact .inr ⟨o, e _ _ h⟩, fun h => e _ _ h⟩
theorem Lk.tup (e : Lk Z Z') {a : Addr} {xs : List V} (h : SqT K Z a xs) : SqT K Z' a xs := by
  rcases h with h | h
  · exact .inl (e.rd h)
  · exact .inr h
theorem Lk.seq (e : Lk Z Z') {a : Addr} {xs : List V} (h : SqL K Z a xs) : SqL K Z' a xs := by
  rcases h with h | h
  · exact .inl (e.rd h)
  · exact .inr h
theorem Same_tup (e : Same H H') {a : Addr} {xs : List V} (h : SqT K H a xs) : SqT K H' a xs := (Same.lk e).tup h
/-- what stands at i begins what is left from i on -/
theorem drop_at {α : Type} {l : List α} {i : Nat} {t : α} (h : l[i]? = some t) : l.drop i = t :: l.drop (i + 1) := by
  have ⟨hl, e⟩ := List.getElem?_eq_some_iff.mp h
  exact e ▸ List.drop_eq_getElem_cons hl
mutual
theorem Rep.lk (e : Lk Z Z') : ∀ {t : T} {v : V}, Rep K Z t v → Rep K Z' t v
  | .non, _, h => by simpa [Rep] using h
  | .bl _, _, h => by simpa [Rep] using h
  | .int _, _, h => by simpa [Rep] using h
  | .str _, _, h => by simpa [Rep] using h
  | .fn _, _, h => by simpa [Rep] using h
  | .tup ts, _, h => by
    simp only [Rep] at h ⊢
    obtain ⟨a, vs, h1, h2, h3⟩ := h
    exact ⟨a, vs, h1, e.st h2, Reps.lk e h3⟩
  | .lst ts, _, h => by
    simp only [Rep] at h ⊢
    obtain ⟨a, vs, h1, h2, h3⟩ := h
    exact ⟨a, vs, h1, e.st h2, Reps.lk e h3⟩
  | .wtup ts, _, h => by
    simp only [Rep] at h ⊢
    obtain ⟨a, vs, h1, h2, h3⟩ := h
    exact ⟨a, vs, h1, e.tup h2, Reps.lk e h3⟩
  | .slst ts, _, h => by
    simp only [Rep] at h ⊢
    obtain ⟨a, vs, h1, h2, h3⟩ := h
    exact ⟨a, vs, h1, e.seq h2, Reps.lk e h3⟩
  | .dicK ks ts, _, h => by
    simp only [Rep] at h ⊢
    obtain ⟨a, ob, vs, h1, h2, h3, h4⟩ := h
    exact ⟨a, ob, vs, h1, e.st h2, h3, Reps.lk e h4⟩
  | .dct φ ks ts, _, h => by
    simp only [Rep] at h ⊢
    obtain ⟨a, ob, qs, vs, h1, h2, h3, h4⟩ := h
    exact ⟨a, ob, qs, vs, h1, e.st h2, Reps.lk e h3, Reps.lk e h4⟩
  | .ext φ ks ts, _, h => by
    simp only [Rep] at h ⊢
    obtain ⟨a, qs, vs, h1, h2, h3, h4⟩ := h
    exact ⟨a, qs, vs, h1, e.rd h2, Reps.lk e h3, Reps.lk e h4⟩
  | .ins C fs ts, _, h => by
    simp only [Rep] at h ⊢
    obtain ⟨a, dx, vs, h1, h2, h3, h4⟩ := h
    exact ⟨a, dx, vs, h1, e.st h2, h3, Reps.lk e h4⟩
theorem Reps.lk (e : Lk Z Z') : ∀ {ts : List T} {vs : List V}, Reps K Z ts vs → Reps K Z' ts vs
  | [], _, h => by simpa [Reps] using h
  | t :: ts, _, h => by
    simp only [Reps] at h ⊢
    obtain ⟨v, r, h1, h2, h3⟩ := h
    exact ⟨v, r, h1, Rep.lk e h2, Reps.lk e h3⟩
end
theorem Rep.mono (e : Same Z Z') {t : T} {v : V} (h : Rep K Z t v) : Rep K Z' t v := h.lk (Same.lk e)
theorem Reps.mono (e : Same Z Z') {ts : List T} {vs : List V} (h : Reps K Z ts vs) : Reps K Z' ts vs := h.lk (Same.lk e)
theorem Reps.nil : Reps K Z [] [] := by simp [Reps]
theorem Reps.cons {t : T} {v : V} {ts : List T} {vs : List V} (h : Rep K Z t v) (r : Reps K Z ts vs) : Reps K Z (t :: ts) (v :: vs) := by
  simp only [Reps]; exact ⟨v, vs, rfl, h, r⟩
theorem Reps.uncons {t : T} {ts : List T} {vs : List V} (h : Reps K Z (t :: ts) vs) : ∃ v r, vs = v :: r ∧ Rep K Z t v ∧ Reps K Z ts r := by
  simpa only [Reps] using h
theorem Reps.unnil {vs : List V} (h : Reps K Z [] vs) : vs = [] := by simpa only [Reps] using h
theorem Reps.length : ∀ {ts : List T} {vs : List V}, Reps K Z ts vs → vs.length = ts.length
  | [], _, h => by rw [h.unnil]; rfl
  | t :: ts, _, h => by
    obtain ⟨v, r, rfl, _, h2⟩ := h.uncons
    rw [List.length_cons, List.length_cons, h2.length]
theorem Reps.get : ∀ {ts : List T} {vs : List V} {i : Nat} {v : V}, Reps K Z ts vs → vs[i]? = some v → ∃ t, ts[i]? = some t ∧ Rep K Z t v
  | [], _, _, _, h, e => by rw [h.unnil] at e; simp at e
  | t :: ts, _, 0, _, h, e => by
    obtain ⟨v, r, rfl, h1, h2⟩ := h.uncons
    simp at e; subst e
    exact ⟨t, rfl, h1⟩
  | t :: ts, _, i + 1, _, h, e => by
    obtain ⟨v, r, rfl, h1, h2⟩ := h.uncons
    simpa using h2.get (i := i) (by simpa using e)
theorem Reps.at : ∀ {ts : List T} {vs : List V} {i : Nat} {t : T}, Reps K Z ts vs → ts[i]? = some t → ∃ v, vs[i]? = some v ∧ Rep K Z t v
  | [], _, _, _, h, e => by simp at e
  | t :: ts, _, 0, _, h, e => by
    obtain ⟨v, r, rfl, h1, h2⟩ := h.uncons
    simp at e; subst e
    exact ⟨v, rfl, h1⟩
  | t :: ts, _, i + 1, _, h, e => by
    obtain ⟨v, r, rfl, h1, h2⟩ := h.uncons
    simpa using h2.at (i := i) (by simpa using e)
theorem Reps.append : ∀ {ts us : List T} {vs ws : List V}, Reps K Z ts vs → Reps K Z us ws → Reps K Z (ts ++ us) (vs ++ ws)
  | [], _, _, _, h, g => by rw [h.unnil]; exact g
  | t :: ts, _, _, _, h, g => by
    obtain ⟨v, r, rfl, h1, h2⟩ := h.uncons
    exact .cons h1 (h2.append g)
theorem ORep.lk (e : Lk Z Z') {a : Addr} {o : HO} {t : T} (h : ORep K Z a o t) : ORep K Z' a o t := by
  unfold ORep at h ⊢
  split at h
  · exact Reps.lk e h
  · exact ⟨h.1, h.2.lk e⟩
  · obtain ⟨qs, vs, h1, h2, h3⟩ := h
    exact ⟨qs, vs, h1, h2.lk e, h3.lk e⟩
  · obtain ⟨qs, vs, h1, h2, h3⟩ := h
    exact ⟨qs, vs, h1, h2.lk e, h3.lk e⟩
  · exact ⟨h.1, h.2.1, h.2.2.lk e⟩
  · exact h.elim
theorem ORep.mono (e : Same Z Z') {a : Addr} {o : HO} {t : T} (h : ORep K Z a o t) : ORep K Z' a o t := h.lk (Same.lk e)
/-- a dict: it stands locked once it is shared -/
def isD : T → Bool
  | .dicK _ _ => true
  | .dct _ _ _ => true
  | _ => false
/-- how a thing of ours stands once it is shared -/
def shut (t : T) (od : Obj) (o : HO) : HO := if isD t = true then .frz od o else o
theorem ORep.rep {o : HO} {t : T} {a : Addr} {od : Obj} (h : ORep K Z a o t) (ha : Z a = some (shut t od o)) : Rep K Z t (.ref a) := by
  unfold ORep at h
  split at h
  · simp only [Rep]; exact ⟨a, _, rfl, ha, h⟩
  · simp only [Rep]; exact ⟨a, od, _, rfl, ha, h.1, h.2⟩
  · obtain ⟨qs, vs, rfl, h2, h3⟩ := h
    simp only [Rep]; exact ⟨a, od, qs, vs, rfl, ha, h2, h3⟩
  · obtain ⟨qs, vs, rfl, h2, h3⟩ := h
    simp only [Rep]; exact ⟨a, qs, vs, rfl, .inl ha, h2, h3⟩
  · simp only [Rep]; exact ⟨a, _, _, rfl, (by rw [ha]; show some (HO.ins _ _ _) = _; rw [h.1]), h.2.1, h.2.2⟩
  · exact h.elim
theorem ORep.notbl {a : Addr} {o : HO} {t : T} (h : ORep K Z a o t) : ∀ ps, o ≠ .tbl ps := by
  rintro ps rfl
  cases t <;> exact h
theorem shut_notbl {o : HO} {t : T} {od : Obj} (h : ∀ ps, o ≠ .tbl ps) : ∀ ps, shut t od o ≠ .tbl ps := by
  intro ps
  unfold shut
  split
  · intro z; cases z
  · exact h ps
theorem ORep.mut {a : Addr} {o : HO} {t : T} (h : ORep K Z a o t) (d : isD t = true) : Mut (some o) := by
  cases t with
  | dicK ks ts => cases o with
    | dK kv => trivial
    | _ => exact h.elim
  | dct φ ks ts => cases o with
    | ext ψ => trivial
    | _ => exact h.elim
  | _ => cases d
end

/-- what is known of a slot: nothing; a value that stands still; a thing that this body alone may change -/
inductive Ent where
  | no | sh (t : T) | ow (t : T)

def Own (σ : St) (E : List Ent) (b : Addr) : Prop := ∃ (i : Nat) (t : T), E[i]? = some (.ow t) ∧ σ[i]? = some (some (.ref b))
structure StOk (K : PySem.W.Frag) (Z H : Hp) (σ : St) (E : List Ent) : Prop where
  zh : Same Z H
  nt : ∀ b ps, Z b ≠ some (.tbl ps)
  len : σ.length = E.length
  sh : ∀ (i : Nat) (t : T), E[i]? = some (.sh t) → ∃ v, σ[i]? = some (some v) ∧ Rep K Z t v
  ow : ∀ (i : Nat) (t : T), E[i]? = some (.ow t) → ∃ a o, σ[i]? = some (some (.ref a)) ∧ H a = some o ∧ Z a = none ∧ ORep K Z a o t
  ds : ∀ (i j : Nat) (a : Addr) (t u : T), E[i]? = some (.ow t) → E[j]? = some (.ow u) → σ[i]? = some (some (.ref a)) → σ[j]? = some (some (.ref a)) → i = j
structure Step (B : Addr → Prop) (Z H Z' H' : Hp) : Prop where
  zz : Same Z Z'
  keep : ∀ b o, H b = some o → ¬ B b → H' b = some o
  new : ∀ b o, Z' b = some o → Z b = some o ∨ H b = none ∨ B b
theorem Step.refl (B : Addr → Prop) (Z H : Hp) : Step B Z H Z H := ⟨Same.refl _, fun _ _ h _ => h, fun _ _ h => .inl h⟩
theorem Step.there {B : Addr → Prop} {Z H Z1 H1 : Hp} (a : Step B Z H Z1 H1) {b : Addr} (h : H1 b = none) : H b = none ∨ B b := by
  cases e : H b with
  | none => exact .inl rfl
  | some o =>
    refine .inr (Classical.byContradiction fun nb => ?_)
    rw [a.keep b o e nb] at h; cases h
theorem Step.trans {B B1 : Addr → Prop} {Z H Z1 H1 Z2 H2 : Hp} (a : Step B Z H Z1 H1) (b : Step B1 Z1 H1 Z2 H2) (hb : ∀ c, B1 c → B c ∨ H c = none) : Step B Z H Z2 H2 where
  zz := a.zz.trans b.zz
  keep := fun c o e nb => b.keep c o (a.keep c o e nb) fun z => by
    rcases hb c z with z | z
    · exact nb z
    · rw [e] at z; cases z
  new := fun c o e => by
    rcases b.new c o e with h | h | h
    · exact a.new c o h
    · exact .inr (a.there h)
    · rcases hb c h with z | z
      · exact .inr (.inr z)
      · exact .inr (.inl z)

/-- the static facts of a body -/
structure SS where
  P : Program
  w : World
  K : PySem.W.Frag
  mg : Str → Option Value
  base : Heap
  k : Nat
  N : List Str
  sc : Scope
  fnb : Str → Bool
  pin : List Nat
abbrev SS.cx (S : SS) (A : Around) (s0 : Shared) (H0 : Hp) (env : PySem.Env) (outer stack : List PySem.Env) (ex : List Addr) (pn : List (Addr × Obj)) (xe : Value → Shared → Prop) : Cx :=
  { prog := S.P, w := S.w, K := S.K, mg := S.mg, base := S.base, A := A, N := S.N, s_0 := s0, H_0 := H0, env := env, outer := outer, stack := stack, ex := ex, fn := S.fnb, calm := true, pn := pn, xe := xe }
structure SS.Has (S : SS) (W : WX) (X : Cx) : Prop where
  ex : ∃ A s0 H0 env outer stack ex pn xe, X = S.cx A s0 H0 env outer stack ex pn xe
  room : Room S.k X.A
  sc : X.env.scope = S.sc
  tk : Takes X W
  po : PassesOwn (model X.prog X.w) X.A X.env X.xe
/-- the weakest reading of an expression -/
def R (S : SS) (W : WX) (e : Expr) : TE := fun σ H Q => ∀ X, S.Has W X → ∀ pins s, Inv X pins σ H s → wpAny (model X.prog X.w) X.A (eval e X.env) (EP X pins σ Q) X.xe s
def RT (S : SS) (W : WX) (e : Expr) : TT := fun σ H Q => ∀ X, S.Has W X → ∀ pins s, Inv X pins σ H s → wpAny (model X.prog X.w) X.A (isTrue e X.env (eval e X.env)) (TP X pins σ Q) X.xe s
def RA (S : SS) (W : WX) (es : List Expr) : TA := fun σ H Q => ∀ X, S.Has W X → ∀ pos pins s, Inv X pins σ H s → wpAny (model X.prog X.w) X.A (spliced (backTo pos (starEach es X.env))) (AP X pins σ Q) X.xe s
def RSt (S : SS) (W : WX) (st : Stmt) : TS := fun D σ H => ∀ X, S.Has W X → ∀ pins s, Inv X pins σ H s → wpAny (model X.prog X.w) X.A (exec st X.env) (SP X pins D) X.xe s
def RSs (S : SS) (W : WX) (st : List Stmt) : TS := fun D σ H => ∀ X, S.Has W X → ∀ pins s, Inv X pins σ H s → wpAny (model X.prog X.w) X.A (execs st X.env) (SP X pins D) X.xe s
section
variable {S : SS} {W : WX} {X : Cx} {e : Expr} {es : List Expr} {st : Stmt} {sts : List Stmt} {σ : St} {H : Hp}
theorem SS.Has.pe (h : S.Has W X) (e : Expr) : PE X e (R S W e) := ⟨fun pins s σ H Q I q => q X h pins s I⟩
theorem SS.Has.pt (h : S.Has W X) (e : Expr) : PT X e (RT S W e) := ⟨fun pins s σ H Q I q => q X h pins s I⟩
theorem SS.Has.pa (h : S.Has W X) (es : List Expr) : PA X es (RA S W es) := ⟨fun pos pins s σ H Q I q => q X h pos pins s I⟩
theorem SS.Has.ps (h : S.Has W X) (st : Stmt) : PS X st (RSt S W st) := ⟨fun pins s σ H D I q => q X h pins s I⟩
theorem SS.Has.pss (h : S.Has W X) (sts : List Stmt) : PSs X sts (RSs S W sts) := ⟨fun pins s σ H D I q => q X h pins s I⟩
theorem R.mk {t : TE} {Q : VK} (h : ∀ X, S.Has W X → PE X e t) (q : t σ H Q) : R S W e σ H Q := fun X hX pins s I => (h X hX).run pins s σ H Q I q
theorem RT.mk {t : TT} {Q : Bool → Hp → Prop} (h : ∀ X, S.Has W X → PT X e t) (q : t σ H Q) : RT S W e σ H Q := fun X hX pins s I => (h X hX).run pins s σ H Q I q
theorem RA.mk {t : TA} {Q : List V → Hp → Prop} (h : ∀ X, S.Has W X → PA X es t) (q : t σ H Q) : RA S W es σ H Q := fun X hX pos pins s I => (h X hX).run pos pins s σ H Q I q
theorem RSt.mk {t : TS} {D : Ends} (h : ∀ X, S.Has W X → PS X st t) (q : t D σ H) : RSt S W st D σ H := fun X hX pins s I => (h X hX).run pins s σ H D I q
theorem RSs.mk {t : TS} {D : Ends} (h : ∀ X, S.Has W X → PSs X sts t) (q : t D σ H) : RSs S W sts D σ H := fun X hX pins s I => (h X hX).run pins s σ H D I q
end

/-- from a state to another -/
structure Go (S : SS) (E : List Ent) (σ : St) (Z H : Hp) (E' : List Ent) (σ' : St) (Z' H' : Hp) : Prop where
  step : Step (Own σ E) Z H Z' H'
  st : StOk S.K Z' H' σ' E'
  ow : ∀ b, Own σ' E' b → Own σ E b ∨ H b = none
  pin : ∀ j ∈ S.pin, σ'[j]? = σ[j]?
theorem Go.refl {S : SS} {E : List Ent} {σ : St} {Z H : Hp} (h : StOk S.K Z H σ E) : Go S E σ Z H E σ Z H := ⟨Step.refl _ _ _, h, fun _ z => .inl z, fun _ _ => rfl⟩
theorem Go.trans {S : SS} {E E1 E2 : List Ent} {σ σ1 σ2 : St} {Z H Z1 H1 Z2 H2 : Hp} (a : Go S E σ Z H E1 σ1 Z1 H1) (b : Go S E1 σ1 Z1 H1 E2 σ2 Z2 H2) : Go S E σ Z H E2 σ2 Z2 H2 where
  step := a.step.trans b.step a.ow
  st := b.st
  ow := fun c h => by
    rcases b.ow c h with h | h
    · exact a.ow c h
    · exact (a.step.there h).symm
  pin := fun j hj => (b.pin j hj).trans (a.pin j hj)

/-- in E the expression e gives t and leaves E' -/
def EG (S : SS) (E : List Ent) (e : Expr) (t : T) (E' : List Ent) : Prop :=
  ∀ (W : WX) (Z H : Hp) (σ : St) (Q : VK), StOk S.K Z H σ E → (∀ v H' Z', Go S E σ Z H E' σ Z' H' → Rep S.K Z' t v → Q v H') → R S W e σ H Q
def EAs (S : SS) (E : List Ent) (es : List Expr) (ts : List T) (E' : List Ent) : Prop :=
  ∀ (W : WX) (Z H : Hp) (σ : St) (Q : List V → Hp → Prop), StOk S.K Z H σ E → (∀ vs H' Z', Go S E σ Z H E' σ Z' H' → Reps S.K Z' ts vs → Q vs H') → RA S W es σ H Q
/-- a test -/
def TtG (S : SS) (E : List Ent) (e : Expr) (b : Bool) (E' : List Ent) : Prop :=
  ∀ (W : WX) (Z H : Hp) (σ : St) (Q : Bool → Hp → Prop), StOk S.K Z H σ E → (∀ H' Z', Go S E σ Z H E' σ Z' H' → Q b H') → RT S W e σ H Q
inductive Oc where
  | nx (E : List Ent) | ret (t : T) (E : List Ent) | exc (C : Addr) (E : List Ent) | brk (E : List Ent) | cnt (E : List Ent)
def Oc.Ok (S : SS) (E : List Ent) (σ : St) (Z H : Hp) (D : Ends) (W : WX) : Oc → Prop
  | .nx E' => ∀ σ' Z' H', Go S E σ Z H E' σ' Z' H' → D.nx σ' H'
  | .ret t E' => ∀ v σ' Z' H', Go S E σ Z H E' σ' Z' H' → Rep S.K Z' t v → D.rt v H'
  | .exc C E' => ∀ σ' Z' H', Go S E σ Z H E' σ' Z' H' → W (.ref C) none σ' H'
  | .brk E' => ∀ σ' Z' H', Go S E σ Z H E' σ' Z' H' → D.bk σ' H'
  | .cnt E' => ∀ σ' Z' H', Go S E σ Z H E' σ' Z' H' → D.ct σ' H'
/-- in E a block ends so -/
def SGs (S : SS) (E : List Ent) (sts : List Stmt) (o : Oc) : Prop :=
  ∀ (W : WX) (Z H : Hp) (σ : St) (D : Ends), StOk S.K Z H σ E → o.Ok S E σ Z H D W → RSs S W sts D σ H
def SG (S : SS) (E : List Ent) (st : Stmt) (o : Oc) : Prop :=
  ∀ (W : WX) (Z H : Hp) (σ : St) (D : Ends), StOk S.K Z H σ E → o.Ok S E σ Z H D W → RSt S W st D σ H
theorem Oc.Ok.after {S : SS} {E E1 : List Ent} {σ σ1 : St} {Z H Z1 H1 : Hp} {D : Ends} {W : WX} {o : Oc} (h : o.Ok S E σ Z H D W) (a : Go S E σ Z H E1 σ1 Z1 H1) : o.Ok S E1 σ1 Z1 H1 D W := by
  cases o with
  | nx E' => exact fun _ _ _ g => h _ _ _ (a.trans g)
  | ret t E' => exact fun _ _ _ _ g r => h _ _ _ _ (a.trans g) r
  | exc C E' => exact fun _ _ _ g => h _ _ _ (a.trans g)
  | brk E' => exact fun _ _ _ g => h _ _ _ (a.trans g)
  | cnt E' => exact fun _ _ _ g => h _ _ _ (a.trans g)
end Cw
end L2

set_option Elab.async false
set_option linter.all false
set_option maxRecDepth 100000
set_option maxHeartbeats 2000000
namespace L2
namespace Cw
open PySem PySem.Spec PyProof.Rows
section
variable {K : PySem.W.Frag} {Z Z' H H' : Hp} {σ : St} {E E1 E2 E3 : List Ent} {S : SS}
theorem rep_int {i : Int} {v : V} : Rep K Z (.int i) v ↔ v = .int i := by simp [Rep]
theorem rep_bl {i : Bool} {v : V} : Rep K Z (.bl i) v ↔ v = .bl i := by simp [Rep]
theorem rep_str {i : Str} {v : V} : Rep K Z (.str i) v ↔ v = .str i := by simp [Rep]
theorem rep_non {v : V} : Rep K Z .non v ↔ v = .non := by simp [Rep]
theorem rep_fn {a : Addr} {v : V} : Rep K Z (.fn a) v ↔ v = .ref a := by simp [Rep]
theorem rep_tup {ts : List T} {v : V} : Rep K Z (.tup ts) v ↔ ∃ a vs, v = .ref a ∧ Z a = some (.tup vs) ∧ Reps K Z ts vs := by simp only [Rep]
theorem rep_lst {ts : List T} {v : V} : Rep K Z (.lst ts) v ↔ ∃ a vs, v = .ref a ∧ Z a = some (.lst vs) ∧ Reps K Z ts vs := by simp only [Rep]
theorem rep_wtup {ts : List T} {v : V} : Rep K Z (.wtup ts) v ↔ ∃ a vs, v = .ref a ∧ SqT K Z a vs ∧ Reps K Z ts vs := by simp only [Rep]
theorem rep_slst {ts : List T} {v : V} : Rep K Z (.slst ts) v ↔ ∃ a vs, v = .ref a ∧ SqL K Z a vs ∧ Reps K Z ts vs := by simp only [Rep]
theorem rep_dct {φ : Addr → List V → List V → Heap → Prop} {ks ts : List T} {v : V} : Rep K Z (.dct φ ks ts) v ↔ ∃ a ob qs vs, v = .ref a ∧ Z a = some (.frz ob (.ext (φ a qs vs))) ∧ Reps K Z ks qs ∧ Reps K Z ts vs := by simp only [Rep]
theorem rep_dicK {ks : List Key} {ts : List T} {v : V} : Rep K Z (.dicK ks ts) v ↔ ∃ a ob kv, v = .ref a ∧ Z a = some (.frz ob (.dK kv)) ∧ kv.map Prod.fst = ks ∧ Reps K Z ts (kv.map Prod.snd) := by simp only [Rep]
theorem rep_ext {φ : Addr → List V → List V → Heap → Prop} {ks ts : List T} {v : V} : Rep K Z (.ext φ ks ts) v ↔ ∃ a qs vs, v = .ref a ∧ Rd Z a (.ext (φ a qs vs)) ∧ Reps K Z ks qs ∧ Reps K Z ts vs := by simp only [Rep]
theorem rep_ins {C : Addr} {fs : List Str} {ts : List T} {v : V} : Rep K Z (.ins C fs ts) v ↔ ∃ a dx fv, v = .ref a ∧ Z a = some (.ins C dx fv) ∧ fv.map Prod.fst = fs ∧ Reps K Z ts (fv.map Prod.snd) := by simp only [Rep]

/-- a new object is laid and frozen -/
theorem Go.alloc (st : StOk S.K Z H σ E) {p : Addr} {o : HO} (hp : H p = none) (ho : ∀ ps, o ≠ .tbl ps) : Go S E σ Z H E σ (upd Z p o) (upd H p o) where
  step := by
    refine ⟨fun b u e => ?_, fun b u e _ => ?_, fun b u e => ?_⟩
    · rw [upd_ne (ne_of_none (st.zh b u e) hp)]; exact e
    · rw [upd_ne (ne_of_none e hp)]; exact e
    · by_cases hb : b = p
      · subst hb; exact .inr (.inl hp)
      · rw [upd_ne hb] at e; exact .inl e
  st := by
    have zz : Same Z (upd Z p o) := fun b u e => by rw [upd_ne (ne_of_none (st.zh b u e) hp)]; exact e
    refine ⟨fun b u e => ?_, fun b ps e => ?_, st.len, fun i t h => ?_, fun i t h => ?_, st.ds⟩
    · by_cases hb : b = p
      · subst hb; rw [upd_same] at e ⊢; exact e
      · rw [upd_ne hb] at e ⊢; exact st.zh b u e
    · by_cases hb : b = p
      · subst hb; rw [upd_same] at e; exact ho ps (Option.some.inj e)
      · rw [upd_ne hb] at e; exact st.nt b ps e
    · obtain ⟨v, h1, h2⟩ := st.sh i t h
      exact ⟨v, h1, h2.mono zz⟩
    · obtain ⟨a, u, h1, h2, h3, h4⟩ := st.ow i t h
      have ne := ne_of_none h2 hp
      exact ⟨a, u, h1, by rw [upd_ne ne]; exact h2, by rw [upd_ne ne]; exact h3, h4.mono zz⟩
  ow := fun b h => .inl h
  pin := fun _ _ => rfl

/-! ### operators and calls by values -/
def OpG (S : SS) (r : R2) (ta tb t : T) : Prop := ∀ E Z H σ v u (Q : VK), StOk S.K Z H σ E → Rep S.K Z ta v → Rep S.K Z tb u → (∀ w H' Z', Go S E σ Z H E σ Z' H' → Rep S.K Z' t w → Q w H') → r v u H Q
def CallG (S : SS) (r : List V → Hp → VK → Prop) (ts : List T) (t : T) : Prop := ∀ E Z H σ vs (Q : VK), StOk S.K Z H σ E → Reps S.K Z ts vs → (∀ w H' Z', Go S E σ Z H E σ Z' H' → Rep S.K Z' t w → Q w H') → r vs H Q

structure VarOk (S : SS) (i : Nat) (x : Str) : Prop where
  hN : S.N[i]? = some x
  vis : Vis S.sc x
  h1 : (x == ("__debug__" : Str)) = false
  h2 : (x == ("__classdict__" : Str)) = false
structure StoOk (S : SS) (i : Nat) (x : Str) : Prop where
  nd : S.N.Nodup
  hN : S.N[i]? = some x
  loc : Loc S.sc x
  hf : S.fnb x = true ∨ S.sc.names.lookup x = some .local
  np : i ∉ S.pin
structure GlOk (S : SS) (x : Str) : Prop where
  gl : S.sc.names.lookup x = some .globalImplicit
  h1 : (x == ("__debug__" : Str)) = false
theorem GlOk.at {x : Str} (g : GlOk S x) {W : WX} {X : Cx} (h : S.Has W X) : Gl X x := by
  unfold Gl PySem.Env.kindOf
  rw [h.sc]
  exact g.gl

theorem eg_sh {i : Nat} {x : Str} {pos : Pos} {t : T} (v : VarOk S i x) (h : E[i]? = some (.sh t)) : EG S E (.Name x pos) t E := fun W Z H σ Q st k => by
  obtain ⟨u, h1, h2⟩ := st.sh i t h
  refine R.mk (fun X hX => ?_) (show tVar i σ H Q from ⟨u, h1, k u H Z (Go.refl st) h2⟩)
  have hs := hX.sc
  obtain ⟨A, s0, H0, env, outer, stack, ex, pn, xe, rfl⟩ := hX.ex
  exact pe_var v.hN (by rw [hs]; exact v.vis) v.h1 v.h2
theorem eg_int {n : Int} {j : Nat} {pos : Pos} : EG S E (.Constant (.int n) j pos) (.int n) E := fun W Z H σ Q st k => R.mk (fun X hX => pe_int) (show tC (.int n) σ H Q from k _ _ Z (Go.refl st) (by simp [Rep]))
theorem eg_str {n : Str} {j : Nat} {pos : Pos} : EG S E (.Constant (.str n) j pos) (.str n) E := fun W Z H σ Q st k => R.mk (fun X hX => pe_str) (show tC (.str n) σ H Q from k _ _ Z (Go.refl st) (by simp [Rep]))
theorem eg_bl {n : Bool} {j : Nat} {pos : Pos} : EG S E (.Constant (.bool n) j pos) (.bl n) E := fun W Z H σ Q st k => R.mk (fun X hX => pe_bl) (show tC (.bl n) σ H Q from k _ _ Z (Go.refl st) (by simp [Rep]))
theorem eg_non {j : Nat} {pos : Pos} : EG S E (.Constant .none j pos) .non E := fun W Z H σ Q st k => R.mk (fun X hX => pe_non) (show tC .non σ H Q from k _ _ Z (Go.refl st) (by simp [Rep]))
/-- a module's name -/
theorem eg_glob {x : Str} {pos : Pos} {t : T} {v : V} {u : Value} (g : GlOk S x) (hm : S.mg x = some u) (r : RelV v u) (h : ∀ Z, Rep S.K Z t v) : EG S E (.Name x pos) t E := fun W Z H σ Q st k => by
  refine R.mk (fun X hX => ?_) (show tC v σ H Q from k _ _ Z (Go.refl st) (h Z))
  have gg := g.at hX
  obtain ⟨A, s0, H0, env, outer, stack, ex, pn, xe, rfl⟩ := hX.ex
  exact pe_glob gg hm r g.h1

/-- two parts one after the other -/
theorem eg_two {a b e : Expr} {ta tb t : T} {r : R2} (ha : EG S E a ta E1) (hb : EG S E1 b tb E2) (hr : OpG S r ta tb t)
    (he : ∀ W X, S.Has W X → PE X e (tOp r (R S W a) (R S W b))) : EG S E e t E2 := fun W Z H σ Q st k => by
  refine R.mk (fun X hX => he W X hX) (ha W Z H σ _ st fun v H1 Z1 g1 r1 => hb W Z1 H1 σ _ g1.st fun u H2 Z2 g2 r2 => ?_)
  exact hr _ _ _ _ _ _ _ g2.st (r1.mono g2.step.zz) r2 fun w H3 Z3 g3 r3 => k w H3 Z3 ((g1.trans g2).trans g3) r3
theorem eg_op {a b : Expr} {pos : Pos} {op : Operator} {ta tb t : T} {r : R2} (ho : ∀ W X, S.Has W X → OpR X (binaryOp op) r) (hr : OpG S r ta tb t) (ha : EG S E a ta E1) (hb : EG S E1 b tb E2) : EG S E (.BinOp a op b pos) t E2 :=
  eg_two ha hb hr fun W X hX => pe_op (ho W X hX) (hX.pe a) (hX.pe b)
theorem eg_cmp {a b : Expr} {pos : Pos} {op : CmpOp} {ta tb t : T} {r : R2} (ho : ∀ W X, S.Has W X → OpR X (compareOp op) r) (hr : OpG S r ta tb t) (ha : EG S E a ta E1) (hb : EG S E1 b tb E2) (hm : behindInMarks op b = false) : EG S E (.Compare a [op] [b] pos) t E2 :=
  eg_two ha hb hr fun W X hX => pe_cmpR (ho W X hX) (hX.pe a) (hX.pe b) hm
theorem eg_ix {a b : Expr} {pos : Pos} {ta tb t : T} {r : R2} (ho : ∀ W X, S.Has W X → IxR X r) (hr : OpG S r ta tb t) (ha : EG S E a ta E1) (hb : EG S E1 b tb E2) (hm : PlainIx b) : EG S E (.Subscript a b pos) t E2 :=
  eg_two ha hb hr fun W X hX => pe_ix (ho W X hX) (hX.pe a) (hX.pe b) hm

theorem opg_rI0 {g : Int → Int → V} {i j : Int} {t : T} (h : ∀ Z, Rep S.K Z t (g i j)) : OpG S (rI0 g) (.int i) (.int j) t := fun E Z H σ v u Q st r1 r2 k =>
  ⟨i, j, rep_int.mp r1, rep_int.mp r2, k _ _ _ (Go.refl st) (h _)⟩
theorem opg_rI {C : Int → Int → Prop} {g : Int → Int → V} {i j : Int} {t : T} (hc : C i j) (h : ∀ Z, Rep S.K Z t (g i j)) : OpG S (rI C g) (.int i) (.int j) t := fun E Z H σ v u Q st r1 r2 k =>
  ⟨i, j, rep_int.mp r1, rep_int.mp r2, hc, k _ _ _ (Go.refl st) (h _)⟩

section
variable {a b : Expr} {pos : Pos} {i j : Int}
theorem eg_add (ha : EG S E a (.int i) E1) (hb : EG S E1 b (.int j) E2) : EG S E (.BinOp a .Add b pos) (.int (i + j)) E2 := eg_op (fun _ _ _ => op_add) (opg_rI0 fun _ => rep_int.mpr rfl) ha hb
theorem eg_sub (ha : EG S E a (.int i) E1) (hb : EG S E1 b (.int j) E2) : EG S E (.BinOp a .Sub b pos) (.int (i - j)) E2 := eg_op (fun _ _ _ => op_sub) (opg_rI0 fun _ => rep_int.mpr rfl) ha hb
theorem eg_mul (ha : EG S E a (.int i) E1) (hb : EG S E1 b (.int j) E2) (h : CMul i j) : EG S E (.BinOp a .Mult b pos) (.int (i * j)) E2 := eg_op (fun _ _ _ => op_mul) (opg_rI h fun _ => rep_int.mpr rfl) ha hb
theorem eg_mod (ha : EG S E a (.int i) E1) (hb : EG S E1 b (.int j) E2) (h : j ≠ 0) : EG S E (.BinOp a .Mod b pos) (.int (i.fmod j)) E2 := eg_op (fun _ _ _ => op_modN) (opg_rI h fun _ => rep_int.mpr rfl) ha hb
theorem eg_fdiv (ha : EG S E a (.int i) E1) (hb : EG S E1 b (.int j) E2) (h : CDivN i j) : EG S E (.BinOp a .FloorDiv b pos) (.int (i.fdiv j)) E2 := eg_op (fun _ _ _ => op_fdivN) (opg_rI h fun _ => rep_int.mpr rfl) ha hb
theorem eg_lt (ha : EG S E a (.int i) E1) (hb : EG S E1 b (.int j) E2) (hm : behindInMarks .Lt b = false := by exact nomark _) : EG S E (.Compare a [.Lt] [b] pos) (.bl (decide (i < j))) E2 := eg_cmp (fun _ _ _ => op_lt) (opg_rI0 fun _ => rep_bl.mpr rfl) ha hb hm
theorem eg_le (ha : EG S E a (.int i) E1) (hb : EG S E1 b (.int j) E2) (hm : behindInMarks .LtE b = false := by exact nomark _) : EG S E (.Compare a [.LtE] [b] pos) (.bl (decide (i ≤ j))) E2 := eg_cmp (fun _ _ _ => op_le) (opg_rI0 fun _ => rep_bl.mpr rfl) ha hb hm
theorem eg_gt (ha : EG S E a (.int i) E1) (hb : EG S E1 b (.int j) E2) (hm : behindInMarks .Gt b = false := by exact nomark _) : EG S E (.Compare a [.Gt] [b] pos) (.bl (decide (j < i))) E2 := eg_cmp (fun _ _ _ => op_gt) (opg_rI0 fun _ => rep_bl.mpr rfl) ha hb hm
theorem eg_ge (ha : EG S E a (.int i) E1) (hb : EG S E1 b (.int j) E2) (hm : behindInMarks .GtE b = false := by exact nomark _) : EG S E (.Compare a [.GtE] [b] pos) (.bl (decide (j ≤ i))) E2 := eg_cmp (fun _ _ _ => op_ge) (opg_rI0 fun _ => rep_bl.mpr rfl) ha hb hm
end
end
end Cw
end L2

set_option Elab.async false
set_option linter.all false
set_option maxRecDepth 100000
set_option maxHeartbeats 2000000
namespace L2
namespace Cw
open PySem PySem.Spec PyProof.Rows
section
variable {K : PySem.W.Frag} {Z Z' H H' : Hp} {σ : St} {E E1 E2 E3 : List Ent} {S : SS}
/-! ### arguments, displays -/
theorem eas_nil : EAs S E [] [] E := fun W Z H σ Q st k => RA.mk (fun X hX => pa_nil) (show tNil σ H Q from k _ _ _ (Go.refl st) .nil)
theorem eas_cons {e : Expr} {es : List Expr} {t : T} {ts : List T} (ha : EG S E e t E1) (hb : EAs S E1 es ts E2) (hs : ∀ env, starEach (e :: es) env = (false, eval e env) :: starEach es env := by intro _; rfl) : EAs S E (e :: es) (t :: ts) E2 := fun W Z H σ Q st k =>
  RA.mk (t := tCons (R S W e) (RA S W es)) (fun X hX => pa_cons (hX.pe e) (hX.pa es) (hs _)) (ha W Z H σ _ st fun v H1 Z1 g1 r1 => hb W Z1 H1 σ _ g1.st fun vs H2 Z2 g2 r2 => k _ H2 Z2 (g1.trans g2) (.cons (r1.mono g2.step.zz) r2))
theorem eg_tup {es : List Expr} {ts : List T} {pos : Pos} {j : Nat} (h : EAs S E es ts E1) (hl : ts.length ≤ 16777216) : EG S E (.Tuple es j pos) (.tup ts) E1 := fun W Z H σ Q st k =>
  R.mk (t := tTup (RA S W es)) (fun X hX => pe_tup (hX.pa es)) (h W Z H σ _ st fun vs H1 Z1 g1 r1 => ⟨by rw [r1.length, sizeLine_eq]; exact hl, fun p hp => by
    have g2 := Go.alloc g1.st (o := .tup vs) hp (by intro ps q; cases q)
    exact k _ _ _ (g1.trans g2) (rep_tup.mpr ⟨p, vs, rfl, upd_same, r1.mono g2.step.zz⟩)⟩)
theorem eg_lst {es : List Expr} {ts : List T} {pos : Pos} (h : EAs S E es ts E1) (hl : ts.length ≤ 16777216) : EG S E (.List es pos) (.lst ts) E1 := fun W Z H σ Q st k =>
  R.mk (t := tLst (RA S W es)) (fun X hX => pe_lst (hX.pa es)) (h W Z H σ _ st fun vs H1 Z1 g1 r1 => ⟨by rw [r1.length, sizeLine_eq]; exact hl, fun p hp => by
    have g2 := Go.alloc g1.st (o := .lst vs) hp (by intro ps q; cases q)
    exact k _ _ _ (g1.trans g2) (rep_lst.mpr ⟨p, vs, rfl, upd_same, r1.mono g2.step.zz⟩)⟩)

/-! ### calls of built-ins -/
theorem eg_callB {e : Expr} {es : List Expr} {ts : List T} {t : T} {x : Str} {id : String} {r : List V → Hp → VK → Prop} {p pos : Pos} (hc : ∀ W X, S.Has W X → CallR X (.builtin id) r) (hr : CallG S r ts t) (g : GlOk S x) (hm : S.mg x = none) (hv : bootBuiltins x = some (.builtin id)) (ha : EAs S E (e :: es) ts E1)
    (hn : x ≠ "__name__" := by decide) (he : ∀ env, starEach (e :: es) env = (false, eval e env) :: starEach es env := by intro _; rfl) (hpl : ∀ env, (backTo pos (starEach es env)).any (·.1) = false := by intro _; rfl) : EG S E (.Call (.Name x p) (e :: es) [] pos) t E1 := fun W Z H σ Q st k => by
  refine R.mk (t := tCB r (RA S W (e :: es))) (fun X hX => ?_) (ha W Z H σ _ st fun vs H1 Z1 g1 r1 => hr _ _ _ _ _ _ g1.st r1 fun w H2 Z2 g2 r2 => k w H2 Z2 (g1.trans g2) r2)
  have gg := g.at hX
  have cc := hc W X hX
  have pa := hX.pa (e :: es)
  obtain ⟨A, s0, H0, env, outer, stack, ex, pn, xe, rfl⟩ := hX.ex
  exact pe_callB cc gg hm hv pa hn g.h1 (he _) (hpl _)
theorem eg_callTy {e : Expr} {es : List Expr} {ts : List T} {t : T} {x : Str} {id : String} {r : List V → Hp → VK → Prop} {p pos : Pos} (hc : ∀ W X, S.Has W X → CallR X (.type id) r) (hr : CallG S r ts t) (g : GlOk S x) (hm : S.mg x = none) (hv : bootBuiltins x = some (.type id)) (ha : EAs S E (e :: es) ts E1)
    (hn : x ≠ "__name__" := by decide) (he : ∀ env, starEach (e :: es) env = (false, eval e env) :: starEach es env := by intro _; rfl) (hpl : ∀ env, (backTo pos (starEach es env)).any (·.1) = false := by intro _; rfl) : EG S E (.Call (.Name x p) (e :: es) [] pos) t E1 := fun W Z H σ Q st k => by
  refine R.mk (t := tCB r (RA S W (e :: es))) (fun X hX => ?_) (ha W Z H σ _ st fun vs H1 Z1 g1 r1 => hr _ _ _ _ _ _ g1.st r1 fun w H2 Z2 g2 r2 => k w H2 Z2 (g1.trans g2) r2)
  have gg := g.at hX
  have cc := hc W X hX
  have pa := hX.pa (e :: es)
  obtain ⟨A, s0, H0, env, outer, stack, ex, pn, xe, rfl⟩ := hX.ex
  exact pe_callTy cc gg hm hv pa hn g.h1 (he _) (hpl _)
theorem SS.Has.kk {W : WX} {X : Cx} (h : S.Has W X) : X.K = S.K := by obtain ⟨A, s0, H0, env, outer, stack, ex, pn, xe, rfl⟩ := h.ex; rfl
theorem SS.Has.calm {W : WX} {X : Cx} (h : S.Has W X) : X.calm = true := by obtain ⟨A, s0, H0, env, outer, stack, ex, pn, xe, rfl⟩ := h.ex; rfl
theorem SS.Has.hw {W : WX} {X : Cx} (h : S.Has W X) : X.w = S.w := by obtain ⟨A, s0, H0, env, outer, stack, ex, pn, xe, rfl⟩ := h.ex; rfl
theorem SS.Has.hP {W : WX} {X : Cx} (h : S.Has W X) : X.prog = S.P := by obtain ⟨A, s0, H0, env, outer, stack, ex, pn, xe, rfl⟩ := h.ex; rfl

theorem reps_one {t : T} {vs : List V} (h : Reps K Z [t] vs) : ∃ v, vs = [v] ∧ Rep K Z t v := by
  obtain ⟨v, r, rfl, h1, h2⟩ := h.uncons
  rw [h2.unnil]
  exact ⟨v, rfl, h1⟩
theorem reps_two {t u : T} {vs : List V} (h : Reps K Z [t, u] vs) : ∃ v w, vs = [v, w] ∧ Rep K Z t v ∧ Rep K Z u w := by
  obtain ⟨v, r, rfl, h1, h2⟩ := h.uncons
  obtain ⟨w, rfl, h3⟩ := reps_one h2
  exact ⟨v, w, rfl, h1, h3⟩
/-- what may stand as a sequence -/
inductive SeqT : T → List T → Prop
  | tup {ts} : SeqT (.tup ts) ts
  | lst {ts} : SeqT (.lst ts) ts
  | wtup {ts} : SeqT (.wtup ts) ts
  | slst {ts} : SeqT (.slst ts) ts
theorem SeqT.rep {t : T} {ts : List T} (q : SeqT t ts) (zh : Same Z H) {v : V} (h : Rep K Z t v) : ∃ a vs, v = .ref a ∧ (SqL K H a vs ∨ SqT K H a vs) ∧ Reps K Z ts vs := by
  cases q with
  | tup => obtain ⟨a, vs, rfl, h1, h2⟩ := rep_tup.mp h; exact ⟨a, vs, rfl, .inr (.inl (.inl (zh _ _ h1))), h2⟩
  | lst => obtain ⟨a, vs, rfl, h1, h2⟩ := rep_lst.mp h; exact ⟨a, vs, rfl, .inl (.inl (.inl (zh _ _ h1))), h2⟩
  | wtup => obtain ⟨a, vs, rfl, h1, h2⟩ := rep_wtup.mp h; exact ⟨a, vs, rfl, .inr (Same_tup zh h1), h2⟩
  | slst => obtain ⟨a, vs, rfl, h1, h2⟩ := rep_slst.mp h; exact ⟨a, vs, rfl, .inl (zh.seq h1), h2⟩
section
variable {e : Expr} {t : T} {ts : List T} {p pos : Pos} {x : Str}
theorem eg_len {t : T} (q : SeqT t ts) (g : GlOk S "len") (hm : S.mg "len" = none) (ha : EG S E e t E1) (he : ∀ env, starEach [e] env = (false, eval e env) :: starEach [] env := by intro _; rfl) : EG S E (.Call (.Name "len" p) [e] [] pos) (.int ts.length) E1 :=
  eg_callB (r := fun xs H Q => ∃ p ys, xs = [V.ref p] ∧ (SqL S.K H p ys ∨ SqT S.K H p ys) ∧ Q (V.int (ys.length : Nat)) H) (fun W X hX => by rw [← hX.kk]; exact call_len_seq) (fun E Z H σ vs Q st r k => by
    obtain ⟨v, rfl, h⟩ := reps_one r
    obtain ⟨a, vs, rfl, h1, h2⟩ := q.rep st.zh h
    exact ⟨a, vs, rfl, h1, k _ _ _ (Go.refl st) (by rw [h2.length]; exact rep_int.mpr rfl)⟩) g hm boot_len (eas_cons ha eas_nil he) (by decide) he (by intro _; rfl)
theorem eg_tupleL (g : GlOk S "tuple") (hm : S.mg "tuple" = none) (ha : EG S E e (.lst ts) E1) (he : ∀ env, starEach [e] env = (false, eval e env) :: starEach [] env := by intro _; rfl) : EG S E (.Call (.Name "tuple" p) [e] [] pos) (.tup ts) E1 :=
  eg_callTy (r := fun xs H Q => ∃ p ys, xs = [V.ref p] ∧ ((SqL S.K H p ys ∧ ∀ (l : Addr), H l = none → Q (V.ref l) (upd H l (HO.tup ys))) ∨ SqT S.K H p ys ∧ Q (V.ref p) H)) (fun W X hX => by rw [← hX.kk]; exact call_tuple_of) (fun E Z H σ vs Q st r k => by
    obtain ⟨v, rfl, h⟩ := reps_one r
    obtain ⟨a, vs, rfl, h1, h2⟩ := rep_lst.mp h
    refine ⟨a, vs, rfl, .inl ⟨.inl (.inl (st.zh _ _ h1)), fun l hl => ?_⟩⟩
    have g2 := Go.alloc st (o := .tup vs) hl (by intro ps q; cases q)
    exact k _ _ _ g2 (rep_tup.mpr ⟨l, vs, rfl, upd_same, h2.mono g2.step.zz⟩)) g hm (by decide +kernel) (eas_cons ha eas_nil he) (by decide) he (by intro _; rfl)
theorem eg_tupleT (g : GlOk S "tuple") (hm : S.mg "tuple" = none) (ha : EG S E e (.tup ts) E1) (he : ∀ env, starEach [e] env = (false, eval e env) :: starEach [] env := by intro _; rfl) : EG S E (.Call (.Name "tuple" p) [e] [] pos) (.tup ts) E1 :=
  eg_callTy (r := fun xs H Q => ∃ p ys, xs = [V.ref p] ∧ ((SqL S.K H p ys ∧ ∀ (l : Addr), H l = none → Q (V.ref l) (upd H l (HO.tup ys))) ∨ SqT S.K H p ys ∧ Q (V.ref p) H)) (fun W X hX => by rw [← hX.kk]; exact call_tuple_of) (fun E Z H σ vs Q st r k => by
    obtain ⟨v, rfl, h⟩ := reps_one r
    obtain ⟨a, vs, rfl, h1, h2⟩ := rep_tup.mp h
    exact ⟨a, vs, rfl, .inr ⟨.inl (.inl (st.zh _ _ h1)), k _ _ _ (Go.refl st) h⟩⟩) g hm (by decide +kernel) (eas_cons ha eas_nil he) (by decide) he (by intro _; rfl)
theorem eg_listS {t : T} (q : SeqT t ts) (g : GlOk S "list") (hm : S.mg "list" = none) (ha : EG S E e t E1) (he : ∀ env, starEach [e] env = (false, eval e env) :: starEach [] env := by intro _; rfl) : EG S E (.Call (.Name "list" p) [e] [] pos) (.lst ts) E1 :=
  eg_callTy (r := fun xs H Q => ∃ p ys, xs = [V.ref p] ∧ (SqL S.K H p ys ∨ SqT S.K H p ys) ∧ ∀ (l : Addr), H l = none → Q (V.ref l) (upd H l (HO.lst ys))) (fun W X hX => by rw [← hX.kk]; exact call_list_of) (fun E Z H σ vs Q st r k => by
    obtain ⟨v, rfl, h⟩ := reps_one r
    obtain ⟨a, vs, rfl, h1, h2⟩ := q.rep st.zh h
    refine ⟨a, vs, rfl, h1, fun l hl => ?_⟩
    have g2 := Go.alloc st (o := .lst vs) hl (by intro ps q; cases q)
    exact k _ _ _ g2 (rep_lst.mpr ⟨l, vs, rfl, upd_same, h2.mono g2.step.zz⟩)) g hm (by decide +kernel) (eas_cons ha eas_nil he) (by decide) he (by intro _; rfl)
theorem eg_abs {i : Int} (g : GlOk S "abs") (hm : S.mg "abs" = none) (ha : EG S E e (.int i) E1) (he : ∀ env, starEach [e] env = (false, eval e env) :: starEach [] env := by intro _; rfl) : EG S E (.Call (.Name "abs" p) [e] [] pos) (.int (if i < 0 then -i else i)) E1 :=
  eg_callB (fun W X hX => call_abs) (fun E Z H σ vs Q st r k => by
    obtain ⟨v, rfl, h⟩ := reps_one r
    exact ⟨i, by rw [rep_int.mp h], k _ _ _ (Go.refl st) (rep_int.mpr rfl)⟩) g hm (by decide +kernel) (eas_cons ha eas_nil he) (by decide) he (by intro _; rfl)
theorem eg_max2 {e' : Expr} {i j : Int} (g : GlOk S "max") (hm : S.mg "max" = none) (ha : EG S E e (.int i) E1) (hb : EG S E1 e' (.int j) E2) (he : ∀ env, starEach [e, e'] env = (false, eval e env) :: starEach [e'] env := by intro _; rfl) (he' : ∀ env, starEach [e'] env = (false, eval e' env) :: starEach [] env := by intro _; rfl) : EG S E (.Call (.Name "max" p) [e, e'] [] pos) (.int (if j > i then j else i)) E2 :=
  eg_callB (fun W X hX => call_max2 hX.calm) (fun E Z H σ vs Q st r k => by
    obtain ⟨v, w, rfl, h, h'⟩ := reps_two r
    exact ⟨i, j, by rw [rep_int.mp h, rep_int.mp h'], k _ _ _ (Go.refl st) (rep_int.mpr rfl)⟩) g hm (by decide +kernel) (eas_cons ha (eas_cons hb eas_nil he') he) (by decide) he (by intro _; rw [he']; rfl)
theorem eg_intI {i : Int} (g : GlOk S "int") (hm : S.mg "int" = none) (ha : EG S E e (.int i) E1) (he : ∀ env, starEach [e] env = (false, eval e env) :: starEach [] env := by intro _; rfl) : EG S E (.Call (.Name "int" p) [e] [] pos) (.int i) E1 :=
  eg_callTy (fun W X hX => call_int1) (fun E Z H σ vs Q st r k => by
    obtain ⟨v, rfl, h⟩ := reps_one r
    exact .inl ⟨i, by rw [rep_int.mp h], k _ _ _ (Go.refl st) (rep_int.mpr rfl)⟩) g hm (by decide +kernel) (eas_cons ha eas_nil he) (by decide) he (by intro _; rfl)
theorem eg_intB {i : Bool} (g : GlOk S "int") (hm : S.mg "int" = none) (ha : EG S E e (.bl i) E1) (he : ∀ env, starEach [e] env = (false, eval e env) :: starEach [] env := by intro _; rfl) : EG S E (.Call (.Name "int" p) [e] [] pos) (.int (if i = true then 1 else 0)) E1 :=
  eg_callTy (fun W X hX => call_int1) (fun E Z H σ vs Q st r k => by
    obtain ⟨v, rfl, h⟩ := reps_one r
    exact .inr ⟨i, by rw [rep_bl.mp h], k _ _ _ (Go.refl st) (rep_int.mpr rfl)⟩) g hm (by decide +kernel) (eas_cons ha eas_nil he) (by decide) he (by intro _; rfl)
theorem eg_strI {i : Int} (g : GlOk S "str") (hm : S.mg "str" = none) (ha : EG S E e (.int i) E1) (hi : i.natAbs.log2 < 1920) (he : ∀ env, starEach [e] env = (false, eval e env) :: starEach [] env := by intro _; rfl) : EG S E (.Call (.Name "str" p) [e] [] pos) (.str (Str.ofString (toString i))) E1 :=
  eg_callTy (fun W X hX => call_str_int) (fun E Z H σ vs Q st r k => by
    obtain ⟨v, rfl, h⟩ := reps_one r
    exact ⟨i, by rw [rep_int.mp h], hi, k _ _ _ (Go.refl st) (rep_str.mpr rfl)⟩) g hm (by decide +kernel) (eas_cons ha eas_nil he) (by decide) he (by intro _; rfl)
theorem eg_intS {a : Str} {n : Int} (g : GlOk S "int") (hm : S.mg "int" = none) (ha : EG S E e (.str a) E1) (hi : PySem.intText? a = some n) (hl : a.length ≤ 640) (he : ∀ env, starEach [e] env = (false, eval e env) :: starEach [] env := by intro _; rfl) : EG S E (.Call (.Name "int" p) [e] [] pos) (.int n) E1 :=
  eg_callTy (fun W X hX => call_int_str) (fun E Z H σ vs Q st r k => by
    obtain ⟨v, rfl, h⟩ := reps_one r
    exact ⟨a, n, by rw [rep_str.mp h], hi, hl, k _ _ _ (Go.refl st) (rep_int.mpr rfl)⟩) g hm (by decide +kernel) (eas_cons ha eas_nil he) (by decide) he (by intro _; rfl)
theorem bools_of : ∀ {bs : List Bool} {vs : List V}, Reps K Z (bs.map T.bl) vs → vs = bs.map V.bl
  | [], _, h => h.unnil
  | b :: bs, _, h => by
    obtain ⟨v, r, rfl, h1, h2⟩ := h.uncons
    rw [rep_bl.mp h1, bools_of h2]; rfl
theorem ints_of : ∀ {bs : List Int} {vs : List V}, Reps K Z (bs.map T.int) vs → vs = bs.map V.int
  | [], _, h => h.unnil
  | b :: bs, _, h => by
    obtain ⟨v, r, rfl, h1, h2⟩ := h.uncons
    rw [rep_int.mp h1, ints_of h2]; rfl
theorem strs_of : ∀ {bs : List Str} {vs : List V}, Reps K Z (bs.map T.str) vs → vs = bs.map V.str
  | [], _, h => h.unnil
  | b :: bs, _, h => by
    obtain ⟨v, r, rfl, h1, h2⟩ := h.uncons
    rw [rep_str.mp h1, strs_of h2]; rfl
theorem eg_any {bs : List Bool} (g : GlOk S "any") (hm : S.mg "any" = none) (ha : EG S E e (.lst (bs.map T.bl)) E1) (he : ∀ env, starEach [e] env = (false, eval e env) :: starEach [] env := by intro _; rfl) : EG S E (.Call (.Name "any" p) [e] [] pos) (.bl (bs.any id)) E1 :=
  eg_callB (r := rAny S.K) (fun W X hX => by rw [← hX.kk]; exact cr_any hX.calm) (fun E Z H σ vs Q st r k => by
    obtain ⟨v, rfl, h⟩ := reps_one r
    obtain ⟨a, vs, rfl, h1, h2⟩ := rep_lst.mp h
    exact ⟨a, bs, rfl, by rw [← bools_of h2]; exact .inl (.inl (st.zh _ _ h1)), k _ _ _ (Go.refl st) (rep_bl.mpr rfl)⟩) g hm (by decide +kernel) (eas_cons ha eas_nil he) (by decide) he (by intro _; rfl)
theorem eg_all {bs : List Bool} (g : GlOk S "all") (hm : S.mg "all" = none) (ha : EG S E e (.lst (bs.map T.bl)) E1) (he : ∀ env, starEach [e] env = (false, eval e env) :: starEach [] env := by intro _; rfl) : EG S E (.Call (.Name "all" p) [e] [] pos) (.bl (bs.all id)) E1 :=
  eg_callB (r := rAll S.K) (fun W X hX => by rw [← hX.kk]; exact cr_all hX.calm) (fun E Z H σ vs Q st r k => by
    obtain ⟨v, rfl, h⟩ := reps_one r
    obtain ⟨a, vs, rfl, h1, h2⟩ := rep_lst.mp h
    exact ⟨a, bs, rfl, by rw [← bools_of h2]; exact .inl (.inl (st.zh _ _ h1)), k _ _ _ (Go.refl st) (rep_bl.mpr rfl)⟩) g hm (by decide +kernel) (eas_cons ha eas_nil he) (by decide) he (by intro _; rfl)
theorem eg_sum {bs : List Int} {t : T} (q : t = .lst (bs.map T.int)) (g : GlOk S "sum") (hm : S.mg "sum" = none) (ha : EG S E e t E1) (he : ∀ env, starEach [e] env = (false, eval e env) :: starEach [] env := by intro _; rfl) : EG S E (.Call (.Name "sum" p) [e] [] pos) (.int bs.sum) E1 :=
  eg_callB (r := rSum S.K) (fun W X hX => by rw [← hX.kk]; exact cr_sum hX.calm) (fun E Z H σ vs Q st r k => by
    subst q
    obtain ⟨v, rfl, h⟩ := reps_one r
    obtain ⟨a, vs, rfl, h1, h2⟩ := rep_lst.mp h
    exact ⟨a, bs, rfl, by rw [← ints_of h2]; exact .inl (.inl (st.zh _ _ h1)), k _ _ _ (Go.refl st) (rep_int.mpr rfl)⟩) g hm (by decide +kernel) (eas_cons ha eas_nil he) (by decide) he (by intro _; rfl)
end

/-! ### subscripts -/
theorem atI_reps {ts : List T} {vs : List V} {i : Int} {t : T} (h : Reps K Z ts vs) (e : atI ts i = some t) : ∃ v, atI vs i = some v ∧ Rep K Z t v := by
  unfold atI at e ⊢
  rw [h.length]
  cases q : ixN ts.length i with
  | none => simp [q] at e
  | some j => rw [q] at e; exact h.at e
theorem eg_item {a b : Expr} {t u : T} {ts : List T} {i : Int} {pos : Pos} (q : SeqT t ts) (ha : EG S E a t E1) (hb : EG S E1 b (.int i) E2) (hi : atI ts i = some u) (hm : PlainIx b := by intro _ _; rfl) : EG S E (.Subscript a b pos) u E2 :=
  eg_ix (r := rIx S.K) (fun W X hX => by rw [← hX.kk]; exact ix_seq) (fun E Z H σ v w Q st r1 r2 k => by
    obtain ⟨a, vs, rfl, h1, h2⟩ := q.rep st.zh r1
    obtain ⟨y, h3, h4⟩ := atI_reps h2 hi
    have e := rep_int.mp r2
    rcases h1 with h1 | h1
    · exact .inl ⟨a, vs, i, y, rfl, e, h1, h3, k _ _ _ (Go.refl st) h4⟩
    · exact .inr (.inl ⟨a, vs, i, y, rfl, e, h1, h3, k _ _ _ (Go.refl st) h4⟩)) ha hb hm
theorem eg_itemS {a b : Expr} {z : Str} {c : Nat} {i : Int} {pos : Pos} (ha : EG S E a (.str z) E1) (hb : EG S E1 b (.int i) E2) (hz : z.length ≤ 16777216) (hi : atI z.cps.toList i = some c) (hm : PlainIx b := by intro _ _; rfl) : EG S E (.Subscript a b pos) (.str ⟨#[c]⟩) E2 :=
  eg_ix (r := rIx S.K) (fun W X hX => by rw [← hX.kk]; exact ix_seq) (fun E Z H σ v w Q st r1 r2 k =>
    .inr (.inr ⟨z, i, c, rep_str.mp r1, rep_int.mp r2, by rw [sizeLine_eq]; exact hz, hi, k _ _ _ (Go.refl st) (rep_str.mpr rfl)⟩)) ha hb hm

/-! ### tests -/
theorem tg_val {e : Expr} {b : Bool} (h : EG S E e (.bl b) E1) (ht : ∀ env (whole : Sem Value), PySem.isTrue e env whole = (do let v ← whole; standAt e.pos; holding [v] (truthy v)) := by intro _ _; rfl) : TtG S E e b E1 := fun W Z H σ Q st k =>
  RT.mk (t := tB (R S W e)) (fun X hX => pt_val (hX.pe e) (ht _)) (h W Z H σ _ st fun v H1 Z1 g1 r1 => ⟨b, rep_bl.mp r1, k _ _ g1⟩)
theorem tg_cmp {a b : Expr} {pos : Pos} {op : CmpOp} {ta tb : T} {c : Bool} {r : R2} (ho : ∀ W X, S.Has W X → OpR X (compareOp op) r) (hr : OpG S r ta tb (.bl c)) (ha : EG S E a ta E1) (hb : EG S E1 b tb E2) (hm : behindInMarks op b = false) : TtG S E (.Compare a [op] [b] pos) c E2 := fun W Z H σ Q st k =>
  RT.mk (t := tTest (tOp r (R S W a) (R S W b))) (fun X hX => pt_cmpR (ho W X hX) (hX.pe a) (hX.pe b) hm) (ha W Z H σ _ st fun v H1 Z1 g1 r1 => hb W Z1 H1 σ _ g1.st fun u H2 Z2 g2 r2 => hr _ _ _ _ _ _ _ g2.st (r1.mono g2.step.zz) r2 fun w H3 Z3 g3 r3 => ⟨c, rep_bl.mp r3, k H3 Z3 ((g1.trans g2).trans g3)⟩)
theorem tg_not {a : Expr} {b : Bool} {pos : Pos} (h : TtG S E a b E1) : TtG S E (.UnaryOp .Not a pos) (!b) E1 := fun W Z H σ Q st k =>
  RT.mk (t := tNot (RT S W a)) (fun X hX => pt_not (hX.pt a)) (h W Z H σ _ st fun H1 Z1 g1 => k _ _ g1)
/-- a row of and, or -/
def WG (S : SS) (E : List Ent) (e : Expr) (b : Bool) (E' : List Ent) : Prop :=
  ∀ (W : WX) (Z H : Hp) (σ : St) (Q : Bool → Hp → Prop), StOk S.K Z H σ E → (∀ H' Z', Go S E σ Z H E' σ Z' H' → Q b H') → ∀ X, S.Has W X → ∀ (whole : Sem Value) pins s, Inv X pins σ H s → wpAny (model X.prog X.w) X.A (isTrue e X.env whole) (TP X pins σ Q) X.xe s
def RW_ (S : SS) (W : WX) (e : Expr) : TT := fun σ H Q => ∀ X, S.Has W X → ∀ (whole : Sem Value) pins s, Inv X pins σ H s → wpAny (model X.prog X.w) X.A (isTrue e X.env whole) (TP X pins σ Q) X.xe s
theorem SS.Has.pw {W : WX} {X : Cx} (h : S.Has W X) (e : Expr) : PW X e (RW_ S W e) := ⟨fun whole pins s σ H Q I q => q X h whole pins s I⟩
theorem tg_w {e : Expr} {b : Bool} (h : WG S E e b E1) : TtG S E e b E1 := fun W Z H σ Q st k X hX pins s I => h W Z H σ Q st k X hX _ pins s I
section
variable {a b : Expr} {rest : List Expr} {pos : Pos} {c : Bool}
theorem wg_and1 (h : TtG S E a c E1) : WG S E (.BoolOp .And [a] pos) c E1 := fun W Z H σ Q st k X hX whole pins s I => (pw_and1 (hX.pt a)).run whole pins s σ H Q I (h W Z H σ Q st k)
theorem wg_or1 (h : TtG S E a c E1) : WG S E (.BoolOp .Or [a] pos) c E1 := fun W Z H σ Q st k X hX whole pins s I => (pw_or1 (hX.pt a)).run whole pins s σ H Q I (h W Z H σ Q st k)
theorem wg_andT (h : TtG S E a true E1) (h2 : WG S E1 (.BoolOp .And (b :: rest) pos) c E2) : WG S E (.BoolOp .And (a :: b :: rest) pos) c E2 := fun W Z H σ Q st k X hX whole pins s I =>
  (pw_and (hX.pt a) (hX.pw (.BoolOp .And (b :: rest) pos))).run whole pins s σ H Q I (h W Z H σ _ st fun H1 Z1 g1 => iteT fun X' hX' whole' pins' s' I' => h2 W Z1 H1 σ Q g1.st (fun H2 Z2 g2 => k H2 Z2 (g1.trans g2)) X' hX' whole' pins' s' I')
theorem wg_andF (h : TtG S E a false E1) : WG S E (.BoolOp .And (a :: b :: rest) pos) false E1 := fun W Z H σ Q st k X hX whole pins s I =>
  (pw_and (hX.pt a) (hX.pw (.BoolOp .And (b :: rest) pos))).run whole pins s σ H Q I (h W Z H σ _ st fun H1 Z1 g1 => iteF (k H1 Z1 g1))
theorem wg_orF (h : TtG S E a false E1) (h2 : WG S E1 (.BoolOp .Or (b :: rest) pos) c E2) : WG S E (.BoolOp .Or (a :: b :: rest) pos) c E2 := fun W Z H σ Q st k X hX whole pins s I =>
  (pw_or (hX.pt a) (hX.pw (.BoolOp .Or (b :: rest) pos))).run whole pins s σ H Q I (h W Z H σ _ st fun H1 Z1 g1 => iteF fun X' hX' whole' pins' s' I' => h2 W Z1 H1 σ Q g1.st (fun H2 Z2 g2 => k H2 Z2 (g1.trans g2)) X' hX' whole' pins' s' I')
theorem wg_orT (h : TtG S E a true E1) : WG S E (.BoolOp .Or (a :: b :: rest) pos) true E1 := fun W Z H σ Q st k X hX whole pins s I =>
  (pw_or (hX.pt a) (hX.pw (.BoolOp .Or (b :: rest) pos))).run whole pins s σ H Q I (h W Z H σ _ st fun H1 Z1 g1 => iteT (k H1 Z1 g1))
end
/-- pure and: both asked as need be -/
theorem wg_and {a b : Expr} {rest : List Expr} {pos : Pos} {c d : Bool} (h : TtG S E a c E) (h2 : c = true → WG S E (.BoolOp .And (b :: rest) pos) d E) : WG S E (.BoolOp .And (a :: b :: rest) pos) (c && d) E := by
  cases c with
  | true => exact wg_andT h (h2 rfl)
  | false => exact wg_andF h
theorem wg_or {a b : Expr} {rest : List Expr} {pos : Pos} {c d : Bool} (h : TtG S E a c E) (h2 : c = false → WG S E (.BoolOp .Or (b :: rest) pos) d E) : WG S E (.BoolOp .Or (a :: b :: rest) pos) (c || d) E := by
  cases c with
  | true => exact wg_orT h
  | false => exact wg_orF h (h2 rfl)
theorem eg_ifT {c a b : Expr} {t : T} {pos : Pos} (h : TtG S E c true E1) (ha : EG S E1 a t E2) : EG S E (.IfExp c a b pos) t E2 := fun W Z H σ Q st k =>
  R.mk (t := tIf (RT S W c) (R S W a) (R S W b)) (fun X hX => pe_ifExp (hX.pt c) (hX.pe a) (hX.pe b)) (h W Z H σ _ st fun H1 Z1 g1 => iteT (ha W Z1 H1 σ _ g1.st fun v H2 Z2 g2 r => k v H2 Z2 (g1.trans g2) r))
theorem eg_ifF {c a b : Expr} {t : T} {pos : Pos} (h : TtG S E c false E1) (ha : EG S E1 b t E2) : EG S E (.IfExp c a b pos) t E2 := fun W Z H σ Q st k =>
  R.mk (t := tIf (RT S W c) (R S W a) (R S W b)) (fun X hX => pe_ifExp (hX.pt c) (hX.pe a) (hX.pe b)) (h W Z H σ _ st fun H1 Z1 g1 => iteF (ha W Z1 H1 σ _ g1.st fun v H2 Z2 g2 r => k v H2 Z2 (g1.trans g2) r))
theorem eg_if {c a b : Expr} {t u : T} {pos : Pos} {d : Bool} (h : TtG S E c d E1) (ha : d = true → EG S E1 a t E2) (hb : d = false → EG S E1 b u E2) : EG S E (.IfExp c a b pos) (if d = true then t else u) E2 := by
  cases d with
  | true => exact eg_ifT h (ha rfl)
  | false => exact eg_ifF h (hb rfl)
/-- and, or, not as values of truth -/
theorem eg_notV {a : Expr} {c : Bool} {pos : Pos} (h : EG S E a (.bl c) E1) : EG S E (.UnaryOp .Not a pos) (.bl (!c)) E1 := fun W Z H σ Q st k =>
  R.mk (t := tNotV (R S W a)) (fun X hX => pe_not (hX.pe a)) (h W Z H σ _ st fun v H1 Z1 g1 r1 => ⟨c, rep_bl.mp r1, k _ _ _ g1 (rep_bl.mpr rfl)⟩)
theorem eg_and1 {a : Expr} {c : T} {pos : Pos} (h : EG S E a c E1) : EG S E (.BoolOp .And [a] pos) c E1 := fun W Z H σ Q st k => R.mk (t := R S W a) (fun X hX => pe_one (hX.pe a)) (h W Z H σ _ st k)
theorem eg_or1 {a : Expr} {c : T} {pos : Pos} (h : EG S E a c E1) : EG S E (.BoolOp .Or [a] pos) c E1 := fun W Z H σ Q st k => R.mk (t := R S W a) (fun X hX => pe_one (hX.pe a)) (h W Z H σ _ st k)
theorem eg_andV {a b : Expr} {rest : List Expr} {c d : Bool} {pos : Pos} (h : EG S E a (.bl c) E) (h2 : c = true → EG S E (.BoolOp .And (b :: rest) pos) (.bl d) E) : EG S E (.BoolOp .And (a :: b :: rest) pos) (.bl (c && d)) E := fun W Z H σ Q st k => by
  refine R.mk (t := tAndV (R S W a) (R S W (.BoolOp .And (b :: rest) pos))) (fun X hX => pe_and (hX.pe a) (hX.pe _)) (h W Z H σ _ st fun v H1 Z1 g1 r1 => ⟨c, rep_bl.mp r1, ?_⟩)
  cases c with
  | true => exact iteT (h2 rfl W Z1 H1 σ _ g1.st fun v H2 Z2 g2 r2 => k v H2 Z2 (g1.trans g2) r2)
  | false => exact iteF (k _ _ _ g1 (rep_bl.mpr rfl))
theorem eg_orV {a b : Expr} {rest : List Expr} {c d : Bool} {pos : Pos} (h : EG S E a (.bl c) E) (h2 : c = false → EG S E (.BoolOp .Or (b :: rest) pos) (.bl d) E) : EG S E (.BoolOp .Or (a :: b :: rest) pos) (.bl (c || d)) E := fun W Z H σ Q st k => by
  refine R.mk (t := tOrV (R S W a) (R S W (.BoolOp .Or (b :: rest) pos))) (fun X hX => pe_or (hX.pe a) (hX.pe _)) (h W Z H σ _ st fun v H1 Z1 g1 r1 => ⟨c, rep_bl.mp r1, ?_⟩)
  cases c with
  | true => exact iteT (k _ _ _ g1 (rep_bl.mpr rfl))
  | false => exact iteF (h2 rfl W Z1 H1 σ _ g1.st fun v H2 Z2 g2 r2 => k v H2 Z2 (g1.trans g2) r2)
end
end Cw
end L2

set_option Elab.async false
set_option linter.all false
set_option maxRecDepth 100000
set_option maxHeartbeats 2000000
namespace L2
namespace Cw
open PySem PySem.Spec PyProof.Rows
/-! ### what is walked, targets -/
def RI (S : SS) (W : WX) (tg iter : Expr) : TI := fun σ H Rr => ∀ X, S.Has W X → ∀ pins s, Inv X pins σ H s →
  wpAny (model X.prog X.w) X.A (eval iter X.env) (fun v s1 => wpAny (model X.prog X.w) X.A (pyIter v) (PIE X pins σ tg Rr) X.xe s1) X.xe s
def RG (S : SS) (W : WX) (tg : Expr) : TG := fun v σ H Q => ∀ X, S.Has W X → ∀ pins s u, Inv X pins σ H s → RelV v u →
  wpAny (model X.prog X.w) X.A (assign tg X.env u) (fun _ s' => ∃ σ' H', Inv X pins σ' H' s' ∧ Q σ' H') X.xe s
/-- one condition more -/
def tick (X : Cx) (c : Expr) (r : Bool) : Sem (ForInStep Bool) := if r = true then do
    let ok ← isTrue c X.env (eval c X.env)
    pure (ForInStep.yield ok)
  else pure (ForInStep.yield r)
def RTs (S : SS) (W : WX) (ifs : List Expr) : TT := fun σ H Q => ∀ X, S.Has W X → ∀ pins s, Inv X pins σ H s →
  wpAny (model X.prog X.w) X.A (forIn ifs true (tick X)) (TP X pins σ Q) X.xe s
section
variable {S : SS} {W : WX} {X : Cx}
theorem SS.Has.pi (h : S.Has W X) (tg iter : Expr) : PI X tg iter (RI S W tg iter) := ⟨fun pins s σ H Rr I q => q X h pins s I⟩
theorem SS.Has.pg (h : S.Has W X) (tg : Expr) : PG X tg (RG S W tg) := ⟨fun pins s σ H v u Q I r q => q X h pins s u I r⟩
theorem SS.Has.pts (h : S.Has W X) (ifs : List Expr) : PTs X ifs (RTs S W ifs) := ⟨fun pins s σ H Q I q => q X h pins s I⟩
theorem RI.mk {tg iter : Expr} {wi : TI} {σ : St} {H : Hp} {Rr : It → Hp → Prop} (h : ∀ X, S.Has W X → PI X tg iter wi) (q : wi σ H Rr) : RI S W tg iter σ H Rr := fun X hX pins s I => (h X hX).run pins s σ H Rr I q
theorem RG.mk {tg : Expr} {g : TG} {v : V} {σ : St} {H : Hp} {Q : St → Hp → Prop} (h : ∀ X, S.Has W X → PG X tg g) (q : g v σ H Q) : RG S W tg v σ H Q := fun X hX pins s u I r => (h X hX).run pins s σ H v u Q I r q
end
/-- one item comes: x stands for t, perhaps as a new tuple -/
def Comes (K : PySem.W.Frag) (Z : Hp) (H : Hp) (t : T) (x : V) (H' : Hp) : Prop :=
  (H' = H ∧ Rep K Z t x) ∨ ∃ p us vs, t = .tup us ∧ x = .ref p ∧ H p = none ∧ H' = upd H p (.tup vs) ∧ Reps K Z us vs
/-- what iter walks: the items ts; at one state, and at all -/
def IGat (S : SS) (E : List Ent) (tg iter : Expr) (ts : List T) (E' : List Ent) (W : WX) (Z H : Hp) (σ : St) : Prop :=
  ∀ (Rr : It → Hp → Prop), (∀ J H' Z' G Y, Go S E σ Z H E' σ Z' H' → Walk J ts.length G Y → (∀ H2, Same Z' H2 → G H2) → (∀ i H1 x H2, Y i H1 x H2 → ∃ t, ts[i]? = some t ∧ Comes S.K Z' H1 t x H2) → Rr J H') → RI S W tg iter σ H Rr
def IG (S : SS) (E : List Ent) (tg iter : Expr) (ts : List T) (E' : List Ent) : Prop :=
  ∀ (W : WX) (Z H : Hp) (σ : St) (Rr : It → Hp → Prop), StOk S.K Z H σ E →
    (∀ J H' Z' G Y, Go S E σ Z H E' σ Z' H' → Walk J ts.length G Y → (∀ H2, Same Z' H2 → G H2) → (∀ i H1 x H2, Y i H1 x H2 → ∃ t, ts[i]? = some t ∧ Comes S.K Z' H1 t x H2) → Rr J H') → RI S W tg iter σ H Rr
/-- a store to a target: only slots of ws change -/
def AG (S : SS) (E : List Ent) (tg : Expr) (t : T) (E' : List Ent) (ws : List Nat) : Prop :=
  (∀ j, (∃ u, E'[j]? = some (.ow u)) → j ∉ ws ∧ E'[j]? = E[j]?) ∧ (∀ j ∈ ws, j ∉ S.pin) ∧
  ∀ (W : WX) (Z H : Hp) (σ : St) (v : V) (Q : St → Hp → Prop), StOk S.K Z H σ E → Rep S.K Z t v → (∀ σ', StOk S.K Z H σ' E' → (σ'.length = σ.length ∧ ∀ j, j ∉ ws → σ'[j]? = σ[j]?) → Q σ' H) → RG S W tg v σ H Q
def TGs (S : SS) (E : List Ent) (ifs : List Expr) (b : Bool) (E' : List Ent) : Prop :=
  ∀ (W : WX) (Z H : Hp) (σ : St) (Q : Bool → Hp → Prop), StOk S.K Z H σ E → (∀ H' Z', Go S E σ Z H E' σ Z' H' → Q b H') → RTs S W ifs σ H Q
section
variable {K : PySem.W.Frag} {Z Z' H H' : Hp} {σ : St} {E E1 E2 E3 : List Ent} {S : SS}
theorem IG.at' {tg iter : Expr} {ts : List T} {W : WX} (h : IG S E tg iter ts E1) (st : StOk S.K Z H σ E) : IGat S E tg iter ts E1 W Z H σ := fun Rr k => h W Z H σ Rr st k
theorem tgs_nil : TGs S E [] true E := fun W Z H σ Q st k X hX pins s I => pts_nil.run pins s σ H Q I (show tYes σ H Q from k _ _ (Go.refl st))
theorem tgs_one {c : Expr} {b : Bool} (h : TtG S E c b E1) : TGs S E [c] b E1 := fun W Z H σ Q st k X hX pins s I => (pts_one (hX.pt c)).run pins s σ H Q I (h W Z H σ Q st k)

theorem StOk.set {i : Nat} {t : T} {v : V} (st : StOk K Z H σ E) (r : Rep K Z t v) (hi : i < σ.length) : StOk K Z H (σ.set i (some v)) (E.set i (.sh t)) := by
  refine ⟨st.zh, st.nt, by rw [List.length_set, List.length_set]; exact st.len, fun j u h => ?_, fun j u h => ?_, fun j l a t' u h1 h2 h3 h4 => ?_⟩
  · by_cases hj : i = j
    · subst hj
      rw [List.getElem?_set_self (by rw [← st.len]; exact hi)] at h
      cases h
      exact ⟨v, List.getElem?_set_self hi, r⟩
    · rw [List.getElem?_set_ne hj] at h
      rw [List.getElem?_set_ne hj]
      exact st.sh j u h
  · by_cases hj : i = j
    · subst hj
      rw [List.getElem?_set_self (by rw [← st.len]; exact hi)] at h
      cases h
    · rw [List.getElem?_set_ne hj] at h
      rw [List.getElem?_set_ne hj]
      exact st.ow j u h
  · by_cases hj : i = j
    · subst hj
      rw [List.getElem?_set_self (by rw [← st.len]; exact hi)] at h1
      cases h1
    · by_cases hl : i = l
      · subst hl
        rw [List.getElem?_set_self (by rw [← st.len]; exact hi)] at h2
        cases h2
      · rw [List.getElem?_set_ne hj] at h1 h3
        rw [List.getElem?_set_ne hl] at h2 h4
        exact st.ds j l a t' u h1 h2 h3 h4
theorem ag_name {i : Nat} {x : Str} {pos : Pos} {t : T} (so : StoOk S i x) (hi : i < E.length) : AG S E (.Name x pos) t (E.set i (.sh t)) [i] := by
  refine ⟨fun j ⟨u, h⟩ => ?_, fun j hj => by simp at hj; subst hj; exact so.np, fun W Z H σ v Q st r k => ?_⟩
  · by_cases hj : i = j
    · subst hj; rw [List.getElem?_set_self hi] at h; cases h
    · exact ⟨by simp; exact fun e => hj e.symm, by rw [List.getElem?_set_ne hj]⟩
  refine RG.mk (g := gName i) (fun X hX => ?_) (k _ (st.set r (by rw [st.len]; exact hi)) ⟨List.length_set, fun j hj => by rw [List.getElem?_set_ne (by simp at hj; exact fun e => hj e.symm)]⟩)
  have hs := hX.sc
  obtain ⟨A, s0, H0, env, outer, stack, ex, pn, xe, rfl⟩ := hX.ex
  exact pg_name so.nd so.hN (by rw [hs]; exact so.loc) (by rw [hs]; exact so.hf)
/-- a row of targets -/
def AGs (S : SS) (E : List Ent) (tgs : List Expr) (ts : List T) (E' : List Ent) (ws : List Nat) : Prop :=
  (∀ j, (∃ u, E'[j]? = some (.ow u)) → j ∉ ws ∧ E'[j]? = E[j]?) ∧ (∀ j ∈ ws, j ∉ S.pin) ∧
  ∀ (W : WX) (Z H : Hp) (σ : St) (vs : List V) (Q : St → Hp → Prop), StOk S.K Z H σ E → Reps S.K Z ts vs → (∀ σ', StOk S.K Z H σ' E' → (σ'.length = σ.length ∧ ∀ j, j ∉ ws → σ'[j]? = σ[j]?) → Q σ' H) → ∀ X, S.Has W X → ∀ pins s us, Inv X pins σ H s → Vals vs us →
    wpAny (model X.prog X.w) X.A (assignInOrder ((assignEach tgs X.env).map (·.2)) us) (fun _ s' => ∃ σ' H', Inv X pins σ' H' s' ∧ Q σ' H') X.xe s
theorem ags_nil : AGs S E [] [] E [] := by
  refine ⟨fun j h => ⟨by simp, rfl⟩, fun j hj => by simp at hj, fun W Z H σ vs Q st r k X hX pins s us I rv => ?_⟩
  rw [r.unnil] at rv
  exact pgs_nil.run pins s σ H [] us Q I rv ⟨rfl, k _ st ⟨rfl, fun _ _ => rfl⟩⟩
theorem ags_cons {tg : Expr} {tgs : List Expr} {t : T} {ts : List T} {ws ws' : List Nat} (h1 : AG S E tg t E1 ws) (h2 : AGs S E1 tgs ts E2 ws')
    (hs : ∀ env, (assignEach (tg :: tgs) env).map (·.2) = assign tg env :: (assignEach tgs env).map (·.2) := by intro _; rfl) : AGs S E (tg :: tgs) (t :: ts) E2 (ws ++ ws') := by
  refine ⟨fun j h => ?_, fun j hj => ?_, fun W Z H σ vs Q st r k X hX pins s us I rv => ?_⟩
  · obtain ⟨a, b⟩ := h2.1 j h
    obtain ⟨c, d⟩ := h1.1 j (by rw [← b]; exact h)
    exact ⟨by simp [c, a], b.trans d⟩
  · rcases List.mem_append.mp hj with z | z
    · exact h1.2.1 j z
    · exact h2.2.1 j z
  · obtain ⟨v, vr, rfl, r1, r2⟩ := r.uncons
    refine (pgs_cons (t := RG S W tg) (u := fun vs σ H Q => ∀ pins s us, Inv X pins σ H s → Vals vs us → wpAny (model X.prog X.w) X.A (assignInOrder ((assignEach tgs X.env).map (·.2)) us) (fun _ s' => ∃ σ' H', Inv X pins σ' H' s' ∧ Q σ' H') X.xe s) (hX.pg tg) ⟨fun pins s σ H vs us Q I r q => q pins s us I r⟩ (hs _)).run pins s σ H _ us Q I rv ?_
    refine ⟨v, vr, rfl, h1.2.2 W Z H σ v _ st r1 fun σ1 st1 e1 pins' s' us' I' rv' => ?_⟩
    exact h2.2.2 W Z H σ1 vr Q st1 r2 (fun σ2 st2 e2 => k σ2 st2 ⟨e2.1.trans e1.1, fun j hj => by
      rw [List.mem_append, not_or] at hj
      rw [e2.2 j hj.2, e1.2 j hj.1]⟩) X hX pins' s' us' I' rv'
theorem ag_tup {tgs : List Expr} {t : T} {ts : List T} {ws : List Nat} {k : Nat} {pos : Pos} (q : t = .tup ts ∨ t = .wtup ts) (h : AGs S E tgs ts E1 ws) (hn : ∀ env, (assignEach tgs env).length = ts.length := by intro _; rfl) (hst : ∀ env, (assignEach tgs env).findIdx? (·.1) = none := by intro _; rfl) : AG S E (.Tuple tgs k pos) t E1 ws := by
  refine ⟨h.1, h.2.1, fun W Z H σ v Q st r k => ?_⟩
  have q' : ∃ a vs, v = .ref a ∧ SqT S.K H a vs ∧ Reps S.K Z ts vs := by
    rcases q with rfl | rfl
    · obtain ⟨a, vs, e, h1, h2⟩ := rep_tup.mp r
      exact ⟨a, vs, e, .inl (.inl (st.zh _ _ h1)), h2⟩
    · obtain ⟨a, vs, e, h1, h2⟩ := rep_wtup.mp r
      exact ⟨a, vs, e, Same_tup st.zh h1, h2⟩
  obtain ⟨a, vs, rfl, h1, h2⟩ := q'
  refine fun X hX => ?_
  have kk := hX.kk
  exact fun pins s u I r => (pg_tup (X := X) (t := fun vs σ H Q => ∀ pins s us, Inv X pins σ H s → Vals vs us → wpAny (model X.prog X.w) X.A (assignInOrder ((assignEach tgs X.env).map (·.2)) us) (fun _ s' => ∃ σ' H', Inv X pins σ' H' s' ∧ Q σ' H') X.xe s) (n := ts.length) hX.calm ⟨fun pins s σ H vs us Q I r q => q pins s us I r⟩ (hn _) (hst _)).run pins s σ H _ u Q I r
    ⟨a, vs, rfl, by rw [kk]; exact h1, h2.length, fun pins' s' us' I' rv' => h.2.2 W Z H σ vs Q st h2 k X hX pins' s' us' I' rv'⟩

/-! ### the walks -/
theorem ig_seq {tg iter : Expr} {t : T} {ts : List T} (q : SeqT t ts) (h : EG S E iter t E1) : IG S E tg iter ts E1 := fun W Z H σ Rr st k => by
  by_cases hL : (∃ us, t = .lst us) ∨ ∃ us, t = .slst us
  · refine RI.mk (wi := iList S.K (R S W iter)) (fun X hX => by rw [← hX.kk]; exact pi_list (hX.pe iter)) (h W Z H σ _ st fun v H1 Z1 g1 r1 => ?_)
    have r2 : ∃ a vs, v = .ref a ∧ SqL S.K Z1 a vs ∧ Reps S.K Z1 ts vs := by
      cases q with
      | tup => rcases hL with ⟨_, e⟩ | ⟨_, e⟩ <;> cases e
      | lst => obtain ⟨a, vs, e, h1, h2⟩ := rep_lst.mp r1; exact ⟨a, vs, e, .inl (.inl h1), h2⟩
      | wtup => rcases hL with ⟨_, e⟩ | ⟨_, e⟩ <;> cases e
      | slst => obtain ⟨a, vs, e, h1, h2⟩ := rep_slst.mp r1; exact ⟨a, vs, e, h1, h2⟩
    obtain ⟨a, vs, rfl, h1, h2⟩ := r2
    refine ⟨a, rfl, ⟨vs, g1.st.zh.seq h1⟩, k _ H1 Z1 _ _ g1 (by rw [← h2.length]; exact walk_list (xs := vs)) (fun H2 e => e.seq h1) fun i H2 x H3 y => ?_⟩
    obtain ⟨e, y⟩ := y
    obtain ⟨t, ht, rt⟩ := h2.get y
    exact ⟨t, ht, .inl ⟨e, rt⟩⟩
  · refine RI.mk (wi := iTup S.K (R S W iter)) (fun X hX => by rw [← hX.kk]; exact pi_tup (hX.pe iter)) (h W Z H σ _ st fun v H1 Z1 g1 r1 => ?_)
    have r2 : ∃ a vs, v = .ref a ∧ SqT S.K Z1 a vs ∧ Reps S.K Z1 ts vs := by
      cases q with
      | tup => obtain ⟨a, vs, e, h1, h2⟩ := rep_tup.mp r1; exact ⟨a, vs, e, .inl (.inl h1), h2⟩
      | lst => exact absurd (.inl ⟨_, rfl⟩) hL
      | wtup => obtain ⟨a, vs, e, h1, h2⟩ := rep_wtup.mp r1; exact ⟨a, vs, e, h1, h2⟩
      | slst => exact absurd (.inr ⟨_, rfl⟩) hL
    obtain ⟨a, vs, rfl, h1, h2⟩ := r2
    refine ⟨a, rfl, ⟨vs, Same_tup g1.st.zh h1⟩, k _ H1 Z1 _ _ g1 (by rw [← h2.length]; exact walk_tup (xs := vs)) (fun H2 e => Same_tup e h1) fun i H2 x H3 y => ?_⟩
    obtain ⟨e, y⟩ := y
    obtain ⟨t, ht, rt⟩ := h2.get y
    exact ⟨t, ht, .inl ⟨e, rt⟩⟩
/-- range(n) -/
def rangeT (lo : Int) (n : Nat) : List T := (List.range n).map fun i => T.int (lo + (i : Nat))
theorem rangeT_length {lo : Int} {n : Nat} : (rangeT lo n).length = n := by simp [rangeT]
theorem rangeT_get {lo : Int} {n i : Nat} (h : i < n) : (rangeT lo n)[i]? = some (.int (lo + (i : Nat))) := by simp [rangeT, h]
theorem ig_range {tg a : Expr} {n : Int} {p pos : Pos} (g : GlOk S "range") (hm : S.mg "range" = none) (h : EG S E a (.int n) E1) (hb : -(2 ^ 62) ≤ n ∧ n < 2 ^ 62) (he : ∀ env, starEach [a] env = (false, eval a env) :: starEach [] env := by intro _; rfl) : IG S E tg (.Call (.Name "range" p) [a] [] pos) (rangeT 0 n.toNat) E1 := fun W Z H σ Rr st k => by
  refine RI.mk (wi := iRng1 (RA S W [a])) (fun X hX => ?_) ((eas_cons h eas_nil he) W Z H σ _ st fun vs H1 Z1 g1 r1 => ?_)
  · have gg := g.at hX
    have pa := hX.pa [a]
    obtain ⟨A, s0, H0, env, outer, stack, ex, pn, xe, rfl⟩ := hX.ex
    exact pi_range1 gg hm pa (he _)
  · obtain ⟨v, rfl, h1⟩ := reps_one r1
    refine ⟨n, by rw [rep_int.mp h1], hb.1, hb.2, k _ H1 Z1 (fun _ => True) (fun i H x H' => (i < n.toNat) ∧ H' = H ∧ x = .int (0 + (i : Nat))) g1 (by rw [rangeT_length]; exact ⟨fun _ _ hi _ => hi, fun _ _ => Nat.le_refl _, fun _ _ _ _ hi _ y => ⟨hi, y⟩⟩) (fun _ _ => trivial) fun i H2 x H3 y => ?_⟩
    exact ⟨_, rangeT_get y.1, .inl ⟨y.2.1, rep_int.mpr y.2.2⟩⟩
theorem ig_range2 {tg a b : Expr} {m n : Int} {p pos : Pos} (g : GlOk S "range") (hm : S.mg "range" = none) (h : EG S E a (.int m) E1) (h2 : EG S E1 b (.int n) E2) (hb : (-(2 ^ 62) ≤ m ∧ m < 2 ^ 62) ∧ -(2 ^ 62) ≤ n ∧ n < 2 ^ 62) (he : ∀ env, starEach [a, b] env = (false, eval a env) :: starEach [b] env := by intro _; rfl) (he2 : ∀ env, starEach [b] env = (false, eval b env) :: starEach [] env := by intro _; rfl) : IG S E tg (.Call (.Name "range" p) [a, b] [] pos) (rangeT m (n - m).toNat) E2 := fun W Z H σ Rr st k => by
  refine RI.mk (wi := iRng2 (RA S W [a, b])) (fun X hX => ?_) ((eas_cons h (eas_cons h2 eas_nil he2) he) W Z H σ _ st fun vs H1 Z1 g1 r1 => ?_)
  · have gg := g.at hX
    have pa := hX.pa [a, b]
    obtain ⟨A, s0, H0, env, outer, stack, ex, pn, xe, rfl⟩ := hX.ex
    exact pi_range2 gg hm pa (by rw [he, he2]; rfl) (he2 _)
  · obtain ⟨v, w, rfl, h1, h2⟩ := reps_two r1
    refine ⟨m, n, by rw [rep_int.mp h1, rep_int.mp h2], ⟨hb.1.1, hb.1.2, hb.2.1, hb.2.2⟩, k _ H1 Z1 (fun _ => True) (fun i H x H' => (i < (n - m).toNat) ∧ H' = H ∧ x = .int (m + (i : Nat))) g1 (by rw [rangeT_length]; exact ⟨fun _ _ hi _ => hi, fun _ _ => Nat.le_refl _, fun _ _ _ _ hi _ y => ⟨hi, y⟩⟩) (fun _ _ => trivial) fun i H2 x H3 y => ?_⟩
    exact ⟨_, rangeT_get y.1, .inl ⟨y.2.1, rep_int.mpr y.2.2⟩⟩
end
end Cw
end L2

set_option Elab.async false
set_option linter.all false
set_option maxRecDepth 100000
set_option maxHeartbeats 2000000
namespace L2
namespace Cw
open PySem PySem.Spec PyProof.Rows
/-- in a comprehension's block -/
def SS.blk (S : SS) (scope : Scope) : SS := { S with sc := relS scope S.sc, fnb := fun x => scope.names.lookup x == some .cell, pin := [] }
abbrev WX0 : WX := fun _ _ _ _ => False
theorem SS.Has.blk {S : SS} {W : WX} {X : Cx} (h : S.Has W X) (scope : Scope) (s : Shared) (H : Hp) (C : Addr) (cl : List (Str × Addr)) (fp : List Addr) : (S.blk scope).Has WX0 (X.blk s H scope (compEnvC scope cl C X.env) fp) := by
  have hs := h.sc
  have hr := h.room
  obtain ⟨A, s0, H0, env, outer, stack, ex, pn, xe, rfl⟩ := h.ex
  refine ⟨⟨A, s, H, compEnvC scope cl C env, stack, stack, fp, [], fun _ _ => False, rfl⟩, hr, ?_, takes0, PassesOwn.never⟩
  show relS scope env.scope = relS scope S.sc
  rw [show env.scope = S.sc from hs]
def wipeE (E : List Ent) : List Nat → List Ent
  | [] => E
  | v :: vs => (wipeE E vs).set v .no
theorem wipeE_length (E : List Ent) : ∀ vs, (wipeE E vs).length = E.length
  | [] => rfl
  | v :: vs => by unfold wipeE; rw [List.length_set, wipeE_length E vs]
theorem wipeE_out {E : List Ent} {j : Nat} : ∀ {vs : List Nat}, j ∉ vs → (wipeE E vs)[j]? = E[j]?
  | [], _ => rfl
  | v :: vs, h => by
    have h1 : v ≠ j := fun e => h (by rw [e]; exact List.mem_cons_self)
    have h2 : j ∉ vs := fun m => h (List.mem_cons_of_mem _ m)
    unfold wipeE
    rw [List.getElem?_set_ne h1]
    exact wipeE_out h2
theorem wipeE_in {E : List Ent} {j : Nat} : ∀ {vs : List Nat}, j ∈ vs → (wipeE E vs)[j]? = none ∨ (wipeE E vs)[j]? = some .no
  | v :: vs, h => by
    by_cases e : v = j
    · subst e
      unfold wipeE
      by_cases hl : v < (wipeE E vs).length
      · exact .inr (List.getElem?_set_self hl)
      · exact .inl (List.getElem?_eq_none (by rw [List.length_set]; omega))
    · unfold wipeE
      rw [List.getElem?_set_ne e]
      exact wipeE_in ((List.mem_cons.mp h).resolve_left (Ne.symm e))
theorem wipe_in {σ : St} {j : Nat} : ∀ {vs : List Nat}, j ∈ vs → (wipe σ vs)[j]? = none ∨ (wipe σ vs)[j]? = some none
  | v :: vs, h => by
    by_cases e : v = j
    · subst e
      unfold wipe
      by_cases hl : v < (wipe σ vs).length
      · exact .inr (List.getElem?_set_self hl)
      · exact .inl (List.getElem?_eq_none (by rw [List.length_set]; omega))
    · unfold wipe
      rw [List.getElem?_set_ne e]
      exact wipe_in ((List.mem_cons.mp h).resolve_left (Ne.symm e))
section
variable {K : PySem.W.Frag} {Z Z' H H' : Hp} {σ σ' : St} {E E' E1 E2 E3 : List Ent} {S : SS}
theorem StOk.wiped (st : StOk K Z H σ E) (vs : List Nat) : StOk K Z H (wipe σ vs) (wipeE E vs) := by
  have out : ∀ {j : Nat} {en : Ent}, (wipeE E vs)[j]? = some en → en ≠ .no → j ∉ vs ∧ E[j]? = some en := fun {j en} h hn => by
    by_cases hj : j ∈ vs
    · rcases wipeE_in hj (E := E) with z | z <;> rw [z] at h <;> cases h
      exact absurd rfl hn
    · exact ⟨hj, by rw [wipeE_out hj] at h; exact h⟩
  refine ⟨st.zh, st.nt, by rw [wipe_length, wipeE_length]; exact st.len, fun j u h => ?_, fun j u h => ?_, fun j l a t' u h1 h2 h3 h4 => ?_⟩
  · obtain ⟨h1, h2⟩ := out h (by intro z; cases z)
    rw [wipe_out h1]
    exact st.sh j u h2
  · obtain ⟨h1, h2⟩ := out h (by intro z; cases z)
    rw [wipe_out h1]
    exact st.ow j u h2
  · obtain ⟨a1, a2⟩ := out h1 (by intro z; cases z)
    obtain ⟨b1, b2⟩ := out h2 (by intro z; cases z)
    rw [wipe_out a1] at h3
    rw [wipe_out b1] at h4
    exact st.ds j l a t' u a2 b2 h3 h4
/-- back in the def's slots: what the block's names held is as it was -/
theorem StOk.unwiped {vs : List Nat} (st : StOk K Z' H' (wipe σ vs) (wipeE E' vs)) (so : StOk K Z H σ E) (zz : Same Z Z') (ow : ∀ j ∈ vs, E'[j]? = E[j]? ∧ ∀ t, E[j]? ≠ some (.ow t)) (hl : E'.length = E.length) : StOk K Z' H' σ E' := by
  refine ⟨st.zh, st.nt, by rw [so.len, hl], fun j u h => ?_, fun j u h => ?_, fun j l a t' u h1 h2 h3 h4 => ?_⟩
  · by_cases hj : j ∈ vs
    · rw [(ow j hj).1] at h
      obtain ⟨v, h1, h2⟩ := so.sh j u h
      exact ⟨v, h1, h2.mono zz⟩
    · have q := st.sh j u (by rw [wipeE_out hj]; exact h)
      rw [wipe_out hj] at q
      exact q
  · by_cases hj : j ∈ vs
    · rw [(ow j hj).1] at h
      exact absurd h ((ow j hj).2 u)
    · have q := st.ow j u (by rw [wipeE_out hj]; exact h)
      rw [wipe_out hj] at q
      exact q
  · have o1 : j ∉ vs := fun hj => by rw [(ow j hj).1] at h1; exact (ow j hj).2 t' h1
    have o2 : l ∉ vs := fun hj => by rw [(ow l hj).1] at h2; exact (ow l hj).2 u h2
    exact st.ds j l a t' u (by rw [wipeE_out o1]; exact h1) (by rw [wipeE_out o2]; exact h2) (by rw [wipe_out o1]; exact h3) (by rw [wipe_out o2]; exact h4)
theorem StOk.len_eq (st : StOk K Z H σ E) (st' : StOk K Z' H' σ E') : E'.length = E.length := by rw [← st'.len, ← st.len]
theorem wipe_congr : ∀ {vs : List Nat} {σ σ' : St}, σ'.length = σ.length → (∀ j, j ∉ vs → σ'[j]? = σ[j]?) → wipe σ' vs = wipe σ vs := fun {vs σ σ'} hl h => by
  apply List.ext_getElem?
  intro j
  by_cases hj : j ∈ vs
  · by_cases hlt : j < σ.length
    · have a : (wipe σ' vs)[j]? ≠ none := fun z => by
        rw [List.getElem?_eq_none_iff, wipe_length, hl] at z; omega
      have b : (wipe σ vs)[j]? ≠ none := fun z => by
        rw [List.getElem?_eq_none_iff, wipe_length] at z; omega
      rcases wipe_in hj (σ := σ') with z | z
      · exact absurd z a
      · rcases wipe_in hj (σ := σ) with y | y
        · exact absurd y b
        · rw [z, y]
    · rw [List.getElem?_eq_none (by rw [wipe_length, hl]; omega), List.getElem?_eq_none (by rw [wipe_length]; omega)]
  · rw [wipe_out hj, wipe_out hj, h j hj]
theorem wipe_wipe {vs : List Nat} : wipe (wipe σ vs) vs = wipe σ vs := wipe_congr (wipe_length _ _) fun j hj => wipe_out hj
/-- laid beside: the new object at D is not ours yet -/
structure Beside (K : PySem.W.Frag) (B : Addr → Prop) (Z1 H1 : Hp) (D : Addr) (o : HO) (E' : List Ent) (σ' : St) (Z H : Hp) : Prop where
  st : StOk K Z H σ' E'
  step : Step (fun b => B b ∨ b = D) Z1 H1 Z H
  ow : ∀ b, Own σ' E' b → B b ∨ H1 b = none
  nd : ¬ Own σ' E' D
  zd : Z D = none
  hd : H D = some o
theorem Step.mono {B B' : Addr → Prop} {Z1 H1 : Hp} (s : Step B Z1 H1 Z H) (h : ∀ b, B b → B' b) : Step B' Z1 H1 Z H :=
  ⟨s.zz, fun b o e nb => s.keep b o e fun z => nb (h b z), fun b o e => by
    rcases s.new b o e with z | z | z
    · exact .inl z
    · exact .inr (.inl z)
    · exact .inr (.inr (h b z))⟩
theorem Beside.start {D : Addr} {o : HO} (st : StOk K Z H σ E) (hD : H D = none) (ho : ∀ ps, o ≠ .tbl ps) : Beside K (Own σ E) Z H D o E σ Z (upd H D o) := by
  have zD : Z D = none := by
    cases q : Z D with
    | none => rfl
    | some u => rw [st.zh _ _ q] at hD; cases hD
  refine ⟨⟨fun b u e => ?_, st.nt, st.len, st.sh, fun i t h => ?_, st.ds⟩, ⟨Same.refl _, fun b u e nb => ?_, fun b u e => .inl e⟩, fun b h => .inl h, fun ⟨i, t, h, e⟩ => ?_, zD, upd_same⟩
  · rw [upd_ne (ne_of_none (st.zh b u e) hD)]; exact st.zh b u e
  · obtain ⟨a, u, h1, h2, h3, h4⟩ := st.ow i t h
    exact ⟨a, u, h1, by rw [upd_ne (ne_of_none h2 hD)]; exact h2, h3, h4⟩
  · rw [upd_ne (ne_of_none e hD)]; exact e
  · obtain ⟨a, u, h1, h2, h3, h4⟩ := st.ow i t h
    rw [e] at h1; cases h1
    rw [h2] at hD; cases hD
section
variable {B : Addr → Prop} {D : Addr} {o o' : HO} {Z1 H1 : Hp} {σ1 σ2 : St}
theorem Beside.go {S' : SS} (b : Beside K B Z1 H1 D o E1 σ1 Z H) (g : Go S' E1 σ1 Z H E2 σ2 Z' H') (hK : S'.K = K) (ho : ∀ ps, o ≠ .tbl ps) : Beside K B Z1 H1 D o E2 σ2 Z' H' := by
  have hd' : H' D = some o := g.step.keep D o b.hd b.nd
  have nd' : ¬ Own σ2 E2 D := fun z => by
    rcases g.ow D z with y | y
    · exact b.nd y
    · rw [b.hd] at y; cases y
  refine ⟨by rw [← hK]; exact g.st, b.step.trans g.step fun c hc => ?_, fun c hc => ?_, nd', ?_, hd'⟩
  · rcases b.ow c hc with y | y
    · exact .inl (.inl y)
    · exact .inr y
  · rcases g.ow c hc with y | y
    · exact b.ow c y
    · rcases b.step.there y with z | z
      · exact .inr z
      · rcases z with z | z
        · exact .inl z
        · subst z; rw [b.hd] at y; cases y
  · cases q : Z' D with
    | none => rfl
    | some u =>
      rcases g.step.new D u q with y | y | y
      · rw [b.zd] at y; cases y
      · rw [b.hd] at y; cases y
      · exact absurd y b.nd
theorem Beside.slots (b : Beside K B Z1 H1 D o E1 σ1 Z H) (st : StOk K Z H σ2 E2) (h : ∀ c, Own σ2 E2 c → Own σ1 E1 c) : Beside K B Z1 H1 D o E2 σ2 Z H :=
  ⟨st, b.step, fun c hc => b.ow c (h c hc), fun z => b.nd (h D z), b.zd, b.hd⟩
theorem Own.wiped {vs : List Nat} {c : Addr} (h : Own (wipe σ vs) (wipeE E vs) c) : Own σ E c := by
  obtain ⟨i, t, h1, h2⟩ := h
  by_cases hj : i ∈ vs
  · rcases wipeE_in hj (E := E) with z | z <;> rw [z] at h1 <;> cases h1
  · rw [wipeE_out hj] at h1; rw [wipe_out hj] at h2; exact ⟨i, t, h1, h2⟩
theorem Beside.write (b : Beside K B Z1 H1 D o E1 σ1 Z H) : Beside K B Z1 H1 D o' E1 σ1 Z (upd H D o') := by
  have ne : ∀ c u, Z c = some u → c ≠ D := fun c u e z => by subst z; rw [b.zd] at e; cases e
  refine ⟨⟨fun c u e => by rw [upd_ne (ne c u e)]; exact b.st.zh c u e, b.st.nt, b.st.len, b.st.sh, fun i t h => ?_, b.st.ds⟩, ⟨b.step.zz, fun c u e nb => ?_, fun c u e => b.step.new c u e⟩, b.ow, b.nd, b.zd, upd_same⟩
  · obtain ⟨a, u, h1, h2, h3, h4⟩ := b.st.ow i t h
    refine ⟨a, u, h1, ?_, h3, h4⟩
    rw [upd_ne (fun z => b.nd ⟨i, t, h, by rw [← z]; exact h1⟩)]; exact h2
  · rw [upd_ne (fun z => nb (.inr z))]; exact b.step.keep c u e nb
/-- the new object is frozen -/
theorem Beside.freeze (b : Beside K B Z1 H1 D o E1 σ1 Z H) (hD : H1 D = none) (ho : ∀ ps, o ≠ .tbl ps) : Step B Z1 H1 (upd Z D o) H ∧ StOk K (upd Z D o) H σ1 E1 := by
  have zz : Same Z (upd Z D o) := fun c u e => by rw [upd_ne (fun z => by subst z; rw [b.zd] at e; cases e)]; exact e
  refine ⟨⟨b.step.zz.trans zz, fun c u e nb => b.step.keep c u e fun z => ?_, fun c u e => ?_⟩, ⟨fun c u e => ?_, fun c ps e => ?_, b.st.len, fun i t h => ?_, fun i t h => ?_, b.st.ds⟩⟩
  · rcases z with z | z
    · exact nb z
    · subst z; rw [hD] at e; cases e
  · by_cases hc : c = D
    · subst hc; exact .inr (.inl hD)
    · rw [upd_ne hc] at e
      rcases b.step.new c u e with z | z | z
      · exact .inl z
      · exact .inr (.inl z)
      · rcases z with z | z
        · exact .inr (.inr z)
        · exact absurd z hc
  · by_cases hc : c = D
    · subst hc; rw [upd_same] at e; rw [← e]; exact b.hd
    · rw [upd_ne hc] at e; exact b.st.zh c u e
  · by_cases hc : c = D
    · subst hc; rw [upd_same] at e; exact ho ps (Option.some.inj e)
    · rw [upd_ne hc] at e; exact b.st.nt c ps e
  · obtain ⟨v, h1, h2⟩ := b.st.sh i t h
    exact ⟨v, h1, h2.mono zz⟩
  · obtain ⟨a, u, h1, h2, h3, h4⟩ := b.st.ow i t h
    exact ⟨a, u, h1, h2, by rw [upd_ne (fun z => b.nd ⟨i, t, h, by rw [← z]; exact h1⟩)]; exact h3, h4.mono zz⟩
end
end
end Cw
end L2

set_option Elab.async false
set_option linter.all false
set_option maxRecDepth 100000
set_option maxHeartbeats 2000000
namespace L2
namespace Cw
open PySem PySem.Spec PyProof.Rows
def NoOw (E : List Ent) (vs : List Nat) : Prop := ∀ j ∈ vs, ∀ t, E[j]? ≠ some (.ow t)
/-- the turns of a comprehension: the items, what is kept of them -/
inductive LcTurns (S : SS) (vs : List Nat) (tg : Expr) (ifs : List Expr) (elt : Expr) : List Ent → List T → List T → List Ent → Prop
  | nil {E} : LcTurns S vs tg ifs elt E [] [] E
  | skip {E Ea Eb E1 E' t ts us ws} (ha : AG S (wipeE E vs) tg t Ea ws) (hw : ∀ j ∈ ws, j ∈ vs) (ht : TGs S Ea ifs false Eb) (hb : wipeE Eb vs = wipeE E1 vs) (hf : ∀ j ∈ vs, E1[j]? = E[j]?) (r : LcTurns S vs tg ifs elt E1 ts us E') : LcTurns S vs tg ifs elt E (t :: ts) us E'
  | take {E Ea Eb Ec E1 E' t ts y us ws} (ha : AG S (wipeE E vs) tg t Ea ws) (hw : ∀ j ∈ ws, j ∈ vs) (ht : TGs S Ea ifs true Eb) (he : EG S Eb elt y Ec) (hb : wipeE Ec vs = wipeE E1 vs) (hf : ∀ j ∈ vs, E1[j]? = E[j]?) (r : LcTurns S vs tg ifs elt E1 ts us E') : LcTurns S vs tg ifs elt E (t :: ts) (y :: us) E'
section
variable {K : PySem.W.Frag} {Z Z' H H' : Hp} {σ σ' : St} {E E' E1 E2 E3 : List Ent} {S : SS}
theorem LcTurns.le {vs : List Nat} {tg elt : Expr} {ifs : List Expr} {ts us : List T} (r : LcTurns S vs tg ifs elt E ts us E') : us.length ≤ ts.length := by
  induction r with
  | nil => exact Nat.le_refl _
  | skip _ _ _ _ _ _ ih => exact Nat.le_trans ih (Nat.le_succ _)
  | take _ _ _ _ _ _ _ ih => exact Nat.succ_le_succ ih
/-- what comes is laid and frozen -/
theorem Comes.go {S' : SS} {t : T} {x : V} {Zs : Hp} (c : Comes S.K Zs H t x H') (zs : Same Zs Z) (hK : S'.K = S.K) (st : StOk S'.K Z H σ E) : ∃ Z', Go S' E σ Z H E σ Z' H' ∧ Rep S'.K Z' t x := by
  rcases c with ⟨rfl, r⟩ | ⟨p, us, vs, rfl, rfl, hp, rfl, r⟩
  · exact ⟨Z, Go.refl st, by rw [hK]; exact r.mono zs⟩
  · have g := Go.alloc (S := S') st (o := .tup vs) hp (by intro ps q; cases q)
    exact ⟨_, g, rep_tup.mpr ⟨p, vs, rfl, upd_same, by rw [hK]; exact (r.mono zs).mono g.step.zz⟩⟩

/-- a turn of a loop that fills the list at D: behind it Nx -/
def Fills (g : TG) (tt : TT) (te : TE) (vs : List Nat) (σ : St) (D : Addr) (Nx : Hp → Prop) (x : V) (H : Hp) : Prop :=
  g x (L2.wipe σ vs) H fun σ2 H2 => L2.wipe σ2 vs = L2.wipe σ vs ∧ tt σ2 H2 fun b H3 => if b = true then (te σ2 H3 fun y H4 => ∃ acc, H4 D = some (.lst acc) ∧ acc.length < sizeLine ∧ Nx (upd H4 D (.lst (acc ++ [y])))) else Nx H3
/-- a loop that fills a list, from any start -/
theorem lc_from {J : It} {n : Nat} {G : Hp → Prop} {Y : Nat → Hp → V → Hp → Prop} (w : Walk J n G Y) {g : TG} {tt : TT} {te : TE} {vs : List Nat} {σ : St} {H0 : Hp} {D : Addr} {Qd : Hp → Prop} (Pv : Nat → Hp → Prop) (h0 : Pv 0 H0) (hG : ∀ i H, i ≤ n → Pv i H → G H)
    (hs : ∀ i x H H', i < n → Pv i H → Y i H x H' → Fills g tt te vs σ D (Pv (i + 1)) x H') (hd : ∀ H, Pv n H → Qd H) :
    ∃ W : Nat → Nat → Hp → Prop, (∃ m, W 0 m H0) ∧ ∀ i m H, W i m H →
      (J.stop i H ∧ Qd H) ∨ (J.go i H ∧ ∃ Nx : Hp → Prop, (∀ H', Nx H' → ∃ m', m' < m ∧ W (i + 1) m' H') ∧ ∀ x H', J.yld i H x H' → Fills g tt te vs σ D Nx x H') := by
  refine ⟨fun i m H => i + m = n ∧ Pv i H, ⟨n, Nat.zero_add n, h0⟩, fun i m H hm => ?_⟩
  have hi : i ≤ n := hm.1 ▸ Nat.le_add_right i m
  rcases Nat.lt_or_eq_of_le hi with lt | e
  · refine .inr ⟨w.goes i H lt (hG i H hi hm.2), Pv (i + 1), fun H' p' => ⟨m - 1, ?_, ?_, p'⟩, fun x H' y => ?_⟩
    · have := hm.1; omega
    · have := hm.1; omega
    · exact hs i x H H' lt hm.2 (w.yields i H x H' lt (hG i H hi hm.2) y)
  · rw [e] at hm ⊢
    exact .inl ⟨w.stops H (hG n H (Nat.le_refl n) hm.2), hd H hm.2⟩
/-- the state ahead of turn i -/
def LcSt (S' : SS) (B : Addr → Prop) (Z1 H1 : Hp) (D : Addr) (vs : List Nat) (tg : Expr) (ifs : List Expr) (elt : Expr) (σ : St) (Z0 : Hp) (pre : List T) (E1 : List Ent) (ts us : List T) (E2 : List Ent) (i : Nat) (H2 : Hp) : Prop :=
  ∃ (Ei : List Ent) (acc : List V) (got rest : List T) (Z2 : Hp), LcTurns S' vs tg ifs elt Ei (ts.drop i) rest E2 ∧ got ++ rest = us ∧ (∀ j ∈ vs, Ei[j]? = E1[j]?) ∧ got.length ≤ i ∧
    Reps S'.K Z2 (pre ++ got) acc ∧ Beside S'.K B Z1 H1 D (.lst acc) (wipeE Ei vs) (L2.wipe σ vs) Z2 H2 ∧ Same Z0 Z2
theorem lc_turns {S' : SS} {B : Addr → Prop} {Z1 H1 Z0 H0 : Hp} {D : Addr} {pre ts us : List T} {acc0 : List V} {tg elt : Expr} {ifs : List Expr} {vs : List Nat} {J : It} {G : Hp → Prop} {Y : Nat → Hp → V → Hp → Prop} {Qd : Hp → Prop}
    (b0 : Beside S'.K B Z1 H1 D (.lst acc0) E1 σ Z0 H0) (r0 : Reps S'.K Z0 pre acc0) (w : Walk J ts.length G Y) (hG : ∀ H2, Same Z0 H2 → G H2) (hY : ∀ i H1 x H2, Y i H1 x H2 → ∃ t, ts[i]? = some t ∧ Comes S'.K Z0 H1 t x H2)
    (r : LcTurns S' vs tg ifs elt E1 ts us E2) (hz : pre.length + ts.length ≤ 16777216)
    (hd : ∀ Z H acc, Beside S'.K B Z1 H1 D (.lst acc) (wipeE E2 vs) (L2.wipe σ vs) Z H → Reps S'.K Z (pre ++ us) acc → (∀ j ∈ vs, E2[j]? = E1[j]?) → Same Z0 Z → Qd H) :
    ∃ W : Nat → Nat → Hp → Prop, (∃ m, W 0 m H0) ∧ ∀ i m H, W i m H →
      (J.stop i H ∧ Qd H) ∨ (J.go i H ∧ ∃ Nx : Hp → Prop, (∀ H', Nx H' → ∃ m', m' < m ∧ W (i + 1) m' H') ∧ ∀ x H', J.yld i H x H' → RG S' WX0 tg x (L2.wipe σ vs) H' fun σ2 H2 => L2.wipe σ2 vs = L2.wipe σ vs ∧ RTs S' WX0 ifs σ2 H2 fun b H3 =>
        if b = true then R S' WX0 elt σ2 H3 fun y H4 => ∃ acc, H4 D = some (.lst acc) ∧ acc.length < sizeLine ∧ Nx (upd H4 D (.lst (acc ++ [y]))) else Nx H3) := by
  have hsl : pre.length + ts.length ≤ sizeLine := by rw [sizeLine_eq]; exact hz
  refine lc_from (g := RG S' WX0 tg) (tt := RTs S' WX0 ifs) (te := R S' WX0 elt) (vs := vs) (σ := σ) (D := D) w (LcSt S' B Z1 H1 D vs tg ifs elt σ Z0 pre E1 ts us E2) ?_ ?_ ?_ ?_
  · exact ⟨E1, acc0, [], us, Z0, r, rfl, fun _ _ => rfl, Nat.le_refl _, by rw [List.append_nil]; exact r0, b0.slots (b0.st.wiped vs) (fun c h => h.wiped), Same.refl _⟩
  · rintro i H2 _ ⟨Ei, acc, got, rest, Z2, _, _, _, _, _, b, zz⟩
    exact hG H2 (zz.trans b.st.zh)
  · rintro i x H2 H3 hlt ⟨Ei, acc, got, rest, Z2, rt, hgr, hvs, hgl, racc, b, zz⟩ y
    obtain ⟨t, ht, cm⟩ := hY i H2 x H3 y
    have hlt' : i < ts.length := hlt
    have ed : ts.drop i = t :: ts.drop (i + 1) := drop_at ht
    rw [ed] at rt
    obtain ⟨Z3, g3, r3⟩ := cm.go (S := S') (S' := S') (zs := zz) rfl b.st
    have b3 := b.go g3 rfl (by intro ps q; cases q)
    have racc3 := racc.mono g3.step.zz
    have zz3 := zz.trans g3.step.zz
    -- behind the target
    have tgt : ∀ {Ea : List Ent} {ws : List Nat} (Q : St → Hp → Prop), AG S' (wipeE Ei vs) tg t Ea ws → (∀ j ∈ ws, j ∈ vs) → (∀ σ2, Beside S'.K B Z1 H1 D (.lst acc) Ea σ2 Z3 H3 → L2.wipe σ2 vs = L2.wipe σ vs → Q σ2 H3) → RG S' WX0 tg x (L2.wipe σ vs) H3 Q := by
      intro Ea ws Q ha hw kq
      refine ha.2.2 WX0 Z3 H3 (L2.wipe σ vs) x _ g3.st r3 fun σ2 st2 e2 => kq σ2 ?_ ?_
      · refine b3.slots st2 fun c ⟨j, u, h1, h2⟩ => ?_
        obtain ⟨a1, a2⟩ := ha.1 j ⟨u, h1⟩
        exact ⟨j, u, by rw [← a2]; exact h1, by rw [← e2.2 j a1]; exact h2⟩
      · rw [wipe_congr (σ := L2.wipe σ vs) e2.1 fun j hj => e2.2 j fun z => hj (hw j z), wipe_wipe]
    -- back at the turn's end
    have fin : ∀ {Ec E1' : List Ent} {σ2 : St} {Z4 H4 : Hp} {acc' : List V} {got' rest' : List T}, Beside S'.K B Z1 H1 D (.lst acc') Ec σ2 Z4 H4 → L2.wipe σ2 vs = L2.wipe σ vs → wipeE Ec vs = wipeE E1' vs → (∀ j ∈ vs, E1'[j]? = Ei[j]?) → LcTurns S' vs tg ifs elt E1' (ts.drop (i + 1)) rest' E2 → got' ++ rest' = us → got'.length ≤ i + 1 → Reps S'.K Z4 (pre ++ got') acc' → Same Z3 Z4 →
        LcSt S' B Z1 H1 D vs tg ifs elt σ Z0 pre E1 ts us E2 (i + 1) H4 := by
      intro Ec E1' σ2 Z4 H4 acc' got' rest' bb ew we hf rt' hgr' hgl' ra z4
      refine ⟨E1', acc', got', rest', Z4, rt', hgr', fun j hj => (hf j hj).trans (hvs j hj), hgl', ra, ?_, zz3.trans z4⟩
      have := bb.slots (bb.st.wiped vs) fun c h => h.wiped
      rw [ew, we] at this
      exact this
    cases rt with
    | skip ha hw ht' hb hf rt' =>
      refine tgt _ ha hw fun σ2 b4 ew => ⟨ew, ht' WX0 Z3 H3 σ2 _ b4.st fun H4 Z4 g4 => iteF ?_⟩
      have b5 := b4.go g4 rfl (by intro ps q; cases q)
      exact fin b5 ew hb hf rt' hgr (Nat.le_succ_of_le hgl) (racc3.mono g4.step.zz) g4.step.zz
    | @take _ Ea Eb Ec E1' _ _ _ yy us2 ws ha hw ht' he hb hf rt' =>
      refine tgt _ ha hw fun σ2 b4 ew => ⟨ew, ht' WX0 Z3 H3 σ2 _ b4.st fun H4 Z4 g4 => iteT ?_⟩
      have b5 := b4.go g4 rfl (by intro ps q; cases q)
      refine he WX0 Z4 H4 σ2 _ b5.st fun y H5 Z5 g5 r5 => ?_
      have b6 := b5.go g5 rfl (by intro ps q; cases q)
      have ra6 := (racc3.mono g4.step.zz).mono g5.step.zz
      refine ⟨acc, b6.hd, ?_, fin (got' := got ++ [yy]) (b6.write) ew hb hf rt' (by rw [List.append_assoc]; exact hgr) (by rw [List.length_append]; exact Nat.succ_le_succ hgl) (by rw [← List.append_assoc]; exact ra6.append (.cons r5 .nil)) (g4.step.zz.trans g5.step.zz)⟩
      rw [ra6.length, List.length_append]
      omega
  · rintro H2 ⟨Ei, acc, got, rest, Z2, rt, hgr, hvs, hgl, racc, b, zz⟩
    rw [List.drop_length] at rt
    cases rt with
    | nil =>
      rw [List.append_nil] at hgr
      subst hgr
      exact hd Z2 H2 acc b racc hvs zz
/-- the list made is frozen, the slots as they were -/
theorem lc_end {B : Addr → Prop} {Z1 H1 Z2 H2 : Hp} {D : Addr} {acc : List V} {us : List T} {vs : List Nat} {Q : VK} {W : WX} (hD : H1 D = none) (g1 : Go S E σ Z H E1 σ Z1 H1) (no : NoOw E1 vs) (b : Beside S.K (Own σ E1) Z1 H1 D (.lst acc) (wipeE E2 vs) (L2.wipe σ vs) Z2 H2) (racc : Reps S.K Z2 us acc) (hvs : ∀ j ∈ vs, E2[j]? = E1[j]?)
    (k : ∀ v H' Z', Go S E σ Z H E2 σ Z' H' → Rep S.K Z' (.lst us) v → Q v H') : Q (.ref D) H2 := by
  have st1 := g1.st
  obtain ⟨s1, s2⟩ := b.freeze hD (by intro ps q; cases q)
  have s3 := s2.unwiped (E := E1) st1 s1.zz (fun j hj => ⟨hvs j hj, no j hj⟩) (by have a := s2.len; have c := st1.len; rw [wipe_length, wipeE_length] at a; omega)
  refine k (.ref D) H2 (upd Z2 D (.lst acc)) (g1.trans ⟨s1, s3, fun c ⟨j, u, h1, h2⟩ => ?_, fun _ _ => rfl⟩) (rep_lst.mpr ⟨D, acc, rfl, upd_same, racc.mono fun c u e => ?_⟩)
  · have hj : j ∉ vs := fun hj => by rw [hvs j hj] at h1; exact no j hj u h1
    exact b.ow c ⟨j, u, by rw [wipeE_out hj]; exact h1, by rw [wipe_out hj]; exact h2⟩
  · rw [upd_ne (fun z => by subst z; rw [b.zd] at e; cases e)]; exact e
theorem lc_read {tg iter elt : Expr} {ifs : List Expr} {scope : Scope} {vs : List Nat} {ts us : List T} (no : NoOw E1 vs) (r : LcTurns (S.blk scope) vs tg ifs elt E1 ts us E2) (hz : ts.length ≤ 16777216)
    (W : WX) (Z H : Hp) (σ : St) (Q : VK) (hi : IGat S E tg iter ts E1 W Z H σ) (k : ∀ v H' Z', Go S E σ Z H E2 σ Z' H' → Rep S.K Z' (.lst us) v → Q v H') :
    tLc (RI S W tg iter) (RG (S.blk scope) WX0 tg) (RTs (S.blk scope) WX0 ifs) (R (S.blk scope) WX0 elt) vs σ H Q := by
  refine hi _ fun J H1 Z1 G Y g1 w hG hY D hD => ?_
  exact lc_turns (S' := S.blk scope) (pre := []) (Beside.start g1.st hD (by intro ps q; cases q)) .nil w hG hY r (by simpa using hz) fun Z2 H2 acc b ra hvs _ => lc_end (W := W) (B := Own σ E1) hD g1 no b ra hvs k
end
/-! ### two clauses -/
inductive Lc2Turns (S : SS) (vs vs1 : List Nat) (tg : Expr) (ifs : List Expr) (tg1 iter1 : Expr) (ifs1 : List Expr) (elt : Expr) (n1 : Nat) : List Ent → List T → List T → List Ent → Prop
  | nil {E} : Lc2Turns S vs vs1 tg ifs tg1 iter1 ifs1 elt n1 E [] [] E
  | skip {E Ea Eb E1 E' t ts us ws} (ha : AG S (wipeE E vs) tg t Ea ws) (hw : ∀ j ∈ ws, j ∈ vs) (ht : TGs S Ea ifs false Eb) (hb : wipeE Eb vs = wipeE E1 vs) (hf : ∀ j ∈ vs, E1[j]? = E[j]?) (r : Lc2Turns S vs vs1 tg ifs tg1 iter1 ifs1 elt n1 E1 ts us E') : Lc2Turns S vs vs1 tg ifs tg1 iter1 ifs1 elt n1 E (t :: ts) us E'
  | take {E Ea Eb Ec Ed E1 E' t ts ts1 us1 us ws} (ha : AG S (wipeE E vs) tg t Ea ws) (hw : ∀ j ∈ ws, j ∈ vs) (ht : TGs S Ea ifs true Eb) (hi : IG S Eb tg1 iter1 ts1 Ec) (hn : ts1.length ≤ n1) (he : LcTurns S vs1 tg1 ifs1 elt Ec ts1 us1 Ed) (hb : wipeE (wipeE Ed vs1) vs = wipeE E1 vs) (hf : ∀ j ∈ vs, E1[j]? = E[j]?)
      (r : Lc2Turns S vs vs1 tg ifs tg1 iter1 ifs1 elt n1 E1 ts us E') : Lc2Turns S vs vs1 tg ifs tg1 iter1 ifs1 elt n1 E (t :: ts) (us1 ++ us) E'
section
variable {K : PySem.W.Frag} {Z Z' H H' : Hp} {σ σ' : St} {E E' E1 E2 E3 : List Ent} {S : SS}
def Lc2St (S' : SS) (B : Addr → Prop) (Z1 H1 : Hp) (D : Addr) (vs vs1 : List Nat) (tg : Expr) (ifs : List Expr) (tg1 iter1 : Expr) (ifs1 : List Expr) (elt : Expr) (n1 : Nat) (σ : St) (E1 : List Ent) (ts us : List T) (E2 : List Ent) (i : Nat) (H2 : Hp) : Prop :=
  ∃ (Ei : List Ent) (acc : List V) (got rest : List T) (Z2 : Hp), Lc2Turns S' vs vs1 tg ifs tg1 iter1 ifs1 elt n1 Ei (ts.drop i) rest E2 ∧ got ++ rest = us ∧ (∀ j ∈ vs, Ei[j]? = E1[j]?) ∧ got.length ≤ i * n1 ∧
    Reps S'.K Z2 got acc ∧ Beside S'.K B Z1 H1 D (.lst acc) (wipeE Ei vs) (L2.wipe σ vs) Z2 H2
theorem lc2_read {tg iter tg1 iter1 elt : Expr} {ifs ifs1 : List Expr} {scope : Scope} {vs vs1 : List Nat} {ts us : List T} {n1 : Nat} (no : NoOw E1 vs) (hv : ∀ j ∈ vs1, j ∈ vs) (r : Lc2Turns (S.blk scope) vs vs1 tg ifs tg1 iter1 ifs1 elt n1 E1 ts us E2) (hz : ts.length * n1 ≤ 16777216)
    (W : WX) (Z H : Hp) (σ : St) (Q : VK) (hi : IGat S E tg iter ts E1 W Z H σ) (k : ∀ v H' Z', Go S E σ Z H E2 σ Z' H' → Rep S.K Z' (.lst us) v → Q v H') :
    tLc2 (RI S W tg iter) (RG (S.blk scope) WX0 tg) (RTs (S.blk scope) WX0 ifs) (RI (S.blk scope) WX0 tg1 iter1) (RG (S.blk scope) WX0 tg1) (RTs (S.blk scope) WX0 ifs1) (R (S.blk scope) WX0 elt) vs vs1 σ H Q := by
  refine hi _ fun J H1 Z1 G Y g1 w hG hY D hD => ?_
  have b0 := Beside.start (o := .lst []) g1.st hD (by intro ps q; cases q)
  refine ⟨fun i m H => m = ts.length - i ∧ i ≤ ts.length ∧ Lc2St (S.blk scope) (Own σ E1) Z1 H1 D vs vs1 tg ifs tg1 iter1 ifs1 elt n1 σ E1 ts us E2 i H, ⟨ts.length, by simp, Nat.zero_le _, ?_⟩, ?_⟩
  · exact ⟨E1, [], [], us, Z1, r, rfl, fun _ _ => rfl, Nat.zero_le _, .nil, b0.slots (b0.st.wiped vs) fun c h => h.wiped⟩
  rintro i m H2 ⟨rfl, hi', Ei, acc, got, rest, Z2, rt, hgr, hvs, hgl, racc, b⟩
  have gg := hG H2 (b.step.zz.trans b.st.zh)
  by_cases hlt : i < ts.length
  · refine .inr ⟨w.goes i H2 hlt gg, Lc2St (S.blk scope) (Own σ E1) Z1 H1 D vs vs1 tg ifs tg1 iter1 ifs1 elt n1 σ E1 ts us E2 (i + 1), fun H' p' => ⟨ts.length - (i + 1), by omega, rfl, hlt, p'⟩, fun x H3 y => ?_⟩
    obtain ⟨t, ht, cm⟩ := hY i H2 x H3 (w.yields i H2 x H3 hlt gg y)
    have ed : ts.drop i = t :: ts.drop (i + 1) := by
      exact drop_at ht
    rw [ed] at rt
    obtain ⟨Z3, g3, r3⟩ := cm.go (S := S) (S' := S.blk scope) (zs := b.step.zz) rfl b.st
    have b3 := b.go g3 rfl (by intro ps q; cases q)
    have racc3 := racc.mono g3.step.zz
    have tgt : ∀ {Ea : List Ent} {ws : List Nat} (Q : St → Hp → Prop), AG (S.blk scope) (wipeE Ei vs) tg t Ea ws → (∀ j ∈ ws, j ∈ vs) → (∀ σ2, Beside S.K (Own σ E1) Z1 H1 D (.lst acc) Ea σ2 Z3 H3 → L2.wipe σ2 vs = L2.wipe σ vs → Q σ2 H3) → RG (S.blk scope) WX0 tg x (L2.wipe σ vs) H3 Q := by
      intro Ea ws Q ha hw kq
      refine ha.2.2 WX0 Z3 H3 (L2.wipe σ vs) x _ g3.st r3 fun σ2 st2 e2 => kq σ2 ?_ ?_
      · refine b3.slots st2 fun c ⟨j, u, h1, h2⟩ => ?_
        obtain ⟨a1, a2⟩ := ha.1 j ⟨u, h1⟩
        exact ⟨j, u, by rw [← a2]; exact h1, by rw [← e2.2 j a1]; exact h2⟩
      · rw [wipe_congr (σ := L2.wipe σ vs) e2.1 fun j hj => e2.2 j fun z => hj (hw j z), wipe_wipe]
    cases rt with
    | skip ha hw ht' hb hf rt' =>
      refine tgt _ ha hw fun σ2 b4 ew => ⟨ew, ht' WX0 Z3 H3 σ2 _ b4.st fun H4 Z4 g4 => iteF ?_⟩
      have b5 := b4.go g4 rfl (by intro ps q; cases q)
      have b6 := b5.slots (b5.st.wiped vs) fun c h => h.wiped
      rw [ew, hb] at b6
      exact ⟨_, acc, got, rest, Z4, rt', hgr, fun j hj => (hf j hj).trans (hvs j hj), Nat.le_trans hgl (Nat.mul_le_mul_right _ (Nat.le_succ _)), racc3.mono g4.step.zz, b6⟩
    | @take _ Ea Eb Ec Ed E1' _ _ _ ts1 us1 us2 ws ha hw ht' hi1 hn he hb hf rt' =>
      refine tgt _ ha hw fun σ2 b4 ew => ⟨ew, ht' WX0 Z3 H3 σ2 _ b4.st fun H4 Z4 g4 => iteT ?_⟩
      have b5 := b4.go g4 rfl (by intro ps q; cases q)
      refine hi1 WX0 Z4 H4 σ2 _ b5.st fun J1 H5 Z5 G1 Y1 g5 w1 hG1 hY1 => ?_
      have b6 := b5.go g5 rfl (by intro ps q; cases q)
      have ra6 := (racc3.mono g4.step.zz).mono g5.step.zz
      have hle : got.length + ts1.length ≤ (i + 1) * n1 := by rw [Nat.succ_mul]; omega
      refine lc_turns (S' := S.blk scope) (pre := got) b6 ra6 w1 hG1 hY1 he ?_ fun Z7 H7 acc7 b7 ra7 hv7 zz7 => ?_
      · exact Nat.le_trans hle (Nat.le_trans (Nat.mul_le_mul_right _ hlt) hz)
      · have b8 := b7.slots (b7.st.wiped vs) fun c h => h.wiped
        have e8 : L2.wipe (L2.wipe σ2 vs1) vs = L2.wipe σ vs := by
          rw [← ew]
          exact wipe_congr (wipe_length _ _) fun j hj => wipe_out fun z => hj (hv j z)
        rw [e8, hb] at b8
        refine ⟨_, acc7, got ++ us1, us2, Z7, rt', by rw [List.append_assoc]; exact hgr, fun j hj => (hf j hj).trans (hvs j hj), ?_, ra7, b8⟩
        rw [List.length_append]
        have := he.le
        omega
  · have e : i = ts.length := by omega
    subst e
    rw [List.drop_length] at rt
    cases rt with
    | nil =>
      rw [List.append_nil] at hgr
      subst hgr
      exact .inl ⟨w.stops H2 gg, lc_end (W := W) (B := Own σ E1) hD g1 no b racc hvs k⟩
end
end Cw
end L2

set_option Elab.async false
set_option linter.all false
set_option maxRecDepth 100000
set_option maxHeartbeats 2000000
namespace L2
namespace Cw
open PySem PySem.Spec PyProof.Rows
/-- a statement that doesn't go on -/
def Oc.Stops : Oc → Prop
  | .nx _ => False
  | _ => True
inductive ForR (S : SS) (tg : Expr) (body : List Stmt) : List Ent → List T → Oc → Prop
  | nil {E} : ForR S tg body E [] (.nx E)
  | step {E Ea E1 t ts o ws} (ha : AG S E tg t Ea ws) (hb : SGs S Ea body (.nx E1)) (r : ForR S tg body E1 ts o) : ForR S tg body E (t :: ts) o
  | cont {E Ea E1 t ts o ws} (ha : AG S E tg t Ea ws) (hb : SGs S Ea body (.cnt E1)) (r : ForR S tg body E1 ts o) : ForR S tg body E (t :: ts) o
  | brk {E Ea E1 t ts ws} (ha : AG S E tg t Ea ws) (hb : SGs S Ea body (.brk E1)) : ForR S tg body E (t :: ts) (.nx E1)
  | ret {E Ea E1 t ts ws u} (ha : AG S E tg t Ea ws) (hb : SGs S Ea body (.ret u E1)) : ForR S tg body E (t :: ts) (.ret u E1)
  | exc {E Ea E1 t ts ws C} (ha : AG S E tg t Ea ws) (hb : SGs S Ea body (.exc C E1)) : ForR S tg body E (t :: ts) (.exc C E1)
inductive WhileR (S : SS) (c : Expr) (body : List Stmt) : Nat → List Ent → Oc → Prop
  | stop {n E E1} (hc : TtG S E c false E1) : WhileR S c body n E (.nx E1)
  | step {n E E1 E2 o} (hc : TtG S E c true E1) (hb : SGs S E1 body (.nx E2)) (r : WhileR S c body n E2 o) : WhileR S c body (n + 1) E o
  | cont {n E E1 E2 o} (hc : TtG S E c true E1) (hb : SGs S E1 body (.cnt E2)) (r : WhileR S c body n E2 o) : WhileR S c body (n + 1) E o
  | brk {n E E1 E2} (hc : TtG S E c true E1) (hb : SGs S E1 body (.brk E2)) : WhileR S c body n E (.nx E2)
  | ret {n E E1 E2 u} (hc : TtG S E c true E1) (hb : SGs S E1 body (.ret u E2)) : WhileR S c body n E (.ret u E2)
section
variable {K : PySem.W.Frag} {Z Z' H H' : Hp} {σ σ' : St} {E E' E1 E2 E3 : List Ent} {S : SS} {o : Oc}
/-! ### comprehensions -/
theorem eg_lc {tg iter elt : Expr} {ifs : List Expr} {scope : Scope} {own : List (Str × Nat)} {pos : Pos} {ts us : List T} (ok : BlkOk S.N S.sc scope own) (hN : S.N.Nodup) (hi : IG S E tg iter ts E1) (no : NoOw E1 (own.map (·.2))) (r : LcTurns (S.blk scope) (own.map (·.2)) tg ifs elt E1 ts us E2) (hz : ts.length ≤ 16777216)
    (hs : ∀ env x, foldedSetIterable iter env x = pure x := by intro _ _; rfl) : EG S E (.ListComp elt [⟨tg, iter, ifs, 0⟩] scope pos) (.lst us) E2 := fun W Z H σ Q st k => by
  refine R.mk (fun X hX => ?_) (lc_read no r hz W Z H σ Q (hi.at' st) k)
  have e := hX.sc
  have pi := hX.pi tg iter
  have pg := fun s H C cl fp => (hX.blk scope s H C cl fp).pg tg
  have pt := fun s H C cl fp => (hX.blk scope s H C cl fp).pts ifs
  have pe := fun s H C cl fp => (hX.blk scope s H C cl fp).pe elt
  obtain ⟨A, s0, H0, env, outer, stack, ex, pn, xe, rfl⟩ := hX.ex
  exact pe_lc rfl hN pi (by rw [e]; exact ok) pg pt pe (hs _)

theorem eg_lc2 {tg iter tg1 iter1 elt : Expr} {ifs ifs1 : List Expr} {scope : Scope} {own : List (Str × Nat)} {vs1 : List Nat} {pos : Pos} {ts us : List T} {n1 : Nat} (ok : BlkOk S.N S.sc scope own) (hN : S.N.Nodup) (hi : IG S E tg iter ts E1) (no : NoOw E1 (own.map (·.2))) (hv : ∀ j ∈ vs1, j ∈ own.map (·.2)) (r : Lc2Turns (S.blk scope) (own.map (·.2)) vs1 tg ifs tg1 iter1 ifs1 elt n1 E1 ts us E2) (hz : ts.length * n1 ≤ 16777216)
    (hs : ∀ env x, foldedSetIterable iter env x = pure x := by intro _ _; rfl) (hs1 : ∀ env x, foldedSetIterable iter1 env x = pure x := by intro _ _; rfl) : EG S E (.ListComp elt [⟨tg, iter, ifs, 0⟩, ⟨tg1, iter1, ifs1, 0⟩] scope pos) (.lst us) E2 := fun W Z H σ Q st k => by
  refine R.mk (fun X hX => ?_) (lc2_read no hv r hz W Z H σ Q (hi.at' st) k)
  have e := hX.sc
  have pi := hX.pi tg iter
  have pg := fun s H C cl fp => (hX.blk scope s H C cl fp).pg tg
  have pt := fun s H C cl fp => (hX.blk scope s H C cl fp).pts ifs
  have pi1 := fun s H C cl fp => (hX.blk scope s H C cl fp).pi tg1 iter1
  have pg1 := fun s H C cl fp => (hX.blk scope s H C cl fp).pg tg1
  have pt1 := fun s H C cl fp => (hX.blk scope s H C cl fp).pts ifs1
  have pe := fun s H C cl fp => (hX.blk scope s H C cl fp).pe elt
  obtain ⟨A, s0, H0, env, outer, stack, ex, pn, xe, rfl⟩ := hX.ex
  exact pe_lc2 rfl hN pi (by rw [e]; exact ok) hv pg pt pi1 pg1 pt1 pe (hs _) hs1

/-! ### statements -/
theorem sgs_nil : SGs S E [] (.nx E) := fun W Z H σ D st k => RSs.mk (fun X hX => pss_nil) (show tNext D σ H from k _ _ _ (Go.refl st))
theorem sgs_cons {st : Stmt} {sts : List Stmt} (h1 : SG S E st (.nx E1)) (h2 : SGs S E1 sts o) : SGs S E (st :: sts) o := fun W Z H σ D s k =>
  RSs.mk (t := tSeq (RSt S W st) (RSs S W sts)) (fun X hX => pss_cons (hX.ps st) (hX.pss sts)) (h1 W Z H σ _ s fun σ1 Z1 H1 g1 => h2 W Z1 H1 σ1 D g1.st (k.after g1))
theorem sgs_stop {st : Stmt} {sts : List Stmt} (h1 : SG S E st o) (ho : o.Stops) : SGs S E (st :: sts) o := fun W Z H σ D s k =>
  RSs.mk (t := tSeq (RSt S W st) (RSs S W sts)) (fun X hX => pss_cons (hX.ps st) (hX.pss sts)) (h1 W Z H σ _ s (by cases o with
    | nx _ => exact ho.elim
    | ret t E' => exact k
    | exc C E' => exact k
    | brk E' => exact k
    | cnt E' => exact k))
theorem sgs_one {st : Stmt} (h1 : SG S E st o) : SGs S E [st] o := fun W Z H σ D s k => RSs.mk (t := RSt S W st) (fun X hX => pss_one (hX.ps st)) (h1 W Z H σ _ s k)
theorem sg_ret {e : Expr} {t : T} {pos : Pos} (h : EG S E e t E1) : SG S E (.Return (some e) pos) (.ret t E1) := fun W Z H σ D s k =>
  RSt.mk (t := tRet (R S W e)) (fun X hX => ps_ret (hX.pe e)) (h W Z H σ _ s fun v H1 Z1 g1 r => k v _ _ _ g1 r)
theorem sg_retN {pos : Pos} : SG S E (.Return none pos) (.ret .non E) := fun W Z H σ D s k =>
  RSt.mk (t := tRetN) (fun X hX => ps_retN) (k _ _ _ _ (Go.refl s) (rep_non.mpr rfl))
theorem sg_pass {pos : Pos} : SG S E (.Pass pos) (.nx E) := fun W Z H σ D s k => RSt.mk (t := tNext) (fun X hX => ps_pass) (k _ _ _ (Go.refl s))
theorem sg_brk {pos : Pos} : SG S E (.Break pos) (.brk E) := fun W Z H σ D s k => RSt.mk (t := tBreak) (fun X hX => ps_break) (k _ _ _ (Go.refl s))
theorem sg_cnt {pos : Pos} : SG S E (.Continue pos) (.cnt E) := fun W Z H σ D s k => RSt.mk (t := tCont) (fun X hX => ps_continue) (k _ _ _ (Go.refl s))
theorem sg_doc {x : Str} {j : Nat} {pos pos' : Pos} : SG S E (.Expr (.Constant (.str x) j pos) pos') (.nx E) := fun W Z H σ D s k => RSt.mk (t := tNext) (fun X hX => ps_doc) (k _ _ _ (Go.refl s))
theorem sg_expr {e : Expr} {t : T} {pos : Pos} (h : EG S E e t E1) (hs : ∀ env, swapsWith e none pos.line env = pure false := by intro _; rfl) : SG S E (.Expr e pos) (.nx E1) := fun W Z H σ D s k =>
  RSt.mk (t := tDrop (R S W e)) (fun X hX => ps_expr (hX.pe e) (hs _)) (h W Z H σ _ s fun v H1 Z1 g1 r => k _ _ _ g1)
theorem sg_if {c : Expr} {a b : List Stmt} {d : Bool} {pos : Pos} (hc : TtG S E c d E1) (ha : d = true → SGs S E1 a o) (hb : d = false → SGs S E1 b o) : SG S E (.If c a b pos) o := fun W Z H σ D s k =>
  RSt.mk (t := tIfS (RT S W c) (RSs S W a) (RSs S W b)) (fun X hX => ps_if (hX.pt c) (hX.pss a) (hX.pss b)) (hc W Z H σ _ s fun H1 Z1 g1 => by
    cases d with
    | true => exact iteT (ha rfl W Z1 H1 σ D g1.st (k.after g1))
    | false => exact iteF (hb rfl W Z1 H1 σ D g1.st (k.after g1)))
/-- a store's end -/
theorem AG.go {tg : Expr} {t : T} {ws : List Nat} (a : AG S E1 tg t E2 ws) {τ : St} (st : StOk S.K Z H τ E2) (e : τ.length = σ.length ∧ ∀ j, j ∉ ws → τ[j]? = σ[j]?) : Go S E1 σ Z H E2 τ Z H :=
  ⟨Step.refl _ _ _, st, fun c ⟨j, u, h1, h2⟩ => by
    obtain ⟨a1, a2⟩ := a.1 j ⟨u, h1⟩
    exact .inl ⟨j, u, by rw [← a2]; exact h1, by rw [← e.2 j a1]; exact h2⟩, fun j hj => e.2 j fun z => a.2.1 j z hj⟩
theorem sg_set {i : Nat} {x : Str} {e : Expr} {t : T} {pos pos' : Pos} (so : StoOk S i x) (h : EG S E e t E1) (hi : i < E1.length) (hs : ∀ env, swapsWith e (some (.Name x pos')) pos.line env = pure false := by intro _; rfl) : SG S E (.Assign [.Name x pos'] e pos) (.nx (E1.set i (.sh t))) := fun W Z H σ D s k => by
  have a : AG S E1 (.Name x pos') t (E1.set i (.sh t)) [i] := ag_name so hi
  refine RSt.mk (t := tAsg (R S W e) (gName i)) (fun X hX => ?_) (h W Z H σ _ s fun v H1 Z1 g1 r => ?_)
  · have q := hX.sc
    have pe := hX.pe e
    obtain ⟨A, s0, H0, env, outer, stack, ex, pn, xe, rfl⟩ := hX.ex
    exact ps_set so.nd so.hN (by rw [q]; exact so.loc) pe (hs _) (by rw [q]; exact so.hf)
  · exact k _ _ _ (g1.trans (a.go (σ := σ) (g1.st.set r (by rw [g1.st.len]; exact hi)) ⟨List.length_set, fun j hj => by rw [List.getElem?_set_ne (by simp at hj; exact fun e => hj e.symm)]⟩))
/-- target = value -/
theorem sg_asg {tg e : Expr} {t : T} {pos : Pos} {ws : List Nat} (h : EG S E e t E1) (a : AG S E1 tg t E2 ws) (hs : ∀ env, swapsWithSole [tg] e pos.line env = pure false := by intro _; rfl) (hw : ∀ env, swappedStores [tg] e env = pure none := by intro _; rfl) (h1 : ∀ env, (assignEach [tg] env).map (·.2) = [assign tg env] := by intro _; rfl) : SG S E (.Assign [tg] e pos) (.nx E2) := fun W Z H σ D s k => by
  refine RSt.mk (t := tAsg (R S W e) (RG S W tg)) (fun X hX => ps_asg (hX.pe e) (hX.pg tg) (hs _) (hw _) (h1 _)) (h W Z H σ _ s fun v H1 Z1 g1 r => ?_)
  exact a.2.2 W Z1 H1 σ v _ g1.st r fun τ st e => k _ _ _ (g1.trans (a.go st e))
/-- a local that is set to a comprehension standing on the same line -/
theorem sg_setLc {i : Nat} {y : Str} {py : Pos} {tg iter elt : Expr} {ifs : List Expr} {scope : Scope} {own : List (Str × Nat)} {pos spos : Pos} {ts us : List T} (so : StoOk S i y) (hyl : S.sc.names.lookup y = some .local) (hk : S.sc.kind = .function) (hl : (py.line == pos.line) = true)
    (hna : (scope.names.any fun (n, k) => n == y && (k == .local || k == .cell)) = false) (ok : BlkOk S.N S.sc scope own) (hi : IG S E tg iter ts E1) (no : NoOw E1 (own.map (·.2))) (r : LcTurns (S.blk scope) (own.map (·.2)) tg ifs elt E1 ts us E2) (hz : ts.length ≤ 16777216) (hlen : i < E2.length)
    (hs : ∀ env x, foldedSetIterable iter env x = pure x := by intro _ _; rfl) : SG S E (.Assign [.Name y py] (.ListComp elt [⟨tg, iter, ifs, 0⟩] scope pos) spos) (.nx (E2.set i (.sh (.lst us)))) := fun W Z H σ D s k => by
  have a : AG S E2 (.Name y py) (.lst us) (E2.set i (.sh (.lst us))) [i] := ag_name so hlen
  refine RSt.mk (fun X hX => ?_) (show tAsg (tLc (RI S W tg iter) (RG (S.blk scope) WX0 tg) (RTs (S.blk scope) WX0 ifs) (R (S.blk scope) WX0 elt) (own.map (·.2))) (gName i) D σ H from lc_read no r hz W Z H σ _ (hi.at' s) fun v H1 Z1 g1 r => ?_)
  · have e := hX.sc
    have pi := hX.pi tg iter
    have pg := fun s H C cl fp => (hX.blk scope s H C cl fp).pg tg
    have pt := fun s H C cl fp => (hX.blk scope s H C cl fp).pts ifs
    have pe := fun s H C cl fp => (hX.blk scope s H C cl fp).pe elt
    obtain ⟨A, s0, H0, env, outer, stack, ex, pn, xe, rfl⟩ := hX.ex
    have e' : env.scope = S.sc := e
    exact ps_setLc rfl so.nd so.hN (by show env.scope.names.lookup y = _; rw [e']; exact hyl) (sw_true (by rw [e']; exact hk) (by rw [e']; exact hyl) hl hna) pi (by rw [e]; exact ok) pg pt pe (hs _)
  · exact k _ _ _ (g1.trans (a.go (σ := σ) (g1.st.set r (by rw [g1.st.len]; exact hlen)) ⟨List.length_set, fun j hj => by rw [List.getElem?_set_ne (by simp at hj; exact fun e => hj e.symm)]⟩))
/-- a, b = x, y with plain local names -/
theorem sg_par {i j : Nat} {x y : Str} {a b : Expr} {t u : T} {px py pt : Pos} {kt k2 : Nat} {pt2 pos : Pos} (so1 : StoOk S i x) (so2 : StoOk S j y) (hij : i ≠ j) (hx : S.sc.names.lookup x = some .local) (hy : S.sc.names.lookup y = some .local) (hk : S.sc.kind = .function) (h : EAs S E [a, b] [t, u] E1) (hi : i < E1.length) (hj : j < E1.length)
    (hps : ∀ X : Cx, X.calm = true → X.N = S.N → X.env.scope = S.sc → ∀ ta, PA X [a, b] ta → PS X (.Assign [.Tuple [.Name x px, .Name y py] kt pt] (.Tuple [a, b] k2 pt2) pos) (tPar i j ta)) : SG S E (.Assign [.Tuple [.Name x px, .Name y py] kt pt] (.Tuple [a, b] k2 pt2) pos) (.nx ((E1.set i (.sh t)).set j (.sh u))) := fun W Z H σ D s k => by
  refine RSt.mk (t := tPar i j (RA S W [a, b])) (fun X hX => hps X hX.calm (by obtain ⟨A, s0, H0, env, outer, stack, ex, pn, xe, rfl⟩ := hX.ex; rfl) hX.sc _ (hX.pa [a, b])) (h W Z H σ _ s fun vs H1 Z1 g1 r => ?_)
  obtain ⟨v, w, rfl, r1, r2⟩ := reps_two r
  have a1 : AG S E1 (.Name x px) t (E1.set i (.sh t)) [i] := ag_name so1 hi
  have a2 : AG S (E1.set i (.sh t)) (.Name y py) u ((E1.set i (.sh t)).set j (.sh u)) [j] := ag_name so2 (by rw [List.length_set]; exact hj)
  refine ⟨v, w, rfl, ?_⟩
  have s1 := g1.st.set r1 (i := i) (by rw [g1.st.len]; exact hi)
  have s2 := s1.set r2 (i := j) (by rw [List.length_set, g1.st.len]; exact hj)
  exact k _ _ _ ((g1.trans (a1.go (σ := σ) s1 ⟨List.length_set, fun l hl => by rw [List.getElem?_set_ne (by simp at hl; exact fun e => hl e.symm)]⟩)).trans (a2.go s2 ⟨List.length_set, fun l hl => by rw [List.getElem?_set_ne (by simp at hl; exact fun e => hl e.symm)]⟩))

/-! ### for, while -/
theorem for_at {tg iter : Expr} {body : List Stmt} {ts : List T} {pos : Pos} {W : WX} {D : Ends} (hi : IGat S E tg iter ts E1 W Z H σ) (r : ForR S tg body E1 ts o) (k : o.Ok S E σ Z H D W) (hs : ∀ env x, foldedSetIterable iter env x = pure x) : RSt S W (.For tg iter body [] pos) D σ H := by
  refine RSt.mk (t := tFor (RI S W tg iter) (RG S W tg) (RSs S W body)) (fun X hX => ps_for hX.po hX.calm (hX.pi tg iter) (hX.pg tg) (hX.pss body) (hs _)) (hi _ fun J H1 Z1 G Y g1 w hG hY => ?_)
  refine for_it w (fun i σ2 H2 => ∃ (Ei : List Ent) (Z2 : Hp), ForR S tg body Ei (ts.drop i) o ∧ Go S E1 σ Z1 H1 Ei σ2 Z2 H2) ⟨E1, Z1, r, Go.refl g1.st⟩ ?_ ?_ ?_
  · rintro i σ2 H2 _ ⟨Ei, Z2, _, g⟩
    exact hG H2 (g.step.zz.trans g.st.zh)
  · rintro i x σ2 H2 H3 hlt ⟨Ei, Z2, rt, g⟩ y
    obtain ⟨t, ht, cm⟩ := hY i H2 x H3 y
    have hlt' : i < ts.length := hlt
    have ed : ts.drop i = t :: ts.drop (i + 1) := drop_at ht
    rw [ed] at rt
    obtain ⟨Z3, g3, r3⟩ := cm.go (S := S) (S' := S) (zs := g.step.zz) rfl g.st
    have kk := k.after g1
    cases rt with
    | step ha hb rt' => exact ha.2.2 W Z3 H3 σ2 x _ g3.st r3 fun τ st e => hb W Z3 H3 τ _ st fun σ4 Z4 H4 g4 => ⟨_, Z4, rt', ((g.trans g3).trans (ha.go st e)).trans g4⟩
    | cont ha hb rt' => exact ha.2.2 W Z3 H3 σ2 x _ g3.st r3 fun τ st e => hb W Z3 H3 τ _ st fun σ4 Z4 H4 g4 => ⟨_, Z4, rt', ((g.trans g3).trans (ha.go st e)).trans g4⟩
    | brk ha hb => exact ha.2.2 W Z3 H3 σ2 x _ g3.st r3 fun τ st e => hb W Z3 H3 τ _ st fun σ4 Z4 H4 g4 => kk _ _ _ (((g.trans g3).trans (ha.go st e)).trans g4)
    | ret ha hb => exact ha.2.2 W Z3 H3 σ2 x _ g3.st r3 fun τ st e => hb W Z3 H3 τ _ st fun v σ4 Z4 H4 g4 r4 => kk v _ _ _ (((g.trans g3).trans (ha.go st e)).trans g4) r4
    | exc ha hb => exact ha.2.2 W Z3 H3 σ2 x _ g3.st r3 fun τ st e => hb W Z3 H3 τ _ st fun σ4 Z4 H4 g4 => kk _ _ _ (((g.trans g3).trans (ha.go st e)).trans g4)
  · rintro σ2 H2 ⟨Ei, Z2, rt, g⟩
    rw [List.drop_length] at rt
    cases rt with
    | nil => exact k _ _ _ (g1.trans g)
theorem sg_for {tg iter : Expr} {body : List Stmt} {ts : List T} {pos : Pos} (hi : IG S E tg iter ts E1) (r : ForR S tg body E1 ts o) (hs : ∀ env x, foldedSetIterable iter env x = pure x := by intro _ _; rfl) : SG S E (.For tg iter body [] pos) o := fun W Z H σ D s k => for_at (hi.at' s) r k hs
theorem sg_while {c : Expr} {body : List Stmt} {n : Nat} {pos : Pos} (r : WhileR S c body n E o) : SG S E (.While c body [] pos) o := fun W Z H σ D s k => by
  refine RSt.mk (t := tWhile (RT S W c) (RSs S W body)) (fun X hX => ps_while hX.po (hX.pt c) (hX.pss body)) ⟨fun m σ2 H2 => ∃ (Ei : List Ent) (Z2 : Hp), WhileR S c body m Ei o ∧ Go S E σ Z H Ei σ2 Z2 H2, ⟨n, E, Z, r, Go.refl s⟩, ?_⟩
  rintro m σ2 H2 ⟨Ei, Z2, rt, g⟩
  cases rt with
  | stop hc => exact hc W Z2 H2 σ2 _ g.st fun H3 Z3 g3 => iteF (k _ _ _ (g.trans g3))
  | step hc hb rt' => exact hc W Z2 H2 σ2 _ g.st fun H3 Z3 g3 => iteT ⟨fun σ' H' => ∃ (Ei : List Ent) (Z2 : Hp), WhileR S c body _ Ei o ∧ Go S E σ Z H Ei σ' Z2 H', fun σ' H' h => ⟨_, Nat.lt_succ_self _, h⟩, hb W Z3 H3 σ2 _ g3.st fun σ4 Z4 H4 g4 => ⟨_, Z4, rt', (g.trans g3).trans g4⟩⟩
  | cont hc hb rt' => exact hc W Z2 H2 σ2 _ g.st fun H3 Z3 g3 => iteT ⟨fun σ' H' => ∃ (Ei : List Ent) (Z2 : Hp), WhileR S c body _ Ei o ∧ Go S E σ Z H Ei σ' Z2 H', fun σ' H' h => ⟨_, Nat.lt_succ_self _, h⟩, hb W Z3 H3 σ2 _ g3.st fun σ4 Z4 H4 g4 => ⟨_, Z4, rt', (g.trans g3).trans g4⟩⟩
  | brk hc hb => exact hc W Z2 H2 σ2 _ g.st fun H3 Z3 g3 => iteT ⟨fun _ _ => False, fun _ _ h => h.elim, hb W Z3 H3 σ2 _ g3.st fun σ4 Z4 H4 g4 => k _ _ _ ((g.trans g3).trans g4)⟩
  | ret hc hb => exact hc W Z2 H2 σ2 _ g.st fun H3 Z3 g3 => iteT ⟨fun _ _ => False, fun _ _ h => h.elim, hb W Z3 H3 σ2 _ g3.st fun v σ4 Z4 H4 g4 r4 => k v _ _ _ ((g.trans g3).trans g4) r4⟩
end
end Cw
end L2

set_option Elab.async false
set_option linter.all false
set_option maxRecDepth 100000
set_option maxHeartbeats 2000000
namespace L2
namespace Cw
open PySem PySem.Spec PyProof.Rows
/-! ### defs: what they are asked and what they give -/
inductive Ro where
  | ret (t : T) (as : List Ent) | exc (C : Addr) (as : List Ent)
structure GoA (K : PySem.W.Frag) (as : List Ent) (vs : List V) (Z H : Hp) (as' : List Ent) (Z' H' : Hp) : Prop where
  step : Step (Own (vs.map some) as) Z H Z' H'
  st : StOk K Z' H' (vs.map some) as'
def spOf (K : PySem.W.Frag) (as : List Ent) : Ro → Sp
  | .ret t as' => fun vs H Q _ => ∃ Z, StOk K Z H (vs.map some) as ∧ ∀ v H' Z', GoA K as vs Z H as' Z' H' → Rep K Z' t v → Q v H'
  | .exc C as' => fun vs H _ Ex => ∃ Z, StOk K Z H (vs.map some) as ∧ ∀ H' Z', GoA K as vs Z H as' Z' H' → Ex (.ref C) none H'
theorem spOf_len {K : PySem.W.Frag} {as : List Ent} {r : Ro} {vs : List V} {H : Hp} {Q : VK} {Ex : XK} (h : spOf K as r vs H Q Ex) : vs.length = as.length := by
  cases r with
  | ret t as' => obtain ⟨Z, st, _⟩ := h; have := st.len; rwa [List.length_map] at this
  | exc C as' => obtain ⟨Z, st, _⟩ := h; have := st.len; rwa [List.length_map] at this
def isOw : Ent → Bool
  | .ow _ => true
  | _ => false
/-- the places of what is borrowed -/
def pins (as : List Ent) : List Nat := (List.range as.length).filter fun j => (as[j]?.map isOw).getD false
theorem mem_pins {as : List Ent} {j : Nat} {t : T} (h : as[j]? = some (.ow t)) : j ∈ pins as := by
  refine List.mem_filter.mpr ⟨List.mem_range.mpr (List.getElem?_eq_some_iff.mp h).1, by rw [h]; rfl⟩
structure FinA (as E' as' : List Ent) : Prop where
  len : as'.length = as.length
  sh : ∀ (j : Nat) t, as'[j]? = some (.sh t) → as[j]? = some (.sh t)
  ow : ∀ (j : Nat) t, as'[j]? = some (.ow t) → E'[j]? = some (.ow t) ∧ ∃ u, as[j]? = some (.ow u)
/-- nothing borrowed -/
theorem FinA.all {as E' : List Ent} (h : ∀ e ∈ as, isOw e = false) : FinA as E' as := ⟨rfl, fun _ _ h => h, fun j t e => by
  have q := h _ (List.mem_of_getElem? e)
  cases q⟩
inductive Fin : List Ent → Oc → Ro → Prop
  | ret {as t E' as'} (h : FinA as E' as') : Fin as (.ret t E') (.ret t as')
  | nx {as E' as'} (h : FinA as E' as') : Fin as (.nx E') (.ret .non as')
  | exc {as C E' as'} (h : FinA as E' as') : Fin as (.exc C E') (.exc C as')
section
variable {w : World} {P : Program} {base : Heap} {K : PySem.W.Frag} {mg : Str → Option Value}
/-- the static facts of a def's body -/
abbrev defS (P : Program) (w : World) (K : PySem.W.Frag) (mg : Str → Option Value) (base : Heap) (k : Nat) (N : List Str) (sc : Scope) (as : List Ent) : SS := ⟨P, w, K, mg, base, k, N, sc, fun _ => true, pins as⟩
abbrev entry (N : List Str) (as : List Ent) : List Ent := as ++ List.replicate (N.length - as.length) .no
theorem entry_st {N : List Str} {as : List Ent} {vs : List V} {Z H : Hp} (st : StOk K Z H (vs.map some) as) : StOk K Z H (start N vs) (entry N as) ∧ ∀ c, Own (start N vs) (entry N as) c → Own (vs.map some) as c := by
  have hl : vs.length = as.length := by have := st.len; rwa [List.length_map] at this
  have at1 : ∀ {j : Nat} {e : Ent}, (entry N as)[j]? = some e → e ≠ .no → as[j]? = some e := fun {j e} h hn => by
    by_cases hj : j < as.length
    · rw [List.getElem?_append_left hj] at h; exact h
    · rw [List.getElem?_append_right (by omega), List.getElem?_replicate] at h
      split at h
      · cases h; exact absurd rfl hn
      · cases h
  have at2 : ∀ {j : Nat}, j < as.length → (start N vs)[j]? = (vs.map some)[j]? := fun {j} hj => by
    unfold start
    rw [List.getElem?_append_left (by rw [List.length_map]; omega)]
  have lt : ∀ {j : Nat} {e : Ent}, as[j]? = some e → j < as.length := fun h => (List.getElem?_eq_some_iff.mp h).1
  refine ⟨⟨st.zh, st.nt, by unfold start entry; rw [List.length_append, List.length_append, List.length_map, List.length_replicate, List.length_replicate, hl], fun j t h => ?_, fun j t h => ?_, fun i j a t u h1 h2 h3 h4 => ?_⟩, fun c ⟨j, t, h1, h2⟩ => ?_⟩
  · have q := at1 h (by intro z; cases z)
    rw [at2 (lt q)]; exact st.sh j t q
  · have q := at1 h (by intro z; cases z)
    rw [at2 (lt q)]; exact st.ow j t q
  · have q1 := at1 h1 (by intro z; cases z)
    have q2 := at1 h2 (by intro z; cases z)
    rw [at2 (lt q1)] at h3
    rw [at2 (lt q2)] at h4
    exact st.ds i j a t u q1 q2 h3 h4
  · have q := at1 h1 (by intro z; cases z)
    rw [at2 (lt q)] at h2
    exact ⟨j, t, q, h2⟩
theorem exit_st {S : SS} {N : List Str} {as as' E' : List Ent} {vs : List V} {σ' : St} {Z H Z' H' : Hp} (hK : S.K = K) (hp : S.pin = pins as) (st : StOk K Z H (vs.map some) as) (g : Go S (entry N as) (start N vs) Z H E' σ' Z' H') (f : FinA as E' as') : GoA K as vs Z H as' Z' H' := by
  subst hK
  have hl : vs.length = as.length := by have := st.len; rwa [List.length_map] at this
  have ow : ∀ {j : Nat} {t : T}, as'[j]? = some (.ow t) → E'[j]? = some (.ow t) ∧ σ'[j]? = (vs.map some)[j]? := fun {j t} h => by
    obtain ⟨h1, u, h2⟩ := f.ow j t h
    refine ⟨h1, (g.pin j (by rw [hp]; exact mem_pins h2)).trans ?_⟩
    have hj := (List.getElem?_eq_some_iff.mp h2).1
    unfold start
    rw [List.getElem?_append_left (by rw [List.length_map]; omega)]
  refine ⟨g.step.mono (entry_st (N := N) st).2, ⟨g.st.zh, g.st.nt, by rw [st.len, f.len], fun j t h => ?_, fun j t h => ?_, fun i j a t u h1 h2 h3 h4 => ?_⟩⟩
  · obtain ⟨v, h1, h2⟩ := st.sh j t (f.sh j t h)
    exact ⟨v, h1, h2.mono g.step.zz⟩
  · obtain ⟨h1, h2⟩ := ow h
    rw [← h2]; exact g.st.ow j t h1
  · obtain ⟨a1, a2⟩ := ow h1
    obtain ⟨b1, b2⟩ := ow h2
    rw [← a2] at h3
    rw [← b2] at h4
    exact g.st.ds i j a t u a1 b1 h3 h4
/-- a def (or method) of the text as it stands behind the top, whatever its defaults -/
structure FunA (K : PySem.W.Frag) (x qual : Str) (st : Stmt) (f : Addr) (fd : FuncData) : Prop where
  ex : ∃ (oc dV kV doc pm cdv ct : Value) (od an : Option Addr) (osl : Array (Option Value)),
    fd = PySem.W.fnOf x qual (defArgs st) (defBody st) (defScope st) dV kV doc pm an cdv ct ∧ K.lookup f = some ⟨oc, od, .func fd, osl⟩ ∧ PySem.W.codeIn K cdv qual = true
  kp : PySem.W.keepIn K (Value.ref f) = true
theorem funA_mk {x qual : Str} {st : Stmt} {f : Addr} {oc : Value} {od an : Option Addr} {osl : Array (Option Value)} {dV kV doc pm cdv ct : Value} (l : K.lookup f = some ⟨oc, od, .func (PySem.W.fnOf x qual (defArgs st) (defBody st) (defScope st) dV kV doc pm an cdv ct), osl⟩)
    (c : PySem.W.codeIn K cdv qual = true) (k : PySem.W.keepIn K (.ref f) = true) : FunA K x qual st f (PySem.W.fnOf x qual (defArgs st) (defBody st) (defScope st) dV kV doc pm an cdv ct) := ⟨⟨oc, dV, kV, doc, pm, cdv, ct, od, an, osl, rfl, l, c⟩, k⟩
/-- THE RULE for a def -/
theorem fn_ok {x qual : Str} {st : Stmt} {f : Addr} {fd : FuncData} {N ps : List Str} {k : Nat} {as : List Ent} {o : Oc} {r : Ro} (F : FunA K x qual st f fd) (Sc : FnScope N ps (defScope st)) (hl : as.length = ps.length) (hf : Fin as o r)
    (hb : SGs (defS P w K mg base k N (defScope st) as) (entry N as) (defBody st) o) : FnOk P w K mg base (L2.CX P w) (k + 1) f fd ps (spOf K as r) := by
  obtain ⟨oc, dV, kV, doc, pm, cdv, ct, od, an, osl, rfl, lk, hcd⟩ := F.ex
  refine fn_of lk hcd Sc (fun vs H Q E h => (spOf_len h).trans hl) (fun A outer s H vs Q Ex hr h => ?_)
  refine ⟨RSs (defS P w K mg base k N (defScope st) as) (fun cls d _ H => Ex cls d H) (defBody st), ⟨fun pins s' σ H' D I q => q _ ⟨⟨_, _, _, _, _, _, _, _, _, rfl⟩, hr, rfl, takes_of rfl rfl rfl rfl, passes_of rfl⟩ pins s' I⟩, ?_⟩
  cases hf with
  | ret h' =>
    obtain ⟨Z, st0, kq⟩ := h
    exact hb _ Z H (start N vs) _ (entry_st st0).1 fun v σ' Z' H' g r => kq v H' Z' (exit_st rfl rfl st0 g h') r
  | nx h' =>
    obtain ⟨Z, st0, kq⟩ := h
    exact hb _ Z H (start N vs) _ (entry_st st0).1 fun σ' Z' H' g => kq .non H' Z' (exit_st rfl rfl st0 g h') (rep_non.mpr rfl)
  | exc h' =>
    obtain ⟨Z, st0, kq⟩ := h
    exact hb _ Z H (start N vs) _ (entry_st st0).1 fun σ' Z' H' g => kq H' Z' (exit_st rfl rfl st0 g h')
end

/-! ### calls -/
inductive AD where
  | va (t : T) | bo (i : Nat) (t : T)
def AD.ent : AD → Ent
  | .va t => .sh t
  | .bo _ t => .ow t
def AdsOk (K : PySem.W.Frag) (Z : Hp) (σ : St) : List AD → List V → Prop
  | [], vs => vs = []
  | .va t :: ds, vs => ∃ v r, vs = v :: r ∧ Rep K Z t v ∧ AdsOk K Z σ ds r
  | .bo i _ :: ds, vs => ∃ a r, vs = .ref a :: r ∧ σ[i]? = some (some (.ref a)) ∧ AdsOk K Z σ ds r
def EAb (S : SS) (E : List Ent) (es : List Expr) (ds : List AD) (E' : List Ent) : Prop :=
  ∀ (W : WX) (Z H : Hp) (σ : St) (Q : List V → Hp → Prop), StOk S.K Z H σ E → (∀ vs H' Z', Go S E σ Z H E' σ Z' H' → AdsOk S.K Z' σ ds vs → Q vs H') → RA S W es σ H Q
def bos : List AD → List Nat
  | [] => []
  | .va _ :: ds => bos ds
  | .bo i _ :: ds => i :: bos ds
def updE (E : List Ent) : List AD → List Ent → List Ent
  | .bo i _ :: ds, .ow t :: as => (updE E ds as).set i (.ow t)
  | _ :: ds, _ :: as => updE E ds as
  | _, _ => E
section
variable {K : PySem.W.Frag} {Z Z' H H' : Hp} {σ σ' : St} {E E' E1 E2 E3 : List Ent} {S : SS} {o : Oc}
theorem AdsOk.mono (e : Same Z Z') : ∀ {ds : List AD} {vs : List V}, AdsOk K Z σ ds vs → AdsOk K Z' σ ds vs
  | [], _, h => h
  | .va t :: ds, _, h => by obtain ⟨v, r, h1, h2, h3⟩ := h; exact ⟨v, r, h1, h2.mono e, h3.mono e⟩
  | .bo i t :: ds, _, h => by obtain ⟨v, r, h1, h2, h3⟩ := h; exact ⟨v, r, h1, h2, h3.mono e⟩
theorem AdsOk.length : ∀ {ds : List AD} {vs : List V}, AdsOk K Z σ ds vs → vs.length = ds.length
  | [], _, h => by rw [show _ = [] from h]; rfl
  | .va t :: ds, _, h => by obtain ⟨v, r, rfl, h2, h3⟩ := h; rw [List.length_cons, List.length_cons, h3.length]
  | .bo i t :: ds, _, h => by obtain ⟨v, r, rfl, h2, h3⟩ := h; rw [List.length_cons, List.length_cons, h3.length]
theorem AdsOk.va : ∀ {ds : List AD} {vs : List V} {j : Nat} {t : T}, AdsOk K Z σ ds vs → ds[j]? = some (.va t) → ∃ v, vs[j]? = some v ∧ Rep K Z t v
  | .va t :: ds, _, 0, _, h, e => by obtain ⟨v, r, rfl, h2, h3⟩ := h; cases e; exact ⟨v, rfl, h2⟩
  | .bo i t :: ds, _, 0, _, h, e => by cases e
  | .va t :: ds, _, j + 1, _, h, e => by obtain ⟨v, r, rfl, h2, h3⟩ := h; simpa using h3.va (j := j) (by simpa using e)
  | .bo i t :: ds, _, j + 1, _, h, e => by obtain ⟨v, r, rfl, h2, h3⟩ := h; simpa using h3.va (j := j) (by simpa using e)
theorem AdsOk.bo : ∀ {ds : List AD} {vs : List V} {j i : Nat} {t : T}, AdsOk K Z σ ds vs → ds[j]? = some (.bo i t) → ∃ a, vs[j]? = some (.ref a) ∧ σ[i]? = some (some (.ref a))
  | .va t :: ds, _, 0, _, _, h, e => by cases e
  | .bo i t :: ds, _, 0, _, _, h, e => by obtain ⟨v, r, rfl, h2, h3⟩ := h; cases e; exact ⟨v, rfl, h2⟩
  | .va t :: ds, _, j + 1, _, _, h, e => by obtain ⟨v, r, rfl, h2, h3⟩ := h; simpa using h3.bo (j := j) (by simpa using e)
  | .bo i t :: ds, _, j + 1, _, _, h, e => by obtain ⟨v, r, rfl, h2, h3⟩ := h; simpa using h3.bo (j := j) (by simpa using e)
theorem mem_bos : ∀ {ds : List AD} {i : Nat}, i ∈ bos ds ↔ ∃ (j : Nat) (t : T), ds[j]? = some (.bo i t)
  | [], i => by simp [bos]
  | .va t :: ds, i => by
    unfold bos; rw [mem_bos (ds := ds)]
    constructor
    · rintro ⟨j, u, h⟩; exact ⟨j + 1, u, by simpa using h⟩
    · rintro ⟨j, u, h⟩
      cases j with
      | zero => cases h
      | succ j => exact ⟨j, u, by simpa using h⟩
  | .bo l t :: ds, i => by
    unfold bos; rw [List.mem_cons, mem_bos (ds := ds)]
    constructor
    · rintro (rfl | ⟨j, u, h⟩)
      · exact ⟨0, t, rfl⟩
      · exact ⟨j + 1, u, by simpa using h⟩
    · rintro ⟨j, u, h⟩
      cases j with
      | zero => cases h; exact .inl rfl
      | succ j => exact .inr ⟨j, u, by simpa using h⟩
theorem bos_at : ∀ {ds : List AD} {i j l : Nat} {t u : T}, (bos ds).Nodup → ds[j]? = some (.bo i t) → ds[l]? = some (.bo i u) → j = l
  | .va _ :: ds, i, 0, l, t, u, nd, h1, h2 => by cases h1
  | .va _ :: ds, i, j + 1, 0, t, u, nd, h1, h2 => by cases h2
  | .va _ :: ds, i, j + 1, l + 1, t, u, nd, h1, h2 => by rw [bos_at (ds := ds) (i := i) (j := j) (l := l) nd (by simpa using h1) (by simpa using h2)]
  | .bo _ _ :: ds, i, 0, 0, t, u, nd, h1, h2 => rfl
  | .bo _ _ :: ds, i, 0, l + 1, t, u, nd, h1, h2 => by cases h1; exact absurd (mem_bos.mpr ⟨l, u, by simpa using h2⟩) (List.nodup_cons.mp nd).1
  | .bo _ _ :: ds, i, j + 1, 0, t, u, nd, h1, h2 => by cases h2; exact absurd (mem_bos.mpr ⟨j, t, by simpa using h1⟩) (List.nodup_cons.mp nd).1
  | .bo _ _ :: ds, i, j + 1, l + 1, t, u, nd, h1, h2 => by rw [bos_at (ds := ds) (i := i) (j := j) (l := l) (List.nodup_cons.mp nd).2 (by simpa using h1) (by simpa using h2)]
theorem updE_length : ∀ {ds : List AD} {as : List Ent}, (updE E ds as).length = E.length
  | [], _ => by unfold updE; rfl
  | .va _ :: ds, [] => by simp [updE]
  | .bo _ _ :: ds, [] => by simp [updE]
  | .va _ :: ds, _ :: as => by simp only [updE]; exact updE_length
  | .bo i _ :: ds, .ow t :: as => by simp only [updE, List.length_set]; exact updE_length
  | .bo i _ :: ds, .sh t :: as => by simp only [updE]; exact updE_length
  | .bo i _ :: ds, .no :: as => by simp only [updE]; exact updE_length
theorem updE_out {i : Nat} : ∀ {ds : List AD} {as : List Ent}, i ∉ bos ds → (updE E ds as)[i]? = E[i]?
  | [], _, h => by unfold updE; rfl
  | .va _ :: ds, [], h => by simp [updE]
  | .bo _ _ :: ds, [], h => by simp [updE]
  | .va _ :: ds, _ :: as, h => by simp only [updE]; exact updE_out h
  | .bo l _ :: ds, .ow t :: as, h => by
    simp only [updE]
    have h' : i ≠ l ∧ i ∉ bos ds := by simpa [bos] using h
    rw [List.getElem?_set_ne (Ne.symm h'.1)]; exact updE_out h'.2
  | .bo l _ :: ds, .sh t :: as, h => by
    have h' : i ≠ l ∧ i ∉ bos ds := by simpa [bos] using h
    simp only [updE]; exact updE_out h'.2
  | .bo l _ :: ds, .no :: as, h => by
    have h' : i ≠ l ∧ i ∉ bos ds := by simpa [bos] using h
    simp only [updE]; exact updE_out h'.2
theorem updE_in {i : Nat} : ∀ {ds : List AD} {as : List Ent} {j : Nat} {t u : T}, (bos ds).Nodup → i < E.length → ds[j]? = some (.bo i t) → as[j]? = some (.ow u) → (updE E ds as)[i]? = some (.ow u)
  | .va _ :: ds, _, 0, t, u, nd, hi, h1, h2 => by cases h1
  | .bo _ _ :: ds, _ :: as, 0, t, u, nd, hi, h1, h2 => by
    cases h1; cases h2
    simp only [updE]
    exact List.getElem?_set_self (by rw [updE_length]; exact hi)
  | .va _ :: ds, _ :: as, j + 1, t, u, nd, hi, h1, h2 => by
    simp only [updE]
    exact updE_in (ds := ds) (j := j) (t := t) nd hi (by simpa using h1) (by simpa using h2)
  | .bo l v :: ds, e :: as, j + 1, t, u, nd, hi, h1, h2 => by
    have h1' : ds[j]? = some (.bo i t) := by simpa using h1
    have ne : l ≠ i := fun z => by subst z; exact (List.nodup_cons.mp nd).1 (mem_bos.mpr ⟨j, t, h1'⟩)
    have q := updE_in (ds := ds) (as := as) (j := j) (t := t) (u := u) (List.nodup_cons.mp nd).2 hi h1' (by simpa using h2)
    cases e with
    | ow w => simp only [updE]; rw [List.getElem?_set_ne ne]; exact q
    | sh w => simp only [updE]; exact q
    | no => simp only [updE]; exact q
theorem eab_nil : EAb S E [] [] E := fun W Z H σ Q st k => RA.mk (fun X hX => pa_nil) (show tNil σ H Q from k _ _ _ (Go.refl st) rfl)
theorem eab_va {e : Expr} {es : List Expr} {t : T} {ds : List AD} (ha : EG S E e t E1) (hb : EAb S E1 es ds E2) (hs : ∀ env, starEach (e :: es) env = (false, eval e env) :: starEach es env := by intro _; rfl) : EAb S E (e :: es) (.va t :: ds) E2 := fun W Z H σ Q st k =>
  RA.mk (t := tCons (R S W e) (RA S W es)) (fun X hX => pa_cons (hX.pe e) (hX.pa es) (hs _)) (ha W Z H σ _ st fun v H1 Z1 g1 r1 => hb W Z1 H1 σ _ g1.st fun vs H2 Z2 g2 r2 => k _ H2 Z2 (g1.trans g2) ⟨v, vs, rfl, r1.mono g2.step.zz, r2⟩)
theorem eab_bo {i : Nat} {x : Str} {p : Pos} {es : List Expr} {t : T} {ds : List AD} (v : VarOk S i x) (h : E[i]? = some (.ow t)) (hb : EAb S E es ds E2) (hs : ∀ env, starEach (.Name x p :: es) env = (false, eval (.Name x p) env) :: starEach es env := by intro _; rfl) : EAb S E (.Name x p :: es) (.bo i t :: ds) E2 := fun W Z H σ Q st k => by
  obtain ⟨a, o, h1, h2, h3, h4⟩ := st.ow i t h
  refine RA.mk (t := tCons (tVar i) (RA S W es)) (fun X hX => ?_) ⟨.ref a, h1, hb W Z H σ _ st fun vs H2 Z2 g2 r2 => k _ H2 Z2 g2 ⟨a, vs, rfl, h1, r2⟩⟩
  have hs' := hX.sc
  have pa := hX.pa es
  obtain ⟨A, s0, H0, env, outer, stack, ex, pn, xe, rfl⟩ := hX.ex
  exact pa_cons (pe_var v.hN (by rw [hs']; exact v.vis) v.h1 v.h2) pa (hs _)
/-- the callee's view -/
theorem call_st {ds : List AD} {vs ws : List V} {dts : List T} (st : StOk K Z H σ E) (r : AdsOk K Z σ ds vs) (hb : ∀ (j i : Nat) t, ds[j]? = some (.bo i t) → E[i]? = some (.ow t)) (nd : (bos ds).Nodup) (rd : Reps K Z dts ws) : StOk K Z H ((vs ++ ws).map some) (ds.map AD.ent ++ dts.map Ent.sh) := by
  have lv := r.length
  have lw := rd.length
  have cs : ∀ {j : Nat} {e : Ent}, (ds.map AD.ent ++ dts.map Ent.sh)[j]? = some e → (∃ d, ds[j]? = some d ∧ e = d.ent ∧ ((vs ++ ws).map some)[j]? = (vs[j]?).map some) ∨ (∃ t l, dts[l]? = some t ∧ e = .sh t ∧ ((vs ++ ws).map some)[j]? = (ws[l]?).map some) := fun {j e} h => by
    by_cases hj : j < ds.length
    · rw [List.getElem?_append_left (by rw [List.length_map]; exact hj), List.getElem?_map] at h
      cases q : ds[j]? with
      | none => rw [q] at h; cases h
      | some d => rw [q] at h; exact .inl ⟨d, rfl, (Option.some.inj h).symm, by rw [List.getElem?_map, List.getElem?_append_left (by omega)]⟩
    · rw [List.getElem?_append_right (by rw [List.length_map]; omega), List.getElem?_map, List.length_map] at h
      cases q : dts[j - ds.length]? with
      | none => rw [q] at h; cases h
      | some d => rw [q] at h; exact .inr ⟨d, j - ds.length, q, (Option.some.inj h).symm, by rw [List.getElem?_map, List.getElem?_append_right (by omega), lv]⟩
  have co : ∀ {j : Nat} {t : T}, (ds.map AD.ent ++ dts.map Ent.sh)[j]? = some (.ow t) → ∃ i a, ds[j]? = some (.bo i t) ∧ ((vs ++ ws).map some)[j]? = some (some (.ref a)) ∧ σ[i]? = some (some (.ref a)) := fun {j t} h => by
    rcases cs h with ⟨d, h1, h2, h3⟩ | ⟨t', l, h1, h2, h3⟩
    · cases d with
      | va u => cases h2
      | bo i u =>
        cases h2
        obtain ⟨a, e1, e2⟩ := r.bo h1
        exact ⟨i, a, h1, by rw [h3, e1]; rfl, e2⟩
    · cases h2
  refine ⟨st.zh, st.nt, by simp [lv, lw], fun j t h => ?_, fun j t h => ?_, fun i j a t u h1 h2 h3 h4 => ?_⟩
  · rcases cs h with ⟨d, h1, h2, h3⟩ | ⟨t', l, h1, h2, h3⟩
    · cases d with
      | va u =>
        cases h2
        obtain ⟨v, e1, e2⟩ := r.va h1
        exact ⟨v, by rw [h3, e1]; rfl, e2⟩
      | bo i u => cases h2
    · cases h2
      obtain ⟨v, e1, e2⟩ := rd.at h1
      exact ⟨v, by rw [h3, e1]; rfl, e2⟩
  · obtain ⟨i, a, h1, h2, h3⟩ := co h
    obtain ⟨a', o, e1, e2, e3, e4⟩ := st.ow i t (hb j i t h1)
    rw [h3] at e1; cases e1
    exact ⟨a, o, h2, e2, e3, e4⟩
  · obtain ⟨i1, a1, p1, p2, p3⟩ := co h1
    obtain ⟨i2, a2, q1, q2, q3⟩ := co h2
    rw [p2] at h3; cases h3
    rw [q2] at h4; cases h4
    have e := st.ds i1 i2 a t u (hb _ _ _ p1) (hb _ _ _ q1) p3 q3
    subst e
    exact bos_at nd p1 q1
/-- back at the caller -/
theorem call_back {ds : List AD} {vs ws : List V} {dts : List T} {as' : List Ent} (st : StOk S.K Z H σ E) (r : AdsOk S.K Z σ ds vs) (hb : ∀ (j i : Nat) t, ds[j]? = some (.bo i t) → E[i]? = some (.ow t)) (nd : (bos ds).Nodup) (g : GoA S.K (ds.map AD.ent ++ dts.map Ent.sh) (vs ++ ws) Z H as' Z' H')
    (ho : ∀ (j i : Nat) t, ds[j]? = some (.bo i t) → ∃ u, as'[j]? = some (.ow u)) : Go S E σ Z H (updE E ds as') σ Z' H' := by
  have lv := r.length
  have own : ∀ {c}, Own ((vs ++ ws).map some) (ds.map AD.ent ++ dts.map Ent.sh) c → ∃ (j i : Nat) (t : T), ds[j]? = some (.bo i t) ∧ σ[i]? = some (some (.ref c)) := fun {c} ⟨j, t, h1, h2⟩ => by
    by_cases hj : j < ds.length
    · rw [List.getElem?_append_left (by rw [List.length_map]; exact hj), List.getElem?_map] at h1
      cases q : ds[j]? with
      | none => rw [q] at h1; cases h1
      | some d =>
        rw [q] at h1
        cases d with
        | va u => cases h1
        | bo i u =>
          obtain ⟨a, e1, e2⟩ := r.bo q
          rw [List.getElem?_map, List.getElem?_append_left (by omega), e1] at h2
          cases h2
          exact ⟨j, i, u, q, e2⟩
    · rw [List.getElem?_append_right (by rw [List.length_map]; omega), List.getElem?_map] at h1
      cases q : dts[j - (ds.map AD.ent).length]? with
      | none => rw [q] at h1; cases h1
      | some d => rw [q] at h1; cases h1
  have own' : ∀ {c}, Own ((vs ++ ws).map some) (ds.map AD.ent ++ dts.map Ent.sh) c → Own σ E c := fun {c} h => by
    obtain ⟨j, i, t, h1, h2⟩ := own h
    exact ⟨i, t, hb j i t h1, h2⟩
  have lt : ∀ {i : Nat} {t : T}, E[i]? = some (.ow t) → i < E.length := fun h => (List.getElem?_eq_some_iff.mp h).1
  -- an owned slot behind the call
  have ow : ∀ {l : Nat} {t : T}, (updE E ds as')[l]? = some (.ow t) → (l ∉ bos ds ∧ E[l]? = some (.ow t)) ∨ ∃ (j : Nat) (u : T), ds[j]? = some (.bo l u) ∧ as'[j]? = some (.ow t) := fun {l t} h => by
    by_cases hl : l ∈ bos ds
    · obtain ⟨j, u, h1⟩ := mem_bos.mp hl
      obtain ⟨v, h2⟩ := ho j l u h1
      have := updE_in (E := E) nd (lt (hb j l u h1)) h1 h2
      rw [this] at h; cases h
      exact .inr ⟨j, u, h1, h2⟩
    · rw [updE_out hl] at h; exact .inl ⟨hl, h⟩
  have slot : ∀ {j l : Nat} {u : T}, ds[j]? = some (.bo l u) → ((vs ++ ws).map some)[j]? = σ[l]? := fun {j l u} h => by
    obtain ⟨a, e1, e2⟩ := r.bo h
    have hj : j < vs.length := (List.getElem?_eq_some_iff.mp e1).1
    rw [List.getElem?_map, List.getElem?_append_left hj, e1, e2]; rfl
  have addr : ∀ {l : Nat} {t : T} {a : Addr}, (updE E ds as')[l]? = some (.ow t) → σ[l]? = some (some (.ref a)) → Own σ E a := fun {l t a} h e => by
    rcases ow h with ⟨_, h1⟩ | ⟨j, u, h1, _⟩
    · exact ⟨l, t, h1, e⟩
    · exact ⟨l, u, hb j l u h1, e⟩
  refine ⟨g.step.mono fun c h => own' h, ⟨g.st.zh, g.st.nt, by rw [updE_length]; exact st.len, fun l t h => ?_, fun l t h => ?_, fun i j a t u h1 h2 h3 h4 => ?_⟩, fun c ⟨l, t, h1, h2⟩ => .inl (addr h1 h2), fun _ _ => rfl⟩
  · have hl : l ∉ bos ds := fun hl => by
      obtain ⟨j, u, h1⟩ := mem_bos.mp hl
      obtain ⟨v, h2⟩ := ho j l u h1
      rw [updE_in (E := E) nd (lt (hb j l u h1)) h1 h2] at h; cases h
    rw [updE_out hl] at h
    obtain ⟨v, h1, h2⟩ := st.sh l t h
    exact ⟨v, h1, h2.mono g.step.zz⟩
  · rcases ow h with ⟨hl, h1⟩ | ⟨j, u, h1, h2⟩
    · obtain ⟨a, o, e1, e2, e3, e4⟩ := st.ow l t h1
      have no : ¬ Own ((vs ++ ws).map some) (ds.map AD.ent ++ dts.map Ent.sh) a := fun z => by
        obtain ⟨j, i, u, q1, q2⟩ := own z
        have := st.ds l i a t u h1 (hb j i u q1) e1 q2
        subst this
        exact hl (mem_bos.mpr ⟨j, u, q1⟩)
      refine ⟨a, o, e1, g.step.keep a o e2 no, ?_, e4.mono g.step.zz⟩
      cases q : Z' a with
      | none => rfl
      | some v =>
        rcases g.step.new a v q with z | z | z
        · rw [e3] at z; cases z
        · rw [e2] at z; cases z
        · exact absurd z no
    · have := g.st.ow j t h2
      rw [slot h1] at this
      exact this
  · obtain ⟨i1, t1, p1, p2⟩ := addr h1 h3
    have key : ∀ {l : Nat} {t : T}, (updE E ds as')[l]? = some (.ow t) → ∃ u, E[l]? = some (.ow u) := fun {l t} h => by
      rcases ow h with ⟨_, h1⟩ | ⟨j, u, h1, _⟩
      · exact ⟨t, h1⟩
      · exact ⟨u, hb j l u h1⟩
    obtain ⟨u1, k1⟩ := key h1
    obtain ⟨u2, k2⟩ := key h2
    exact st.ds i j a u1 u2 k1 k2 h3 h4
end
end Cw
end L2

set_option Elab.async false
set_option linter.all false
set_option maxRecDepth 100000
set_option maxHeartbeats 2000000
namespace L2
namespace Cw
open PySem PySem.Spec PyProof.Rows
/-- a def as its callers know it; dV: the defaults that fill up -/
structure DefOk (S : SS) (x : Str) (f : Addr) (fd : FuncData) (ps : List Str) (dV : List Value) : Prop where
  mg : S.mg x = some (.ref f)
  kp : PySem.W.keepIn S.K (.ref f) = true
  bd : Binds S.K fd ps dV
/-- e raises an error of the class at C -/
def EX (S : SS) (E : List Ent) (e : Expr) (C : Addr) (E' : List Ent) : Prop :=
  ∀ (W : WX) (Z H : Hp) (σ : St) (Q : VK), StOk S.K Z H σ E → (∀ H' Z', Go S E σ Z H E' σ Z' H' → W (.ref C) none σ H') → R S W e σ H Q
section
variable {K : PySem.W.Frag} {Z Z' H H' : Hp} {σ σ' : St} {E E' E1 E2 E3 : List Ent} {S : SS} {o : Oc}
theorem passLL {X : Cx} : Passes (L2.CX X.prog X.w) X (fun _ _ _ => False) := fun _ _ _ _ _ _ _ h => match h with
  | ⟨_, _, _, _, _, _, _, _, _, _, _, _, z⟩ => z.elim
section
variable {k : Nat} {f : Addr} {fd : FuncData} {ps : List Str} {dV : List Value} {dvs : List V} {dts : List T} {x : Str} {p pos : Pos} {e : Expr} {es : List Expr} {t : T} {ds : List AD} {as' : List Ent} {C : Addr}
theorem eg_call (D : DefOk S x f fd ps dV) (g : GlOk S x) (F : FnOk S.P S.w S.K S.mg S.base (L2.CX S.P S.w) k f fd ps (spOf S.K (ds.map AD.ent ++ dts.map Ent.sh) (.ret t as'))) (hk : k ≤ S.k) (hd : Vals dvs dV) (hdt : ∀ Z, Reps S.K Z dts dvs) (ha : EAb S E (e :: es) ds E1)
    (hb : ∀ (j i : Nat) t, ds[j]? = some (.bo i t) → E1[i]? = some (.ow t)) (nd : (bos ds).Nodup) (ho : ∀ (j i : Nat) t, ds[j]? = some (.bo i t) → ∃ u, as'[j]? = some (.ow u))
    (he : ∀ env, starEach (e :: es) env = (false, eval e env) :: starEach es env := by intro _; rfl) (hpl : ∀ env, (backTo pos (starEach es env)).any (·.1) = false := by intro _; rfl) : EG S E (.Call (.Name x p) (e :: es) [] pos) t (updE E1 ds as') := fun W Z H σ Q st kq => by
  refine R.mk (t := tCall (spOf S.K (ds.map AD.ent ++ dts.map Ent.sh) (.ret t as')) dvs (fun _ _ _ => False) (RA S W (e :: es))) (fun X hX => ?_) (ha W Z H σ _ st fun vs H1 Z1 g1 r1 => ⟨Z1, call_st g1.st r1 hb nd (hdt Z1), fun v H2 Z2 g2 r2 => kq v H2 Z2 (g1.trans (call_back g1.st r1 hb nd g2 ho)) r2⟩)
  have gg := g.at hX
  have pa := hX.pa (e :: es)
  have hr := hX.room.mono hk
  obtain ⟨A, s0, H0, env, outer, stack, ex, pn, xe, rfl⟩ := hX.ex
  exact pe_call (CX := L2.CX S.P S.w) F hr gg D.mg D.kp D.bd hd passLL pa g.h1 (he _) (hpl _)
theorem eab_all : ∀ {ts : List T} {vs : List V}, Reps K Z ts vs → AdsOk K Z σ (ts.map AD.va) vs
  | [], _, h => h.unnil
  | t :: ts, _, h => by obtain ⟨v, r, rfl, h1, h2⟩ := h.uncons; exact ⟨v, r, rfl, h1, eab_all h2⟩
theorem eab_of {ts : List T} (h : EAs S E es ts E1) : EAb S E es (ts.map AD.va) E1 := fun W Z H σ Q st k => h W Z H σ Q st fun vs H1 Z1 g r => k vs H1 Z1 g (eab_all r)
theorem va_get {ts : List T} {j i : Nat} {t : T} : (ts.map AD.va)[j]? ≠ some (.bo i t) := fun h => by
  rw [List.getElem?_map] at h
  cases q : ts[j]? with
  | none => rw [q] at h; cases h
  | some u => rw [q] at h; cases h
theorem bos_va : ∀ {ts : List T}, bos (ts.map AD.va) = []
  | [] => rfl
  | _ :: ts => bos_va (ts := ts)
theorem updE_va : ∀ {ts : List T} {as : List Ent}, updE E (ts.map AD.va) as = E
  | [], _ => by unfold updE; rfl
  | _ :: ts, [] => by simp [updE]
  | _ :: ts, _ :: as => by simp only [List.map_cons, updE]; exact updE_va
theorem ent_va : ∀ {ts : List T}, (ts.map AD.va).map AD.ent = ts.map Ent.sh
  | [] => rfl
  | _ :: ts => by simp only [List.map_cons]; rw [ent_va]; rfl
/-- nothing borrowed -/
theorem eg_callP {ts : List T} (D : DefOk S x f fd ps dV) (g : GlOk S x) (F : FnOk S.P S.w S.K S.mg S.base (L2.CX S.P S.w) k f fd ps (spOf S.K ((ts ++ dts).map Ent.sh) (.ret t as'))) (hk : k ≤ S.k) (hd : Vals dvs dV) (hdt : ∀ Z, Reps S.K Z dts dvs) (ha : EAs S E (e :: es) ts E1)
    (he : ∀ env, starEach (e :: es) env = (false, eval e env) :: starEach es env := by intro _; rfl) (hpl : ∀ env, (backTo pos (starEach es env)).any (·.1) = false := by intro _; rfl) : EG S E (.Call (.Name x p) (e :: es) [] pos) t E1 := by
  have := eg_call (ds := ts.map AD.va) (dts := dts) (as' := as') (pos := pos) (p := p) D g (by rw [ent_va, ← List.map_append]; exact F) hk hd hdt (eab_of ha) (fun _ _ _ z => absurd z va_get) (by rw [bos_va]; exact List.nodup_nil) (fun _ _ _ z => absurd z va_get) he hpl
  rw [updE_va] at this
  exact this
theorem eg_callP0 {ts : List T} (D : DefOk S x f fd ps []) (g : GlOk S x) (F : FnOk S.P S.w S.K S.mg S.base (L2.CX S.P S.w) k f fd ps (spOf S.K (ts.map Ent.sh) (.ret t as'))) (hk : k ≤ S.k) (ha : EAs S E (e :: es) ts E1)
    (he : ∀ env, starEach (e :: es) env = (false, eval e env) :: starEach es env := by intro _; rfl) (hpl : ∀ env, (backTo pos (starEach es env)).any (·.1) = false := by intro _; rfl) : EG S E (.Call (.Name x p) (e :: es) [] pos) t E1 :=
  eg_callP (dts := []) (dvs := []) D g (by rw [List.append_nil]; exact F) hk .nil (fun _ => .nil) ha he hpl
/-- f() -/
theorem eg_call0 (D : DefOk S x f fd ps []) (g : GlOk S x) (F : FnOk S.P S.w S.K S.mg S.base (L2.CX S.P S.w) k f fd ps (spOf S.K [] (.ret t as'))) (hk : k ≤ S.k) : EG S E (.Call (.Name x p) [] [] pos) t E := fun W Z H σ Q st kq => by
  have r1 : AdsOk S.K Z σ ([] : List AD) [] := rfl
  refine R.mk (t := tCall (spOf S.K [] (.ret t as')) [] (fun _ _ _ => False) tNil) (fun X hX => ?_) (show spOf S.K [] (.ret t as') ([] ++ []) H Q (fun _ _ _ => False) from ⟨Z, call_st (ds := []) (dts := []) st r1 (fun _ _ _ z => by simp at z) List.nodup_nil .nil, fun v H2 Z2 g2 r2 => kq v H2 Z2 ?_ r2⟩)
  · have gg := g.at hX
    have hr := hX.room.mono hk
    obtain ⟨A, s0, H0, env, outer, stack, ex, pn, xe, rfl⟩ := hX.ex
    exact pe_call0 (CX := L2.CX S.P S.w) F hr gg D.mg D.kp D.bd .nil passLL g.h1
  · have := call_back (ds := []) (dts := []) (ws := []) st r1 (fun _ _ _ z => by simp at z) List.nodup_nil g2 (fun _ _ _ z => by simp at z)
    simpa [updE] using this

/-! ### what is raised -/
theorem run_fnSD {X : Cx} {CX : CXT} {sp : Sp} {Ex : XK} {pins : List (Addr × Obj)} {s : Shared} {Q : VK} {us : List Value} {vs : List V} (F : FnOk X.prog X.w X.K X.mg X.base CX k f fd ps sp) (hr : Room k X.A) (hb : Binds X.K fd ps dV) (hd : Vals dvs dV) (hx : PassesAt CX X σ Ex)
    (I : Inv X pins σ H s) (r : Vals vs us) (h : sp (vs ++ dvs) H Q Ex) : wpAny (model X.prog X.w) X.A (call (.ref f) us) (EP X pins σ Q) X.xe s := by
  have r2 : Vals (vs ++ dvs) (us ++ dV) := r.append hd
  have hl : (us ++ dV).length = ps.length := by rw [← r2.length]; exact F.len _ _ _ _ h
  refine wpAny_call (codeAny_mono (F.run X.A X.stack s H ⟨us, []⟩ (us ++ dV) (vs ++ dvs) Q Ex hr I.env0 (hb s us I.kIn hl) r2 h) fun r s' hq => ?_)
  cases r with
  | error bad => exact hx pins H s bad s' I hq
  | ok fl =>
    cases fl with
    | ret u => exact I.after hq
    | next => exact False.elim hq
    | brk => exact False.elim hq
    | cont => exact False.elim hq
theorem ex_call (D : DefOk S x f fd ps dV) (g : GlOk S x) (F : FnOk S.P S.w S.K S.mg S.base (L2.CX S.P S.w) k f fd ps (spOf S.K (ds.map AD.ent ++ dts.map Ent.sh) (.exc C as'))) (hk : k ≤ S.k) (hd : Vals dvs dV) (hdt : ∀ Z, Reps S.K Z dts dvs) (ha : EAb S E (e :: es) ds E1)
    (hb : ∀ (j i : Nat) t, ds[j]? = some (.bo i t) → E1[i]? = some (.ow t)) (nd : (bos ds).Nodup) (ho : ∀ (j i : Nat) t, ds[j]? = some (.bo i t) → ∃ u, as'[j]? = some (.ow u))
    (he : ∀ env, starEach (e :: es) env = (false, eval e env) :: starEach es env := by intro _; rfl) (hpl : ∀ env, (backTo pos (starEach es env)).any (·.1) = false := by intro _; rfl) : EX S E (.Call (.Name x p) (e :: es) [] pos) C (updE E1 ds as') := fun W Z H σ Q st kq => by
  intro X hX pins s I
  have gg := g.at hX
  have pa := hX.pa (e :: es)
  have hr := hX.room.mono hk
  have tk := hX.tk
  obtain ⟨A, s0, H0, env, outer, stack, ex, pn, xe, rfl⟩ := hX.ex
  refine wpAny_Call_Name_kw (ld_glob I gg D.mg ?_ g.h1)
  refine PySem.W.callWith_K (h₀ := S.base) I.ok.mod.kin D.kp (thn (pa.run pos pins s σ H (fun vs H' => spOf S.K (ds.map AD.ent ++ dts.map Ent.sh) (.exc C as') (vs ++ dvs) H' Q (fun cls d H'' => W cls d σ H'')) I (ha W Z H σ _ st fun vs H1 Z1 g1 r1 => ⟨Z1, call_st g1.st r1 hb nd (hdt Z1), fun H2 Z2 g2 => kq H2 Z2 (g1.trans (call_back g1.st r1 hb nd g2 ho))⟩)) fun us s1 ⟨vs, H1, I1, r, q⟩ => ⟨I1.kIn, ?_⟩) (he _) (hpl _)
  exact run_fnSD F hr D.bd hd (passAt tk σ) I1 r q
theorem ex_callP {ts : List T} (D : DefOk S x f fd ps dV) (g : GlOk S x) (F : FnOk S.P S.w S.K S.mg S.base (L2.CX S.P S.w) k f fd ps (spOf S.K ((ts ++ dts).map Ent.sh) (.exc C as'))) (hk : k ≤ S.k) (hd : Vals dvs dV) (hdt : ∀ Z, Reps S.K Z dts dvs) (ha : EAs S E (e :: es) ts E1)
    (he : ∀ env, starEach (e :: es) env = (false, eval e env) :: starEach es env := by intro _; rfl) (hpl : ∀ env, (backTo pos (starEach es env)).any (·.1) = false := by intro _; rfl) : EX S E (.Call (.Name x p) (e :: es) [] pos) C E1 := by
  have := ex_call (ds := ts.map AD.va) (dts := dts) (as' := as') (pos := pos) (p := p) D g (by rw [ent_va, ← List.map_append]; exact F) hk hd hdt (eab_of ha) (fun _ _ _ z => absurd z va_get) (by rw [bos_va]; exact List.nodup_nil) (fun _ _ _ z => absurd z va_get) he hpl
  rw [updE_va] at this
  exact this
theorem ex_callP0 {ts : List T} (D : DefOk S x f fd ps []) (g : GlOk S x) (F : FnOk S.P S.w S.K S.mg S.base (L2.CX S.P S.w) k f fd ps (spOf S.K (ts.map Ent.sh) (.exc C as'))) (hk : k ≤ S.k) (ha : EAs S E (e :: es) ts E1)
    (he : ∀ env, starEach (e :: es) env = (false, eval e env) :: starEach es env := by intro _; rfl) (hpl : ∀ env, (backTo pos (starEach es env)).any (·.1) = false := by intro _; rfl) : EX S E (.Call (.Name x p) (e :: es) [] pos) C E1 :=
  ex_callP (dts := []) (dvs := []) D g (by rw [List.append_nil]; exact F) hk .nil (fun _ => .nil) ha he hpl
end
theorem sg_retX {e : Expr} {C : Addr} {pos : Pos} (h : EX S E e C E1) : SG S E (.Return (some e) pos) (.exc C E1) := fun W Z H σ D s k =>
  RSt.mk (t := tRet (R S W e)) (fun X hX => ps_ret (hX.pe e)) (h W Z H σ _ s fun H1 Z1 g1 => k _ _ _ g1)
theorem sg_exprX {e : Expr} {C : Addr} {pos : Pos} (h : EX S E e C E1) (hs : ∀ env, swapsWith e none pos.line env = pure false := by intro _; rfl) : SG S E (.Expr e pos) (.exc C E1) := fun W Z H σ D s k =>
  RSt.mk (t := tDrop (R S W e)) (fun X hX => ps_expr (hX.pe e) (hs _)) (h W Z H σ _ s fun H1 Z1 g1 => k _ _ _ g1)
theorem sg_asgX {tg e : Expr} {C : Addr} {pos : Pos} (h : EX S E e C E1) (hg : ∀ W X, S.Has W X → ∃ g, PG X tg g) (hs : ∀ env, swapsWithSole [tg] e pos.line env = pure false := by intro _; rfl) (hw : ∀ env, swappedStores [tg] e env = pure none := by intro _; rfl) (h1 : ∀ env, (assignEach [tg] env).map (·.2) = [assign tg env] := by intro _; rfl) : SG S E (.Assign [tg] e pos) (.exc C E1) := fun W Z H σ D s k =>
  RSt.mk (t := tAsg (R S W e) (RG S W tg)) (fun X hX => ps_asg (hX.pe e) (hX.pg tg) (hs _) (hw _) (h1 _)) (h W Z H σ _ s fun H1 Z1 g1 => k _ _ _ g1)
/-- what an error class is -/
structure ExcOk (S : SS) (x : Str) (C : Addr) : Prop where
  mg : S.mg x = some (.ref C)
  xc : PySem.W.excIn S.K C [.type "ValueError", .type "Exception", .type "BaseException", .type "object"] "ValueError.__new__" = true
  kp : PySem.W.keepIn S.K (.ref C) = true
  sb : PySem.W.subIn S.K (.ref C) (.type "BaseException") = some true
  ty : PySem.W.typeIn S.K (.ref C) = some (.type "type")
theorem sg_raise {x m : Str} {j : Nat} {p p2 pos pos' : Pos} {C : Addr} (xo : ExcOk S x C) (g : GlOk S x) : SG S E (.Raise (some (.Call (.Name x p) [.Constant (.str m) j p2] [] pos)) none pos') (.exc C E) := fun W Z H σ D s k => by
  refine RSt.mk (t := fun _ σ H => W (.ref C) none σ H) (fun X hX => ?_) (k _ _ _ (Go.refl s))
  have gg := g.at hX
  have tk := hX.tk
  obtain ⟨A, s0, H0, env, outer, stack, ex, pn, xe, rfl⟩ := hX.ex
  exact ps_raise rfl tk (pmk_own PySem.F.excBase_ValueError xo.xc xo.mg xo.kp (raises_own xo.sb xo.ty) gg g.h1)
end
end Cw
end L2

set_option Elab.async false
set_option linter.all false
set_option maxRecDepth 100000
set_option maxHeartbeats 2000000
namespace L2
namespace Cw
open PySem PySem.Spec PyProof.Rows
section
variable {w : World} {P : Program} {base : Heap} {K : PySem.W.Frag} {mg : Str → Option Value}
/-- called with ts (that stand still) it gives t -/
def Gives (P : Program) (w : World) (K : PySem.W.Frag) (mg : Str → Option Value) (base : Heap) (k : Nat) (f : Addr) (fd : FuncData) (ps : List Str) (ts : List T) (t : T) : Prop := FnOk P w K mg base (L2.CX P w) k f fd ps (spOf K (ts.map Ent.sh) (.ret t (ts.map Ent.sh)))
/-- called with ts it raises an error of the class at C -/
def Errs (P : Program) (w : World) (K : PySem.W.Frag) (mg : Str → Option Value) (base : Heap) (k : Nat) (f : Addr) (fd : FuncData) (ps : List Str) (ts : List T) (C : Addr) : Prop := FnOk P w K mg base (L2.CX P w) k f fd ps (spOf K (ts.map Ent.sh) (.exc C (ts.map Ent.sh)))
abbrev defP (P : Program) (w : World) (K : PySem.W.Frag) (mg : Str → Option Value) (base : Heap) (k : Nat) (N : List Str) (sc : Scope) : SS := ⟨P, w, K, mg, base, k, N, sc, fun _ => true, []⟩
theorem pins_sh {ts : List T} : pins (ts.map Ent.sh) = [] := by
  refine List.filter_eq_nil_iff.mpr fun j hj => ?_
  rw [List.getElem?_map]
  cases ts[j]? <;> simp [isOw]
theorem sh_all {ts : List T} : ∀ e ∈ ts.map Ent.sh, isOw e = false := fun e he => by
  obtain ⟨t, _, rfl⟩ := List.mem_map.mp he
  rfl
theorem gives_of {x qual : Str} {st : Stmt} {f : Addr} {fd : FuncData} {N ps : List Str} {k : Nat} {ts : List T} {t : T} (F : FunA K x qual st f fd) (Sc : FnScope N ps (defScope st)) (hl : ts.length = ps.length)
    (hb : ∃ E', SGs (defP P w K mg base k N (defScope st)) (entry N (ts.map Ent.sh)) (defBody st) (.ret t E')) : Gives P w K mg base (k + 1) f fd ps ts t := by
  obtain ⟨E', hb⟩ := hb
  refine fn_ok (N := N) (o := .ret t E') F Sc (by rw [List.length_map]; exact hl) (.ret (.all sh_all)) ?_
  unfold defS
  rw [pins_sh]
  exact hb
theorem gives_nx {x qual : Str} {st : Stmt} {f : Addr} {fd : FuncData} {N ps : List Str} {k : Nat} {ts : List T} (F : FunA K x qual st f fd) (Sc : FnScope N ps (defScope st)) (hl : ts.length = ps.length)
    (hb : ∃ E', SGs (defP P w K mg base k N (defScope st)) (entry N (ts.map Ent.sh)) (defBody st) (.nx E')) : Gives P w K mg base (k + 1) f fd ps ts .non := by
  obtain ⟨E', hb⟩ := hb
  refine fn_ok (N := N) (o := .nx E') F Sc (by rw [List.length_map]; exact hl) (.nx (.all sh_all)) ?_
  unfold defS
  rw [pins_sh]
  exact hb
theorem errs_of {x qual : Str} {st : Stmt} {f : Addr} {fd : FuncData} {N ps : List Str} {k : Nat} {ts : List T} {C : Addr} (F : FunA K x qual st f fd) (Sc : FnScope N ps (defScope st)) (hl : ts.length = ps.length)
    (hb : ∃ E', SGs (defP P w K mg base k N (defScope st)) (entry N (ts.map Ent.sh)) (defBody st) (.exc C E')) : Errs P w K mg base (k + 1) f fd ps ts C := by
  obtain ⟨E', hb⟩ := hb
  refine fn_ok (N := N) (o := .exc C E') F Sc (by rw [List.length_map]; exact hl) (.exc (.all sh_all)) ?_
  unfold defS
  rw [pins_sh]
  exact hb
theorem Gives.mono {j k : Nat} {f : Addr} {fd : FuncData} {ps : List Str} {ts : List T} {t : T} (h : Gives P w K mg base j f fd ps ts t) (hk : j ≤ k) : Gives P w K mg base k f fd ps ts t := FnOk.mono h hk
end
section
variable {K : PySem.W.Frag} {E E1 E2 : List Ent} {S : SS} {k : Nat} {f : Addr} {fd : FuncData} {ps : List Str} {dV : List Value} {dvs : List V} {ts dts : List T} {x : Str} {p pos : Pos} {e : Expr} {es : List Expr} {t : T} {C : Addr}
theorem eg_fn (D : DefOk S x f fd ps []) (g : GlOk S x) (F : Gives S.P S.w S.K S.mg S.base k f fd ps ts t) (hk : k ≤ S.k) (ha : EAs S E (e :: es) ts E1)
    (he : ∀ env, starEach (e :: es) env = (false, eval e env) :: starEach es env := by intro _; rfl) (hpl : ∀ env, (backTo pos (starEach es env)).any (·.1) = false := by intro _; rfl) : EG S E (.Call (.Name x p) (e :: es) [] pos) t E1 := eg_callP0 D g F hk ha he hpl
theorem eg_fnD (D : DefOk S x f fd ps dV) (g : GlOk S x) (F : Gives S.P S.w S.K S.mg S.base k f fd ps (ts ++ dts) t) (hk : k ≤ S.k) (hd : Vals dvs dV) (hdt : ∀ Z, Reps S.K Z dts dvs) (ha : EAs S E (e :: es) ts E1)
    (he : ∀ env, starEach (e :: es) env = (false, eval e env) :: starEach es env := by intro _; rfl) (hpl : ∀ env, (backTo pos (starEach es env)).any (·.1) = false := by intro _; rfl) : EG S E (.Call (.Name x p) (e :: es) [] pos) t E1 := eg_callP D g F hk hd hdt ha he hpl
theorem ex_fn (D : DefOk S x f fd ps []) (g : GlOk S x) (F : Errs S.P S.w S.K S.mg S.base k f fd ps ts C) (hk : k ≤ S.k) (ha : EAs S E (e :: es) ts E1)
    (he : ∀ env, starEach (e :: es) env = (false, eval e env) :: starEach es env := by intro _; rfl) (hpl : ∀ env, (backTo pos (starEach es env)).any (·.1) = false := by intro _; rfl) : EX S E (.Call (.Name x p) (e :: es) [] pos) C E1 := ex_callP0 D g F hk ha he hpl
end
end Cw
end L2

set_option Elab.async false
set_option linter.all false
set_option maxRecDepth 100000
set_option maxHeartbeats 2000000
namespace L2
namespace Cw
open PySem PySem.Spec PyProof.Rows
mutual
def toD : T → PyData
  | .non => .none
  | .bl b => .bool b
  | .int i => .int i
  | .str s => .str s
  | .tup ts => .tuple (toDs ts)
  | .wtup ts => .tuple (toDs ts)
  | .lst ts => .list (toDs ts)
  | .slst ts => .list (toDs ts)
  | .fn _ => .none
  | .dicK _ _ => .none
  | .dct _ _ _ => .none
  | .ext _ _ _ => .none
  | .ins _ _ _ => .none
def toDs : List T → List PyData
  | [] => []
  | t :: ts => toD t :: toDs ts
end
/-- plain data, nested at most n deep -/
def DOk : Nat → T → Prop
  | _, .non => True
  | _, .bl _ => True
  | _, .int _ => True
  | _, .str s => PyData.strOk s = true
  | n + 1, .tup ts => ∀ t ∈ ts, DOk n t
  | n + 1, .wtup ts => ∀ t ∈ ts, DOk n t
  | n + 1, .lst ts => ∀ t ∈ ts, DOk n t
  | n + 1, .slst ts => ∀ t ∈ ts, DOk n t
  | _, _ => False
def teq (t u : T) : Bool := PyData.eqv (toD t) (toD u)
section
variable {K : PySem.W.Frag} {Z Z' H H' : Hp} {σ σ' : St} {E E' E1 E2 E3 : List Ent} {S : SS} {o : Oc}
theorem dOk_spec : ∀ (n : Nat) (t : T), DOk n t → (toD t).canLay0 = true ∧ (toD t).depth ≤ n ∧ ∀ {Z H : Hp} {v : V}, Same Z H → Rep K Z t v → Dp K H v (toD t) := by
  intro n
  induction n with
  | zero =>
    intro t h
    cases t with
    | non => exact ⟨rfl, by simp [toD, PyData.depth], fun zh r => by rw [rep_non.mp r]; exact .non⟩
    | bl b => exact ⟨rfl, by simp [toD, PyData.depth], fun zh r => by rw [rep_bl.mp r]; exact .bl b⟩
    | int b => exact ⟨rfl, by simp [toD, PyData.depth], fun zh r => by rw [rep_int.mp r]; exact .int b⟩
    | str b => exact ⟨by simpa [toD, PyData.canLay0] using (show PyData.strOk b = true from h), by simp [toD, PyData.depth], fun zh r => by rw [rep_str.mp r]; exact .str b⟩
    | _ => exact (show False from h).elim
  | succ n ih =>
    have all : ∀ ts : List T, (∀ t ∈ ts, DOk n t) → PyData.canLayAll0 (toDs ts) = true ∧ PyData.depthAll (toDs ts) ≤ n ∧ ∀ {Z H : Hp} {vs : List V}, Same Z H → Reps K Z ts vs → DpAll K H vs (toDs ts) := by
      intro ts
      induction ts with
      | nil => exact fun _ => ⟨rfl, by simp [toDs, PyData.depthAll], fun zh r => by rw [r.unnil]; exact .nil⟩
      | cons t ts ih2 =>
        intro h
        obtain ⟨a1, a2, a3⟩ := ih t (h t List.mem_cons_self)
        obtain ⟨b1, b2, b3⟩ := ih2 fun u hu => h u (List.mem_cons_of_mem _ hu)
        refine ⟨by simp [toDs, PyData.canLayAll0, a1, b1], by simp only [toDs, PyData.depthAll]; omega, fun zh r => ?_⟩
        obtain ⟨v, vr, rfl, r1, r2⟩ := r.uncons
        exact .cons (a3 zh r1) (b3 zh r2)
    intro t h
    cases t with
    | non => exact ⟨rfl, by simp [toD, PyData.depth], fun zh r => by rw [rep_non.mp r]; exact .non⟩
    | bl b => exact ⟨rfl, by simp [toD, PyData.depth], fun zh r => by rw [rep_bl.mp r]; exact .bl b⟩
    | int b => exact ⟨rfl, by simp [toD, PyData.depth], fun zh r => by rw [rep_int.mp r]; exact .int b⟩
    | str b => exact ⟨by simpa [toD, PyData.canLay0] using (show PyData.strOk b = true from h), by simp [toD, PyData.depth], fun zh r => by rw [rep_str.mp r]; exact .str b⟩
    | tup ts =>
      obtain ⟨a1, a2, a3⟩ := all ts h
      refine ⟨by simpa [toD, PyData.canLay0] using a1, by simp only [toD, PyData.depth]; omega, fun zh r => ?_⟩
      obtain ⟨a, vs, rfl, h1, h2⟩ := rep_tup.mp r
      exact .tup (.inl (.inl (zh _ _ h1))) (a3 zh h2)
    | wtup ts =>
      obtain ⟨a1, a2, a3⟩ := all ts h
      refine ⟨by simpa [toD, PyData.canLay0] using a1, by simp only [toD, PyData.depth]; omega, fun zh r => ?_⟩
      obtain ⟨a, vs, rfl, h1, h2⟩ := rep_wtup.mp r
      exact .tup (Same_tup zh h1) (a3 zh h2)
    | lst ts =>
      obtain ⟨a1, a2, a3⟩ := all ts h
      refine ⟨by simpa [toD, PyData.canLay0] using a1, by simp only [toD, PyData.depth]; omega, fun zh r => ?_⟩
      obtain ⟨a, vs, rfl, h1, h2⟩ := rep_lst.mp r
      exact .lst (.inl (.inl (zh _ _ h1))) (a3 zh h2)
    | slst ts =>
      obtain ⟨a1, a2, a3⟩ := all ts h
      refine ⟨by simpa [toD, PyData.canLay0] using a1, by simp only [toD, PyData.depth]; omega, fun zh r => ?_⟩
      obtain ⟨a, vs, rfl, h1, h2⟩ := rep_slst.mp r
      exact .lst (zh.seq h1) (a3 zh h2)
    | _ => exact (show False from h).elim
theorem dOk_shaped {n : Nat} {t : T} (h : DOk n t) (hn : n ≤ 64) : SeqAt.shaped (toD t) = true := by
  obtain ⟨a, b, _⟩ := dOk_spec (K := ([] : List (Addr × Obj))) n t h
  unfold SeqAt.shaped
  rw [a, decide_eq_true (Nat.le_trans b hn)]
  rfl
def rEqN (K : PySem.W.Frag) (neg : Bool) : R2 := fun x y H Q => ∃ d e, Dp K H x d ∧ Dp K H y e ∧ SeqAt.shaped d = true ∧ SeqAt.shaped e = true ∧ Q (.bl (if neg then !PyData.eqv d e else PyData.eqv d e)) H
theorem opg_eqD {n : Nat} {t u : T} (hn : n ≤ 64) (h1 : DOk n t) (h2 : DOk n u) : OpG S (rEqD S.K) t u (.bl (teq t u)) := fun E Z H σ v w Q st r1 r2 k =>
  ⟨toD t, toD u, (dOk_spec n t h1).2.2 st.zh r1, (dOk_spec n u h2).2.2 st.zh r2, dOk_shaped h1 hn, dOk_shaped h2 hn, k _ _ _ (Go.refl st) (rep_bl.mpr rfl)⟩
theorem opg_neD {n : Nat} {t u : T} (hn : n ≤ 64) (h1 : DOk n t) (h2 : DOk n u) : OpG S (rNeD S.K) t u (.bl (!teq t u)) := fun E Z H σ v w Q st r1 r2 k =>
  ⟨toD t, toD u, (dOk_spec n t h1).2.2 st.zh r1, (dOk_spec n u h2).2.2 st.zh r2, dOk_shaped h1 hn, dOk_shaped h2 hn, k _ _ _ (Go.refl st) (rep_bl.mpr rfl)⟩
section
variable {a b : Expr} {pos : Pos} {t u : T} {n : Nat}
theorem eg_eq (ha : EG S E a t E1) (hb : EG S E1 b u E2) (h1 : DOk n t) (h2 : DOk n u) (hn : n ≤ 64 := by decide) (hm : behindInMarks .Eq b = false := by exact nomark _) : EG S E (.Compare a [.Eq] [b] pos) (.bl (teq t u)) E2 := eg_cmp (r := rEqD S.K) (fun W X hX => by rw [← hX.kk]; exact op_eqD hX.room.units) (opg_eqD hn h1 h2) ha hb hm
theorem eg_ne (ha : EG S E a t E1) (hb : EG S E1 b u E2) (h1 : DOk n t) (h2 : DOk n u) (hn : n ≤ 64 := by decide) (hm : behindInMarks .NotEq b = false := by exact nomark _) : EG S E (.Compare a [.NotEq] [b] pos) (.bl (!teq t u)) E2 := eg_cmp (r := rNeD S.K) (fun W X hX => by rw [← hX.kk]; exact op_neD hX.room.units) (opg_neD hn h1 h2) ha hb hm
theorem tt_eq (ha : EG S E a t E1) (hb : EG S E1 b u E2) (h1 : DOk n t) (h2 : DOk n u) (hn : n ≤ 64 := by decide) (hm : behindInMarks .Eq b = false := by exact nomark _) : TtG S E (.Compare a [.Eq] [b] pos) (teq t u) E2 := tg_cmp (r := rEqD S.K) (fun W X hX => by rw [← hX.kk]; exact op_eqD hX.room.units) (opg_eqD hn h1 h2) ha hb hm
theorem tt_ne (ha : EG S E a t E1) (hb : EG S E1 b u E2) (h1 : DOk n t) (h2 : DOk n u) (hn : n ≤ 64 := by decide) (hm : behindInMarks .NotEq b = false := by exact nomark _) : TtG S E (.Compare a [.NotEq] [b] pos) (!teq t u) E2 := tg_cmp (r := rNeD S.K) (fun W X hX => by rw [← hX.kk]; exact op_neD hX.room.units) (opg_neD hn h1 h2) ha hb hm
/-- scalars -/
def scT : T → Bool
  | .non => true
  | .bl _ => true
  | .int _ => true
  | .str _ => true
  | _ => false
variable {i j : Int}
theorem tt_lt (ha : EG S E a (.int i) E1) (hb : EG S E1 b (.int j) E2) (hm : behindInMarks .Lt b = false := by exact nomark _) : TtG S E (.Compare a [.Lt] [b] pos) (decide (i < j)) E2 := tg_cmp (fun _ _ _ => op_lt) (opg_rI0 fun _ => rep_bl.mpr rfl) ha hb hm
theorem tt_le (ha : EG S E a (.int i) E1) (hb : EG S E1 b (.int j) E2) (hm : behindInMarks .LtE b = false := by exact nomark _) : TtG S E (.Compare a [.LtE] [b] pos) (decide (i ≤ j)) E2 := tg_cmp (fun _ _ _ => op_le) (opg_rI0 fun _ => rep_bl.mpr rfl) ha hb hm
theorem tt_gt (ha : EG S E a (.int i) E1) (hb : EG S E1 b (.int j) E2) (hm : behindInMarks .Gt b = false := by exact nomark _) : TtG S E (.Compare a [.Gt] [b] pos) (decide (j < i)) E2 := tg_cmp (fun _ _ _ => op_gt) (opg_rI0 fun _ => rep_bl.mpr rfl) ha hb hm
theorem tt_ge (ha : EG S E a (.int i) E1) (hb : EG S E1 b (.int j) E2) (hm : behindInMarks .GtE b = false := by exact nomark _) : TtG S E (.Compare a [.GtE] [b] pos) (decide (j ≤ i)) E2 := tg_cmp (fun _ _ _ => op_ge) (opg_rI0 fun _ => rep_bl.mpr rfl) ha hb hm
/-- a op1 b op2 c -/
theorem tt_chain {c : Expr} {op op' : CmpOp} {ta tb tc : T} {r r' : R2} {c1 c2 : Bool} (ho : ∀ W X, S.Has W X → OpR X (compareOp op) r) (ho' : ∀ W X, S.Has W X → OpR X (compareOp op') r') (hr : OpG S r ta tb (.bl c1)) (hr' : OpG S r' tb tc (.bl c2)) (ha : EG S E a ta E) (hb : EG S E b tb E) (hc : c1 = true → EG S E c tc E)
    (hm : lastMarks [op, op'] [b, c] = false := by with_unfolding_all rfl) : TtG S E (.Compare a [op, op'] [b, c] pos) (c1 && c2) E := fun W Z H σ Q st k => by
  refine RT.mk (t := tTest (tChain r r' (R S W a) (R S W b) (R S W c))) (fun X hX => pt_chain (ho W X hX) (ho' W X hX) (hX.pe a) (hX.pe b) (hX.pe c) hm) (ha W Z H σ _ st fun v H1 Z1 g1 r1 => hb W Z1 H1 σ _ g1.st fun u H2 Z2 g2 r2 => hr _ _ _ _ _ _ _ g2.st (r1.mono g2.step.zz) r2 fun w H3 Z3 g3 r3 => ⟨c1, rep_bl.mp r3, ?_⟩)
  cases c1 with
  | true => exact iteT (hc rfl W Z3 H3 σ _ g3.st fun y H4 Z4 g4 r4 => hr' _ _ _ _ _ _ _ g4.st ((r2.mono g3.step.zz).mono g4.step.zz) r4 fun w' H5 Z5 g5 r5 => ⟨c2, rep_bl.mp r5, k _ _ ((((g1.trans g2).trans g3).trans g4).trans g5)⟩)
  | false => exact iteF ⟨false, rfl, k _ _ ((g1.trans g2).trans g3)⟩
end
end
theorem teq_refl {n : Nat} {t : T} (h : DOk n t) : teq t t = true := SeqAt.eqv_refl _ (dOk_spec (K := ([] : List (Addr × Obj))) n t h).1
theorem teq_int {i j : Int} : teq (.int i) (.int j) = (i == j) := by simp [teq, toD, PyData.eqv]
theorem teq_str {i j : Str} : teq (.str i) (.str j) = (i == j) := by simp [teq, toD, PyData.eqv]
end Cw
end L2

set_option Elab.async false
set_option linter.all false
set_option maxRecDepth 100000
set_option maxHeartbeats 2000000
namespace L2
namespace Cw
open PySem PySem.Spec PyProof.Rows
section
variable {K : PySem.W.Frag} {Z Z' H H' : Hp} {σ σ' : St} {E E' E1 E2 E3 : List Ent} {S : SS} {o : Oc}
theorem noOw_nil : NoOw E [] := fun j hj => by simp at hj
/-- each item gives one, the slots known ahead are as they were -/
theorem LcTurns.map {vs : List Nat} {tg elt : Expr} {f : T → T} : ∀ {ts : List T}, (∀ t ∈ ts, ∃ Ea Eb ws, AG S (wipeE E vs) tg t Ea ws ∧ (∀ j ∈ ws, j ∈ vs) ∧ EG S Ea elt (f t) Eb ∧ wipeE Eb vs = wipeE E vs) → LcTurns S vs tg [] elt E ts (ts.map f) E
  | [], _ => .nil
  | t :: ts, h => by
    obtain ⟨Ea, Eb, ws, h1, h2, h3, h4⟩ := h t List.mem_cons_self
    exact .take h1 h2 tgs_nil h3 h4 (fun _ _ => rfl) (LcTurns.map fun u hu => h u (List.mem_cons_of_mem _ hu))
/-- .. where it is kept -/
theorem LcTurns.filter {vs : List Nat} {tg elt c : Expr} {f : T → T} {b : T → Bool} : ∀ {ts : List T}, (∀ t ∈ ts, ∃ Ea Eb Ec ws, AG S (wipeE E vs) tg t Ea ws ∧ (∀ j ∈ ws, j ∈ vs) ∧ TtG S Ea c (b t) Eb ∧ wipeE Eb vs = wipeE E vs ∧ (b t = true → EG S Eb elt (f t) Ec ∧ wipeE Ec vs = wipeE E vs)) → LcTurns S vs tg [c] elt E ts ((ts.filter b).map f) E
  | [], _ => .nil
  | t :: ts, h => by
    obtain ⟨Ea, Eb, Ec, ws, h1, h2, h3, h4, h5⟩ := h t List.mem_cons_self
    have r := LcTurns.filter (f := f) (b := b) fun u hu => h u (List.mem_cons_of_mem _ hu)
    cases e : b t with
    | true =>
      rw [e] at h3
      rw [List.filter_cons_of_pos e, List.map_cons]
      exact .take h1 h2 (tgs_one h3) (h5 e).1 (h5 e).2 (fun _ _ => rfl) r
    | false =>
      rw [e] at h3
      rw [List.filter_cons_of_neg (by rw [e]; exact Bool.false_ne_true)]
      exact .skip h1 h2 (tgs_one h3) h4 (fun _ _ => rfl) r
/-- typed: xs stand for the items -/
theorem LcTurns.mapT {α : Type} {toT : α → T} {vs : List Nat} {tg elt : Expr} {f : α → T} : ∀ {xs : List α}, (∀ x ∈ xs, ∃ Ea Eb ws, AG S (wipeE E vs) tg (toT x) Ea ws ∧ (∀ j ∈ ws, j ∈ vs) ∧ EG S Ea elt (f x) Eb ∧ wipeE Eb vs = wipeE E vs) → LcTurns S vs tg [] elt E (xs.map toT) (xs.map f) E
  | [], _ => .nil
  | t :: ts, h => by
    obtain ⟨Ea, Eb, ws, h1, h2, h3, h4⟩ := h t List.mem_cons_self
    exact .take h1 h2 tgs_nil h3 h4 (fun _ _ => rfl) (LcTurns.mapT fun u hu => h u (List.mem_cons_of_mem _ hu))
theorem LcTurns.filterT {α : Type} {toT : α → T} {vs : List Nat} {tg elt c : Expr} {f : α → T} {b : α → Bool} : ∀ {xs : List α}, (∀ x ∈ xs, ∃ Ea Eb Ec ws, AG S (wipeE E vs) tg (toT x) Ea ws ∧ (∀ j ∈ ws, j ∈ vs) ∧ TtG S Ea c (b x) Eb ∧ wipeE Eb vs = wipeE E vs ∧ (b x = true → EG S Eb elt (f x) Ec ∧ wipeE Ec vs = wipeE E vs)) → LcTurns S vs tg [c] elt E (xs.map toT) ((xs.filter b).map f) E
  | [], _ => .nil
  | t :: ts, h => by
    obtain ⟨Ea, Eb, Ec, ws, h1, h2, h3, h4, h5⟩ := h t List.mem_cons_self
    have r := LcTurns.filterT (toT := toT) (f := f) (b := b) fun u hu => h u (List.mem_cons_of_mem _ hu)
    cases e : b t with
    | true =>
      rw [e] at h3
      rw [List.filter_cons_of_pos e, List.map_cons]
      exact .take h1 h2 (tgs_one h3) (h5 e).1 (h5 e).2 (fun _ _ => rfl) r
    | false =>
      rw [e] at h3
      rw [List.filter_cons_of_neg (by rw [e]; exact Bool.false_ne_true)]
      exact .skip h1 h2 (tgs_one h3) h4 (fun _ _ => rfl) r
/-- two clauses, typed, no tests -/
theorem Lc2Turns.mapT {α β : Type} {toT : α → T} {toU : β → T} {vs vs1 : List Nat} {tg tg1 iter1 elt : Expr} {n1 : Nat} {ys : α → List β} {f : α → β → T} : ∀ {xs : List α},
    (∀ x ∈ xs, ∃ Ea ws, AG S (wipeE E vs) tg (toT x) Ea ws ∧ (∀ j ∈ ws, j ∈ vs) ∧ IG S Ea tg1 iter1 ((ys x).map toU) Ea ∧ (ys x).length ≤ n1 ∧ LcTurns S vs1 tg1 [] elt Ea ((ys x).map toU) ((ys x).map (f x)) Ea ∧ wipeE (wipeE Ea vs1) vs = wipeE E vs) →
    Lc2Turns S vs vs1 tg [] tg1 iter1 [] elt n1 E (xs.map toT) (xs.flatMap fun x => (ys x).map (f x)) E
  | [], _ => .nil
  | t :: ts, h => by
    obtain ⟨Ea, ws, h1, h2, h3, h4, h5, h6⟩ := h t List.mem_cons_self
    rw [List.flatMap_cons]
    exact .take h1 h2 tgs_nil h3 (by rw [List.length_map]; exact h4) h5 h6 (fun _ _ => rfl) (Lc2Turns.mapT fun u hu => h u (List.mem_cons_of_mem _ hu))
/-- for, typed: each turn goes on, the slots as F says -/
theorem ForR.allT {α : Type} {toT : α → T} {tg : Expr} {body : List Stmt} {Ev : List α → List Ent} : ∀ {xs pre : List α}, (∀ pre x, ∃ Ea ws, AG S (Ev pre) tg (toT x) Ea ws ∧ SGs S Ea body (.nx (Ev (pre ++ [x])))) → ForR S tg body (Ev pre) (xs.map toT) (.nx (Ev (pre ++ xs)))
  | [], pre, h => by rw [List.append_nil]; exact .nil
  | x :: xs, pre, h => by
    obtain ⟨Ea, ws, h1, h2⟩ := h pre x
    have := ForR.allT (xs := xs) (pre := pre ++ [x]) h
    exact .step h1 h2 (by rwa [List.append_assoc] at this)
end
/-- one name in a comprehension: its slot -/
theorem wipeE_set {E : List Ent} {i : Nat} {e : Ent} : wipeE ((wipeE E [i]).set i e) [i] = wipeE E [i] := by
  show (((E.set i .no).set i e).set i .no) = E.set i .no
  rw [List.set_set, List.set_set]
end Cw
end L2

set_option Elab.async false
set_option linter.all false
set_option maxRecDepth 100000
set_option maxHeartbeats 2000000
namespace L2
namespace Cw
open PySem PySem.Spec PyProof.Rows
/-! ### the rules where nothing changes -/
abbrev PG_ (S : SS) (E : List Ent) (e : Expr) (t : T) : Prop := EG S E e t E
section
variable {K : PySem.W.Frag} {E : List Ent} {S : SS} {a b c e : Expr} {es : List Expr} {pos p px : Pos} {i j k : Int} {t u r : T} {ts us : List T} {x : Str} {o : Oc}
theorem pg_add (ha : EG S E a (.int i) E) (hb : EG S E b (.int j) E) : EG S E (.BinOp a .Add b pos) (.int (i + j)) E := eg_add ha hb
theorem pg_sub (ha : EG S E a (.int i) E) (hb : EG S E b (.int j) E) : EG S E (.BinOp a .Sub b pos) (.int (i - j)) E := eg_sub ha hb
theorem pg_mul (h : CMul i j) (ha : EG S E a (.int i) E) (hb : EG S E b (.int j) E) : EG S E (.BinOp a .Mult b pos) (.int (i * j)) E := eg_mul ha hb h
theorem pg_mod (h : j ≠ 0) (ha : EG S E a (.int i) E) (hb : EG S E b (.int j) E) : EG S E (.BinOp a .Mod b pos) (.int (i.fmod j)) E := eg_mod ha hb h
theorem pg_fdiv (h : CDivN i j) (ha : EG S E a (.int i) E) (hb : EG S E b (.int j) E) : EG S E (.BinOp a .FloorDiv b pos) (.int (i.fdiv j)) E := eg_fdiv ha hb h
theorem pas_cons (ha : EG S E e t E) (hb : EAs S E es ts E) (hs : ∀ env, starEach (e :: es) env = (false, eval e env) :: starEach es env := by intro _; rfl) : EAs S E (e :: es) (t :: ts) E := eas_cons ha hb hs
theorem pg_tup0 : EG S E (.Tuple [] 0 pos) (.tup []) E := eg_tup eas_nil (by decide)
theorem pg_tup1 {n : Nat} (ha : EG S E a t E) (h1 : ∀ env, starEach [a] env = (false, eval a env) :: starEach [] env := by intro _; rfl) : EG S E (.Tuple [a] n pos) (.tup [t]) E := eg_tup (eas_cons ha eas_nil h1) (by simp)
theorem pg_tup2 {n : Nat} (ha : EG S E a t E) (hb : EG S E b u E) (h1 : ∀ env, starEach [a, b] env = (false, eval a env) :: starEach [b] env := by intro _; rfl) (h2 : ∀ env, starEach [b] env = (false, eval b env) :: starEach [] env := by intro _; rfl) : EG S E (.Tuple [a, b] n pos) (.tup [t, u]) E := eg_tup (eas_cons ha (eas_cons hb eas_nil h2) h1) (by simp)
theorem pg_tup3 {n : Nat} (ha : EG S E a t E) (hb : EG S E b u E) (hc : EG S E c r E) (h1 : ∀ env, starEach [a, b, c] env = (false, eval a env) :: starEach [b, c] env := by intro _; rfl) (h2 : ∀ env, starEach [b, c] env = (false, eval b env) :: starEach [c] env := by intro _; rfl) (h3 : ∀ env, starEach [c] env = (false, eval c env) :: starEach [] env := by intro _; rfl) : EG S E (.Tuple [a, b, c] n pos) (.tup [t, u, r]) E := eg_tup (eas_cons ha (eas_cons hb (eas_cons hc eas_nil h3) h2) h1) (by simp)
theorem pg_lst0 : EG S E (.List [] pos) (.lst []) E := eg_lst eas_nil (by decide)
theorem pg_lst1 (ha : EG S E a t E) (h1 : ∀ env, starEach [a] env = (false, eval a env) :: starEach [] env := by intro _; rfl) : EG S E (.List [a] pos) (.lst [t]) E := eg_lst (eas_cons ha eas_nil h1) (by simp)
theorem pg_lst2 (ha : EG S E a t E) (hb : EG S E b u E) (h1 : ∀ env, starEach [a, b] env = (false, eval a env) :: starEach [b] env := by intro _; rfl) (h2 : ∀ env, starEach [b] env = (false, eval b env) :: starEach [] env := by intro _; rfl) : EG S E (.List [a, b] pos) (.lst [t, u]) E := eg_lst (eas_cons ha (eas_cons hb eas_nil h2) h1) (by simp)
theorem pg_lst3 (ha : EG S E a t E) (hb : EG S E b u E) (hc : EG S E c r E) (h1 : ∀ env, starEach [a, b, c] env = (false, eval a env) :: starEach [b, c] env := by intro _; rfl) (h2 : ∀ env, starEach [b, c] env = (false, eval b env) :: starEach [c] env := by intro _; rfl) (h3 : ∀ env, starEach [c] env = (false, eval c env) :: starEach [] env := by intro _; rfl) : EG S E (.List [a, b, c] pos) (.lst [t, u, r]) E := eg_lst (eas_cons ha (eas_cons hb (eas_cons hc eas_nil h3) h2) h1) (by simp)
theorem pg_item {q : T} (hq : SeqT q ts) (hi : atI ts i = some u) (ha : EG S E a q E) (hb : EG S E b (.int i) E) (hm : PlainIx b := by intro _ _; rfl) : EG S E (.Subscript a b pos) u E := eg_item hq ha hb hi hm
theorem pg_lt (ha : EG S E a (.int i) E) (hb : EG S E b (.int j) E) (hm : behindInMarks .Lt b = false := by exact nomark _) : EG S E (.Compare a [.Lt] [b] pos) (.bl (decide (i < j))) E := eg_lt ha hb hm
theorem pg_le (ha : EG S E a (.int i) E) (hb : EG S E b (.int j) E) (hm : behindInMarks .LtE b = false := by exact nomark _) : EG S E (.Compare a [.LtE] [b] pos) (.bl (decide (i ≤ j))) E := eg_le ha hb hm
theorem pg_ge (ha : EG S E a (.int i) E) (hb : EG S E b (.int j) E) (hm : behindInMarks .GtE b = false := by exact nomark _) : EG S E (.Compare a [.GtE] [b] pos) (.bl (decide (j ≤ i))) E := eg_ge ha hb hm
theorem pg_gt (ha : EG S E a (.int i) E) (hb : EG S E b (.int j) E) (hm : behindInMarks .Gt b = false := by exact nomark _) : EG S E (.Compare a [.Gt] [b] pos) (.bl (decide (j < i))) E := eg_gt ha hb hm
theorem pg_eq {n : Nat} (h1 : DOk n t) (h2 : DOk n u) (ha : EG S E a t E) (hb : EG S E b u E) (hn : n ≤ 64 := by decide) (hm : behindInMarks .Eq b = false := by exact nomark _) : EG S E (.Compare a [.Eq] [b] pos) (.bl (teq t u)) E := eg_eq ha hb h1 h2 hn hm
theorem pg_ne {n : Nat} (h1 : DOk n t) (h2 : DOk n u) (ha : EG S E a t E) (hb : EG S E b u E) (hn : n ≤ 64 := by decide) (hm : behindInMarks .NotEq b = false := by exact nomark _) : EG S E (.Compare a [.NotEq] [b] pos) (.bl (!teq t u)) E := eg_ne ha hb h1 h2 hn hm
theorem pt_lt (ha : EG S E a (.int i) E) (hb : EG S E b (.int j) E) (hm : behindInMarks .Lt b = false := by exact nomark _) : TtG S E (.Compare a [.Lt] [b] pos) (decide (i < j)) E := tt_lt ha hb hm
theorem pt_le (ha : EG S E a (.int i) E) (hb : EG S E b (.int j) E) (hm : behindInMarks .LtE b = false := by exact nomark _) : TtG S E (.Compare a [.LtE] [b] pos) (decide (i ≤ j)) E := tt_le ha hb hm
theorem pt_gt (ha : EG S E a (.int i) E) (hb : EG S E b (.int j) E) (hm : behindInMarks .Gt b = false := by exact nomark _) : TtG S E (.Compare a [.Gt] [b] pos) (decide (j < i)) E := tt_gt ha hb hm
theorem pt_ge (ha : EG S E a (.int i) E) (hb : EG S E b (.int j) E) (hm : behindInMarks .GtE b = false := by exact nomark _) : TtG S E (.Compare a [.GtE] [b] pos) (decide (j ≤ i)) E := tt_ge ha hb hm
theorem pt_eq {n : Nat} (h1 : DOk n t) (h2 : DOk n u) (ha : EG S E a t E) (hb : EG S E b u E) (hn : n ≤ 64 := by decide) (hm : behindInMarks .Eq b = false := by exact nomark _) : TtG S E (.Compare a [.Eq] [b] pos) (teq t u) E := tt_eq ha hb h1 h2 hn hm
theorem pt_ne {n : Nat} (h1 : DOk n t) (h2 : DOk n u) (ha : EG S E a t E) (hb : EG S E b u E) (hn : n ≤ 64 := by decide) (hm : behindInMarks .NotEq b = false := by exact nomark _) : TtG S E (.Compare a [.NotEq] [b] pos) (!teq t u) E := tt_ne ha hb h1 h2 hn hm
/-- i < j < k and the like -/
theorem pt_ltlt (ha : EG S E a (.int i) E) (hb : EG S E b (.int j) E) (hc : EG S E c (.int k) E) (hm : lastMarks [.Lt, .Lt] [b, c] = false := by with_unfolding_all rfl) : TtG S E (.Compare a [.Lt, .Lt] [b, c] pos) (decide (i < j) && decide (j < k)) E := tt_chain (fun _ _ _ => op_lt) (fun _ _ _ => op_lt) (opg_rI0 fun _ => rep_bl.mpr rfl) (opg_rI0 fun _ => rep_bl.mpr rfl) ha hb (fun _ => hc) hm
theorem pt_lelt (ha : EG S E a (.int i) E) (hb : EG S E b (.int j) E) (hc : EG S E c (.int k) E) (hm : lastMarks [.LtE, .Lt] [b, c] = false := by with_unfolding_all rfl) : TtG S E (.Compare a [.LtE, .Lt] [b, c] pos) (decide (i ≤ j) && decide (j < k)) E := tt_chain (fun _ _ _ => op_le) (fun _ _ _ => op_lt) (opg_rI0 fun _ => rep_bl.mpr rfl) (opg_rI0 fun _ => rep_bl.mpr rfl) ha hb (fun _ => hc) hm
theorem pt_lele (ha : EG S E a (.int i) E) (hb : EG S E b (.int j) E) (hc : EG S E c (.int k) E) (hm : lastMarks [.LtE, .LtE] [b, c] = false := by with_unfolding_all rfl) : TtG S E (.Compare a [.LtE, .LtE] [b, c] pos) (decide (i ≤ j) && decide (j ≤ k)) E := tt_chain (fun _ _ _ => op_le) (fun _ _ _ => op_le) (opg_rI0 fun _ => rep_bl.mpr rfl) (opg_rI0 fun _ => rep_bl.mpr rfl) ha hb (fun _ => hc) hm
theorem sg_ifT {A B : List Stmt} {d : Bool} (hd : d = true) (hc : TtG S E c d E) (h : SGs S E A o) : SG S E (.If c A B pos) o := sg_if hc (fun _ => h) (fun z => by rw [hd] at z; cases z)
theorem sg_ifF {A B : List Stmt} {d : Bool} (hd : d = false) (hc : TtG S E c d E) (h : SGs S E B o) : SG S E (.If c A B pos) o := sg_if hc (fun z => by rw [hd] at z; cases z) (fun _ => h)
theorem sg_ifFn {A : List Stmt} {d : Bool} (hd : d = false) (hc : TtG S E c d E) : SG S E (.If c A [] pos) (.nx E) := sg_ifF hd hc sgs_nil
theorem pg_ret {t : T} (h : EG S E e t E) : SG S E (.Return (some e) pos) (.ret t E) := sg_ret h
theorem pg_iter {tg : Expr} {q : T} (hq : SeqT q ts) (h : EG S E e q E) : IG S E tg e ts E := ig_seq hq h
theorem pg_range2 {tg : Expr} (g : GlOk S "range") (hm : S.mg "range" = none) (hb : (-(2 ^ 62) ≤ i ∧ i < 2 ^ 62) ∧ -(2 ^ 62) ≤ j ∧ j < 2 ^ 62) (h : EG S E a (.int i) E) (h2 : EG S E b (.int j) E) (he : ∀ env, starEach [a, b] env = (false, eval a env) :: starEach [b] env := by intro _; rfl) (he2 : ∀ env, starEach [b] env = (false, eval b env) :: starEach [] env := by intro _; rfl) : IG S E tg (.Call (.Name "range" p) [a, b] [] pos) (rangeT i (j - i).toNat) E := ig_range2 g hm h h2 hb he he2
end
/-! ### comprehensions by names -/
section
variable {E : List Ent} {S : SS} {elt iter c : Expr} {pos px py : Pos} {α β : Type} {x y : Str} {i j : Nat} {toT : α → T} {toU : β → T} {xs : List α} {f : α → T} {scope : Scope}
/-- [elt for x in iter] -/
theorem eg_lcN (ok : BlkOk S.N S.sc scope [(x, i)]) (hN : S.N.Nodup) (so : StoOk (S.blk scope) i x) (hl : i < E.length) (no : ∀ t, E[i]? ≠ some (.ow t)) (hz : xs.length ≤ 16777216) (hi : IG S E (.Name x px) iter (xs.map toT) E)
    (he : ∀ a ∈ xs, EG (S.blk scope) (E.set i (.sh (toT a))) elt (f a) (E.set i (.sh (toT a)))) (hs : ∀ env x, foldedSetIterable iter env x = pure x := by intro _ _; rfl) : EG S E (.ListComp elt [⟨.Name x px, iter, [], 0⟩] scope pos) (.lst (xs.map f)) E := by
  refine eg_lc ok hN hi (fun k hk t => ?_) (LcTurns.mapT fun a ha => ⟨((wipeE E [i]).set i (.sh (toT a))), ((wipeE E [i]).set i (.sh (toT a))), [i], ag_name so (by rw [wipeE_length]; exact hl), fun k hk => hk, ?_, wipeE_set⟩) (by rw [List.length_map]; exact hz) hs
  · simp at hk; subst hk; exact no t
  · have := he a ha
    have e : (wipeE E [i]).set i (.sh (toT a)) = E.set i (.sh (toT a)) := by show (E.set i .no).set i _ = _; rw [List.set_set]
    rw [e]; exact this
/-- [elt for x in iter if c] -/
theorem eg_lcNF {b : α → Bool} (ok : BlkOk S.N S.sc scope [(x, i)]) (hN : S.N.Nodup) (so : StoOk (S.blk scope) i x) (hl : i < E.length) (no : ∀ t, E[i]? ≠ some (.ow t)) (hz : xs.length ≤ 16777216) (hi : IG S E (.Name x px) iter (xs.map toT) E)
    (hc : ∀ a ∈ xs, TtG (S.blk scope) (E.set i (.sh (toT a))) c (b a) (E.set i (.sh (toT a)))) (he : ∀ a ∈ xs, b a = true → EG (S.blk scope) (E.set i (.sh (toT a))) elt (f a) (E.set i (.sh (toT a)))) (hs : ∀ env x, foldedSetIterable iter env x = pure x := by intro _ _; rfl) : EG S E (.ListComp elt [⟨.Name x px, iter, [c], 0⟩] scope pos) (.lst ((xs.filter b).map f)) E := by
  have e : ∀ t, (wipeE E [i]).set i (.sh t) = E.set i (.sh t) := fun t => by show (E.set i .no).set i _ = _; rw [List.set_set]
  refine eg_lc ok hN hi (fun k hk t => ?_) (LcTurns.filterT fun a ha => ⟨((wipeE E [i]).set i (.sh (toT a))), ((wipeE E [i]).set i (.sh (toT a))), ((wipeE E [i]).set i (.sh (toT a))), [i], ag_name so (by rw [wipeE_length]; exact hl), fun k hk => hk, ?_, wipeE_set, fun hb => ⟨?_, wipeE_set⟩⟩) (by rw [List.length_map]; exact hz) hs
  · simp at hk; subst hk; exact no t
  · rw [e]; exact hc a ha
  · rw [e]; exact he a ha hb
theorem wipeE2_set {E : List Ent} {i j : Nat} {e e' : Ent} (h : i ≠ j) : wipeE (((wipeE E [i, j]).set i e).set j e') [i, j] = wipeE E [i, j] := by
  show ((((((E.set j .no).set i .no).set i e).set j e').set j .no).set i .no) = (E.set j .no).set i .no
  rw [List.set_set, List.set_set, List.set_comm _ _ h, List.set_set, List.set_set]
theorem wipeE2_put {E : List Ent} {i j : Nat} {e e' : Ent} (h : i ≠ j) : ((wipeE E [i, j]).set i e).set j e' = (E.set i e).set j e' := by
  show ((((E.set j .no).set i .no).set i e).set j e') = (E.set i e).set j e'
  rw [List.set_set, List.set_comm _ _ (Ne.symm h), List.set_set]
/-- a pair's store -/
theorem ag_two {E : List Ent} {t u q : T} {k : Nat} (hq : q = .tup [t, u] ∨ q = .wtup [t, u]) (so1 : StoOk S i x) (so2 : StoOk S j y) (hi : i < E.length) (hj : j < E.length) : AG S E (.Tuple [.Name x px, .Name y py] k pos) q ((E.set i (.sh t)).set j (.sh u)) [i, j] :=
  ag_tup hq (ags_cons (ag_name so1 hi) (ags_cons (ag_name so2 (by rw [List.length_set]; exact hj)) ags_nil))
/-- [elt for x, y in iter] -/
theorem eg_lcT {k : Nat} {pt : Pos} {t u : α → T} (hq : ∀ a, toT a = .tup [t a, u a] ∨ toT a = .wtup [t a, u a]) (ok : BlkOk S.N S.sc scope [(x, i), (y, j)]) (hN : S.N.Nodup) (hij : i ≠ j) (so1 : StoOk (S.blk scope) i x) (so2 : StoOk (S.blk scope) j y) (hl : i < E.length) (hl2 : j < E.length) (no : ∀ t, E[i]? ≠ some (.ow t)) (no2 : ∀ t, E[j]? ≠ some (.ow t)) (hz : xs.length ≤ 16777216) (hi : IG S E (.Tuple [.Name x px, .Name y py] k pt) iter (xs.map toT) E)
    (he : ∀ a ∈ xs, EG (S.blk scope) ((E.set i (.sh (t a))).set j (.sh (u a))) elt (f a) ((E.set i (.sh (t a))).set j (.sh (u a)))) (hs : ∀ env x, foldedSetIterable iter env x = pure x := by intro _ _; rfl) : EG S E (.ListComp elt [⟨.Tuple [.Name x px, .Name y py] k pt, iter, [], 0⟩] scope pos) (.lst (xs.map f)) E := by
  refine eg_lc ok hN hi (fun k hk t => ?_) (LcTurns.mapT fun a ha => ⟨(((wipeE E [i, j]).set i (.sh (t a))).set j (.sh (u a))), (((wipeE E [i, j]).set i (.sh (t a))).set j (.sh (u a))), [i, j], ag_two (hq a) so1 so2 (by rw [wipeE_length]; exact hl) (by rw [wipeE_length]; exact hl2), fun k hk => hk, ?_, wipeE2_set hij⟩) (by rw [List.length_map]; exact hz) hs
  · simp at hk
    rcases hk with rfl | rfl
    · exact no t
    · exact no2 t
  · show EG _ (((wipeE E [i, j]).set i (.sh (t a))).set j (.sh (u a))) elt (f a) (((wipeE E [i, j]).set i (.sh (t a))).set j (.sh (u a)))
    rw [wipeE2_put hij]; exact he a ha
theorem eg_lcTF {k : Nat} {pt : Pos} {t u : α → T} {b : α → Bool} (hq : ∀ a, toT a = .tup [t a, u a] ∨ toT a = .wtup [t a, u a]) (ok : BlkOk S.N S.sc scope [(x, i), (y, j)]) (hN : S.N.Nodup) (hij : i ≠ j) (so1 : StoOk (S.blk scope) i x) (so2 : StoOk (S.blk scope) j y) (hl : i < E.length) (hl2 : j < E.length) (no : ∀ t, E[i]? ≠ some (.ow t)) (no2 : ∀ t, E[j]? ≠ some (.ow t)) (hz : xs.length ≤ 16777216) (hi : IG S E (.Tuple [.Name x px, .Name y py] k pt) iter (xs.map toT) E)
    (hc : ∀ a ∈ xs, TtG (S.blk scope) ((E.set i (.sh (t a))).set j (.sh (u a))) c (b a) ((E.set i (.sh (t a))).set j (.sh (u a)))) (he : ∀ a ∈ xs, b a = true → EG (S.blk scope) ((E.set i (.sh (t a))).set j (.sh (u a))) elt (f a) ((E.set i (.sh (t a))).set j (.sh (u a)))) (hs : ∀ env x, foldedSetIterable iter env x = pure x := by intro _ _; rfl) : EG S E (.ListComp elt [⟨.Tuple [.Name x px, .Name y py] k pt, iter, [c], 0⟩] scope pos) (.lst ((xs.filter b).map f)) E := by
  refine eg_lc ok hN hi (fun k hk t => ?_) (LcTurns.filterT fun a ha => ⟨(((wipeE E [i, j]).set i (.sh (t a))).set j (.sh (u a))), (((wipeE E [i, j]).set i (.sh (t a))).set j (.sh (u a))), (((wipeE E [i, j]).set i (.sh (t a))).set j (.sh (u a))), [i, j], ag_two (hq a) so1 so2 (by rw [wipeE_length]; exact hl) (by rw [wipeE_length]; exact hl2), fun k hk => hk, ?_, wipeE2_set hij, fun hb => ⟨?_, wipeE2_set hij⟩⟩) (by rw [List.length_map]; exact hz) hs
  · simp at hk
    rcases hk with rfl | rfl
    · exact no t
    · exact no2 t
  · show TtG _ (((wipeE E [i, j]).set i (.sh (t a))).set j (.sh (u a))) c (b a) (((wipeE E [i, j]).set i (.sh (t a))).set j (.sh (u a)))
    rw [wipeE2_put hij]; exact hc a ha
  · show EG _ (((wipeE E [i, j]).set i (.sh (t a))).set j (.sh (u a))) elt (f a) (((wipeE E [i, j]).set i (.sh (t a))).set j (.sh (u a)))
    rw [wipeE2_put hij]; exact he a ha hb
/-- [elt for x in iter for y in iter1] -/
theorem eg_lc2N {iter1 : Expr} {ys : α → List β} {n1 : Nat} {g : α → β → T} (ok : BlkOk S.N S.sc scope [(x, i), (y, j)]) (hN : S.N.Nodup) (hij : i ≠ j) (so1 : StoOk (S.blk scope) i x) (so2 : StoOk (S.blk scope) j y) (hl : i < E.length) (hl2 : j < E.length) (no : ∀ t, E[i]? ≠ some (.ow t)) (no2 : ∀ t, E[j]? ≠ some (.ow t)) (hz : xs.length * n1 ≤ 16777216) (hn1 : n1 ≤ 16777216) (hi : IG S E (.Name x px) iter (xs.map toT) E)
    (hy : ∀ a ∈ xs, (ys a).length ≤ n1) (hi1 : ∀ a ∈ xs, IG (S.blk scope) ((E.set j .no).set i (.sh (toT a))) (.Name y py) iter1 ((ys a).map toU) ((E.set j .no).set i (.sh (toT a))))
    (he : ∀ a ∈ xs, ∀ b ∈ ys a, EG (S.blk scope) ((E.set i (.sh (toT a))).set j (.sh (toU b))) elt (g a b) ((E.set i (.sh (toT a))).set j (.sh (toU b)))) (hs : ∀ env x, foldedSetIterable iter env x = pure x := by intro _ _; rfl) (hs1 : ∀ env x, foldedSetIterable iter1 env x = pure x := by intro _ _; rfl) : EG S E (.ListComp elt [⟨.Name x px, iter, [], 0⟩, ⟨.Name y py, iter1, [], 0⟩] scope pos) (.lst (xs.flatMap fun a => (ys a).map (g a))) E := by
  have e : ∀ t, (wipeE E [i, j]).set i (.sh t) = (E.set j .no).set i (.sh t) := fun t => by show ((E.set j .no).set i .no).set i _ = _; rw [List.set_set]
  refine eg_lc2 (vs1 := [j]) ok hN hi (fun k hk t => ?_) (fun k hk => by simp at hk; subst hk; simp) (Lc2Turns.mapT (n1 := n1) fun a ha => ⟨(E.set j .no).set i (.sh (toT a)), [i], ?_, fun k hk => by simp at hk; subst hk; simp, hi1 a ha, hy a ha, LcTurns.mapT fun b hb => ⟨((wipeE ((E.set j .no).set i (.sh (toT a))) [j]).set j (.sh (toU b))), ((wipeE ((E.set j .no).set i (.sh (toT a))) [j]).set j (.sh (toU b))), [j], ag_name so2 (by rw [wipeE_length, List.length_set, List.length_set]; exact hl2), fun k hk => hk, ?_, wipeE_set⟩, ?_⟩) (by rw [List.length_map]; exact hz) hs hs1
  · simp at hk
    rcases hk with rfl | rfl
    · exact no t
    · exact no2 t
  · have := ag_name (pos := px) (t := toT a) so1 (show i < (wipeE E [i, j]).length by rw [wipeE_length]; exact hl)
    rw [e] at this
    exact this
  · have q : (wipeE ((E.set j .no).set i (.sh (toT a))) [j]).set j (.sh (toU b)) = (E.set i (.sh (toT a))).set j (.sh (toU b)) := by
      show ((((E.set j .no).set i (.sh (toT a))).set j .no).set j (.sh (toU b))) = _
      rw [List.set_set, List.set_comm _ _ (Ne.symm hij), List.set_set]
    rw [q]
    exact he a ha b hb
  · show ((((((E.set j .no).set i (.sh (toT a))).set j .no).set j .no).set i .no)) = ((E.set j .no).set i .no)
    rw [List.set_set, List.set_comm _ _ hij, List.set_set, List.set_set]
end
end Cw
end L2

set_option Elab.async false
set_option linter.all false
set_option maxRecDepth 100000
set_option maxHeartbeats 2000000
namespace L2
namespace Cw
open PySem PySem.Spec PyProof.Rows
/-- the block hands back t, whatever the slots are then -/
def SGr (S : SS) (E : List Ent) (sts : List Stmt) (t : T) : Prop := ∃ E', SGs S E sts (.ret t E')
/-- the block raises an error of the class at C -/
def SGx (S : SS) (E : List Ent) (sts : List Stmt) (C : Addr) : Prop := ∃ E', SGs S E sts (.exc C E')
section
variable {E E1 : List Ent} {S : SS} {st : Stmt} {sts A B : List Stmt} {e c : Expr} {t : T} {C : Addr} {pos pos' p p2 : Pos} {d : Bool}
theorem sgr_cons (h1 : SG S E st (.nx E1)) (h2 : SGr S E1 sts t) : SGr S E (st :: sts) t := by obtain ⟨E', h⟩ := h2; exact ⟨E', sgs_cons h1 h⟩
theorem sgr_ret (h : EG S E e t E) : SGr S E (.Return (some e) pos :: sts) t := ⟨E, sgs_stop (sg_ret h) trivial⟩
theorem sgr_retE (h : EG S E e t E1) : SGr S E (.Return (some e) pos :: sts) t := ⟨E1, sgs_stop (sg_ret h) trivial⟩
theorem sgr_stop (h : ∃ E', SG S E st (.ret t E')) : SGr S E (st :: sts) t := by obtain ⟨E', h⟩ := h; exact ⟨E', sgs_stop h trivial⟩
theorem sgr_ifT (hd : d = true) (hc : TtG S E c d E) (h : SGr S E A t) : SGr S E (.If c A B pos :: sts) t := by obtain ⟨E', h⟩ := h; exact ⟨E', sgs_stop (sg_ifT hd hc h) trivial⟩
theorem sgr_ifF (hd : d = false) (hc : TtG S E c d E) (h : SGr S E B t) : SGr S E (.If c A B pos :: sts) t := by obtain ⟨E', h⟩ := h; exact ⟨E', sgs_stop (sg_ifF hd hc h) trivial⟩
theorem sgr_ifFn (hd : d = false) (hc : TtG S E c d E) (h : SGr S E sts t) : SGr S E (.If c A [] pos :: sts) t := sgr_cons (sg_ifFn hd hc) h
theorem sgx_cons (h1 : SG S E st (.nx E1)) (h2 : SGx S E1 sts C) : SGx S E (st :: sts) C := by obtain ⟨E', h⟩ := h2; exact ⟨E', sgs_cons h1 h⟩
theorem sgx_stop (h : SG S E st (.exc C E1)) : SGx S E (st :: sts) C := ⟨E1, sgs_stop h trivial⟩
theorem sgx_ifT (hd : d = true) (hc : TtG S E c d E) (h : SGx S E A C) : SGx S E (.If c A B pos :: sts) C := by obtain ⟨E', h⟩ := h; exact ⟨E', sgs_stop (sg_ifT hd hc h) trivial⟩
theorem sgx_ifFn (hd : d = false) (hc : TtG S E c d E) (h : SGx S E sts C) : SGx S E (.If c A [] pos :: sts) C := sgx_cons (sg_ifFn hd hc) h
theorem sgx_raise {x m : Str} {j : Nat} (xo : ExcOk S x C) (g : GlOk S x) : SGx S E (.Raise (some (.Call (.Name x p) [.Constant (.str m) j p2] [] pos)) none pos' :: sts) C := sgx_stop (sg_raise xo g)
end
section
variable {w : World} {P : Program} {base : Heap} {K : PySem.W.Frag} {mg : Str → Option Value}
theorem gives_p {x qual : Str} {st : Stmt} {f : Addr} {fd : FuncData} {N ps : List Str} {k : Nat} {ts : List T} {t : T} (E : List Ent) (F : FunA K x qual st f fd) (Sc : FnScope N ps (defScope st)) (hl : ts.length = ps.length) (hE : entry N (ts.map Ent.sh) = E)
    (hb : SGr (defP P w K mg base k N (defScope st)) E (defBody st) t) : Gives P w K mg base (k + 1) f fd ps ts t := gives_of F Sc hl (by rw [hE]; exact hb)
theorem errs_p {x qual : Str} {st : Stmt} {f : Addr} {fd : FuncData} {N ps : List Str} {k : Nat} {ts : List T} {C : Addr} (E : List Ent) (F : FunA K x qual st f fd) (Sc : FnScope N ps (defScope st)) (hl : ts.length = ps.length) (hE : entry N (ts.map Ent.sh) = E)
    (hb : SGx (defP P w K mg base k N (defScope st)) E (defBody st) C) : Errs P w K mg base (k + 1) f fd ps ts C := errs_of F Sc hl (by rw [hE]; exact hb)
end
end Cw
end L2

set_option Elab.async false
set_option linter.all false
set_option maxRecDepth 100000
set_option maxHeartbeats 2000000
namespace L2
namespace Cw
open PySem PySem.Spec PyProof.Rows
/-! ### keys of any depth as trees -/
mutual
def keyT : NestedKey → T
  | .none => .non
  | .num i => .int i
  | .text s => .str s
  | .tup ks => .tup (keyTs ks)
def keyTs : List NestedKey → List T
  | [] => []
  | k :: ks => keyT k :: keyTs ks
end
mutual
/-- the tree t may be asked as the key k -/
def KeyT : NestedKey → T → Prop
  | .none, t => t = .non
  | .num i, t => t = .int i ∨ ∃ b, i = (if b = true then 1 else 0) ∧ t = .bl b
  | .text s, t => t = .str s
  | .tup ks, t => ∃ ts, (t = .tup ts ∨ t = .wtup ts) ∧ KeyTs ks ts
def KeyTs : List NestedKey → List T → Prop
  | [], ts => ts = []
  | k :: ks, ts => ∃ t r, ts = t :: r ∧ KeyT k t ∧ KeyTs ks r
end
mutual
theorem keyT_self : ∀ k, KeyT k (keyT k)
  | .none => by simp [KeyT, keyT]
  | .num i => by simp [KeyT, keyT]
  | .text s => by simp [KeyT, keyT]
  | .tup ks => by
    simp only [KeyT, keyT]
    exact ⟨keyTs ks, .inl rfl, keyTs_self ks⟩
theorem keyTs_self : ∀ ks, KeyTs ks (keyTs ks)
  | [] => by simp [KeyTs, keyTs]
  | k :: ks => by
    simp only [KeyTs, keyTs]
    exact ⟨_, _, rfl, keyT_self k, keyTs_self ks⟩
end
section
variable {X : Cx} {pins : List (Addr × Obj)} {σ : St} {H Z : Hp} {s : Shared} {K : PySem.W.Frag} {w : World}
mutual
theorem key_is (I : Inv X pins σ H s) (zh : Same Z H) (hK : X.K = K) : ∀ (k : NestedKey) {t : T} {v : V} {u : Value}, KeyT k t → Rep K Z t v → RelV v u → NestedIs s.heap k u
  | .none, t, v, u, h, r, rv => by
    simp only [KeyT] at h; subst h
    rw [rep_non.mp r] at rv
    obtain rfl : u = Value.none := rv
    exact .none
  | .num i, t, v, u, h, r, rv => by
    simp only [KeyT] at h
    rcases h with rfl | ⟨b, e, rfl⟩
    · rw [rep_int.mp r] at rv
      obtain ⟨t, rfl⟩ := (show ∃ t, u = Value.int i t from rv)
      exact .int i t
    · rw [rep_bl.mp r] at rv
      obtain rfl : u = Value.bool b := rv
      exact .bool e
  | .text x, t, v, u, h, r, rv => by
    simp only [KeyT] at h; subst h
    rw [rep_str.mp r] at rv
    obtain ⟨t, rfl⟩ := (show ∃ t, u = Value.str x t from rv)
    exact .text x t
  | .tup ks, t, v, u, h, r, rv => by
    simp only [KeyT] at h
    obtain ⟨ts, h1, h2⟩ := h
    have q : ∃ a vs, v = .ref a ∧ SqT K H a vs ∧ Reps K Z ts vs := by
      rcases h1 with rfl | rfl
      · obtain ⟨a, vs, e, q1, q2⟩ := rep_tup.mp r
        exact ⟨a, vs, e, .inl (.inl (zh _ _ q1)), q2⟩
      · obtain ⟨a, vs, e, q1, q2⟩ := rep_wtup.mp r
        exact ⟨a, vs, e, Same_tup zh q1, q2⟩
    obtain ⟨a, vs, rfl, q1, q2⟩ := q
    obtain rfl : u = Value.ref a := rv
    rw [← hK] at q1
    obtain ⟨its, rr, ⟨o, e1, e2, n, e3⟩, _⟩ := I.tuple q1
    exact .tup e1 e2 e3 (by simpa using keys_are I zh hK ks h2 q2 rr)
theorem keys_are (I : Inv X pins σ H s) (zh : Same Z H) (hK : X.K = K) : ∀ (ks : List NestedKey) {ts : List T} {vs : List V} {us : List Value}, KeyTs ks ts → Reps K Z ts vs → Vals vs us → NestedAll s.heap ks us
  | [], ts, vs, us, h, r, rv => by
    simp only [KeyTs] at h; subst h
    rw [r.unnil] at rv
    cases rv
    exact .nil
  | k :: ks, ts, vs, us, h, r, rv => by
    simp only [KeyTs] at h
    obtain ⟨t, tr, rfl, h1, h2⟩ := h
    obtain ⟨v, vr, rfl, r1, r2⟩ := r.uncons
    cases rv with
    | cons a b => exact .cons (key_is I zh hK k h1 r1 a) (keys_are I zh hK ks h2 r2 b)
end
end
/-! ### dicts with such keys -/
def RawN (w : World) (h : Heap) (d : Addr) (xs : List (NestedKey × Addr × Value)) : Prop :=
  ∃ o es ep, h.get? d = some o ∧ o.ExactDict ∧ o.data = .dict es ep ∧ es.toList = xs.map (fun x => (⟨x.1.hash w, .ref x.2.1, x.2.2⟩ : DictEntry)) ∧ (xs.map (·.1)).Nodup
def dnP (w : World) (ks : List NestedKey) (d : Addr) (qs vs : List V) (h : Heap) : Prop :=
  (d == sysModules) = false ∧ ks.length ≤ sizeLine ∧ (∀ k ∈ ks, k.depth ≤ 8) ∧ ∃ xs : List (NestedKey × Addr × Value), xs.map (·.1) = ks ∧ qs = xs.map (fun x => V.ref x.2.1) ∧ Vals vs (xs.map (·.2.2)) ∧ RawN w h d xs
/-- a dict whose keys are tuples, nested as they may be -/
def dN (w : World) (l : List (NestedKey × T)) : T := .dct (dnP w (l.map (·.1))) (l.map fun x => keyT x.1) (l.map (·.2))
def getN {κ : Type} [DecidableEq κ] (l : List (κ × T)) (k : κ) : Option T := (l.find? fun p => decide (p.1 = k)).map (·.2)
def putN {κ : Type} [DecidableEq κ] (l : List (κ × T)) (k : κ) (t : T) : List (κ × T) := if (getN l k).isSome = true then l.map (fun p => if p.1 = k then (p.1, t) else p) else l ++ [(k, t)]
section
variable {K : PySem.W.Frag} {Z : Hp} {w : World}
def DRel (K : PySem.W.Frag) (Z : Hp) (l : List (NestedKey × T)) (xs : List (NestedKey × Addr × Value)) : Prop := Paired (fun (p : NestedKey × T) (x : NestedKey × Addr × Value) => x.1 = p.1 ∧ (∃ v, Rep K Z p.2 v ∧ RelV v x.2.2) ∧ Rep K Z (keyT x.1) (.ref x.2.1)) l xs
theorem drel_of : ∀ {l : List (NestedKey × T)} {xs : List (NestedKey × Addr × Value)} {vs : List V}, xs.map (·.1) = l.map (·.1) → Reps K Z (l.map fun x => keyT x.1) (xs.map fun x => V.ref x.2.1) → Reps K Z (l.map (·.2)) vs → Vals vs (xs.map (·.2.2)) → DRel K Z l xs
  | [], [], vs, _, _, _, _ => .nil
  | [], x :: xs, vs, h, _, _, _ => by simp at h
  | p :: l, [], vs, h, _, _, _ => by simp at h
  | p :: l, x :: xs, vs, h, rk, rs, rv => by
    rw [List.map_cons] at h
    injection h with h0 h1
    have h := And.intro h0 h1
    rw [List.map_cons] at rs
    rw [List.map_cons, List.map_cons] at rk
    obtain ⟨v, vr, rfl, r1, r2⟩ := rs.uncons
    obtain ⟨q, qr, e, k1, k2⟩ := rk.uncons
    cases e
    rw [List.map_cons] at rv
    cases rv with
    | cons a b => exact .cons ⟨h.1, ⟨v, r1, a⟩, by rw [h.1]; exact k1⟩ (drel_of h.2 k2 r2 b)
theorem drel_to {l : List (NestedKey × T)} {xs : List (NestedKey × Addr × Value)} (h : DRel K Z l xs) : xs.map (·.1) = l.map (·.1) ∧ Reps K Z (l.map fun x => keyT x.1) (xs.map fun x => V.ref x.2.1) ∧ ∃ vs, Reps K Z (l.map (·.2)) vs ∧ Vals vs (xs.map (·.2.2)) := by
  unfold DRel at h
  induction h with
  | nil => exact ⟨rfl, .nil, [], .nil, .nil⟩
  | cons a t ih =>
    obtain ⟨e, ⟨v, r, rv⟩, rk⟩ := a
    obtain ⟨i1, i2, vs, i3, i4⟩ := ih
    refine ⟨by simp [e, i1], ?_, v :: vs, .cons r i3, .cons rv i4⟩
    simp only [List.map_cons]
    exact .cons (by rw [← e]; exact rk) i2
theorem DRel.length {l : List (NestedKey × T)} {xs : List (NestedKey × Addr × Value)} (h : DRel K Z l xs) : l.length = xs.length := Paired.length h
theorem DRel.get {l : List (NestedKey × T)} {xs : List (NestedKey × Addr × Value)} (h : DRel K Z l xs) (k : NestedKey) : (∀ t, getN l k = some t → ∃ p v, atKey xs k = some p ∧ Rep K Z t v ∧ RelV v p.2) ∧ (getN l k).isSome = (atKey xs k).isSome := by
  unfold DRel at h
  induction h with
  | nil => exact ⟨fun t e => by simp [getN] at e, rfl⟩
  | @cons p x ps xs a t ih =>
    obtain ⟨e, ⟨v, r, rv⟩, _⟩ := a
    by_cases hk : p.1 = k
    · have hx : x.1 = k := e.trans hk
      have g1 : getN (p :: ps) k = some p.2 := by simp [getN, List.find?_cons, hk]
      have g2 : atKey (x :: xs) k = some x.2 := by simp [atKey, List.find?_cons, hx]
      rw [g1, g2]
      exact ⟨fun t q => ⟨x.2, v, rfl, by rw [← Option.some.inj q]; exact r, rv⟩, rfl⟩
    · have hx : ¬ x.1 = k := fun z => hk (e.symm.trans z)
      have g1 : getN (p :: ps) k = getN ps k := by simp [getN, List.find?_cons, hk]
      have g2 : atKey (x :: xs) k = atKey xs k := by simp [atKey, List.find?_cons, hx]
      rw [g1, g2]
      exact ih
theorem DRel.put {l : List (NestedKey × T)} {xs : List (NestedKey × Addr × Value)} (h : DRel K Z l xs) {k : NestedKey} {b : Addr} {t : T} {v : V} {u : Value} (rk : Rep K Z (keyT k) (.ref b)) (r : Rep K Z t v) (rv : RelV v u) : DRel K Z (putN l k t) (storedH xs k b u) := by
  unfold putN storedH
  rw [(h.get k).2]
  rcases Classical.em ((atKey xs k).isSome = true) with q | q
  · rw [if_pos q, if_pos q]
    clear q
    unfold DRel at h ⊢
    induction h with
    | nil => exact .nil
    | @cons p x ps xs a tt ih =>
      simp only [List.map_cons]
      refine .cons ?_ ih
      obtain ⟨e, hv, hk⟩ := a
      unfold putAt
      by_cases hq : p.1 = k
      · rw [if_pos hq, if_pos (e.trans hq)]; exact ⟨e, ⟨v, r, rv⟩, hk⟩
      · rw [if_neg hq, if_neg (fun z => hq (e.symm.trans z))]; exact ⟨e, hv, hk⟩
  · rw [if_neg q, if_neg q]
    unfold DRel at h ⊢
    exact Paired.snoc h ⟨rfl, ⟨v, r, rv⟩, rk⟩
theorem length_putN {κ : Type} [DecidableEq κ] {l : List (κ × T)} {k : κ} {t : T} : (putN l k t).length ≤ l.length + 1 := by
  unfold putN
  split
  · rw [List.length_map]; omega
  · simp
theorem depth_putN {l : List (NestedKey × T)} {k : NestedKey} {t : T} (h : ∀ p ∈ l, p.1.depth ≤ 8) (hk : k.depth ≤ 8) : ∀ p ∈ putN l k t, p.1.depth ≤ 8 := by
  unfold putN
  split
  · intro p hp
    have ⟨q, hq, e⟩ := List.mem_map.mp hp
    rw [← e]
    split
    · exact h q hq
    · exact h q hq
  · intro p hp
    exact (List.mem_append.mp hp).elim (h p) fun z => by rw [List.mem_singleton.mp z]; exact hk
end
section
variable {X : Cx} {pins : List (Addr × Obj)} {σ : St} {H Z : Hp} {s : Shared} {K : PySem.W.Frag} {w : World} {a : Addr} {o : HO} {l : List (NestedKey × T)}
/-- the object behind -/
theorem dn_open (I : Inv X pins σ H s) (zh : Same Z H) (hK : X.K = K) (hw : X.w = w) (h : Rd H a o) (r : ORep K Z a o (dN w l)) :
    (a == sysModules) = false ∧ l.length ≤ sizeLine ∧ (∀ p ∈ l, p.1.depth ≤ 8) ∧ ∃ xs, s.heap.DictOfH (nestedKind X.prog X.w) a xs ∧ DRel K Z l xs := by
  unfold dN ORep at r
  cases o with
  | ext ψ =>
    obtain ⟨qs, vs, rfl, r1, r2⟩ := r
    obtain ⟨p, _, _⟩ := (show ObjOk X.prog X.w H s.heap a (.ext (dnP w (l.map (·.1)) a qs vs)) from rd_of I.hok h)
    obtain ⟨h1, h2, h3, xs, h4, rfl, h5, ob, es, ep, e1, e2, e3, e4, e5⟩ := p
    have dr := drel_of h4 r1 r2 h5
    refine ⟨h1, by simpa using h2, fun p hp => h3 p.1 (List.mem_map_of_mem hp), xs, ⟨ob, es, ep, e1, e2, e3, ?_, ?_, e5⟩, dr⟩
    · rw [e4, ← hw]; rfl
    · intro x hx
      have all : ∀ {l : List (NestedKey × T)} {xs : List (NestedKey × Addr × Value)}, DRel K Z l xs → (∀ p ∈ l, p.1.depth ≤ 8) → ∀ x ∈ xs, (nestedKind X.prog X.w).is s.heap x.1 x.2.1 := by
        intro l xs d
        unfold DRel at d
        induction d with
        | nil => intro _ x hx; exact nomatch hx
        | @cons p x ps xs a t ih =>
          intro hd y hy
          match List.mem_cons.mp hy with
          | .inl e => subst e; exact ⟨key_is I zh hK _ (keyT_self _) a.2.2 rfl, by rw [a.1]; exact hd p List.mem_cons_self⟩
          | .inr hy => exact ih (fun p hp => hd p (List.mem_cons_of_mem _ hp)) y hy
      exact all dr (fun p hp => h3 p.1 (List.mem_map_of_mem hp)) x hx
  | _ => exact r.elim
/-- an object so made -/
theorem dn_close {P : Program} {h' : Heap} {xs : List (NestedKey × Addr × Value)} (hd : (a == sysModules) = false) (hl : l.length ≤ sizeLine) (hk : ∀ p ∈ l, p.1.depth ≤ 8) (m : h'.DictOfH (nestedKind P w) a xs) (dr : DRel K Z l xs) :
    ∃ o', ORep K Z a o' (dN w l) ∧ Mut (some o') ∧ ∀ H', ObjOk P w H' h' a o' := by
  obtain ⟨e, rk, vs, rs, rv⟩ := drel_to dr
  obtain ⟨ob, es, ep, e1, e2, e3, e4, _, e5⟩ := m
  refine ⟨.ext (dnP w (l.map (·.1)) a (xs.map fun x => V.ref x.2.1) vs), ⟨_, vs, rfl, rk, rs⟩, trivial, fun H' => ⟨⟨hd, by simpa using hl, fun k hk' => ?_, xs, e, rfl, rv, ob, es, ep, e1, e2, e3, e4, e5⟩, ⟨ob, e1⟩, fun h1 h2 p st => ?_⟩⟩
  · obtain ⟨p, hp, rfl⟩ := List.mem_map.mp hk'
    exact hk p hp
  · obtain ⟨p1, p2, p3, ys, p4, p5, p6, ob', es', ep', q1, q2, q3, q4, q5⟩ := p
    exact ⟨p1, p2, p3, ys, p4, p5, p6, ob', es', ep', st _ q1, q2, q3, q4, q5⟩
theorem dn_mut {u : Option HO} (h : u = some o) (r : ORep K Z a o (dN w l)) : Mut u := by
  subst h
  unfold dN ORep at r
  cases o with
  | ext ψ => trivial
  | _ => exact r.elim
/-- a shared one -/
theorem dn_rep (zh : Same Z H) {v : V} (r : Rep K Z (dN w l) v) : ∃ a o, v = .ref a ∧ Rd H a o ∧ ORep K Z a o (dN w l) := by
  obtain ⟨a, ob, qs, vs, rfl, h, h2, h3⟩ := rep_dct.mp r
  exact ⟨a, .ext (dnP w (l.map (·.1)) a qs vs), rfl, .inr ⟨ob, zh _ _ h⟩, ⟨qs, vs, rfl, h2, h3⟩⟩
end
end Cw
end L2

set_option Elab.async false
set_option linter.all false
set_option maxRecDepth 100000
set_option maxHeartbeats 2000000
namespace L2
namespace Cw
open PySem PySem.Spec PyProof.Rows
section
variable {K : PySem.W.Frag} {Z Z' H H' : Hp} {σ σ' : St} {E E' E1 E2 E3 : List Ent} {S : SS} {o : Oc}
/-! ### running a judgement -/
theorem EG.run {e : Expr} {t : T} {W : WX} {X : Cx} {pins : List (Addr × Obj)} {s : Shared} {Post : Value → Shared → Prop} (h : EG S E e t E1) (hX : S.Has W X) (st : StOk S.K Z H σ E) (I : Inv X pins σ H s)
    (k : ∀ u s1 v H1 Z1, Inv X pins σ H1 s1 → RelV v u → Go S E σ Z H E1 σ Z1 H1 → Rep S.K Z1 t v → Post u s1) : wpAny (model X.prog X.w) X.A (eval e X.env) Post X.xe s :=
  thn (h W Z H σ (fun v H1 => ∃ Z1, Go S E σ Z H E1 σ Z1 H1 ∧ Rep S.K Z1 t v) st (fun v H1 Z1 g r => ⟨Z1, g, r⟩) X hX pins s I) fun u s1 ⟨v, H1, I1, rv, Z1, g, r⟩ => k u s1 v H1 Z1 I1 rv g r
/-- a thing read where it stands: shared, or ours -/
def At (K : PySem.W.Frag) (Z H : Hp) (t : T) (v : V) : Prop := Rep K Z t v ∨ ∃ a ob, v = .ref a ∧ H a = some ob ∧ Z a = none ∧ ORep K Z a ob t
/-- e is read from E on; at E2 it stands for t -/
def DA (S : SS) (E : List Ent) (e : Expr) (E1 E2 : List Ent) (t : T) : Prop :=
  ∀ (W : WX) (Z H : Hp) (σ : St) (Q : VK), StOk S.K Z H σ E → (∀ v H1 Z1, Go S E σ Z H E1 σ Z1 H1 → (∀ Z2 H2, Go S E1 σ Z1 H1 E2 σ Z2 H2 → At S.K Z2 H2 t v) → Q v H1) → R S W e σ H Q
theorem da_sh {e : Expr} {t : T} (h : EG S E e t E1) : DA S E e E1 E2 t := fun W Z H σ Q st k => h W Z H σ Q st fun v H1 Z1 g r => k v H1 Z1 g fun Z2 H2 g2 => .inl (r.mono g2.step.zz)
theorem da_ow {i : Nat} {x : Str} {p : Pos} {t0 t : T} (v : VarOk S i x) (h : E[i]? = some (.ow t0)) (h2 : E2[i]? = some (.ow t)) : DA S E (.Name x p) E E2 t := fun W Z H σ Q st k => by
  obtain ⟨a, ob, h1, _, _, _⟩ := st.ow i t0 h
  refine R.mk (fun X hX => ?_) (show tVar i σ H Q from ⟨.ref a, h1, k (.ref a) H Z (Go.refl st) fun Z2 H2 g2 => ?_⟩)
  · have hs := hX.sc
    obtain ⟨A, s0, H0, env, outer, stack, ex, pn, xe, rfl⟩ := hX.ex
    exact pe_var v.hN (by rw [hs]; exact v.vis) v.h1 v.h2
  · obtain ⟨b, o2, e1, e2, e3, e4⟩ := g2.st.ow i t h2
    rw [h1] at e1; cases e1
    exact .inr ⟨_, o2, rfl, e2, e3, e4⟩
theorem DA.run {e : Expr} {t : T} {W : WX} {X : Cx} {pins : List (Addr × Obj)} {s : Shared} {Post : Value → Shared → Prop} (h : DA S E e E1 E2 t) (hX : S.Has W X) (st : StOk S.K Z H σ E) (I : Inv X pins σ H s)
    (k : ∀ u s1 v H1 Z1, Inv X pins σ H1 s1 → RelV v u → Go S E σ Z H E1 σ Z1 H1 → (∀ Z2 H2, Go S E1 σ Z1 H1 E2 σ Z2 H2 → At S.K Z2 H2 t v) → Post u s1) : wpAny (model X.prog X.w) X.A (eval e X.env) Post X.xe s :=
  thn (h W Z H σ (fun v H1 => ∃ Z1, Go S E σ Z H E1 σ Z1 H1 ∧ ∀ Z2 H2, Go S E1 σ Z1 H1 E2 σ Z2 H2 → At S.K Z2 H2 t v) st (fun v H1 Z1 g r => ⟨Z1, g, r⟩) X hX pins s I) fun u s1 ⟨v, H1, I1, rv, Z1, g, r⟩ => k u s1 v H1 Z1 I1 rv g r
/-- the dict there -/
theorem At.dn {w : World} {l : List (NestedKey × T)} {v : V} (zh : Same Z H) (h : At K Z H (dN w l) v) : ∃ a ob, v = .ref a ∧ Rd H a ob ∧ ORep K Z a ob (dN w l) := by
  rcases h with h | ⟨a, ob, e1, e2, _, e3⟩
  · exact dn_rep zh h
  · exact ⟨a, ob, e1, .inl e2, e3⟩
/-- how two values are compared, by their expressions -/
def cmps (X : Cx) (op : CmpOp) (a b : Expr) (F : Value → Shared → Prop) : Shared → Prop :=
  wpAny (model X.prog X.w) X.A (eval a X.env) (fun v => wpAny (model X.prog X.w) X.A (eval b X.env) (fun u => wpAny (model X.prog X.w) X.A (compareOp op v u) F X.xe) X.xe) X.xe
/-- comparing -/
def CG (S : SS) (E : List Ent) (op : CmpOp) (a b : Expr) (c : Bool) (E' : List Ent) : Prop :=
  ∀ (W : WX) (Z H : Hp) (σ : St) (Q : VK), StOk S.K Z H σ E → (∀ H' Z', Go S E σ Z H E' σ Z' H' → Q (.bl c) H') → ∀ X, S.Has W X → ∀ pins s, Inv X pins σ H s →
    cmps X op a b (EP X pins σ Q) s
def RC (S : SS) (W : WX) (op : CmpOp) (a b : Expr) : TE := fun σ H Q => ∀ X, S.Has W X → ∀ pins s, Inv X pins σ H s →
    cmps X op a b (EP X pins σ Q) s
theorem SS.Has.pc {W : WX} {X : Cx} (h : S.Has W X) (op : CmpOp) (a b : Expr) : PC X op a b (RC S W op a b) := ⟨fun pins s σ H Q I q => q X h pins s I⟩
theorem eg_c {op : CmpOp} {a b : Expr} {c : Bool} {pos : Pos} (h : CG S E op a b c E1) (hm : behindInMarks op b = false := by with_unfolding_all rfl) : EG S E (.Compare a [op] [b] pos) (.bl c) E1 := fun W Z H σ Q st k =>
  R.mk (t := RC S W op a b) (fun X hX => pe_cmp (hX.pc op a b) hm) (fun X hX pins s I => h W Z H σ Q st (fun H1 Z1 g => k _ _ _ g (rep_bl.mpr rfl)) X hX pins s I)
theorem tt_c {op : CmpOp} {a b : Expr} {c : Bool} {pos : Pos} (h : CG S E op a b c E1) (hm : behindInMarks op b = false := by with_unfolding_all rfl) : TtG S E (.Compare a [op] [b] pos) c E1 := fun W Z H σ Q st k =>
  RT.mk (t := tB (RC S W op a b)) (fun X hX => pt_cmp (hX.pc op a b) hm) (fun X hX pins s I => h W Z H σ _ st (fun H1 Z1 g => ⟨c, rfl, k _ _ g⟩) X hX pins s I)

/-! ### dicts with tuples as keys -/
section
variable {d i : Expr} {l : List (NestedKey × T)} {ks : List NestedKey} {kt t : T} {pos : Pos}
theorem SS.Has.nroom {W : WX} {X : Cx} (h : S.Has W X) : (nestedKind X.prog X.w).room X.A.in1 := by
  show X.A.in1.units + 8 < cLine
  have := h.room.units
  show X.A.units + 1 + 8 < cLine
  omega
theorem eg_getN (hd : DA S E d E1 E2 (dN S.w l)) (hi : EG S E1 i kt E2) (hk : KeyT (.tup ks) kt) (h8 : (NestedKey.tup ks).depth ≤ 8) (hg : getN l (.tup ks) = some t) (hs : NoSl i := by intro _ _; rfl) : EG S E (.Subscript d i pos) t E2 := fun W Z H σ Q st k X hX pins s I => by
  refine subD_of PySem.F.slot_dict_getitem.lookup hs (hd.run hX st I fun u s1 v H1 Z1 I1 rv g1 hat => hi.run hX g1.st I1 fun u2 s2 v2 H2 Z2 I2 rv2 g2 r2 => ?_)
  obtain ⟨a, ob, rfl, hr, ro⟩ := (hat Z2 H2 g2).dn g2.st.zh
  obtain rfl : u = Value.ref a := rv
  obtain ⟨hy, hl, h8', xs, hm, dr⟩ := dn_open I2 g2.st.zh hX.kk hX.hw hr ro
  obtain ⟨p, v', hp, rt, rv'⟩ := (dr.get (.tup ks)).1 t hg
  obtain ⟨ts, hts, _⟩ := (show ∃ ts, (kt = .tup ts ∨ kt = .wtup ts) ∧ KeyTs ks ts from by simpa only [KeyT] using hk)
  have ek : ∃ b, v2 = .ref b := by
    rcases hts with rfl | rfl
    · obtain ⟨b, _, e, _⟩ := rep_tup.mp r2; exact ⟨b, e⟩
    · obtain ⟨b, _, e, _⟩ := rep_wtup.mp r2; exact ⟨b, e⟩
  obtain ⟨b, rfl⟩ := ek
  obtain rfl : u2 = Value.ref b := rv2
  have nk := key_is I2 g2.st.zh hX.kk (.tup ks) hk r2 rfl
  exact ⟨hm.typeIs, wpAny_getItem_heap (knd := nestedKind X.prog X.w) hX.nroom ⟨nk, h8⟩ hm hp ⟨v', H2, I2.tok _, rv', k v' H2 Z2 (g1.trans g2) rt⟩⟩
theorem cg_inN (hi : EG S E i kt E1) (hd : DA S E1 d E2 E2 (dN S.w l)) (hk : KeyT (.tup ks) kt) (h8 : (NestedKey.tup ks).depth ≤ 8) : CG S E .In i d (getN l (.tup ks)).isSome E2 := fun W Z H σ Q st k X hX pins s I => by
  refine hi.run hX st I fun u2 s1 v2 H1 Z1 I1 rv2 g1 r2 => hd.run hX g1.st I1 fun u s2 v H2 Z2 I2 rv g2 hat => ?_
  obtain ⟨a, ob, rfl, hr, ro⟩ := (hat Z2 H2 (Go.refl g2.st)).dn g2.st.zh
  obtain rfl : u = Value.ref a := rv
  obtain ⟨hy, hl, h8', xs, hm, dr⟩ := dn_open I2 g2.st.zh hX.kk hX.hw hr ro
  obtain ⟨ts, hts, _⟩ := (show ∃ ts, (kt = .tup ts ∨ kt = .wtup ts) ∧ KeyTs ks ts from by simpa only [KeyT] using hk)
  have ek : ∃ b, v2 = .ref b := by
    rcases hts with rfl | rfl
    · obtain ⟨b, _, e, _⟩ := rep_tup.mp r2; exact ⟨b, e⟩
    · obtain ⟨b, _, e, _⟩ := rep_wtup.mp r2; exact ⟨b, e⟩
  obtain ⟨b, rfl⟩ := ek
  obtain rfl : u2 = Value.ref b := rv2
  have nk := key_is I2 g2.st.zh hX.kk (.tup ks) hk (r2.mono g2.step.zz) rfl
  refine wpAny_in_heap (knd := nestedKind X.prog X.w) hX.nroom ⟨nk, h8⟩ hy hm ?_
  rw [← (dr.get (.tup ks)).2]
  exact ⟨.bl _, H2, I2.tok _, rfl, k H2 Z2 (g1.trans g2)⟩
theorem cg_ninN (hi : EG S E i kt E1) (hd : DA S E1 d E2 E2 (dN S.w l)) (hk : KeyT (.tup ks) kt) (h8 : (NestedKey.tup ks).depth ≤ 8) : CG S E .NotIn i d (!(getN l (.tup ks)).isSome) E2 := fun W Z H σ Q st k X hX pins s I => by
  refine hi.run hX st I fun u2 s1 v2 H1 Z1 I1 rv2 g1 r2 => hd.run hX g1.st I1 fun u s2 v H2 Z2 I2 rv g2 hat => ?_
  obtain ⟨a, ob, rfl, hr, ro⟩ := (hat Z2 H2 (Go.refl g2.st)).dn g2.st.zh
  obtain rfl : u = Value.ref a := rv
  obtain ⟨hy, hl, h8', xs, hm, dr⟩ := dn_open I2 g2.st.zh hX.kk hX.hw hr ro
  obtain ⟨ts, hts, _⟩ := (show ∃ ts, (kt = .tup ts ∨ kt = .wtup ts) ∧ KeyTs ks ts from by simpa only [KeyT] using hk)
  have ek : ∃ b, v2 = .ref b := by
    rcases hts with rfl | rfl
    · obtain ⟨b, _, e, _⟩ := rep_tup.mp r2; exact ⟨b, e⟩
    · obtain ⟨b, _, e, _⟩ := rep_wtup.mp r2; exact ⟨b, e⟩
  obtain ⟨b, rfl⟩ := ek
  obtain rfl : u2 = Value.ref b := rv2
  have nk := key_is I2 g2.st.zh hX.kk (.tup ks) hk (r2.mono g2.step.zz) rfl
  refine wpAny_notIn_heap (knd := nestedKind X.prog X.w) hX.nroom ⟨nk, h8⟩ hy hm ?_
  rw [← (dr.get (.tup ks)).2]
  exact ⟨.bl _, H2, I2.tok _, rfl, k H2 Z2 (g1.trans g2)⟩
theorem var_run {j : Nat} {x : Str} {p : Pos} {v : V} {W : WX} {X : Cx} {pins : List (Addr × Obj)} {s : Shared} {Post : Value → Shared → Prop} (vo : VarOk S j x) (hX : S.Has W X) (hσ : σ[j]? = some (some v)) (I : Inv X pins σ H s) (k : ∀ u s1, Inv X pins σ H s1 → RelV v u → Post u s1) :
    wpAny (model X.prog X.w) X.A (eval (.Name x p) X.env) Post X.xe s := by
  have hs := hX.sc
  obtain ⟨A, s0, H0, env, outer, stack, ex, pn, xe, rfl⟩ := hX.ex
  exact thn ((pe_var (pos := p) vo.hN (by rw [hs]; exact vo.vis) vo.h1 vo.h2).run pins s σ H (fun v' H' => v' = v ∧ H' = H) I ⟨v, hσ, rfl, rfl⟩) fun u s1 ⟨v', H', I', r, e1, e2⟩ => by subst e1 e2; exact k u s1 I' r
/-- an owned thing is written -/
theorem Go.wrote {j : Nat} {a : Addr} {o' : HO} {t t' : T} (st : StOk S.K Z H σ E) (hj : E[j]? = some (.ow t)) (ha : σ[j]? = some (some (.ref a))) (r : ORep S.K Z a o' t') : Go S E σ Z H (E.set j (.ow t')) σ Z (upd H a o') := by
  obtain ⟨b, ob, h1, h2, h3, h4⟩ := st.ow j t hj
  rw [ha] at h1; cases h1
  have oa : Own σ E a := ⟨j, t, hj, ha⟩
  have hlt : j < E.length := (List.getElem?_eq_some_iff.mp hj).1
  have own : ∀ {l u}, (E.set j (.ow t'))[l]? = some (.ow u) → (l = j ∧ u = t') ∨ (l ≠ j ∧ E[l]? = some (.ow u)) := fun {l u} h => by
    by_cases hl : j = l
    · subst hl; rw [List.getElem?_set_self hlt] at h; cases h; exact .inl ⟨rfl, rfl⟩
    · rw [List.getElem?_set_ne hl] at h; exact .inr ⟨fun e => hl e.symm, h⟩
  refine ⟨⟨Same.refl _, fun b u e nb => ?_, fun b u e => .inl e⟩, ⟨fun b u e => ?_, st.nt, by rw [List.length_set]; exact st.len, fun l u h => ?_, fun l u h => ?_, fun l m b u v h1 h2 h3 h4 => ?_⟩, fun b ⟨l, u, h1, h2⟩ => ?_, fun _ _ => rfl⟩
  · rw [upd_ne (fun z => nb (by rw [z]; exact oa))]; exact e
  · rw [upd_ne (fun z => by rw [z, h3] at e; cases e)]; exact st.zh b u e
  · by_cases hl : j = l
    · subst hl; rw [List.getElem?_set_self hlt] at h; cases h
    · rw [List.getElem?_set_ne hl] at h; exact st.sh l u h
  · rcases own h with ⟨rfl, rfl⟩ | ⟨hl, h⟩
    · exact ⟨a, o', ha, upd_same, h3, r⟩
    · obtain ⟨b, ob, e1, e2, e3, e4⟩ := st.ow l u h
      have ne : b ≠ a := fun z => hl (st.ds l j a u t h hj (by rw [← z]; exact e1) ha)
      exact ⟨b, ob, e1, by rw [upd_ne ne]; exact e2, e3, e4⟩
  · have o1 : ∃ u, E[l]? = some (.ow u) := by
      rcases own h1 with ⟨rfl, _⟩ | ⟨_, h⟩
      · exact ⟨t, hj⟩
      · exact ⟨_, h⟩
    have o2 : ∃ u, E[m]? = some (.ow u) := by
      rcases own h2 with ⟨rfl, _⟩ | ⟨_, h⟩
      · exact ⟨t, hj⟩
      · exact ⟨_, h⟩
    obtain ⟨u1, o1⟩ := o1
    obtain ⟨u2, o2⟩ := o2
    exact st.ds l m b u1 u2 o1 o2 h3 h4
  · rcases own h1 with ⟨rfl, _⟩ | ⟨_, h⟩
    · exact .inl ⟨l, t, hj, h2⟩
    · exact .inl ⟨l, u, h, h2⟩
/-- x[key] = value, x ours -/
theorem sg_putN {j : Nat} {x : Str} {p pos' : Pos} {value : Expr} {t0 : T} (hv : EG S E value t E1) (vo : VarOk S j x) (h0 : E1[j]? = some (.ow t0)) (hi : EG S E1 i (keyT (.tup ks)) E2) (h2 : E2[j]? = some (.ow (dN S.w l))) (h8 : (NestedKey.tup ks).depth ≤ 8) (hl : l.length < 16777216)
    (hs : ∀ env, swapsWith value (some (.Subscript (.Name x p) i pos')) pos.line env = pure false := by intro _; rfl) : SG S E (.Assign [.Subscript (.Name x p) i pos'] value pos) (.nx (E2.set j (.ow (dN S.w (putN l (.tup ks) t))))) := fun W Z H σ D st k X hX pins s I => by
  refine wpAny_Assign_Subscript (hv.run hX st I fun r s1 v H1 Z1 I1 rv g1 rt => ?_) (hs _)
  obtain ⟨a, ob0, hσ, _, _, _⟩ := g1.st.ow j _ h0
  refine var_run vo hX hσ I1 fun u s2 I2 ru => hi.run hX g1.st I2 fun iv s3 y H3 Z3 I3 ry g3 rk => ?_
  cases show u = .ref a from ru
  obtain ⟨a', ob, hσ', ha, hz, ro⟩ := g3.st.ow j _ h2
  rw [hσ] at hσ'; cases hσ'
  obtain ⟨hy, hz', h8', xs, hm, dr⟩ := dn_open I3 g3.st.zh hX.kk hX.hw (.inl ha) ro
  obtain ⟨b, bs, rfl, _⟩ := rep_tup.mp (show Rep S.K Z3 (.tup (keyTs ks)) y from rk)
  obtain rfl : iv = Value.ref b := ry
  have nk := key_is I3 g3.st.zh hX.kk (.tup ks) (keyT_self _) rk rfl
  have hsz : xs.length ≤ sizeLine := by rw [← dr.length]; exact hz'
  refine wpAny_setItem_heap (knd := nestedKind X.prog X.w) (hsz := hsz) hX.nroom ⟨nk, h8⟩ hm fun h' hm' sb => ?_
  have rt3 := rt.mono g3.step.zz
  have dr' := dr.put rk rt3 rv
  obtain ⟨o', ro', mu', new⟩ := dn_close (K := S.K) (Z := Z3) (P := X.prog) hy (by rw [sizeLine_eq]; exact Nat.le_trans length_putN hl) (depth_putN h8' h8) hm' dr'
  have he : ∃ q, h'.get? a = some q := by obtain ⟨q, _, _, e, _⟩ := hm'; exact ⟨q, e⟩
  refine ⟨σ, upd H3 a o', d_write I3 (dn_mut ha ro) sb he (new _), ?_⟩
  rw [hX.hw] at ro'
  exact k _ _ _ (g1.trans (g3.trans (Go.wrote g3.st h2 hσ ro')))
end
end
end Cw
end L2

set_option Elab.async false
set_option linter.all false
set_option maxRecDepth 100000
set_option maxHeartbeats 2000000
namespace L2
namespace Cw
open PySem PySem.Spec PyProof.Rows
/-! ### what is made anew, ours alone -/
def EO (S : SS) (E : List Ent) (e : Expr) (t : T) (E1 : List Ent) : Prop :=
  ∀ (W : WX) (Z H : Hp) (σ : St) (Q : VK), StOk S.K Z H σ E → (∀ D o H1 Z1, Beside S.K (Own σ E) Z H D o E1 σ Z1 H1 → (H D = none ∨ Own σ E D) → ORep S.K Z1 D o t → Q (.ref D) H1) → R S W e σ H Q
section
variable {K : PySem.W.Frag} {Z Z' H H' Z1 H1 Z2 H2 : Hp} {σ σ' : St} {E E' E1 E2 E3 : List Ent} {S : SS} {o : HO} {D : Addr} {B : Addr → Prop}
theorem Beside.pre (g : Go S E σ Z H E1 σ Z1 H1) (b : Beside S.K (Own σ E1) Z1 H1 D o E2 σ' Z2 H2) (hD : H1 D = none ∨ Own σ E1 D) : Beside S.K (Own σ E) Z H D o E2 σ' Z2 H2 ∧ (H D = none ∨ Own σ E D) := by
  refine ⟨⟨b.st, ?_, fun c h => ?_, b.nd, b.zd, b.hd⟩, ?_⟩
  · refine (g.step.mono (fun c h => .inl h)).trans b.step fun c h => ?_
    rcases h with h | h
    · rcases g.ow c h with z | z
      · exact .inl (.inl z)
      · exact .inr z
    · exact .inl (.inr h)
  · rcases b.ow c h with z | z
    · exact g.ow c z
    · exact (g.step.there z).symm
  · rcases hD with z | z
    · exact g.step.there z
    · exact (g.ow D z).symm
/-- the new thing set beside: a step of ours -/
theorem Beside.drop (b : Beside K B Z H D o E1 σ Z1 H1) (hD : H D = none ∨ B D) : Step B Z H Z1 H1 := by
  refine ⟨b.step.zz, fun c u e nb => b.step.keep c u e fun z => ?_, fun c u e => ?_⟩
  · rcases z with z | z
    · exact nb z
    · subst z; rcases hD with y | y
      · rw [e] at y; cases y
      · exact nb y
  · rcases b.step.new c u e with z | z | z
    · exact .inl z
    · exact .inr (.inl z)
    · rcases z with z | z
      · exact .inr (.inr z)
      · subst z; exact .inr hD
/-- what stands may be told otherwise, the machine's state as it is -/
theorem R.post {e : Expr} {W : WX} {Q Q' : VK} (h : R S W e σ H Q') (k : ∀ X, S.Has W X → ∀ (pins : List (Addr × Obj)) (s : Shared) (v : V) (H' : Hp), Inv X pins σ H' s → Q' v H' → ∃ H2, Inv X pins σ H2 s ∧ Q v H2) : R S W e σ H Q := fun X hX pins s I =>
  thn (h X hX pins s I) fun u s1 ⟨v, H1, I1, r, q⟩ => by
    obtain ⟨H2, I2, q2⟩ := k X hX pins s1 v H1 I1 q
    exact ⟨v, H2, I2, r, q2⟩
theorem upd_kept {H : Hp} {o : HO} {a : Addr} (h : H a = some o) : upd H a o = H := by
  funext b
  by_cases hb : b = a
  · subst hb; rw [upd_same, h]
  · rw [upd_ne hb]
/-- closed, where it is a dict -/
theorem inv_shut {X : Cx} {pins : List (Addr × Obj)} {s : Shared} {t : T} (I : Inv X pins σ H s) (h : H D = some o) (r : ORep K Z D o t) : ∃ od, Inv X pins σ (upd H D (shut t od o)) s := by
  unfold shut
  cases d : isD t with
  | true => exact I.lock h (r.mut d)
  | false => exact ⟨default, by rw [if_neg (by decide), upd_kept h]; exact I⟩
/-- frozen -/
theorem Beside.fz {t : T} {od : Obj} (b0 : Beside S.K (Own σ E) Z H D o E1 σ Z1 H1) (hD : H D = none ∨ Own σ E D) (r : ORep S.K Z1 D o t) : Go S E σ Z H E1 σ (upd Z1 D (shut t od o)) (upd H1 D (shut t od o)) ∧ Rep S.K (upd Z1 D (shut t od o)) t (.ref D) := by
  have b := b0.write (o' := shut t od o)
  have zz : Same Z1 (upd Z1 D (shut t od o)) := fun c u e => by rw [upd_ne (fun z => by subst z; rw [b.zd] at e; cases e)]; exact e
  have s0 := b.drop hD
  refine ⟨⟨⟨s0.zz.trans zz, s0.keep, fun c u e => ?_⟩, ⟨fun c u e => ?_, fun c ps e => ?_, b.st.len, fun i t h => ?_, fun i t h => ?_, b.st.ds⟩, fun c h => b.ow c h, fun _ _ => rfl⟩, (r.mono zz).rep upd_same⟩
  · by_cases hc : c = D
    · subst hc; exact .inr hD
    · rw [upd_ne hc] at e; exact s0.new c u e
  · by_cases hc : c = D
    · subst hc; rw [upd_same] at e; rw [← e]; exact b.hd
    · rw [upd_ne hc] at e; exact b.st.zh c u e
  · by_cases hc : c = D
    · subst hc; rw [upd_same] at e; exact shut_notbl r.notbl ps (Option.some.inj e)
    · rw [upd_ne hc] at e; exact b.st.nt c ps e
  · obtain ⟨v, h1, h2⟩ := b.st.sh i t h
    exact ⟨v, h1, h2.mono zz⟩
  · obtain ⟨a, u, h1, h2, h3, h4⟩ := b.st.ow i t h
    exact ⟨a, u, h1, h2, by rw [upd_ne (fun z => b.nd ⟨i, t, h, by rw [← z]; exact h1⟩)]; exact h3, h4.mono zz⟩
theorem eg_o {e : Expr} {t : T} (h : EO S E e t E1) : EG S E e t E1 := fun W Z H σ Q st k =>
  R.post (h W Z H σ (fun v H1 => ∃ D o Z1, v = .ref D ∧ Beside S.K (Own σ E) Z H D o E1 σ Z1 H1 ∧ (H D = none ∨ Own σ E D) ∧ ORep S.K Z1 D o t) st fun D o H1 Z1 b hD r => ⟨D, o, Z1, rfl, b, hD, r⟩) fun X hX pins s v H1 I ⟨D, o, Z1, e, b, hD, r⟩ => by
    subst e
    obtain ⟨od, I'⟩ := inv_shut I b.hd r
    obtain ⟨g, rr⟩ := b.fz (od := od) hD r
    exact ⟨_, I', k _ _ _ g rr⟩
/-- set in a slot -/
theorem Beside.put {i : Nat} {t : T} (b : Beside S.K (Own σ E) Z H D o E1 σ Z1 H1) (hD : H D = none ∨ Own σ E D) (r : ORep S.K Z1 D o t) (hi : i < E1.length) (np : i ∉ S.pin) : Go S E σ Z H (E1.set i (.ow t)) (σ.set i (some (.ref D))) Z1 H1 := by
  have hi' : i < σ.length := by rw [b.st.len]; exact hi
  have out : ∀ {j : Nat} {u : T}, (E1.set i (.ow t))[j]? = some (.ow u) → (j = i ∧ u = t) ∨ (j ≠ i ∧ E1[j]? = some (.ow u)) := fun {j u} h => by
    by_cases hj : i = j
    · subst hj; rw [List.getElem?_set_self hi] at h; cases h; exact .inl ⟨rfl, rfl⟩
    · rw [List.getElem?_set_ne hj] at h; exact .inr ⟨fun e => hj e.symm, h⟩
  have sl : ∀ {j : Nat}, j ≠ i → (σ.set i (some (.ref D)))[j]? = σ[j]? := fun {j} h => by rw [List.getElem?_set_ne (fun e => h e.symm)]
  have nD : ∀ {j : Nat} {u : T}, E1[j]? = some (.ow u) → σ[j]? = some (some (.ref D)) → False := fun h e => b.nd ⟨_, _, h, e⟩
  refine ⟨b.drop hD, ⟨b.st.zh, b.st.nt, by rw [List.length_set, List.length_set]; exact b.st.len, fun j u h => ?_, fun j u h => ?_, fun j m a u v h1 h2 h3 h4 => ?_⟩, fun c ⟨j, u, h1, h2⟩ => ?_, fun j hj => sl fun e => np (by rw [← e]; exact hj)⟩
  · by_cases hj : i = j
    · subst hj; rw [List.getElem?_set_self hi] at h; cases h
    · rw [List.getElem?_set_ne hj] at h; rw [List.getElem?_set_ne hj]; exact b.st.sh j u h
  · rcases out h with ⟨rfl, rfl⟩ | ⟨hj, h⟩
    · exact ⟨D, o, List.getElem?_set_self hi', b.hd, b.zd, r⟩
    · rw [sl hj]; exact b.st.ow j u h
  · rcases out h1 with ⟨rfl, _⟩ | ⟨hj, k1⟩
    · rcases out h2 with ⟨rfl, _⟩ | ⟨hm, k2⟩
      · rfl
      · rw [List.getElem?_set_self hi'] at h3; cases h3
        rw [sl hm] at h4
        exact (nD k2 h4).elim
    · rw [sl hj] at h3
      rcases out h2 with ⟨rfl, _⟩ | ⟨hm, k2⟩
      · rw [List.getElem?_set_self hi'] at h4; cases h4
        exact (nD k1 h3).elim
      · rw [sl hm] at h4
        exact b.st.ds j m a u v k1 k2 h3 h4
  · rcases out h1 with ⟨rfl, _⟩ | ⟨hj, h1⟩
    · rw [List.getElem?_set_self hi'] at h2; cases h2
      exact hD.symm
    · rw [sl hj] at h2; exact b.ow c ⟨j, u, h1, h2⟩
theorem sg_setO {i : Nat} {x : Str} {e : Expr} {t : T} {pos pos' : Pos} (so : StoOk S i x) (h : EO S E e t E1) (hi : i < E1.length) (hs : ∀ env, swapsWith e (some (.Name x pos')) pos.line env = pure false := by intro _; rfl) : SG S E (.Assign [.Name x pos'] e pos) (.nx (E1.set i (.ow t))) := fun W Z H σ Dn s k => by
  refine RSt.mk (t := tAsg (R S W e) (gName i)) (fun X hX => ?_) (h W Z H σ _ s fun D o H1 Z1 b hD r => ?_)
  · have q := hX.sc
    have pe := hX.pe e
    obtain ⟨A, s0, H0, env, outer, stack, ex, pn, xe, rfl⟩ := hX.ex
    exact ps_set so.nd so.hN (by rw [q]; exact so.loc) pe (hs _) (by rw [q]; exact so.hf)
  · exact k _ _ _ (b.put hD r hi so.np)
/-- an owned thing read as a value: from here on it stands still -/
theorem eg_fz {i : Nat} {x : Str} {p : Pos} {t : T} (v : VarOk S i x) (h : E[i]? = some (.ow t)) : EG S E (.Name x p) t (E.set i (.sh t)) := fun W Z H σ Q st k => by
  obtain ⟨a, ob, h1, h2, h3, h4⟩ := st.ow i t h
  have hi : i < E.length := (List.getElem?_eq_some_iff.mp h).1
  refine R.post (Q' := fun v H1 => v = .ref a ∧ H1 = H) (R.mk (fun X hX => ?_) (show tVar i σ H _ from ⟨.ref a, h1, rfl, rfl⟩)) fun X hX pins s v H1 I ⟨e1, e2⟩ => ?_
  · have hs := hX.sc
    obtain ⟨A, s0, H0, env, outer, stack, ex, pn, xe, rfl⟩ := hX.ex
    exact pe_var v.hN (by rw [hs]; exact v.vis) v.h1 v.h2
  · subst e1 e2
    obtain ⟨od, I'⟩ := inv_shut I h2 h4
    have zz : Same Z (upd Z a (shut t od ob)) := fun c u e => by rw [upd_ne (fun z => by subst z; rw [h3] at e; cases e)]; exact e
    refine ⟨_, I', k (.ref a) _ (upd Z a (shut t od ob)) ?_ ((h4.mono zz).rep upd_same)⟩
    have out : ∀ {j : Nat} {u : T}, (E.set i (.sh t))[j]? = some (.ow u) → j ≠ i ∧ E[j]? = some (.ow u) := fun {j u} h => by
      by_cases hj : i = j
      · subst hj; rw [List.getElem?_set_self hi] at h; cases h
      · rw [List.getElem?_set_ne hj] at h; exact ⟨fun e => hj e.symm, h⟩
    refine ⟨⟨zz, fun c u e nb => ?_, fun c u e => ?_⟩, ⟨fun c u e => ?_, fun c ps e => ?_, by rw [List.length_set]; exact st.len, fun j u hj => ?_, fun j u hj => ?_, fun j m b u w h1 h2 h3 h4 => st.ds j m b u w (out h1).2 (out h2).2 h3 h4⟩, fun c ⟨j, u, q1, q2⟩ => .inl ⟨j, u, (out q1).2, q2⟩, fun _ _ => rfl⟩
    · rw [upd_ne (fun z => nb ⟨i, t, h, by rw [z]; exact h1⟩)]; exact e
    · by_cases hc : c = a
      · subst hc; exact .inr (.inr ⟨i, t, h, h1⟩)
      · rw [upd_ne hc] at e; exact .inl e
    · by_cases hc : c = a
      · subst hc; rw [upd_same] at e ⊢; exact e
      · rw [upd_ne hc] at e ⊢; exact st.zh c u e
    · by_cases hc : c = a
      · subst hc; rw [upd_same] at e; exact shut_notbl h4.notbl ps (Option.some.inj e)
      · rw [upd_ne hc] at e; exact st.nt c ps e
    · by_cases hj' : i = j
      · subst hj'; rw [List.getElem?_set_self hi] at hj; cases hj
        exact ⟨_, h1, (h4.mono zz).rep upd_same⟩
      · rw [List.getElem?_set_ne hj'] at hj
        obtain ⟨v', e1, e2⟩ := st.sh j u hj
        exact ⟨v', e1, e2.mono zz⟩
    · obtain ⟨hne, hj⟩ := out hj
      obtain ⟨b, o2, e1, e2, e3, e4⟩ := st.ow j u hj
      have ne : b ≠ a := fun z => hne (st.ds j i a u t hj h (by rw [← z]; exact e1) h1)
      exact ⟨b, o2, e1, by rw [upd_ne ne]; exact e2, by rw [upd_ne ne]; exact e3, e4.mono zz⟩

/-- a call of a built-in class that gives a new thing -/
theorem eo_callTy {e : Expr} {es : List Expr} {ts : List T} {t : T} {x : Str} {id : String} {r : List V → Hp → VK → Prop} {p pos : Pos} (hc : ∀ W X, S.Has W X → CallR X (.type id) r) (hr : ∀ Z H σ E vs (Q : VK), StOk S.K Z H σ E → Reps S.K Z ts vs → (∀ D o, H D = none → ORep S.K Z D o t → Q (.ref D) (upd H D o)) → r vs H Q) (g : GlOk S x) (hm : S.mg x = none) (hv : bootBuiltins x = some (.type id)) (ha : EAs S E (e :: es) ts E1)
    (hn : x ≠ "__name__" := by decide) (he : ∀ env, starEach (e :: es) env = (false, eval e env) :: starEach es env := by intro _; rfl) (hpl : ∀ env, (backTo pos (starEach es env)).any (·.1) = false := by intro _; rfl) : EO S E (.Call (.Name x p) (e :: es) [] pos) t E1 := fun W Z H σ Q st k => by
  refine R.mk (t := tCB r (RA S W (e :: es))) (fun X hX => ?_) (ha W Z H σ _ st fun vs H1 Z1 g1 r1 => hr Z1 H1 σ E1 _ _ g1.st r1 fun D o hD ro => ?_)
  · have gg := g.at hX
    have cc := hc W X hX
    have pa := hX.pa (e :: es)
    obtain ⟨A, s0, H0, env, outer, stack, ex, pn, xe, rfl⟩ := hX.ex
    exact pe_callTy cc gg hm hv pa hn g.h1 (he _) (hpl _)
  · obtain ⟨b, hd⟩ := Beside.pre g1 (Beside.start g1.st hD ro.notbl) (.inl hD)
    exact k D o _ Z1 b hd ro
/-! ### new ones -/
theorem eo_dict0 {pos : Pos} : EO S E (.Dict [] [] pos) (dN S.w []) E := fun W Z H σ Q st k X hX pins s I => by
  have hn : H s.heap.objs.size = none := I.hok.fresh Nat.le.refl
  have new : ObjOk X.prog X.w (upd H s.heap.objs.size (.ext (dnP S.w [] s.heap.objs.size [] []))) (s.heap.push { cls := .type "dict", data := .dict #[] }) s.heap.objs.size (.ext (dnP S.w [] s.heap.objs.size [] [])) := by
    refine ⟨⟨beq_eq_false_iff_ne.mpr (Ne.symm (Nat.ne_of_lt I.big)), Nat.zero_le _, (fun _ h => nomatch h), [], rfl, rfl, .nil, _, #[], 0, Heap.get?_push_size _ rfl, ⟨rfl, rfl, rfl⟩, rfl, rfl, List.nodup_nil⟩, ⟨_, Heap.get?_push_size _ rfl⟩, fun h1 h2 p st => ?_⟩
    obtain ⟨p1, p2, p3, ys, p4, p5, p6, ob', es', ep', q1, q2, q3, q4, q5⟩ := p
    exact ⟨p1, p2, p3, ys, p4, p5, p6, ob', es', ep', st _ q1, q2, q3, q4, q5⟩
  refine wpAny_Dict_empty ⟨.ref s.heap.objs.size, _, I.laid (a := s.heap.objs.size) (t' := s.toks) (fun _ _ q => Heap.get?_push_of_some _ q) (Nat.le_refl _) new, rfl, ?_⟩
  exact k _ _ _ _ (Beside.start st hn (by intro ps q; cases q)) (.inl hn) ⟨[], [], rfl, .nil, .nil⟩
theorem eo_lst {es : List Expr} {ts : List T} {pos : Pos} (h : EAs S E es ts E1) (hl : ts.length ≤ 16777216) : EO S E (.List es pos) (.lst ts) E1 := fun W Z H σ Q st k =>
  R.mk (t := tLst (RA S W es)) (fun X hX => pe_lst (hX.pa es)) (h W Z H σ _ st fun vs H1 Z1 g1 r1 => ⟨by rw [r1.length, sizeLine_eq]; exact hl, fun p hp => by
    obtain ⟨b, hD⟩ := (Beside.start (o := .lst vs) g1.st hp (by intro ps q; cases q)).pre g1 (.inl hp)
    exact k _ _ _ _ b hD r1⟩)
theorem eo_dictK0 {pos : Pos} : EO S E (.Dict [] [] pos) (.dicK [] []) E := fun W Z H σ Q st k =>
  R.mk (t := tDNewK) (fun X hX => pe_dnewK) (fun p hp => k _ _ _ _ (Beside.start (o := .dK []) st hp (by intro ps q; cases q)) (.inl hp) ⟨rfl, .nil⟩)
end
end Cw
end L2

set_option Elab.async false
set_option linter.all false
set_option maxRecDepth 100000
namespace L2.Cw
open PySem PySem.Spec PyProof.Rows PySem.W
/-- keys of a dict that stands locked, told by its object and what its keys are; nothing is said of how they are made -/
def ItR (d : Addr) (ob : Obj) (u : HO) (n : Nat) (ks : Nat → Option V) : It where
  go i H := H d = some (.frz ob u) ∧ i < n
  yld i H x H' := H' = H ∧ ks i = some x
  stop i H := H d = some (.frz ob u) ∧ i = n
/-- a walk that the library knows (Goes over the raw dict) serves as a turn of the hand layer: the bridge, for any content of the dict -/
theorem turn_goes {P : Program} {w : World} {K : PySem.W.Frag} {tg : Expr} {d it : Addr} {ob : Obj} {u : HO} {es : Array DictEntry} {ep : Nat} {ks : Nat → Option V} (apart : d ≠ it) (exact : ob.ExactDict) (raw : ob.data = .dict es ep)
    (keys : ∀ i (h : i < es.size), ∃ x, ks i = some x ∧ RelV x es[i].key) : Turn P w K tg (ItR d ob u es.size ks) [it] it (fun i h => h.IsKeyIter it d i es.size ep) := by
  have there : ∀ {Y : Cx} {pins : List (Addr × Obj)} {τ : St} {H : Hp} {s : Shared}, Inv Y pins τ H s → H d = some (.frz ob u) → s.heap.DictRaw d es ep := fun I e => ⟨ob, (I.hok d _ e).1, exact, raw⟩
  constructor
  · exact List.mem_singleton_self it
  · intro i h q b hb
    rw [List.mem_singleton.mp hb]
    obtain ⟨oi, e, _, f⟩ := q
    exact ⟨oi, e, fun v z => nomatch f.symm.trans z⟩
  · exact fun i h h' q stays => q.at fun oi e => stays it (List.mem_singleton_self it) oi e
  · rintro Y rfl rfl rfl calm i pins s τ H Ex I free q ⟨lock, lt⟩
    have G := Goes.rawKeys (prog := Y.prog) (w := Y.w) (target := tg) (I.ok.hd calm) it d apart es ep
    have fr := free it (List.mem_singleton_self it)
    have back : ∀ {h' : Heap} {tk : Nat}, (∀ b o, b ∉ [it] → s.heap.get? b = some o → h'.get? b = some o) → Inv Y pins τ H { s with heap := h', toks := tk } := fun kept =>
      I.turned (fun b o ne e => kept b o (fun z => ne (List.mem_singleton.mp z)) e) fr.1 fr.2.1 fr.2.2.2.1 fr.2.2.2.2.1 fr.2.2.2.2.2
    obtain ⟨x, hx, rx⟩ := keys i lt
    exact G.goes i s (fun v s2 => ∃ x H', Inv Y pins τ H' s2 ∧ RelV x v ∧ (ItR d ob u es.size ks).yld i H x H' ∧ s2.heap.IsKeyIter it d (i + 1) es.size ep ∧ ∀ b ∈ [it], H' b = none) Ex lt ⟨q, there I lock⟩
      fun v h' tk ⟨_, ev⟩ q' kept _ => ⟨x, H, back kept, by rw [ev]; exact rx, ⟨rfl, hx⟩, q'.1, fun b hb => (free b hb).1⟩
  · rintro Y rfl rfl rfl calm i pins s τ H Ex I free q ⟨lock, rfl⟩
    have fr := free it (List.mem_singleton_self it)
    exact (Goes.rawKeys (prog := Y.prog) (w := Y.w) (target := tg) (I.ok.hd calm) it d apart es ep).stops s (fun s1 => Inv Y pins τ H s1) Ex ⟨q, there I lock⟩
      fun h' tk kept _ => I.turned (fun b o ne e => kept b o (fun z => ne (List.mem_singleton.mp z)) e) fr.1 fr.2.1 fr.2.2.2.1 fr.2.2.2.2.1 fr.2.2.2.2.2
  · exact fun A i s Q Ex q h => wpAny_pyIter_keyiter q h
end L2.Cw

set_option Elab.async false
set_option linter.all false
set_option maxRecDepth 100000
set_option maxHeartbeats 2000000
namespace L2
namespace Cw
open PySem PySem.Spec PyProof.Rows
/-! ### instances -/
def getF (fs : List Str) (ts : List T) (f : Str) : Option T := (fs.zip ts).lookup f
section
variable {K : PySem.W.Frag} {Z Z' H H' Z1 H1 Z2 H2 : Hp} {σ σ' : St} {E E' E1 E2 E3 : List Ent} {S : SS} {o : HO} {D : Addr} {B : Addr → Prop} {C : Addr} {fs : List Str} {ts us : List T} {f m : Str} {t : T}
theorem getF_reps : ∀ {fv : List (Str × V)} {ts : List T}, Reps K Z ts (fv.map Prod.snd) → ((fv.map Prod.fst).zip ts).lookup f = some t → ∃ v, fv.lookup f = some v ∧ Rep K Z t v
  | [], _, _, e => by simp at e
  | (g, x) :: fv, [], h, _ => by have := h.unnil; simp at this
  | (g, x) :: fv, u :: ts, h, e => by
    obtain ⟨v, r, q, h1, h2⟩ := h.uncons
    simp only [List.map_cons, List.cons.injEq] at q
    obtain ⟨rfl, rfl⟩ := q
    simp only [List.map_cons, List.zip_cons_cons, List.lookup_cons] at e ⊢
    cases hb : f == g with
    | true => rw [hb] at e; simp only [Option.some.injEq] at e; subst e; exact ⟨x, rfl, h1⟩
    | false => rw [hb] at e; exact getF_reps h2 e
theorem At.ins {v : V} (zh : Same Z H) (h : At K Z H (.ins C fs ts) v) : ∃ a dx fv, v = .ref a ∧ H a = some (.ins C dx fv) ∧ fv.map Prod.fst = fs ∧ Reps K Z ts (fv.map Prod.snd) := by
  rcases h with h | ⟨a, ob, e1, e2, _, e3⟩
  · obtain ⟨a, dx, fv, h1, h2, h3, h4⟩ := rep_ins.mp h
    exact ⟨a, dx, fv, h1, zh _ _ h2, h3, h4⟩
  · cases ob <;> try exact e3.elim
    obtain ⟨rfl, h2, h3⟩ := e3
    exact ⟨a, _, _, e1, e2, h2, h3⟩
/-- o.f -/
theorem eg_fld {e : Expr} {pos : Pos} (c : Cls S.K C) (n : NoAttr S.K C f) (hd : DA S E e E1 E1 (.ins C fs ts)) (hf : getF fs ts f = some t) (hb : ∀ env, attributeBase e f env (eval e env) = eval e env := by intro _; rfl) : EG S E (.Attribute e f pos) t E1 := fun W Z H σ Q st k => by
  refine R.mk (t := tFld S.K (R S W e) f) (fun X hX => by rw [← hX.kk]; exact pe_fld (hX.pe e) (hb _)) (hd W Z H σ _ st fun v H1 Z1 g hat => ?_)
  obtain ⟨a, dx, fv, rfl, e2, e3, e4⟩ := (hat Z1 H1 (Go.refl g.st)).ins g.st.zh
  subst e3
  obtain ⟨u, hu, ru⟩ := getF_reps e4 hf
  exact ⟨a, C, dx, fv, u, rfl, e2, c, n, hu, k u H1 Z1 g ru⟩
theorem putF_new {y : V} : ∀ {fv : List (Str × V)}, f ∉ fv.map Prod.fst → putF f y fv = fv ++ [(f, y)]
  | [], _ => rfl
  | (g, x) :: fv, h => by
    simp only [List.map_cons, List.mem_cons, not_or] at h
    show (if g = f then (g, y) :: fv else (g, x) :: putF f y fv) = _
    rw [if_neg (fun z => h.1 z.symm), putF_new h.2]
    rfl
/-- self.f = e, a new field -/
theorem sg_fld {j : Nat} {x : Str} {p pos pos' : Pos} {value : Expr} (c : Cls S.K C) (n : NoAttr S.K C f) (hv : EG S E value t E1) (vo : VarOk S j x) (hj : E1[j]? = some (.ow (.ins C fs ts))) (hf : f ∉ fs) (hl : fs.length < 1000)
    (hs : ∀ env, swapsWith value (some (.Attribute (.Name x p) f pos')) pos.line env = pure false := by intro _; rfl) : SG S E (.Assign [.Attribute (.Name x p) f pos'] value pos) (.nx (E1.set j (.ow (.ins C (fs ++ [f]) (ts ++ [t]))))) := fun W Z H σ D st k => by
  refine RSt.mk (t := sFld S.K (tVar j) (R S W value) f) (fun X hX => ?_) (hv W Z H σ _ st fun v H1 Z1 g1 r1 => ?_)
  · have hsc := hX.sc
    have pe := hX.pe value
    have hK := hX.kk
    rw [← hK]
    obtain ⟨A, s0, H0, env, outer, stack, ex, pn, xe, rfl⟩ := hX.ex
    exact ps_fld (pe_var vo.hN (by rw [hsc]; exact vo.vis) vo.h1 vo.h2) pe (hs _)
  · obtain ⟨a, ob, h1, h2, h3, h4⟩ := g1.st.ow j _ hj
    cases ob <;> try exact h4.elim
    rename_i C' dx fv
    obtain ⟨rfl, e1, e2⟩ := h4
    subst e1
    refine ⟨.ref a, h1, a, _, dx, fv, rfl, h2, c, n, by rw [List.length_map] at hl; exact hl, k _ _ _ (g1.trans (Go.wrote g1.st hj h1 ?_))⟩
    rw [putF_new hf]
    refine ⟨rfl, by rw [List.map_append]; rfl, ?_⟩
    rw [List.map_append]
    exact e2.append (.cons r1 .nil)
/-- what __init__ promises: a new instance gets these fields -/
def Inits (P : Program) (w : World) (K : PySem.W.Frag) (mg : Str → Option Value) (base : Heap) (k : Nat) (f : Addr) (fd : FuncData) (ps : List Str) (C : Addr) (ts : List T) (fs : List Str) (us : List T) : Prop :=
  FnOk P w K mg base (L2.CX P w) k f fd ps (spOf K (.ow (.ins C [] []) :: ts.map Ent.sh) (.ret .non (.ow (.ins C fs us) :: ts.map Ent.sh)))
/-- .. or refuses -/
def InitErrs (P : Program) (w : World) (K : PySem.W.Frag) (mg : Str → Option Value) (base : Heap) (k : Nat) (f : Addr) (fd : FuncData) (ps : List Str) (C : Addr) (ts : List T) (X : Addr) : Prop :=
  ∃ as', FnOk P w K mg base (L2.CX P w) k f fd ps (spOf K (.ow (.ins C [] []) :: ts.map Ent.sh) (.exc X as'))
theorem make_st {vs : List V} {x dx : Addr} (st : StOk K Z H σ E) (hx : H x = none) (hdx : H dx = none) (ne : dx ≠ x) (r : Reps K Z ts vs) :
    StOk K Z (upd (upd H dx (.own x)) x (.ins C dx [])) ((V.ref x :: vs).map some) (.ow (.ins C [] []) :: ts.map Ent.sh) := by
  have zx : ∀ b u, Z b = some u → b ≠ x ∧ b ≠ dx := fun b u e => by
    have e' := st.zh _ _ e
    exact ⟨fun z => (by rw [← z, e'] at hx; cases hx), fun z => (by rw [← z, e'] at hdx; cases hdx)⟩
  refine ⟨fun b u e => ?_, st.nt, by simp [r.length], fun i u h => ?_, fun i u h => ?_, fun i j a u w h1 h2 h3 h4 => ?_⟩
  · rw [upd_ne (zx b u e).1, upd_ne (zx b u e).2]; exact st.zh b u e
  · cases i with
    | zero => cases h
    | succ i =>
      simp only [List.getElem?_cons_succ, List.getElem?_map] at h
      cases q : ts[i]? with
      | none => rw [q] at h; cases h
      | some u' =>
        rw [q] at h; cases h
        obtain ⟨v, e1, e2⟩ := r.at q
        exact ⟨v, by simp [e1], e2⟩
  · cases i with
    | zero =>
      cases h
      refine ⟨x, _, rfl, upd_same, ?_, ⟨rfl, rfl, .nil⟩⟩
      cases q : Z x with
      | none => rfl
      | some u => exact absurd rfl (zx x u q).1
    | succ i =>
      simp only [List.getElem?_cons_succ, List.getElem?_map] at h
      cases q : ts[i]? with
      | none => rw [q] at h; cases h
      | some u' => rw [q] at h; cases h
  · have z : ∀ {i : Nat} {u : T}, ((.ow (.ins C [] []) :: ts.map Ent.sh) : List Ent)[i]? = some (.ow u) → i = 0 := fun {i u} h => by
      cases i with
      | zero => rfl
      | succ i =>
        simp only [List.getElem?_cons_succ, List.getElem?_map] at h
        cases q : ts[i]? with
        | none => rw [q] at h; cases h
        | some u' => rw [q] at h; cases h
    rw [z h1, z h2]
theorem make_own {vs : List V} {x c : Addr} {as : T} (h : Own ((V.ref x :: vs).map some) (.ow as :: ts.map Ent.sh) c) : c = x := by
  obtain ⟨i, u, h1, h2⟩ := h
  cases i with
  | zero => cases h2; rfl
  | succ i =>
    simp only [List.getElem?_cons_succ, List.getElem?_map] at h1
    cases q : ts[i]? with
    | none => rw [q] at h1; cases h1
    | some u' => rw [q] at h1; cases h1
theorem make_step {vs : List V} {x dx : Addr} {as' : List Ent} (st : StOk K Z H σ E) (hx : H x = none) (hdx : H dx = none)
    (g : GoA K (.ow (.ins C [] []) :: ts.map Ent.sh) (V.ref x :: vs) Z (upd (upd H dx (.own x)) x (.ins C dx [])) as' Z' H') : Step (fun _ => False) Z H (fun b => if b = x then none else Z' b) H' ∧ (∀ (i : Nat) (u : T), E[i]? = some (Ent.ow u) → ∃ (a : Addr) (ob : HO), σ[i]? = some (some (V.ref a)) ∧ H' a = some ob ∧ (if a = x then none else Z' a) = none ∧ ORep K Z a ob u ∧ a ≠ x) := by
  have hxx : ∀ b u, H b = some u → b ≠ x ∧ b ≠ dx := fun b u e => by
    exact ⟨fun z => (by rw [← z, e] at hx; cases hx), fun z => (by rw [← z, e] at hdx; cases hdx)⟩
  have up : ∀ b u, H b = some u → (upd (upd H dx (.own x)) x (.ins C dx [])) b = some u := fun b u e => by rw [upd_ne (hxx b u e).1, upd_ne (hxx b u e).2]; exact e
  have dn : ∀ b, (upd (upd H dx (.own x)) x (.ins C dx [])) b = none → H b = none := fun b e => by
    cases q : H b with
    | none => rfl
    | some u => rw [up b u q] at e; cases e
  have nx : ∀ b, ¬ b = x → ¬ Own ((V.ref x :: vs).map some) (Ent.ow (T.ins C [] []) :: ts.map Ent.sh) b := fun b h z => h (make_own (as := T.ins C [] []) (ts := ts) z)
  have kp : ∀ b u, H b = some u → H' b = some u := fun b u e => g.step.keep b u (up b u e) (nx b (hxx b u e).1)
  refine ⟨⟨fun b u e => ?_, fun b u e _ => kp b u e, fun b u e => ?_⟩, fun i u h => ?_⟩
  · rw [if_neg (hxx b u (st.zh b u e)).1]; exact g.step.zz b u e
  · by_cases hb : b = x
    · rw [if_pos hb] at e; cases e
    · rw [if_neg hb] at e
      rcases g.step.new b u e with z | z | z
      · exact .inl z
      · exact .inr (.inl (dn b z))
      · exact absurd z (nx b hb)
  · obtain ⟨a, ob, h1, h2, h3, h4⟩ := st.ow i u h
    have na := (hxx a ob h2).1
    refine ⟨a, ob, h1, kp a ob h2, ?_, h4, na⟩
    rw [if_neg na]
    cases q : Z' a with
    | none => rfl
    | some w =>
      rcases g.step.new a w q with z | z | z
      · rw [h3] at z; cases z
      · rw [dn a z] at h2; cases h2
      · exact absurd z (nx a na)
/-- back from __init__: the instance stands still from here on -/
theorem make_back {vs : List V} {x dx : Addr} {as' : List Ent} (st : StOk S.K Z H σ E) (hx : H x = none) (hdx : H dx = none)
    (g : GoA S.K (.ow (.ins C [] []) :: ts.map Ent.sh) (V.ref x :: vs) Z (upd (upd H dx (.own x)) x (.ins C dx [])) (.ow (.ins C fs us) :: as') Z' H') :
    ∃ Z3, Go S E σ Z H E σ Z3 H' ∧ Rep S.K Z3 (.ins C fs us) (.ref x) := by
  obtain ⟨s1, s2⟩ := make_step st hx hdx g
  obtain ⟨a, ob, h1, h2, h3, h4⟩ := g.st.ow 0 _ rfl
  simp only [List.map_cons, List.getElem?_cons_zero, Option.some.injEq, V.ref.injEq] at h1
  subst h1
  have zz : Same Z' (upd Z' x ob) := fun b u e => by rw [upd_ne (fun z => by subst z; rw [h3] at e; cases e)]; exact e
  have zz0 : Same Z (upd Z' x ob) := g.step.zz.trans zz
  refine ⟨upd Z' x ob, ⟨⟨zz0, fun b u e _ => s1.keep b u e id, fun b u e => ?_⟩, ⟨fun b u e => ?_, fun b ps e => ?_, st.len, fun i t h => ?_, fun i t h => ?_, st.ds⟩, fun b h => .inl h, fun _ _ => rfl⟩, (h4.mono zz).rep (od := default) upd_same⟩
  · by_cases hb : b = x
    · subst hb; exact .inr (.inl hx)
    · rw [upd_ne hb] at e
      rcases s1.new b u (by rw [if_neg hb]; exact e) with z | z | z
      · exact .inl z
      · exact .inr (.inl z)
      · exact z.elim
  · by_cases hb : b = x
    · subst hb; rw [upd_same] at e; rw [← e]; exact h2
    · rw [upd_ne hb] at e; exact g.st.zh b u e
  · by_cases hb : b = x
    · subst hb; rw [upd_same] at e; exact h4.notbl ps (Option.some.inj e)
    · rw [upd_ne hb] at e; exact g.st.nt b ps e
  · obtain ⟨v, e1, e2⟩ := st.sh i t h
    exact ⟨v, e1, e2.mono zz0⟩
  · obtain ⟨a, o2, e1, e2, e3, e4, e5⟩ := s2 i t h
    rw [if_neg e5] at e3
    exact ⟨a, o2, e1, e2, by rw [upd_ne e5]; exact e3, e4.mono zz0⟩
/-- a call of a method, told by its parts -/
def MCall (ob : Expr) (m : Str) (apos : Pos) (es : List Expr) (pos : Pos) : Prop := ∀ env, ∃ pl : Sem Bool, eval (.Call (.Attribute ob m apos) es [] pos) env = (eval ob env >>= fun q => standAt apos.atName >>= fun _ => holding [q] (getMethod q m pl) >>= fun z => callWith pos z.1 z.2 (backTo pos (starEach es env)) (backToKw pos (keywordEach [] env)))
section
variable {k : Nat} {fa : Addr} {fd : FuncData} {ps : List Str} {x : Str} {p pos apos : Pos} {e : Expr} {es : List Expr}
/-- C(args) -/
theorem eg_make (M : Mk S.K C fa) (g : GlOk S x) (hm : S.mg x = some (.ref C)) (hb : Binds S.K fd ps []) (F : Inits S.P S.w S.K S.mg S.base k fa fd ps C ts fs us) (hk : k + 1 ≤ S.k) (ha : EAs S E (e :: es) ts E1)
    (he : ∀ env, starEach (e :: es) env = (false, eval e env) :: starEach es env := by intro _; rfl) (hpl : ∀ env, (backTo pos (starEach es env)).any (·.1) = false := by intro _; rfl) : EG S E (.Call (.Name x p) (e :: es) [] pos) (.ins C fs us) E1 := fun W Z H σ Q st kq => by
  refine R.mk (t := tMake C (spOf S.K (.ow (.ins C [] []) :: ts.map Ent.sh) (.ret .non (.ow (.ins C fs us) :: ts.map Ent.sh))) [] (fun _ _ _ => False) (RA S W (e :: es))) (fun X hX => ?_) (ha W Z H σ _ st fun vs H1 Z1 g1 r1 x dx hx hdx ne => ?_)
  · have gg := g.at hX
    have pa := hX.pa (e :: es)
    have hr := hX.room.mono hk
    obtain ⟨A, s0, H0, env, outer, stack, ex, pn, xe, rfl⟩ := hX.ex
    exact pe_make (CX := L2.CX S.P S.w) M F hr gg hm hb .nil passLL pa g.h1 (he _) (hpl _)
  · rw [List.append_nil]
    refine ⟨Z1, make_st g1.st hx hdx ne r1, fun v H2 Z2 g2 r2 => ⟨rep_non.mp r2, ?_⟩⟩
    obtain ⟨Z3, g3, r3⟩ := make_back g1.st hx hdx g2
    exact kq _ H2 Z3 (g1.trans g3) r3
/-- o.m(args) -/
theorem eg_meth {ob : Expr} {t0 : T} (c : Cls S.K C) (hm : Meth S.K C m fa) (hn : m ∉ fs) (hb : Binds S.K fd ps []) (ho : EG S E ob (.ins C fs us) E1) (ha : EAs S E1 (e :: es) ts E2) (F : Gives S.P S.w S.K S.mg S.base k fa fd ps (.ins C fs us :: ts) t0) (hk : k ≤ S.k) (hc : MCall ob m apos (e :: es) pos := by intro _; exact ⟨_, rfl⟩)
    (he : ∀ env, starEach (e :: es) env = (false, eval e env) :: starEach es env := by intro _; rfl) (hpl : ∀ env, (backTo pos (starEach es env)).any (·.1) = false := by intro _; rfl) : EG S E (.Call (.Attribute ob m apos) (e :: es) [] pos) t0 E2 := fun W Z H σ Q st kq => by
  refine R.mk (t := tMeth C m (spOf S.K ((.ins C fs us :: ts).map Ent.sh) (.ret t0 ((.ins C fs us :: ts).map Ent.sh))) [] (fun _ _ _ => False) (R S W ob) (RA S W (e :: es))) (fun X hX => ?_) (ho W Z H σ _ st fun v H1 Z1 g1 r1 => ?_)
  · have po := hX.pe ob
    have pa := hX.pa (e :: es)
    have hr := hX.room.mono hk
    obtain ⟨A, s0, H0, env, outer, stack, ex, pn, xe, rfl⟩ := hX.ex
    obtain ⟨pl, hpl'⟩ := hc env
    exact pe_meth (CX := L2.CX S.P S.w) (pl := pl) po c hm F hr hb .nil passLL pa (he _) (hpl _) hpl'
  · obtain ⟨a, dx, fv, rfl, h2, h3, h4⟩ := rep_ins.mp r1
    refine ⟨a, dx, fv, rfl, g1.st.zh _ _ h2, ?_, ha W Z1 H1 σ _ g1.st fun vs H2 Z2 g2 r2 => ?_⟩
    · cases q : fv.lookup m with
      | none => rfl
      | some w => exact absurd (h3 ▸ List.mem_map_of_mem (f := Prod.fst) (PySem.mem_of_lookup q)) hn
    · rw [List.append_nil]
      have rr : AdsOk S.K Z2 σ ((.ins C fs us :: ts).map AD.va) (.ref a :: vs) := eab_all (.cons (r1.mono g2.step.zz) r2)
      have hst := call_st (dts := []) (ws := []) g2.st rr (fun _ _ _ z => absurd z va_get) (by rw [bos_va]; exact List.nodup_nil) .nil
      rw [ent_va, List.append_nil, List.map_nil, List.append_nil] at hst
      refine ⟨Z2, hst, fun w H3 Z3 g3 r3 => ?_⟩
      have gb := call_back (dts := []) (ws := []) (as' := (T.ins C fs us :: ts).map Ent.sh) g2.st rr (fun _ _ _ z => absurd z va_get) (by rw [bos_va]; exact List.nodup_nil) (by rw [ent_va, List.append_nil, List.map_nil, List.append_nil]; exact g3) (fun _ _ _ z => absurd z va_get)
      rw [updE_va] at gb
      exact kq w H3 Z3 ((g1.trans g2).trans gb) r3
theorem eg_meth0 {ob : Expr} {t0 : T} (c : Cls S.K C) (hm : Meth S.K C m fa) (hn : m ∉ fs) (hb : Binds S.K fd ps []) (ho : EG S E ob (.ins C fs us) E1) (F : Gives S.P S.w S.K S.mg S.base k fa fd ps [.ins C fs us] t) (hk : k ≤ S.k) (hc : MCall ob m apos [] pos := by intro _; exact ⟨_, rfl⟩) : EG S E (.Call (.Attribute ob m apos) [] [] pos) t E1 := fun W Z H σ Q st kq => by
  refine R.mk (t := tMeth C m (spOf S.K ([T.ins C fs us].map Ent.sh) (.ret t ([T.ins C fs us].map Ent.sh))) [] (fun _ _ _ => False) (R S W ob) tNil) (fun X hX => ?_) (ho W Z H σ _ st fun v H1 Z1 g1 r1 => ?_)
  · have po := hX.pe ob
    have hr := hX.room.mono hk
    obtain ⟨A, s0, H0, env, outer, stack, ex, pn, xe, rfl⟩ := hX.ex
    obtain ⟨pl, hpl'⟩ := hc env
    exact pe_meth0 (CX := L2.CX S.P S.w) (pl := pl) po c hm F hr hb .nil passLL hpl'
  · obtain ⟨a, dx, fv, rfl, h2, h3, h4⟩ := rep_ins.mp r1
    refine ⟨a, dx, fv, rfl, g1.st.zh _ _ h2, ?_, ?_⟩
    · cases q : fv.lookup m with
      | none => rfl
      | some w => exact absurd (h3 ▸ List.mem_map_of_mem (f := Prod.fst) (PySem.mem_of_lookup q)) hn
    · show spOf S.K ([T.ins C fs us].map Ent.sh) (.ret t ([T.ins C fs us].map Ent.sh)) [V.ref a] H1 Q (fun _ _ _ => False)
      have rr : AdsOk S.K Z1 σ ([T.ins C fs us].map AD.va) [.ref a] := eab_all (.cons r1 .nil)
      have hst := call_st (dts := []) (ws := []) g1.st rr (fun _ _ _ z => absurd z va_get) (by rw [bos_va]; exact List.nodup_nil) .nil
      rw [ent_va, List.append_nil, List.map_nil, List.append_nil] at hst
      refine ⟨Z1, hst, fun w H3 Z3 g3 r3 => ?_⟩
      have gb := call_back (dts := []) (ws := []) (as' := [T.ins C fs us].map Ent.sh) g1.st rr (fun _ _ _ z => absurd z va_get) (by rw [bos_va]; exact List.nodup_nil) (by rw [ent_va, List.append_nil, List.map_nil, List.append_nil]; exact g3) (fun _ _ _ z => absurd z va_get)
      rw [updE_va] at gb
      exact kq w H3 Z3 (g1.trans gb) r3
end
end
end Cw
end L2

set_option Elab.async false
set_option linter.all false
set_option maxRecDepth 100000
set_option maxHeartbeats 2000000
namespace L2
namespace Cw
open PySem PySem.Spec PyProof.Rows
def isNon : T → Bool
  | .non => true
  | _ => false
section
variable {K : PySem.W.Frag} {Z Z' H H' : Hp} {σ σ' : St} {E E' E1 E2 E3 : List Ent} {S : SS} {a b e : Expr} {pos p : Pos} {ts us : List T} {t u : T} {i j : Int}
theorem u65 {W : WX} {X : Cx} (h : S.Has W X) : X.A.units + 65 < cLine := by have := h.room.un; omega
theorem rep_isNon {v : V} (h : Rep K Z t v) : decide (v = .non) = isNon t := by
  cases t <;> simp only [Rep, isNon] at h ⊢
  all_goals first
    | (rw [h]; rfl)
    | (rw [h]; simp)
    | (obtain ⟨_, _, rfl, _⟩ := h; simp)
    | (obtain ⟨_, _, _, rfl, _⟩ := h; simp)
    | (obtain ⟨_, _, _, _, rfl, _⟩ := h; simp)
/-! ### is None -/
theorem eg_isN {q : Pos} {k : Nat} (ha : EG S E a t E1) (hm : behindInMarks .Is (.Constant .none k q) = false := by exact nomark _) : EG S E (.Compare a [.Is] [.Constant .none k q] pos) (.bl (isNon t)) E1 :=
  eg_cmp (tb := .non) (fun _ _ _ => op_isN) (fun E Z H σ v w Q st r1 r2 k => ⟨rep_non.mp r2, k _ _ _ (Go.refl st) (by rw [rep_isNon r1]; exact rep_bl.mpr rfl)⟩) ha eg_non hm
theorem tt_isN {q : Pos} {k : Nat} (ha : EG S E a t E1) (hm : behindInMarks .Is (.Constant .none k q) = false := by exact nomark _) : TtG S E (.Compare a [.Is] [.Constant .none k q] pos) (isNon t) E1 :=
  tg_cmp (tb := .non) (fun _ _ _ => op_isN) (fun E Z H σ v w Q st r1 r2 k => ⟨rep_non.mp r2, k _ _ _ (Go.refl st) (by rw [rep_isNon r1]; exact rep_bl.mpr rfl)⟩) ha eg_non hm
theorem tt_notN {q : Pos} {k : Nat} (ha : EG S E a t E1) (hm : behindInMarks .IsNot (.Constant .none k q) = false := by exact nomark _) : TtG S E (.Compare a [.IsNot] [.Constant .none k q] pos) (!isNon t) E1 :=
  tg_cmp (tb := .non) (fun _ _ _ => op_notN) (fun E Z H σ v w Q st r1 r2 k => ⟨rep_non.mp r2, k _ _ _ (Go.refl st) (by rw [rep_isNon r1]; exact rep_bl.mpr rfl)⟩) ha eg_non hm
theorem tt_isB {x y : Bool} (ha : EG S E a (.bl x) E1) (hb : EG S E1 b (.bl y) E2) (hm : behindInMarks .Is b = false := by exact nomark _) : TtG S E (.Compare a [.Is] [b] pos) (decide (x = y)) E2 :=
  tg_cmp (r := rIsB) (fun _ _ _ => op_isBl) (fun E Z H σ v w Q st r1 r2 k => ⟨x, y, rep_bl.mp r1, rep_bl.mp r2, k _ _ _ (Go.refl st) (rep_bl.mpr rfl)⟩) ha hb hm
/-! ### lists, tuples put together -/
theorem Go.tup {vs : List V} {P : Hp} (st : StOk S.K Z H σ E) (r : Reps S.K Z ts vs) {p : Addr} (hp : H p = none) : Go S E σ Z H E σ (upd Z p (.tup vs)) (upd H p (.tup vs)) ∧ Rep S.K (upd Z p (.tup vs)) (.tup ts) (.ref p) := by
  have g := Go.alloc (S := S) st (o := .tup vs) hp (by intro ps q; cases q)
  exact ⟨g, rep_tup.mpr ⟨p, vs, rfl, upd_same, r.mono g.step.zz⟩⟩
theorem Go.lst {vs : List V} (st : StOk S.K Z H σ E) (r : Reps S.K Z ts vs) {p : Addr} (hp : H p = none) : Go S E σ Z H E σ (upd Z p (.lst vs)) (upd H p (.lst vs)) ∧ Rep S.K (upd Z p (.lst vs)) (.lst ts) (.ref p) := by
  have g := Go.alloc (S := S) st (o := .lst vs) hp (by intro ps q; cases q)
  exact ⟨g, rep_lst.mpr ⟨p, vs, rfl, upd_same, r.mono g.step.zz⟩⟩
theorem eg_catL (ha : EG S E a (.lst ts) E1) (hb : EG S E1 b (.lst us) E2) (hl : ts.length + us.length ≤ 16777216) : EG S E (.BinOp a .Add b pos) (.lst (ts ++ us)) E2 :=
  eg_op (r := rCat) (fun _ _ _ => op_cat) (fun E Z H σ v w Q st r1 r2 k => by
    obtain ⟨l, xs, rfl, h1, h2⟩ := rep_lst.mp r1
    obtain ⟨m, ys, rfl, h3, h4⟩ := rep_lst.mp r2
    refine ⟨l, m, xs, ys, rfl, rfl, st.zh _ _ h1, st.zh _ _ h3, by rw [h2.length, h4.length, sizeLine_eq]; exact hl, fun q hq => ?_⟩
    obtain ⟨g, r⟩ := Go.lst st (h2.append h4) hq
    exact k _ _ _ g r) ha hb
theorem eg_catT (ha : EG S E a (.tup ts) E1) (hb : EG S E1 b (.tup us) E2) (hl : ts.length + us.length ≤ 16777216) : EG S E (.BinOp a .Add b pos) (.tup (ts ++ us)) E2 :=
  eg_op (r := rCatA S.K) (fun W X hX => by rw [← hX.kk]; exact op_catA) (fun E Z H σ v w Q st r1 r2 k => by
    obtain ⟨l, xs, rfl, h1, h2⟩ := rep_tup.mp r1
    obtain ⟨m, ys, rfl, h3, h4⟩ := rep_tup.mp r2
    refine ⟨l, m, xs, ys, rfl, rfl, .inl (.inl (st.zh _ _ h1)), .inl (.inl (st.zh _ _ h3)), by rw [h2.length, h4.length, sizeLine_eq]; exact hl, fun e => ?_, fun _ e => ?_, fun _ _ q hq => ?_⟩
    · subst e
      have : ts = [] := by have := h2.length; simpa using this.symm
      subst this
      exact k _ _ _ (Go.refl st) r2
    · subst e
      have : us = [] := by have := h4.length; simpa using this.symm
      subst this
      rw [List.append_nil] at k
      exact k _ _ _ (Go.refl st) r1
    · obtain ⟨g, r⟩ := Go.tup (P := H) st (h2.append h4) hq
      exact k _ _ _ g r) ha hb
theorem Reps.rep {n : Nat} {vs : List V} (r : Reps K Z ts vs) : Reps K Z (List.replicate n ts).flatten (List.replicate n vs).flatten := by
  induction n with
  | zero => exact .nil
  | succ n ih => simp only [List.replicate_succ, List.flatten_cons]; exact r.append ih
theorem eg_repL {n : Int} (ha : EG S E a (.lst ts) E1) (hb : EG S E1 b (.int n) E2) (h1 : -(2 ^ 63) ≤ n ∧ n < 2 ^ 63) (hl : ts.length * n.toNat ≤ 16777216) : EG S E (.BinOp a .Mult b pos) (.lst (List.replicate n.toNat ts).flatten) E2 :=
  eg_op (r := rRep) (fun _ _ _ => op_rep) (fun E Z H σ v w Q st r1 r2 k => by
    obtain ⟨l, xs, rfl, e1, h2⟩ := rep_lst.mp r1
    refine ⟨l, n, xs, rfl, rep_int.mp r2, st.zh _ _ e1, h1.1, h1.2, by rw [h2.length, sizeLine_eq]; exact hl, fun q hq => ?_⟩
    obtain ⟨g, r⟩ := Go.lst st (h2.rep (n := n.toNat)) hq
    exact k _ _ _ g r) ha hb
/-! ### slices -/
def cutT (xs : List T) (lo hi : Option Int) : List T := (xs.drop (HT.sIx xs.length 0 lo)).take (HT.sIx xs.length xs.length hi - HT.sIx xs.length 0 lo)
theorem Reps.drop : ∀ {ts : List T} {vs : List V} {n : Nat}, Reps K Z ts vs → Reps K Z (ts.drop n) (vs.drop n)
  | _, _, 0, h => h
  | [], _, n + 1, h => by rw [h.unnil]; exact .nil
  | t :: ts, _, n + 1, h => by
    obtain ⟨v, r, rfl, _, h2⟩ := h.uncons
    exact h2.drop (n := n)
theorem Reps.take : ∀ {ts : List T} {vs : List V} {n : Nat}, Reps K Z ts vs → Reps K Z (ts.take n) (vs.take n)
  | _, _, 0, h => .nil
  | [], _, n + 1, h => by rw [h.unnil]; exact .nil
  | t :: ts, _, n + 1, h => by
    obtain ⟨v, r, rfl, h1, h2⟩ := h.uncons
    exact .cons h1 (h2.take (n := n))
theorem Reps.cut {vs : List V} {lo hi : Option Int} (r : Reps K Z ts vs) : Reps K Z (cutT ts lo hi) (cutV vs lo hi) := by
  unfold cutT cutV
  rw [r.length]
  exact (r.drop).take
/-- a part of a slice -/
def PaG (S : SS) (E : List Ent) (e : Option Expr) (n : Option Int) : Prop :=
  match e, n with
  | none, none => True
  | some e, some i => EG S E e (.int i) E
  | _, _ => False
theorem pa_no : PaG S E none none := trivial
theorem pa_so (h : EG S E e (.int i) E) : PaG S E (some e) (some i) := h
def tPo (S : SS) (W : WX) (e : Option Expr) : (St → Hp → (Option Int → Hp → Prop) → Prop) := match e with
  | none => tNoPart
  | some e => tPart (R S W e)
theorem PaG.po {W : WX} {X : Cx} (hX : S.Has W X) (e : Option Expr) : PO X e (tPo S W e) := by
  cases e with
  | none => exact po_none
  | some e => exact po_some (hX.pe e)
theorem PaG.read {o : Option Expr} {n : Option Int} (h : PaG S E o n) {W : WX} {Q : Option Int → Hp → Prop} (st : StOk S.K Z H σ E) (k : ∀ H' Z', Go S E σ Z H E σ Z' H' → Q n H') : tPo S W o σ H Q := by
  cases o with
  | none =>
    cases n with
    | none => exact k _ _ (Go.refl st)
    | some i => exact h.elim
  | some e =>
    cases n with
    | none => exact h.elim
    | some i => exact h W Z H σ _ st fun v H1 Z1 g r => ⟨i, rep_int.mp r, k _ _ g⟩
theorem eg_sliceL {lo hi : Option Expr} {m n : Option Int} {p2 : Pos} (ha : EG S E a (.lst ts) E) (hl : PaG S E lo m) (hh : PaG S E hi n) : EG S E (.Subscript a (.Slice lo hi none p2) pos) (.lst (cutT ts m n)) E := fun W Z H σ Q st k => by
  refine R.mk (t := tSl (rSlL S.K) (R S W a) (tPo S W lo) (tPo S W hi)) (fun X hX => pe_slice (by rw [← hX.kk]; exact sl_list) (hX.pe a) (PaG.po hX lo) (PaG.po hX hi)) (ha W Z H σ _ st fun v H1 Z1 g1 r1 => ?_)
  refine hl.read g1.st fun H2 Z2 g2 => hh.read g2.st fun H3 Z3 g3 => ?_
  obtain ⟨l, xs, rfl, h1, h2⟩ := rep_lst.mp r1
  refine ⟨l, xs, rfl, .inl (.inl (g3.st.zh _ _ (g3.step.zz _ _ (g2.step.zz _ _ h1)))), fun q hq => ?_⟩
  obtain ⟨g4, r4⟩ := Go.lst g3.st (((h2.mono g2.step.zz).mono g3.step.zz).cut (lo := m) (hi := n)) hq
  exact k _ _ _ (((g1.trans g2).trans g3).trans g4) r4
theorem cutT_all {lo hi : Option Int} (h : HT.sIx ts.length 0 lo = 0 ∧ HT.sIx ts.length ts.length hi = ts.length) : cutT ts lo hi = ts := by
  unfold cutT
  rw [h.1, h.2, List.drop_zero, Nat.sub_zero, List.take_length]
theorem eg_sliceT {lo hi : Option Expr} {m n : Option Int} {p2 : Pos} (ha : EG S E a (.tup ts) E) (hl : PaG S E lo m) (hh : PaG S E hi n) : EG S E (.Subscript a (.Slice lo hi none p2) pos) (.tup (cutT ts m n)) E := fun W Z H σ Q st k => by
  refine R.mk (t := tSl (rSlA S.K) (R S W a) (tPo S W lo) (tPo S W hi)) (fun X hX => pe_slice (by rw [← hX.kk]; exact sl_tupA) (hX.pe a) (PaG.po hX lo) (PaG.po hX hi)) (ha W Z H σ _ st fun v H1 Z1 g1 r1 => ?_)
  refine hl.read g1.st fun H2 Z2 g2 => hh.read g2.st fun H3 Z3 g3 => ?_
  have r3 := (r1.mono g2.step.zz).mono g3.step.zz
  obtain ⟨l, xs, rfl, h1, h2⟩ := rep_tup.mp r3
  have hx := h2.length
  refine ⟨l, xs, rfl, .inl (.inl (g3.st.zh _ _ h1)), fun e => ?_, fun _ q hq => ?_⟩
  · rw [hx] at e
    rw [cutT_all e] at k
    exact k _ _ _ ((g1.trans g2).trans g3) r3
  · obtain ⟨g4, r4⟩ := Go.tup (P := H3) g3.st (h2.cut (lo := m) (hi := n)) hq
    exact k _ _ _ (((g1.trans g2).trans g3).trans g4) r4
theorem Reps.rev {vs : List V} (r : Reps K Z ts vs) : Reps K Z ts.reverse vs.reverse := by
  induction ts generalizing vs with
  | nil => rw [r.unnil]; exact .nil
  | cons t ts ih =>
    obtain ⟨v, w, rfl, h1, h2⟩ := r.uncons
    simp only [List.reverse_cons]
    exact (ih h2).append (.cons h1 .nil)
theorem eg_revL {k : Nat} {p1 p2 p3 : Pos} (ha : EG S E e (.lst ts) E1) : EG S E (.Subscript e (.Slice none none (some (.UnaryOp .USub (.Constant (.int 1) k p1) p2)) p3) pos) (.lst ts.reverse) E1 := fun W Z H σ Q st kq => by
  refine R.mk (t := tRevL S.K (R S W e)) (fun X hX => by rw [← hX.kk]; exact pe_revL (hX.pe e)) (ha W Z H σ _ st fun v H1 Z1 g1 r1 => ?_)
  obtain ⟨l, xs, rfl, h1, h2⟩ := rep_lst.mp r1
  refine ⟨l, xs, rfl, .inl (.inl (g1.st.zh _ _ h1)), fun q hq => ?_⟩
  obtain ⟨g, r⟩ := Go.lst g1.st h2.rev hq
  exact kq _ _ _ (g1.trans g) r
/-! ### in -/
theorem toDs_any {d : T} : ∀ {ts : List T}, (toDs ts).any (fun z => PyData.eqv z (toD d)) = ts.any fun t => teq t d
  | [] => rfl
  | t :: ts => by simp only [toDs, List.any_cons]; rw [toDs_any]; rfl
theorem opg_inD {n : Nat} (hn : n ≤ 64) (h1 : DOk n t) (h2 : DOk n (.lst us)) : OpG S (rInD S.K) t (.lst us) (.bl (us.any fun x => teq x t)) := fun E Z H σ v w Q st r1 r2 k =>
  ⟨toD t, toDs us, (dOk_spec n t h1).2.2 st.zh r1, (dOk_spec n (.lst us) h2).2.2 st.zh r2, dOk_shaped h1 hn, dOk_shaped h2 hn, by rw [toDs_any]; exact k _ _ _ (Go.refl st) (rep_bl.mpr rfl)⟩
theorem opg_ninD {n : Nat} (hn : n ≤ 64) (h1 : DOk n t) (h2 : DOk n (.lst us)) : OpG S (rNotInD S.K) t (.lst us) (.bl (!us.any fun x => teq x t)) := fun E Z H σ v w Q st r1 r2 k =>
  ⟨toD t, toDs us, (dOk_spec n t h1).2.2 st.zh r1, (dOk_spec n (.lst us) h2).2.2 st.zh r2, dOk_shaped h1 hn, dOk_shaped h2 hn, by rw [toDs_any]; exact k _ _ _ (Go.refl st) (rep_bl.mpr rfl)⟩
theorem eg_inL {n : Nat} (ha : EG S E a t E1) (hb : EG S E1 b (.lst us) E2) (h1 : DOk n t) (h2 : DOk n (.lst us)) (hn : n ≤ 64 := by decide) (hm : behindInMarks .In b = false := by with_unfolding_all rfl) : EG S E (.Compare a [.In] [b] pos) (.bl (us.any fun x => teq x t)) E2 :=
  eg_cmp (r := rInD S.K) (fun W X hX => by rw [← hX.kk]; exact op_inD (u65 hX)) (opg_inD hn h1 h2) ha hb hm
theorem tt_inL {n : Nat} (ha : EG S E a t E1) (hb : EG S E1 b (.lst us) E2) (h1 : DOk n t) (h2 : DOk n (.lst us)) (hn : n ≤ 64 := by decide) (hm : behindInMarks .In b = false := by with_unfolding_all rfl) : TtG S E (.Compare a [.In] [b] pos) (us.any fun x => teq x t) E2 :=
  tg_cmp (r := rInD S.K) (fun W X hX => by rw [← hX.kk]; exact op_inD (u65 hX)) (opg_inD hn h1 h2) ha hb hm
theorem eg_ninL {n : Nat} (ha : EG S E a t E1) (hb : EG S E1 b (.lst us) E2) (h1 : DOk n t) (h2 : DOk n (.lst us)) (hn : n ≤ 64 := by decide) (hm : behindInMarks .NotIn b = false := by with_unfolding_all rfl) : EG S E (.Compare a [.NotIn] [b] pos) (.bl (!us.any fun x => teq x t)) E2 :=
  eg_cmp (r := rNotInD S.K) (fun W X hX => by rw [← hX.kk]; exact op_notInD (u65 hX)) (opg_ninD hn h1 h2) ha hb hm
theorem tt_ninL {n : Nat} (ha : EG S E a t E1) (hb : EG S E1 b (.lst us) E2) (h1 : DOk n t) (h2 : DOk n (.lst us)) (hn : n ≤ 64 := by decide) (hm : behindInMarks .NotIn b = false := by with_unfolding_all rfl) : TtG S E (.Compare a [.NotIn] [b] pos) (!us.any fun x => teq x t) E2 :=
  tg_cmp (r := rNotInD S.K) (fun W X hX => by rw [← hX.kk]; exact op_notInD (u65 hX)) (opg_ninD hn h1 h2) ha hb hm
/-! ### methods of lists -/
/-- how a call of a built-in's method stands in the text -/
structure BCall (o : Expr) (m : Str) (apos : Pos) (e : Expr) (es : List Expr) (cpos : Pos) : Prop where
  base : ∀ env, attributeBase o m env (eval o env) = eval o env
  few : ∀ env, ((backTo cpos (starEach (e :: es) env)).all (fun x => !x.1) && (backToKw cpos (keywordEach [] env)).all (fun x => x.1.isSome) && decide ((e :: es).length + ([] : List Keyword).length + (if ([] : List Keyword).isEmpty then 0 else 1) < 30)) = true
  line : BEq.beq apos.endLine cpos.line = true
  star : ∀ env, starEach (e :: es) env = (false, eval e env) :: starEach es env
  plain : ∀ env, (backTo cpos (starEach es env)).any (·.1) = false
theorem eg_bmL {o : Expr} {m : Str} {id : String} {apos : Pos} {es : List Expr} {r : V → List V → Hp → VK → Prop} (bc : BCall o m apos e es pos) (slot : Slot "list" m id) (hty : typeOf (.builtin id) = pure (.type "method_descriptor")) (hm : ∀ W X, S.Has W X → MtR X id r)
    (ho : EG S E o (.lst ts) E1) (ha : EAs S E1 (e :: es) us E2) (hr : ∀ E Z H σ v vs (Q : VK), StOk S.K Z H σ E → Rep S.K Z (.lst ts) v → Reps S.K Z us vs → (∀ w H' Z', Go S E σ Z H E σ Z' H' → Rep S.K Z' t w → Q w H') → r v vs H Q) : EG S E (.Call (.Attribute o m apos) (e :: es) [] pos) t E2 := fun W Z H σ Q st k => by
  refine R.mk (t := tBM S.K "list" r (R S W o) (RA S W (e :: es))) (fun X hX => by rw [← hX.kk]; exact pe_bm PySem.F.plainAttrs_list slot hty (hm W X hX) (hX.pe o) (hX.pa (e :: es)) (bc.base _) (bc.few _) bc.line (bc.star _) (bc.plain _)) (ho W Z H σ _ st fun v H1 Z1 g1 r1 => ?_)
  obtain ⟨l, xs, rfl, h1, h2⟩ := rep_lst.mp r1
  refine ⟨.inl ⟨rfl, xs, .inl (.inl (g1.st.zh _ _ h1))⟩, ha W Z1 H1 σ _ g1.st fun vs H2 Z2 g2 r2 => ?_⟩
  exact hr E2 Z2 H2 σ _ vs Q g2.st (r1.mono g2.step.zz) r2 fun w H3 Z3 g3 r3 => k w H3 Z3 ((g1.trans g2).trans g3) r3
/-- xs.count(k), ints -/
theorem eg_count {o : Expr} {apos : Pos} {ns : List Int} {n : Int} (ho : EG S E o (.lst (ns.map T.int)) E1) (ha : EG S E1 e (.int n) E2) (bc : BCall o "count" apos e [] pos) : EG S E (.Call (.Attribute o "count" apos) [e] [] pos) (.int (ns.count n : Nat)) E2 :=
  eg_bmL (id := "list.count") (r := rCntI S.K) bc PySem.F.slot_list_count PySem.F.type_list_count (fun W X hX => by rw [← hX.kk]; exact mt_lcount) ho (eas_cons ha eas_nil bc.star) fun E Z H σ v vs Q st r1 r2 k => by
    obtain ⟨w, rfl, h⟩ := reps_one r2
    obtain ⟨l, xs, rfl, h1, h2⟩ := rep_lst.mp r1
    exact ⟨l, ns, n, rfl, by rw [rep_int.mp h], by rw [← ints_of h2]; exact .inl (.inl (st.zh _ _ h1)), k _ _ _ (Go.refl st) (rep_int.mpr rfl)⟩
theorem toDs_get : ∀ {ts : List T} {m : Nat}, (toDs ts)[m]? = (ts[m]?).map toD
  | [], _ => by simp [toDs]
  | t :: ts, 0 => by simp [toDs]
  | t :: ts, m + 1 => by simp only [toDs, List.getElem?_cons_succ]; exact toDs_get
/-- xs.index(y), which is there -/
theorem eg_index {o : Expr} {apos : Pos} {y z : T} {n j : Nat} (ho : EG S E o (.lst ts) E1) (ha : EG S E1 e y E2) (bc : BCall o "index" apos e [] pos) (h1 : DOk n y) (h2 : DOk n (.lst ts)) (hz : ts[j]? = some z) (hq : teq z y = true) (hf : ∀ m z', m < j → ts[m]? = some z' → teq z' y = false) (hn : n ≤ 64 := by decide) : EG S E (.Call (.Attribute o "index" apos) [e] [] pos) (.int (j : Nat)) E2 :=
  eg_bmL (id := "list.index") (r := rIndexD S.K) bc PySem.F.slot_list_index PySem.F.type_list_index (fun W X hX => by rw [← hX.kk]; exact mt_indexD (u65 hX)) ho (eas_cons ha eas_nil bc.star) fun E Z H σ v vs Q st r1 r2 k => by
    obtain ⟨w, rfl, h⟩ := reps_one r2
    have dl := (dOk_spec n (.lst ts) h2).2.2 st.zh r1
    obtain ⟨l, xs, rfl, h3, h4⟩ := rep_lst.mp r1
    refine ⟨l, w, toD y, toDs ts, j, toD z, rfl, rfl, dl, (dOk_spec n y h1).2.2 st.zh h, dOk_shaped h2 hn, dOk_shaped h1 hn, by rw [toDs_get, hz]; rfl, hq, fun m z' hm hz' => ?_, k _ _ _ (Go.refl st) (rep_int.mpr rfl)⟩
    rw [toDs_get] at hz'
    cases q : ts[m]? with
    | none => rw [q] at hz'; cases hz'
    | some z'' => rw [q] at hz'; cases hz'; exact hf m z'' hm q
/-! ### max, sum -/
theorem eg_maxL {ns : List Int} {m : Int} (g : GlOk S "max") (hm : S.mg "max" = none) (ha : EG S E e (.lst (ns.map T.int)) E1) (h0 : 0 < ns.length) (h1 : m ∈ ns) (h2 : ∀ y ∈ ns, y ≤ m) (he : ∀ env, starEach [e] env = (false, eval e env) :: starEach [] env := by intro _; rfl) : EG S E (.Call (.Name "max" p) [e] [] pos) (.int m) E1 :=
  eg_callB (r := rMax S.K) (fun W X hX => by rw [← hX.kk]; exact cr_max hX.calm) (fun E Z H σ vs Q st r k => by
    obtain ⟨v, rfl, h⟩ := reps_one r
    obtain ⟨a, vs, rfl, q1, q2⟩ := rep_lst.mp h
    refine ⟨a, ns, rfl, by rw [← ints_of q2]; exact .inl (.inl (st.zh _ _ q1)), h0, fun m' h1' h2' => ?_⟩
    have : m' = m := Int.le_antisymm (h2 m' h1') (h2' m h1)
    subst this
    exact k _ _ _ (Go.refl st) (rep_int.mpr rfl)) g hm (by decide +kernel) (eas_cons ha eas_nil he) (by decide) he (by intro _; rfl)
end
end Cw
end L2

set_option Elab.async false
set_option linter.all false
set_option maxRecDepth 100000
set_option maxHeartbeats 2000000
namespace L2
namespace Cw
open PySem PySem.Spec PyProof.Rows
/-! ### sum of a tuple of ints -/
theorem preSum_list (ns : List Int) : ∀ j, j ≤ ns.length → PySem.preSum (fun i => ns.getD i 0) j = (ns.take j).sum
  | 0, _ => by simp [PySem.preSum]
  | j + 1, h => by
    have hj : j < ns.length := h
    show PySem.preSum _ j + ns.getD j 0 = _
    rw [preSum_list ns j (Nat.le_of_succ_le h), List.take_succ, List.sum_append]
    simp [hj]
theorem ints_getD : ∀ {vs : List Value} {ns : List Int} {i : Nat} {v : Value}, IntsAre vs ns → vs[i]? = some v → ∃ t, v = .int (ns.getD i 0) t
  | _, _, _, _, .nil, h => by simp at h
  | _, _, 0, _, .cons n t r, h => by simp at h; subst h; exact ⟨t, rfl⟩
  | _, _, i + 1, _, .cons n t r, h => by
    obtain ⟨u, e⟩ := ints_getD (i := i) r (by simpa using h)
    exact ⟨u, by simpa using e⟩
def rSumT (K : PySem.W.Frag) : List V → Hp → VK → Prop := fun vs H Q => ∃ (a : Addr) (ns : List Int), vs = [V.ref a] ∧ SqT K H a (ns.map V.int) ∧ Q (.int ns.sum) H
theorem cr_sumT {X : Cx} (hc : X.calm = true) : CallR X (.builtin "sum") (rSumT X.K) := by
  rintro pins s σ H _ us Q I r ⟨a, ns, rfl, hs, q⟩
  obtain ⟨its, rv, tup, _⟩ := I.tuple hs
  rw [Vals.ref1 r]
  have tup0 := tup
  obtain ⟨o, ho, _⟩ := tup
  have ha := Heap.lt_size ho
  have hi : IntsAre its ns := rv.ints
  have hl : its.length = ns.length := hi.length
  refine call_sum_walkG (wpAny_pyIter_tuple tup0 ?_)
  refine ⟨s.heap.objs.size, _, _, its.toArray.size, _, _, fun i => ns.getD i 0, rfl, Walks.tuple (by simpa using I.ok.hd hc) s.heap.objs.size a (Nat.ne_of_lt ha) its.toArray, ⟨⟨_, Heap.get?_push_size _ rfl, rfl, rfl⟩, tup0.push _⟩, fun b hb => ?_, fun i v hv => ints_getD hi (by simpa using hv), fun h' tk t' k => ?_⟩
  · rw [Heap.size_push]
    have hb' : b = s.heap.objs.size ∨ b = a := by simpa using hb
    rcases hb' with e | e
    · exact e ▸ Nat.lt_succ_self s.heap.objs.size
    · rw [e]; exact Nat.lt_succ_of_lt ha
  · refine ⟨.int ns.sum, H, I.kept fun b u e => k b u (fun z => ?_) (Heap.get?_push_of_some _ e), ⟨t', ?_⟩, q⟩
    · have hb : b = s.heap.objs.size := by simpa using z
      rw [hb] at e
      exact absurd (Heap.lt_size e) (Nat.lt_irrefl _)
    · rw [preSum_list ns _ (by simp [hl]), List.take_of_length_le (by simp [hl])]
section
variable {K : PySem.W.Frag} {Z Z' H H' : Hp} {σ σ' : St} {E E' E1 E2 E3 : List Ent} {S : SS} {a b e : Expr} {pos p : Pos} {ts us : List T} {t u : T} {i j : Int} {o : Oc}
theorem eg_sumT {ns : List Int} (g : GlOk S "sum") (hm : S.mg "sum" = none) (ha : EG S E e (.tup (ns.map T.int)) E1) (he : ∀ env, starEach [e] env = (false, eval e env) :: starEach [] env := by intro _; rfl) : EG S E (.Call (.Name "sum" p) [e] [] pos) (.int ns.sum) E1 :=
  eg_callB (r := rSumT S.K) (fun W X hX => by rw [← hX.kk]; exact cr_sumT hX.calm) (fun E Z H σ vs Q st r k => by
    obtain ⟨v, rfl, h⟩ := reps_one r
    obtain ⟨a, vs, rfl, q1, q2⟩ := rep_tup.mp h
    exact ⟨a, ns, rfl, by rw [← ints_of q2]; exact .inl (.inl (st.zh _ _ q1)), k _ _ _ (Go.refl st) (rep_int.mpr rfl)⟩) g hm (by decide +kernel) (eas_cons ha eas_nil he) (by decide) he (by intro _; rfl)
/-! ### enumerate -/
def enumT (ts : List T) : List T := ts.mapIdx fun i t => T.tup [.int (i : Nat), t]
theorem ig_enum {elts : List Expr} {kk : Nat} {tpos : Pos} (g : GlOk S "enumerate") (hm : S.mg "enumerate" = none) (h : EG S E e (.lst ts) E1) (he : ∀ env, starEach [e] env = (false, eval e env) :: starEach [] env := by intro _; rfl) : IG S E (.Tuple elts kk tpos) (.Call (.Name "enumerate" p) [e] [] pos) (enumT ts) E1 := fun W Z H σ Rr st k => by
  refine RI.mk (wi := iEnum S.K (RA S W [e])) (fun X hX => ?_) ((eas_cons h eas_nil he) W Z H σ _ st fun vs H1 Z1 g1 r1 => ?_)
  · have gg := g.at hX
    have pa := hX.pa [e]
    obtain ⟨A, s0, H0, env, outer, stack, ex, pn, xe, rfl⟩ := hX.ex
    exact pi_enum gg hm pa (he _)
  · obtain ⟨v, rfl, h1⟩ := reps_one r1
    obtain ⟨l, xs, rfl, h2, h3⟩ := rep_lst.mp h1
    have hl := h3.length
    refine ⟨l, xs, rfl, .inl (.inl (g1.st.zh _ _ h2)), k _ H1 Z1 (fun H => SqL S.K H l xs) _ g1 (by unfold enumT; rw [List.length_mapIdx, ← hl]; exact walk_enum (xs := xs)) (fun H2 e => .inl (.inl (e _ _ h2))) fun i H2 x H3 y => ?_⟩
    obtain ⟨T', x1, x2, rfl, e1, rfl, e2, e3⟩ := y
    cases e2
    obtain ⟨t, ht, rt⟩ := h3.get e3
    refine ⟨.tup [.int (i : Nat), t], by unfold enumT; rw [List.getElem?_mapIdx, ht]; rfl, .inr ⟨T', [.int (i : Nat), t], [.int (i : Nat), x2], rfl, rfl, e1, rfl, .cons (rep_int.mpr rfl) (.cons rt .nil)⟩⟩
/-! ### x += n -/
theorem sg_aug {l : Nat} {x : Str} {n : Int} {pos' : Pos} (so : StoOk S l x) (h0 : E[l]? = some (.sh (.int j))) (h : EG S E e (.int n) E) (f : Int → Int → Int) (op : Operator) (ho : ∀ X, PIp X op (ipI f)) : SG S E (.AugAssign (.Name x pos') op e pos) (.nx (E.set l (.sh (.int (f j n))))) := fun W Z H σ D s k => by
  obtain ⟨v, hv, rv⟩ := s.sh l _ h0
  have hl : l < E.length := (List.getElem?_eq_some_iff.mp h0).1
  refine RSt.mk (t := tAug l (R S W e) (ipI f)) (fun X hX => ?_) ⟨v, hv, h W Z H σ _ s fun w H1 Z1 g1 r1 => ⟨j, n, rep_int.mp rv, rep_int.mp r1, ?_⟩⟩
  · have q := hX.sc
    have pe := hX.pe e
    obtain ⟨A, s0, H0, env, outer, stack, ex, pn, xe, rfl⟩ := hX.ex
    exact ps_aug so.nd so.hN (by rw [q]; exact so.loc) pe (ho _) (by rw [q]; exact so.hf)
  · have st2 := g1.st.set (t := .int (f j n)) (v := .int (f j n)) (rep_int.mpr rfl) (i := l) (by rw [g1.st.len]; exact hl)
    refine k _ _ _ (g1.trans ⟨Step.refl _ _ _, st2, fun c ⟨m, u, q1, q2⟩ => ?_, fun m hm => ?_⟩)
    · have hm : m ≠ l := fun z => by subst z; rw [List.getElem?_set_self hl] at q1; cases q1
      rw [List.getElem?_set_ne (fun z => hm z.symm)] at q1 q2
      exact .inl ⟨m, u, q1, q2⟩
    · rw [List.getElem?_set_ne (fun z => so.np (by rw [z]; exact hm))]
theorem sg_augAdd {l : Nat} {x : Str} {n : Int} {pos' : Pos} (so : StoOk S l x) (h0 : E[l]? = some (.sh (.int j))) (h : EG S E e (.int n) E) : SG S E (.AugAssign (.Name x pos') .Add e pos) (.nx (E.set l (.sh (.int (j + n))))) := sg_aug so h0 h (fun i j => i + j) .Add (fun _ => ip_add)
/-! ### xs.append(e), xs[i] = e, xs[i]: xs ours -/
theorem sg_append {l : Nat} {x : Str} {q apos : Pos} (vo : VarOk S l x) (h0 : E[l]? = some (.ow (.lst us))) (h : EG S E e t E1) (h1 : E1[l]? = some (.ow (.lst ts))) (hl : ts.length < 16777216) (bc : BCall (.Name x q) "append" apos e [] p) (hs : ∀ env, swapsWith (.Call (.Attribute (.Name x q) "append" apos) [e] [] p) none pos.line env = pure false := by intro _; rfl) :
    SG S E (.Expr (.Call (.Attribute (.Name x q) "append" apos) [e] [] p) pos) (.nx (E1.set l (.ow (.lst (ts ++ [t]))))) := fun W Z H σ D s k => by
  obtain ⟨a0, ob0, q1, q2, q3, q4⟩ := s.ow l _ h0
  refine RSt.mk (t := tDrop (tBM S.K "list" rAppend (tVar l) (RA S W [e]))) (fun X hX => ?_) (show tDrop (tBM S.K "list" rAppend (tVar l) (RA S W [e])) D σ H from ⟨.ref a0, q1, ?_, (eas_cons h eas_nil bc.star) W Z H σ _ s fun vs H1 Z1 g1 r1 => ?_⟩)
  · have hs' := hX.sc
    have hK := hX.kk
    have pa := hX.pa [e]
    rw [← hK]
    obtain ⟨A, s0, H0, env, outer, stack, ex, pn, xe, rfl⟩ := hX.ex
    exact ps_expr (pe_bm PySem.F.plainAttrs_list PySem.F.slot_list_append PySem.F.type_list_append mt_append (pe_var vo.hN (by rw [hs']; exact vo.vis) vo.h1 vo.h2) pa (bc.base _) (bc.few _) bc.line (bc.star _) (bc.plain _)) (hs _)
  · cases ob0 <;> try exact q4.elim
    exact .inl ⟨rfl, _, .inl (.inl q2)⟩
  · obtain ⟨v, rfl, rv⟩ := reps_one r1
    obtain ⟨b, ob, z1, z2, z3, z4⟩ := g1.st.ow l _ h1
    rw [q1] at z1; cases z1
    cases ob <;> try exact z4.elim
    rename_i xs
    refine ⟨_, xs, v, rfl, rfl, z2, ?_, k _ _ _ (g1.trans (Go.wrote g1.st h1 q1 ?_))⟩
    · rw [Reps.length z4, sizeLine_eq]; exact hl
    · exact Reps.append z4 (.cons rv .nil)
theorem Reps.set : ∀ {ts : List T} {vs : List V} {n : Nat} {v : V}, Reps K Z ts vs → Rep K Z t v → Reps K Z (ts.set n t) (vs.set n v)
  | [], _, _, _, h, _ => by rw [h.unnil]; exact .nil
  | u :: ts, _, 0, _, h, r => by
    obtain ⟨w, r', rfl, h1, h2⟩ := h.uncons
    exact .cons r h2
  | u :: ts, _, n + 1, _, h, r => by
    obtain ⟨w, r', rfl, h1, h2⟩ := h.uncons
    exact .cons h1 (h2.set r)
/-- xs[i] = e -/
theorem sg_putL {l m : Nat} {x : Str} {q spos : Pos} {i0 : Expr} {n : Int} (hv : EG S E e t E1) (vo : VarOk S l x) (hi : EG S E1 i0 (.int n) E1) (h1 : E1[l]? = some (.ow (.lst ts))) (hx : ixN ts.length n = some m) (hs : ∀ env, swapsWithSole [.Subscript (.Name x q) i0 spos] e pos.line env = pure false := by intro _; rfl)
    (hw : ∀ env, swappedStores [.Subscript (.Name x q) i0 spos] e env = pure none := by intro _; rfl) (ha : ∀ env, (assignEach [.Subscript (.Name x q) i0 spos] env).map (·.2) = [assign (.Subscript (.Name x q) i0 spos) env] := by intro _; rfl)
    (hg : ∀ env v, assign (.Subscript (.Name x q) i0 spos) env v = (holding [v] (eval (.Name x q) env) >>= fun ov => holding [v, ov] (eval i0 env) >>= fun iv => standAt spos >>= fun _ => holding [v, ov, iv] (setItem ov iv v) >>= fun _ => release [v, ov, iv] []) := by intro _ _; rfl) :
    SG S E (.Assign [.Subscript (.Name x q) i0 spos] e pos) (.nx (E1.set l (.ow (.lst (ts.set m t))))) := fun W Z H σ D s k => by
  refine RSt.mk (t := tAsg (R S W e) (gSub (tVar l) (R S W i0) rSetL)) (fun X hX => ?_) (hv W Z H σ _ s fun v H1 Z1 g1 r1 => ?_)
  · have hs' := hX.sc
    have pe := hX.pe e
    have pi := hX.pe i0
    obtain ⟨A, s0, H0, env, outer, stack, ex, pn, xe, rfl⟩ := hX.ex
    exact ps_asg pe (L2.pg_sub (pe_var vo.hN (by rw [hs']; exact vo.vis) vo.h1 vo.h2) pi set_list (hg _)) (hs _) (hw _) (ha _)
  · obtain ⟨a0, ob0, q1, q2, q3, q4⟩ := g1.st.ow l _ h1
    refine ⟨.ref a0, q1, hi W Z1 H1 σ _ g1.st fun w H2 Z2 g2 r2 => ?_⟩
    obtain ⟨b, ob, z1, z2, z3, z4⟩ := g2.st.ow l _ h1
    rw [q1] at z1; cases z1
    cases ob <;> try exact z4.elim
    rename_i xs
    refine ⟨_, xs, n, m, rfl, rep_int.mp r2, z2, by rw [Reps.length z4]; exact hx, k _ _ _ ((g1.trans g2).trans (Go.wrote g2.st h1 q1 ?_))⟩
    exact Reps.set z4 (r1.mono g2.step.zz)
/-- xs[i], xs ours -/
theorem eg_itemO {l : Nat} {x : Str} {q : Pos} {n : Int} (vo : VarOk S l x) (h0 : E[l]? = some (.ow (.lst us))) (hb : EG S E b (.int n) E1) (h1 : E1[l]? = some (.ow (.lst ts))) (hi : atI ts n = some u) (hm : PlainIx b := by intro _ _; rfl) : EG S E (.Subscript (.Name x q) b pos) u E1 := fun W Z H σ Q st k => by
  obtain ⟨a0, ob0, q1, q2, q3, q4⟩ := st.ow l _ h0
  refine R.mk (t := tOp (rIx S.K) (tVar l) (R S W b)) (fun X hX => ?_) ⟨.ref a0, q1, hb W Z H σ _ st fun w H2 Z2 g2 r2 => ?_⟩
  · have hs' := hX.sc
    have pb := hX.pe b
    rw [← hX.kk]
    obtain ⟨A, s0, H0, env, outer, stack, ex, pn, xe, rfl⟩ := hX.ex
    exact pe_ix ix_seq (pe_var vo.hN (by rw [hs']; exact vo.vis) vo.h1 vo.h2) pb hm
  · obtain ⟨c, ob, z1, z2, z3, z4⟩ := g2.st.ow l _ h1
    rw [q1] at z1; cases z1
    cases ob <;> try exact z4.elim
    rename_i xs
    obtain ⟨y, h3, h4⟩ := atI_reps z4 hi
    exact .inl ⟨_, xs, n, y, rfl, rep_int.mp r2, .inl (.inl z2), h3, k _ _ _ g2 h4⟩
end
end Cw
end L2

set_option Elab.async false
set_option linter.all false
set_option maxRecDepth 100000
set_option maxHeartbeats 4000000
namespace L2
namespace Cw
open PySem PySem.Spec PyProof.Rows
/-! ### how many unlike ones -/
section
variable {α : Type} [DecidableEq α] -- of any kind
def dist : List α → List α
  | [] => []
  | x :: xs => if x ∈ dist xs then dist xs else x :: dist xs
theorem mem_dist {x : α} : ∀ {l : List α}, x ∈ dist l ↔ x ∈ l
  | [] => Iff.rfl
  | y :: l => by
    unfold dist
    by_cases h : y ∈ dist l
    · rw [if_pos h, mem_dist, List.mem_cons]
      exact ⟨.inr, fun z => z.elim (fun e => by rw [e]; exact mem_dist.mp h) id⟩
    · rw [if_neg h, List.mem_cons, List.mem_cons, mem_dist]
theorem nodup_dist : ∀ l : List α, (dist l).Nodup
  | [] => List.nodup_nil
  | y :: l => by
    unfold dist
    by_cases h : y ∈ dist l
    · rw [if_pos h]; exact nodup_dist l
    · rw [if_neg h]; exact List.nodup_cons.mpr ⟨h, nodup_dist l⟩
theorem dist_len_le : ∀ l : List α, (dist l).length ≤ l.length
  | [] => Nat.le_refl _
  | y :: l => by
    have := dist_len_le l
    unfold dist
    by_cases h : y ∈ dist l
    · rw [if_pos h]; exact Nat.le_succ_of_le this
    · rw [if_neg h]; exact Nat.succ_le_succ this
theorem dist_len {l m : List α} (nd : m.Nodup) (h : ∀ x, x ∈ m ↔ x ∈ l) : m.length = (dist l).length :=
  List.Perm.length_eq ((List.perm_ext_iff_of_nodup nd (nodup_dist l)).mpr fun x => by rw [h, mem_dist])
theorem dist_all : ∀ {l : List α}, (dist l).length = l.length ↔ l.Nodup
  | [] => by simp [dist]
  | y :: l => by
    have le := dist_len_le l
    have ih := dist_all (l := l)
    unfold dist
    by_cases h : y ∈ dist l
    · rw [if_pos h, List.nodup_cons]
      refine ⟨fun e => ?_, fun e => absurd (mem_dist.mp h) e.1⟩
      simp only [List.length_cons] at e
      omega
    · rw [if_neg h, List.nodup_cons]
      simp only [List.length_cons, Nat.add_right_cancel_iff]
      exact ⟨fun e => ⟨fun z => h (mem_dist.mpr z), ih.mp e⟩, fun e => ih.mpr e.2⟩
end
theorem met_nodup (val : Nat → Int) : ∀ i, (firstMet val i).Nodup
  | 0 => List.nodup_nil
  | i + 1 => by
    rw [firstMet_succ]
    unfold step_dedup
    split
    · exact met_nodup val i
    · rename_i h
      refine List.nodup_append.mpr ⟨met_nodup val i, by simp, fun x hx y hy e => h ?_⟩
      have hy' : y = val i := by simpa using hy
      subst hy'
      subst e
      simpa using hx
theorem met_mem (ns : List Int) (x : Int) : x ∈ firstMet (fun i => ns.getD i 0) ns.length ↔ x ∈ ns := by
  have h := firstMet_any (fun i => ns.getD i 0) ns.length x
  have e : ((List.range ns.length).map fun i => ns.getD i 0) = ns := List.ext_getElem (by simp) (by intro i _ h2; simp [h2])
  rw [e] at h
  have z : ∀ l : List Int, (l.any fun y => y == x) = true ↔ x ∈ l := fun l => by simp
  rw [← z, ← z, h]
/-! ### set(xs) of a tuple of tuples of ints -/
section
variable {s : Shared} {A : Around} {P : Program} {w : World} {E : Value → Shared → Prop}
abbrev bareSet (w : World) : Obj := { cls := .type "set", dict := none, data := .set #[] 0 (.fresh 0 0 (!w.params.followText "set-order")) }
/-- __init__ fills the new set -/
theorem fill_tups {l n : Addr} {items : Array Value} (ks : List (Addr × List Int)) {R : PySem.Fin → Shared → Prop} (hh : A.handled = none) (hn : n = s.heap.objs.size) (hl : s.heap.IsTuple l items) (hit : items.toList = ks.map fun p => Value.ref p.1)
    (hk : ∀ p ∈ ks, IsT P w s.heap p.2 p.1) (few : ks.length < 64) (hu : A.units + 1 < cLine)
    (h : ∀ (h' : Heap) (tk : Nat) L es ep t, SetTR P w h' n L es ep t → Got ks ks.length L → (∀ b o, s.heap.get? b = some o → h'.get? b = some o) → R (.done (.ret .none)) { s with heap := h', toks := tk }) :
    wpAny (model P w) A (Builtin.«set.__init__» ⟨[.ref n, .ref l], []⟩) R E { s with heap := s.heap.push (bareSet w) } := by
  subst hn
  have num : items.size = ks.length := by rw [← Array.length_toList, hit, List.length_map]
  have st0 : (s.heap.push (bareSet w)).get? s.heap.objs.size = some (bareSet w) := Heap.get?_push_size _ rfl
  have tup1 := hl.push (bareSet w)
  have tup1' := tup1
  obtain ⟨ol, ho, hc, nl, hd⟩ := tup1'
  obtain ⟨c0, d0, dt, sl⟩ := ol
  dsimp only at hc hd
  subst hc hd
  have lt : l < s.heap.objs.size := by
    obtain ⟨o, q, _⟩ := hl
    exact Heap.lt_size q
  have f1 := F.sub_tuple_set
  have f2 := F.sub_tuple_frozenset
  have f3 : (Value.type "tuple" == Value.type "dict") = false := by decide
  unfold Builtin.«set.__init__»
  unfold noKeywords Builtin.Frozenset.updateFrom
  generalize walks : pyIter = wi
  wp_walk
  subst walks
  refine wpAny_pyIter_tuple tup1 (wpAny_bind (wpAny_runValue ?_))
  have sz : (s.heap.push (bareSet w)).objs.size = s.heap.objs.size + 1 := Heap.size_push ..
  have ne : l ≠ (s.heap.push (bareSet w)).objs.size := by
    rw [sz]; exact Nat.ne_of_lt (Nat.lt_succ_of_lt lt)
  have gone : ∀ b, s.heap.objs.size ≤ b → s.heap.get? b = none := fun b hb => by
    cases q : s.heap.get? b with
    | none => rfl
    | some o => exact absurd (Heap.lt_size q) (Nat.not_lt.mpr hb)
  have val : ∀ (i : Nat) (v : Value), items[i]? = some v → ∃ p, ks[i]? = some p ∧ v = .ref p.1 := fun i v hv => by
    have q : (ks.map fun p => Value.ref p.1)[i]? = some v := by rw [← hit, Array.getElem?_toList]; exact hv
    rw [List.getElem?_map] at q
    cases z : ks[i]? with
    | none => rw [z] at q; cases q
    | some p => rw [z] at q; exact ⟨p, rfl, (Option.some.inj q).symm⟩
  refine set_update_tups ((Walks.tuple (by simpa using hh) (s.heap.push (bareSet w)).objs.size l ne items).toS) s.heap.objs.size (fun z => ?_) ks num few val s.heap hk (gone _ (Nat.le_refl _)) (fun b hb => ?_) hu (items.size - 0) 0 _ rfl (Nat.zero_le _)
    ⟨⟨_, Heap.get?_push_size _ rfl, rfl, rfl⟩, tup1.push _⟩ (fun b o e => Heap.get?_push_of_some _ (Heap.get?_push_of_some _ e)) ?made fun s2 L es ep t mv full got kept => ?done
  · rw [sz] at z
    have z' : s.heap.objs.size = s.heap.objs.size + 1 ∨ s.heap.objs.size = l := by simpa using z
    rcases z' with z' | z'
    · exact absurd z' (Nat.ne_of_lt (Nat.lt_succ_self _))
    · rw [← z'] at lt; exact Nat.lt_irrefl _ lt
  · have e : b = (s.heap.push (bareSet w)).objs.size := by simpa using hb
    rw [e, sz]
    exact gone _ (Nat.le_succ _)
  case made => exact ⟨[], #[], 0, _, setTR_fresh (Heap.get?_push_of_some _ st0), Got.zero ks⟩
  case done =>
    obtain ⟨h2, g2, d2, t2, o2⟩ := s2
    obtain ⟨e1, e2, e3⟩ : g2 = s.gens ∧ d2 = s.drawn ∧ o2 = s.os := ⟨mv.gens, mv.drawn, mv.os⟩
    subst e1 e2 e3
    rw [num] at got
    exact wpAny_pure (wpAny_pure (h h2 t2 L es ep t full got kept))
/-- a new set, filled by its __init__ -/
theorem call_set_by {x : Value} {Q : Value → Shared → Prop} (h : wpAny (model P w) A.in1.in1 (Builtin.«set.__init__» ⟨[.ref s.heap.objs.size, x], []⟩) (fun fin s' => fin = .done (.ret .none) ∧ Q (.ref s.heap.objs.size) s') (fun _ _ => False) { s with heap := s.heap.push (bareSet w) }) :
    wpAny (model P w) A (call (.type "set") [x]) Q E s := by
  have new : (s.heap.push (bareSet w)).get? s.heap.objs.size = some (bareSet w) := Heap.get?_push_size _ rfl
  have ⟨c0, rest, mro0⟩ := F.called_set.mro
  have k1 := F.called_set.made
  have k2 := F.called_set.sub
  have k3 := F.called_set.notType
  have k4 := F.called_set.canCreate
  have k5 := F.typeCall_set_1 x
  have k6 := F.called_set.init.lookup
  have k7 := F.called_set.init.bind (.ref s.heap.objs.size)
  have ty : Shared.TypeIs { s with heap := s.heap.push (bareSet w) } (.ref s.heap.objs.size) "set" := ⟨_, new, rfl⟩
  refine wpAny_call (codeAny_of_tree (show wpAny _ _ (callAny (.type "set") _) _ _ _ from wpAny_pure ⟨Code.quiet_builtin _ (by decide +kernel), codeAny_builtin F.entry_type_call ?_⟩))
  rw [Around.under_plain (weight_type_call_type "set" [x] []) rfl]
  (repeat any_goals first | assumption | wp_step)
  refine codeAny_mono (code_set_led1 x (E := fun _ _ => False) (Q₁ := fun v s1 => v = .ref s.heap.objs.size ∧ s1 = { s with heap := s.heap.push (bareSet w) }) ⟨rfl, rfl⟩) fun made s1 q => ?_
  rcases made with e | fl
  · exact q.elim
  · cases fl <;> try exact q.elim
    obtain ⟨rfl, rfl⟩ := q
    (repeat any_goals first | assumption | wp_step)
    refine codeAny_mono (codeAny_call_builtin (R := wants (fun v s' => v = .none ∧ Q (.ref s.heap.objs.size) s') (fun _ _ => False)) F.called_set.init.plain F.entry_set_init (check_set_init_1 ty (wpAny_mono h (fun fin s' z => ?_) fun _ _ z => z))) fun out s2 q2 => ?_
    · obtain ⟨rfl, z⟩ := z
      exact ⟨rfl, z⟩
    · rcases out with e | fl
      · exact q2.elim
      · cases fl <;> try exact q2.elim
        obtain ⟨rfl, z⟩ := q2
        (repeat any_goals first | assumption | wp_step)
/-- set(xs), xs a tuple of tuples of ints -/
theorem call_set_tupT {l : Addr} {items : Array Value} (ks : List (Addr × List Int)) {Q : Value → Shared → Prop} (hh : A.handled = none) (hl : s.heap.IsTuple l items) (hit : items.toList = ks.map fun p => Value.ref p.1)
    (hk : ∀ p ∈ ks, IsT P w s.heap p.2 p.1) (few : ks.length < 64) (hu : A.units + 3 < cLine)
    (h : ∀ (h' : Heap) (tk : Nat) L es ep t, SetTR P w h' s.heap.objs.size L es ep t → Got ks ks.length L → (∀ b o, s.heap.get? b = some o → h'.get? b = some o) → Q (.ref s.heap.objs.size) { s with heap := h', toks := tk }) : wpAny (model P w) A (call (.type "set") [.ref l]) Q E s :=
  call_set_by (fill_tups ks (by simpa using hh) rfl hl hit hk few (by show A.units + 2 + 1 < cLine; omega) fun h' tk L es ep t a b c => ⟨rfl, h h' tk L es ep t a b c⟩)
end
end Cw
end L2

set_option Elab.async false
set_option linter.all false
set_option maxRecDepth 100000
set_option maxHeartbeats 2000000
namespace L2
namespace Cw
open PySem PySem.Spec PyProof.Rows
/-! ### sets, by how many are in -/
def SetN (n : Nat) (a : Addr) (h : Heap) : Prop := ∃ (o : Obj) (es : Array (Int × Value)) (ep : Nat) (t : SetTable), h.get? a = some o ∧ o.ExactSet ∧ o.data = .set es ep t ∧ t.fits es.size = true ∧ es.size = n
def setNT (n : Nat) : T := .ext (fun a _ _ => SetN n a) [] []
theorem setN_ok {P : Program} {w : World} {H : Hp} {h : Heap} {a : Addr} {n : Nat} (m : SetN n a h) : ObjOk P w H h a (.ext (SetN n a)) := by
  have ⟨o, es, ep, t, ho, q⟩ := m
  exact ⟨m, ⟨o, ho⟩, fun h1 h2 ⟨o', es', ep', t', ho', q'⟩ k => ⟨o', es', ep', t', k o' ho', q'⟩⟩
def rSetTT (K : PySem.W.Frag) : List V → Hp → VK → Prop := fun xs H Q => ∃ (l : Addr) (ks : List (Addr × List Int)), xs = [V.ref l] ∧ SqT K H l (ks.map fun p => V.ref p.1) ∧ (∀ p ∈ ks, SqT K H p.1 (p.2.map V.int)) ∧ ks.length < 64 ∧
  ∀ a, H a = none → Q (.ref a) (upd H a (.ext (SetN (dist (ks.map Prod.snd)).length a)))
section
variable {X : Cx}
theorem cr_setTT (hc : X.calm = true) (hu : X.A.units + 3 < cLine) : CallR X (.type "set") (rSetTT X.K) := fun pins s σ H xs us Q I r h => by
  obtain ⟨l, ks, rfl, hl, hk, few, q⟩ := h
  obtain ⟨its, rv, tup, _⟩ := I.tuple hl
  rw [Vals.ref1 r]
  refine call_set_tupT (P := X.prog) (w := X.w) ks (I.ok.hd hc) tup (by simpa using refs_of_vals rv) (fun p hp => I.isT (hk p hp)) few hu fun h' tk L es ep t R g k => ?_
  have num : (L.map Prod.snd).length = (dist (ks.map Prod.snd)).length := dist_len R.nd fun x => by
    refine ⟨fun hx => ?_, fun hx => ?_⟩
    · obtain ⟨p, hp, rfl⟩ := List.mem_map.mp hx
      exact List.mem_map_of_mem (List.mem_of_mem_take (g.sub p hp))
    · obtain ⟨p, hp, rfl⟩ := List.mem_map.mp hx
      exact g.all p (by rw [List.take_length]; exact hp)
  have ⟨o, ho, hex, hd⟩ := R.ob
  refine ⟨.ref s.heap.objs.size, _, I.laid (t' := tk) k (Nat.le_refl _) (setN_ok (n := (dist (ks.map Prod.snd)).length) ⟨o, es, ep, t, ho, hex, hd, R.fits (s := { s with heap := h', toks := tk }), ?_⟩), rfl, q _ (I.hok.fresh (Nat.le_refl _))⟩
  rw [R.size (s := { s with heap := h', toks := tk }), ← num, List.length_map]
def rSetI (K : PySem.W.Frag) : List V → Hp → VK → Prop := fun xs H Q => ∃ (l : Addr) (ns : List Int), xs = [V.ref l] ∧ SqL K H l (ns.map V.int) ∧ ns.length < 64 ∧ ∀ a, H a = none → Q (.ref a) (upd H a (.ext (SetN (dist ns).length a)))
theorem cr_setI (hc : X.calm = true) : CallR X (.type "set") (rSetI X.K) := fun pins s σ H xs us Q I r h => by
  obtain ⟨l, ns, rfl, hl, few, q⟩ := h
  obtain ⟨its, rv, li, _⟩ := I.list hl
  rw [Vals.ref1 r]
  have hi : IntsAre its ns := rv.ints
  have len : its.toArray.size = ns.length := by rw [List.size_toArray]; exact hi.length
  refine call_set_list (I.ok.hd hc) li.isList (ns := ns) (by simpa using hi) (by rw [len]; unfold scanBound; omega) fun h' tk R k => ?_
  rw [len] at R
  obtain ⟨o, es, ep, t, ho, hex, hd, _, _, _, fits, num⟩ := R
  rw [dist_len (met_nodup _ _) (met_mem ns)] at num
  exact ⟨.ref s.heap.objs.size, _, I.laid (t' := tk) (fun b u e => k b u (Heap.lt_size e) e) (Nat.le_refl _) (setN_ok ⟨o, es, ep, t, ho, hex, hd, fits, num⟩), rfl, q _ (I.hok.fresh (Nat.le_refl _))⟩
def rLenS (n : Nat) : List V → Hp → VK → Prop := fun xs H Q => ∃ a, xs = [V.ref a] ∧ Rd H a (.ext (SetN n a)) ∧ n < 2 ^ 62 ∧ Q (.int n) H
theorem cr_lenS {n : Nat} : CallR X (.builtin "len") (rLenS n) := fun pins s σ H xs us Q I r h => by
  obtain ⟨a, rfl, hs, small, q⟩ := h
  rw [Vals.ref1 r]
  have m : SetN n a s.heap := by
    rcases hs with hs | ⟨ob, hs⟩
    · exact (I.hok a _ hs).1
    · exact (I.hok a _ hs).2.1
  obtain ⟨o, es, ep, t, ho, hex, hd, fits, rfl⟩ := m
  exact call_len_set ho hex hd fits (by omega) ⟨.int es.size, H, I.tok _, ⟨_, rfl⟩, q⟩
end
section
variable {K : PySem.W.Frag} {Z H : Hp} {σ : St} {E E1 : List Ent} {S : SS} {e : Expr} {pos p : Pos}
theorem Go.setN {n : Nat} (st : StOk S.K Z H σ E) {a : Addr} (ha : H a = none) : Go S E σ Z H E σ (upd Z a (.ext (SetN n a))) (upd H a (.ext (SetN n a))) ∧ Rep S.K (upd Z a (.ext (SetN n a))) (setNT n) (.ref a) :=
  ⟨Go.alloc st ha (by intro ps q; cases q), rep_ext.mpr ⟨a, [], [], rfl, .inl upd_same, .nil, .nil⟩⟩
/-- a tuple of ints -/
def tupI (k : List Int) : T := .tup (k.map T.int)
theorem tups_of : ∀ {ks : List (List Int)} {vs : List V}, Reps K Z (ks.map tupI) vs → ∃ as : List (Addr × List Int), vs = as.map (fun p => V.ref p.1) ∧ as.map Prod.snd = ks ∧ ∀ p ∈ as, Z p.1 = some (.tup (p.2.map V.int))
  | [], _, h => ⟨[], by rw [h.unnil]; rfl, rfl, fun p hp => by simp at hp⟩
  | k :: ks, _, h => by
    obtain ⟨v, r, rfl, h1, h2⟩ := h.uncons
    obtain ⟨a, vs, rfl, h3, h4⟩ := rep_tup.mp h1
    obtain ⟨as, rfl, e2, e3⟩ := tups_of h2
    refine ⟨(a, k) :: as, rfl, by rw [List.map_cons, e2], fun p hp => ?_⟩
    match List.mem_cons.mp hp with
    | .inl e => rw [e, ← ints_of h4]; exact h3
    | .inr hp => exact e3 p hp
theorem eg_setTT {ks : List (List Int)} (g : GlOk S "set") (hm : S.mg "set" = none) (ha : EG S E e (.tup (ks.map tupI)) E1) (few : ks.length < 64) (he : ∀ env, starEach [e] env = (false, eval e env) :: starEach [] env := by intro _; rfl) : EG S E (.Call (.Name "set" p) [e] [] pos) (setNT (dist ks).length) E1 :=
  eg_callTy (r := rSetTT S.K) (fun W X hX => by rw [← hX.kk]; exact cr_setTT hX.calm (by have := u65 hX; omega)) (fun E Z H σ vs Q st r k => by
    obtain ⟨v, rfl, h⟩ := reps_one r
    obtain ⟨a, vs, rfl, q1, q2⟩ := rep_tup.mp h
    obtain ⟨as, rfl, rfl, e3⟩ := tups_of q2
    refine ⟨a, as, rfl, .inl (.inl (st.zh _ _ q1)), fun p hp => .inl (.inl (st.zh _ _ (e3 p hp))), by rw [List.length_map] at few; exact few, fun b hb => ?_⟩
    obtain ⟨g, rr⟩ := Go.setN st hb
    exact k _ _ _ g rr) g hm (by decide +kernel) (eas_cons ha eas_nil he) (by decide) he (by intro _; rfl)
theorem eg_setI {ns : List Int} (g : GlOk S "set") (hm : S.mg "set" = none) (ha : EG S E e (.lst (ns.map T.int)) E1) (few : ns.length < 64) (he : ∀ env, starEach [e] env = (false, eval e env) :: starEach [] env := by intro _; rfl) : EG S E (.Call (.Name "set" p) [e] [] pos) (setNT (dist ns).length) E1 :=
  eg_callTy (r := rSetI S.K) (fun W X hX => by rw [← hX.kk]; exact cr_setI hX.calm) (fun E Z H σ vs Q st r k => by
    obtain ⟨v, rfl, h⟩ := reps_one r
    obtain ⟨a, vs, rfl, q1, q2⟩ := rep_lst.mp h
    refine ⟨a, ns, rfl, by rw [← ints_of q2]; exact .inl (.inl (st.zh _ _ q1)), few, fun b hb => ?_⟩
    obtain ⟨g, rr⟩ := Go.setN st hb
    exact k _ _ _ g rr) g hm (by decide +kernel) (eas_cons ha eas_nil he) (by decide) he (by intro _; rfl)
theorem eg_lenS {n : Nat} (g : GlOk S "len") (hm : S.mg "len" = none) (ha : EG S E e (setNT n) E1) (small : n < 2 ^ 62) (he : ∀ env, starEach [e] env = (false, eval e env) :: starEach [] env := by intro _; rfl) : EG S E (.Call (.Name "len" p) [e] [] pos) (.int (n : Nat)) E1 :=
  eg_callB (r := rLenS n) (fun W X hX => cr_lenS) (fun E Z H σ vs Q st r k => by
    obtain ⟨v, rfl, h⟩ := reps_one r
    obtain ⟨a, qs, vs, rfl, q1, _, _⟩ := rep_ext.mp h
    exact ⟨a, rfl, q1.elim (fun z => .inl (st.zh _ _ z)) (fun ⟨ob, z⟩ => .inr ⟨ob, st.zh _ _ z⟩), small, k _ _ _ (Go.refl st) (rep_int.mpr rfl)⟩) g hm (by decide +kernel) (eas_cons ha eas_nil he) (by decide) he (by intro _; rfl)
end
end Cw
end L2

set_option Elab.async false
set_option linter.all false
set_option maxRecDepth 100000
set_option maxHeartbeats 2000000
namespace L2
namespace Cw
open PySem PySem.Spec PyProof.Rows
/-! ### dict(xs), xs a list of pairs whose keys are tuples -/
def mergeN (l : List (NestedKey × T)) (ps : List (List NestedKey × T)) : List (NestedKey × T) := ps.foldl (fun acc p => putN acc (.tup p.1) p.2) l
def pairT (p : List NestedKey × T) : T := .tup [keyT (.tup p.1), p.2]
/-- a call, by whatever it needs -/
def WC (S : SS) (f : Value) : List V → Hp → VK → Prop := fun vs H Q => ∀ W X, S.Has W X → ∀ pins s σ us, Inv X pins σ H s → Vals vs us → wpAny (model X.prog X.w) X.A (call f us) (EP X pins σ Q) X.xe s
theorem WC.rule {S : SS} {f : Value} {W : WX} {X : Cx} (hX : S.Has W X) : CallR X f (WC S f) := fun pins s σ H vs us Q I r h => h W X hX pins s σ us I r
/-- a pair as it lies: its tuple, its key, its value -/
structure Lies where
  at_ : Addr
  ks : List NestedKey
  key : Addr
  val : Value
abbrev Lies.entry (x : Lies) : NestedKey × Addr × Value := (.tup x.ks, x.key, x.val)
theorem paired_mem {α β : Type} {R : α → β → Prop} {xs : List α} {ys : List β} (h : Paired R xs ys) {y : β} (hy : y ∈ ys) : ∃ x ∈ xs, R x y := by
  induction h with
  | nil => exact absurd hy List.not_mem_nil
  | @cons x z xs ys c t ih =>
    match List.mem_cons.mp hy with
    | .inl e => exact ⟨x, List.mem_cons_self, e ▸ c⟩
    | .inr hy =>
      have ⟨q, hq, r⟩ := ih hy
      exact ⟨q, List.mem_cons_of_mem _ hq, r⟩
section
variable {X : Cx} {pins : List (Addr × Obj)} {σ : St} {H Z : Hp} {s : Shared} {K : PySem.W.Frag} {w : World}
theorem pairs_of (I : Inv X pins σ H s) (zh : Same Z H) (hK : X.K = K) : ∀ {ps : List (List NestedKey × T)} {vs : List V} {its : List Value}, Reps K Z (ps.map pairT) vs → Vals vs its →
    ∃ xs : List Lies, its = xs.map (fun x => Value.ref x.at_) ∧ (∀ x ∈ xs, PairAt s.heap x.at_ (.ref x.key) x.val) ∧ Paired (fun (p : List NestedKey × T) (x : Lies) => x.ks = p.1 ∧ (∃ v, Rep K Z p.2 v ∧ RelV v x.val) ∧ Rep K Z (keyT (.tup x.ks)) (.ref x.key)) ps xs
  | [], _, _, r, rv => by
    rw [r.unnil] at rv
    cases rv
    exact ⟨[], rfl, fun x hx => absurd hx (List.not_mem_nil), .nil⟩
  | p :: ps, _, _, r, rv => by
    obtain ⟨v, vr, rfl, r1, r2⟩ := r.uncons
    cases rv with
    | cons h1 h2 =>
      obtain ⟨xs, rfl, q1, q2⟩ := pairs_of I zh hK r2 h2
      obtain ⟨a, ws, rfl, m, rr⟩ := rep_tup.mp r1
      obtain ⟨kv, tv, rfl, rk, rt⟩ := reps_two rr
      cases h1
      have rk' := rk
      rw [keyT] at rk'
      obtain ⟨ka, _, rfl, _, _⟩ := rep_tup.mp rk'
      have mm : SqT X.K H a [.ref ka, tv] := .inl (.inl (zh _ _ m))
      obtain ⟨its, ri, tup, _⟩ := I.tuple mm
      cases ri with
      | cons c1 c2 =>
        cases c2 with
        | cons d1 d2 =>
          cases d2
          cases c1
          refine ⟨⟨a, p.1, ka, _⟩ :: xs, rfl, fun x hx => ?_, .cons ⟨rfl, ⟨tv, rt, d1⟩, rk⟩ q2⟩
          match List.mem_cons.mp hx with
          | .inl e => rw [e]; exact .inl tup
          | .inr hx => exact q1 x hx
theorem merge_rel {ps : List (List NestedKey × T)} {xs : List Lies} (q : Paired (fun (p : List NestedKey × T) (x : Lies) => x.ks = p.1 ∧ (∃ v, Rep K Z p.2 v ∧ RelV v x.val) ∧ Rep K Z (keyT (.tup x.ks)) (.ref x.key)) ps xs) :
    ∀ {l : List (NestedKey × T)} {ys : List (NestedKey × Addr × Value)}, DRel K Z l ys → DRel K Z (mergeN l ps) (storedAllH ys (xs.map Lies.entry)) := by
  induction q with
  | nil => intro l ys d; exact d
  | @cons p x ps xs a t ih =>
    intro l ys d
    obtain ⟨e, ⟨v, r, rv⟩, rk⟩ := a
    have d2 := d.put rk r rv
    rw [e] at d2
    have d3 := ih d2
    unfold mergeN storedAllH at d3 ⊢
    rw [List.map_cons, List.foldl_cons, List.foldl_cons]
    unfold Lies.entry
    rw [e]
    exact d3
theorem mergeN_len : ∀ {ps : List (List NestedKey × T)} {l : List (NestedKey × T)}, (mergeN l ps).length ≤ l.length + ps.length
  | [], l => Nat.le_refl _
  | p :: ps, l => by
    have h := mergeN_len (ps := ps) (l := putN l (.tup p.1) p.2)
    have h2 := length_putN (l := l) (k := NestedKey.tup p.1) (t := p.2)
    unfold mergeN at h ⊢
    rw [List.length_cons, List.foldl_cons]
    omega
theorem mergeN_depth : ∀ {ps : List (List NestedKey × T)} {l : List (NestedKey × T)}, (∀ p ∈ l, p.1.depth ≤ 8) → (∀ p ∈ ps, (NestedKey.tup p.1).depth ≤ 8) → ∀ p ∈ mergeN l ps, p.1.depth ≤ 8
  | [], l, h, _ => h
  | p :: ps, l, h, h2 => by
    have := mergeN_depth (ps := ps) (depth_putN (t := p.2) h (h2 p List.mem_cons_self)) fun q hq => h2 q (List.mem_cons_of_mem _ hq)
    unfold mergeN at this ⊢
    simpa only [List.foldl_cons] using this
end
section
variable {Z H : Hp} {σ : St} {E E1 : List Ent} {S : SS} {e : Expr} {pos p : Pos}
theorem eo_dictN {ps : List (List NestedKey × T)} (g : GlOk S "dict") (hm : S.mg "dict" = none) (ha : EG S E e (.lst (ps.map pairT)) E1) (hd : ∀ p ∈ ps, (NestedKey.tup p.1).depth ≤ 8) (hl : ps.length ≤ 16777216) (he : ∀ env, starEach [e] env = (false, eval e env) :: starEach [] env := by intro _; rfl) :
    EO S E (.Call (.Name "dict" p) [e] [] pos) (dN S.w (mergeN [] ps)) E1 :=
  eo_callTy (r := WC S (.type "dict")) (fun W X hX => WC.rule hX) (fun Z H σ E vs Q st r k W X hX pins s σ us I rv => by
    obtain ⟨v, rfl, h⟩ := reps_one r
    obtain ⟨a, vs, rfl, q1, q2⟩ := rep_lst.mp h
    rw [Vals.ref1 rv]
    have li : SqL X.K H a vs := .inl (.inl (st.zh _ _ q1))
    obtain ⟨its, ri, seq, _⟩ := I.list li
    obtain ⟨xs, rfl, x1, x2⟩ := pairs_of I st.zh hX.kk q2 ri
    have pl := Paired.length x2
    have hz : (xs.map Lies.entry).length = xs.length := List.length_map ..
    have hd0 := I.ok.hd hX.calm
    have nr : (nestedKind X.prog X.w).room X.A.in1.in1 := by
      show X.A.units + 2 + 8 < cLine
      have := u65 hX
      omega
    obtain ⟨oo, nn, ho, hcl, hdi, hda⟩ := seq
    refine call_dict_pairsH (knd := nestedKind X.prog X.w) (ps := xs.map Lies.entry) (PairArg.list a (xs.map fun x => Value.ref x.at_).toArray (fun j => (xs[j]?.map Lies.at_).getD 0) (xs.map fun x => (Value.ref x.key, x.val))) hd0 nr ⟨⟨oo, nn, ho, hcl, hdi, hda⟩, by simp, fun j kk vv e => ?_⟩ ⟨by simp, fun j kk vv e => ?_⟩ (fun h' kept x hx => ?_) (by simp only [List.length_map]; rw [sizeLine_eq, ← pl]; exact hl) fun h' tk made kept => ?_
    · rw [List.getElem?_map] at e
      cases q : xs[j]? with
      | none => simp [q] at e
      | some x =>
        rw [q] at e
        cases e
        exact ⟨by simp [q], by simpa [q] using x1 x (List.mem_of_getElem? q)⟩
    · rw [PairRel, List.getElem?_map] at e
      cases q : xs[j]? with
      | none => simp [q] at e
      | some x =>
        rw [q] at e
        cases e
        exact ⟨_, _, by rw [List.getElem?_map, q]; rfl, rfl⟩
    · obtain ⟨y, hy, rfl⟩ := List.mem_map.mp hx
      have I2 : Inv X pins σ H { s with heap := h', toks := s.toks } := I.kept fun b u z => kept b u (Nat.ne_of_lt (Heap.lt_size z)) (by simp) z
      obtain ⟨p, hp, e1, _, e3⟩ := paired_mem x2 hy
      exact ⟨key_is I2 st.zh hX.kk _ (keyT_self _) e3 rfl, by show (NestedKey.tup y.ks).depth ≤ 8; rw [e1]; exact hd p hp⟩
    · have dr : DRel S.K Z (mergeN [] ps) (storedAllH [] (xs.map Lies.entry)) := merge_rel x2 (show DRel S.K Z [] [] from .nil)
      have nd : (s.heap.objs.size == sysModules) = false := beq_eq_false_iff_ne.mpr (Ne.symm (Nat.ne_of_lt I.big))
      obtain ⟨o', r1, r2, r3⟩ := dn_close (w := X.w) (P := X.prog) nd (by have := mergeN_len (ps := ps) (l := []); rw [sizeLine_eq]; simp at this; omega) (mergeN_depth (fun _ z => absurd z List.not_mem_nil) hd) made dr
      have fresh := I.hok.fresh (Nat.le_refl s.heap.objs.size)
      rw [hX.hw] at r1
      exact ⟨.ref s.heap.objs.size, _, I.laid (t' := tk) (fun b u z => kept b u (by simp) z) (Nat.le_refl _) (r3 _), rfl, k _ _ fresh r1⟩) g hm (by decide +kernel) (eas_cons ha eas_nil he) (by decide) he (by intro _; rfl)
theorem eg_dictN {ps : List (List NestedKey × T)} (g : GlOk S "dict") (hm : S.mg "dict" = none) (ha : EG S E e (.lst (ps.map pairT)) E1) (hd : ∀ p ∈ ps, (NestedKey.tup p.1).depth ≤ 8) (hl : ps.length ≤ 16777216) (he : ∀ env, starEach [e] env = (false, eval e env) :: starEach [] env := by intro _; rfl) :
    EG S E (.Call (.Name "dict" p) [e] [] pos) (dN S.w (mergeN [] ps)) E1 := eg_o (eo_dictN g hm ha hd hl he)
end
end Cw
end L2

set_option Elab.async false
set_option linter.all false
set_option maxRecDepth 100000
set_option maxHeartbeats 2000000
namespace L2
namespace Cw
open PySem PySem.Spec PyProof.Rows
/-! ### data told by plain values -/
structure Enc {α : Type} [DecidableEq α] (n : Nat) (f : α → T) : Prop where
  eq : ∀ a b, teq (f a) (f b) = decide (a = b)
  ok : ∀ a, DOk n (f a)
theorem DOk.up : ∀ {n m : Nat} {t : T}, n ≤ m → DOk n t → DOk m t := by
  intro n
  induction n with
  | zero =>
    intro m t h d
    cases m <;> cases t <;> first | exact d | exact d.elim
  | succ n ih =>
    intro m t h d
    cases m with
    | zero => omega
    | succ m =>
      cases t <;> first | exact d | exact fun u hu => ih (Nat.le_of_succ_le_succ h) (d u hu)
section
variable {α β : Type} [DecidableEq α] [DecidableEq β] {f : α → T} {g : β → T} {n m : Nat}
theorem Enc.up (e : Enc n f) (h : n ≤ m) : Enc m f := ⟨e.eq, fun a => (e.ok a).up h⟩
theorem enc_int : Enc 0 T.int := ⟨fun a b => by simp [teq, toD, PyData.eqv]; rfl, fun _ => trivial⟩
theorem enc_bl : Enc 0 T.bl := ⟨fun a b => by cases a <;> cases b <;> simp [teq, toD, PyData.eqv], fun _ => trivial⟩
def ov : Option Int → T
  | none => .non
  | some i => .int i
theorem enc_ov : Enc 0 ov := ⟨fun a b => by
  cases a <;> cases b <;> simp [teq, toD, PyData.eqv, ov]
  rfl, fun a => by cases a <;> trivial⟩
theorem Enc.all (e : Enc n f) : ∀ xs ys : List α, PyData.eqvAll (toDs (xs.map f)) (toDs (ys.map f)) = decide (xs = ys)
  | [], [] => by simp [toDs, PyData.eqvAll]
  | [], y :: ys => by simp [toDs, PyData.eqvAll]
  | x :: xs, [] => by simp [toDs, PyData.eqvAll]
  | x :: xs, y :: ys => by
    have h := e.eq x y
    unfold teq at h
    simp only [List.map_cons, toDs, PyData.eqvAll, h, e.all xs ys]
    rcases Classical.em (x = y) with h1 | h1 <;> rcases Classical.em (xs = ys) with h2 | h2 <;> simp [h1, h2]
theorem Enc.tup (e : Enc n f) : Enc (n + 1) fun xs : List α => T.tup (xs.map f) := ⟨fun a b => by
  simp only [teq, toD, PyData.eqv]; exact e.all a b, fun a t ht => by obtain ⟨x, _, rfl⟩ := List.mem_map.mp ht; exact e.ok x⟩
theorem Enc.lst (e : Enc n f) : Enc (n + 1) fun xs : List α => T.lst (xs.map f) := ⟨fun a b => by
  simp only [teq, toD, PyData.eqv]; exact e.all a b, fun a t ht => by obtain ⟨x, _, rfl⟩ := List.mem_map.mp ht; exact e.ok x⟩
theorem Enc.comp (e : Enc n f) (h : β → α) (inj : ∀ a b, h a = h b → a = b) : Enc n fun b => f (h b) := ⟨fun a b => by
  rw [e.eq]
  by_cases q : a = b
  · simp [q]
  · rw [decide_eq_false q, decide_eq_false (fun z => q (inj a b z))], fun a => e.ok _⟩
theorem Enc.any (e : Enc n f) (a : α) (xs : List α) : ((xs.map f).any fun x => teq x (f a)) = decide (a ∈ xs) := by
  induction xs with
  | nil => simp
  | cons x xs ih =>
    rw [List.map_cons, List.any_cons, ih, e.eq]
    by_cases h1 : x = a <;> by_cases h2 : a ∈ xs <;> simp [h1, h2, eq_comm]
    all_goals (intro z; exact h1 z.symm)
theorem Enc.in_ (e : Enc n f) (xs : List α) : DOk (n + 1) (.lst (xs.map f)) := e.lst.ok xs
end
/-- what changes no slot -/
theorem sg_setP {S : SS} {E : List Ent} {i : Nat} {x : Str} {e : Expr} {t : T} {pos pos' : Pos} (so : StoOk S i x) (h : EG S E e t E) (hi : i < E.length) (hs : ∀ env, swapsWith e (some (.Name x pos')) pos.line env = pure false := by intro _; rfl) : SG S E (.Assign [.Name x pos'] e pos) (.nx (E.set i (.sh t))) := sg_set so h hi hs
/-- for, typed: each turn goes on, told of the items gone -/
theorem ForR.within {S : SS} {α : Type} {toT : α → T} {tg : Expr} {body : List Stmt} {Ev : List α → List Ent} {xs : List α} (h : ∀ pre x, pre.length < xs.length → ∃ Ea ws, AG S (Ev pre) tg (toT x) Ea ws ∧ SGs S Ea body (.nx (Ev (pre ++ [x])))) : ForR S tg body (Ev []) (xs.map toT) (.nx (Ev xs)) := by
  have go : ∀ (ys pre : List α), pre.length + ys.length = xs.length → ForR S tg body (Ev pre) (ys.map toT) (.nx (Ev (pre ++ ys))) := by
    intro ys
    induction ys with
    | nil => intro pre _; rw [List.append_nil]; exact .nil
    | cons y ys ih =>
      intro pre hl
      rw [List.length_cons] at hl
      obtain ⟨Ea, ws, h1, h2⟩ := h pre y (by omega)
      have := ih (pre ++ [y]) (by rw [List.length_append, List.length_singleton]; omega)
      exact .step h1 h2 (by rwa [List.append_assoc] at this)
  exact go xs [] (by simp)
theorem ForR.pre {S : SS} {α : Type} {toT : α → T} {tg : Expr} {body : List Stmt} {Ev : List α → List Ent} {xs : List α} (h : ∀ pre x post, pre ++ x :: post = xs → ∃ Ea ws, AG S (Ev pre) tg (toT x) Ea ws ∧ SGs S Ea body (.nx (Ev (pre ++ [x])))) : ForR S tg body (Ev []) (xs.map toT) (.nx (Ev xs)) := by
  have go : ∀ (ys pre : List α), pre ++ ys = xs → ForR S tg body (Ev pre) (ys.map toT) (.nx (Ev xs)) := by
    intro ys
    induction ys with
    | nil => intro pre e; rw [List.append_nil] at e; rw [e]; exact .nil
    | cons y ys ih =>
      intro pre e
      obtain ⟨Ea, ws, h1, h2⟩ := h pre y ys e
      exact .step h1 h2 (ih (pre ++ [y]) (by rw [List.append_assoc]; exact e))
  exact go xs [] rfl
theorem eg_neg {S : SS} {E E1 : List Ent} {a : Expr} {i : Int} {pos : Pos} (h : EG S E a (.int i) E1) : EG S E (.UnaryOp .USub a pos) (.int (-i)) E1 := fun W Z H σ Q st k =>
  R.mk (t := tUn (rU fun i => .int (-i)) (R S W a)) (fun X hX => pe_un un_neg (hX.pe a)) (h W Z H σ _ st fun v H1 Z1 g r => ⟨i, rep_int.mp r, k _ _ _ g (rep_int.mpr rfl)⟩)
theorem wg_andF' {S : SS} {E E1 : List Ent} {a b : Expr} {rest : List Expr} {pos : Pos} {c : Bool} (h : TtG S E a c E1) (hc : c = false) : WG S E (.BoolOp .And (a :: b :: rest) pos) c E1 := by
  subst hc; exact wg_andF h
/-- two-number tuples -/
theorem enc_tupI : Enc 1 tupI := enc_int.tup
theorem teq_nil {ts : List T} : teq (.tup ts) (.tup []) = ts.isEmpty := by
  cases ts <;> simp [teq, toD, toDs, PyData.eqv, PyData.eqvAll]
theorem teq_nilL {ts : List T} : teq (.lst ts) (.lst []) = ts.isEmpty := by
  cases ts <;> simp [teq, toD, toDs, PyData.eqv, PyData.eqvAll]
theorem at_last {t : T} {ts : List T} : atI (ts ++ [t]) (-1) = some t := by
  unfold atI ixN
  have h : -(((ts ++ [t]).length : Nat) : Int) ≤ -1 := by rw [List.length_append, List.length_singleton]; omega
  rw [if_neg (by decide), if_pos h]
  have e : ((-1 : Int) + ((ts ++ [t]).length : Nat)).toNat = ts.length := by rw [List.length_append, List.length_singleton]; omega
  rw [e]
  simp
theorem atI_at {ts : List T} {n : Nat} {t : T} (h : ts[n]? = some t) : atI ts (n : Int) = some t := by
  have hn : n < ts.length := (List.getElem?_eq_some_iff.mp h).1
  unfold atI ixN
  have h0 : (0 : Int) ≤ n := by omega
  simpa [h0, hn] using h
theorem cut_last {ts : List T} (t : T) : cutT (ts ++ [t]) none (some (-1)) = ts := by
  unfold cutT
  have e : HT.sIx (ts ++ [t]).length (ts ++ [t]).length (some (-1)) = ts.length := by
    simp only [HT.sIx]
    rw [if_pos (by decide), List.length_append, List.length_singleton]
    omega
  rw [HT.sIx_none, e, List.drop_zero, Nat.sub_zero]
  simp
theorem cut_take {ts : List T} {n : Nat} (h : n ≤ ts.length) : cutT ts none (some (n : Int)) = ts.take n := by
  unfold cutT
  rw [HT.sIx_none, HT.sIx_nat, List.drop_zero, Nat.sub_zero, Nat.min_eq_left h]
theorem dok_nil {n : Nat} : DOk (n + 1) (.tup []) := fun t h => absurd h List.not_mem_nil
theorem dok_nilL {n : Nat} : DOk (n + 1) (.lst []) := fun t h => absurd h List.not_mem_nil
end Cw
end L2

set_option Elab.async false
set_option linter.all false
set_option maxRecDepth 100000
set_option maxHeartbeats 2000000
namespace L2
namespace Cw
open PySem PySem.Spec PyProof.Rows
section
variable {K : PySem.W.Frag} {Z H : Hp} {σ : St} {E E1 E2 : List Ent} {S : SS} {d i e : Expr} {l : List (NestedKey × T)} {ks : List NestedKey} {kt : T} {apos pos p : Pos}
/-- d.get(i), keys tuples -/
theorem eg_get1N (bc : BCall d "get" apos i [] pos) (hd : EG S E d (dN S.w l) E1) (hi : EG S E1 i kt E2) (hk : KeyT (.tup ks) kt) (h8 : (NestedKey.tup ks).depth ≤ 8) : EG S E (.Call (.Attribute d "get" apos) [i] [] pos) ((getN l (.tup ks)).getD .non) E2 := fun W Z H σ Q st k X hX pins s I => by
  refine wpAny_Call_method_late (bc.base _) (bc.few _) bc.line rfl (hd.run hX st I fun u s1 v H1 Z1 I1 rv g1 r1 => ?_)
  obtain ⟨a, ob, rfl, hr, ro⟩ := dn_rep g1.st.zh r1
  obtain rfl : u = Value.ref a := rv
  obtain ⟨_, _, _, xs0, m0, _⟩ := dn_open I1 g1.st.zh hX.kk hX.hw hr ro
  have ⟨od, es, ep, ho, hex, _⟩ := m0
  refine ⟨"dict", "dict.get", PySem.F.plainAttrs_dict, PySem.F.slot_dict_get, PySem.F.type_dict_get, ⟨od, ho, hex.1⟩, fun b e => ?_, ?_⟩
  · cases e
    exact ⟨od, ho, hex.2.1⟩
  rw [bc.star]
  refine Calls.callWith_builtin (by show (false || (backTo pos (starEach [] X.env)).any (·.1)) = false; rw [bc.plain] <;> rfl) (Calls.evalArgs_plain (Calls.spliced_cons (hi.run hX g1.st I1 fun u2 s2 v2 H2 Z2 I2 rv2 g2 r2 => Calls.spliced_nil ?_)))
  obtain ⟨a2, ob2, e2, hr2, ro2⟩ := dn_rep (H := H2) g2.st.zh (r1.mono g2.step.zz)
  cases e2
  obtain ⟨hsys, hl, hdp, xs, m, dr⟩ := dn_open I2 g2.st.zh hX.kk hX.hw hr2 ro2
  have kk := hk
  simp only [KeyT] at kk
  obtain ⟨ts, h1, h2⟩ := kk
  have rt : ∃ b, v2 = .ref b := by
    rcases h1 with rfl | rfl
    · obtain ⟨b, _, e, _⟩ := rep_tup.mp r2; exact ⟨b, e⟩
    · obtain ⟨b, _, e, _⟩ := rep_wtup.mp r2; exact ⟨b, e⟩
  obtain ⟨b, rfl⟩ := rt
  obtain rfl : u2 = Value.ref b := rv2
  have nk := key_is I2 g2.st.zh hX.kk (.tup ks) hk r2 rfl
  refine call_meetsIn F.slot_dict_get m.typeIs F.entry_dict_get (F.args_dict_get_2 _ _) (meetsH_dict_get (nestedKind X.prog X.w) a b hsys) ⟨hX.nroom, .tup ks, xs, ⟨nk, h8⟩, m, ?_⟩
  obtain ⟨q1, q2⟩ := dr.get (.tup ks)
  cases q : getN l (.tup ks) with
  | none =>
    rw [q] at q2 k
    have none' : atKey xs (.tup ks) = none := by
      cases z : atKey xs (.tup ks) with
      | none => rfl
      | some _ => rw [z] at q2; cases q2
    rw [none']
    exact ⟨.non, H2, I2.tok _, rfl, k _ _ _ (g1.trans g2) (rep_non.mpr rfl)⟩
  | some t =>
    rw [q] at k
    obtain ⟨pp, v, e1, r3, rv3⟩ := q1 t q
    rw [e1]
    exact ⟨v, H2, I2.tok _, rv3, k _ _ _ (g1.trans g2) r3⟩
/-! ### dict(xs), keys ints, by its length -/
def keysI (ns : List Int) : List Int := ns.foldl (fun acc n => if n ∈ acc then acc else acc ++ [n]) []
theorem keysI_go (ns : List Int) : ∀ acc : List Int, acc.Nodup → (ns.foldl (fun acc n => if n ∈ acc then acc else acc ++ [n]) acc).Nodup ∧ ∀ x, x ∈ ns.foldl (fun acc n => if n ∈ acc then acc else acc ++ [n]) acc ↔ x ∈ acc ∨ x ∈ ns := by
  induction ns with
  | nil => intro acc h; exact ⟨h, fun x => by simp⟩
  | cons n ns ih =>
    intro acc h
    simp only [List.foldl_cons]
    by_cases hn : n ∈ acc
    · rw [if_pos hn]
      obtain ⟨a, b⟩ := ih acc h
      refine ⟨a, fun x => (b x).trans ?_⟩
      simp only [List.mem_cons]
      exact ⟨fun z => z.elim .inl fun z => .inr (.inr z), fun z => z.elim .inl fun z => z.elim (fun e => .inl (by rw [e]; exact hn)) .inr⟩
    · rw [if_neg hn]
      have nd : (acc ++ [n]).Nodup := List.nodup_append.mpr ⟨h, by simp, fun x hx y hy e => hn (by simp at hy; rw [← hy, ← e]; exact hx)⟩
      obtain ⟨a, b⟩ := ih _ nd
      refine ⟨a, fun x => (b x).trans ?_⟩
      simp only [List.mem_append, List.mem_cons, List.not_mem_nil, or_false]
      exact or_assoc
theorem keysI_len (ns : List Int) : (keysI ns).length = (dist ns).length := by
  obtain ⟨a, b⟩ := keysI_go ns [] List.nodup_nil
  exact dist_len a fun x => (b x).trans (by simp)
def kOne (n : Int) : Key × V := (Sum.inl n, .int 1)
theorem putK_one (acc : List Int) (n : Int) : putK (acc.map kOne) (Sum.inl n : Key) (.int 1) = (if n ∈ acc then acc else acc ++ [n]).map kOne := by
  have h : ((acc.map kOne).any fun kv => decide (kv.1 = (Sum.inl n : Key))) = decide (n ∈ acc) := by
    induction acc with
    | nil => simp
    | cons a acc ih =>
      rw [List.map_cons, List.any_cons, ih]
      by_cases h1 : a = n <;> by_cases h2 : n ∈ acc <;> simp [kOne, h1, h2]
      intro z; exact h1 z.symm
  unfold putK
  rw [h]
  by_cases hn : n ∈ acc
  · rw [decide_eq_true hn, if_pos rfl, if_pos hn, List.map_map]
    refine List.map_congr_left fun a _ => ?_
    show (if (kOne a).1 = Sum.inl n then ((kOne a).1, V.int 1) else kOne a) = kOne a
    split <;> rfl
  · rw [decide_eq_false hn, if_neg Bool.false_ne_true, if_neg hn, List.map_append]
    rfl
theorem mergeK_one (ns : List Int) : ∀ acc : List Int, mergeK (acc.map kOne) (ns.map kOne) = (ns.foldl (fun acc n => if n ∈ acc then acc else acc ++ [n]) acc).map kOne := by
  induction ns with
  | nil => intro acc; rfl
  | cons n ns ih =>
    intro acc
    have h := ih (if n ∈ acc then acc else acc ++ [n])
    rw [← putK_one] at h
    exact h
def onesT (n : Int) : T := .tup [.int n, .int 1]
theorem ones_of : ∀ {ns : List Int} {vs : List V}, Reps K Z (ns.map onesT) vs → ∃ as : List Addr, vs = as.map V.ref ∧ Paired (fun a kv => Z a = some (.tup [kV kv.1, kv.2])) as (ns.map kOne)
  | [], _, h => ⟨[], by rw [h.unnil]; rfl, .nil⟩
  | n :: ns, _, h => by
    obtain ⟨v, r, rfl, h1, h2⟩ := h.uncons
    obtain ⟨a, vs, rfl, h3, h4⟩ := rep_tup.mp h1
    obtain ⟨x, y, rfl, r1, r2⟩ := reps_two h4
    cases rep_int.mp r1
    cases rep_int.mp r2
    obtain ⟨as, rfl, q⟩ := ones_of h2
    exact ⟨a :: as, rfl, .cons h3 q⟩
theorem Paired.imp' {α β : Type} {R R' : α → β → Prop} (h : ∀ a b, R a b → R' a b) {xs : List α} {ys : List β} (p : Paired R xs ys) : Paired R' xs ys := by
  induction p with
  | nil => exact .nil
  | cons a t ih => exact .cons (h _ _ a) ih
def rLenDR : List V → Hp → VK → Prop := fun xs H Q => ∃ (a : Addr) (kvs : List (Key × V)), xs = [V.ref a] ∧ Rd H a (.dK kvs) ∧ Q (.int kvs.length) H
theorem cr_lenDR {X : Cx} : CallR X (.builtin "len") rLenDR := fun pins s σ H xs us Q I r h => by
  let ⟨a, kvs, e, ha, q⟩ := h
  subst e
  rw [Vals.ref1 r]
  exact d_len I ha fun t s' I' => ⟨.int kvs.length, H, I', ⟨t, rfl⟩, q⟩
theorem eo_dictOnes {ns : List Int} (g : GlOk S "dict") (hm : S.mg "dict" = none) (ha : EG S E e (.lst (ns.map onesT)) E1) (he : ∀ env, starEach [e] env = (false, eval e env) :: starEach [] env := by intro _; rfl) :
    EO S E (.Call (.Name "dict" p) [e] [] pos) (.dicK ((keysI ns).map Sum.inl) ((keysI ns).map fun _ => .int 1)) E1 :=
  eo_callTy (r := fun xs H Q => ∃ (a : Addr) (ps : List Addr) (kvs : List (Key × V)), xs = [.ref a] ∧ SqL S.K H a (ps.map V.ref) ∧ Paired (fun p kv => SqT S.K H p [kV kv.1, kv.2]) ps kvs ∧ ∀ p, H p = none → Q (.ref p) (upd H p (.dK (mergeK [] kvs)))) (fun W X hX => by rw [← hX.kk]; exact call_dictP hX.calm) (fun Z H σ E vs Q st r k => by
    obtain ⟨v, rfl, h⟩ := reps_one r
    obtain ⟨a, vs, rfl, q1, q2⟩ := rep_lst.mp h
    obtain ⟨as, rfl, pr⟩ := ones_of q2
    refine ⟨a, as, ns.map kOne, rfl, .inl (.inl (st.zh _ _ q1)), Paired.imp' (fun a b z => .inl (.inl (st.zh _ _ z))) pr, fun b hb => ?_⟩
    have e : mergeK [] (ns.map kOne) = (keysI ns).map kOne := mergeK_one ns []
    rw [e]
    have all : ∀ xs : List Int, Reps S.K Z (xs.map fun _ => T.int 1) (xs.map (Prod.snd ∘ kOne)) := by
      intro xs
      induction xs with
      | nil => exact .nil
      | cons x xs ih => exact .cons (rep_int.mpr rfl) ih
    exact k b _ hb ⟨by rw [List.map_map]; rfl, by rw [List.map_map]; exact all _⟩) g hm (by decide +kernel) (eas_cons ha eas_nil he) (by decide) he (by intro _; rfl)
theorem eg_dictOnes {ns : List Int} (g : GlOk S "dict") (hm : S.mg "dict" = none) (ha : EG S E e (.lst (ns.map onesT)) E1) (he : ∀ env, starEach [e] env = (false, eval e env) :: starEach [] env := by intro _; rfl) :
    EG S E (.Call (.Name "dict" p) [e] [] pos) (.dicK ((keysI ns).map Sum.inl) ((keysI ns).map fun _ => .int 1)) E1 := eg_o (eo_dictOnes g hm ha he)
theorem eg_lenDK {ks : List Key} {ts : List T} (g : GlOk S "len") (hm : S.mg "len" = none) (ha : EG S E e (.dicK ks ts) E1) (he : ∀ env, starEach [e] env = (false, eval e env) :: starEach [] env := by intro _; rfl) : EG S E (.Call (.Name "len" p) [e] [] pos) (.int (ks.length : Nat)) E1 :=
  eg_callB (r := rLenDR) (fun W X hX => cr_lenDR) (fun E Z H σ vs Q st r k => by
    obtain ⟨v, rfl, h⟩ := reps_one r
    obtain ⟨a, ob, kv, rfl, q1, rfl, _⟩ := rep_dicK.mp h
    exact ⟨a, kv, rfl, .inr ⟨ob, st.zh _ _ q1⟩, k _ _ _ (Go.refl st) (by rw [List.length_map]; exact rep_int.mpr rfl)⟩) g hm (by decide +kernel) (eas_cons ha eas_nil he) (by decide) he (by intro _; rfl)
/-! ### a <= b <= c as a value -/
theorem eg_chain {a b c : Expr} {op op' : CmpOp} {ta tb tc : T} {r r' : R2} {c1 c2 : Bool} (ho : ∀ W X, S.Has W X → OpR X (compareOp op) r) (ho' : ∀ W X, S.Has W X → OpR X (compareOp op') r') (hr : OpG S r ta tb (.bl c1)) (hr' : OpG S r' tb tc (.bl c2)) (ha : EG S E a ta E) (hb : EG S E b tb E) (hc : c1 = true → EG S E c tc E)
    (hm : lastMarks [op, op'] [b, c] = false := by with_unfolding_all rfl) : EG S E (.Compare a [op, op'] [b, c] pos) (.bl (c1 && c2)) E := fun W Z H σ Q st k => by
  refine R.mk (t := tChain r r' (R S W a) (R S W b) (R S W c)) (fun X hX => pe_chain (ho W X hX) (ho' W X hX) (hX.pe a) (hX.pe b) (hX.pe c) hm) (ha W Z H σ _ st fun v H1 Z1 g1 r1 => hb W Z1 H1 σ _ g1.st fun u H2 Z2 g2 r2 => hr _ _ _ _ _ _ _ g2.st (r1.mono g2.step.zz) r2 fun w H3 Z3 g3 r3 => ⟨c1, rep_bl.mp r3, ?_⟩)
  cases c1 with
  | true => exact iteT (hc rfl W Z3 H3 σ _ g3.st fun y H4 Z4 g4 r4 => hr' _ _ _ _ _ _ _ g4.st ((r2.mono g3.step.zz).mono g4.step.zz) r4 fun w' H5 Z5 g5 r5 => k _ _ _ ((((g1.trans g2).trans g3).trans g4).trans g5) r5)
  | false => exact iteF (k _ _ _ ((g1.trans g2).trans g3) (rep_bl.mpr rfl))
theorem pg_lele {a b c : Expr} {i j k : Int} (ha : EG S E a (.int i) E) (hb : EG S E b (.int j) E) (hc : EG S E c (.int k) E) (hm : lastMarks [.LtE, .LtE] [b, c] = false := by with_unfolding_all rfl) : EG S E (.Compare a [.LtE, .LtE] [b, c] pos) (.bl (decide (i ≤ j) && decide (j ≤ k))) E :=
  eg_chain (fun _ _ _ => op_le) (fun _ _ _ => op_le) (opg_rI0 fun _ => rep_bl.mpr rfl) (opg_rI0 fun _ => rep_bl.mpr rfl) ha hb (fun _ => hc) hm
end
/-! ### __init__, by its body -/
theorem sg_fldX {S : SS} {E E1 : List Ent} {value o : Expr} {f : Str} {pos pos' : Pos} {C : Addr} (h : EX S E value C E1) (hs : ∀ env, swapsWith value (some (.Attribute o f pos')) pos.line env = pure false := by intro _; rfl) : SG S E (.Assign [.Attribute o f pos'] value pos) (.exc C E1) := fun W Z H σ D s k =>
  RSt.mk (t := sFld S.K (R S W o) (R S W value) f) (fun X hX => by rw [← hX.kk]; exact ps_fld (hX.pe o) (hX.pe value) (hs _)) (h W Z H σ _ s fun H1 Z1 g1 => k _ _ _ g1)
section
variable {P : Program} {w : World} {K : PySem.W.Frag} {mg : Str → Option Value} {base : Heap} {qual : Str} {st : Stmt} {f : Addr} {fd : FuncData} {N ps : List Str} {k : Nat} {C : Addr} {ts us : List T} {fs : List Str}
abbrev initS (P : Program) (w : World) (K : PySem.W.Frag) (mg : Str → Option Value) (base : Heap) (k : Nat) (N : List Str) (sc : Scope) (C : Addr) (ts : List T) : SS := defS P w K mg base k N sc (.ow (.ins C [] []) :: ts.map Ent.sh)
theorem fin_init {E' : List Ent} (h0 : E'[0]? = some (.ow (.ins C fs us))) : FinA (.ow (.ins C [] []) :: ts.map Ent.sh) E' (.ow (.ins C fs us) :: ts.map Ent.sh) := by
  refine ⟨by simp, fun j t h => ?_, fun j t h => ?_⟩
  · cases j with
    | zero => cases h
    | succ j => exact h
  · cases j with
    | zero => cases h; exact ⟨h0, _, rfl⟩
    | succ j =>
      have h2 : (ts.map Ent.sh)[j]? = some (.ow t) := h
      rw [List.getElem?_map] at h2
      cases q : ts[j]? with
      | none => rw [q] at h2; cases h2
      | some u => rw [q] at h2; cases h2
theorem inits_of (E : List Ent) (F : FunA K "__init__" qual st f fd) (Sc : FnScope N ps (defScope st)) (hl : ts.length + 1 = ps.length) (hE : entry N (.ow (.ins C [] []) :: ts.map Ent.sh) = E)
    (hb : ∃ E', SGs (initS P w K mg base k N (defScope st) C ts) E (defBody st) (.nx E') ∧ E'[0]? = some (.ow (.ins C fs us))) : Inits P w K mg base (k + 1) f fd ps C ts fs us := by
  subst hE
  obtain ⟨E', h1, h2⟩ := hb
  exact fn_ok (N := N) (o := .nx E') F Sc (by rw [List.length_cons, List.length_map]; exact hl) (.nx (fin_init h2)) h1
theorem initErrs_of {X : Addr} (E : List Ent) (F : FunA K "__init__" qual st f fd) (Sc : FnScope N ps (defScope st)) (hl : ts.length + 1 = ps.length) (hE : entry N (.ow (.ins C [] []) :: ts.map Ent.sh) = E)
    (hb : ∃ E', SGs (initS P w K mg base k N (defScope st) C ts) E (defBody st) (.exc X E') ∧ ∃ fs us, E'[0]? = some (.ow (.ins C fs us))) : InitErrs P w K mg base (k + 1) f fd ps C ts X := by
  subst hE
  obtain ⟨E', h1, fs, us, h2⟩ := hb
  exact ⟨_, fn_ok (N := N) (o := .exc X E') F Sc (by rw [List.length_cons, List.length_map]; exact hl) (.exc (fin_init h2)) h1⟩
end
end Cw
end L2

set_option Elab.async false
set_option linter.all false
set_option maxRecDepth 100000
set_option maxHeartbeats 2000000
namespace L2
namespace Cw
open PySem PySem.Spec PyProof.Rows
/-! ### a comprehension, as a value and set to a name -/
structure LcD (S : SS) (E E2 : List Ent) (tg iter elt : Expr) (ifs : List Expr) (scope : Scope) (us : List T) : Prop where
  ex : ∃ (own : List (Str × Nat)) (ts : List T) (E1 : List Ent), BlkOk S.N S.sc scope own ∧ S.N.Nodup ∧ IG S E tg iter ts E1 ∧ NoOw E1 (own.map (·.2)) ∧ LcTurns (S.blk scope) (own.map (·.2)) tg ifs elt E1 ts us E2 ∧ ts.length ≤ 16777216
section
variable {S : SS} {E E2 : List Ent} {tg iter elt c : Expr} {ifs : List Expr} {scope : Scope} {us : List T} {pos px py : Pos} {x y : Str} {i j : Nat}
theorem LcD.eg (d : LcD S E E2 tg iter elt ifs scope us) (hs : ∀ env x, foldedSetIterable iter env x = pure x := by intro _ _; rfl) : EG S E (.ListComp elt [⟨tg, iter, ifs, 0⟩] scope pos) (.lst us) E2 := by
  obtain ⟨own, ts, E1, a, b, c, d, e, f⟩ := d.ex
  exact eg_lc a b c d e f hs
theorem LcD.set {z : Str} {m : Nat} {pz spos : Pos} (d : LcD S E E2 tg iter elt ifs scope us) (so : StoOk S m z) (hyl : S.sc.names.lookup z = some .local) (hk : S.sc.kind = .function) (hl : (pz.line == pos.line) = true)
    (hna : (scope.names.any fun (n, k) => n == z && (k == .local || k == .cell)) = false) (hlen : m < E2.length) (hs : ∀ env x, foldedSetIterable iter env x = pure x := by intro _ _; rfl) : SG S E (.Assign [.Name z pz] (.ListComp elt [⟨tg, iter, ifs, 0⟩] scope pos) spos) (.nx (E2.set m (.sh (.lst us)))) := by
  obtain ⟨own, ts, E1, a, b, c, d, e, f⟩ := d.ex
  exact sg_setLc so hyl hk hl hna a c d e f hlen hs
/-- a name that is a cell -/
theorem sw_cell {elt : Expr} {gs : List Comprehension} {scope : Scope} {p q : Pos} {z : Str} {l : Nat} {env : PySem.Env} (h : env.scope.names.lookup z = some .cell) : swapsWith (.ListComp elt gs scope p) (some (.Name z q)) l env = pure false := by
  have k : env.kindOf z = some .cell := h
  unfold swapsWith
  simp only [k]
  cases env.blockKind == .function <;> rfl
theorem LcD.setC {z : Str} {m : Nat} {pz spos : Pos} (d : LcD S E E2 tg iter elt ifs scope us) (so : StoOk S m z) (hyl : S.sc.names.lookup z = some .cell) (hlen : m < E2.length) (hs : ∀ env x, foldedSetIterable iter env x = pure x := by intro _ _; rfl) : SG S E (.Assign [.Name z pz] (.ListComp elt [⟨tg, iter, ifs, 0⟩] scope pos) spos) (.nx (E2.set m (.sh (.lst us)))) := fun W Z H σ D s k => by
  have a : AG S E2 (.Name z pz) (.lst us) (E2.set m (.sh (.lst us))) [m] := ag_name so hlen
  refine RSt.mk (t := tAsg (R S W _) (gName m)) (fun X hX => ?_) (d.eg (pos := pos) hs W Z H σ _ s fun v H1 Z1 g1 r => ?_)
  · have q := hX.sc
    have pe := hX.pe (.ListComp elt [⟨tg, iter, ifs, 0⟩] scope pos)
    obtain ⟨A, s0, H0, env, outer, stack, ex, pn, xe, rfl⟩ := hX.ex
    exact ps_set so.nd so.hN (by rw [q]; exact so.loc) pe (sw_cell (by rw [q]; exact hyl)) (by rw [q]; exact so.hf)
  · exact k _ _ _ (g1.trans (a.go (σ := σ) (g1.st.set r (by rw [g1.st.len]; exact hlen)) ⟨List.length_set, fun j hj => by rw [List.getElem?_set_ne (by simp at hj; exact fun e => hj e.symm)]⟩))
variable {α β : Type} {toT : α → T} {f : α → T} {xs : List α} {b : α → Bool}
theorem lcN (ok : BlkOk S.N S.sc scope [(x, i)]) (hN : S.N.Nodup) (so : StoOk (S.blk scope) i x) (hl : i < E.length) (no : ∀ t, E[i]? ≠ some (.ow t)) (hz : xs.length ≤ 16777216) (hi : IG S E (.Name x px) iter (xs.map toT) E)
    (he : ∀ a ∈ xs, EG (S.blk scope) (E.set i (.sh (toT a))) elt (f a) (E.set i (.sh (toT a)))) : LcD S E E (.Name x px) iter elt [] scope (xs.map f) := by
  refine ⟨_, _, E, ok, hN, hi, fun k hk t => ?_, LcTurns.mapT fun a ha => ⟨((wipeE E [i]).set i (.sh (toT a))), ((wipeE E [i]).set i (.sh (toT a))), [i], ag_name so (by rw [wipeE_length]; exact hl), fun k hk => hk, ?_, wipeE_set⟩, by rw [List.length_map]; exact hz⟩
  · have e : k = i := by simpa using hk
    subst e; exact no t
  · have e : (wipeE E [i]).set i (.sh (toT a)) = E.set i (.sh (toT a)) := by show (E.set i .no).set i _ = _; rw [List.set_set]
    rw [e]; exact he a ha
theorem lcNF (ok : BlkOk S.N S.sc scope [(x, i)]) (hN : S.N.Nodup) (so : StoOk (S.blk scope) i x) (hl : i < E.length) (no : ∀ t, E[i]? ≠ some (.ow t)) (hz : xs.length ≤ 16777216) (hi : IG S E (.Name x px) iter (xs.map toT) E)
    (hc : ∀ a ∈ xs, TtG (S.blk scope) (E.set i (.sh (toT a))) c (b a) (E.set i (.sh (toT a)))) (he : ∀ a ∈ xs, b a = true → EG (S.blk scope) (E.set i (.sh (toT a))) elt (f a) (E.set i (.sh (toT a)))) : LcD S E E (.Name x px) iter elt [c] scope ((xs.filter b).map f) := by
  have e : ∀ t, (wipeE E [i]).set i (.sh t) = E.set i (.sh t) := fun t => by show (E.set i .no).set i _ = _; rw [List.set_set]
  refine ⟨_, _, E, ok, hN, hi, fun k hk t => ?_, LcTurns.filterT fun a ha => ⟨((wipeE E [i]).set i (.sh (toT a))), ((wipeE E [i]).set i (.sh (toT a))), ((wipeE E [i]).set i (.sh (toT a))), [i], ag_name so (by rw [wipeE_length]; exact hl), fun k hk => hk, ?_, wipeE_set, fun hb => ⟨?_, wipeE_set⟩⟩, by rw [List.length_map]; exact hz⟩
  · have e : k = i := by simpa using hk
    subst e; exact no t
  · rw [e]; exact hc a ha
  · rw [e]; exact he a ha hb
end
end Cw
end L2

set_option Elab.async false
set_option linter.all false
set_option maxRecDepth 100000
set_option maxHeartbeats 2000000
namespace L2
namespace Cw
open PySem PySem.Spec PyProof.Rows
/-! ### a state that goes through the turns -/
def thr {α β σ : Type} (g : σ → α → β × σ) : List α → σ → List β × σ
  | [], s => ([], s)
  | a :: as, s => ((g s a).1 :: (thr g as (g s a).2).1, (thr g as (g s a).2).2)
def thrF {α σ : Type} (g : σ → α → Bool × σ) : List α → σ → List α × σ
  | [], s => ([], s)
  | a :: as, s => ((if (g s a).1 = true then a :: (thrF g as (g s a).2).1 else (thrF g as (g s a).2).1), (thrF g as (g s a).2).2)
section
variable {S : SS} {α β τ : Type} {toT : α → T} {f : β → T} {fa : α → T} {x : Str} {px : Pos} {i : Nat} {iter elt c : Expr} {scope : Scope} {E : List Ent} {Ev : τ → List Ent}
theorem wipe1 {e : List Ent} {t : T} : (wipeE e [i]).set i (.sh t) = e.set i (.sh t) := by show (e.set i .no).set i _ = _; rw [List.set_set]
theorem wipe2 {e : List Ent} {t : T} : wipeE (e.set i (.sh t)) [i] = wipeE e [i] := by show (e.set i _).set i _ = e.set i _; rw [List.set_set]
theorem ag_wipe {e : List Ent} {t : T} {S : SS} (so : StoOk S i x) (hl : i < e.length) : AG S (wipeE e [i]) (.Name x px) t (e.set i (.sh t)) [i] := by
  have h := ag_name (pos := px) (t := t) (E := wipeE e [i]) so (by rw [wipeE_length]; exact hl)
  rw [wipe1] at h
  exact h
theorem LcTurns.thr {g : τ → α → β × τ} (so : StoOk (S.blk scope) i x) (hl : ∀ s, i < (Ev s).length) (fix : ∀ s s', (Ev s)[i]? = (Ev s')[i]?) :
    ∀ {xs : List α} (s : τ), (∀ a ∈ xs, ∀ s, EG (S.blk scope) ((Ev s).set i (.sh (toT a))) elt (f (g s a).1) ((Ev (g s a).2).set i (.sh (toT a)))) → LcTurns (S.blk scope) [i] (.Name x px) [] elt (Ev s) (xs.map toT) ((Cw.thr g xs s).1.map f) (Ev (Cw.thr g xs s).2)
  | [], s, _ => .nil
  | a :: as, s, h => by
    have hf : ∀ j ∈ [i], (Ev (g s a).2)[j]? = (Ev s)[j]? := fun j hj => by
      have e : j = i := by simpa using hj
      subst e; exact fix _ _
    exact .take (ag_wipe so (hl s)) (fun k hk => hk) tgs_nil (h a List.mem_cons_self s) wipe2 hf (LcTurns.thr so hl fix (g s a).2 fun b hb => h b (List.mem_cons_of_mem _ hb))
theorem LcTurns.thrF {g : τ → α → Bool × τ} (so : StoOk (S.blk scope) i x) (hl : ∀ s, i < (Ev s).length) (fix : ∀ s s', (Ev s)[i]? = (Ev s')[i]?) :
    ∀ {xs : List α} (s : τ), (∀ a ∈ xs, ∀ s, TtG (S.blk scope) ((Ev s).set i (.sh (toT a))) c (g s a).1 ((Ev (g s a).2).set i (.sh (toT a)))) → (∀ a ∈ xs, ∀ s, EG (S.blk scope) ((Ev s).set i (.sh (toT a))) elt (fa a) ((Ev s).set i (.sh (toT a)))) →
      LcTurns (S.blk scope) [i] (.Name x px) [c] elt (Ev s) (xs.map toT) ((Cw.thrF g xs s).1.map fa) (Ev (Cw.thrF g xs s).2)
  | [], s, _, _ => .nil
  | a :: as, s, h, he => by
    have hf : ∀ j ∈ [i], (Ev (g s a).2)[j]? = (Ev s)[j]? := fun j hj => by
      have e : j = i := by simpa using hj
      subst e; exact fix _ _
    have r : LcTurns (S.blk scope) [i] (.Name x px) [c] elt (Ev (g s a).2) (as.map toT) ((Cw.thrF g as (g s a).2).1.map fa) (Ev (Cw.thrF g as (g s a).2).2) := LcTurns.thrF so hl fix (g s a).2 (fun b hb => h b (List.mem_cons_of_mem _ hb)) fun b hb => he b (List.mem_cons_of_mem _ hb)
    cases q : (g s a).1 with
    | false =>
      have e1 : Cw.thrF g (a :: as) s = Cw.thrF g as (g s a).2 := by simp [Cw.thrF, q]
      rw [e1]
      exact .skip (ag_wipe so (hl s)) (fun k hk => hk) (tgs_one (b := false) (by rw [← q]; exact h a List.mem_cons_self s)) wipe2 hf r
    | true =>
      have e1 : Cw.thrF g (a :: as) s = (a :: (Cw.thrF g as (g s a).2).1, (Cw.thrF g as (g s a).2).2) := by simp [Cw.thrF, q]
      rw [e1]
      exact .take (ag_wipe so (hl s)) (fun k hk => hk) (tgs_one (b := true) (by rw [← q]; exact h a List.mem_cons_self s)) (he a List.mem_cons_self (g s a).2) wipe2 hf r
theorem lcT {xs : List α} {g : τ → α → β × τ} (s : τ) (ok : BlkOk S.N S.sc scope [(x, i)]) (hN : S.N.Nodup) (so : StoOk (S.blk scope) i x) (hl : ∀ s, i < (Ev s).length) (fix : ∀ s s', (Ev s)[i]? = (Ev s')[i]?) (no : ∀ t, (Ev s)[i]? ≠ some (.ow t)) (hz : xs.length ≤ 16777216) (hi : IG S E (.Name x px) iter (xs.map toT) (Ev s))
    (he : ∀ a ∈ xs, ∀ s, EG (S.blk scope) ((Ev s).set i (.sh (toT a))) elt (f (g s a).1) ((Ev (g s a).2).set i (.sh (toT a)))) : LcD S E (Ev (thr g xs s).2) (.Name x px) iter elt [] scope ((thr g xs s).1.map f) :=
  ⟨_, _, _, ok, hN, hi, fun k hk t => by
    have e : k = i := by simpa using hk
    subst e; exact no t, LcTurns.thr so hl fix s he, by rw [List.length_map]; exact hz⟩
theorem lcTF {xs : List α} {g : τ → α → Bool × τ} (s : τ) (ok : BlkOk S.N S.sc scope [(x, i)]) (hN : S.N.Nodup) (so : StoOk (S.blk scope) i x) (hl : ∀ s, i < (Ev s).length) (fix : ∀ s s', (Ev s)[i]? = (Ev s')[i]?) (no : ∀ t, (Ev s)[i]? ≠ some (.ow t)) (hz : xs.length ≤ 16777216) (hi : IG S E (.Name x px) iter (xs.map toT) (Ev s))
    (hc : ∀ a ∈ xs, ∀ s, TtG (S.blk scope) ((Ev s).set i (.sh (toT a))) c (g s a).1 ((Ev (g s a).2).set i (.sh (toT a)))) (he : ∀ a ∈ xs, ∀ s, EG (S.blk scope) ((Ev s).set i (.sh (toT a))) elt (fa a) ((Ev s).set i (.sh (toT a)))) :
    LcD S E (Ev (thrF g xs s).2) (.Name x px) iter elt [c] scope ((thrF g xs s).1.map fa) :=
  ⟨_, _, _, ok, hN, hi, fun k hk t => by
    have e : k = i := by simpa using hk
    subst e; exact no t, LcTurns.thrF so hl fix s hc he, by rw [List.length_map]; exact hz⟩
end
/-! ### a, b = x, y and a, b, c = x, y, z -/
section
variable {S : SS} {E E1 : List Ent} {i j l : Nat} {x y z : Str} {a b c : Expr} {t u v : T} {px py pz pt pos : Pos} {kt k2 : Nat} {pt2 : Pos}
/-- neither all constants nor starred -/
def plainV (es : List Expr) : Bool := !(es.any fun | .Starred .. => true | _ => false) && !es.all (foldedForSure 8) && !es.all (constantsAlone 8)
theorem skip_if {c : Prop} [Decidable c] {γ : Type _} {p q r : γ} (h : ¬ c) (e : q = r) : (if c then p else q) = r := by rw [if_neg h, e]
theorem swap2 {env : PySem.Env} (hx : env.scope.names.lookup x = some .local) (hy : env.scope.names.lookup y = some .local) (hk : env.scope.kind = .function) (hl : (py.line == px.line) = true) (hne : ([x, y].eraseDups.length != 2) = false) (hp : plainV [a, b] = true) : swappedStores [.Tuple [.Name x px, .Name y py] kt pt] (.Tuple [a, b] k2 pt2) env = pure (some [x, y]) := by
  have kx : env.kindOf x = some .local := hx
  have kindY : env.kindOf y = some .local := hy
  have kb : env.blockKind = .function := by unfold PySem.Env.blockKind; rw [hk]; rfl
  unfold plainV at hp
  simp only [Bool.and_eq_true, Bool.not_eq_true'] at hp
  obtain ⟨⟨p1, p2⟩, p3⟩ := hp
  unfold swappedStores
  have kb2 : (env.blockKind != .function) = false := by rw [kb]; rfl
  have l0 : ((Expr.Name x px).pos.line) = px.line := rfl
  have nm : ∀ g : Expr → Option Str, g (.Name x px) = some x → g (.Name y py) = some y → [Expr.Name x px, Expr.Name y py].filterMap g = [x, y] := fun g h1 h2 => by rw [List.filterMap_cons_some h1, List.filterMap_cons_some h2, List.filterMap_nil]
  have f1 : ∀ n : Str, n = n := fun _ => rfl
  dsimp only
  refine skip_if (by rw [kb2]; simp) (skip_if (fun h => Bool.false_ne_true (p1.symm.trans h)) ?_)
  rw [nm _ (by simp [kx, l0]) (by simp only [kindY]; rw [show (Option.map (fun e : Expr => e.pos.line) [Expr.Name x px, Expr.Name y py].head?).getD 0 = px.line from rfl]; simp [hl])]
  exact skip_if (by rw [show ([x, y].length != [Expr.Name x px, Expr.Name y py].length) = false from rfl, show [x, y].length = 2 from rfl, hne]; decide) (skip_if (by rw [p2]; decide) (skip_if (by rw [p3]; decide) rfl))
theorem swap3 {env : PySem.Env} (hx : env.scope.names.lookup x = some .local) (hy : env.scope.names.lookup y = some .local) (hz : env.scope.names.lookup z = some .local) (hk : env.scope.kind = .function) (hl : (py.line == px.line) = true) (hl2 : (pz.line == px.line) = true) (hne : ([x, y, z].eraseDups.length != 3) = false) (hp : plainV [a, b, c] = true) : swappedStores [.Tuple [.Name x px, .Name y py, .Name z pz] kt pt] (.Tuple [a, b, c] k2 pt2) env = pure (some [x, y, z]) := by
  have kx : env.kindOf x = some .local := hx
  have kindY : env.kindOf y = some .local := hy
  have kz : env.kindOf z = some .local := hz
  have kb : env.blockKind = .function := by unfold PySem.Env.blockKind; rw [hk]; rfl
  unfold plainV at hp
  simp only [Bool.and_eq_true, Bool.not_eq_true'] at hp
  obtain ⟨⟨p1, p2⟩, p3⟩ := hp
  unfold swappedStores
  have kb2 : (env.blockKind != .function) = false := by rw [kb]; rfl
  have l0 : ((Expr.Name x px).pos.line) = px.line := rfl
  have nm : ∀ g : Expr → Option Str, g (.Name x px) = some x → g (.Name y py) = some y → g (.Name z pz) = some z → [Expr.Name x px, Expr.Name y py, Expr.Name z pz].filterMap g = [x, y, z] := fun g h1 h2 h3 => by rw [List.filterMap_cons_some h1, List.filterMap_cons_some h2, List.filterMap_cons_some h3, List.filterMap_nil]
  dsimp only
  refine skip_if (by rw [kb2]; simp) (skip_if (fun h => Bool.false_ne_true (p1.symm.trans h)) ?_)
  have lt : (Option.map (fun e : Expr => e.pos.line) [Expr.Name x px, Expr.Name y py, Expr.Name z pz].head?).getD 0 = px.line := rfl
  rw [nm _ (by simp [kx, l0]) (by simp only [kindY]; rw [lt]; simp [hl]) (by simp only [kz]; rw [lt]; simp [hl2])]
  exact skip_if (by rw [show ([x, y, z].length != [Expr.Name x px, Expr.Name y py, Expr.Name z pz].length) = false from rfl, show [x, y, z].length = 3 from rfl, hne]; decide) (skip_if (by rw [p2]; decide) (skip_if (by rw [p3]; decide) rfl))
/-- a, b = x, y -/
theorem sg_par2 (so1 : StoOk S i x) (so2 : StoOk S j y) (hx : S.sc.names.lookup x = some .local) (hy : S.sc.names.lookup y = some .local) (hk : S.sc.kind = .function) (h : EAs S E [a, b] [t, u] E1) (hi : i < E1.length) (hj : j < E1.length) (hl : (py.line == px.line) = true) (hij : i ≠ j := by decide) (hne : ([x, y].eraseDups.length != 2) = false := by decide) (hp : plainV [a, b] = true := by rfl)
    (hs : ∀ env, swapsWithSole [.Tuple [.Name x px, .Name y py] kt pt] (.Tuple [a, b] k2 pt2) pos.line env = pure false := by intro _; rfl) : SG S E (.Assign [.Tuple [.Name x px, .Name y py] kt pt] (.Tuple [a, b] k2 pt2) pos) (.nx ((E1.set i (.sh t)).set j (.sh u))) :=
  sg_par so1 so2 hij hx hy hk h hi hj fun X hc hN hsc ta ha => ps_par hc (by rw [hN]; exact so1.nd) (by rw [hN]; exact so1.hN) (by rw [hN]; exact so2.hN) hij (by rw [hsc]; exact hx) (by rw [hsc]; exact hy) ha (swap2 (by rw [hsc]; exact hx) (by rw [hsc]; exact hy) (by rw [hsc]; exact hk) hl hne hp) (hs _)
theorem sg_nx {st : Stmt} {E2 : List Ent} (h : SG S E st (.nx E1)) (e : E1 = E2) : SG S E st (.nx E2) := e ▸ h
theorem eg_to {e : Expr} {E2 : List Ent} (h : EG S E e t E1) (q : t = u) (q2 : E1 = E2) : EG S E e u E2 := q ▸ q2 ▸ h
theorem reps_3 {K : PySem.W.Frag} {Z : Hp} {vs : List V} (r : Reps K Z [t, u, v] vs) : ∃ v1 v2 v3, vs = [v1, v2, v3] ∧ Rep K Z t v1 ∧ Rep K Z u v2 ∧ Rep K Z v v3 := by
  obtain ⟨v1, r', rfl, h1, h2⟩ := r.uncons
  obtain ⟨v2, v3, rfl, h3, h4⟩ := reps_two h2
  exact ⟨v1, v2, v3, rfl, h1, h3, h4⟩
/-- a, b, c = x, y, z -/
theorem sg_par3 (so1 : StoOk S i x) (so2 : StoOk S j y) (so3 : StoOk S l z) (hx : S.sc.names.lookup x = some .local) (hy : S.sc.names.lookup y = some .local) (hz : S.sc.names.lookup z = some .local) (hk : S.sc.kind = .function) (h : EAs S E [a, b, c] [t, u, v] E1) (hi : i < E1.length) (hj : j < E1.length) (hl' : l < E1.length) (hl : (py.line == px.line) = true) (hl2 : (pz.line == px.line) = true) (hij : i ≠ j := by decide) (hil : i ≠ l := by decide) (hjl : j ≠ l := by decide) (hne : ([x, y, z].eraseDups.length != 3) = false := by decide) (hp : plainV [a, b, c] = true := by rfl)
    (hs : ∀ env, swapsWithSole [.Tuple [.Name x px, .Name y py, .Name z pz] kt pt] (.Tuple [a, b, c] k2 pt2) pos.line env = pure false := by intro _; rfl) : SG S E (.Assign [.Tuple [.Name x px, .Name y py, .Name z pz] kt pt] (.Tuple [a, b, c] k2 pt2) pos) (.nx (((E1.set i (.sh t)).set j (.sh u)).set l (.sh v))) := fun W Z H σ D s k => by
  refine RSt.mk (t := tPar3 i j l (RA S W [a, b, c])) (fun X hX => ?_) (h W Z H σ _ s fun vs H1 Z1 g1 r => ?_)
  · have pa := hX.pa [a, b, c]
    have hsc := hX.sc
    obtain ⟨A, s0, H0, env, outer, stack, ex, pn, xe, rfl⟩ := hX.ex
    exact ps_par3 rfl so1.nd so1.hN so2.hN so3.hN hij hil hjl (by rw [hsc]; exact hx) (by rw [hsc]; exact hy) (by rw [hsc]; exact hz) pa (swap3 (by rw [hsc]; exact hx) (by rw [hsc]; exact hy) (by rw [hsc]; exact hz) (by rw [hsc]; exact hk) hl hl2 hne hp) (hs _)
  · obtain ⟨v1, v2, v3, rfl, r1, r2, r3⟩ := reps_3 r
    have a1 : AG S E1 (.Name x px) t (E1.set i (.sh t)) [i] := ag_name so1 hi
    have a2 : AG S (E1.set i (.sh t)) (.Name y py) u ((E1.set i (.sh t)).set j (.sh u)) [j] := ag_name so2 (by rw [List.length_set]; exact hj)
    have a3 : AG S ((E1.set i (.sh t)).set j (.sh u)) (.Name z pz) v (((E1.set i (.sh t)).set j (.sh u)).set l (.sh v)) [l] := ag_name so3 (by rw [List.length_set, List.length_set]; exact hl')
    have ne : ∀ {m n : Nat}, m ∉ [n] → n ≠ m := fun h e => h (by rw [e]; exact List.mem_singleton.mpr rfl)
    refine ⟨v1, v2, v3, rfl, ?_⟩
    have s1 := g1.st.set r1 (i := i) (by rw [g1.st.len]; exact hi)
    have s2 := s1.set r2 (i := j) (by rw [List.length_set, g1.st.len]; exact hj)
    have s3 := s2.set r3 (i := l) (by rw [List.length_set, List.length_set, g1.st.len]; exact hl')
    exact k _ _ _ (((g1.trans (a1.go (σ := σ) s1 ⟨List.length_set, fun q hq => List.getElem?_set_ne (ne hq)⟩)).trans (a2.go s2 ⟨List.length_set, fun q hq => List.getElem?_set_ne (ne hq)⟩)).trans (a3.go s3 ⟨List.length_set, fun q hq => List.getElem?_set_ne (ne hq)⟩))
end
end Cw
end L2

set_option Elab.async false
set_option linter.all false
set_option maxRecDepth 100000
set_option maxHeartbeats 2000000
namespace L2
namespace Cw
open PySem PySem.Spec PyProof.Rows
/-! ### a lambda that takes nothing and captures nothing, as a value -/
/-- a code object of the name q -/
def codT (q : Str) : T := .ext (fun a _ _ h => ∃ (oc : Obj) (vs : Array Value) (t : Tok), h.get? a = some oc ∧ oc.data = .fields vs ∧ vs[1]? = some (.str q t)) [] []
def lamP (q : Str) (params : Arguments) (body : Expr) (scope : Scope) (a : Addr) (qs _vs : List V) (h : Heap) : Prop :=
  ∃ (c : Addr) (ct pm : Value), qs = [.ref c] ∧ h.get? a = some (PySem.W.kla_obj "<lambda>" q params body scope [] pm c ct)
def lamT (q : Str) (params : Arguments) (body : Expr) (scope : Scope) : T := .ext (lamP q params body scope) [codT q] []
section
variable {P : Program} {w : World} {K : PySem.W.Frag} {mg : Str → Option Value} {base : Heap} {q : Str} {params : Arguments} {body : Expr} {scope : Scope}
/-- called, its body is read in a frame of its own -/
theorem lam_goes {A : Around} {outer : List PySem.Env} {s : Shared} {H : Hp} {Q : VK} {Ex : XK} {k : Nat} {f c : Addr} {ct pm : Value} {t : TE} (hr : Room (k + 1) A) (e0 : Env0 P w K mg base A outer s H) (Sc : FnScope [] [] scope)
    (ho : s.heap.get? f = some (PySem.W.kla_obj "<lambda>" q params body scope [] pm c ct)) (hc : s.heap.CodeRec (.ref c) q) (hb : bindArgs (PySem.W.kla_fn "<lambda>" q params body scope [] pm (.ref c) ct) ⟨[], []⟩ = pure [])
    (pe : Room k (A.deeper (envOfC q scope s.heap.objs.size f (.ref c))) → PE (cxOf (L2.CX P w) P w K mg base [] q scope f (.ref c) A outer s H Ex) body t) (h : t [] H Q) :
    codeAny (model P w) A (.call (.ref f) ⟨[], []⟩) (CR (L2.CX P w) outer P w H s Q Ex) s := by
  have base0 := fun b o e => (e0.bs b o e).1
  have lim : s.heap.NoLimit := e0.mod.nolimit.keeps base0
  refine PySem.W.kla_callFunE hr.depth ho rfl Sc.co Sc.gen rfl hc ?_
  rw [hb]
  refine wpAny_pure (wpAny_newFunctionEnv_cells Sc.kind (fun y hy => absurd hy List.not_mem_nil) fun env he s1 x => ?_)
  subst he
  have I0 : Inv (cxOf (L2.CX P w) P w K mg base [] q scope f (.ref c) A outer s H Ex) [] (start [] []) H s1 := inv_start (ps := []) (us := []) (vs := []) Sc hr.hd e0 rfl .nil x
  refine And.intro (lim.keeps x.toInCall.keep) (PySem.W.kla_codeExpr (wpAny_mono ((pe (hr.deeper _)).run [] s1 [] H Q I0 h) (fun u s2 z => ?_) fun _ _ z => z))
  obtain ⟨v, H2, I2, rv, z⟩ := z
  exact ⟨v, H2, I2.os, I2.bare, I2.base, I2.hok, rv, z⟩
theorem lam_rep {Z : Hp} {v : V} (h : Rep K Z (lamT q params body scope) v) : ∃ (a c : Addr) (ct pm : Value) (vs : List V), v = .ref a ∧ Rd Z a (.ext (lamP q params body scope a [.ref c] vs)) ∧ Rep K Z (codT q) (.ref c) := by
  simp only [lamT, Rep] at h
  obtain ⟨a, qs, vs, rfl, h1, h2, _⟩ := h
  obtain ⟨v, r, rfl, h3, h4⟩ := h2.uncons
  rw [h4.unnil] at h1
  have h5 := h3
  simp only [codT, Rep] at h5
  obtain ⟨c, _, _, rfl, _⟩ := h5
  exact ⟨a, c, .none, .none, vs, rfl, h1, h3⟩
theorem cod_rep {X : Cx} {pins : List (Addr × Obj)} {σ : St} {Z H : Hp} {s : Shared} {c : Addr} (I : Inv X pins σ H s) (zh : Same Z H) (h : Rep K Z (codT q) (.ref c)) : s.heap.CodeRec (.ref c) q := by
  simp only [codT, Rep] at h
  obtain ⟨a, _, _, e, h1, _⟩ := h
  cases e
  obtain ⟨⟨oc, vs, t, e1, e2, e3⟩, _, _⟩ := (show ObjOk X.prog X.w H s.heap c (.ext _) from rd_of I.hok ((Same.lk zh).rd h1))
  exact ⟨c, oc, vs, t, rfl, e1, e2, e3⟩
end
section
variable {S : SS} {E : List Ent} {q x : Str} {params : Arguments} {body : Expr} {scope : Scope} {i k : Nat} {t : T} {C : Addr} {p pos : Pos}
theorem st_none {K : PySem.W.Frag} {Z H : Hp} {σ : St} (st : StOk K Z H σ E) : StOk K Z H [] [] := ⟨st.zh, st.nt, rfl, fun j _ h => by simp at h, fun j _ h => by simp at h, fun j _ _ _ _ h => by simp at h⟩
/-- x() where the name x holds such a lambda -/
theorem act_run {W : WX} {X : Cx} {pins : List (Addr × Obj)} {s : Shared} {Z H : Hp} {σ : St} {Q : VK} (v : VarOk S i x) (h : E[i]? = some (.sh (lamT q params body scope))) (Sc : FnScope [] [] scope) (hb : ∀ (c : Addr) (ct pm : Value), bindArgs (PySem.W.kla_fn "<lambda>" q params body scope [] pm (.ref c) ct) ⟨[], []⟩ = pure [])
    (hk : k + 1 ≤ S.k) (st : StOk S.K Z H σ E) (hX : S.Has W X) (I : Inv X pins σ H s) (kr : R (defP S.P S.w S.K S.mg S.base k [] scope) (fun cls d _ H' => W cls d σ H') body [] H Q) :
    wpAny (model X.prog X.w) X.A (eval (.Call (.Name x p) [] [] pos) X.env) (EP X pins σ Q) X.xe s := by
  obtain ⟨u0, e0, r0⟩ := st.sh i _ h
  have hr := hX.room.mono hk
  have hs := hX.sc
  have tk := hX.tk
  obtain ⟨A, s0, H0, env, outer, stack, ex, pn, xe, rfl⟩ := hX.ex
  refine wpAny_Call_Name_kw (thn ((pe_var (pos := p) v.hN (by rw [hs]; exact v.vis) v.h1 v.h2).run pins s σ H (fun u H1 => u = u0 ∧ H1 = H) I ⟨u0, e0, rfl, rfl⟩) fun u s1 z => ?_)
  obtain ⟨u1, H1, I1, ru, rfl, rfl⟩ := z
  obtain ⟨a, c, _, _, vs, rfl, rd, rc⟩ := lam_rep r0
  have eu : u = Value.ref a := ru
  subst eu
  obtain ⟨⟨c', ct, pm, e1, ho⟩, _, _⟩ := (show ObjOk S.P S.w H1 s1.heap a (.ext _) from rd_of I1.hok ((Same.lk st.zh).rd rd))
  cases e1
  refine PySem.W.callWith_F0 ⟨_, _, _, _, ho⟩ ?_
  refine wpAny_call (codeAny_mono (lam_goes (Ex := fun cls d H' => W cls d σ H') hr I1.env0 Sc ho (cod_rep I1 st.zh rc) (hb c ct pm) (fun hr' => SS.Has.pe (S := defP S.P S.w S.K S.mg S.base k [] scope) (W := fun cls d _ H' => W cls d σ H') ⟨⟨_, _, _, _, _, _, _, _, _, rfl⟩, hr', rfl, takes_of rfl rfl rfl rfl, passes_of rfl⟩ body) kr) fun r s' z => ?_)
  cases r with
  | error e => exact passAt tk σ _ _ _ _ _ I1 z
  | ok fl =>
    cases fl with
    | ret u => exact I1.after z
    | next => exact z.elim
    | brk => exact z.elim
    | cont => exact z.elim
theorem act_back {Z H Z' H' : Hp} {σ : St} (st : StOk S.K Z H σ E) {S' : SS} (g : Go S' [] [] Z H [] [] Z' H') (hK : S'.K = S.K) : Go S E σ Z H E σ Z' H' := by
  have g2 : GoA S.K (([] : List AD).map AD.ent ++ ([] : List T).map Ent.sh) ([] ++ []) Z H [] Z' H' := ⟨g.step, by have := g.st; rw [hK] at this; exact this⟩
  have r1 : AdsOk S.K Z σ ([] : List AD) [] := rfl
  have := call_back (ds := []) (dts := []) (ws := []) st r1 (fun _ _ _ z => by simp at z) List.nodup_nil g2 (fun _ _ _ z => by simp at z)
  simpa [updE] using this
/-- .. gives t -/
theorem eg_act (v : VarOk S i x) (h : E[i]? = some (.sh (lamT q params body scope))) (Sc : FnScope [] [] scope) (hb : ∀ (c : Addr) (ct pm : Value), bindArgs (PySem.W.kla_fn "<lambda>" q params body scope [] pm (.ref c) ct) ⟨[], []⟩ = pure [])
    (hk : k + 1 ≤ S.k) (G : EG (defP S.P S.w S.K S.mg S.base k [] scope) [] body t []) : EG S E (.Call (.Name x p) [] [] pos) t E := fun W Z H σ Q st kq X hX pins s I =>
  act_run v h Sc hb hk st hX I (G _ Z H [] Q (st_none st) fun u H' Z' g r => kq u H' Z' (act_back st g rfl) r)
/-- e raises an error of the class at C, in a frame that passes all on -/
def EXi (S : SS) (E : List Ent) (e : Expr) (C : Addr) (E' : List Ent) : Prop :=
  ∀ (W : XK) (Z H : Hp) (σ : St) (Q : VK), StOk S.K Z H σ E → (∀ H' Z', Go S E σ Z H E' σ Z' H' → W (.ref C) none H') → R S (fun cls d _ H' => W cls d H') e σ H Q
theorem ex_i {e : Expr} {E' : List Ent} (h : EX S E e C E') : EXi S E e C E' := fun W Z H σ Q st k => h _ Z H σ Q st k
/-- .. raises an error of the class at C -/
theorem ex_act (v : VarOk S i x) (h : E[i]? = some (.sh (lamT q params body scope))) (Sc : FnScope [] [] scope) (hb : ∀ (c : Addr) (ct pm : Value), bindArgs (PySem.W.kla_fn "<lambda>" q params body scope [] pm (.ref c) ct) ⟨[], []⟩ = pure [])
    (hk : k + 1 ≤ S.k) (G : EXi (defP S.P S.w S.K S.mg S.base k [] scope) [] body C []) : EX S E (.Call (.Name x p) [] [] pos) C E := fun W Z H σ Q st kq X hX pins s I =>
  act_run v h Sc hb hk st hX I (G (fun cls d H' => W cls d σ H') Z H [] Q (st_none st) fun H' Z' g => kq H' Z' (act_back st g rfl))
theorem make_gone {C0 : Addr} {ts : List T} {Z H Z' H' : Hp} {σ : St} {vs : List V} {y dx : Addr} {as' : List Ent} (st : StOk S.K Z H σ E) (hx : H y = none) (hdx : H dx = none)
    (g : GoA S.K (.ow (.ins C0 [] []) :: ts.map Ent.sh) (V.ref y :: vs) Z (upd (upd H dx (.own y)) y (.ins C0 dx [])) as' Z' H') : ∃ Z3, Go S E σ Z H E σ Z3 H' := by
  obtain ⟨s1, s2⟩ := make_step st hx hdx g
  have sub : ∀ {b u}, (if b = y then none else Z' b) = some u → Z' b = some u := fun {b u} e => by
    split at e
    · cases e
    · exact e
  refine ⟨_, ⟨s1.zz, fun b u e _ => s1.keep b u e id, fun b u e => ?_⟩, ⟨fun b u e => g.st.zh b u (sub e), fun b ps e => g.st.nt b ps (sub e), st.len, fun i t h => ?_, fun i t h => ?_, st.ds⟩, fun _ h => .inl h, fun _ _ => rfl⟩
  · rcases s1.new b u e with z | z | z
    · exact .inl z
    · exact .inr (.inl z)
    · exact z.elim
  · obtain ⟨v, e1, e2⟩ := st.sh i t h
    exact ⟨v, e1, e2.mono s1.zz⟩
  · obtain ⟨a, o2, e1, e2, e3, e4, _⟩ := s2 i t h
    exact ⟨a, o2, e1, e2, e3, e4.mono s1.zz⟩
/-- C(args) where __init__ refuses -/
theorem ex_make {C0 fa : Addr} {fd : FuncData} {ps : List Str} {ts : List T} {E1 : List Ent} {e : Expr} {es : List Expr} (M : Mk S.K C0 fa) (g : GlOk S x) (hm : S.mg x = some (.ref C0)) (hb : Binds S.K fd ps []) (F : InitErrs S.P S.w S.K S.mg S.base k fa fd ps C0 ts C) (hk : k + 1 ≤ S.k) (ha : EAs S E (e :: es) ts E1)
    (he : ∀ env, starEach (e :: es) env = (false, eval e env) :: starEach es env := by intro _; rfl) (hpl : ∀ env, (backTo pos (starEach es env)).any (·.1) = false := by intro _; rfl) : EXi S E (.Call (.Name x p) (e :: es) [] pos) C E1 := fun W Z H σ Q st kq => by
  obtain ⟨as', F⟩ := F
  refine R.mk (t := tMake C0 (spOf S.K (.ow (.ins C0 [] []) :: ts.map Ent.sh) (.exc C as')) [] W (RA S (fun cls d _ H' => W cls d H') (e :: es))) (fun X hX => ?_) (ha _ Z H σ _ st fun vs H1 Z1 g1 r1 y dx hx hdx ne => ?_)
  · have gg := g.at hX
    have pa := hX.pa (e :: es)
    have hr := hX.room.mono hk
    have tk := hX.tk
    obtain ⟨A, s0, H0, env, outer, stack, ex, pn, xe, rfl⟩ := hX.ex
    exact pe_make (CX := L2.CX S.P S.w) M F hr gg hm hb .nil (passes_call tk fun _ _ _ _ h => h) pa g.h1 (he _) (hpl _)
  · rw [List.append_nil]
    refine ⟨Z1, make_st g1.st hx hdx ne r1, fun H2 Z2 g2 => ?_⟩
    obtain ⟨Z3, g3⟩ := make_gone g1.st hx hdx g2
    exact kq H2 Z3 (g1.trans g3)
end
end Cw
end L2

set_option Elab.async false
set_option linter.all false
set_option maxRecDepth 100000
set_option maxHeartbeats 2000000
namespace L2
namespace Cw
open PySem PySem.Spec PyProof.Rows
/-! ### a def that is one try: what was raised, told by a word -/
/-- the clauses: each names a class and gives a word -/
inductive Hds (sc : Scope) (mg : Str → Option Value) : List ExceptHandler → List (Addr × Str) → Prop
  | nil : Hds sc mg [] []
  | cons {x : Str} {C : Addr} {ret : Str} {p1 p2 p3 p4 : Pos} {j : Nat} {hds : List ExceptHandler} {hs : List (Addr × Str)} (g : sc.names.lookup x = some .globalImplicit) (h1 : (x == ("__debug__" : Str)) = false) (hm : mg x = some (.ref C)) (r : Hds sc mg hds hs) :
      Hds sc mg (.ExceptHandler (some (.Name x p1)) none [.Return (some (.Constant (.str ret) j p2)) p3] p4 :: hds) ((C, ret) :: hs)
/-- the first clause that fits an error of the class at C gives the word w -/
inductive Catch (K : PySem.W.Frag) (C : Addr) : List (Addr × Str) → Str → Prop
  | here {D : Addr} {w : Str} {hs : List (Addr × Str)} (h : PySem.W.exmOne K (.ref C) (.ref D) = some true) : Catch K C ((D, w) :: hs) w
  | skip {D : Addr} {w v : Str} {hs : List (Addr × Str)} (h : PySem.W.exmOne K (.ref C) (.ref D) = some false) (r : Catch K C hs w) : Catch K C ((D, v) :: hs) w
def tellW (hs : List (Addr × Str)) : List (Value × (Addr → Value → Option Addr → TS)) := hs.map fun p => (.ref p.1, fun _ _ _ => tRet (tC (.str p.2)))
theorem Hds.ok {X : Cx} {sc : Scope} {mg : Str → Option Value} {hds : List ExceptHandler} {hs : List (Addr × Str)} (h : Hds sc mg hds hs) (hsc : X.env.scope = sc) (hm : X.mg = mg) : HdsOk X hds (tellW hs) := by
  induction h with
  | nil => exact .nil
  | cons g h1 m _ ih => exact .cons ⟨by unfold Gl PySem.Env.kindOf; rw [hsc]; exact g, h1, .inl (by rw [hm]; exact m)⟩ (fun a oe cls d pn _ _ => pss_one (ps_ret pe_str)) ih
theorem Catch.tells {K : PySem.W.Frag} {C : Addr} {hs : List (Addr × Str)} {w : Str} {Wo : WX} {D : Ends} {d : Option Addr} {σ : St} {H : Hp} (c : Catch K C hs w) (h : D.rt (.str w) H) : wMany K Wo D (tellW hs) (.ref C) d σ H := by
  induction c with
  | here e => exact ⟨true, e, fun _ _ _ => h, fun z => absurd z (by decide)⟩
  | skip e _ ih => exact ⟨false, e, fun z => absurd z (by decide), fun _ => ih h⟩
section
variable {P : Program} {w : World} {K : PySem.W.Frag} {mg : Str → Option Value} {base : Heap} {x qual : Str} {st : Stmt} {f : Addr} {fd : FuncData} {N ps : List Str} {k : Nat} {as E1 : List Ent} {hs : List (Addr × Str)} {body : List Stmt} {h₀ : ExceptHandler} {hds : List ExceptHandler} {pos : Pos} {o : Oc} {t : T} {C : Addr} {wd : Str}
/-- what the body leaves is what the def gives -/
inductive Told (K : PySem.W.Frag) (hs : List (Addr × Str)) : Oc → T → Prop
  | ret {t : T} {E1 : List Ent} : Told K hs (.ret t E1) t
  | exc {C : Addr} {wd : Str} {E1 : List Ent} (c : Catch K C hs wd) : Told K hs (.exc C E1) (.str wd)
theorem told_fn {ts : List T} (F : FunA K x qual st f fd) (Sc : FnScope N ps (defScope st)) (hl : ts.length = ps.length) (hb : defBody st = [.Try body (h₀ :: hds) [] [] pos]) (hh : Hds (defScope st) mg (h₀ :: hds) hs) (ho : Told K hs o t)
    (hs' : SGs (defP P w K mg base k N (defScope st)) (entry N (ts.map Ent.sh)) body o) : Gives P w K mg base (k + 1) f fd ps ts t := by
  obtain ⟨_, _, dv, kv, dc, pm, an, code, ct, _, rfl, lk, hcd⟩ := F.ex
  refine fn_of lk hcd Sc (fun vs H Q E h => (spOf_len h).trans (by rw [List.length_map]; exact hl)) (fun A outer s H vs Q Ex hr h => ?_)
  rw [hb]
  obtain ⟨Z, st0, kq⟩ := h
  refine ⟨_, pss_one (ps_try_many (Wout := fun _ _ _ _ => False) rfl rfl takes_none5 (tb := fun W => RSs (defP P w K mg base k N (defScope st)) W body) (fun W pn xe tk po => ⟨fun pins s' σ H' D I q => q _ ⟨⟨_, _, _, _, _, _, _, _, _, rfl⟩, hr, rfl, tk, po⟩ pins s' I⟩) (hh.ok rfl rfl)), ?_⟩
  refine hs' _ Z H (start N vs) _ (entry_st st0).1 ?_
  have fin : ∀ {σ' Z' H' E'}, Go (defP P w K mg base k N (defScope st)) (entry N (ts.map Ent.sh)) (start N vs) Z H E' σ' Z' H' → GoA K (ts.map Ent.sh) vs Z H (ts.map Ent.sh) Z' H' := fun g => exit_st rfl (by rw [pins_sh]) st0 g (.all sh_all)
  cases ho with
  | ret => exact fun v σ' Z' H' g r => kq v H' Z' (fin g) r
  | exc c => exact fun σ' Z' H' g => c.tells (kq (.str _) H' Z' (fin g) (rep_str.mpr rfl))
end
end Cw
end L2

set_option Elab.async false
set_option linter.all false
set_option maxRecDepth 100000
set_option maxHeartbeats 2000000
namespace L2
namespace Cw
open PySem PySem.Spec PyProof.Rows LamX
/-! ### the law's own level: lambdas may be made, so that tables of code are written -/
def RLt (S : SS) (L : Cx → Prop) (W : WX) (st : Stmt) : TS := fun D σ H => ∀ X, S.Has W X → L X → ∀ pins s, Inv X pins σ H s → wpAny (model X.prog X.w) X.A (exec st X.env) (SP X pins D) X.xe s
def RLs (S : SS) (L : Cx → Prop) (W : WX) (sts : List Stmt) : TS := fun D σ H => ∀ X, S.Has W X → L X → ∀ pins s, Inv X pins σ H s → wpAny (model X.prog X.w) X.A (execs sts X.env) (SP X pins D) X.xe s
def Oc.OkL (S : SS) (T : List (Addr × Str)) (Z : Hp) (D : Ends) : Oc → Prop
  | .nx E' => ∀ σ' Z' H', Same Z Z' → StOk S.K Z' H' σ' E' → Tabs T H' → D.nx σ' H'
  | .ret t _ => ∀ v Z' H', Rep S.K Z' t v → Same Z' H' → D.rt v H'
  | .brk E' => ∀ σ' Z' H', Same Z Z' → StOk S.K Z' H' σ' E' → Tabs T H' → D.bk σ' H'
  | .cnt E' => ∀ σ' Z' H', Same Z Z' → StOk S.K Z' H' σ' E' → Tabs T H' → D.ct σ' H'
  | .exc _ _ => False
def LG (S : SS) (L : Cx → Prop) (T : List (Addr × Str)) (E : List Ent) (st : Stmt) (o : Oc) : Prop :=
  ∀ (W : WX) (Z H : Hp) (σ : St) (D : Ends), StOk S.K Z H σ E → Tabs T H → o.OkL S T Z D → RLt S L W st D σ H
def LGs (S : SS) (L : Cx → Prop) (T : List (Addr × Str)) (E : List Ent) (sts : List Stmt) (o : Oc) : Prop :=
  ∀ (W : WX) (Z H : Hp) (σ : St) (D : Ends), StOk S.K Z H σ E → Tabs T H → o.OkL S T Z D → RLs S L W sts D σ H
/-- what is owned is lists -/
def OwL (E : List Ent) : Prop := ∀ (i : Nat) (t : T), E[i]? = some (.ow t) → ∃ ts, t = .lst ts
section
variable {S : SS} {L : Cx → Prop} {T : List (Addr × Str)} {E E1 E2 : List Ent} {o : Oc} {st : Stmt} {sts : List Stmt} {K : PySem.W.Frag} {Z Z' H H' : Hp} {σ σ' : St}
theorem RLt.mk {W : WX} {t : TS} {D : Ends} (h : ∀ X, S.Has W X → L X → PS X st t) (q : t D σ H) : RLt S L W st D σ H := fun X hX hL pins s I => (h X hX hL).run pins s σ H D I q
theorem RLs.mk {W : WX} {t : TS} {D : Ends} (h : ∀ X, S.Has W X → L X → PSs X sts t) (q : t D σ H) : RLs S L W sts D σ H := fun X hX hL pins s I => (h X hX hL).run pins s σ H D I q
theorem RLt.ps {W : WX} {X : Cx} (hX : S.Has W X) (hL : L X) : PS X st (RLt S L W st) := ⟨fun pins s σ H D I q => q X hX hL pins s I⟩
theorem RLs.pss {W : WX} {X : Cx} (hX : S.Has W X) (hL : L X) : PSs X sts (RLs S L W sts) := ⟨fun pins s σ H D I q => q X hX hL pins s I⟩
theorem not_own {b : Addr} {u : HO} (st : StOk K Z H σ E) (ow : OwL E) (h : H b = some u) (hu : ∀ vs, u ≠ .lst vs) : ¬ Own σ E b := fun ⟨i, t, h1, h2⟩ => by
  obtain ⟨a, ob, e1, e2, _, e4⟩ := st.ow i t h1
  rw [h2] at e1
  cases e1
  rw [h] at e2
  cases e2
  obtain ⟨ts, rfl⟩ := ow i t h1
  cases u with
  | lst vs => exact hu vs rfl
  | _ => exact e4
theorem tabs_go (g : Go S E σ Z H E1 σ' Z' H') (st : StOk S.K Z H σ E) (ow : OwL E) (h : Tabs T H) : Tabs T H' := fun p hp => by
  obtain ⟨ps, h1, h2, h3⟩ := h p hp
  refine ⟨ps, g.step.keep _ _ h1 (not_own st ow h1 fun vs z => by cases z), h2, fun pos cv hc => ?_⟩
  obtain ⟨co, is, at_⟩ := h3 pos cv hc
  exact ⟨co, is, g.step.keep _ _ at_ (not_own st ow at_ fun vs z => by cases z)⟩
theorem lg_of (h : SG S E st o) (ow : OwL E) : LG S L T E st o := fun W Z H σ D s tb k => by
  refine fun X hX _ pins s' I => (h W Z H σ D s ?_) X hX pins s' I
  cases o with
  | nx E' => exact fun σ' Z' H' g => k σ' Z' H' g.step.zz g.st (tabs_go g s ow tb)
  | ret t E' => exact fun v σ' Z' H' g r => k v Z' H' r g.st.zh
  | exc C E' => exact k.elim
  | brk E' => exact fun σ' Z' H' g => k σ' Z' H' g.step.zz g.st (tabs_go g s ow tb)
  | cnt E' => exact fun σ' Z' H' g => k σ' Z' H' g.step.zz g.st (tabs_go g s ow tb)
theorem Oc.OkL.up {D : Ends} (e : Same Z Z') (k : o.OkL S T Z D) : o.OkL S T Z' D := by
  cases o with
  | nx E' => exact fun σ' Z1 H' g => k σ' Z1 H' (e.trans g)
  | ret t E' => exact k
  | exc C E' => exact k.elim
  | brk E' => exact fun σ' Z1 H' g => k σ' Z1 H' (e.trans g)
  | cnt E' => exact fun σ' Z1 H' g => k σ' Z1 H' (e.trans g)
theorem lgs_nil : LGs S L T E [] (.nx E) := fun W Z H σ D s tb k => RLs.mk (fun X _ _ => pss_nil) (show tNext D σ H from k σ Z H (Same.refl Z) s tb)
theorem lgs_cons (h1 : LG S L T E st (.nx E1)) (h2 : LGs S L T E1 sts o) : LGs S L T E (st :: sts) o := fun W Z H σ D s tb k =>
  RLs.mk (t := tSeq (RLt S L W st) (RLs S L W sts)) (fun X hX hL => pss_cons (RLt.ps hX hL) (RLs.pss hX hL)) (h1 W Z H σ _ s tb fun σ1 Z1 H1 e st1 tb1 => h2 W Z1 H1 σ1 D st1 tb1 (k.up e))
theorem lgs_stop (h1 : LG S L T E st o) (ho : o.Stops) : LGs S L T E (st :: sts) o := fun W Z H σ D s tb k =>
  RLs.mk (t := tSeq (RLt S L W st) (RLs S L W sts)) (fun X hX hL => pss_cons (RLt.ps hX hL) (RLs.pss hX hL)) (h1 W Z H σ _ s tb (by cases o with
    | nx _ => exact ho.elim
    | ret t E' => exact k
    | exc C E' => exact k.elim
    | brk E' => exact k
    | cnt E' => exact k))
theorem lg_nx (h : LG S L T E st (.nx E1)) (e : E1 = E2) : LG S L T E st (.nx E2) := e ▸ h
theorem lg_if {c : Expr} {a b : List Stmt} {d : Bool} {pos : Pos} (hc : TtG S E c d E1) (ow : OwL E) (ha : d = true → LGs S L T E1 a o) (hb : d = false → LGs S L T E1 b o) : LG S L T E (.If c a b pos) o := fun W Z H σ D s tb k =>
  RLt.mk (t := tIfS (RT S W c) (RLs S L W a) (RLs S L W b)) (fun X hX hL => ps_if (hX.pt c) (RLs.pss hX hL) (RLs.pss hX hL)) (hc W Z H σ _ s fun H1 Z1 g => by
    cases d with
    | true => exact iteT (ha rfl W Z1 H1 σ D g.st (tabs_go g s ow tb) (k.up g.step.zz))
    | false => exact iteF (hb rfl W Z1 H1 σ D g.st (tabs_go g s ow tb) (k.up g.step.zz)))
end
end Cw
end L2

set_option Elab.async false
set_option linter.all false
set_option maxRecDepth 100000
set_option maxHeartbeats 2000000
namespace L2
namespace Cw
open PySem PySem.Spec PyProof.Rows LamX
/-! ### the making of a lambda that captures nothing -/
theorem clo_none {cells : List (Str × Addr)} : ∀ {names : List (Str × NameKind)} {acc : List (Str × Addr)}, (∀ y ∈ names, y.2 ≠ .free) → cloFrom cells names acc = acc
  | [], _, _ => rfl
  | (n, k) :: r, acc, h => by
    have hk : k ≠ .free := h _ List.mem_cons_self
    have ih := clo_none (cells := cells) (names := r) (acc := acc) fun y hy => h y (List.mem_cons_of_mem _ hy)
    cases k <;> first | exact absurd rfl hk | (unfold cloFrom; exact ih)
section
variable {X : Cx} {pins : List (Addr × Obj)} {σ : St} {H : Hp} {s : Shared} {q : Str} {params : Arguments} {body : Expr} {scope : Scope} {pos : Pos} {c P : Addr}
/-- the code object is there already, or it is new and told by the table -/
inductive CodeAt (P : Addr) (q : Str) (H : Hp) (c : Addr) : Hp → Prop
  | old (h : H c = some (CodeO c q)) : CodeAt P q H c H
  | new {ps ps' : Array Value} (hP : H P = some (.tbl ps)) (hc : H c = none) : CodeAt P q H c (upd (upd H P (.tbl ps')) c (CodeO c q))
theorem CodeAt.at {H1 : Hp} {c' : Addr} (h : CodeAt P q H c' H1) : H1 c' = some (CodeO c' q) := by
  cases h with
  | old h => exact h
  | new _ _ => exact upd_same
theorem lam_laid {f c' : Addr} {ct pm : Value} {H1 : Hp} {h' : Heap} {tk : Nat} (I : Inv X pins σ H1 { s with heap := h', toks := tk }) (e : f = h'.objs.size) :
    Inv X pins σ (upd H1 f (.ext (lamP q params body scope f [.ref c'] []))) { s with heap := h'.push (PySem.W.kla_obj "<lambda>" q params body scope [] pm c' ct), toks := tk } := by
  subst e
  have at_ : (h'.push (PySem.W.kla_obj "<lambda>" q params body scope [] pm c' ct)).get? h'.objs.size = some (PySem.W.kla_obj "<lambda>" q params body scope [] pm c' ct) := Heap.get?_push_size _ rfl
  exact I.laid (t' := tk) (fun b o e => Heap.get?_push_of_some _ e) (Nat.le_refl _) ⟨⟨c', ct, pm, rfl, at_⟩, ⟨_, at_⟩, fun h1 h2 ⟨d, x, y, e1, e2⟩ k => ⟨d, x, y, e1, k _ e2⟩⟩
theorem lam_made {Q E : Value → Shared → Prop} (I : Inv X pins σ H s) (TB : TabB X.base X.mg c P) (hcode : X.env.code = .ref c) (hq : X.env.qual ++ "<lambda>" = q) (hT : TabS H P q) (hdef : defaultsOf params X.env = ([], [])) (nf : ∀ y ∈ scope.names, y.2 ≠ .free)
    (h : ∀ (f c' : Addr) (H1 : Hp) (s' : Shared), CodeAt P q H c' H1 → TabS H1 P q → H1 f = none → Inv X pins σ (upd H1 f (.ext (lamP q params body scope f [.ref c'] []))) s' → Q (.ref f) s') : wpAny (model X.prog X.w) X.A (eval (.Lambda params body scope pos) X.env) Q E s := by
  subst hq
  obtain ⟨ps, hP, tri, told⟩ := hT
  have tb := I.hok P _ hP
  have cl : closureFor scope X.env = pure [] := (closure_ok fun y hy z => absurd z (nf y hy)).trans (by rw [clo_none nf])
  have built : s.heap.BuiltinsAt X.mg P := TB.bm.keeps I.bk
  apply PySem.W.kla_eval hdef
  rcases hc : codeAmong pos ps.toList with _ | cv
  · refine PySem.W.kla_makeFunction cl I.ok.glob (I.mod.glob.keeps I.bk) hcode (TB.code.keeps I.bk) tb tri hc TB.gP built fun c' ct h' tk but ge lt rec tab => ?_
    obtain ⟨_, oc, vs, t, e0, rest⟩ := rec
    cases e0
    have fresh : H c' = none := I.hok.fresh ge
    have I1 := inv_table (t' := tk) I hP (fun b o nb e => but b o nb e) tab ge ⟨oc, vs, t, rest⟩
    refine h _ c' _ _ (.new hP fresh) ⟨_, by rw [upd_ne (ne_of_none hP fresh), upd_same], by rw [Array.toList_append]; exact PySem.TriplesOk_snoc _ _ _ _ tri, fun p cv hcv => ?_⟩ (I1.hok.fresh (Nat.le_refl _)) (lam_laid I1 rfl)
    rw [Array.toList_append] at hcv
    rcases among_app _ tri hcv with z | z
    · obtain ⟨c0, e1, e2⟩ := told p cv z
      exact ⟨c0, e1, by rw [upd_ne (ne_of_none e2 fresh), upd_ne (fun z => by rw [z, hP] at e2; cases e2)]; exact e2⟩
    · exact ⟨c', z, upd_same⟩
  · obtain ⟨c', rfl, hco⟩ := told pos cv hc
    refine PySem.W.kla_makeFunctionHit cl I.ok.glob (I.mod.glob.keeps I.bk) hcode (TB.code.keeps I.bk) tb tri hc built fun ct h' tk all ge => ?_
    have I1 : Inv X pins σ H { s with heap := h', toks := tk } := I.kept all
    exact h _ c' H _ (.old hco) ⟨ps, hP, tri, told⟩ (I1.hok.fresh (Nat.le_refl _)) (lam_laid I1 rfl)
end
end Cw
end L2

set_option Elab.async false
set_option linter.all false
set_option maxRecDepth 100000
set_option maxHeartbeats 2000000
namespace L2
namespace Cw
open PySem PySem.Spec PyProof.Rows LamX
/-- what is known of the law's frame: its code object, its name -/
def LawF (c : Addr) (q : Str) (X : Cx) : Prop := X.env.code = .ref c ∧ X.env.qual ++ "<lambda>" = q
def RLe (S : SS) (L : Cx → Prop) (W : WX) (e : Expr) : TE := fun σ H Q => ∀ X, S.Has W X → L X → ∀ pins s, Inv X pins σ H s → wpAny (model X.prog X.w) X.A (eval e X.env) (EP X pins σ Q) X.xe s
def RLa (S : SS) (L : Cx → Prop) (W : WX) (es : List Expr) : TA := fun σ H Q => ∀ X, S.Has W X → L X → ∀ pos pins s, Inv X pins σ H s → wpAny (model X.prog X.w) X.A (spliced (backTo pos (starEach es X.env))) (AP X pins σ Q) X.xe s
def EL (S : SS) (L : Cx → Prop) (Tb : List (Addr × Str)) (E : List Ent) (e : Expr) (t : T) (E' : List Ent) : Prop :=
  ∀ (W : WX) (Z H : Hp) (σ : St) (Q : VK), StOk S.K Z H σ E → Tabs Tb H → (∀ v H' Z', Same Z Z' → StOk S.K Z' H' σ E' → Tabs Tb H' → Rep S.K Z' t v → Q v H') → RLe S L W e σ H Q
def ELs (S : SS) (L : Cx → Prop) (Tb : List (Addr × Str)) (E : List Ent) (es : List Expr) (ts : List T) (E' : List Ent) : Prop :=
  ∀ (W : WX) (Z H : Hp) (σ : St) (Q : List V → Hp → Prop), StOk S.K Z H σ E → Tabs Tb H → (∀ vs H' Z', Same Z Z' → StOk S.K Z' H' σ E' → Tabs Tb H' → Reps S.K Z' ts vs → Q vs H') → RLa S L W es σ H Q
section
variable {S : SS} {L : Cx → Prop} {Tb : List (Addr × Str)} {E E1 E2 : List Ent} {o : Oc} {st : Stmt} {sts : List Stmt} {K : PySem.W.Frag} {Z Z' H H' : Hp} {σ σ' : St} {e : Expr} {es : List Expr} {t : T} {ts : List T}
theorem RLe.pe {W : WX} {X : Cx} (hX : S.Has W X) (hL : L X) : PE X e (RLe S L W e) := ⟨fun pins s σ H Q I q => q X hX hL pins s I⟩
theorem RLa.pa {W : WX} {X : Cx} (hX : S.Has W X) (hL : L X) : PA X es (RLa S L W es) := ⟨fun pos pins s σ H Q I q => q X hX hL pos pins s I⟩
theorem RLe.mk {W : WX} {w : TE} {Q : VK} (h : ∀ X, S.Has W X → L X → PE X e w) (q : w σ H Q) : RLe S L W e σ H Q := fun X hX hL pins s I => (h X hX hL).run pins s σ H Q I q
theorem RLa.mk {W : WX} {w : TA} {Q : List V → Hp → Prop} (h : ∀ X, S.Has W X → L X → PA X es w) (q : w σ H Q) : RLa S L W es σ H Q := fun X hX hL pos pins s I => (h X hX hL).run pos pins s σ H Q I q
theorem el_of (h : EG S E e t E1) (ow : OwL E) : EL S L Tb E e t E1 := fun W Z H σ Q s tb k X hX _ pins s' I => h W Z H σ Q s (fun v H' Z' g r => k v H' Z' g.step.zz g.st (tabs_go g s ow tb) r) X hX pins s' I
theorem els_nil : ELs S L Tb E [] [] E := fun W Z H σ Q s tb k => RLa.mk (fun X _ _ => pa_nil) (show tNil σ H Q from k _ H Z (Same.refl Z) s tb .nil)
theorem els_cons (ha : EL S L Tb E e t E1) (hb : ELs S L Tb E1 es ts E2) (hs : ∀ env, starEach (e :: es) env = (false, eval e env) :: starEach es env := by intro _; rfl) : ELs S L Tb E (e :: es) (t :: ts) E2 := fun W Z H σ Q s tb k =>
  RLa.mk (w := tCons (RLe S L W e) (RLa S L W es)) (fun X hX hL => pa_cons (RLe.pe hX hL) (RLa.pa hX hL) (hs _)) (ha W Z H σ _ s tb fun v H1 Z1 z1 s1 t1 r1 => hb W Z1 H1 σ _ s1 t1 fun vs H2 Z2 z2 s2 t2 r2 => k _ H2 Z2 (z1.trans z2) s2 t2 (.cons (r1.mono z2) r2))
theorem st_more {p : Addr} {u : HO} (st : StOk K Z H σ E) (ow : OwL E) (h : H p = some u) (hu : ∀ vs, u ≠ .lst vs) (hn : ∀ ps, u ≠ .tbl ps) : StOk K (upd Z p u) H σ E ∧ Same Z (upd Z p u) := by
  have zz : Same Z (upd Z p u) := fun b v e => by
    by_cases hb : b = p
    · subst hb; rw [upd_same, ← h]; exact st.zh _ _ e
    · rw [upd_ne hb]; exact e
  refine ⟨⟨fun b v e => ?_, fun b ps e => ?_, st.len, fun i t e => ?_, fun i t e => ?_, st.ds⟩, zz⟩
  · by_cases hb : b = p
    · subst hb; rw [upd_same] at e; rw [h]; exact e
    · rw [upd_ne hb] at e; exact st.zh _ _ e
  · by_cases hb : b = p
    · subst hb; rw [upd_same] at e; cases e; exact hn ps rfl
    · rw [upd_ne hb] at e; exact st.nt _ _ e
  · obtain ⟨v, e1, r⟩ := st.sh i t e
    exact ⟨v, e1, r.mono zz⟩
  · obtain ⟨a, ob, e1, e2, e3, e4⟩ := st.ow i t e
    have hne : a ≠ p := fun z => by
      subst z
      exact not_own st ow h hu ⟨i, t, e, e1⟩
    exact ⟨a, ob, e1, e2, by rw [upd_ne hne]; exact e3, e4.mono zz⟩
theorem st_code {P c : Addr} {q : Str} {H1 : Hp} (st : StOk K Z H σ E) (ow : OwL E) (h : CodeAt P q H c H1) : ∃ Z1, StOk K Z1 H1 σ E ∧ Same Z Z1 ∧ Z1 c = some (CodeO c q) := by
  have cl : ∀ vs, CodeO c q ≠ .lst vs := fun vs z => by cases z
  have ct : ∀ ps, CodeO c q ≠ .tbl ps := fun ps z => by cases z
  cases h with
  | old h =>
    obtain ⟨a, b⟩ := st_more st ow h cl ct
    exact ⟨_, a, b, upd_same⟩
  | @new ps ps' hP hc =>
    have keep : ∀ b u, H b = some u → b ≠ P → upd (upd H P (.tbl ps')) c (CodeO c q) b = some u := fun b u e hb => by rw [upd_ne (ne_of_none e hc), upd_ne hb]; exact e
    have st1 : StOk K Z (upd (upd H P (.tbl ps')) c (CodeO c q)) σ E := by
      refine ⟨fun b u e => keep b u (st.zh _ _ e) fun z => ?_, st.nt, st.len, st.sh, fun i t e => ?_, st.ds⟩
      · subst z
        have := st.zh _ _ e
        rw [hP] at this
        cases this
        exact st.nt _ _ e
      · obtain ⟨a, ob, e1, e2, e3, e4⟩ := st.ow i t e
        exact ⟨a, ob, e1, keep a ob e2 fun z => by subst z; exact not_own st ow hP (fun vs z => by cases z) ⟨i, t, e, e1⟩, e3, e4⟩
    obtain ⟨a, b⟩ := st_more st1 ow (p := c) (u := CodeO c q) upd_same cl ct
    exact ⟨_, a, b, upd_same⟩
/-- the tables behind such a making -/
theorem tabs_code {P c : Addr} {q : Str} {H1 : Hp} (h : CodeAt P q H c H1) (own : TabS H1 P q) (hu : ∀ p ∈ Tb, p.1 = P → p.2 = q) (tb : Tabs Tb H) : Tabs Tb H1 := fun p hp => by
  by_cases hP : p.1 = P
  · rw [hP, hu p hp hP]; exact own
  · have old := tb p hp
    cases h with
    | old _ => exact old
    | new h1 h2 =>
      obtain ⟨ps, e1, e2, e3⟩ := old
      have ne : p.1 ≠ c := fun z => by rw [z, h2] at e1; cases e1
      refine ⟨ps, by rw [upd_ne ne, upd_ne hP]; exact e1, e2, fun pos cv z => ?_⟩
      obtain ⟨d, y1, y2⟩ := e3 pos cv z
      refine ⟨d, y1, ?_⟩
      rw [upd_ne (fun z => by rw [z, h2] at y2; cases y2), upd_ne (fun z => by rw [z, h1] at y2; cases y2)]
      exact y2
theorem el_tup {pos : Pos} {j : Nat} (h : ELs S L Tb E es ts E1) (hl : ts.length ≤ 16777216) : EL S L Tb E (.Tuple es j pos) (.tup ts) E1 := fun W Z H σ Q s tb k =>
  RLe.mk (w := tTup (RLa S L W es)) (fun X hX hL => pe_tup (RLa.pa hX hL)) (h W Z H σ _ s tb fun vs H1 Z1 z1 s1 t1 r1 => by
    refine ⟨by rw [r1.length, sizeLine_eq]; exact hl, fun p hp => ?_⟩
    obtain ⟨g, r⟩ := Go.tup (S := S) (E := E1) (P := fun _ => none) s1 r1 hp
    exact k _ _ _ (z1.trans g.step.zz) g.st (t1.ext fun b u e => by rw [upd_ne (ne_of_none e hp)]; exact e) r)
theorem el_lst {pos : Pos} (h : ELs S L Tb E es ts E1) (hl : ts.length ≤ 16777216) : EL S L Tb E (.List es pos) (.lst ts) E1 := fun W Z H σ Q s tb k =>
  RLe.mk (w := tLst (RLa S L W es)) (fun X hX hL => pe_lst (RLa.pa hX hL)) (h W Z H σ _ s tb fun vs H1 Z1 z1 s1 t1 r1 => by
    refine ⟨by rw [r1.length, sizeLine_eq]; exact hl, fun p hp => ?_⟩
    obtain ⟨g, r⟩ := Go.lst (S := S) (E := E1) s1 r1 hp
    exact k _ _ _ (z1.trans g.step.zz) g.st (t1.ext fun b u e => by rw [upd_ne (ne_of_none e hp)]; exact e) r)
/-- x = e -/
theorem lg_set {i : Nat} {x : Str} {pos pos' : Pos} (so : StoOk S i x) (h : EL S L Tb E e t E1) (hi : i < E1.length) (hs : ∀ env, swapsWith e (some (.Name x pos')) pos.line env = pure false := by intro _; rfl) : LG S L Tb E (.Assign [.Name x pos'] e pos) (.nx (E1.set i (.sh t))) := fun W Z H σ D s tb k => by
  refine RLt.mk (t := tAsg (RLe S L W e) (gName i)) (fun X hX hL => ?_) (h W Z H σ _ s tb fun v H1 Z1 z1 s1 t1 r1 => k _ Z1 H1 z1 (s1.set r1 (by rw [s1.len]; exact hi)) t1)
  have q := hX.sc
  have pe := RLe.pe (S := S) (L := L) (W := W) (e := e) hX hL
  obtain ⟨A, s0, H0, env, outer, stack, ex, pn, xe, rfl⟩ := hX.ex
  exact ps_set so.nd so.hN (by rw [q]; exact so.loc) pe (hs _) (by rw [q]; exact so.hf)
/-- a lambda that captures nothing -/
theorem el_lam {c P : Addr} {q : Str} {params : Arguments} {body : Expr} {scope : Scope} {pos : Pos} (TB : TabB S.base S.mg c P) (ow : OwL E) (hdef : ∀ env, defaultsOf params env = ([], [])) (nf : ∀ y ∈ scope.names, y.2 ≠ .free) (hT : (P, q) ∈ Tb := by exact List.mem_singleton.mpr rfl) (hu : ∀ p ∈ Tb, p.1 = P → p.2 = q := by intro p hp _; cases List.mem_singleton.mp hp; rfl) : EL S (LawF c q) Tb E (.Lambda params body scope pos) (lamT q params body scope) E := fun W Z H σ Q st tb k X hX hL pins s I => by
  obtain ⟨hc, hq⟩ := hL
  have tb' := tb _ hT
  have TB' : TabB X.base X.mg c P := by
    obtain ⟨A, s0, H0, env, outer, stack, ex, pn, xe, rfl⟩ := hX.ex
    exact TB
  refine lam_made I TB' hc hq tb' (hdef _) nf fun f c' H1 s' ca tb1 hf I1 => ?_
  obtain ⟨Z1, s1, z1, e1⟩ := st_code st ow ca
  have g := Go.alloc (S := S) (E := E) s1 (p := f) (o := .ext (lamP q params body scope f [.ref c'] [])) hf (by intro ps z; cases z)
  refine ⟨.ref f, _, I1, rfl, k (.ref f) _ _ (z1.trans g.step.zz) g.st (fun p hp => ?_) ?_⟩
  · exact (tabs_code ca tb1 hu tb p hp).ext fun b u e => by rw [upd_ne (ne_of_none e hf)]; exact e
  · simp only [lamT, Rep]
    refine ⟨f, [.ref c'], [], rfl, .inl upd_same, .cons ?_ .nil, .nil⟩
    simp only [codT, Rep]
    exact ⟨c', [], [], rfl, .inl (g.step.zz _ _ e1), .nil, .nil⟩
end
end Cw
end L2

set_option Elab.async false
set_option linter.all false
set_option maxRecDepth 100000
set_option maxHeartbeats 2000000
namespace L2
namespace Cw
open PySem PySem.Spec PyProof.Rows LamX
/-! ### for x in [a new list of ints]: the list becomes the body's own -/
theorem ow_one {n i : Nat} {ns : List Int} : OwL ((List.replicate n Ent.no).set i (.ow (.lst (ns.map T.int)))) := fun j t h => by
  by_cases hj : i = j
  · subst hj
    by_cases hi : i < n
    · rw [List.getElem?_set_self (by simpa using hi)] at h; cases h; exact ⟨_, rfl⟩
    · rw [List.getElem?_eq_none (by simp; omega)] at h; cases h
  · rw [List.getElem?_set_ne hj, List.getElem?_replicate] at h
    split at h <;> cases h
section
variable {S : SS} {L : Cx → Prop} {Tb : List (Addr × Str)} {E E1 E2 E3 : List Ent} {x : Str} {i n : Nat} {e : Expr} {body rest : List Stmt} {ns : List Int} {t : T} {px pos : Pos}
theorem rep_lst1 {K : PySem.W.Frag} {Z : Hp} {v : V} (r : Rep K Z (.lst [.lst (ns.map T.int)]) v) : ∃ (a d : Addr) (us : List V), v = .ref a ∧ Z a = some (.lst [.ref d]) ∧ Z d = some (.lst us) ∧ Reps K Z (ns.map T.int) us ∧ a ≠ d := by
  obtain ⟨a, vs, rfl, h1, h2⟩ := rep_lst.mp r
  obtain ⟨u, r2, rfl, h3, h4⟩ := h2.uncons
  rw [h4.unnil] at h1
  obtain ⟨d, us, rfl, h5, h6⟩ := rep_lst.mp h3
  refine ⟨a, d, us, rfl, h1, h5, h6, fun z => ?_⟩
  subst z
  rw [h1] at h5
  cases h5
  cases ns with
  | nil => have := h6.length; simp at this
  | cons m ms =>
    obtain ⟨v, _, e, h7, _⟩ := h6.uncons
    cases e
    cases rep_int.mp h7
theorem reps_ints {K : PySem.W.Frag} {Z Z' : Hp} : ∀ {ns : List Int} {us : List V}, Reps K Z (ns.map T.int) us → Reps K Z' (ns.map T.int) us
  | [], us, h => by rw [h.unnil]; exact .nil
  | m :: ms, us, h => by
    obtain ⟨v, r, rfl, h1, h2⟩ := h.uncons
    exact .cons (rep_int.mpr (rep_int.mp h1)) (reps_ints h2)
theorem st_own {K : PySem.W.Frag} {Z H : Hp} {σ : St} {d : Addr} {us : List V} (zh : Same Z H) (nt : ∀ b ps, Z b ≠ some (.tbl ps)) (hn : σ.length = n) (hi : i < n) (hd : H d = some (.lst us)) (hz : Z d = none) (hr : Reps K Z (ns.map T.int) us) :
    StOk K Z H (σ.set i (some (.ref d))) ((List.replicate n Ent.no).set i (.ow (.lst (ns.map T.int)))) := by
  have out : ∀ {j : Nat} {u : Ent}, ((List.replicate n Ent.no).set i (.ow (.lst (ns.map T.int))))[j]? = some u → u ≠ .no → j = i ∧ u = .ow (.lst (ns.map T.int)) := fun {j u} h hu => by
    by_cases hj : i = j
    · subst hj
      rw [List.getElem?_set_self (by simpa using hi)] at h
      exact ⟨rfl, (Option.some.inj h).symm⟩
    · rw [List.getElem?_set_ne hj, List.getElem?_replicate] at h
      split at h
      · exact absurd (Option.some.inj h).symm hu
      · cases h
  refine ⟨zh, nt, by simp [hn], fun j t h => ?_, fun j t h => ?_, fun j l a t u h1 h2 _ _ => ?_⟩
  · have := (out h (by intro z; cases z)).2
    cases this
  · obtain ⟨rfl, e⟩ := out h (by intro z; cases z)
    cases e
    exact ⟨d, _, List.getElem?_set_self (by rw [hn]; exact hi), hd, hz, hr⟩
  · rw [(out h1 (by intro z; cases z)).1, (out h2 (by intro z; cases z)).1]
theorem lgs_forOwn (he : EG S E e (.lst [.lst (ns.map T.int)]) E1) (ow : OwL E) (hE : E.length = n) (so : StoOk S i x) (hi : i < n) (hb : LGs S L Tb ((List.replicate n Ent.no).set i (.ow (.lst (ns.map T.int)))) body (.nx E2)) (hr : LGs S L Tb E2 rest (.ret t E3))
    (hs : ∀ env x, foldedSetIterable e env x = pure x := by intro _ _; rfl) : LGs S L Tb E (.For (.Name x px) e body [] pos :: rest) (.ret t E3) := fun W Z H σ D s tb k => by
  refine RLs.mk (t := tSeq (tFor (iList S.K (R S W e)) (gName i) (RLs S L W body)) (RLs S L W rest)) (fun X hX hL => pss_cons (ps_for hX.po ?_ (by rw [← hX.kk]; exact pi_list (hX.pe e)) ?_ (RLs.pss hX hL) (hs _)) (RLs.pss hX hL)) ?_
  · exact hX.calm
  · have q := hX.sc
    obtain ⟨A, s0, H0, env, outer, stack, ex, pn, xe, rfl⟩ := hX.ex
    exact pg_name so.nd so.hN (by rw [q]; exact so.loc) (by rw [q]; exact so.hf)
  refine he W Z H σ _ s fun v H1 Z1 g r => ?_
  obtain ⟨a, d, us, rfl, h1, h2, h3, ne⟩ := rep_lst1 r
  have k1 := g.st.zh _ _ h1
  have k2 := g.st.zh _ _ h2
  have len : σ.length = n := by rw [s.len, hE]
  have za : ∀ {b : Addr} {u : HO}, upd (fun _ => none) a (HO.lst [V.ref d]) b = some u → b = a ∧ u = .lst [.ref d] := fun {b u} z => by
    by_cases hb : b = a
    · subst hb; rw [upd_same] at z; exact ⟨rfl, (Option.some.inj z).symm⟩
    · rw [upd_ne hb] at z; cases z
  refine ⟨a, rfl, ⟨_, .inl (.inl k1)⟩, for_it (walk_list (xs := [V.ref d])) (fun m σ2 H2 => (m = 0 ∧ σ2 = σ ∧ H2 = H1) ∨ (m = 1 ∧ ∃ Z2, Same (upd (fun _ => none) a (HO.lst [V.ref d])) Z2 ∧ StOk S.K Z2 H2 σ2 E2 ∧ Tabs Tb H2)) (.inl ⟨rfl, rfl, rfl⟩) ?_ ?_ ?_⟩
  · rintro m σ2 H2 _ (⟨_, _, rfl⟩ | ⟨_, Z2, z, st, _⟩)
    · exact .inl (.inl k1)
    · exact .inl (.inl (st.zh _ _ (z a _ upd_same)))
  · rintro m y σ2 H2 H3 hm (⟨rfl, rfl, rfl⟩ | ⟨rfl, _⟩) hy
    · obtain ⟨rfl, e1⟩ := hy
      cases e1
      refine hb W _ H3 _ _ (st_own (Z := upd (fun _ => none) a (HO.lst [V.ref d])) (fun b u z => by obtain ⟨rfl, rfl⟩ := za z; exact k1) (fun b ps z => by cases (za z).2) len hi k2 (by rw [upd_ne (fun z => ne z.symm)]) (reps_ints h3)) (tabs_go g s ow tb) ?_
      exact fun σ' Z' H' z st tb' => .inr ⟨rfl, Z', z, st, tb'⟩
    · simp at hm
  · rintro σ2 H2 (⟨z, _⟩ | ⟨_, Z2, _, st, tb'⟩)
    · simp at z
    · exact hr W Z2 H2 σ2 D st tb' k
end
end Cw
end L2

set_option Elab.async false
set_option linter.all false
set_option maxRecDepth 100000
set_option maxHeartbeats 2000000
namespace L2
namespace Cw
open PySem PySem.Spec PyProof.Rows LamX
/-! ### a lambda that captures, handed to the def that tells what it raised -/
def TTell (K : PySem.W.Frag) (hs : List (Addr × Str)) : (XK → Hp → VK → Prop) → Hp → VK → Prop := fun tl H Q => tl (fun cls _ H' => ∃ C wd, cls = .ref C ∧ Catch K C hs wd ∧ Q (.str wd) H') H Q
def tTell (f c : Addr) (q : Str) (tl : XK → Hp → VK → Prop) (W : WX) : TS := fun D σ H =>
  ∃ Ek : XK, (∀ cls d σ' H', Ek cls d H' → W cls d σ' H') ∧ (σ[0]? = some (some (.ref f)) ∧ H c = some (CodeO c q) ∧ tl Ek H D.rt)
section
variable {X : Cx} {Ng : List Str} {x a q : Str} {sg : Scope} {g : Addr} {cdg : Value} {hs : List (Addr × Str)} {h₀ : ExceptHandler} {hds : List ExceptHandler} {p1 p2 p3 pos : Pos}
theorem tell_gives (hh : Hds sg X.mg (h₀ :: hds) hs) (h0 : ∀ f : Addr, (start Ng [V.ref f])[0]? = some (some (V.ref f))) :
    GivesTo X Ng x sg g cdg [.Try [.Return (some (.Call (.Name a p1) [] [] p2)) p3] (h₀ :: hds) [] [] pos] a q (TTell X.K hs) := fun f c s H Q tl act hc h => by
  refine ⟨_, pss_one (ps_try_many (Wout := fun _ _ _ _ => False) rfl rfl takes_none5 (tb := tTell f c q tl) (fun W pn xe tk _ => pss_one ⟨fun pins s' σ H' D I z => ?_⟩) (hh.ok rfl rfl)), _, ?_, h0 f, hc, h⟩
  · obtain ⟨Ek, hW, z⟩ := z
    exact (ps_ret (act W pn xe Ek p1 p2 tk hW)).run pins s' σ H' D I z
  · rintro cls d σ' H' ⟨C, wd, rfl, ct, z⟩
    exact ct.tells z
end
section
variable {S : SS} {E : List Ent} {c P g : Addr} {q x a : Str} {fd : FuncData} {st : Stmt} {Ng : List Str} {k : Nat} {params : Arguments} {body : Expr} {scope : Scope} {hs : List (Addr × Str)} {h₀ : ExceptHandler} {hds : List ExceptHandler} {t : T} {o : Oc} {p1 p2 p3 p4 p lpos pos : Pos}
theorem st_extN {K : PySem.W.Frag} {Z H H1 : Hp} {σ : St} (s : StOk K Z H σ E) (ow : OwL E) (e : ExtN H H1) : StOk K Z H1 σ E := by
  refine ⟨fun b u z => e b u (s.zh b u z) fun ps y => ?_, s.nt, s.len, s.sh, fun i t h => ?_, s.ds⟩
  · subst y; exact s.nt _ _ z
  · obtain ⟨b, ob, e1, e2, e3, e4⟩ := s.ow i t h
    exact ⟨b, ob, e1, e b ob e2 fun ps y => by subst y; exact e4.notbl ps rfl, e3, e4⟩
/-- the frame of a lambda made in the frame of S -/
abbrev lamS (S : SS) (k : Nat) (scope : Scope) : SS := ⟨S.P, S.w, S.K, S.mg, S.base, k, S.N, scope, fun _ => false, []⟩
/-- what the lambda's body leaves -/
inductive LamB (S : SS) (k : Nat) (scope : Scope) (E : List Ent) (body : Expr) (hs : List (Addr × Str)) : T → Prop
  | ret {t : T} (h : EG (lamS S k scope) E body t E) : LamB S k scope E body hs t
  | exc {C : Addr} {wd : Str} (h : EXi (lamS S k scope) E body C E) (ct : Catch S.K C hs wd) : LamB S k scope E body hs (.str wd)
theorem el_told (F : FunA S.K x x st g fd) (gl : GlOk S x) (hm : S.mg x = some (.ref g)) (hb : Binds S.K fd [a] []) (Sg : FnScope Ng [a] (defScope st)) (hN : Ng[0]? = some a) (hv : Vis (defScope st) a) (hbd : defBody st = [.Try [.Return (some (.Call (.Name a p1) [] [] p2)) p3] (h₀ :: hds) [] [] p4]) (hh : Hds (defScope st) S.mg (h₀ :: hds) hs)
    (TB : TabB S.base S.mg c P) (hk : k + 2 ≤ S.k) (La : LamS S.sc scope) (hdef : ∀ env, defaultsOf params env = ([], [])) (hbind : ∀ (q : Str) (cl : List (Str × Addr)) (pm cv ctv : Value), bindArgs (PySem.W.kla_fn "<lambda>" q params body scope cl pm cv ctv) ⟨[], []⟩ = pure []) (ow : OwL E) (hB : LamB S k scope E body hs t)
    (hd : (a == ("__debug__" : Str)) = false := by decide) (hcd : (a == ("__classdict__" : Str)) = false := by decide) (hst : ∀ f : Addr, (start Ng [V.ref f])[0]? = some (some (V.ref f)) := by intro _; rfl) {Tb : List (Addr × Str)} (hT : (P, q) ∈ Tb := by exact List.mem_singleton.mpr rfl) (hu : ∀ p ∈ Tb, p.1 = P → p.2 = q := by intro p hp _; cases List.mem_singleton.mp hp; rfl) : EL S (LawF c q) Tb E (.Call (.Name x p) [.Lambda params body scope lpos] [] pos) t E := fun W Z H σ Q s tb kq => by
  refine RLe.mk (w := tLam Tb (TTell S.K hs) fun Ex => R (lamS S k scope) (fun cls d _ H' => Ex cls d H') body) (fun X hX hL => ?_) ⟨tb, fun H1 e1 tb1 => ?_⟩
  · obtain ⟨hc, rfl⟩ := hL
    obtain ⟨oc, od, dV, kV, doc, pm, an, cdv, ct, osl, rfl, lk, hcg⟩ := F.ex
    have gg := gl.at hX
    have hr := hX.room.mono hk
    have hsc := hX.sc
    obtain ⟨A, s0, H0, env, outer, stack, ex, pn, xe, rfl⟩ := hX.ex
    have hsc : env.scope = S.sc := hsc
    have La' : LamS env.scope scope := by rw [hsc]; exact La
    rw [hbd] at lk hb
    refine pe_lamcall gg hm F.kp lk hcg hb Sg hN hv (tell_gives hh hst) TB hc hT hu hr La' (hdef _) hbind (fun A outer s H Ex f c' hr2 => ?_) gl.h1 hd hcd
    exact SS.Has.pe (S := lamS S k scope) (W := fun cls d _ H' => Ex cls d H') ⟨⟨_, _, _, _, _, _, _, _, _, rfl⟩, hr2, rfl, takes_of rfl rfl rfl rfl, passes_of rfl⟩ body
  · have s1 := st_extN s ow e1
    cases hB with
    | ret h => exact h _ Z H1 σ Q s1 fun v H' Z' g r => kq v H' Z' g.step.zz g.st (tabs_go (S := lamS S k scope) g s1 ow tb1) r
    | exc h ct => exact h (fun cls _ H' => ∃ C wd, cls = .ref C ∧ Catch S.K C hs wd ∧ Q (.str wd) H') Z H1 σ Q s1 fun H' Z' g => ⟨_, _, rfl, ct, kq (.str _) H' Z' g.step.zz g.st (tabs_go (S := lamS S k scope) g s1 ow tb1) (rep_str.mpr rfl)⟩
end
end Cw
end L2

set_option Elab.async false
set_option linter.all false
set_option maxRecDepth 100000
set_option maxHeartbeats 2000000
namespace L2
namespace Cw
open PySem PySem.Spec PyProof.Rows
section
variable {S : SS} {E E1 E2 : List Ent} {a b c e : Expr} {i j k : Int} {ts : List T} {m n : Option Int} {pos p2 : Pos}
theorem eg_pow (ha : EG S E a (.int i) E1) (hb : EG S E1 b (.int j) E2) (h : CPow i j) : EG S E (.BinOp a .Pow b pos) (.int (i ^ j.toNat)) E2 := eg_op (fun _ _ _ => op_pow) (opg_rI h fun _ => rep_int.mpr rfl) ha hb
/-- a slice of what was handed in -/
theorem eg_sliceS {lo hi : Option Expr} (ha : EG S E a (.slst ts) E) (hl : PaG S E lo m) (hh : PaG S E hi n) : EG S E (.Subscript a (.Slice lo hi none p2) pos) (.lst (cutT ts m n)) E := fun W Z H σ Q st kq => by
  refine R.mk (t := tSl (rSlL S.K) (R S W a) (tPo S W lo) (tPo S W hi)) (fun X hX => ?_) (ha W Z H σ _ st fun v H1 Z1 g1 r1 => hl.read g1.st fun H2 Z2 g2 => hh.read g2.st fun H3 Z3 g3 => ?_)
  · exact pe_slice (by rw [← hX.kk]; exact sl_list) (hX.pe a) (PaG.po hX lo) (PaG.po hX hi)
  · obtain ⟨d, us, rfl, q1, q2⟩ := rep_slst.mp (r1.mono (g2.step.zz.trans g3.step.zz))
    exact ⟨d, us, rfl, g3.st.zh.seq q1, fun q hq => by
      have z := Go.lst (S := S) (E := E) g3.st (q2.cut (lo := m) (hi := n)) hq
      exact kq _ _ _ (((g1.trans g2).trans g3).trans z.1) z.2⟩
end
end Cw
end L2

set_option Elab.async false
set_option linter.all false
set_option maxRecDepth 100000
set_option maxHeartbeats 2000000
namespace L2
namespace Cw
open PySem PySem.Spec PyProof.Rows PySem.SeqAt
/-! ### an instance whose class has no == of its own, beside a text -/
theorem str_declines {M : Model} {A : Around} {E : Value → Shared → Prop} {s : Shared} {x : Addr} {ox : Obj} {a : Str} {t : Tok} {Q : PySem.Fin → Shared → Prop} (ho : s.heap.get? x = some ox) (hd : ∀ z u, ox.data ≠ .prim (.str z u)) (h : Q (.done (.ret .notImplemented)) s) :
    wpAny M A (Builtin.«str.__eq__» ⟨[.str a t, .ref x], []⟩) Q E s := by
  unfold Builtin.«str.__eq__» Builtin.Str.strCompare Builtin.Str.strSlot
  repeat (first | wp_step)
  split
  · rename_i z u e
    exact absurd e (hd z u)
  · refine wpAny_pure ?_
    repeat (first | wp_step)
    exact h
section
variable {M : Model} {prog : Program} {w : World} {A : Around} {E : Value → Shared → Prop} {s : Shared} {K : PySem.W.Frag} {x C : Addr} {ox : Obj} {od : Option Obj} {a : Str} {t : Tok}
theorem obj_declines {Q : PySem.Fin → Shared → Prop} (hq : Q (.done (.ret .notImplemented)) s) : wpAny M A (Builtin.«object.__eq__» ⟨[.ref x, .str a t], []⟩) Q E s := by
  delta Builtin.«object.__eq__»
  have same : ∀ {R : Bool → Shared → Prop} {s' : Shared}, R false s' → wpAny M A (isSame (.ref x) (.str a t)) R E s' := fun h => wpAny_of_eq (rfl : isSame (.ref x) (.str a t) = pure false) h
  repeat (first | with_reducible refine same ?_ | wp_step)
  exact hq
theorem sub_str : PySem.W.subIn K (.type "str") (.ref C) = some false := by
  have e : fastBuiltinMro "str" = some [.type "str", .type "object"] := by decide +kernel
  unfold PySem.W.subIn
  simp [e]
theorem none_then {β : Type} {m : Sem (Option Value)} {f : Option Value → Sem β} {Q : β → Shared → Prop} (h : wpAny M A m (fun r s' => r = none ∧ s' = s) E s) (k : wpAny M A (f none) Q E s) : wpAny M A (m >>= f) Q E s :=
  wpAny_bind (wpAny_mono h (fun r s' ⟨e1, e2⟩ => by subst e1; subst e2; exact k) fun _ _ z => z)
theorem rc_str (hu : A.units < cLine) (X : K.In s.heap) (I : PySem.W.InstAt s.heap x ox C od) (hm : PySem.W.mroIn K C (.type "object") = some true) (hs : PySem.W.findIn K (.ref C) "__eq__" = some (some (.builtin "object.__eq__"))) (hd : ∀ z u, ox.data ≠ .prim (.str z u)) :
    RcAt A s (.ref x) (.str a t) false := fun prog w E Q h => by
  have left : wpAny (model prog w) A (tryCompare (.ref x) "__eq__" (.str a t)) (fun r s' => r = none ∧ s' = s) E s := by
    unfold tryCompare
    refine wpAny_bind (HN.ifBound_objEq X I hs ?_)
    refine wpAny_call (codeAny_call_builtin F.cmp_object.eq.plain F.cmpEntry_eq ?_)
    refine PySem.W.check_slot F.cmpKind_eq F.cmpSplit_eq ?_ (F.cmpArgs_eq _ _) (obj_declines ?_)
    · exact I.type.andThen (PySem.W.looks_mroIn X hm)
    · exact wpAny_pure ⟨rfl, rfl⟩
  have ty : s.TypeIs (.str a t) "str" := typeIs_str s a t
  have right : wpAny (model prog w) A (tryCompare (.str a t) "__eq__" (.ref x)) (fun r s' => r = none ∧ s' = s) E s := by
    refine wpAny_tryCompare_declines ty F.slot_str_eq_refl (call_givesAt (P := fun s' => s' = s) (m := .val .notImplemented) F.slot_str_eq_refl ty F.entry_str_eq (F.args_str_eq_2 _ _) (fun prog w A R s' hs' hm => ?_) rfl ⟨rfl, rfl, rfl⟩)
    subst hs'
    exact str_declines I.at_ hd hm
  simp only [oneThing_ref, cmpInfo_Eq, richCompare]
  refine wpAny_holding (wpAny_bind (wpAny_cRoomFor hu (wpAny_bind (I.type.here (wpAny_bind (wpAny_typeOf ty ?_))))))
  have ne : (Value.ref C != Value.type "str") = true := rfl
  rw [if_pos ne]
  refine wpAny_bind ((PySem.W.looks_subIn X sub_str).here ?_)
  rw [if_neg (show ¬ false = true by decide)]
  refine none_then left ?_
  show wpAny (model prog w) A (if (!false) = true then _ else _) Q E s
  rw [if_pos (by rfl : (!false) = true)]
  refine none_then right (wpAny_bind (wpAny_rule (wpAny_bind ?_)))
  exact wpAny_of_eq (rfl : isSame (.ref x) (.str a t) = pure false) (wpAny_pure h)
end
structure NoEq (K : PySem.W.Frag) (C : Addr) : Prop where
  mo : PySem.W.mroIn K C (.type "object") = some true
  eq : PySem.W.findIn K (.ref C) "__eq__" = some (some (.builtin "object.__eq__"))
def rInsStr (K : PySem.W.Frag) : R2 := fun x y H Q => ∃ (a C dx : Addr) (fs : List (Str × V)) (z : Str), x = .ref a ∧ y = .str z ∧ H a = some (.ins C dx fs) ∧ NoEq K C ∧ Q (.bl false) H
theorem op_insStr {X : Cx} (hu : X.A.units < cLine) : OpR X (compareOp .Eq) (rInsStr X.K) := by
  intro pins s σ H x y v u Q I repX repY h
  obtain ⟨a, C, dx, fs, z, rfl, rfl, e, ne, q⟩ := h
  have ev : v = Value.ref a := repX
  subst ev
  have eu : ∃ t, u = Value.str z t := repY
  obtain ⟨t, rfl⟩ := eu
  obtain ⟨mA, om, _⟩ := ins_get I.hok e
  obtain ⟨od, J, _⟩ := om.look
  exact rc_str hu I.kIn J ne.mo ne.eq (fun _ _ z => by cases z) _ _ _ _ ⟨.bl false, H, I, rfl, q⟩
section
variable {S : SS} {E E1 E2 : List Ent} {a b : Expr} {C : Addr} {fs : List Str} {us : List T} {z : Str} {pos : Pos}
theorem eg_eqIS (ha : EG S E a (.ins C fs us) E1) (hb : EG S E1 b (.str z) E2) (ne : NoEq S.K C) (hm : behindInMarks .Eq b = false := by exact nomark _) : EG S E (.Compare a [.Eq] [b] pos) (.bl false) E2 :=
  eg_cmp (r := rInsStr S.K) (fun W X hX => by rw [← hX.kk]; exact op_insStr (Nat.lt_of_le_of_lt (Nat.le_add_right _ 65) (u65 hX))) (fun E Z H σ v u Q st r1 r2 k => by
    simp only [Rep] at r1
    obtain ⟨x, dx, fv, rfl, e, _, _⟩ := r1
    rw [rep_str.mp r2]
    exact ⟨x, C, dx, fv, z, rfl, rfl, st.zh _ _ e, ne, k _ _ _ (Go.refl st) (rep_bl.mpr rfl)⟩) ha hb hm
end
end Cw
end L2

set_option Elab.async false
set_option linter.all false
set_option maxRecDepth 100000
set_option maxHeartbeats 2000000
namespace L2
namespace Cw
open PySem PySem.Spec PyProof.Rows
/-! ### dict comprehensions, whatever the dict's content is told by -/
/-- a store into the dict at D, told by what follows -/
abbrev TPut := Addr → V → V → Hp → (Hp → Prop) → Prop
/-- a store keeps to its telling -/
def PutsAt (Y : Cx) (pw : TPut) : Prop := ∀ (pins : List (Addr × Obj)) (τ : St) (H : Hp) (s : Shared) (D : Addr) (y z : V) (u r : Value) (Nx : Hp → Prop) (E : Value → Shared → Prop), Inv Y pins τ H s → RelV y u → RelV z r → pw D y z H Nx →
  wpAny (model Y.prog Y.w) Y.A (dictSet D u r) (fun _ s' => ∃ H', Inv Y pins τ H' s' ∧ Nx H') E s
/-- one turn: the target, the tests, the key, the value, the store -/
def Turned (g : TG) (tt : TT) (tk tv : TE) (pw : TPut) (vs : List Nat) (σ : St) (D : Addr) (Nx : Hp → Prop) (x : V) (H : Hp) : Prop :=
  g x (wipe σ vs) H fun σ2 H2 => wipe σ2 vs = wipe σ vs ∧ tt σ2 H2 fun b H3 => if b = true then (tk σ2 H3 fun y H4 => tv σ2 H4 fun z H5 => pw D y z H5 Nx) else Nx H3
/-- W tells how the state goes from turn to turn -/
def Runs (J : It) (W : Nat → Nat → Hp → Prop) (step : (Hp → Prop) → V → Hp → Prop) (last : Hp → Prop) : Prop :=
  ∀ i m H, W i m H → (J.stop i H ∧ last H) ∨ (J.go i H ∧ ∃ Nx : Hp → Prop, (∀ H', Nx H' → ∃ m', m' < m ∧ W (i + 1) m' H') ∧ ∀ x H', J.yld i H x H' → step Nx x H')
def tDict (wi : TI) (g : TG) (tt : TT) (tk tv : TE) (pw : TPut) (new : Addr → HO) (vs : List Nat) : TE := fun σ H Q => wi σ H fun J H1 => ∀ D, H1 D = none →
  ∃ W : Nat → Nat → Hp → Prop, (∃ m, W 0 m (upd H1 D (new D))) ∧ Runs J W (Turned g tt tk tv pw vs σ D) (Q (.ref D))
section
variable {Y : Cx} {τ : St} {H : Hp} {s : Shared} {fp : List Addr}
theorem blk_fp (I : Inv Y [] τ H s) (hx : Y.ex = fp) (hp : Y.pn = []) (hn : ∀ b ∈ fp, H b = none) : ∀ b ∈ fp, FpOk Y [] H b := fun b hb => by
  subst hx
  exact ⟨hn b hb, (I.ok.exf b hb).1, I.ok.exfs b hb, .inl hb, (I.ok.exf b hb).2, fun p h => by rw [hp] at h; cases h⟩
/-- the block ahead of a turn, n the measure -/
def BlkAt (Y : Cx) (fp : List Addr) (tn : Nat → Heap → Prop) (τ : St) (W : Nat → Nat → Hp → Prop) (n : Nat) (s : Shared) : Prop :=
  ∃ i H, Inv Y [] τ H s ∧ tn i s.heap ∧ (∀ b ∈ fp, H b = none) ∧ W i n H
/-- behind a turn -/
theorem blk_next {vs : List Nat} {tg : Expr} {J : It} {it : Addr} {tn : Nat → Heap → Prop} {σ σ2 : St} {H2 H' : Hp} {s' : Shared} {W : Nat → Nat → Hp → Prop} {i m n : Nat} (T : Turn Y.prog Y.w Y.K tg J fp it tn) (hw : wipe σ2 vs = wipe σ vs) (I : Inv Y (pinsAt fp s.heap) σ2 H' s') (st : tn i s.heap) (hm : m < n) (h : W i m H') :
    ∃ m, m < n ∧ BlkAt Y fp tn (wipe σ vs) W m s' := by
  have hold : ∀ b ∈ fp, ∀ o, s.heap.get? b = some o → s'.heap.get? b = some o ∧ H' b = none := fun b hb o e => by
    have z := I.pin (b, o) (List.mem_append_right _ (mem_pinsAt hb e))
    exact ⟨z.1, z.2.1⟩
  refine ⟨m, hm, i, H', (I.pins_of fun p hp => ?_).weak ?_ fun j v e => ?_, T.keep _ _ _ st fun b hb o e => (hold b hb o e).1, fun b hb => ?_, h⟩
  · exact I.pin p (List.mem_append_left _ (by simpa using hp))
  · rw [← hw, wipe_length]
  · rw [← hw] at e; exact (wipe_some e).1
  · obtain ⟨o, e, _⟩ := T.obj _ _ st b hb
    exact (hold b hb o e).2
end
/-- the context of a block of X -/
def IsBlk (X : Cx) (scope : Scope) (Y : Cx) : Prop := ∃ (s : Shared) (H : Hp) (C : Addr) (cl : List (Str × Addr)) (fp : List Addr), Y = X.blk s H scope (compEnvC scope cl C X.env) fp
section
variable {X : Cx} {kx vx tg iter : Expr} {ifs : List Expr} {scope : Scope} {own : List (Str × Nat)} {pos : Pos} {wi : TI} {g : TG} {tt : TT} {tk tv : TE} {pw : TPut} {new : Addr → HO}
theorem dict_loop {Y : Cx} {fp : List Addr} {tn : Nat → Heap → Prop} {J : It} {it D : Addr} {vs : List Nat} {σ : St} {W : Nat → Nat → Hp → Prop} {last : Hp → Prop} {env : PySem.Env} {R : Result → Shared → Prop} (hY : Y.env = env) (hP : Y.prog = X.prog) (hW : Y.w = X.w) (hK : Y.K = X.K) (hA : Y.A = X.A) (hc : Y.calm = true) (hx : Y.ex = fp) (hp : Y.pn = []) (hxe : Y.xe = fun _ _ => False)
    (T : Turn Y.prog Y.w Y.K tg J fp it tn) (pg : PG Y tg g) (pt : PTs Y ifs tt) (pk : PE Y kx tk) (pv : PE Y vx tv) (pu : PutsAt Y pw) (runs : Runs J W (Turned g tt tk tv pw vs σ D) last)
    (hR : ∀ s H, Inv Y [] (wipe σ vs) H s → last H → R (.ok .next) s) (n : Nat) (s : Shared) (h : BlkAt Y fp tn (wipe σ vs) W n s) :
    codeAny (model X.prog X.w) X.A (.compLoop (.DictComp kx vx [⟨tg, iter, ifs, 0⟩] scope pos) 0 (.ref it) (.ref D) env) R s := by
  subst hY
  refine compLoop_anyD (fun n s => BlkAt Y fp tn (wipe σ vs) W n s) (fun n s ⟨i, H, I, st, hn, w⟩ => ?_) n h
  have fo := blk_fp I hx hp hn
  have eM : model Y.prog Y.w = model X.prog X.w := by rw [hP, hW]
  rcases runs i n H w with ⟨stop, q⟩ | ⟨go, Nx, less, step⟩
  · have d := T.done Y rfl rfl rfl hc i [] s _ H (fun _ _ => False) I fo st stop
    rw [eM, hA] at d
    exact thnF d fun r s1 ⟨e, I1⟩ => by subst e; exact hR s1 H I1 q
  · have d := T.item Y rfl rfl rfl hc i [] s _ H (fun _ _ => False) I fo st go
    rw [eM, hA] at d
    refine thnF d fun r s1 ⟨u, e, d1⟩ => ?_
    subst e
    refine thnF d1 fun _ s2 ⟨x, H2, I2, rv, hy, st2, n2⟩ => ?_
    have I2' := I2.pinned (blk_fp I2 hx hp n2) (T.obj _ _ st2)
    have at_ := fun {α : Type} {t : Sem α} {Q : α → Shared → Prop} {s : Shared} (z : wpAny (model Y.prog Y.w) Y.A t Q Y.xe s) => by
      rw [eM, hA, hxe] at z; exact z
    refine thnF (at_ (pg.run _ s2 _ H2 x u _ I2' rv (step x H2 hy))) fun _ s3 ⟨σ3, H3, I3, hw, q3⟩ => ?_
    refine thnF (at_ (pt.run _ s3 σ3 H3 _ I3 q3)) fun b s4 ⟨H4, I4, q4⟩ => ?_
    have fin : ∀ s' H', Inv Y ([] ++ pinsAt fp s2.heap) σ3 H' s' → Nx H' → ∃ m, m < n ∧ BlkAt Y fp tn (wipe σ vs) W m s' := fun s' H' I' nx => by
      obtain ⟨m, hm, w'⟩ := less H' nx
      exact blk_next (H2 := H2) T hw I' st2 hm w'
    cases b with
    | false => exact fin s4 H4 I4 q4
    | true =>
      show wpAny _ _ _ _ _ _
      have q4 : tk σ3 H4 _ := q4
      refine thnF (at_ (pk.run _ s4 σ3 H4 _ I4 q4)) fun uk s5 ⟨yk, H5, I5, rk, q5⟩ => ?_
      refine thnF (at_ (pv.run _ s5 σ3 H5 _ I5 q5)) fun uv s6 ⟨yv, H6, I6, rvv, q6⟩ => ?_
      have put := pu _ _ H6 s6 D yk yv uk uv Nx (notedBy (model X.prog X.w) X.A Y.env fun e s' => R (.error e) s') I6 rk rvv q6
      rw [eM, hA] at put
      exact thn put fun _ s7 ⟨H7, I7, nx⟩ => fin s7 H7 I7 nx
theorem dict_core {use : Option (Value → Sem Unit)} {Qf : Value → Shared → Prop} {pins : List (Addr × Obj)} {s : Shared} {σ : St} {H : Hp} {Q : VK} (hc : X.calm = true) (hN : X.N.Nodup) (hi : PI X tg iter wi) (ok : BlkOk X.N X.env.scope scope own) (hg : ∀ Y, IsBlk X scope Y → PG Y tg g) (ht : ∀ Y, IsBlk X scope Y → PTs Y ifs tt) (hk : ∀ Y, IsBlk X scope Y → PE Y kx tk) (hv : ∀ Y, IsBlk X scope Y → PE Y vx tv) (pu : ∀ Y, IsBlk X scope Y → PutsAt Y pw)
    (hnew : ∀ (h : Heap) (H : Hp), sysModules < h.objs.size → ObjOk X.prog X.w H (h.push { cls := .type "dict", data := .dict #[] }) h.objs.size (new h.objs.size)) (hs : ∀ x, foldedSetIterable iter X.env x = pure x := by intro _; rfl)
    (I : Inv X pins σ H s) (h : tDict wi g tt tk tv pw new (own.map (·.2)) σ H Q) (hR : ∀ (D C : Addr) (s' : Shared) (m : Str → Option Value) (H' : Hp), Inv X pins σ H' s' → Q (.ref D) H' → s'.heap.Ns C m → FpOk X pins H' C → compPost (model X.prog X.w) X.A X.xe use Qf (.ref D) C (.ok .next) s') :
    wpAny (model X.prog X.w) X.A (comprehension (.DictComp kx vx [⟨tg, iter, ifs, 0⟩] scope pos) scope X.env (firstIterPos [⟨tg, iter, ifs, 0⟩] pos) newDict false (eval iter X.env) use) Qf X.xe s := by
  have free : ∀ y ∈ scope.names, y.2 = .free → ∃ c, X.env.cells.lookup y.1 = some c := fun y hy e => (ok.free y hy e).elim (fun k => I.ok.has _ (.inl k)) fun k => I.ok.has _ (.inr k)
  refine wpAny_comprehension_free (use := use) rfl hs (closure_ok free) ok.kind (fun y hy e => (ok.uniq y hy).trans (congrArg some e)) ?_
  refine thn (hi.run pins s σ H _ I h) fun v1 s1 h1 => thn h1 fun v2 s2 ⟨it, fp, tn, J, H2, e, I2, T, st2, f2, q⟩ => ?_
  subst e
  refine wpAny_newObj_type ?_
  refine newEnv_comp ?_
  obtain ⟨W, ⟨m0, w0⟩, runs⟩ := q s2.heap.objs.size (I2.hok.fresh (Nat.le_refl _))
  have I3 : Inv X pins σ (upd H2 s2.heap.objs.size (new s2.heap.objs.size)) { s2 with heap := s2.heap.push { cls := .type "dict", data := .dict #[] } } :=
    I2.laid (t' := s2.toks) (fun b o e => Heap.get?_push_of_some _ e) (Nat.le_refl _) (hnew s2.heap _ I2.big)
  have old : ∀ b ∈ fp, b < s2.heap.objs.size := fun b hb => by
    rcases T.obj _ _ st2 b hb with ⟨o, e, _⟩
    exact Heap.lt_size e
  have f3 : ∀ b ∈ fp, FpOk X pins (upd H2 s2.heap.objs.size (new s2.heap.objs.size)) b ∧ b < (s2.heap.push { cls := .type "dict", data := .dict #[] }).objs.size := fun b hb => by
    have lt := old b hb
    refine ⟨⟨?_, (f2 b hb).2⟩, by rw [Heap.size_push]; exact Nat.lt_succ_of_lt lt⟩
    rw [upd_ne (Nat.ne_of_lt lt)]
    exact (f2 b hb).1
  have st3 : tn 0 (s2.heap.push { cls := .type "dict", data := .dict #[] }) := T.keep _ _ _ st2 fun b _ o e => Heap.get?_push_of_some _ e
  generalize hD : s2.heap.objs.size = D at *
  generalize hs3 : ({ s2 with heap := s2.heap.push { cls := .type "dict", data := .dict #[] } } : Shared) = s3 at *
  have eh : s2.heap.push { cls := .type "dict", data := .dict #[] } = s3.heap := by rw [← hs3]
  rw [eh] at f3 st3
  have I4 : _ := block_start I3 ok hN f3
  have st4 : tn 0 (pushCells (s3.heap.push { cls := .type "dict", data := .dict #[] }) scope.names) := T.keep _ _ _ st3 fun b _ o e => pushCells_keeps _ _ _ _ (Heap.get?_push_of_some _ e)
  have blk : IsBlk X scope (X.blk s3 (upd H2 D (new D)) scope (compEnvC scope (cellsFrom (s3.heap.objs.size + 1) scope.names (cloFrom X.env.cells scope.names [])) s3.heap.objs.size X.env) fp) := ⟨_, _, _, _, _, rfl⟩
  have loop := dict_loop (X := X) (Y := X.blk s3 (upd H2 D (new D)) scope (compEnvC scope (cellsFrom (s3.heap.objs.size + 1) scope.names (cloFrom X.env.cells scope.names [])) s3.heap.objs.size X.env) fp) (kx := kx) (vx := vx) (iter := iter) (scope := scope) (pos := pos) (D := D) (R := compPost (model X.prog X.w) X.A X.xe use Qf (.ref D) s3.heap.objs.size) rfl rfl rfl rfl rfl hc rfl rfl rfl T (hg _ blk) (ht _ blk) (hk _ blk) (hv _ blk) (pu _ blk) runs (fun s' H' I' lst => ?_) m0 _ ⟨0, _, I4, st4, fun b hb => (f3 b hb).1.1, w0⟩
  · exact codeAny_compStart_dict loop (T.self X.A 0 _ _ _ st4 loop)
  · have I7 : Inv X pins σ H' s' := I3.call' (ch := fp) I'.os I'.base I'.hok I'.bare fun b hb => ⟨(f3 b hb).1.2.2.2.1, (f3 b hb).1.2.1, (f3 b hb).1.2.2.2.2.1, (f3 b hb).1.2.2.2.2.2⟩
    obtain ⟨m, hn, _⟩ := I'.loc
    have hn : s'.heap.Ns s3.heap.objs.size m := hn
    have free' : H' s3.heap.objs.size = none := I'.free
    exact hR D s3.heap.objs.size s' m H' I7 lst hn (I3.fpOk (Nat.le_refl _) free')
theorem pe_dict (hc : X.calm = true) (hN : X.N.Nodup) (hi : PI X tg iter wi) (ok : BlkOk X.N X.env.scope scope own) (hg : ∀ Y, IsBlk X scope Y → PG Y tg g) (ht : ∀ Y, IsBlk X scope Y → PTs Y ifs tt) (hk : ∀ Y, IsBlk X scope Y → PE Y kx tk) (hv : ∀ Y, IsBlk X scope Y → PE Y vx tv) (pu : ∀ Y, IsBlk X scope Y → PutsAt Y pw)
    (hnew : ∀ (h : Heap) (H : Hp), sysModules < h.objs.size → ObjOk X.prog X.w H (h.push { cls := .type "dict", data := .dict #[] }) h.objs.size (new h.objs.size)) (hs : ∀ x, foldedSetIterable iter X.env x = pure x := by intro _; rfl) :
    PE X (.DictComp kx vx [⟨tg, iter, ifs, 0⟩] scope pos) (tDict wi g tt tk tv pw new (own.map (·.2))) := by
  constructor
  intro pins s σ H Q I h
  rw [arm_eval_DictComp]
  refine dict_core (use := none) hc hN hi ok hg ht hk hv pu hnew hs I h fun D C s' m H' I' q hn ⟨f0, f1, _, f3, f4, f5⟩ => ⟨m, hn, fun h'' sb => ⟨.ref D, H', I'.turned (t' := s'.toks) (fun b o hb e => (sb.2 b hb).trans e) f0 f1 f3 f4 f5, rfl, q⟩⟩
/-- y = {..} on one line, y a local -/
theorem ps_setD {i : Nat} {y : Str} {py spos : Pos} (hc : X.calm = true) (hN : X.N.Nodup) (hi : PI X tg iter wi) (ok : BlkOk X.N X.env.scope scope own) (hg : ∀ Y, IsBlk X scope Y → PG Y tg g) (ht : ∀ Y, IsBlk X scope Y → PTs Y ifs tt) (hk : ∀ Y, IsBlk X scope Y → PE Y kx tk) (hv : ∀ Y, IsBlk X scope Y → PE Y vx tv) (pu : ∀ Y, IsBlk X scope Y → PutsAt Y pw)
    (hnew : ∀ (h : Heap) (H : Hp), sysModules < h.objs.size → ObjOk X.prog X.w H (h.push { cls := .type "dict", data := .dict #[] }) h.objs.size (new h.objs.size)) (hs : ∀ x, foldedSetIterable iter X.env x = pure x := by intro _; rfl)
    (hy : X.N[i]? = some y) (hyl : X.env.scope.names.lookup y = some .local) (hsw : swapsWith (.DictComp kx vx [⟨tg, iter, ifs, 0⟩] scope pos) (some (.Name y py)) spos.line X.env = pure true) : PS X (.Assign [.Name y py] (.DictComp kx vx [⟨tg, iter, ifs, 0⟩] scope pos) spos) (tAsg (tDict wi g tt tk tv pw new (own.map (·.2))) (gName i)) := by
  refine ⟨fun pins s σ H Dn I h => ?_⟩
  have q : tDict wi g tt tk tv pw new (own.map (·.2)) σ H (fun x H1 => gName i x σ H1 Dn.nx) := h
  have all := dict_core (pos := pos) (use := some (assign (.Name y py) X.env)) (Qf := fun _ s' => SP X pins Dn .next s') hc hN hi ok hg ht hk hv pu hnew hs I q fun D C s' m H' I' q' hn ⟨f0, f1, _, f3, f4, f5⟩ => by
    refine wpAny_assign_Name (store_ok2 (v := V.ref D) I' hN hy (.inl hyl) rfl (fun s2 I2 ⟨a, sb, ha⟩ => ⟨m, hn.sameBut sb fun e => ?_, fun h3 sb3 => ⟨_, H', I2.turned (t' := s2.toks) (fun b o hb e => (sb3.2 b hb).trans e) f0 f1 f3 f4 f5, q'⟩⟩) (.inr hyl))
    rcases ha with z | z
    · exact f1 (e.trans z)
    · exact f4 y a z e.symm
  rewrite [exec_Assign_Name_used _ _ _ _ hsw]
  refine wpAny_bind ?_
  refine wpAny_standAt ?_
  refine wpAny_bind ?_
  exact wpAny_bind (thn all fun _ s' z => wpAny_pure (wpAny_pure z))
/-- the stores are exchanged -/
theorem sw_dict {gs : List Comprehension} {py : Pos} {y : Str} {l : Nat} {env : PySem.Env} (h1 : env.scope.kind = .function) (h2 : env.scope.names.lookup y = some .local) (h3 : (py.line == pos.line) = true) (h4 : (scope.names.any fun (n, k) => n == y && (k == .local || k == .cell)) = false) : swapsWith (.DictComp kx vx gs scope pos) (some (.Name y py)) l env = pure true := by
  have e1 : env.blockKind = .function := by unfold Env.blockKind; rw [h1]; rfl
  have e2 : env.kindOf y = some .local := h2
  unfold swapsWith
  simp only [e1, e2, h4, Expr.pos, h3]
  rfl
end
end Cw
end L2

set_option Elab.async false
set_option linter.all false
set_option maxRecDepth 100000
set_option maxHeartbeats 2000000
namespace L2
namespace Cw
open PySem PySem.Spec PyProof.Rows
/-- a store of the value told by vt under the key told by kt makes d to d' -/
def StoG (S : SS) (d kt vt d' : T) : Prop := ∀ (W : WX) (Y : Cx), S.Has W Y → ∀ (pins : List (Addr × Obj)) (τ : St) (Z H : Hp) (s : Shared) (D : Addr) (o : HO) (y z : V) (u r : Value) (Q : Unit → Shared → Prop) (E : Value → Shared → Prop), Inv Y pins τ H s → Same Z H → H D = some o →
  ORep S.K Z D o d → Rep S.K Z kt y → Rep S.K Z vt z → RelV y u → RelV z r → (∀ s' o', Inv Y pins τ (upd H D o') s' → ORep S.K Z D o' d' → Q () s') → wpAny (model Y.prog Y.w) Y.A (dictSet D u r) Q E s
/-- the turns of a dict comprehension: the items, the dict ahead of them and behind -/
inductive DcTurns (S : SS) (vs : List Nat) (tg : Expr) (ifs : List Expr) (kx vx : Expr) : List Ent → List T → T → T → List Ent → Prop
  | nil {E d} : DcTurns S vs tg ifs kx vx E [] d d E
  | skip {E Ea Eb E1 E' t ts d d' ws} (ha : AG S (wipeE E vs) tg t Ea ws) (hw : ∀ j ∈ ws, j ∈ vs) (ht : TGs S Ea ifs false Eb) (hb : wipeE Eb vs = wipeE E1 vs) (hf : ∀ j ∈ vs, E1[j]? = E[j]?) (r : DcTurns S vs tg ifs kx vx E1 ts d d' E') : DcTurns S vs tg ifs kx vx E (t :: ts) d d' E'
  | take {E Ea Eb Ec Ed E1 E' t ts kt vt d d1 d' ws} (ha : AG S (wipeE E vs) tg t Ea ws) (hw : ∀ j ∈ ws, j ∈ vs) (ht : TGs S Ea ifs true Eb) (hk : EG S Eb kx kt Ec) (hv : EG S Ec vx vt Ed) (hs : StoG S d kt vt d1) (hb : wipeE Ed vs = wipeE E1 vs) (hf : ∀ j ∈ vs, E1[j]? = E[j]?) (r : DcTurns S vs tg ifs kx vx E1 ts d1 d' E') : DcTurns S vs tg ifs kx vx E (t :: ts) d d' E'
/-- the weakest telling of a store in the block -/
def pwS (S : SS) : TPut := fun D y z H Nx => ∀ Y, S.Has WX0 Y → ∀ (pins : List (Addr × Obj)) (τ : St) (s : Shared) (u r : Value) (E : Value → Shared → Prop), Inv Y pins τ H s → RelV y u → RelV z r → wpAny (model Y.prog Y.w) Y.A (dictSet D u r) (fun _ s' => ∃ H', Inv Y pins τ H' s' ∧ Nx H') E s
section
variable {K : PySem.W.Frag} {Z Z' H H' : Hp} {σ σ' : St} {E E' E1 E2 E3 : List Ent} {S : SS} {tg iter kx vx : Expr} {ifs : List Expr} {vs : List Nat}
/-- the state ahead of turn i -/
def DcSt (S' : SS) (B : Addr → Prop) (Z1 H1 : Hp) (D : Addr) (vs : List Nat) (tg : Expr) (ifs : List Expr) (kx vx : Expr) (σ : St) (E1 : List Ent) (ts : List T) (d' : T) (E2 : List Ent) (i : Nat) (H2 : Hp) : Prop :=
  ∃ (Ei : List Ent) (o : HO) (d : T) (Z2 : Hp), DcTurns S' vs tg ifs kx vx Ei (ts.drop i) d d' E2 ∧ (∀ j ∈ vs, Ei[j]? = E1[j]?) ∧ ORep S'.K Z2 D o d ∧ Beside S'.K B Z1 H1 D o (wipeE Ei vs) (L2.wipe σ vs) Z2 H2
theorem dc_turns {S' : SS} {B : Addr → Prop} {Z1 H1 H0 : Hp} {D : Addr} {o0 : HO} {d0 d' : T} {ts : List T} {J : It} {G : Hp → Prop} {Y : Nat → Hp → V → Hp → Prop} {Qd : Hp → Prop}
    (b0 : Beside S'.K B Z1 H1 D o0 E1 σ Z1 H0) (r0 : ORep S'.K Z1 D o0 d0) (w : Walk J ts.length G Y) (hG : ∀ H2, Same Z1 H2 → G H2) (hY : ∀ i H1 x H2, Y i H1 x H2 → ∃ t, ts[i]? = some t ∧ Comes S'.K Z1 H1 t x H2)
    (r : DcTurns S' vs tg ifs kx vx E1 ts d0 d' E2) (hd : ∀ Z H o, Beside S'.K B Z1 H1 D o (wipeE E2 vs) (L2.wipe σ vs) Z H → ORep S'.K Z D o d' → (∀ j ∈ vs, E2[j]? = E1[j]?) → Qd H) :
    ∃ W : Nat → Nat → Hp → Prop, (∃ m, W 0 m H0) ∧ Runs J W (Turned (RG S' WX0 tg) (RTs S' WX0 ifs) (R S' WX0 kx) (R S' WX0 vx) (pwS S') vs σ D) Qd := by
  refine ⟨fun i m H => i + m = ts.length ∧ DcSt S' B Z1 H1 D vs tg ifs kx vx σ E1 ts d' E2 i H, ⟨ts.length, Nat.zero_add _, ?_⟩, fun i m H2 hm => ?_⟩
  · exact ⟨E1, o0, d0, Z1, r, fun _ _ => rfl, r0, b0.slots (b0.st.wiped vs) fun c h => h.wiped⟩
  obtain ⟨him, Ei, o, d, Z2, rt, hvs, ro, b⟩ := hm
  have notbl := ro.notbl
  have gg : G H2 := hG H2 (b.step.zz.trans b.st.zh)
  rcases Nat.lt_or_eq_of_le (show i ≤ ts.length by omega) with lt | e
  · refine .inr ⟨w.goes i H2 lt gg, DcSt S' B Z1 H1 D vs tg ifs kx vx σ E1 ts d' E2 (i + 1), fun H' p => ⟨m - 1, by omega, by omega, p⟩, fun x H3 y => ?_⟩
    obtain ⟨t, ht, cm⟩ := hY i H2 x H3 (w.yields i H2 x H3 lt gg y)
    rw [drop_at ht] at rt
    obtain ⟨Z3, g3, r3⟩ := cm.go (S := S') (S' := S') (zs := b.step.zz) rfl b.st
    have b3 := b.go g3 rfl notbl
    have ro3 := ro.mono g3.step.zz
    have tgt : ∀ {Ea : List Ent} {ws : List Nat} (Q : St → Hp → Prop), AG S' (wipeE Ei vs) tg t Ea ws → (∀ j ∈ ws, j ∈ vs) → (∀ σ2, Beside S'.K B Z1 H1 D o Ea σ2 Z3 H3 → L2.wipe σ2 vs = L2.wipe σ vs → Q σ2 H3) → RG S' WX0 tg x (L2.wipe σ vs) H3 Q := fun {Ea ws} Q ha hw kq =>
      ha.2.2 WX0 Z3 H3 (L2.wipe σ vs) x _ g3.st r3 fun σ2 st2 e2 => kq σ2 (b3.slots st2 fun c ⟨j, u, h1, h2⟩ => ⟨j, u, by rw [← (ha.1 j ⟨u, h1⟩).2]; exact h1, by rw [← e2.2 j (ha.1 j ⟨u, h1⟩).1]; exact h2⟩)
        (by rw [wipe_congr (σ := L2.wipe σ vs) e2.1 fun j hj => e2.2 j fun z => hj (hw j z), wipe_wipe])
    have fin : ∀ {Ec E1' : List Ent} {σ2 : St} {Z4 H4 : Hp} {o' : HO} {e' : T}, Beside S'.K B Z1 H1 D o' Ec σ2 Z4 H4 → L2.wipe σ2 vs = L2.wipe σ vs → wipeE Ec vs = wipeE E1' vs → (∀ j ∈ vs, E1'[j]? = Ei[j]?) → DcTurns S' vs tg ifs kx vx E1' (ts.drop (i + 1)) e' d' E2 → ORep S'.K Z4 D o' e' →
        DcSt S' B Z1 H1 D vs tg ifs kx vx σ E1 ts d' E2 (i + 1) H4 := fun {Ec E1' σ2 Z4 H4 o' e'} bb ew we hf rt' ro' => by
      refine ⟨E1', o', e', Z4, rt', fun j hj => (hf j hj).trans (hvs j hj), ro', ?_⟩
      have z := bb.slots (bb.st.wiped vs) fun c h => h.wiped
      rwa [ew, we] at z
    cases rt with
    | skip ha hw ht' hb hf rt' =>
      exact tgt _ ha hw fun σ2 b4 ew => ⟨ew, ht' WX0 Z3 H3 σ2 _ b4.st fun H4 Z4 g4 => iteF (fin (b4.go g4 rfl notbl) ew hb hf rt' (ro3.mono g4.step.zz))⟩
    | take ha hw ht' hk hv hs hb hf rt' =>
      refine tgt _ ha hw fun σ2 b4 ew => ⟨ew, ht' WX0 Z3 H3 σ2 _ b4.st fun H4 Z4 g4 => iteT ?_⟩
      have b5 := b4.go g4 rfl notbl
      refine hk WX0 Z4 H4 σ2 _ b5.st fun y H5 Z5 g5 r5 => ?_
      have b6 := b5.go g5 rfl notbl
      refine hv WX0 Z5 H5 σ2 _ b6.st fun z H6 Z6 g6 r6 => ?_
      have b7 := b6.go g6 rfl notbl
      intro Yc hYc pins τ s u q E I ry rq
      exact hs WX0 Yc hYc pins τ Z6 H6 s D o y z u q _ E I b7.st.zh b7.hd (((ro3.mono g4.step.zz).mono g5.step.zz).mono g6.step.zz) (r5.mono g6.step.zz) r6 ry rq fun s' o' I' ro' => ⟨_, I', fin b7.write ew hb hf rt' ro'⟩
  · have rt0 := rt
    rw [e, List.drop_length] at rt0
    cases rt0
    refine .inl ⟨by rw [e]; exact w.stops H2 gg, hd Z2 H2 o b ro hvs⟩
/-- what a dict comprehension comes to, as the pieces that it is made of -/
structure DcD (S : SS) (E E2 : List Ent) (tg iter kx vx : Expr) (ifs : List Expr) (scope : Scope) (d : T) : Prop where
  ex : ∃ (own : List (Str × Nat)) (ts : List T) (E1 : List Ent) (d0 : T) (new : Addr → HO), BlkOk S.N S.sc scope own ∧ S.N.Nodup ∧ IG S E tg iter ts E1 ∧ NoOw E1 (own.map (·.2)) ∧
    (∀ (h : Heap) (H : Hp), sysModules < h.objs.size → ObjOk S.P S.w H (h.push { cls := .type "dict", data := .dict #[] }) h.objs.size (new h.objs.size)) ∧ (∀ Z a, ORep S.K Z a (new a) d0) ∧ DcTurns (S.blk scope) (own.map (·.2)) tg ifs kx vx E1 ts d0 d E2
/-- its reading -/
theorem DcD.read {scope : Scope} {d : T} (D : DcD S E E2 tg iter kx vx ifs scope d) : ∃ (own : List (Str × Nat)) (new : Addr → HO), (BlkOk S.N S.sc scope own ∧ ∀ (h : Heap) (H : Hp), sysModules < h.objs.size → ObjOk S.P S.w H (h.push { cls := .type "dict", data := .dict #[] }) h.objs.size (new h.objs.size)) ∧
    ∀ (W : WX) (Z H : Hp) (σ : St) (Q : VK), StOk S.K Z H σ E → (∀ D o H1 Z1, Beside S.K (Own σ E) Z H D o E2 σ Z1 H1 → (H D = none ∨ Own σ E D) → ORep S.K Z1 D o d → Q (.ref D) H1) → tDict (RI S W tg iter) (RG (S.blk scope) WX0 tg) (RTs (S.blk scope) WX0 ifs) (R (S.blk scope) WX0 kx) (R (S.blk scope) WX0 vx) (pwS (S.blk scope)) new (own.map (·.2)) σ H Q := by
  obtain ⟨own, ts, E1, d0, new, ok, hN, hi, no, hnew, hrep, r⟩ := D.ex
  refine ⟨own, new, ⟨ok, hnew⟩, fun W Z H σ Q st k => hi W Z H σ _ st fun J H1 Z1 G Y g1 w hG hY D hD => ?_⟩
  refine dc_turns (S' := S.blk scope) (B := Own σ E1) (Beside.start g1.st hD (hrep Z1 D).notbl) (hrep Z1 D) w hG hY r fun Z2 H2 o b ro hvs => ?_
  have own_ : ∀ {j : Nat} {u : T}, E2[j]? = some (.ow u) → j ∉ own.map (·.2) := fun h1 hj => by rw [hvs _ hj] at h1; exact no _ hj _ h1
  have len : E2.length = E1.length := by have a := b.st.len; have c := g1.st.len; rw [wipe_length, wipeE_length] at a; omega
  have hz := b.freeze hD ro.notbl
  have st2 := hz.2.unwiped (E := E1) g1.st hz.1.zz (fun j hj => ⟨hvs j hj, no j hj⟩) len
  -- the slots as they were, the dict not yet frozen
  have st3 : StOk S.K Z2 H2 σ E2 := by
    refine ⟨b.st.zh, b.st.nt, st2.len, fun j u h => ?_, fun j u h => ?_, st2.ds⟩
    · by_cases hj : j ∈ own.map (·.2)
      · obtain ⟨v, h1, h2⟩ := g1.st.sh j u (by rw [← hvs j hj]; exact h)
        exact ⟨v, h1, h2.mono b.step.zz⟩
      · obtain ⟨v, h1, h2⟩ := b.st.sh j u (by rw [wipeE_out hj]; exact h)
        exact ⟨v, by rw [wipe_out hj] at h1; exact h1, h2⟩
    · obtain ⟨a, q, h1, h2, h3, h4⟩ := b.st.ow j u (by rw [wipeE_out (own_ h)]; exact h)
      exact ⟨a, q, by rw [wipe_out (own_ h)] at h1; exact h1, h2, h3, h4⟩
  have b2 : Beside S.K (Own σ E1) Z1 H1 D o E2 σ Z2 H2 := by
    refine ⟨st3, b.step, fun c ⟨j, u, h1, h2⟩ => b.ow c ⟨j, u, by rw [wipeE_out (own_ h1)]; exact h1, by rw [wipe_out (own_ h1)]; exact h2⟩, fun ⟨j, u, h1, h2⟩ => b.nd ⟨j, u, by rw [wipeE_out (own_ h1)]; exact h1, by rw [wipe_out (own_ h1)]; exact h2⟩, b.zd, b.hd⟩
  obtain ⟨b3, hD'⟩ := Beside.pre g1 b2 (.inl hD)
  exact k D o H2 Z2 b3 hD' ro
/-- what a block of X has -/
theorem blk_has {scope : Scope} {W : WX} {X : Cx} (hX : S.Has W X) (Y : Cx) (h : IsBlk X scope Y) : (S.blk scope).Has WX0 Y := by
  obtain ⟨s, H, C, cl, fp, e⟩ := h
  rw [e]
  exact hX.blk scope s H C cl fp
theorem SS.Has.nn {W : WX} {X : Cx} (h : S.Has W X) : X.N = S.N := by obtain ⟨A, s0, H0, env, outer, stack, ex, pn, xe, rfl⟩ := h.ex; rfl
/-- {k: v for tg in iter if ..}: a new dict of ours -/
theorem DcD.eo {scope : Scope} {pos : Pos} {d : T} (D : DcD S E E2 tg iter kx vx ifs scope d) (hs : ∀ env x, foldedSetIterable iter env x = pure x := by intro _ _; rfl) : EO S E (.DictComp kx vx [⟨tg, iter, ifs, 0⟩] scope pos) d E2 := fun W Z H σ Q st k => by
  obtain ⟨own, new, ⟨ok, hnew⟩, rd⟩ := D.read
  obtain ⟨_, _, _, _, _, _, hN, _⟩ := D.ex
  refine R.mk (fun X hX => ?_) (rd W Z H σ Q st k)
  have bk := blk_has (scope := scope) hX
  refine pe_dict hX.calm (by rw [hX.nn]; exact hN) (hX.pi tg iter) (by rw [hX.nn, hX.sc]; exact ok) (fun Y hY => (bk Y hY).pg tg) (fun Y hY => (bk Y hY).pts ifs) (fun Y hY => (bk Y hY).pe kx) (fun Y hY => (bk Y hY).pe vx) (fun Y hY pins τ H s D y z u r Nx E I ry rz h => h Y (bk Y hY) pins τ s u r E I ry rz) ?_ (fun x => hs _ x)
  rw [hX.hP, hX.hw]
  exact hnew
/-- y = {..}, y a local: ours -/
theorem DcD.set {scope : Scope} {pos py spos : Pos} {d : T} {i : Nat} {y : Str} (D : DcD S E E2 tg iter kx vx ifs scope d) (so : StoOk S i y) (hyl : S.sc.names.lookup y = some .local) (hk : S.sc.kind = .function) (hl : (py.line == pos.line) = true) (hna : (scope.names.any fun (n, k) => n == y && (k == .local || k == .cell)) = false) (hlen : i < E2.length)
    (hs : ∀ env x, foldedSetIterable iter env x = pure x := by intro _ _; rfl) : SG S E (.Assign [.Name y py] (.DictComp kx vx [⟨tg, iter, ifs, 0⟩] scope pos) spos) (.nx (E2.set i (.ow d))) := fun W Z H σ Dn st k => by
  obtain ⟨own, new, ⟨ok, hnew⟩, rd⟩ := D.read
  obtain ⟨_, _, _, _, _, _, hN, _⟩ := D.ex
  refine RSt.mk (fun X hX => ?_) (show tAsg (tDict (RI S W tg iter) (RG (S.blk scope) WX0 tg) (RTs (S.blk scope) WX0 ifs) (R (S.blk scope) WX0 kx) (R (S.blk scope) WX0 vx) (pwS (S.blk scope)) new (own.map (·.2))) (gName i) Dn σ H from rd W Z H σ _ st fun D o H1 Z1 b hD r => ?_)
  · have bk := blk_has (scope := scope) hX
    refine ps_setD hX.calm (by rw [hX.nn]; exact hN) (hX.pi tg iter) (by rw [hX.nn, hX.sc]; exact ok) (fun Y hY => (bk Y hY).pg tg) (fun Y hY => (bk Y hY).pts ifs) (fun Y hY => (bk Y hY).pe kx) (fun Y hY => (bk Y hY).pe vx) (fun Y hY pins τ H s D y z u r Nx E I ry rz h => h Y (bk Y hY) pins τ s u r E I ry rz) ?_ (fun x => hs _ x) (by rw [hX.nn]; exact so.hN) (by rw [hX.sc]; exact hyl) (sw_dict (by rw [hX.sc]; exact hk) (by rw [hX.sc]; exact hyl) hl hna)
    rw [hX.hP, hX.hw]
    exact hnew
  · exact k _ _ _ (b.put hD r hlen so.np)
theorem eo_dict {scope : Scope} {own : List (Str × Nat)} {pos : Pos} {ts : List T} {d0 d : T} {new : Addr → HO} (ok : BlkOk S.N S.sc scope own) (hN : S.N.Nodup) (hi : IG S E tg iter ts E1) (no : NoOw E1 (own.map (·.2)))
    (hnew : ∀ (h : Heap) (H : Hp), sysModules < h.objs.size → ObjOk S.P S.w H (h.push { cls := .type "dict", data := .dict #[] }) h.objs.size (new h.objs.size)) (hrep : ∀ Z a, ORep S.K Z a (new a) d0) (r : DcTurns (S.blk scope) (own.map (·.2)) tg ifs kx vx E1 ts d0 d E2)
    (hs : ∀ env x, foldedSetIterable iter env x = pure x := by intro _ _; rfl) : EO S E (.DictComp kx vx [⟨tg, iter, ifs, 0⟩] scope pos) d E2 := (DcD.mk ⟨own, ts, E1, d0, new, ok, hN, hi, no, hnew, hrep, r⟩).eo hs
end
end Cw
end L2

set_option Elab.async false
set_option linter.all false
set_option maxRecDepth 100000
set_option maxHeartbeats 2000000
namespace L2
namespace Cw
open PySem PySem.Spec PyProof.Rows
theorem paired_at {α β : Type} {R : α → β → Prop} {xs : List α} {ys : List β} (h : Paired R xs ys) : ∀ {i : Nat} {b : β}, ys[i]? = some b → ∃ a, xs[i]? = some a ∧ R a b := by
  induction h with
  | nil => intro i b e; simp at e
  | @cons x y xs ys r t ih =>
    intro i b e
    cases i with
    | zero => rw [List.getElem?_cons_zero] at e; cases e; exact ⟨x, rfl, r⟩
    | succ i => rw [List.getElem?_cons_succ] at e ⊢; exact ih e
section
variable {K : PySem.W.Frag} {Z Z' H H' : Hp} {σ : St} {E E1 E2 : List Ent} {S : SS} {tg iter d : Expr} {l : List (NestedKey × T)} {w : World}
/-- the raw dict behind a locked one -/
theorem dn_raw {X : Cx} {pins : List (Addr × Obj)} {s : Shared} {a : Addr} {ob : Obj} {qs vs : List V} (I : Inv X pins σ H s) (zh : Same Z H) (hK : X.K = K) (hw : X.w = w) (h : H a = some (.frz ob (.ext (dnP w (l.map (·.1)) a qs vs)))) (r1 : Reps K Z (l.map fun x => keyT x.1) qs) (r2 : Reps K Z (l.map (·.2)) vs) :
    (a == sysModules) = false ∧ ∃ es ep, s.heap.get? a = some ob ∧ ob.ExactDict ∧ ob.data = .dict es ep ∧ es.size = l.length ∧ ∀ i (hi : i < es.size), ∃ b x, qs[i]? = some (.ref b) ∧ es[i].key = .ref b ∧ vs[i]? = some x ∧ RelV x es[i].val := by
  obtain ⟨hs, _, _, xs, hm, dr⟩ := dn_open (l := l) I zh hK hw (.inr ⟨ob, h⟩) ⟨qs, vs, rfl, r1, r2⟩
  obtain ⟨ho, ⟨p1, p2, p3, ys, y1, y2, y3, o', es', ep', q1, q2, q3, q4, q5⟩, _⟩ := (show _ ∧ ObjOk X.prog X.w H s.heap a (.ext (dnP w (l.map (·.1)) a qs vs)) from I.hok a _ h)
  rw [ho] at q1
  cases q1
  have hl : ys.length = l.length := by have := congrArg List.length y1; simpa using this
  have sz : es'.size = ys.length := by have := congrArg List.length q4; simpa using this
  refine ⟨hs, es', ep', ho, q2, q3, sz.trans hl, fun i hi => ?_⟩
  have hi' : i < ys.length := by omega
  have e : es'.toList[i]? = (ys[i]?).map fun x => (⟨x.1.hash w, .ref x.2.1, x.2.2⟩ : DictEntry) := by rw [q4, List.getElem?_map]
  rw [List.getElem?_eq_getElem hi', Array.getElem?_toList, Array.getElem?_eq_getElem hi] at e
  have e := Option.some.inj e
  obtain ⟨x, hx, r⟩ := paired_at y3 (i := i) (b := ys[i].2.2) (by rw [List.getElem?_map, List.getElem?_eq_getElem hi']; rfl)
  exact ⟨ys[i].2.1, x, by rw [y2, List.getElem?_map, List.getElem?_eq_getElem hi']; rfl, by rw [e], hx, by rw [e]; exact r⟩
/-- for k in d, d shared -/
theorem ig_keysN (h : EG S E iter (dN S.w l) E1) : IG S E tg iter (l.map fun x => keyT x.1) E1 := fun W Z H σ Rr st k X hX pins s I => by
  refine h.run hX st I fun u s1 v H1 Z1 I1 rv g r => ?_
  obtain ⟨a, ob, qs, vs, rfl, hz, r1, r2⟩ := rep_dct.mp r
  cases show u = .ref a from rv
  have ha := g.st.zh _ _ hz
  obtain ⟨nd, es, ep, ho, ex, raw, sz, ent⟩ := dn_raw (l := l) I1 g.st.zh hX.kk hX.hw ha r1 r2
  have hn := I1.hok.fresh (Nat.le_refl s1.heap.objs.size)
  have hlt := Heap.lt_size ho
  refine wpAny_pyIter_dict_raw nd ⟨ob, ho, ex, raw⟩ ?_
  have I2 : Inv X pins σ H1 { s1 with heap := s1.heap.push { cls := .type "dict_keyiterator", data := .fields #[.ref a, .int 0 0, .int es.size 0, .int ep 0] } } := I1.kept (t' := s1.toks) fun b o e => Heap.get?_push_of_some _ e
  refine ⟨s1.heap.objs.size, [s1.heap.objs.size], fun i h => h.IsKeyIter s1.heap.objs.size a i es.size ep, ItR a ob (.ext (dnP S.w (l.map (·.1)) a qs vs)) es.size (fun i => qs[i]?), H1, rfl, I2, ?_, ?_, fun b hb => ?_, ?_⟩
  · exact turn_goes (Nat.ne_of_lt hlt) ex raw fun i hi => by
      obtain ⟨b, x, e1, e2, _⟩ := ent i hi
      exact ⟨.ref b, e1, e2⟩
  · exact ⟨_, Heap.get?_push_size _ rfl, rfl, rfl⟩
  · rw [List.eq_of_mem_singleton hb]
    exact I1.fpOk (Nat.le_refl _) hn
  · refine k _ H1 Z1 (fun H2 => H2 a = some (.frz ob (.ext (dnP S.w (l.map (·.1)) a qs vs)))) (fun i H2 x H3 => H3 = H2 ∧ qs[i]? = some x) g ⟨fun i H2 hi hg => ⟨hg, by rw [sz, ← List.length_map (f := fun x => keyT x.1)]; exact hi⟩, fun H2 hg => ⟨hg, by rw [sz, List.length_map]⟩, fun i H2 x H3 _ _ hy => hy⟩ (fun H2 e => e _ _ hz) fun i H2 x H3 hy => ?_
    obtain ⟨t, ht, rt⟩ := r1.get hy.2
    exact ⟨t, ht, .inl ⟨hy.1, rt⟩⟩
end
end Cw
end L2

set_option Elab.async false
set_option linter.all false
set_option maxRecDepth 100000
set_option maxHeartbeats 2000000
namespace L2
namespace Cw
open PySem PySem.Spec PyProof.Rows PySem.SeqAt
/-! ### sorted -/
/-- trees in order: as their data are -/
def sortT (ts : List T) : List T := ts.mergeSort (PySem.W.dataLe false toD)
/-- they may be sorted: plain data, all of a kind -/
structure SrtOk (ts : List T) : Prop where
  dok : ∀ t ∈ ts, DOk 8 t
  alike : PySem.W.AllAlike (ts.map toD)
  able : PySem.W.Sortable (ts.map toD)
theorem sortT_mem {ts : List T} {t : T} : t ∈ sortT ts ↔ t ∈ ts := List.mem_mergeSort
theorem sortT_length {ts : List T} : (sortT ts).length = ts.length := List.length_mergeSort ts
section
variable {K : PySem.W.Frag} {Z H : Hp} {σ : St} {X : Cx} {pins : List (Addr × Obj)} {s : Shared}
theorem each_reps {R : Value → T → Prop} (hR : ∀ {t v u}, Rep K Z t v → RelV v u → R u t) : ∀ {ts : List T} {vs : List V} {us : List Value}, Reps K Z ts vs → Vals vs us → PySem.W.EachIs R us ts
  | [], _, _, r, h => by rw [r.unnil] at h; cases h; exact .nil
  | t :: ts, _, _, r, h => by
    obtain ⟨v, vs, rfl, r1, r2⟩ := r.uncons
    cases h with
    | cons h1 h2 => exact .cons (hR r1 h1) (each_reps hR r2 h2)
theorem reps_each : ∀ {ts : List T} {us : List Value}, PySem.W.EachIs (fun u t => ∃ v, Rep K Z t v ∧ RelV v u) us ts → ∃ vs, Reps K Z ts vs ∧ Vals vs us
  | _, _, .nil => ⟨[], .nil, .nil⟩
  | _, _, .cons ⟨v, h1, h2⟩ t => by
    obtain ⟨vs, r1, r2⟩ := reps_each t
    exact ⟨v :: vs, .cons h1 r1, .cons h2 r2⟩
/-- the items as data of the heap -/
theorem each_reads (I : Inv X pins σ H s) (zh : Same Z H) (hK : X.K = K) {ts : List T} {vs : List V} {us : List Value} (so : ∀ t ∈ ts, DOk 8 t) (r : Reps K Z ts vs) (h : Vals vs us) : PySem.W.EachIs (fun u t => ∃ as, Reads s.heap u (toD t) as) us ts := by
  induction ts generalizing vs us with
  | nil => rw [r.unnil] at h; cases h; exact .nil
  | cons t ts ih =>
    obtain ⟨v, vs, rfl, r1, r2⟩ := r.uncons
    cases h with
    | cons h1 h2 =>
      refine .cons (Dp.reads I (toD t) v _ ?_ h1) (ih (fun u hu => so u (List.mem_cons_of_mem _ hu)) r2 h2)
      rw [hK]
      exact (dOk_spec 8 t (so t List.mem_cons_self)).2.2 zh r1
end
section
variable {K : PySem.W.Frag} {Z Z' H H' : Hp} {σ : St} {E E1 E2 : List Ent} {S : SS} {e : Expr} {p pos : Pos} {ts : List T} {l : List (NestedKey × T)}
/-- a new list at D whose items are those -/
theorem new_lst {W : WX} {X : Cx} {pins : List (Addr × Obj)} {s : Shared} {Q : VK} (hX : S.Has W X) (I : Inv X pins σ H s) (st : StOk S.K Z H σ E) {h' : Heap} {tk : Nat} {D : Addr} {out : List Value} {n : Nat} (old : ∀ b o, s.heap.get? b = some o → h'.get? b = some o) (hD : s.heap.objs.size ≤ D) (new : h'.get? D = some { cls := .type "list", data := .seq out.toArray n })
    (hl : ts.length ≤ sizeLine) (each : PySem.W.EachIs (fun u t => ∃ v, Rep S.K Z t v ∧ RelV v u) out ts) (k : ∀ v H' Z', Go S E σ Z H E σ Z' H' → Rep S.K Z' (.lst ts) v → Q v H') : EP X pins σ Q (.ref D) { s with heap := h', toks := tk } := by
  obtain ⟨vs, r, rv⟩ := reps_each each
  have hn : H D = none := I.hok.fresh hD
  obtain ⟨g, rr⟩ := Go.lst st r hn
  exact ⟨.ref D, _, I.laid (t' := tk) old hD (show ObjOk X.prog X.w _ _ D (.lst vs) from ⟨by rw [r.length]; exact hl, out, n, rv, new⟩), rfl, k _ _ _ g rr⟩
theorem dok_depth (K : PySem.W.Frag) {t : T} (h : DOk 8 t) : (toD t).depth ≤ 8 := (dOk_spec (K := K) 8 t h).2.1
/-- sorted(xs), xs a list -/
theorem eg_sortedL (g : GlOk S "sorted") (hm : S.mg "sorted" = none) (so : SrtOk ts) (ha : EG S E e (.lst ts) E1) (he : ∀ env, starEach [e] env = (false, eval e env) :: starEach [] env := by intro _; rfl) : EG S E (.Call (.Name "sorted" p) [e] [] pos) (.lst (sortT ts)) E1 :=
  eg_callB (r := WC S (.builtin "sorted")) (fun W X hX => WC.rule hX) (fun E Z H σ vs Q st r k W X hX pins s σ' us I rv => by
    obtain ⟨v, rfl, h⟩ := reps_one r
    obtain ⟨a, vs, rfl, q1, q2⟩ := rep_lst.mp h
    rw [Vals.ref1 rv]
    obtain ⟨its, ri, seq, hz⟩ := I.list (.inl (.inl (st.zh _ _ q1)))
    have hK := hX.kk
    have hL : ts.length ≤ sizeLine := by rw [← q2.length]; exact hz
    refine PySem.W.sorted_data (enc := toD) (bs := ts) (R := fun u t => ∃ v, Rep S.K Z t v ∧ RelV v u) seq.isList (each_reps (fun a b => ⟨_, a, b⟩) q2 ri) (each_reads I st.zh hK so.dok q2 ri) so.alike so.able hL (fun t ht => ?_) fun out ho he => ?_
    · have := u65 hX
      have := dok_depth S.K (so.dok t ht)
      omega
    · obtain ⟨n, hn⟩ := sortedAll_at s.heap its (List.toArray out)
      obtain ⟨vs', r', rv'⟩ := reps_each he
      have st' : H (s.heap.objs.size + 1) = none := I.hok.fresh (Nat.le_succ _)
      obtain ⟨g, rr⟩ := Go.lst (E := E) (σ := σ) st r' st'
      exact ⟨.ref (s.heap.objs.size + 1), _, I.laid (t' := s.toks) (fun b u e => sortedAll_old e) (Nat.le_succ _) (show ObjOk X.prog X.w _ _ _ (.lst vs') from ⟨by rw [r'.length]; show (sortT ts).length ≤ _; rw [sortT_length]; exact hL, out, n, rv', hn⟩), rfl, k _ _ _ g rr⟩) g hm (by decide +kernel) (eas_cons ha eas_nil he) (by decide) he (by intro _; rfl)
end
end Cw
end L2

set_option Elab.async false
set_option linter.all false
set_option maxRecDepth 100000
set_option maxHeartbeats 2000000
namespace L2
namespace Cw
open PySem PySem.Spec PyProof.Rows PySem.SeqAt
/-! ### what list, sorted, tuple read of a dict -/
/-- t gives, drawn out, the items ts -/
def Drawn (S : SS) (t : T) (ts : List T) : Prop := ∀ (W : WX) (X : Cx), S.Has W X → ∀ (pins : List (Addr × Obj)) (σ : St) (Z H : Hp) (s : Shared) (v : V), Inv X pins σ H s → Same Z H → Rep S.K Z t v →
  ∃ (r : Addr) (cl : String) (d : Addr) (n : Nat) (P : Nat → Value → Prop) (OK : Heap → Prop), v = .ref r ∧ PySem.W.KdlSrc X.prog X.w cl r d n P OK ∧ OK s.heap ∧ n = ts.length ∧ ts.length ≤ sizeLine ∧ ∀ acc : Array Value, ItemsOf P acc n → ∃ vs, Vals vs acc.toList ∧ Reps S.K Z ts vs
theorem reps_keys {K : PySem.W.Frag} {Z : Hp} : ∀ {ts : List T} {vs : List V} {us : List Value} (hl : us.length = vs.length), Reps K Z ts vs → (∀ (i : Nat) (u : Value) (v : V), us[i]? = some u → vs[i]? = some v → RelV v u) → Vals vs us
  | [], _, us, hl, r, h => by rw [r.unnil] at hl ⊢; cases us with
    | nil => exact .nil
    | cons u us => cases hl
  | t :: ts, _, us, hl, r, h => by
    obtain ⟨v, vs, rfl, r1, r2⟩ := r.uncons
    cases us with
    | nil => cases hl
    | cons u us => exact .cons (h 0 u v rfl rfl) (reps_keys (by simpa using hl) r2 fun i u' v' a b => h (i + 1) u' v' (by simpa using a) (by simpa using b))
section
variable {K : PySem.W.Frag} {Z Z' H H' : Hp} {σ : St} {E E1 E2 : List Ent} {S : SS} {e : Expr} {p pos : Pos} {t : T} {ts : List T} {l : List (NestedKey × T)}
theorem drawn_dN : Drawn S (dN S.w l) (l.map fun x => keyT x.1) := fun W X hX pins σ Z H s v I zh r => by
  obtain ⟨a, ob, qs, vs, rfl, hz, r1, r2⟩ := rep_dct.mp r
  have ha := zh _ _ hz
  obtain ⟨nd, es, ep, ho, ex, raw, sz, ent⟩ := dn_raw (l := l) I zh hX.kk hX.hw ha r1 r2
  have hl : l.length ≤ sizeLine := (dn_open (l := l) I zh hX.kk hX.hw (.inr ⟨ob, ha⟩) ⟨qs, vs, rfl, r1, r2⟩).2.1
  refine ⟨a, "dict", a, es.size, _, _, rfl, PySem.KdlSrc.rawDict nd, ⟨ob, ho, ex, raw⟩, by rw [List.length_map]; exact sz, by rw [List.length_map]; exact hl, fun acc hacc => ⟨qs, ?_, r1⟩⟩
  have hq : qs.length = l.length := by rw [r1.length, List.length_map]
  refine reps_keys (by rw [Array.length_toList, hacc.1, sz, hq]) r1 fun i u v hu hv => ?_
  rw [Array.getElem?_toList] at hu
  obtain ⟨hi, e⟩ := hacc.2 i u hu
  obtain ⟨b, x, e1, e2, _⟩ := ent i hi
  rw [hv] at e1
  cases e1
  rw [e, e2]
  rfl
/-- list(x) -/
theorem eg_listD (d : Drawn S t ts) (g : GlOk S "list") (hm : S.mg "list" = none) (ha : EG S E e t E1) (he : ∀ env, starEach [e] env = (false, eval e env) :: starEach [] env := by intro _; rfl) : EG S E (.Call (.Name "list" p) [e] [] pos) (.lst ts) E1 :=
  eg_callTy (r := WC S (.type "list")) (fun W X hX => WC.rule hX) (fun E Z H σ vs Q st r k W X hX pins s σ' us I rv => by
    obtain ⟨v, rfl, h⟩ := reps_one r
    obtain ⟨r, cl, dd, n, P, OK, rfl, kd, ok, en, hL, out⟩ := d W X hX pins σ' Z H s v I st.zh h
    rw [Vals.ref1 rv]
    refine PySem.W.kdl_call kd (I.ok.hd hX.calm) ok (by rw [en]; exact hL) fun h' tk acc c' old at_ items => ?_
    obtain ⟨vs, rv', rr⟩ := out acc items
    have hn := I.hok.fresh (Nat.le_of_eq (rfl : s.heap.objs.size = s.heap.objs.size))
    obtain ⟨gg, r2⟩ := Go.lst (E := E) (σ := σ) st rr hn
    exact ⟨.ref s.heap.objs.size, _, I.laid (t' := tk) old (Nat.le_refl _) (show ObjOk X.prog X.w _ _ _ (.lst vs) from ⟨by rw [rr.length]; exact hL, acc.toList, c', rv', by rw [Array.toArray_toList]; exact at_⟩), rfl, k _ _ _ gg r2⟩) g hm (by decide +kernel) (eas_cons ha eas_nil he) (by decide) he (by intro _; rfl)
/-- sorted(x), told by what is drawn from x -/
theorem sorted_of {W : WX} {X : Cx} {pins : List (Addr × Obj)} {s : Shared} {v : Value} {Q : VK} {τ : St} (hX : S.Has W X) (I : Inv X pins τ H s) (st : StOk S.K Z H σ E) (so : SrtOk ts) (hL : ts.length ≤ sizeLine)
    (col : ∀ (R : List Value → Shared → Prop) (Ex : Value → Shared → Prop), (∀ (h' : Heap) (tk : Nat) (us : List Value) (vs : List V), (∀ b o, s.heap.get? b = some o → h'.get? b = some o) → Vals vs us → Reps S.K Z ts vs → R us { s with heap := h', toks := tk }) → wpAny (model X.prog X.w) X.A.in1 (collect v) R Ex s)
    (k : ∀ w H' Z', Go S E σ Z H E σ Z' H' → Rep S.K Z' (.lst (sortT ts)) w → Q w H') : wpAny (model X.prog X.w) X.A (call (.builtin "sorted") [v]) (EP X pins τ Q) X.xe s := by
  apply Calls.call_function_entry kind_sorted plain_sorted entry_sorted (args_sorted1 _)
  unfold Builtin.«sorted»
  refine wpAny_bind (m := checkCount "sorted" 1 1 _) (wpAny_pure (wpAny_bind (col _ _ fun h' tk us vs old rv' rr => ?_)))
  have hus : us.length ≤ sizeLine := by rw [← rv'.length, rr.length]; exact hL
  refine wpAny_bind (PySem.wpAny_newList ?_ hus)
  have at_ : (h'.push (seqObj "list" us.toArray 0)).get? h'.objs.size = some (seqObj "list" us.toArray 0) := Heap.get?_push_size _ rfl
  have I1 : Inv X pins τ H { s with heap := h', toks := tk } := I.kept old
  have up : ∀ b u, h'.get? b = some u → (h'.push (seqObj "list" us.toArray 0)).get? b = some u := fun b u e => Heap.get?_push_of_some _ e
  have I2 : Inv X pins τ H { s with heap := PySem.W.sortingHeap (h'.push (seqObj "list" us.toArray 0)) h'.objs.size us, toks := tk } := I1.kept (t' := tk) fun b u e => PySem.W.sortingHeap_old (Nat.ne_of_lt (Heap.lt_size e)) (up b u e)
  have reads := each_reads I2 st.zh hX.kk so.dok rr rv'
  have room : ∀ t ∈ ts, X.A.in1.in1.units + (toD t).depth < cLine := fun t ht => by
    have := u65 hX
    have := dok_depth S.K (so.dok t ht)
    show X.A.units + 2 + _ < _
    omega
  refine wpAny_bind (wpAny_holding (wpAny_call_entry slot_list_sort ⟨_, at_, rfl⟩ entry_list_sort (PySem.W.list_sort_vals (s := { s with heap := h'.push (seqObj "list" us.toArray 0), toks := tk }) at_ (PySem.W.SortsAt.data (PySem.W.each_map (R := fun v d => ∃ as, Reads (PySem.W.sortingHeap (h'.push (seqObj "list" us.toArray 0)) h'.objs.size us) v d as) toD reads) so.alike so.able (PySem.W.bound_map room)) hus ?_) (args_list_sort _)))
  have outs := PySem.W.sortVals_data (R := fun u t => ∃ v, Rep S.K Z t v ∧ RelV v u) false (each_reps (fun a b => ⟨_, a, b⟩) rr rv') reads so.alike
  obtain ⟨ws, r3, rw3⟩ := reps_each outs
  obtain ⟨ep, at2⟩ := sortedHeap_at (vs := us) (out := (PySem.W.sortVals (PySem.W.dataKind (PySem.W.sortingHeap (h'.push (seqObj "list" us.toArray 0)) h'.objs.size us) (ts.map toD)) false us us).toArray) at_
  have hD : H h'.objs.size = none := I1.hok.fresh (Nat.le_refl _)
  obtain ⟨gg, r4⟩ := Go.lst (E := E) (σ := σ) st r3 hD
  refine ⟨.none, rfl, wpAny_pure ⟨_, rfl, .ref h'.objs.size, _, I1.laid (t' := tk) (fun b u e => ?_) (Nat.le_refl _) (show ObjOk X.prog X.w _ _ _ (.lst ws) from ⟨by rw [r3.length]; show (sortT ts).length ≤ _; rw [sortT_length]; exact hL, _, ep, rw3, at2⟩), rfl, k _ _ _ gg r4⟩⟩
  rw [sortedHeap_old (Nat.ne_of_lt (Heap.lt_size e)) (by rw [Heap.size_push]; exact Nat.lt_succ_of_lt (Heap.lt_size e))]
  exact up b u e
/-- sorted(x) -/
theorem eg_sortedD (d : Drawn S t ts) (so : SrtOk ts) (g : GlOk S "sorted") (hm : S.mg "sorted" = none) (ha : EG S E e t E1) (he : ∀ env, starEach [e] env = (false, eval e env) :: starEach [] env := by intro _; rfl) : EG S E (.Call (.Name "sorted" p) [e] [] pos) (.lst (sortT ts)) E1 :=
  eg_callB (r := WC S (.builtin "sorted")) (fun W X hX => WC.rule hX) (fun E Z H σ vs Q st r k W X hX pins s σ' us I rv => by
    obtain ⟨v, rfl, h⟩ := reps_one r
    obtain ⟨r, cl, dd, n, P, OK, rfl, kd, ok, en, hL, out⟩ := d W X hX pins σ' Z H s v I st.zh h
    rw [Vals.ref1 rv]
    exact sorted_of hX I st so hL (fun R Ex h2 => PySem.W.kdu_collect kd (show X.A.in1.handled = none from I.ok.hd hX.calm) ok (by rw [en]; exact hL) fun h' tk acc old items => by
      obtain ⟨vs, rv', rr⟩ := out acc items
      exact h2 h' tk acc.toList vs old rv' rr) k) g hm (by decide +kernel) (eas_cons ha eas_nil he) (by decide) he (by intro _; rfl)
/-- sorted(xs), xs a tuple -/
theorem eg_sortedT (so : SrtOk ts) (g : GlOk S "sorted") (hm : S.mg "sorted" = none) (ha : EG S E e (.tup ts) E1) (he : ∀ env, starEach [e] env = (false, eval e env) :: starEach [] env := by intro _; rfl) : EG S E (.Call (.Name "sorted" p) [e] [] pos) (.lst (sortT ts)) E1 :=
  eg_callB (r := WC S (.builtin "sorted")) (fun W X hX => WC.rule hX) (fun E Z H σ vs Q st r k W X hX pins s σ' us I rv => by
    obtain ⟨v, rfl, h⟩ := reps_one r
    obtain ⟨a, ws, rfl, q1, q2⟩ := rep_tup.mp h
    rw [Vals.ref1 rv]
    obtain ⟨its, ri, ⟨o, e1, e2, n, e3⟩, hz⟩ := I.tuple (.inl (.inl (st.zh _ _ q1)))
    have hL : ts.length ≤ sizeLine := by rw [← q2.length]; exact hz
    refine sorted_of hX I st so hL (fun R Ex h2 => wpAny_collect_seq a (.inr rfl) e1 e2 e3 (fun h' old => ?_) (by rw [List.size_toArray, ← ri.length]; exact hz)) k
    exact h2 h' s.toks its ws old ri q2) g hm (by decide +kernel) (eas_cons ha eas_nil he) (by decide) he (by intro _; rfl)
end
end Cw
end L2

set_option Elab.async false
set_option linter.all false
set_option maxRecDepth 100000
set_option maxHeartbeats 2000000
namespace L2
namespace Cw
open PySem PySem.Spec PyProof.Rows PySem.SeqAt
/-! ### tuple(d), d a dict -/
section
variable {prog : Program} {w : World} {A : Around} {Ex : Value → Shared → Prop} {s : Shared} {r d : Addr} {n : Nat} {P : Nat → Value → Prop} {OK : Heap → Prop}
theorem tuple_drawn {Q : Value → Shared → Prop} (kd : PySem.W.KdlSrc prog w "dict" r d n P OK) (calm : A.handled = none) (ok : OK s.heap) (few : n ≤ sizeLine)
    (fin : ∀ (h' : Heap) (tk : Nat) (acc : Array Value), (∀ b o, s.heap.get? b = some o → h'.get? b = some o) → ItemsOf P acc n → Q (.ref h'.objs.size) { s with heap := h'.push { cls := .type "tuple", data := .seq acc }, toks := tk }) :
    wpAny (model prog w) A (call (.type "tuple") [.ref r]) Q Ex s := by
  refine callType_newIn F.called_tuple (by decide) (F.typeCall_tuple_1 _) (F.newCall_tuple_1 _) (fun obj => F.args_object_init_2 obj _) F.entry_tuple_new
    (S := fun B R t => B.handled = none ∧ OK t.heap ∧ ∀ (h' : Heap) (tk : Nat) (acc : Array Value), (∀ b o, t.heap.get? b = some o → h'.get? b = some o) → ItemsOf P acc n → R (.ok (.ret (.ref h'.objs.size))) { t with heap := h'.push { cls := .type "tuple", data := .seq acc }, toks := tk })
    (.of_wp fun B R t q => ?_) ⟨calm, ok, fun h' tk acc old items => ⟨⟨_, Heap.get?_push_size _ rfl, rfl⟩, fin h' tk acc old items⟩⟩
  obtain ⟨q1, q2, q3⟩ := q
  have ini := init_tuple_lookup
  have sub := sub_tuple_self
  have here := madeHere_tuple
  wp_walk using wpAny_typeOf (kd.type t q2), PySem.W.kdu_collect (A := B.in1) kd (show B.in1.handled = none from q1) q2 few
  intro h' tk acc old items
  have sz : acc.size ≤ sizeLine := by rw [items.1]; exact few
  rw [Array.toArray_toList]
  refine wpAny_bind ?_
  refine wpAny_pure ?_
  dsimp only
  refine wpAny_bind (wpAny_newObj_type ?_ ?_)
  · exact wpAny_pure ⟨_, rfl, q3 h' tk acc old items⟩
  · exact sz
end
section
variable {Z H : Hp} {σ : St} {E E1 : List Ent} {S : SS} {e : Expr} {p pos : Pos} {l : List (NestedKey × T)}
theorem eg_tupleN (g : GlOk S "tuple") (hm : S.mg "tuple" = none) (ha : EG S E e (dN S.w l) E1) (he : ∀ env, starEach [e] env = (false, eval e env) :: starEach [] env := by intro _; rfl) : EG S E (.Call (.Name "tuple" p) [e] [] pos) (.tup (l.map fun x => keyT x.1)) E1 :=
  eg_callTy (r := WC S (.type "tuple")) (fun W X hX => WC.rule hX) (fun E Z H σ vs Q st r k W X hX pins s σ' us I rv => by
    obtain ⟨v, rfl, h⟩ := reps_one r
    obtain ⟨a, ob, qs, vs, rfl, hz, r1, r2⟩ := rep_dct.mp h
    have ha := st.zh _ _ hz
    obtain ⟨nd, es, ep, ho, ex, raw, sz, ent⟩ := dn_raw (l := l) I st.zh hX.kk hX.hw ha r1 r2
    have hl : l.length ≤ sizeLine := (dn_open (l := l) I st.zh hX.kk hX.hw (.inr ⟨ob, ha⟩) ⟨qs, vs, rfl, r1, r2⟩).2.1
    rw [Vals.ref1 rv]
    refine tuple_drawn (PySem.KdlSrc.rawDict (es := es) (ep := ep) nd) (I.ok.hd hX.calm) ⟨ob, ho, ex, raw⟩ (by omega) fun h' tk acc old items => ?_
    have I1 : Inv X pins σ' H { s with heap := h', toks := tk } := I.kept old
    have hn : H h'.objs.size = none := I1.hok.fresh (Nat.le_refl _)
    have hq : qs.length = l.length := by rw [r1.length, List.length_map]
    have rv' : Vals qs acc.toList := reps_keys (by rw [Array.length_toList, items.1, sz, hq]) r1 fun i u v hu hv => by
      rw [Array.getElem?_toList] at hu
      obtain ⟨hi, e⟩ := items.2 i u hu
      obtain ⟨b, x, e1, e2, _⟩ := ent i hi
      rw [hv] at e1
      cases e1
      rw [e, e2]
      rfl
    obtain ⟨gg, r3⟩ := Go.tup (E := E) (σ := σ) (P := H) st r1 hn
    have new := IsTup.new h' acc.toList.toArray
    rw [Array.toArray_toList] at new
    exact ⟨.ref h'.objs.size, _, I1.laid (t' := tk) (fun b o e => Heap.get?_push_of_some _ e) (Nat.le_refl _) (show ObjOk X.prog X.w _ _ _ (.tup qs) from ⟨by rw [hq]; exact hl, acc.toList, rv', by rw [Array.toArray_toList]; exact new⟩), rfl, k _ _ _ gg r3⟩) g hm (by decide +kernel) (eas_cons ha eas_nil he) (by decide) he (by intro _; rfl)
end
end Cw
end L2

set_option Elab.async false
set_option linter.all false
set_option maxRecDepth 100000
set_option maxHeartbeats 2000000
namespace L2
namespace Cw
open PySem PySem.Spec PyProof.Rows PySem.SeqAt
/-! ### two dicts with tuples as keys, compared -/
section
variable {P : Program} {w : World} {A : Around} {Ex : Value → Shared → Prop} {s : Shared} {a b : Addr} {xs ys : List (NestedKey × Addr × Value)}
/-- f tells of each entry of the one whether the other has it -/
def Tells (P : Program) (w : World) (A : Around) (s : Shared) (xs ys : List (NestedKey × Addr × Value)) (f : Nat → Bool) : Prop :=
  ∀ i x, xs[i]? = some x → (∀ (j : Nat) (q : Addr × Value), ys[j]? = some (x.1, q) → EqP P w A s x.2.2 q.2 (f i)) ∧ ((∀ (j : Nat) (q : Addr × Value), ys[j]? ≠ some (x.1, q)) → f i = false)
theorem same_pairs {nm : String} {f : Nat → Bool} {Q : Bool → Shared → Prop} (la : (a == sysModules) = false) (lb : (b == sysModules) = false) (da : s.heap.DictOfH (nestedKind P w) a xs) (db : s.heap.DictOfH (nestedKind P w) b ys) (nr : (nestedKind P w).room A) (tl : xs.length = ys.length → Tells P w A s xs ys f)
    (h : Q (xs.length == ys.length && (List.range xs.length).all f) s) : wpAny (model P w) A (Builtin.Dict.samePairs nm a b) Q Ex s := by
  obtain ⟨oa, ea, pa, hoa, _, ra, la', ka, _⟩ := da
  obtain ⟨ob, eb, pb, hob, _, rb, lb', kb, nb⟩ := db
  have sa : ea.size = xs.length := size_of_entries la'
  have sb : eb.size = ys.length := size_of_entries lb'
  unfold Builtin.Dict.samePairs
  unfold Builtin.Dict.showsAll
  rw [if_neg (by rw [la]; decide), if_neg (by rw [lb]; decide)]
  refine wpAny_bind (wpAny_pure (wpAny_bind (wpAny_pure (wpAny_bind (wpAny_dictEntries hoa ra (wpAny_bind (wpAny_dictEntries hob rb ?_)))))))
  have one : ∀ {o : Obj} {es : Array DictEntry} {zs : List (NestedKey × Addr × Value)}, es.toList = zs.map (entryOfKey (nestedKind P w)) → ∀ {i : Nat} {z : NestedKey × Addr × Value}, zs[i]? = some z → es[i]? = some (entryOfKey (nestedKind P w) z) := fun {o es zs} he i z hz => by
    rw [← Array.getElem?_toList, he, List.getElem?_map, hz]; rfl
  rcases Nat.decEq xs.length ys.length with hl | hl
  · have he : (ea.size != eb.size) = true := by rw [sa, sb]; simpa using hl
    rw [if_pos he]
    refine wpAny_bind ?_
    refine wpAny_rule ?_
    refine wpAny_pure ?_
    have e : (xs.length == ys.length) = false := by simpa using hl
    rw [e, Bool.false_and] at h
    exact h
  · have he : (ea.size != eb.size) = false := by rw [sa, sb, hl]; simp
    have e : (xs.length == ys.length) = true := by simp [hl]
    rw [e, Bool.true_and] at h
    rw [if_neg (by rw [he]; decide)]
    refine wpAny_bind (wpAny_dictEpoch hoa ra (wpAny_bind (wpAny_forIn_span 0 ea.size _ (fun i c s' => s' = s ∧ c = (none, ()) ∧ ∀ j, j < i → f j = true) _ (fun i c s' _ hi ⟨e1, e2, old⟩ => ?_) (fun c s' ⟨e1, e2, old⟩ => ?_) _ ⟨rfl, rfl, fun j hj => absurd hj (Nat.not_lt_zero j)⟩)))
    · subst e1 e2
      have hx : i < xs.length := by rw [← sa]; exact hi
      have ei := one (o := oa) la' (List.getElem?_eq_getElem hx)
      obtain ⟨t1, t2⟩ := tl hl i xs[i] (List.getElem?_eq_getElem hx)
      have kx := ka _ (List.getElem_mem hx)
      have dec : ∀ (same : Bool), same = f i → wpAny (model P w) A (if (!same) = true then pure (ForInStep.done (some false, ())) else do
          let __do_lift ← dictEpoch a
          if (__do_lift != pa) = true then do
              unsupported (toString nm ++ toString ":changed-during-callback")
              pure (ForInStep.yield (none, ()))
            else pure (ForInStep.yield (none, ())) : Sem (ForInStep (Option Bool × Unit))) (fun r s2 => match r with | .yield c' => s2 = s' ∧ c' = (none, ()) ∧ (∀ j, j < i + 1 → f j = true) | .done c' => wpAny (model P w) A (match c'.fst with | some r => pure r | none => pure true) Q Ex s2) Ex s' := fun same hs => by
        subst hs
        cases q : f i with
        | false =>
          refine wpAny_pure ?_
          refine wpAny_pure ?_
          have z : (List.range xs.length).all f = false := by
            rw [← Bool.not_eq_true, List.all_eq_true]
            intro all
            rw [all i (List.mem_range.mpr hx)] at q
            cases q
          rw [z] at h
          exact h
        | true =>
          refine wpAny_bind (wpAny_dictEpoch hoa ra ?_)
          rw [if_neg (by simp)]
          refine wpAny_pure ⟨rfl, rfl, fun j hj => ?_⟩
          rcases Nat.lt_or_eq_of_le (Nat.le_of_lt_succ hj) with z | z
          · exact old j z
          · rw [z]; exact q
      refine wpAny_bind (wpAny_dictEntries hoa ra ?_)
      rw [ei]
      refine wpAny_bind (wpAny_holding (wpAny_bind ?_))
      show wpAny (model P w) A (dictFind b (.ref xs[i].2.1) ((nestedKind P w).hash xs[i].1)) _ _ s'
      refine wpAny_dictFind_heap (knd := nestedKind P w) nr kx hob rb lb' kb nb (fun none_ => ?_) fun j p there => ?_
      · refine wpAny_pure (wpAny_mono (dec false (t2 none_).symm) ?_ fun _ _ e => e)
        rintro (⟨o, u⟩ | c) s2 h
        · cases o <;> exact h
        · exact h
      · refine wpAny_bind (wpAny_dictEntries hob rb ?_)
        rw [one (o := ob) lb' there]
        refine wpAny_holding (t1 j p there _ _ (wpAny_mono (dec (f i) rfl) ?_ fun _ _ e => e))
        rintro (⟨o, u⟩ | c) s2 h
        · cases o <;> exact h
        · exact h
    · subst e1 e2
      have z : (List.range xs.length).all f = true := List.all_eq_true.mpr fun j hj => old j (by rw [Nat.max_eq_right (Nat.zero_le _), sa]; exact List.mem_range.mp hj)
      rw [z] at h
      exact wpAny_pure h
end
end Cw
end L2

set_option Elab.async false
set_option linter.all false
set_option maxRecDepth 100000
set_option maxHeartbeats 2000000
namespace L2
namespace Cw
open PySem PySem.Spec PyProof.Rows PySem.SeqAt
section
variable {P : Program} {w : World} {A : Around} {s : Shared} {a b : Addr} {xs ys : List (NestedKey × Addr × Value)}
/-- what == and != of dicts do, once they are asked -/
def askPairs (nm : String) (wanted : Bool) (a b : Addr) : Sem PySem.Fin := do
  let (self, other) ← Builtin.Dict.dictSlotArgs nm ⟨[.ref a, .ref b], []⟩
  if !(← isInstance other (.type "dict")) then do rule s!"dict.{nm}.not-a-dict"; return ← ret .notImplemented
  ret (.bool ((← Builtin.Dict.samePairs s!"dict.{nm}" (← Builtin.Dict.addrOf self) (← Builtin.Dict.addrOf other)) == wanted))
theorem asked {nm : String} {wanted r : Bool} {Q : PySem.Fin → Shared → Prop} {Ex : Value → Shared → Prop} (ta : s.TypeIs (.ref a) "dict") (tb : s.TypeIs (.ref b) "dict") (same : ∀ (nm : String) (R : Bool → Shared → Prop), R r s → wpAny (model P w) A (Builtin.Dict.samePairs nm a b) R Ex s) (h : Q (.done (.ret (.bool (r == wanted)))) s) :
    wpAny (model P w) A (askPairs nm wanted a b) Q Ex s := by
  unfold askPairs Builtin.Dict.dictSlotArgs
  refine wpAny_bind (wpAny_bind (wpAny_notOrdered_dict ta (wpAny_pure ?_)))
  refine wpAny_bind (wpAny_isInstance (T := "dict") tb PySem.F.sub_dict_dict ?_)
  rw [if_neg (by decide)]
  refine wpAny_bind (wpAny_pure (wpAny_bind (wpAny_pure (wpAny_bind (same _ _ ?_)))))
  exact wpAny_pure h
theorem cmp_dicts {op : CmpOp} {wanted : Bool} {f : Nat → Bool} (hop : (op = .Eq ∧ wanted = true) ∨ (op = .NotEq ∧ wanted = false)) (la : (a == sysModules) = false) (lb : (b == sysModules) = false) (da : s.heap.DictOfH (nestedKind P w) a xs) (db : s.heap.DictOfH (nestedKind P w) b ys) (nr : (nestedKind P w).room A.in1) (hu : A.units < cLine) (tl : xs.length = ys.length → Tells P w A.in1 s xs ys f)
    (E Q : Value → Shared → Prop) (h : Q (.bool ((xs.length == ys.length && (List.range xs.length).all f) == wanted)) s) : wpAny (model P w) A (richCompare op (.ref a) (.ref b)) Q E s := by
  have ta : s.TypeIs (.ref a) "dict" := by obtain ⟨o, _, _, ho, hc, _⟩ := da; exact ⟨o, ho, hc.1⟩
  have tb : s.TypeIs (.ref b) "dict" := by obtain ⟨o, _, _, ho, hc, _⟩ := db; exact ⟨o, ho, hc.1⟩
  have ask := fun {Ex : Value → Shared → Prop} (nm : String) (R : Bool → Shared → Prop) (q : R (xs.length == ys.length && (List.range xs.length).all f) s) => same_pairs (Ex := Ex) (nm := nm) (Q := R) la lb da db nr tl q
  rcases hop with ⟨rfl, rfl⟩ | ⟨rfl, rfl⟩
  · exact wpAny_richCompare_same_room ta tb PySem.F.slot_dict_eq (wpAny_call_entry PySem.F.slot_dict_eq ta PySem.F.entry_dict_eq (asked (nm := "__eq__") (wanted := true) ta tb ask ⟨_, rfl, (fun x => nomatch x), h⟩) (PySem.F.args_dict_eq_2 _ _)) hu
  · exact wpAny_richCompare_same_room ta tb PySem.F.slot_dict_ne (wpAny_call_entry PySem.F.slot_dict_ne ta PySem.F.entry_dict_ne (asked (nm := "__ne__") (wanted := false) ta tb ask ⟨_, rfl, (fun x => nomatch x), h⟩) (PySem.F.args_dict_ne_2 _ _)) hu
end
/-- the one dict holds what the other holds -/
def has1 {κ : Type} [DecidableEq κ] (m : List (κ × T)) (p : κ × T) : Bool := match getN m p.1 with
  | none => false
  | some u => teq p.2 u
def deq {κ : Type} [DecidableEq κ] (l m : List (κ × T)) : Bool := l.length == m.length && l.all (has1 m)
/-- g of the i-th -/
def onI {α : Type} (g : α → Bool) (l : List α) (i : Nat) : Bool := match l[i]? with
  | none => true
  | some x => g x
theorem onI_at {α : Type} {g : α → Bool} {l : List α} {i : Nat} {x : α} (h : l[i]? = some x) : onI g l i = g x := by unfold onI; rw [h]
theorem has1_at {κ : Type} [DecidableEq κ] {m : List (κ × T)} {p : κ × T} {t : T} (h : getN m p.1 = some t) : has1 m p = teq p.2 t := by unfold has1; rw [h]
theorem has1_no {κ : Type} [DecidableEq κ] {m : List (κ × T)} {p : κ × T} (h : getN m p.1 = none) : has1 m p = false := by unfold has1; rw [h]
section
variable {K : PySem.W.Frag} {Z Z' H H' : Hp} {σ : St} {E E1 E2 : List Ent} {S : SS} {l m : List (NestedKey × T)} {c d : Expr} {pos : Pos}
theorem all_range {α : Type} (g : α → Bool) (l : List α) : (List.range l.length).all (onI g l) = l.all g := by
  rw [Bool.eq_iff_iff]
  rw [List.all_eq_true]
  rw [List.all_eq_true]
  constructor
  · intro h x hx
    obtain ⟨i, hi, e⟩ := List.getElem_of_mem hx
    have this := h i (List.mem_range.mpr hi)
    rwa [onI_at (List.getElem?_eq_getElem hi), e] at this
  · intro h i hi
    rw [onI_at (List.getElem?_eq_getElem (List.mem_range.mp hi))]
    exact h _ (List.getElem_mem _)
theorem cmpN {op : CmpOp} {wanted : Bool} {n : Nat} (hop : (op = .Eq ∧ wanted = true) ∨ (op = .NotEq ∧ wanted = false)) (hn : n ≤ 30) (hc : DA S E c E1 E2 (dN S.w l)) (hd : DA S E1 d E2 E2 (dN S.w m)) (h1 : ∀ p ∈ l, DOk n p.2) (h2 : ∀ p ∈ m, DOk n p.2) : CG S E op c d (deq l m == wanted) E2 := fun W Z H σ Q st k X hX pins s I => by
  refine hc.run hX st I fun u1 s1 v1 H1 Z1 I1 rv1 g1 a1 => hd.run hX g1.st I1 fun u2 s2 v2 H2 Z2 I2 rv2 g2 a2 => ?_
  obtain ⟨a, oa, rfl, ra, roa⟩ := (a1 Z2 H2 g2).dn g2.st.zh
  obtain ⟨b, ob, rfl, rb, rob⟩ := (a2 Z2 H2 (Go.refl g2.st)).dn g2.st.zh
  cases show u1 = .ref a from rv1
  cases show u2 = .ref b from rv2
  obtain ⟨la, _, _, xs, da, ra'⟩ := dn_open I2 g2.st.zh hX.kk hX.hw ra roa
  obtain ⟨lb, _, _, ys, db, rb'⟩ := dn_open I2 g2.st.zh hX.kk hX.hw rb rob
  have lx := ra'.length
  have ly := rb'.length
  have key : ∀ {l : List (NestedKey × T)} {xs : List (NestedKey × Addr × Value)}, DRel S.K Z2 l xs → ∀ (i : Nat) x, xs[i]? = some x → ∃ p, l[i]? = some p ∧ x.1 = p.1 ∧ ∃ v, Rep S.K Z2 p.2 v ∧ RelV v x.2.2 := fun r i x hx => by
    obtain ⟨p, hp, e, hv, _⟩ := paired_at r hx
    exact ⟨p, hp, e, hv⟩
  have u := u65 hX
  have eop : compareOp op (.ref a) (.ref b) = richCompare op (.ref a) (.ref b) := by rcases hop with ⟨rfl, _⟩ | ⟨rfl, _⟩ <;> rfl
  rw [eop]
  refine cmp_dicts (f := onI (has1 m) l) hop la lb da db (by show X.A.units + 1 + 8 < cLine; omega) (by omega) (fun _ i x hx => ?_) _ _ ?_
  · obtain ⟨p, hp, e1, v, rv, rr⟩ := key ra' i x hx
    have pm := List.mem_of_getElem? hp
    rw [onI_at hp]
    obtain ⟨gs, gn⟩ := rb'.get x.1
    constructor
    · intro j q hj
      obtain ⟨p2, hp2, e2, v2, rv2, rr2⟩ := key rb' j (x.1, q) hj
      have mem2 := List.mem_of_getElem? hp2
      have nd : (ys.map (·.1)).Nodup := by obtain ⟨_, _, _, _, _, _, _, _, nd⟩ := db; exact nd
      have at_ : atKey ys x.1 = some q := by
        unfold atKey
        have : ys.find? (fun y => decide (y.1 = x.1)) = some (x.1, q) := by
          rewrite [List.find?_eq_some_iff_getElem]
          obtain ⟨hj', ej⟩ := List.getElem?_eq_some_iff.mp hj
          refine ⟨by simp, j, hj', ej, fun i' hi' => ?_⟩
          have ne : ys[i'].1 ≠ x.1 := fun z => by
            have h1 : (ys.map (·.1))[i']'(by rw [List.length_map]; omega) = (ys.map (·.1))[j]'(by rw [List.length_map]; exact hj') := by
              rw [List.getElem_map, List.getElem_map, ej]; exact z
            have := (List.getElem_inj nd).mp h1
            omega
          simp [ne]
        rw [this]; rfl
      have some_ : (getN m x.1).isSome = true := by rw [gn, at_]; rfl
      cases hg : getN m x.1 with
      | none => rw [hg] at some_; cases some_
      | some t =>
        rw [has1_at (e1 ▸ hg)]
        obtain ⟨q', v', e3, rv', rr'⟩ := gs t hg
        rw [at_] at e3
        cases e3
        have tm : ∃ p ∈ m, p.2 = t := by
          unfold getN at hg
          cases hf : m.find? (fun p => decide (p.1 = x.1)) with
          | none => rw [hf] at hg; cases hg
          | some p0 => rw [hf] at hg; cases hg; exact ⟨p0, List.mem_of_find?_eq_some hf, rfl⟩
        obtain ⟨p0, pm0, et⟩ := tm
        have d1 := h1 p pm
        have d2 : DOk n t := et ▸ h2 p0 pm0
        obtain ⟨as, r1⟩ := Dp.reads I2 (toD p.2) v _ (by rw [hX.kk]; exact (dOk_spec n p.2 d1).2.2 g2.st.zh rv) rr
        obtain ⟨bs, r2⟩ := Dp.reads I2 (toD t) v' _ (by rw [hX.kk]; exact (dOk_spec n t d2).2.2 g2.st.zh rv') rr'
        exact (eqAt_reads (toD p.2) (toD t) X.A.in1 s2 _ _ as bs r1 r2 (canLay_of_shaped (dOk_shaped d1 (by omega))) (canLay_of_shaped (dOk_shaped d2 (by omega))) (room_of_shaped (dOk_shaped d1 (by omega)) (by show X.A.units + 1 + 64 < cLine; omega))).eqP
    · intro none_
      have at_ : atKey ys x.1 = none := by
        unfold atKey
        have : ys.find? (fun y => decide (y.1 = x.1)) = none := by
          rw [List.find?_eq_none]
          intro y hy e
          obtain ⟨j, hj⟩ := List.getElem?_of_mem hy
          obtain ⟨y1, y2⟩ := y
          cases of_decide_eq_true e
          exact none_ j y2 hj
        rw [this]; rfl
      have z : (getN m x.1).isSome = false := by rw [gn, at_]; rfl
      cases hg : getN m x.1 with
      | none => exact has1_no (e1 ▸ hg)
      | some t => rw [hg] at z; cases z
  · refine ⟨.bl (deq l m == wanted), H2, I2, ?_, k H2 Z2 (g1.trans g2)⟩
    show _ = Value.bool _
    rw [← lx, ← ly, all_range]
    rfl
end
end Cw
end L2

set_option Elab.async false
set_option linter.all false
set_option maxRecDepth 100000
set_option maxHeartbeats 2000000
namespace L2
namespace Cw
open PySem PySem.Spec PyProof.Rows PySem.SeqAt
/-! ### dicts with ints and texts as keys -/
def kT : Key → T
  | .inl i => .int i
  | .inr s => .str s
def dKey (l : List (Key × T)) : T := .dicK (l.map (·.1)) (l.map (·.2))
section
variable {K : PySem.W.Frag} {Z Z' H H' : Hp} {σ : St} {E E1 E2 E3 : List Ent} {S : SS} {l : List (Key × T)} {d i e c : Expr} {k : Key} {t u : T} {pos p apos : Pos}
theorem rep_kT {v : V} (h : Rep K Z (kT k) v) : v = kV k := by
  cases k with
  | inl i => exact rep_int.mp h
  | inr s => exact rep_str.mp h
theorem kT_rep : Rep K Z (kT k) (kV k) := by
  cases k with
  | inl i => exact rep_int.mpr rfl
  | inr s => exact rep_str.mpr rfl
/-- a dict's pairs: its keys, its values told by trees -/
def KRel (K : PySem.W.Frag) (Z : Hp) (l : List (Key × T)) (kv : List (Key × V)) : Prop := Paired (fun (a : Key × T) (b : Key × V) => b.1 = a.1 ∧ Rep K Z a.2 b.2) l kv
theorem krel_of : ∀ {l : List (Key × T)} {kv : List (Key × V)}, kv.map (·.1) = l.map (·.1) → Reps K Z (l.map (·.2)) (kv.map (·.2)) → KRel K Z l kv
  | [], [], _, _ => .nil
  | [], (_ :: _), h, _ => by cases h
  | (_ :: _), [], h, _ => by cases h
  | a :: l, b :: kv, h, r => by
    rw [List.map_cons, List.map_cons] at h r
    injection h with h1 h2
    obtain ⟨v, vs, e, r1, r2⟩ := r.uncons
    injection e with e1 e2
    exact .cons ⟨h1, e1 ▸ r1⟩ (krel_of h2 (e2 ▸ r2))
theorem krel_to {kv : List (Key × V)} (h : KRel K Z l kv) : kv.map (·.1) = l.map (·.1) ∧ Reps K Z (l.map (·.2)) (kv.map (·.2)) := by
  unfold KRel at h
  induction h with
  | nil => exact ⟨rfl, Reps.nil⟩
  | cons a t ih =>
    exact ⟨congr (congrArg List.cons a.1) ih.1, .cons a.2 ih.2⟩
theorem krel_len {kv : List (Key × V)} (h : KRel K Z l kv) : kv.length = l.length := (by have := congrArg List.length (krel_to h).1; simpa using this)
theorem krel_get {kv : List (Key × V)} (h : KRel K Z l kv) (k : Key) : (∀ t, getN l k = some t → ∃ v, valV kv k = some v ∧ Rep K Z t v) ∧ (getN l k).isSome = (valV kv k).isSome := by
  unfold KRel at h
  unfold getN valV
  induction h with
  | nil => exact ⟨(fun t e => nomatch e), rfl⟩
  | @cons a b l kv r t ih =>
    rw [List.find?_cons, List.find?_cons, r.1]
    by_cases q : a.1 = k
    · simp only [q, decide_true]
      exact ⟨fun t e => by cases e; exact ⟨b.2, rfl, r.2⟩, rfl⟩
    · simp only [q, decide_false]
      exact ih
theorem krel_put {kv : List (Key × V)} {v : V} (h : KRel K Z l kv) (r : Rep K Z t v) : KRel K Z (putN l k t) (putK kv k v) := by
  have s := (krel_get h k).2
  rw [← valV_any] at s
  unfold putN putK
  rw [s]
  split
  · rename_i there
    unfold KRel at h ⊢
    clear s there
    induction h with
    | nil => exact .nil
    | @cons a b l kv q t ih =>
      simp only [List.map_cons]
      refine .cons ?_ ih
      rw [q.1]
      by_cases z : a.1 = k
      · rw [if_pos z, if_pos z]; exact ⟨rfl, r⟩
      · rw [if_neg z, if_neg z]; exact q
  · have app : ∀ {l : List (Key × T)} {kv : List (Key × V)}, KRel K Z l kv → KRel K Z (l ++ [(k, t)]) (kv ++ [(k, v)]) := fun {l kv} h => by
      unfold KRel at h ⊢
      induction h with
      | nil => exact .cons ⟨rfl, r⟩ .nil
      | cons a t ih => exact .cons a ih
    exact app h
theorem KRel.mono {kv : List (Key × V)} (e : Same Z Z') (h : KRel K Z l kv) : KRel K Z' l kv := by
  obtain ⟨a, b⟩ := krel_to h
  exact krel_of a (b.mono e)
theorem orep_dK {a : Addr} {o : HO} (h : ORep K Z a o (dKey l)) : ∃ kv, o = .dK kv ∧ KRel K Z l kv := by
  unfold dKey ORep at h
  cases o with
  | dK kv => exact ⟨kv, rfl, krel_of h.1 h.2⟩
  | _ => exact h.elim
theorem dK_orep {a : Addr} {kv : List (Key × V)} (h : KRel K Z l kv) : ORep K Z a (.dK kv) (dKey l) := (krel_to h)
theorem rep_dK {v : V} (h : Rep K Z (dKey l) v) : ∃ a ob kv, v = .ref a ∧ Z a = some (.frz ob (.dK kv)) ∧ KRel K Z l kv := by
  obtain ⟨a, ob, kv, rfl, hz, h1, h2⟩ := rep_dicK.mp h
  exact ⟨a, ob, kv, rfl, hz, krel_of h1 h2⟩
/-- the dict there, shared or ours -/
theorem At.dk {v : V} (zh : Same Z H) (h : At K Z H (dKey l) v) : ∃ a kv, v = .ref a ∧ Rd H a (.dK kv) ∧ KRel K Z l kv := by
  rcases h with h | ⟨a, ob, rfl, h1, h2, h3⟩
  · obtain ⟨a, ob, kv, rfl, hz, r⟩ := rep_dK h
    exact ⟨a, kv, rfl, .inr ⟨ob, zh _ _ hz⟩, r⟩
  · obtain ⟨kv, rfl, r⟩ := orep_dK h3
    exact ⟨a, kv, rfl, .inl h1, r⟩
theorem hu1 {W : WX} {X : Cx} (h : S.Has W X) : X.A.units + 1 < cLine := by have := u65 h; omega
/-- d[i] -/
theorem eg_getK (hd : DA S E d E1 E2 (dKey l)) (hi : EG S E1 i (kT k) E2) (hg : getN l k = some t) (hs : NoSl i := by intro _ _; rfl) : EG S E (.Subscript d i pos) t E2 := fun W Z H σ Q st kq =>
  R.mk (t := tDGet (R S W d) (R S W i)) (fun X hX => pe_dget (hu1 hX) (hX.pe d) (hX.pe i) hs) (hd W Z H σ _ st fun v H1 Z1 g1 at_ => hi W Z1 H1 σ _ g1.st fun y H2 Z2 g2 ry => by
    obtain ⟨a, kv, rfl, rd, r⟩ := (at_ Z2 H2 g2).dk g2.st.zh
    obtain ⟨w, hw, rw_⟩ := (krel_get r k).1 t hg
    exact ⟨a, w, rfl, .inl ⟨kv, k, rd, rep_kT ry, hw.symm⟩, kq w H2 Z2 (g1.trans g2) rw_⟩)
/-- i in d -/
theorem cg_inK (hi : EG S E i (kT k) E1) (hd : DA S E1 d E2 E2 (dKey l)) : CG S E .In i d (getN l k).isSome E2 := fun W Z H σ Q st kq X hX pins s I =>
  (pc_din (hu1 hX) (hX.pe i) (hX.pe d)).run pins s σ H Q I (hi W Z H σ _ st fun y H1 Z1 g1 ry => hd W Z1 H1 σ _ g1.st fun v H2 Z2 g2 at_ => by
    obtain ⟨a, kv, rfl, rd, r⟩ := (at_ Z2 H2 (Go.refl g2.st)).dk g2.st.zh
    exact ⟨a, valV kv k, rfl, .inl ⟨kv, k, rd, rep_kT ry, rfl⟩, by rw [← (krel_get r k).2]; exact kq H2 Z2 (g1.trans g2)⟩)
theorem cg_ninK (hi : EG S E i (kT k) E1) (hd : DA S E1 d E2 E2 (dKey l)) : CG S E .NotIn i d (!(getN l k).isSome) E2 := fun W Z H σ Q st kq X hX pins s I =>
  (pc_dnotin (hu1 hX) (hX.pe i) (hX.pe d)).run pins s σ H Q I (hi W Z H σ _ st fun y H1 Z1 g1 ry => hd W Z1 H1 σ _ g1.st fun v H2 Z2 g2 at_ => by
    obtain ⟨a, kv, rfl, rd, r⟩ := (at_ Z2 H2 (Go.refl g2.st)).dk g2.st.zh
    exact ⟨a, valV kv k, rfl, .inl ⟨kv, k, rd, rep_kT ry, rfl⟩, by rw [← (krel_get r k).2]; exact kq H2 Z2 (g1.trans g2)⟩)
/-- x[i] = value, x ours -/
theorem sg_putK {j : Nat} {x : Str} {q pos' : Pos} {value : Expr} {t0 : T} (hv : EG S E value t E1) (vo : VarOk S j x) (h0 : E1[j]? = some (.ow t0)) (hi : EG S E1 i (kT k) E2) (h2 : E2[j]? = some (.ow (dKey l))) (hl : l.length < 16777216)
    (hs : ∀ env, swapsWith value (some (.Subscript (.Name x q) i pos')) pos.line env = pure false := by intro _; rfl) : SG S E (.Assign [.Subscript (.Name x q) i pos'] value pos) (.nx (E2.set j (.ow (dKey (putN l k t))))) := fun W Z H σ D st kq =>
  RSt.mk (t := sDPut (R S W (.Name x q)) (R S W i) (R S W value)) (fun X hX => ps_dput (hu1 hX) (hX.pe _) (hX.pe i) (hX.pe value) (hs _)) (hv W Z H σ _ st fun v H1 Z1 g1 rv => by
    obtain ⟨a, ob0, hσ, _, _, _⟩ := g1.st.ow j _ h0
    refine R.mk (fun X hX => ?_) (show tVar j σ H1 _ from ⟨.ref a, hσ, hi W Z1 H1 σ _ g1.st fun y H2 Z2 g2 ry => ?_⟩)
    · have hs := hX.sc
      obtain ⟨A, s0, H0, env, outer, stack, ex, pn, xe, rfl⟩ := hX.ex
      exact pe_var vo.hN (by rw [hs]; exact vo.vis) vo.h1 vo.h2
    · obtain ⟨a', ob, hσ', ha, hz, ro⟩ := g2.st.ow j _ h2
      rw [hσ] at hσ'; cases hσ'
      obtain ⟨kv, rfl, r⟩ := orep_dK ro
      refine ⟨a, _, rfl, .inl ⟨kv, k, ha, rep_kT ry, by rw [krel_len r, sizeLine_eq]; exact hl, rfl⟩, kq _ _ _ (g1.trans (g2.trans (Go.wrote g2.st h2 hσ (dK_orep (krel_put r (rv.mono g2.step.zz))))))⟩)
/-- a comprehension's store -/
theorem stoK (hl : l.length < 16777216) : StoG S (dKey l) (kT k) t (dKey (putN l k t)) := fun W Y hY pins τ Z H s D o y z u r Q Ex I zh hD ro ry rz qy qz h => by
  obtain ⟨kv, rfl, kr⟩ := orep_dK ro
  cases rep_kT ry
  exact d_dictSet I hD (by rw [krel_len kr, sizeLine_eq]; exact hl) qy qz fun s' I' => h s' _ I' (dK_orep (krel_put kr rz))
theorem dicK_new : ∀ (h : Heap) (H : Hp), sysModules < h.objs.size → ObjOk S.P S.w H (h.push { cls := .type "dict", data := .dict #[] }) h.objs.size ((fun _ => HO.dK []) h.objs.size) := fun h H hb => dk_empty h hb
theorem dicK_new_rep : ∀ Z a, ORep S.K Z a ((fun _ => HO.dK []) a) (dKey []) := fun Z a => ⟨rfl, .nil⟩
/-- for k in d -/
theorem ig_keysK {tg : Expr} (h : EG S E e (dKey l) E1) : IG S E tg e (l.map fun x => kT x.1) E1 := fun W Z H σ Rr st kq =>
  RI.mk (wi := iKeys (R S W e)) (fun X hX => pi_keys (hX.pe e)) (h W Z H σ _ st fun v H1 Z1 g r => by
    obtain ⟨a, ob, kv, rfl, hz, kr⟩ := rep_dK r
    refine ⟨a, ob, rfl, .inl ⟨kv, g.st.zh _ _ hz, kq _ H1 Z1 (fun H2 => H2 a = some (.frz ob (.dK kv))) (fun i H2 x H3 => H3 = H2 ∧ ∃ k v, kv[i]? = some (k, v) ∧ x = kV k) g ?_ (fun H2 e => e _ _ hz) fun i H2 x H3 hy => ?_⟩⟩
    · rw [List.length_map, ← krel_len kr]; exact walk_keys
    · obtain ⟨eh, k, v, e1, rfl⟩ := hy
      obtain ⟨b, hb, e2, _⟩ := paired_at kr e1
      refine ⟨kT k, ?_, .inl ⟨eh, kT_rep⟩⟩
      rw [List.getElem?_map, hb]
      exact congrArg (fun z => some (kT z)) e2.symm)
end
/-! ### d.values() as it stands in a for -/
section
variable {Z H : Hp} {σ : St} {E E1 : List Ent} {S : SS} {l : List (Key × T)} {e tg : Expr} {apos cpos tpos : Pos}
theorem ig_valsK (h : EG S E e (dKey l) E1) (hbase : ∀ env, attributeBase e "values" env (eval e env) = eval e env := by intro _; rfl) (hline : (apos.endLine == cpos.line) = true := by rfl) : IG S E tg (.Call (.Attribute e "values" apos) [] [] cpos) (l.map (·.2)) E1 := fun W Z H σ Rr st kq =>
  RI.mk (wi := iVals (R S W e)) (fun X hX => pi_values (hX.pe e) (hbase _) hline) (h W Z H σ _ st fun v H1 Z1 g r => by
    obtain ⟨a, ob, kv, rfl, hz, kr⟩ := rep_dK r
    refine ⟨a, ob, kv, rfl, g.st.zh _ _ hz, kq _ H1 Z1 (fun H2 => H2 a = some (.frz ob (.dK kv))) (fun i H2 x H3 => H3 = H2 ∧ ∃ k, kv[i]? = some (k, x)) g ?_ (fun H2 e => e _ _ hz) fun i H2 x H3 hy => ?_⟩
    · rw [List.length_map, ← krel_len kr]; exact walk_values
    · obtain ⟨eh, k, e1⟩ := hy
      obtain ⟨b, hb, _, rb⟩ := paired_at kr e1
      exact ⟨b.2, by rw [List.getElem?_map, hb]; rfl, .inl ⟨eh, rb⟩⟩)
end
end Cw
end L2

set_option Elab.async false
set_option linter.all false
set_option maxRecDepth 100000
set_option maxHeartbeats 2000000
namespace L2
namespace Cw
open PySem PySem.Spec PyProof.Rows PySem.SeqAt
/-! ### iterators that hand out new tuples -/
/-- at turn i a new tuple of what vs tells, while Hs stands -/
def ItP (Hs : Hp → Prop) (n : Nat) (vs : Nat → Option (List V)) : It where
  go i H := Hs H ∧ i < n
  yld i H x H' := ∃ q us, x = .ref q ∧ H q = none ∧ H' = upd H q (.tup us) ∧ vs i = some us
  stop i H := Hs H ∧ i = n
/-- own: the iterator's cells, which are not tracked; R: what else it reads, told by Hs -/
theorem turn_pairs {P : Program} {w : World} {K : PySem.W.Frag} {elts : List Expr} {kk : Nat} {tpos : Pos} {it : Addr} {own fp wr : List Addr} {n : Nat} {vs : Nat → Option (List V)} {tn : Nat → Heap → Prop} {R : Heap → Prop} {Hs : Hp → Prop} (few : ∀ i us, vs i = some us → us.length ≤ 10)
    (mem : it ∈ own) (sub : ∀ b ∈ wr, b ∈ own) (obj : ∀ i h, tn i h → ∀ b ∈ own, ∃ o, h.get? b = some o ∧ ∀ v, o.data ≠ .cell v) (keep : ∀ i h h', tn i h → (∀ b ∈ own, ∀ o, h.get? b = some o → h'.get? b = some o) → tn i h')
    (G : ∀ A : Around, A.handled = none → GoesN P w A (.Tuple elts kk tpos) it fp wr n (fun i h₀ v h => ∃ q vals, v = .ref q ∧ h₀.objs.size ≤ q ∧ (∃ us, vs i = some us ∧ Vals us vals.toList) ∧ h.IsTuple q vals) (fun i h => tn i h ∧ R h))
    (self : ∀ (A : Around) (i : Nat) (s : Shared) (Q Ex : Value → Shared → Prop), tn i s.heap → Q (.ref it) s → wpAny (model P w) A (pyIter (.ref it)) Q Ex s)
    (rd : ∀ (Y : Cx) (pins : List (Addr × Obj)) (τ : St) (H : Hp) (s : Shared), Y.K = K → Inv Y pins τ H s → Hs H → R s.heap) : Turn P w K (.Tuple elts kk tpos) (ItP Hs n vs) own it tn where
  mem := mem
  obj := obj
  keep := keep
  item := by
    rintro Y rfl rfl rfl calm i pins s τ H Ex I free q ⟨hs, lt⟩
    refine (G Y.A (I.ok.hd calm)).goes i s (fun v s2 => ∃ x H', Inv Y pins τ H' s2 ∧ RelV x v ∧ (ItP Hs n vs).yld i H x H' ∧ tn (i + 1) s2.heap ∧ ∀ b ∈ own, H' b = none) Ex lt ⟨q, rd Y pins τ H s rfl I hs⟩ fun v h' tk ⟨t, vals, ev, new, ⟨us, hv, rv⟩, tup⟩ q' kept _ => ?_
    subst ev
    have hn : H t = none := I.hok.fresh new
    have hl : us.length ≤ sizeLine := Nat.le_trans (few i us hv) (by rw [sizeLine_eq]; decide)
    have I' := I.turnedNew (t' := tk) (T := t) (ob := .tup us) kept (fun b hb => free b (sub b hb)) new (show ObjOk Y.prog Y.w _ h' t (.tup us) from ⟨hl, vals.toList, rv, by rw [Array.toArray_toList]; exact tup⟩)
    refine ⟨.ref t, _, I', rfl, ⟨t, us, rfl, hn, rfl, hv⟩, q'.1, fun b hb => ?_⟩
    rw [upd_ne (fun z => ?_)]
    · exact (free b hb).1
    · obtain ⟨o, e, _⟩ := obj i s.heap q b hb
      exact absurd (Nat.lt_of_lt_of_le (Heap.lt_size e) new) (by rw [z]; exact Nat.lt_irrefl _)
  done := by
    rintro Y rfl rfl rfl calm i pins s τ H Ex I free q ⟨hs, rfl⟩
    exact (G Y.A (I.ok.hd calm)).stops s (fun s1 => Inv Y pins τ H s1) Ex ⟨q, rd Y pins τ H s rfl I hs⟩ fun h' tk kept _ => I.turnedL (fun b o ne e => kept b o (fun z => ne (sub b z)) e) free
  self := self
section
variable {P : Program} {w : World} {A : Around} {Ex : Value → Shared → Prop} {s : Shared}
/-- enumerate(v), v anything whose iterator is known -/
theorem enum_made {v : Value} {o : Obj} {Hb : Heap → Prop} (B : Begins v o Hb) : Meets (Builtin.«enumerate.__new__» ⟨[.type "enumerate", v], []⟩) (fun _ R s => Hb s.heap ∧
      R (.ok (.ret (.ref (s.heap.push o).objs.size))) { s with heap := (s.heap.push o).push { cls := .type "enumerate", data := .fields #[.none, .bool false, .ref s.heap.objs.size, rawInt 0, .none, .none] } }) := .of_wp fun prog w A R s h => by
  rcases s with ⟨hp, g, d, tk, os⟩
  obtain ⟨now, h⟩ := h
  have sub := sub_enumerate
  have it : ∀ {A' : Around} {E Q : Value → Shared → Prop}, Q (.ref hp.objs.size) ⟨hp.push o, g, d, tk, os⟩ → wpAny (model prog w) A' (pyIter v) Q E ⟨hp, g, d, tk, os⟩ := fun q => B.iter prog w _ _ ⟨hp, g, d, tk, os⟩ _ now q
  wp_walk using it
  refine wpAny_stack_any (fun st => ?_)
  refine wpAny_pure ?_
  split <;> first
    | (rename_i c _ _ _ _ _; cases (c == Value.type "enumerate") <;> (wp_walk using it; exact ⟨_, rfl, h⟩))
    | (wp_walk using it; exact ⟨_, rfl, h⟩)
theorem call_enum {v : Value} {o : Obj} {Hb : Heap → Prop} {Q : Value → Shared → Prop} (B : Begins v o Hb) (now : Hb s.heap)
    (h : ∀ h', IsEnum h' (s.heap.objs.size + 1) s.heap.objs.size 0 .none → h'.get? s.heap.objs.size = some o → (∀ b o, s.heap.get? b = some o → h'.get? b = some o) → Q (.ref (s.heap.objs.size + 1)) { s with heap := h' }) :
    wpAny (model P w) A (call (.type "enumerate") [v]) Q Ex s := by
  refine callType_new F.called_enumerate (by decide) (F.typeCall_enumerate_1 _) (F.newCall_enumerate_1 _) (fun obj => F.args_object_init_2 obj _) F.entry_enumerate_new (enum_made B) ⟨now, ?_⟩
  have z : (s.heap.push o).objs.size = s.heap.objs.size + 1 := Heap.size_push ..
  have e : ((s.heap.push o).push { cls := .type "enumerate", data := .fields #[.none, .bool false, .ref s.heap.objs.size, rawInt 0, .none, .none] }).get? (s.heap.objs.size + 1) = some { cls := .type "enumerate", data := .fields #[.none, .bool false, .ref s.heap.objs.size, rawInt 0, .none, .none] } := by
    rw [← z]; exact Heap.get?_push_size _ rfl
  show _ ∧ _
  rw [z]
  exact ⟨⟨_, e, rfl⟩, h _ e (Heap.get?_push_of_some _ (Heap.get?_push_size _ B.free)) fun b o x => Heap.get?_push_of_some _ (Heap.get?_push_of_some _ x)⟩
theorem draws_tup (hh : A.handled = none) {it a : Addr} (ne : a ≠ it) (xs : List V) : Draws P w A it [it, a] xs.length (fun i v => ∃ x, xs[i]? = some x ∧ RelV x v) (fun i h => h.IsTupleIter it a i ∧ ∃ its : List Value, Vals xs its ∧ h.IsTuple a its.toArray) where
  live := fun i h ⟨q, its, rv, tu⟩ => (Draws.tuple (prog := P) (w := w) hh it a ne its.toArray).live i h ⟨q, tu⟩
  frame := fun i h h' ⟨q, its, rv, tu⟩ k => by
    obtain ⟨q', tu'⟩ := (Draws.tuple (prog := P) (w := w) hh it a ne its.toArray).frame i h h' ⟨q, tu⟩ k
    exact ⟨q', its, rv, tu'⟩
  item := fun i s Q E lt ⟨q, its, rv, tu⟩ k => (Draws.tuple (prog := P) (w := w) hh it a ne its.toArray).item i s Q E (by rw [List.size_toArray, ← rv.length]; exact lt) ⟨q, tu⟩ fun x h' tk hx ⟨q', tu'⟩ sb => by
    rw [List.getElem?_toArray] at hx
    exact k x h' tk (paired_at rv hx) ⟨q', its, rv, tu'⟩ sb
  done := fun s Q E ⟨q, its, rv, tu⟩ k => (Draws.tuple (prog := P) (w := w) hh it a ne its.toArray).done s Q E ⟨by rw [List.size_toArray, ← rv.length]; exact q, tu⟩ k
end
section
variable {Z H : Hp} {σ : St} {E E1 : List Ent} {S : SS} {e : Expr} {p pos tpos : Pos} {elts : List Expr} {kk : Nat} {ts : List T}
/-- a row of new pairs, as a walk -/
theorem walk_pairs {Hs : Hp → Prop} {n : Nat} {vs : Nat → Option (List V)} : Walk (ItP Hs n vs) n Hs (fun i H x H' => ∃ q us, x = .ref q ∧ H q = none ∧ H' = upd H q (.tup us) ∧ vs i = some us) where
  goes := fun i H lt hs => ⟨hs, lt⟩
  stops := fun H hs => ⟨hs, rfl⟩
  yields := fun i H x H' _ _ y => y
theorem ig_enumTup (g : GlOk S "enumerate") (hm : S.mg "enumerate" = none) (h : EG S E e (.tup ts) E1) (he : ∀ env, starEach [e] env = (false, eval e env) :: starEach [] env := by intro _; rfl) : IG S E (.Tuple elts kk tpos) (.Call (.Name "enumerate" p) [e] [] pos) (enumT ts) E1 := fun W Z H σ Rr st k X hX pins s I => by
  have gg := g.at hX
  have hmX : X.mg "enumerate" = none := by obtain ⟨A, s0, H0, env, outer, stack, ex, pn, xe, rfl⟩ := hX.ex; exact hm
  refine Call_ (ld_blt I gg hmX boot_enumerate (PyProof.Rows.callWith_type1 (thn ((hX.pa [e]).run pos pins s σ H _ I ((eas_cons h eas_nil he) W Z H σ (fun vs H1 => ∃ Z1, Go S E σ Z H E1 σ Z1 H1 ∧ Reps S.K Z1 [.tup ts] vs) st fun vs H1 Z1 g1 r1 => ⟨Z1, g1, r1⟩)) fun us s1 ⟨vs, H1, I1, rv, Z1, g1, r1⟩ => ?_) (he _) rfl))
  obtain ⟨v, rfl, h1⟩ := reps_one r1
  obtain ⟨a, xs, rfl, hz, rx⟩ := rep_tup.mp h1
  rw [Vals.ref1 rv]
  have tupH : SqT X.K H1 a xs := .inl (.inl (g1.st.zh _ _ hz))
  obtain ⟨its, ri, tu, _⟩ := I1.tuple tupH
  have alt : a < s1.heap.objs.size := tu.lt
  refine call_enum (begins_tuple a its.toArray) tu fun h' en io old => wpAny_pyIter_enum en ?_
  have I2 : Inv X pins σ H1 { s1 with heap := h' } := I1.kept (t' := s1.toks) old
  have lx := rx.length
  refine ⟨s1.heap.objs.size + 1, [s1.heap.objs.size + 1, s1.heap.objs.size], fun i h => (∃ old, IsEnum h (s1.heap.objs.size + 1) s1.heap.objs.size (0 + (i : Int)) old) ∧ h.IsTupleIter s1.heap.objs.size a i, ItP (fun H => SqT X.K H a xs) xs.length (fun i => (xs[i]?).map fun x => [V.int (0 + (i : Int)), x]), H1, rfl, I2, ?_, ⟨⟨.none, by simpa using en⟩, ⟨_, io, rfl, rfl⟩⟩, fun b hb => ?_, ?_⟩
  · refine turn_pairs (fp := [s1.heap.objs.size + 1, s1.heap.objs.size, a]) (wr := [s1.heap.objs.size + 1, s1.heap.objs.size]) (R := fun h => ∃ its : List Value, Vals xs its ∧ h.IsTuple a its.toArray) (fun i us e => ?_) (by simp) (fun b hb => hb) (fun i h q b hb => ?_) (fun i h h' q kp => ?_) (fun A hh => ?_) (fun A i s Q Ex q h => ?_) (fun Y pins τ H s hK IY hs => ?_)
    · cases hx : xs[i]? with
      | none => rw [hx] at e; cases e
      | some x => rw [hx] at e; cases e; show 2 ≤ 10; decide
    · obtain ⟨⟨old, q1⟩, ⟨o, q2, _, q3⟩⟩ := q
      obtain rfl | hb := List.mem_cons.mp hb
      · exact ⟨_, q1, fun v z => by cases z⟩
      · rw [List.eq_of_mem_singleton hb]
        exact ⟨o, q2, fun v z => by rw [q3] at z; cases z⟩
    · obtain ⟨⟨old, q1⟩, ⟨o, q2, q3⟩⟩ := q
      exact ⟨⟨old, kp _ (by simp) _ q1⟩, ⟨o, kp _ (by simp) _ q2, q3⟩⟩
    · have D := draws_tup (P := X.prog) (w := X.w) (A := A.in1) hh (it := s1.heap.objs.size) (a := a) (Nat.ne_of_lt alt) xs
      have G := GoesN.enumFrom (elts := elts) (x1 := kk) (pos := tpos) 0 D (s1.heap.objs.size + 1) (Nat.succ_ne_self _) (fun z => by
        obtain z | z := List.mem_cons.mp z
        · exact Nat.succ_ne_self _ z
        · exact absurd alt (by rw [← List.mem_singleton.mp z]; exact Nat.not_lt.mpr (Nat.le_succ _))) (by simp)
      refine ⟨G.sub, fun i h h' q k => ?_, fun i s Q E lt q k => ?_, fun s Q E q k => ?_, fun i s Q E q k => ?_⟩
      · obtain ⟨q1, q2, q3⟩ := G.frame i h h' ⟨q.1.1, q.1.2, q.2⟩ k
        exact ⟨⟨q1, q2⟩, q3⟩
      · refine G.goes i s Q E lt ⟨q.1.1, q.1.2, q.2⟩ fun v h' tk ⟨T, t, x, ev, nw, ⟨y, hy, ry⟩, tu⟩ q' kp tkle => k v h' tk ⟨T, _, ev, nw, ⟨[.int (0 + (i : Int)), y], by simp [hy], .cons ⟨t, rfl⟩ (.cons ry .nil)⟩, tu⟩ ⟨⟨q'.1, q'.2.1⟩, q'.2.2⟩ kp tkle
      · exact G.stops s Q E ⟨q.1.1, q.1.2, q.2⟩ k
      · exact G.self i s Q E ⟨q.1.1, q.1.2, q.2⟩ k
    · obtain ⟨⟨old, q1⟩, _⟩ := q
      exact wpAny_pyIter_enum q1 h
    · obtain ⟨its, ri, tu, _⟩ := IY.tuple (by rw [hK]; exact hs)
      exact ⟨its, ri, tu⟩
  · have hle : b ≥ s1.heap.objs.size := by
      obtain rfl | hb := List.mem_cons.mp hb
      · exact Nat.le_succ _
      · rw [List.mem_singleton.mp hb]; exact Nat.le_refl _
    have fr := I1.hok.fresh hle
    exact I1.fpOk hle fr
  · refine k _ H1 Z1 (fun H => SqT X.K H a xs) _ g1 (by unfold enumT; rw [List.length_mapIdx, ← lx]; exact walk_pairs) (fun H2 e => .inl (.inl (e _ _ hz))) fun i H2 x H3 y => ?_
    obtain ⟨q, us, rfl, hq, rfl, e⟩ := y
    cases hx : xs[i]? with
    | none => rw [hx] at e; cases e
    | some x =>
      rw [hx] at e
      cases e
      obtain ⟨t, ht, rt⟩ := rx.get hx
      exact ⟨.tup [.int (i : Nat), t], by unfold enumT; rw [List.getElem?_mapIdx, ht]; rfl, .inr ⟨q, _, _, rfl, rfl, hq, rfl, .cons (rep_int.mpr (by simp)) (.cons rt .nil)⟩⟩
end
end Cw
end L2

set_option Elab.async false
set_option linter.all false
set_option maxRecDepth 100000
set_option maxHeartbeats 2000000
namespace L2
namespace Cw
open PySem PySem.Spec PyProof.Rows PySem.SeqAt
/-! ### texts sign by sign -/
def signs (z : Str) : List Str := z.cps.toList.map fun c => ⟨#[c]⟩
def signsT (z : Str) : List T := (signs z).map T.str
theorem signs_length {z : Str} : (signs z).length = z.cps.size := by unfold signs; rw [List.length_map, Array.length_toList]
theorem signsT_length {z : Str} : (signsT z).length = z.cps.size := by unfold signsT; rw [List.length_map, signs_length]
theorem signsT_at {z : Str} {i c : Nat} (h : z.cps[i]? = some c) : (signsT z)[i]? = some (.str ⟨#[c]⟩) := by
  unfold signsT signs
  rw [List.getElem?_map, List.getElem?_map, Array.getElem?_toList, h]; rfl
section
variable {Z H : Hp} {σ : St} {E E1 E2 E3 : List Ent} {S : SS} {e a b c : Expr} {p pos tpos : Pos} {elts : List Expr} {kk : Nat} {z : Str} {tg : Expr} {m n k : Int}
theorem ig_str (h : EG S E e (.str z) E1) : IG S E tg e (signsT z) E1 := fun W Z H σ Rr st kq =>
  RI.mk (wi := iStr (R S W e)) (fun X hX => pi_str (hX.pe e)) (h W Z H σ _ st fun v H1 Z1 g r => by
    refine ⟨z, rep_str.mp r, kq _ H1 Z1 (fun _ => True) (fun i H v H' => H' = H ∧ ∃ c, z.cps[i]? = some c ∧ v = .str ⟨#[c]⟩) g (by rw [signsT_length]; exact walk_str) (fun _ _ => trivial) fun i H2 x H3 y => ?_⟩
    obtain ⟨eh, c, hc, rfl⟩ := y
    exact ⟨_, signsT_at hc, .inl ⟨eh, rep_str.mpr rfl⟩⟩)
theorem ig_enumStr (g : GlOk S "enumerate") (hm : S.mg "enumerate" = none) (h : EG S E e (.str z) E1) (he : ∀ env, starEach [e] env = (false, eval e env) :: starEach [] env := by intro _; rfl) : IG S E (.Tuple elts kk tpos) (.Call (.Name "enumerate" p) [e] [] pos) (enumT (signsT z)) E1 := fun W Z H σ Rr st k X hX pins s I => by
  have gg := g.at hX
  have hmX : X.mg "enumerate" = none := by obtain ⟨A, s0, H0, env, outer, stack, ex, pn, xe, rfl⟩ := hX.ex; exact hm
  refine Call_ (ld_blt I gg hmX boot_enumerate (PyProof.Rows.callWith_type1 (thn ((hX.pa [e]).run pos pins s σ H _ I ((eas_cons h eas_nil he) W Z H σ (fun vs H1 => ∃ Z1, Go S E σ Z H E1 σ Z1 H1 ∧ Reps S.K Z1 [.str z] vs) st fun vs H1 Z1 g1 r1 => ⟨Z1, g1, r1⟩)) fun us s1 ⟨vs, H1, I1, rv, Z1, g1, r1⟩ => ?_) (he _) rfl))
  obtain ⟨v, rfl, h1⟩ := reps_one r1
  cases rep_str.mp h1
  obtain ⟨u, rfl, t, rfl⟩ : ∃ u, us = [u] ∧ RelV (.str z) u := by cases rv with | cons r rr => cases rr; exact ⟨_, rfl, r⟩
  refine call_enum (begins_text z t) trivial fun h' en io old => wpAny_pyIter_enum en ?_
  have I2 : Inv X pins σ H1 { s1 with heap := h' } := I1.kept (t' := s1.toks) old
  refine ⟨s1.heap.objs.size + 1, [s1.heap.objs.size + 1, s1.heap.objs.size], fun i h => (∃ old, IsEnum h (s1.heap.objs.size + 1) s1.heap.objs.size (0 + (i : Int)) old) ∧ h.IsStrIter s1.heap.objs.size (strIterType z) z t i, ItP (fun _ => True) z.cps.size (fun i => (z.cps[i]?).map fun c => [V.int (0 + (i : Int)), .str ⟨#[c]⟩]), H1, rfl, I2, ?_, ⟨⟨.none, by simpa using en⟩, ⟨_, io, rfl, rfl⟩⟩, fun b hb => ?_, ?_⟩
  · refine turn_pairs (fp := [s1.heap.objs.size + 1, s1.heap.objs.size]) (wr := [s1.heap.objs.size + 1, s1.heap.objs.size]) (R := fun _ => True) (fun i us e => ?_) (by simp) (fun b hb => hb) (fun i h q b hb => ?_) (fun i h h' q kp => ?_) (fun A hh => ?_) (fun A i s Q Ex q h => ?_) (fun _ _ _ _ _ _ _ _ => trivial)
    · cases hx : z.cps[i]? with
      | none => rw [hx] at e; cases e
      | some x => rw [hx] at e; cases e; show 2 ≤ 10; decide
    · obtain ⟨⟨old, q1⟩, ⟨o, q2, _, q3⟩⟩ := q
      obtain rfl | hb := List.mem_cons.mp hb
      · exact ⟨_, q1, fun v z => by cases z⟩
      · rw [List.eq_of_mem_singleton hb]
        exact ⟨o, q2, fun v z => by rw [q3] at z; cases z⟩
    · obtain ⟨⟨old, q1⟩, ⟨o, q2, q3⟩⟩ := q
      exact ⟨⟨old, kp _ (by simp) _ q1⟩, ⟨o, kp _ (by simp) _ q2, q3⟩⟩
    · have D := Draws.text (prog := X.prog) (w := X.w) (A := A.in1) hh s1.heap.objs.size z t
      have G := GoesN.enumFrom (elts := elts) (x1 := kk) (pos := tpos) 0 D (s1.heap.objs.size + 1) (Nat.succ_ne_self _) (by simp) (by simp)
      refine ⟨G.sub, fun i h h' q k => ⟨G.frame i h h' q.1 k, trivial⟩, fun i s Q E lt q k => ?_, fun s Q E q k => G.stops s Q E q.1 k, fun i s Q E q k => G.self i s Q E q.1 k⟩
      exact G.goes i s Q E lt q.1 fun v h' tk ⟨T, t, x, ev, nw, ⟨c, u, hc, ec⟩, tu⟩ q' kp tkle => k v h' tk ⟨T, _, ev, nw, ⟨[.int (0 + (i : Int)), .str ⟨#[c]⟩], by simp [hc], .cons ⟨t, rfl⟩ (.cons ⟨u, ec⟩ .nil)⟩, tu⟩ ⟨q', trivial⟩ kp tkle
    · obtain ⟨⟨old, q1⟩, _⟩ := q
      exact wpAny_pyIter_enum q1 h
  · have hle : b ≥ s1.heap.objs.size := by
      obtain rfl | hb := List.mem_cons.mp hb
      · exact Nat.le_succ _
      · rw [List.mem_singleton.mp hb]; exact Nat.le_refl _
    have fr := I1.hok.fresh hle
    exact I1.fpOk hle fr
  · refine k _ H1 Z1 (fun _ => True) _ g1 (by unfold enumT; rw [List.length_mapIdx, signsT_length]; exact walk_pairs) (fun _ _ => trivial) fun i H2 x H3 y => ?_
    obtain ⟨q, us, rfl, hq, rfl, e⟩ := y
    cases hx : z.cps[i]? with
    | none => rw [hx] at e; cases e
    | some x =>
      rw [hx] at e
      cases e
      exact ⟨.tup [.int (i : Nat), .str ⟨#[x]⟩], by unfold enumT; rw [List.getElem?_mapIdx, signsT_at hx]; rfl, .inr ⟨q, _, _, rfl, rfl, hq, rfl, .cons (rep_int.mpr (by simp)) (.cons (rep_str.mpr rfl) .nil)⟩⟩
/-- range(m, n, k) -/
def rangeC (lo c : Int) (n : Nat) : List T := (List.range n).map fun i => T.int (lo + (i : Nat) * c)
theorem ig_range3 {l : Nat} (g : GlOk S "range") (hm : S.mg "range" = none) (h : EG S E a (.int m) E1) (h2 : EG S E1 b (.int n) E2) (h3 : EG S E2 c (.int k) E3) (hb : RgC m n k l) (he : ∀ env, starEach [a, b, c] env = (false, eval a env) :: starEach [b, c] env := by intro _; rfl) (he2 : ∀ env, starEach [b, c] env = (false, eval b env) :: starEach [c] env := by intro _; rfl) (he3 : ∀ env, starEach [c] env = (false, eval c env) :: starEach [] env := by intro _; rfl) (hpl : ∀ env, (backTo pos (starEach [b, c] env)).any (·.1) = false := by intro _; rfl) :
    IG S E tg (.Call (.Name "range" p) [a, b, c] [] pos) (rangeC m k l) E3 := fun W Z H σ Rr st kq => by
  refine RI.mk (wi := iRng3 (RA S W [a, b, c])) (fun X hX => ?_) ((eas_cons h (eas_cons h2 (eas_cons h3 eas_nil he3) he2) he) W Z H σ _ st fun vs H1 Z1 g1 r1 => ?_)
  · have gg := g.at hX
    have pa := hX.pa [a, b, c]
    obtain ⟨A, s0, H0, env, outer, stack, ex, pn, xe, rfl⟩ := hX.ex
    exact pi_range3 gg hm pa (he _) (hpl _)
  · obtain ⟨v1, v2, v3, rfl, q1, q2, q3⟩ := reps_3 r1
    refine ⟨m, n, k, l, by rw [rep_int.mp q1, rep_int.mp q2, rep_int.mp q3], hb, kq _ H1 Z1 (fun _ => True) (fun i H x H' => i < l ∧ H' = H ∧ x = .int (m + (i : Nat) * k)) g1 ?_ (fun _ _ => trivial) fun i H2 x H3 y => ?_⟩
    · unfold rangeC
      rw [List.length_map]
      rw [List.length_range]
      exact ⟨fun _ _ hi _ => hi, fun _ _ => Nat.le_refl _, fun _ _ _ _ hi _ y => ⟨hi, y⟩⟩
    · refine ⟨.int (m + (i : Nat) * k), ?_, .inl ⟨y.2.1, rep_int.mpr y.2.2⟩⟩
      unfold rangeC
      rw [List.getElem?_map, List.getElem?_range y.1]; rfl
end
end Cw
end L2

set_option Elab.async false
set_option linter.all false
set_option maxRecDepth 100000
set_option maxHeartbeats 2000000
namespace L2
namespace Cw
open PySem PySem.Spec PyProof.Rows PySem.SeqAt
/-! ### a dict of ours whose values are lists of ours -/
section
variable {κ : Type}
/-- its pairs as addresses; its pairs as lists -/
def fnL (l : List (κ × List T)) (bs : List Addr) : List (κ × T) := List.zipWith (fun p b => (p.1, T.fn b)) l bs
def lsL (l : List (κ × List T)) : List (κ × T) := l.map fun p => (p.1, .lst p.2)
theorem fnL_len {l : List (κ × List T)} {bs : List Addr} (h : bs.length = l.length) : (fnL l bs).length = l.length := by unfold fnL; rw [List.length_zipWith, h, Nat.min_self]
theorem fnL_at {l : List (κ × List T)} {bs : List Addr} {i : Nat} {p : κ × List T} {b : Addr} (h1 : l[i]? = some p) (h2 : bs[i]? = some b) : (fnL l bs)[i]? = some (p.1, .fn b) := by
  unfold fnL; rw [List.getElem?_zipWith, h1, h2]
/-- an address that is new since the start, or was ours there -/
def Since (σ0 : St) (E0 : List Ent) (H0 : Hp) (b : Addr) : Prop := H0 b = none ∨ Own σ0 E0 b
/-- the lists at bs are l's, and nobody else's -/
structure Pv (K : PySem.W.Frag) (Fr : Addr → Prop) (E : List Ent) (σ : St) (Z H : Hp) (l : List (κ × List T)) (bs : List Addr) : Prop where
  len : bs.length = l.length
  nd : bs.Nodup
  at_ : ∀ (i : Nat) (p : κ × List T) (b : Addr), l[i]? = some p → bs[i]? = some b → Z b = none ∧ ¬ Own σ E b ∧ Fr b ∧ ∃ vs, H b = some (.lst vs) ∧ Reps K Z p.2 vs
/-- the state, told from a start: the dict stands in slot j -/
def PvAt (S : SS) (D : List (κ × T) → T) (E0 : List Ent) (σ0 : St) (Z0 H0 : Hp) (E : List Ent) (j : Nat) (l : List (κ × List T)) (σ : St) (Z H : Hp) : Prop :=
  ∃ bs, Pv S.K (Since σ0 E0 H0) (E.set j (.ow (D (fnL l bs)))) σ Z H l bs ∧ StOk S.K Z H σ (E.set j (.ow (D (fnL l bs)))) ∧ Step (Own σ0 E0) Z0 H0 Z H ∧ (∀ b, Own σ (E.set j (.ow (D (fnL l bs)))) b → Own σ0 E0 b ∨ H0 b = none) ∧ (∀ q ∈ S.pin, σ[q]? = σ0[q]?)
/-- a block in such a state -/
def PvB (S : SS) (D : List (κ × T) → T) (j : Nat) (E : List Ent) (l : List (κ × List T)) (sts : List Stmt) (E' : List Ent) (l' : List (κ × List T)) : Prop :=
  ∀ (W : WX) (E0 : List Ent) (σ0 : St) (Z0 H0 Z H : Hp) (σ : St) (Dn : Ends), PvAt S D E0 σ0 Z0 H0 E j l σ Z H → (∀ σ' Z' H', Same Z Z' → PvAt S D E0 σ0 Z0 H0 E' j l' σ' Z' H' → Dn.nx σ' H') → RSs S W sts Dn σ H
def PvS (S : SS) (D : List (κ × T) → T) (j : Nat) (E : List Ent) (l : List (κ × List T)) (st : Stmt) (E' : List Ent) (l' : List (κ × List T)) : Prop :=
  ∀ (W : WX) (E0 : List Ent) (σ0 : St) (Z0 H0 Z H : Hp) (σ : St) (Dn : Ends), PvAt S D E0 σ0 Z0 H0 E j l σ Z H → (∀ σ' Z' H', Same Z Z' → PvAt S D E0 σ0 Z0 H0 E' j l' σ' Z' H' → Dn.nx σ' H') → RSt S W st Dn σ H
end
section
variable {κ : Type} {S : SS} {D : List (κ × T) → T} {j : Nat} {E E' E1 E2 : List Ent} {l l' l1 : List (κ × List T)} {st : Stmt} {sts : List Stmt} {E0 : List Ent} {σ0 σ σ' : St} {Z0 H0 Z H Z' H' : Hp} {bs : List Addr}
/-- a step of what is ours leaves the lists -/
theorem Pv.go {Fr : Addr → Prop} {F F' : List Ent} (v : Pv S.K Fr F σ Z H l bs) (g : Go S F σ Z H F' σ' Z' H') : Pv S.K Fr F' σ' Z' H' l bs := ⟨v.len, v.nd, fun i p b h1 h2 => by
  obtain ⟨z, no, h0, vs, hv, r⟩ := v.at_ i p b h1 h2
  refine ⟨?_, fun o => ?_, h0, vs, g.step.keep b _ hv no, r.mono g.step.zz⟩
  · cases e : Z' b with
    | none => rfl
    | some o =>
      rcases g.step.new b o e with q | q | q
      · rw [z] at q; cases q
      · rw [hv] at q; cases q
      · exact absurd q no
  · rcases g.ow b o with q | q
    · exact no q
    · rw [hv] at q; cases q⟩
theorem pv_go {d : T} (hd : d = D (fnL l bs)) (v : Pv S.K (Since σ0 E0 H0) (E.set j (.ow d)) σ Z H l bs) (step : Step (Own σ0 E0) Z0 H0 Z H) (ow : ∀ b, Own σ (E.set j (.ow d)) b → Own σ0 E0 b ∨ H0 b = none) (pin : ∀ q ∈ S.pin, σ[q]? = σ0[q]?) (g : Go S (E.set j (.ow d)) σ Z H (E'.set j (.ow d)) σ' Z' H') : PvAt S D E0 σ0 Z0 H0 E' j l σ' Z' H' := by
  subst hd
  refine ⟨bs, v.go g, g.st, step.trans g.step ow, fun b h => ?_, fun q hq => (g.pin q hq).trans (pin q hq)⟩
  rcases g.ow b h with q | q
  · exact ow b q
  · rcases step.there q with z | z
    · exact .inr z
    · exact .inl z
theorem pvb_nil : PvB S D j E l [] E l := fun W E0 σ0 Z0 H0 Z H σ Dn p k => RSs.mk (t := fun D σ H => D.nx σ H) (fun X hX => pss_nil) (k _ _ _ (Same.refl _) p)
theorem pvb_cons (h1 : PvS S D j E l st E1 l1) (h2 : PvB S D j E1 l1 sts E' l') : PvB S D j E l (st :: sts) E' l' := fun W E0 σ0 Z0 H0 Z H σ Dn p k =>
  RSs.mk (fun X hX => pss_cons (hX.ps st) (hX.pss sts)) (h1 W E0 σ0 Z0 H0 Z H σ { Dn with nx := fun σ1 H1 => RSs S W sts Dn σ1 H1 } p fun σ' Z' H' e p' => h2 W E0 σ0 Z0 H0 Z' H' σ' _ p' fun _ _ _ e' p2 => k _ _ _ (e.trans e') p2)
theorem pvb_one (h1 : PvS S D j E l st E' l') : PvB S D j E l [st] E' l' := pvb_cons h1 pvb_nil
/-- the turns of a for in such a state -/
inductive PFor (S : SS) (D : List (κ × T) → T) (j : Nat) (tg : Expr) (body : List Stmt) : List Ent → List (κ × List T) → List T → List Ent → List (κ × List T) → Prop
  | nil {F m} : PFor S D j tg body F m [] F m
  | step {F : List Ent} {m : List (κ × List T)} {Fa : List Ent} {t : T} {ts : List T} {ws : List Nat} {F1 : List Ent} {m1 : List (κ × List T)} {F' : List Ent} {m' : List (κ × List T)} (ha : ∀ d, AG S (F.set j (.ow d)) tg t (Fa.set j (.ow d)) ws) (hb : PvB S D j Fa m body F1 m1) (r : PFor S D j tg body F1 m1 ts F' m') : PFor S D j tg body F m (t :: ts) F' m'
theorem pvs_for {tg iter : Expr} {body : List Stmt} {ts : List T} {pos : Pos} (hi : ∀ d, IG S (E.set j (.ow d)) tg iter ts (E.set j (.ow d))) (r : PFor S D j tg body E l ts E' l') (hs : ∀ env x, foldedSetIterable iter env x = pure x := by intro _ _; rfl) : PvS S D j E l (.For tg iter body [] pos) E' l' := fun W E0 σ0 Z0 H0 Z H σ Dn p k => by
  obtain ⟨bs, v, so, step, ow, pin⟩ := p
  refine RSt.mk (t := tFor (RI S W tg iter) (RG S W tg) (RSs S W body)) (fun X hX => ps_for hX.po hX.calm (hX.pi tg iter) (hX.pg tg) (hX.pss body) (hs _)) (hi _ W Z H σ _ so fun J H1 Z1 G Y g1 w hG hY => ?_)
  have p1 := pv_go rfl v step ow pin g1
  refine for_it w (fun i σ2 H2 => ∃ (Ei : List Ent) (li : List (κ × List T)) (Z2 : Hp), PFor S D j tg body Ei li (ts.drop i) E' l' ∧ PvAt S D E0 σ0 Z0 H0 Ei j li σ2 Z2 H2 ∧ Same Z1 Z2) ⟨E, l, Z1, r, p1, Same.refl _⟩ ?_ ?_ ?_
  · rintro i σ2 H2 _ ⟨Ei, li, Z2, _, ⟨_, _, so2, _⟩, zz⟩
    exact hG H2 (zz.trans so2.zh)
  · rintro i x σ2 H2 H3 hlt ⟨Ei, li, Z2, rt, ⟨bs2, v2, so2, step2, ow2, pin2⟩, zz⟩ y
    obtain ⟨t, ht, cm⟩ := hY i H2 x H3 y
    rw [drop_at ht] at rt
    obtain ⟨Z3, g3, r3⟩ := cm.go (S := S) (S' := S) (zs := zz) rfl so2
    cases rt with
    | step ha hb rt' =>
      refine (ha _).2.2 W Z3 H3 σ2 x _ g3.st r3 fun τ st e => ?_
      have gg := g3.trans ((ha _).go st e)
      refine hb W E0 σ0 Z0 H0 Z3 H3 τ _ (pv_go rfl v2 step2 ow2 pin2 gg) fun σ4 Z4 H4 z4 p4 => ⟨_, _, Z4, rt', p4, (zz.trans gg.step.zz).trans z4⟩
  · rintro σ2 H2 ⟨Ei, li, Z2, rt, p2, zz⟩
    rw [List.drop_length] at rt
    cases rt
    exact k _ _ _ (g1.step.zz.trans zz) p2
/-- the lists laid down: from here on all stand still -/
def Settle (S : SS) (D : List (κ × T) → T) : Prop := ∀ {Z Z' : Hp} {a : Addr} {o : HO} {l : List (κ × List T)} {bs : List Addr}, Same Z Z' → bs.length = l.length → (∀ (i : Nat) p b, l[i]? = some p → bs[i]? = some b → Rep S.K Z' (.lst p.2) (.ref b)) → ORep S.K Z a o (D (fnL l bs)) → ORep S.K Z' a o (D (lsL l))
theorem set_at {E : List Ent} {j i : Nat} {e e' : Ent} (h : (E.set j e)[i]? = some e') : (i = j ∧ e' = e) ∨ (i ≠ j ∧ E[i]? = some e') := by
  by_cases hi : j = i
  · subst hi
    by_cases hl : j < E.length
    · rw [List.getElem?_set_self hl] at h; cases h; exact .inl ⟨rfl, rfl⟩
    · rw [List.getElem?_eq_none (by rw [List.length_set]; omega)] at h; cases h
  · rw [List.getElem?_set_ne hi] at h; exact .inr ⟨fun z => hi z.symm, h⟩
theorem pv_settle (hD : Settle S D) (p : PvAt S D E0 σ0 Z0 H0 E j l σ Z H) : ∃ Z2, Go S E0 σ0 Z0 H0 (E.set j (.ow (D (lsL l)))) σ Z2 H := by
  obtain ⟨bs, v, so, step, ow, pin⟩ := p
  have at_ : ∀ b ∈ bs, ∃ i p, l[i]? = some p ∧ bs[i]? = some b := fun b hb => by
    rcases List.getElem_of_mem hb with ⟨i, hi, e⟩
    exact ⟨i, l[i]'(by rw [← v.len]; exact hi), List.getElem?_eq_getElem _, by rw [List.getElem?_eq_getElem hi, e]⟩
  have no : ∀ b ∈ bs, Z b = none ∧ ¬ Own σ (E.set j (.ow (D (fnL l bs)))) b ∧ Since σ0 E0 H0 b ∧ ∃ vs, H b = some (.lst vs) := fun b hb => by
    obtain ⟨i, p, h1, h2⟩ := at_ b hb
    obtain ⟨z, o, h0, vs, hv, _⟩ := v.at_ i p b h1 h2
    exact ⟨z, o, h0, vs, hv⟩
  have zz : Same Z (fun a => if a ∈ bs then H a else Z a) := fun a o e => by
    show (if a ∈ bs then H a else Z a) = _
    rw [if_neg (fun hb => by rw [(no a hb).1] at e; cases e)]; exact e
  have own : ∀ {a : Addr} {i : Nat} {t : T}, (E.set j (.ow (D (lsL l))))[i]? = some (.ow t) → σ[i]? = some (some (.ref a)) → Own σ (E.set j (.ow (D (fnL l bs)))) a := fun {a i t} h h2 => by
    rcases set_at h with ⟨rfl, _⟩ | ⟨hi, h⟩
    · have hl : i < E.length := by
        have := (List.getElem?_eq_some_iff.mp h).1
        rwa [List.length_set] at this
      exact ⟨i, _, List.getElem?_set_self hl, h2⟩
    · exact ⟨i, t, by rw [List.getElem?_set_ne (fun z => hi z.symm)]; exact h, h2⟩
  refine ⟨fun a => if a ∈ bs then H a else Z a, ⟨step.zz.trans zz, step.keep, fun b o e => ?_⟩, ⟨fun a o e => ?_, fun a ps e => ?_, by rw [List.length_set]; have := so.len; rwa [List.length_set] at this, fun i t h => ?_, fun i t h => ?_, fun i i' a t u h1 h2 h3 h4 => ?_⟩, fun b h => ?_, pin⟩
  · by_cases hb : b ∈ bs
    · exact .inr (no b hb).2.2.1
    · have e : (if b ∈ bs then H b else Z b) = some o := e
      rw [if_neg hb] at e; exact step.new b o e
  · have e : (if a ∈ bs then H a else Z a) = some o := e
    by_cases hb : a ∈ bs
    · rw [if_pos hb] at e; exact e
    · rw [if_neg hb] at e; exact so.zh a o e
  · have e : (if a ∈ bs then H a else Z a) = some (.tbl ps) := e
    by_cases hb : a ∈ bs
    · obtain ⟨vs, hv⟩ := (no a hb).2.2.2
      rw [if_pos hb, hv] at e; cases e
    · rw [if_neg hb] at e; exact so.nt a ps e
  · rcases set_at h with ⟨_, e⟩ | ⟨hi, h⟩
    · cases e
    · obtain ⟨v', h1, h2⟩ := so.sh i t (by rw [List.getElem?_set_ne (fun z => hi z.symm)]; exact h)
      exact ⟨v', h1, h2.mono zz⟩
  · rcases set_at h with ⟨rfl, e⟩ | ⟨hi, h'⟩
    · have hl : i < E.length := by
        have := (List.getElem?_eq_some_iff.mp h).1
        rwa [List.length_set] at this
      cases e
      obtain ⟨a, o, h1, h2, h3, h4⟩ := so.ow i _ (List.getElem?_set_self hl)
      have nb : a ∉ bs := fun hb => (no a hb).2.1 ⟨i, _, List.getElem?_set_self hl, h1⟩
      refine ⟨a, o, h1, h2, by rw [if_neg nb]; exact h3, hD zz v.len (fun i p b g1 g2 => ?_) h4⟩
      obtain ⟨_, _, _, vs, hv, r⟩ := v.at_ i p b g1 g2
      exact rep_lst.mpr ⟨b, vs, rfl, by rw [if_pos (List.mem_of_getElem? g2)]; exact hv, r.mono zz⟩
    · obtain ⟨a, o, h1, h2, h3, h4⟩ := so.ow i t (by rw [List.getElem?_set_ne (fun z => hi z.symm)]; exact h')
      have nb : a ∉ bs := fun hb => (no a hb).2.1 (own h h1)
      exact ⟨a, o, h1, h2, by rw [if_neg nb]; exact h3, h4.mono zz⟩
  · have e1 : ∃ t', (E.set j (.ow (D (fnL l bs))))[i]? = some (.ow t') := by
      rcases set_at h1 with ⟨rfl, _⟩ | ⟨hi, h⟩
      · have hl : i < E.length := by have := (List.getElem?_eq_some_iff.mp h1).1; rwa [List.length_set] at this
        exact ⟨_, List.getElem?_set_self hl⟩
      · exact ⟨_, by rw [List.getElem?_set_ne (fun z => hi z.symm)]; exact h⟩
    have e2 : ∃ t', (E.set j (.ow (D (fnL l bs))))[i']? = some (.ow t') := by
      rcases set_at h2 with ⟨rfl, _⟩ | ⟨hi, h⟩
      · have hl : i' < E.length := by have := (List.getElem?_eq_some_iff.mp h2).1; rwa [List.length_set] at this
        exact ⟨_, List.getElem?_set_self hl⟩
      · exact ⟨_, by rw [List.getElem?_set_ne (fun z => hi z.symm)]; exact h⟩
    obtain ⟨t1, e1⟩ := e1
    obtain ⟨t2, e2⟩ := e2
    exact so.ds i i' a t1 t2 e1 e2 h3 h4
  · obtain ⟨i, t, h1, h2⟩ := h
    exact ow b (own h1 h2)
/-- a statement of such a state, from a dict that is empty yet -/
theorem sg_pv0 (hD : Settle S D) (h : PvS S D j E [] st E' l') : SG S (E.set j (.ow (D []))) st (.nx (E'.set j (.ow (D (lsL l'))))) := fun W Z H σ Dn so k =>
  h W (E.set j (.ow (D []))) σ Z H Z H σ Dn ⟨[], ⟨rfl, List.nodup_nil, fun i p b h => nomatch h⟩, so, Step.refl _ _ _, fun b h => .inl h, fun _ _ => rfl⟩ fun σ' Z' H' _ p => by
    obtain ⟨Z2, g⟩ := pv_settle hD p
    exact k _ _ _ g
/-- a list grows -/
theorem pv_grow {ts : List T} {k : κ} {t : T} {m : Nat} {b : Addr} {v : V} {vs : List V} (pv : Pv S.K (Since σ0 E0 H0) (E.set j (.ow (D (fnL l bs)))) σ Z H l bs) (so : StOk S.K Z H σ (E.set j (.ow (D (fnL l bs))))) (step : Step (Own σ0 E0) Z0 H0 Z H) (ow : ∀ b, Own σ (E.set j (.ow (D (fnL l bs)))) b → Own σ0 E0 b ∨ H0 b = none) (pin : ∀ q ∈ S.pin, σ[q]? = σ0[q]?)
    (hm : l[m]? = some (k, ts)) (hb : bs[m]? = some b) (hv : H b = some (.lst vs)) (r : Rep S.K Z t v) : PvAt S D E0 σ0 Z0 H0 E j (l.set m (k, ts ++ [t])) σ Z (upd H b (.lst (vs ++ [v]))) := by
  have ml : m < l.length := (List.getElem?_eq_some_iff.mp hm).1
  obtain ⟨zb, nb, b0, vs', hv', rv⟩ := pv.at_ m _ b hm hb
  rw [hv] at hv'; cases hv'
  have same : fnL (l.set m (k, ts ++ [t])) bs = fnL l bs := by
    refine List.ext_getElem? fun i => ?_
    unfold fnL
    rw [List.getElem?_zipWith, List.getElem?_zipWith]
    by_cases hi : m = i
    · subst hi; rw [List.getElem?_set_self ml, hm, hb]
    · rw [List.getElem?_set_ne hi]
  refine ⟨bs, ?_, ?_, ⟨step.zz, fun c o e nbc => ?_, step.new⟩, ?_, pin⟩
  · rw [same]
    refine ⟨by rw [List.length_set]; exact pv.len, pv.nd, fun i p c h1 h2 => ?_⟩
    by_cases hi : m = i
    · subst hi
      rw [List.getElem?_set_self ml] at h1
      cases h1
      rw [hb] at h2; cases h2
      exact ⟨zb, nb, b0, _, upd_same, rv.append (.cons r .nil)⟩
    · rw [List.getElem?_set_ne hi] at h1
      obtain ⟨z, n, c0, ws, hw, rw_⟩ := pv.at_ i p c h1 h2
      have ne : c ≠ b := fun z => by
        subst z
        obtain ⟨m1, e1⟩ := List.getElem?_eq_some_iff.mp hb
        obtain ⟨i1, e2⟩ := List.getElem?_eq_some_iff.mp h2
        exact hi ((List.getElem_inj pv.nd).mp (e1.trans e2.symm))
      exact ⟨z, n, c0, ws, by rw [upd_ne ne]; exact hw, rw_⟩
  · rw [same]
    exact ⟨fun a o e => by rw [upd_ne (fun z => by rw [z, zb] at e; cases e)]; exact so.zh a o e, so.nt, so.len, so.sh, fun i u h => by
      obtain ⟨a, o, h1, h2, h3, h4⟩ := so.ow i u h
      exact ⟨a, o, h1, by rw [upd_ne (fun z => nb ⟨i, u, h, by rw [← z]; exact h1⟩)]; exact h2, h3, h4⟩, so.ds⟩
  · rw [upd_ne (fun z => by
      subst z
      rcases b0 with q | q
      · rw [q] at e; cases e
      · exact nbc q)]; exact step.keep c o e nbc
  · rw [same]; exact ow
/-- o.append(e), o the m-th of the lists -/
theorem pvs_append {o e : Expr} {t : T} {ts : List T} {k : κ} {m : Nat} {apos p pos : Pos} (hm : l[m]? = some (k, ts)) (hr : ∀ bs b, bs.length = l.length → bs[m]? = some b → EG S (E.set j (.ow (D (fnL l bs)))) o (.fn b) (E.set j (.ow (D (fnL l bs))))) (he : ∀ d, EG S (E.set j (.ow d)) e t (E.set j (.ow d))) (hl : ts.length < 16777216)
    (bc : BCall o "append" apos e [] p) (hs : ∀ env, swapsWith (.Call (.Attribute o "append" apos) [e] [] p) none pos.line env = pure false := by intro _; rfl) : PvS S D j E l (.Expr (.Call (.Attribute o "append" apos) [e] [] p) pos) E (l.set m (k, ts ++ [t])) := fun W E0 σ0 Z0 H0 Z H σ Dn pa kq => by
  obtain ⟨bs, pv, so, step, ow, pin⟩ := pa
  have ml : m < bs.length := by rw [pv.len]; exact (List.getElem?_eq_some_iff.mp hm).1
  have hb := List.getElem?_eq_getElem ml
  refine RSt.mk (t := tDrop (tBM S.K "list" rAppend (R S W o) (RA S W [e]))) (fun X hX => ?_) (hr bs _ pv.len hb W Z H σ _ so fun v H1 Z1 g1 r1 => ?_)
  · have hK := hX.kk
    rw [← hK]
    exact ps_expr (pe_bm PySem.F.plainAttrs_list PySem.F.slot_list_append PySem.F.type_list_append mt_append (hX.pe o) (hX.pa [e]) (bc.base _) (bc.few _) bc.line (bc.star _) (bc.plain _)) (hs _)
  · cases rep_fn.mp r1
    have pv1 := pv.go g1
    obtain ⟨_, _, _, vs1, hv1, _⟩ := pv1.at_ m _ _ hm hb
    refine ⟨.inl ⟨rfl, vs1, .inl (.inl hv1)⟩, (eas_cons (he _) eas_nil bc.star) W Z1 H1 σ _ g1.st fun us H2 Z2 g2 r2 => ?_⟩
    obtain ⟨v, rfl, rv⟩ := reps_one r2
    have pv2 := pv1.go g2
    obtain ⟨_, _, _, vs2, hv2, rv2⟩ := pv2.at_ m _ _ hm hb
    have gg := g1.trans g2
    refine ⟨_, vs2, v, rfl, rfl, hv2, by rw [rv2.length, sizeLine_eq]; exact hl, kq _ _ _ gg.step.zz (pv_grow pv2 g2.st (step.trans gg.step ow) (fun b h => ?_) (fun q hq => (gg.pin q hq).trans (pin q hq)) hm hb hv2 rv)⟩
    rcases gg.ow b h with q | q
    · exact ow b q
    · exact (step.there q).symm
end
end Cw
end L2

set_option Elab.async false
set_option linter.all false
set_option maxRecDepth 100000
set_option maxHeartbeats 2000000
namespace L2
namespace Cw
open PySem PySem.Spec PyProof.Rows PySem.SeqAt
/-! ### x.setdefault(i, []).append(e), x a dict of ours with lists of ours -/
def addTo : List (Key × List T) → Key → T → List (Key × List T)
  | [], k, t => [(k, [t])]
  | p :: l, k, t => if p.1 = k then (p.1, p.2 ++ [t]) :: l else p :: addTo l k t
theorem getN_cons {κ : Type} [DecidableEq κ] {p : κ × T} {l : List (κ × T)} {k : κ} : getN (p :: l) k = if p.1 = k then some p.2 else getN l k := by
  unfold getN
  rw [List.find?_cons]
  by_cases h : p.1 = k
  · simp [h]
  · simp [h]
theorem addTo_at : ∀ (l : List (Key × List T)) (bs : List Addr) (k : Key) (t : T), bs.length = l.length →
    (∃ m ts b, l[m]? = some (k, ts) ∧ bs[m]? = some b ∧ addTo l k t = l.set m (k, ts ++ [t]) ∧ getN (fnL l bs) k = some (.fn b)) ∨ (addTo l k t = l ++ [(k, [t])] ∧ getN (fnL l bs) k = none)
  | [], [], k, t, _ => .inr ⟨rfl, rfl⟩
  | [], _ :: _, k, t, h => nomatch h
  | _ :: _, [], k, t, h => nomatch h
  | (q, ts) :: l, b :: bs, k, t, h => by
    have e : fnL ((q, ts) :: l) (b :: bs) = (q, .fn b) :: fnL l bs := rfl
    rw [e, getN_cons]
    unfold addTo
    by_cases hk : q = k
    · subst hk
      rw [if_pos rfl, if_pos rfl]
      exact .inl ⟨0, ts, b, rfl, rfl, rfl, rfl⟩
    · rw [if_neg hk, if_neg hk]
      rcases addTo_at l bs k t (Nat.succ.inj h) with ⟨m, us, c, h1, h2, h3, h4⟩ | ⟨h1, h2⟩
      · exact .inl ⟨m + 1, us, c, h1, h2, by rw [h3]; rfl, h4⟩
      · exact .inr ⟨by rw [h1]; rfl, h2⟩
section
variable {K : PySem.W.Frag} {Z Z' H H' : Hp} {σ : St} {E : List Ent} {S : SS} {l : List (Key × List T)} {bs : List Addr} {k : Key} {t : T}
theorem StOk.lay (st : StOk K Z H σ E) {p : Addr} {o : HO} (hp : H p = none) : StOk K Z (upd H p o) σ E :=
  ⟨fun b u e => by rw [upd_ne (ne_of_none (st.zh b u e) hp)]; exact st.zh b u e, st.nt, st.len, st.sh, fun i u h => by
    obtain ⟨a, ob, h1, h2, h3, h4⟩ := st.ow i u h
    exact ⟨a, ob, h1, by rw [upd_ne (ne_of_none h2 hp)]; exact h2, h3, h4⟩, st.ds⟩
theorem krel_settle : ∀ {l : List (Key × List T)} {bs : List Addr} {kv : List (Key × V)}, bs.length = l.length → KRel K Z (fnL l bs) kv → (∀ (i : Nat) p b, l[i]? = some p → bs[i]? = some b → Rep K Z' (.lst p.2) (.ref b)) → KRel K Z' (lsL l) kv
  | [], [], kv, _, h, _ => by
    have h : KRel K Z [] kv := h
    unfold KRel at h ⊢
    cases h; exact .nil
  | [], _ :: _, _, e, _, _ => nomatch e
  | _ :: _, [], _, e, _, _ => nomatch e
  | p :: l, b :: bs, kv, e, h, r => by
    have h : KRel K Z ((p.1, .fn b) :: fnL l bs) kv := h
    unfold KRel at h
    cases h with
    | cons a q => exact .cons ⟨a.1, by rw [rep_fn.mp a.2]; exact r 0 p b rfl rfl⟩ (krel_settle (Nat.succ.inj e) q fun i p b h1 h2 => r (i + 1) p b h1 h2)
theorem settleK : Settle S dKey := fun zz e h r => by
  obtain ⟨kv, rfl, kr⟩ := orep_dK r
  exact dK_orep (krel_settle e kr h)
theorem fnL_snoc (h : bs.length = l.length) (q : Key × List T) (b : Addr) : fnL (l ++ [q]) (bs ++ [b]) = fnL l bs ++ [(q.1, .fn b)] := by
  unfold fnL
  rw [List.zipWith_append h.symm]
  rfl
theorem putN_new {m : List (Key × T)} (h : getN m k = none) : putN m k t = m ++ [(k, t)] := by
  unfold putN
  rw [h]
  rfl
end
section
variable {S : SS} {j : Nat} {E : List Ent} {l : List (Key × List T)} {E0 : List Ent} {σ0 σ : St} {Z0 H0 Z H : Hp} {bs : List Addr} {k : Key} {t : T}
/-- one more list, bare yet -/
theorem pv_add {a p : Addr} {kv : List (Key × V)} (pv : Pv S.K (Since σ0 E0 H0) (E.set j (.ow (dKey (fnL l bs)))) σ Z H l bs) (so : StOk S.K Z H σ (E.set j (.ow (dKey (fnL l bs))))) (step : Step (Own σ0 E0) Z0 H0 Z H) (ow : ∀ b, Own σ (E.set j (.ow (dKey (fnL l bs)))) b → Own σ0 E0 b ∨ H0 b = none)
    (jl : j < E.length) (hσ : σ[j]? = some (some (.ref a))) (ha : H a = some (.dK kv)) (kr : KRel S.K Z (fnL l bs) kv) (hp : H p = none) (no : getN (fnL l bs) k = none) :
    Pv S.K (Since σ0 E0 H0) (E.set j (.ow (dKey (fnL (l ++ [(k, [])]) (bs ++ [p]))))) σ Z (upd (upd H p (.lst [])) a (.dK (putK kv k (.ref p)))) (l ++ [(k, [])]) (bs ++ [p]) ∧ StOk S.K Z (upd (upd H p (.lst [])) a (.dK (putK kv k (.ref p)))) σ (E.set j (.ow (dKey (fnL (l ++ [(k, [])]) (bs ++ [p])))))
    ∧ Step (Own σ0 E0) Z0 H0 Z (upd (upd H p (.lst [])) a (.dK (putK kv k (.ref p)))) ∧ (∀ b, Own σ (E.set j (.ow (dKey (fnL (l ++ [(k, [])]) (bs ++ [p]))))) b → Own σ0 E0 b ∨ H0 b = none) := by
  have ej : (E.set j (.ow (dKey (fnL l bs))))[j]? = some (.ow (dKey (fnL l bs))) := List.getElem?_set_self jl
  have ap : a ≠ p := fun z => by rw [z, hp] at ha; cases ha
  have so1 := so.lay (o := .lst []) hp
  have kr2 : KRel S.K Z (fnL (l ++ [(k, [])]) (bs ++ [p])) (putK kv k (.ref p)) := by
    rw [fnL_snoc pv.len, ← putN_new (t := .fn p) no]
    exact krel_put kr (rep_fn.mpr rfl)
  have g := Go.wrote so1 ej hσ (dK_orep kr2 (a := a))
  rw [List.set_set] at g
  have ow1 : ∀ b, Own σ (E.set j (.ow (dKey (fnL (l ++ [(k, [])]) (bs ++ [p]))))) b → Own σ (E.set j (.ow (dKey (fnL l bs)))) b := fun b h => by
    rcases g.ow b h with q | q
    · exact q
    · obtain ⟨i, u, h1, h2⟩ := h
      obtain ⟨c, o, e1, e2, _⟩ := g.st.ow i u h1
      rw [h2] at e1; cases e1
      by_cases hb : b = a
      · exact ⟨j, _, ej, by rw [hb]; exact hσ⟩
      · rw [upd_ne hb, q] at e2; cases e2
  have np : ¬ Own σ (E.set j (.ow (dKey (fnL l bs)))) p := fun ⟨i, u, h1, h2⟩ => by
    obtain ⟨c, o, e1, e2, _⟩ := so.ow i u h1
    rw [h2] at e1; cases e1
    rw [hp] at e2; cases e2
  refine ⟨⟨by rw [List.length_append, List.length_append, pv.len]; rfl, ?_, fun i q b h1 h2 => ?_⟩, g.st, ⟨step.zz, fun c o e nc => ?_, step.new⟩, fun b h => ow b (ow1 b h)⟩
  · rw [List.nodup_append]
    refine ⟨pv.nd, by simp, fun x hx y hy e => ?_⟩
    rw [List.mem_singleton] at hy
    subst hy; subst e
    obtain ⟨i, hi, e⟩ := List.getElem_of_mem hx
    obtain ⟨_, _, _, vs, hv, _⟩ := pv.at_ i _ x (List.getElem?_eq_getElem (by rw [← pv.len]; exact hi)) (by rw [List.getElem?_eq_getElem hi, e])
    rw [hp] at hv; cases hv
  · by_cases hi : i < l.length
    · rw [List.getElem?_append_left hi] at h1
      rw [List.getElem?_append_left (by rw [pv.len]; exact hi)] at h2
      obtain ⟨z, n, f, vs, hv, rv⟩ := pv.at_ i q b h1 h2
      exact ⟨z, fun o => n (ow1 b o), f, vs, by rw [upd_ne (fun z => n ⟨j, _, ej, by rw [z]; exact hσ⟩), upd_ne (ne_of_none hv hp)]; exact hv, rv⟩
    · have hi : l.length ≤ i := by omega
      rw [List.getElem?_append_right hi] at h1
      rw [List.getElem?_append_right (by rw [pv.len]; exact hi), pv.len] at h2
      have z0 : i - l.length = 0 := by
        rcases Nat.eq_zero_or_pos (i - l.length) with z | z
        · exact z
        · rw [List.getElem?_eq_none (by simp; omega)] at h1; cases h1
      rw [z0] at h1 h2
      cases h1; cases h2
      refine ⟨?_, fun o => np (ow1 _ o), ?_, [], by rw [upd_ne ap.symm]; exact upd_same, .nil⟩
      · cases e : Z p with
        | none => rfl
        | some o => rw [so.zh p o e] at hp; cases hp
      · exact step.there hp
  · by_cases hc : c = a
    · exfalso
      rcases ow c ⟨j, _, ej, by rw [hc]; exact hσ⟩ with q | q
      · exact nc q
      · rw [e] at q; cases q
    · have e2 := step.keep c o e nc
      rw [upd_ne hc, upd_ne (ne_of_none e2 hp)]; exact e2
/-- x.setdefault(i, []).append(e) -/
theorem pvs_setd {x : Str} {i e : Expr} {q apos1 apos2 pl p1 p2 pos : Pos} (vo : VarOk S j x) (jl : j < E.length) (hi : ∀ d, EG S (E.set j (.ow d)) i (kT k) (E.set j (.ow d))) (he : ∀ d, EG S (E.set j (.ow d)) e t (E.set j (.ow d))) (hl : l.length < 16777216) (hll : ∀ p ∈ l, p.2.length < 16777216)
    (m2 : ∀ X : Cx, M2 X (.Name x q) "setdefault" apos1 i (.List [] pl) p1) (bc : BCall (.Call (.Attribute (.Name x q) "setdefault" apos1) [i, .List [] pl] [] p1) "append" apos2 e [] p2)
    (hs : ∀ env, swapsWith (.Call (.Attribute (.Call (.Attribute (.Name x q) "setdefault" apos1) [i, .List [] pl] [] p1) "append" apos2) [e] [] p2) none pos.line env = pure false := by intro _; rfl) :
    PvS S dKey j E l (.Expr (.Call (.Attribute (.Call (.Attribute (.Name x q) "setdefault" apos1) [i, .List [] pl] [] p1) "append" apos2) [e] [] p2) pos) E (addTo l k t) := fun W E0 σ0 Z0 H0 Z H σ Dn pa kq => by
  obtain ⟨bs, pv, so, step, ow, pin⟩ := pa
  have ej : (E.set j (.ow (dKey (fnL l bs))))[j]? = some (.ow (dKey (fnL l bs))) := List.getElem?_set_self jl
  obtain ⟨a, ob, hσ, ha, hz, ro⟩ := so.ow j _ ej
  refine RSt.mk (t := tDrop (tBM S.K "list" rAppend (tDSetd (R S W (.Name x q)) (R S W i) (tLst (RA S W []))) (RA S W [e]))) (fun X hX => ?_) (R.mk (t := tVar j) (fun X hX => ?_) ⟨.ref a, hσ, a, rfl, ?_, hi _ W Z H σ _ so fun y H1 Z1 g1 ry => ?_⟩)
  · have hK := hX.kk
    rw [← hK]
    exact ps_expr (pe_bm PySem.F.plainAttrs_list PySem.F.slot_list_append PySem.F.type_list_append mt_append (pe_dsetd (hX.pe _) (hX.pe i) (pe_lst (hX.pa [])) (m2 X)) (hX.pa [e]) (bc.base _) (bc.few _) bc.line (bc.star _) (bc.plain _)) (hs _)
  · have hs := hX.sc
    obtain ⟨A, s0, H0, env, outer, stack, ex, pn, xe, rfl⟩ := hX.ex
    exact pe_var vo.hN (by rw [hs]; exact vo.vis) vo.h1 vo.h2
  · obtain ⟨kv, rfl, _⟩ := orep_dK ro
    exact .inl ⟨kv, .inl ha⟩
  · have pv1 := pv.go g1
    refine eas_nil W Z1 H1 σ _ g1.st fun vs H2 Z2 g2 r2 => ?_
    cases r2.unnil
    have pv2 := pv1.go g2
    refine ⟨Nat.zero_le _, fun p hp => ?_⟩
    obtain ⟨a', ob', hσ', ha', hz', ro'⟩ := g2.st.ow j _ ej
    rw [hσ] at hσ'; cases hσ'
    obtain ⟨kv, rfl, kr⟩ := orep_dK ro'
    have ap : a ≠ p := fun z => by rw [z, hp] at ha'; cases ha'
    have gg := g1.trans g2
    have pin2 : ∀ q ∈ S.pin, σ[q]? = σ0[q]? := pin
    have ow2 : ∀ b, Own σ (E.set j (.ow (dKey (fnL l bs)))) b → Own σ0 E0 b ∨ H0 b = none := ow
    have step2 := step.trans gg.step ow
    have hx := (krel_get kr k)
    refine ⟨kv, k, by rw [upd_ne ap]; exact ha', rep_kT ry, by rw [krel_len kr, fnL_len pv.len, sizeLine_eq]; exact hl, fun v hv => ?_, fun hn => ?_⟩
    · rcases addTo_at l bs k t pv.len with ⟨m, ts, b, h1, h2, h3, h4⟩ | ⟨h3, h4⟩
      · obtain ⟨w, e1, e2⟩ := hx.1 _ h4
        rw [hv] at e1; cases e1
        cases rep_fn.mp e2
        have g3 := Go.alloc g2.st (o := .lst []) hp (by intro ps q; cases q)
        have pv3 := pv2.go g3
        have g03 := gg.trans g3
        obtain ⟨_, _, _, ws, hw, _⟩ := pv3.at_ m _ _ h1 h2
        refine ⟨.inl ⟨rfl, ws, .inl (.inl hw)⟩, (eas_cons (he _) eas_nil bc.star) W _ _ σ _ g3.st fun us H4 Z4 g4 r4 => ?_⟩
        obtain ⟨u, rfl, ru⟩ := reps_one r4
        have pv4 := pv3.go g4
        obtain ⟨_, _, _, xs, hx4, rx4⟩ := pv4.at_ m _ _ h1 h2
        have g04 := g03.trans g4
        rw [h3] at kq
        exact ⟨_, xs, u, rfl, rfl, hx4, by rw [rx4.length, sizeLine_eq]; exact hll _ (List.mem_of_getElem? h1), kq _ _ _ g04.step.zz (pv_grow pv4 g4.st (step.trans g04.step ow) ow pin h1 h2 hx4 ru)⟩
      · exfalso
        have := hx.2
        rw [h4, hv] at this; cases this
    · rcases addTo_at l bs k t pv.len with ⟨m, ts, b, h1, h2, h3, h4⟩ | ⟨h3, h4⟩
      · exfalso
        have := hx.2
        rw [h4, hn] at this; cases this
      · obtain ⟨pv3, so3, step3, ow3⟩ := pv_add pv2 g2.st step2 ow jl hσ ha' kr hp h4
        refine ⟨.inl ⟨rfl, [], .inl (.inl (by rw [upd_ne ap.symm]; exact upd_same))⟩, (eas_cons (he _) eas_nil bc.star) W _ _ σ _ so3 fun us H4 Z4 g4 r4 => ?_⟩
        obtain ⟨u, rfl, ru⟩ := reps_one r4
        have pv4 := pv3.go g4
        have h1 : (l ++ [(k, ([] : List T))])[l.length]? = some (k, []) := by rw [List.getElem?_append_right (Nat.le_refl _), Nat.sub_self]; rfl
        have h2 : (bs ++ [p])[l.length]? = some p := by rw [List.getElem?_append_right (by rw [pv.len]; exact Nat.le_refl _), pv.len, Nat.sub_self]; rfl
        obtain ⟨_, _, _, xs, hx4, rx4⟩ := pv4.at_ _ _ _ h1 h2
        have e3 : addTo l k t = (l ++ [(k, ([] : List T))]).set l.length (k, [] ++ [t]) := by
          rw [h3, List.set_append_right _ _ (Nat.le_refl _), Nat.sub_self]; rfl
        rw [e3] at kq
        refine ⟨_, xs, u, rfl, rfl, hx4, by rw [rx4.length]; exact Nat.zero_lt_of_lt (by rw [sizeLine_eq]; exact hl), kq _ _ _ (gg.step.zz.trans g4.step.zz) (pv_grow pv4 g4.st (step3.trans g4.step ow3) (fun b h => ?_) (fun q hq => (g4.pin q hq).trans (pin q hq)) h1 h2 hx4 ru)⟩
        rcases g4.ow b h with z | z
        · exact ow3 b z
        · rcases step3.there z with y | y
          · exact .inr y
          · exact .inl y
end
end Cw
end L2

set_option Elab.async false
set_option linter.all false
set_option maxRecDepth 100000
set_option maxHeartbeats 2000000
namespace L2
namespace Cw
open PySem PySem.Spec PyProof.Rows PySem.SeqAt
/-! ### {k: v for ..}, the keys tuples -/
section
variable {K : PySem.W.Frag} {Z Z' H H' : Hp} {σ : St} {E : List Ent} {S : SS} {l : List (NestedKey × T)} {ks : List NestedKey} {t : T}
theorem stoN (h8 : (NestedKey.tup ks).depth ≤ 8) (hl : l.length < 16777216) : StoG S (dN S.w l) (keyT (.tup ks)) t (dN S.w (putN l (.tup ks) t)) := fun W Y hY pins τ Z H s D o y z u r Q Ex I zh hD ro ry rz qy qz h => by
  obtain ⟨hy, hz', hd8, xs, hm, dr⟩ := dn_open I zh hY.kk hY.hw (.inl hD) ro
  obtain ⟨b, bs, rfl, _⟩ := rep_tup.mp (show Rep S.K Z (.tup (keyTs ks)) y from ry)
  obtain rfl : u = Value.ref b := qy
  have nk := key_is I zh hY.kk (.tup ks) (keyT_self _) ry rfl
  refine wpAny_dictSet_heap (knd := nestedKind Y.prog Y.w) (hsz := by rw [← dr.length]; exact hz') (show Y.A.units + 8 < cLine by have := u65 hY; omega) ⟨nk, h8⟩ hm fun h' hm' sb => ?_
  obtain ⟨o', ro', _, new⟩ := dn_close (K := S.K) (Z := Z) (P := Y.prog) hy (by rw [sizeLine_eq]; exact Nat.le_trans length_putN hl) (depth_putN hd8 h8) hm' (dr.put ry rz qz)
  rw [hY.hw] at ro'
  have he : ∃ q, h'.get? D = some q := by obtain ⟨q, _, _, e, _⟩ := hm'; exact ⟨q, e⟩
  exact h _ o' (d_write I (dn_mut hD ro) sb he (new _)) ro'
theorem dicN_new : ∀ (h : Heap) (H : Hp), sysModules < h.objs.size → ObjOk S.P S.w H (h.push { cls := .type "dict", data := .dict #[] }) h.objs.size ((fun a => HO.ext (dnP S.w [] a [] [])) h.objs.size) := fun h H hb => by
  refine ⟨⟨beq_eq_false_iff_ne.mpr (Ne.symm (Nat.ne_of_lt hb)), Nat.zero_le _, (fun _ q => nomatch q), [], rfl, rfl, .nil, _, #[], 0, Heap.get?_push_size _ rfl, ⟨rfl, rfl, rfl⟩, rfl, rfl, List.nodup_nil⟩, ⟨_, Heap.get?_push_size _ rfl⟩, fun h1 h2 p st => ?_⟩
  obtain ⟨p1, p2, p3, ys, p4, p5, p6, ob, es, ep, q1, q⟩ := p
  exact ⟨p1, p2, p3, ys, p4, p5, p6, ob, es, ep, st _ q1, q⟩
theorem dicN_new_rep : ∀ Z a, ORep S.K Z a ((fun a => HO.ext (dnP S.w [] a [] [])) a) (dN S.w []) := fun Z a => ⟨[], [], rfl, .nil, .nil⟩
end
end Cw
end L2

set_option Elab.async false
set_option linter.all false
set_option maxRecDepth 100000
set_option maxHeartbeats 2000000
namespace L2
namespace Cw
open PySem PySem.Spec PyProof.Rows PySem.SeqAt
/-! ### texts: join, in; lists of ours: pop, compared -/
section
variable {K : PySem.W.Frag} {Z Z' H H' : Hp} {σ : St} {E E1 E2 E3 : List Ent} {S : SS} {a b e o : Expr} {p pos apos q : Pos} {t u : T} {ts us : List T}
/-- what join asks and gives -/
def rTxtJoin (K : PySem.W.Frag) : V → List V → Hp → VK → Prop := fun x xs H Q => ∃ a p, ∃ ys : List Str, x = V.str a ∧ xs = [V.ref p] ∧ (SqL K H p (ys.map V.str) ∨ SqT K H p (ys.map V.str)) ∧ (ys.map (·.length)).sum + ys.length * a.length ≤ 16777216 ∧ Q (V.str (Txt.join a ys)) H
/-- a.join(a list of texts) -/
theorem eg_join {x : Str} {ys : List Str} (ho : EG S E o (.str x) E1) (he : EG S E1 e (.lst (ys.map T.str)) E2) (hz : (ys.map (·.length)).sum + ys.length * x.length ≤ 16777216)
    (h1 : ∀ env, starEach [e] env = [(false, eval e env)] := by intro _; rfl) (h2 : ∀ env, attributeBase o "join" env (eval o env) = eval o env := by intro _; rfl) (h3 : (apos.endLine == pos.line) = true := by rfl) : EG S E (.Call (.Attribute o "join" apos) [e] [] pos) (.str (Txt.join x ys)) E2 := fun W Z H σ Q st k =>
  R.mk (t := tM1 (rTxtJoin S.K) (R S W o) (R S W e)) (fun X hX => by rw [← hX.kk]; exact pe_join (hX.pe o) (hX.pe e) (h1 _) (h2 _) h3) (ho W Z H σ _ st fun v H1 Z1 g1 r1 => by
    cases rep_str.mp r1
    refine ⟨⟨x, rfl⟩, he W Z1 H1 σ _ g1.st fun v2 H2 Z2 g2 r2 => ?_⟩
    obtain ⟨d, vs, rfl, e1, e2⟩ := rep_lst.mp r2
    rw [strs_of e2] at e1
    exact ⟨x, d, ys, rfl, rfl, .inl (.inl (.inl (g2.st.zh _ _ e1))), hz, k _ _ _ (g1.trans g2) (rep_str.mpr rfl)⟩)
/-- the one text within the other -/
def inS (x y : Str) : Bool := !(Builtin.Str.occurrences y x 0 y.length 1).isEmpty
theorem opg_inS {x y : Str} : OpG S (fun v w H Q => ∃ i j, v = V.str i ∧ w = V.str j ∧ Q (V.bl (!(Builtin.Str.occurrences j i 0 j.length 1).isEmpty)) H) (.str x) (.str y) (.bl (inS x y)) := fun E Z H σ v w Q st r1 r2 k =>
  ⟨x, y, rep_str.mp r1, rep_str.mp r2, k _ _ _ (Go.refl st) (rep_bl.mpr rfl)⟩
theorem opg_ninS {x y : Str} : OpG S (fun v w H Q => ∃ i j, v = V.str i ∧ w = V.str j ∧ Q (V.bl (!(!(Builtin.Str.occurrences j i 0 j.length 1).isEmpty))) H) (.str x) (.str y) (.bl (!inS x y)) := fun E Z H σ v w Q st r1 r2 k =>
  ⟨x, y, rep_str.mp r1, rep_str.mp r2, k _ _ _ (Go.refl st) (rep_bl.mpr rfl)⟩
theorem eg_inS {x y : Str} (ha : EG S E a (.str x) E1) (hb : EG S E1 b (.str y) E2) (hm : behindInMarks .In b = false := by with_unfolding_all rfl) : EG S E (.Compare a [.In] [b] pos) (.bl (inS x y)) E2 := eg_cmp (fun _ _ _ => op_in_str) opg_inS ha hb hm
theorem tt_inS {x y : Str} (ha : EG S E a (.str x) E1) (hb : EG S E1 b (.str y) E2) (hm : behindInMarks .In b = false := by with_unfolding_all rfl) : TtG S E (.Compare a [.In] [b] pos) (inS x y) E2 := tg_cmp (fun _ _ _ => op_in_str) opg_inS ha hb hm
theorem tt_ninS {x y : Str} (ha : EG S E a (.str x) E1) (hb : EG S E1 b (.str y) E2) (hm : behindInMarks .NotIn b = false := by with_unfolding_all rfl) : TtG S E (.Compare a [.NotIn] [b] pos) (!inS x y) E2 := tg_cmp (fun _ _ _ => op_notin_str) opg_ninS ha hb hm
/-- xs.pop(), xs ours -/
theorem eg_pop {l : Nat} {x : Str} (vo : VarOk S l x) (h0 : E[l]? = some (.ow (.lst (ts ++ [t])))) (hbase : ∀ env, attributeBase (.Name x q) "pop" env (eval (.Name x q) env) = eval (.Name x q) env := by intro _; rfl) (hline : (apos.endLine == pos.line) = true := by rfl) : EG S E (.Call (.Attribute (.Name x q) "pop" apos) [] [] pos) t (E.set l (.ow (.lst ts))) := fun W Z H σ Q st k => by
  obtain ⟨c, ob, q1, q2, q3, q4⟩ := st.ow l _ h0
  cases ob <;> try exact q4.elim
  rename_i xs
  have q4 : Reps S.K Z (ts ++ [t]) xs := q4
  have hl : xs.length = ts.length + 1 := by rw [q4.length]; simp
  obtain ⟨v, hv, rv⟩ := q4.at (i := ts.length) (t := t) (by simp)
  refine R.mk (t := tBM0 S.K "list" rPop (tVar l)) (fun X hX => ?_) ⟨.ref c, q1, .inl ⟨rfl, xs, .inl (.inl q2)⟩, c, xs, v, rfl, rfl, q2, by rw [hl]; exact hv, k v _ Z (Go.wrote st h0 q1 ?_) rv⟩
  · have hs' := hX.sc
    rw [← hX.kk]
    obtain ⟨A, s0, H0, env, outer, stack, ex, pn, xe, rfl⟩ := hX.ex
    exact pe_bm0 PySem.F.plainAttrs_list PySem.F.slot_list_pop PySem.F.type_list_pop mt_pop (pe_var vo.hN (by rw [hs']; exact vo.vis) vo.h1 vo.h2) (hbase _) hline
  · have r : Reps S.K Z (List.take ts.length (ts ++ [t])) (List.take ts.length xs) := q4.take
    rw [List.take_left' rfl] at r
    have e : xs.dropLast = xs.take ts.length := by rw [List.dropLast_eq_take, hl]; rfl
    rw [e]
    exact r
/-- data read where it stands -/
theorem dp_at {n : Nat} {v : V} (h : DOk n t) (zh : Same Z H) (r : At K Z H t v) : Dp K H v (toD t) := by
  rcases r with r | ⟨c, ob, rfl, h1, h2, h3⟩
  · exact (dOk_spec n t h).2.2 zh r
  · cases t with
    | lst ts =>
      cases ob <;> try exact h3.elim
      rename_i xs
      cases n with
      | zero => exact (show False from h).elim
      | succ n =>
        refine .lst (.inl (.inl h1)) ?_
        have h3 : Reps K Z ts xs := h3
        have h : ∀ t ∈ ts, DOk n t := h
        have all : ∀ (ts : List T) (vs : List V), (∀ t ∈ ts, DOk n t) → Reps K Z ts vs → DpAll K H vs (toDs ts) := fun ts => by
          induction ts with
          | nil => exact fun vs _ r => by rw [r.unnil]; exact .nil
          | cons t ts ih =>
            intro vs h r
            obtain ⟨v, vr, rfl, r1, r2⟩ := r.uncons
            exact .cons ((dOk_spec n t (h t List.mem_cons_self)).2.2 zh r1) (ih vr (fun u hu => h u (List.mem_cons_of_mem _ hu)) r2)
        exact all ts xs h h3
    | _ => first | (unfold ORep at h3; cases ob <;> exact h3.elim) | (cases n <;> exact (show False from h).elim)
theorem cg_eqA {n : Nat} (ha : DA S E a E1 E2 t) (hb : DA S E1 b E2 E2 u) (h1 : DOk n t) (h2 : DOk n u) (hn : n ≤ 64 := by decide) : CG S E .Eq a b (teq t u) E2 := fun W Z H σ Q st k X hX pins s I =>
  ha.run hX st I fun u1 s1 v1 H1 Z1 I1 rv1 g1 at1 => hb.run hX g1.st I1 fun u2 s2 v2 H2 Z2 I2 rv2 g2 at2 => op_eqD hX.room.units pins s2 σ H2 v1 v2 u1 u2 Q I2 rv1 rv2 (by
    rw [hX.kk]
    exact ⟨toD t, toD u, dp_at h1 g2.st.zh (at1 Z2 H2 g2), dp_at h2 g2.st.zh (at2 Z2 H2 (Go.refl g2.st)), dOk_shaped h1 hn, dOk_shaped h2 hn, k H2 Z2 (g1.trans g2)⟩)
theorem cg_neA {n : Nat} (ha : DA S E a E1 E2 t) (hb : DA S E1 b E2 E2 u) (h1 : DOk n t) (h2 : DOk n u) (hn : n ≤ 64 := by decide) : CG S E .NotEq a b (!teq t u) E2 := fun W Z H σ Q st k X hX pins s I =>
  ha.run hX st I fun u1 s1 v1 H1 Z1 I1 rv1 g1 at1 => hb.run hX g1.st I1 fun u2 s2 v2 H2 Z2 I2 rv2 g2 at2 => op_neD hX.room.units pins s2 σ H2 v1 v2 u1 u2 Q I2 rv1 rv2 (by
    rw [hX.kk]
    exact ⟨toD t, toD u, dp_at h1 g2.st.zh (at1 Z2 H2 g2), dp_at h2 g2.st.zh (at2 Z2 H2 (Go.refl g2.st)), dOk_shaped h1 hn, dOk_shaped h2 hn, k H2 Z2 (g1.trans g2)⟩)
end
/-! ### dicts with int and text keys: drawn out; made of pairs -/
section
variable {K : PySem.W.Frag} {Z Z' H H' : Hp} {σ : St} {E E1 E2 : List Ent} {S : SS} {e : Expr} {p pos : Pos} {l : List (Key × T)}
theorem drawn_dK : Drawn S (dKey l) (l.map fun x => kT x.1) := fun W X hX pins σ Z H s v I zh r => by
  obtain ⟨a, ob, kv, rfl, hz, kr⟩ := rep_dK r
  obtain ⟨sz, lo, vs, rk, dd⟩ := dk_rd I.hok (.inr ⟨ob, zh _ _ hz⟩)
  obtain ⟨es, ep, raw, esz, ent⟩ := dd.raw
  have hk : kv.length = vs.length := Paired.length rk
  have hl := krel_len kr
  refine ⟨a, "dict", a, es.size, _, _, rfl, PySem.KdlSrc.rawDict lo, raw, by rw [List.length_map, esz, ← hk, hl], by rw [List.length_map, ← hl]; exact sz, fun acc hacc => ⟨kv.map fun x => kV x.1, ?_, ?_⟩⟩
  · refine vals_of_at (by rw [List.length_map, Array.length_toList (xs := acc), hacc.1, esz, hk]) fun j x u h1 h2 => ?_
    rw [Array.getElem?_toList] at h2
    obtain ⟨hi, eu⟩ := hacc.2 j u h2
    rw [List.getElem?_map] at h1
    obtain ⟨y, hy, rfl⟩ := Option.map_eq_some_iff.mp h1
    obtain ⟨z, hz, ek, _⟩ := L2.paired_get rk hy
    obtain ⟨ik, _⟩ := ent j hi z.1 z.2 hz
    rw [eu, ek]
    exact keyIs_rel ik
  · have all : ∀ {l : List (Key × T)} {kv : List (Key × V)}, KRel S.K Z l kv → Reps S.K Z (l.map fun x => kT x.1) (kv.map fun x => kV x.1) := fun {l kv} h => by
      unfold KRel at h
      induction h with
      | nil => exact .nil
      | cons a t ih =>
        refine .cons ?_ ih
        show Rep S.K Z (kT _) (kV _)
        rw [a.1]
        exact kT_rep
    exact all kr
/-- (key, value) -/
def pairK (x : Key × T) : T := .tup [kT x.1, x.2]
def mergeT (l ps : List (Key × T)) : List (Key × T) := ps.foldl (fun l x => putN l x.1 x.2) l
theorem pairsK_of : ∀ {ps : List (Key × T)} {vs : List V}, Reps K Z (ps.map pairK) vs → ∃ (as : List Addr) (kvs : List (Key × V)), vs = as.map V.ref ∧ Paired (fun a kv => Z a = some (.tup [kV kv.1, kv.2])) as kvs ∧ KRel K Z ps kvs
  | [], _, h => ⟨[], [], by rw [h.unnil]; rfl, .nil, by unfold KRel; exact .nil⟩
  | x :: ps, _, h => by
    obtain ⟨v, r, rfl, h1, h2⟩ := h.uncons
    obtain ⟨a, vs, rfl, h3, h4⟩ := rep_tup.mp h1
    obtain ⟨y, z, rfl, r1, r2⟩ := reps_two h4
    obtain ⟨as, kvs, rfl, p1, p2⟩ := pairsK_of h2
    refine ⟨a :: as, (x.1, z) :: kvs, rfl, .cons (by rw [h3, rep_kT r1]) p1, ?_⟩
    unfold KRel at p2 ⊢
    exact .cons ⟨rfl, r2⟩ p2
theorem krel_merge {ps l : List (Key × T)} {kvs kv : List (Key × V)} (h : KRel K Z ps kvs) (h0 : KRel K Z l kv) : KRel K Z (mergeT l ps) (mergeK kv kvs) := by
  unfold KRel at h
  induction h generalizing l kv with
  | nil => exact h0
  | @cons a b ps kvs q t ih =>
    have := ih (krel_put h0 q.2 (k := a.1))
    rw [← q.1] at this
    rw [q.1] at this
    show KRel K Z (mergeT (putN l a.1 a.2) ps) (mergeK (putK kv b.1 b.2) kvs)
    rw [q.1]
    exact this
theorem eo_dictP {ps : List (Key × T)} (g : GlOk S "dict") (hm : S.mg "dict" = none) (ha : EG S E e (.lst (ps.map pairK)) E1) (he : ∀ env, starEach [e] env = (false, eval e env) :: starEach [] env := by intro _; rfl) : EO S E (.Call (.Name "dict" p) [e] [] pos) (dKey (mergeT [] ps)) E1 :=
  eo_callTy (r := fun xs H Q => ∃ (a : Addr) (ps : List Addr) (kvs : List (Key × V)), xs = [.ref a] ∧ SqL S.K H a (ps.map V.ref) ∧ Paired (fun p kv => SqT S.K H p [kV kv.1, kv.2]) ps kvs ∧ ∀ p, H p = none → Q (.ref p) (upd H p (.dK (mergeK [] kvs)))) (fun W X hX => by rw [← hX.kk]; exact call_dictP hX.calm) (fun Z H σ E vs Q st r k => by
    obtain ⟨v, rfl, h⟩ := reps_one r
    obtain ⟨a, vs, rfl, q1, q2⟩ := rep_lst.mp h
    obtain ⟨as, kvs, rfl, pr, kr⟩ := pairsK_of q2
    exact ⟨a, as, kvs, rfl, .inl (.inl (st.zh _ _ q1)), Paired.imp' (fun a b z => .inl (.inl (st.zh _ _ z))) pr, fun b hb => k b _ hb (dK_orep (krel_merge kr (show KRel S.K Z [] [] by unfold KRel; exact .nil)))⟩) g hm (by decide +kernel) (eas_cons ha eas_nil he) (by decide) he (by intro _; rfl)
end
end Cw
end L2

set_option Elab.async false
set_option linter.all false
set_option maxRecDepth 100000
set_option maxHeartbeats 2000000
namespace L2
namespace Cw
open PySem PySem.Spec PyProof.Rows PySem.SeqAt
section
variable {K : PySem.W.Frag} {Z Z' H H' : Hp} {σ : St} {E E1 E2 : List Ent} {S : SS} {e : Expr} {p pos : Pos} {q t : T} {ts : List T}
/-- len(a text) -/
theorem eg_lenStr {z : Str} (g : GlOk S "len") (hm : S.mg "len" = none) (ha : EG S E e (.str z) E1) (hz : z.length ≤ 16777216) (he : ∀ env, starEach [e] env = (false, eval e env) :: starEach [] env := by intro _; rfl) : EG S E (.Call (.Name "len" p) [e] [] pos) (.int (z.length : Nat)) E1 :=
  eg_callB (r := fun xs H Q => ∃ z : Str, xs = [V.str z] ∧ z.length ≤ sizeLine ∧ Q (V.int (z.length : Nat)) H) (fun W X hX => call_len_str) (fun E Z H σ vs Q st r k => by
    obtain ⟨v, rfl, h⟩ := reps_one r
    exact ⟨z, by rw [rep_str.mp h], by rw [sizeLine_eq]; exact hz, k _ _ _ (Go.refl st) (rep_int.mpr rfl)⟩) g hm boot_len (eas_cons ha eas_nil he) (by decide) he (by intro _; rfl)
/-- tuple(a list | a tuple) -/
theorem eg_tupleQ (hq : q = .lst ts ∨ q = .tup ts) (g : GlOk S "tuple") (hm : S.mg "tuple" = none) (ha : EG S E e q E1) (he : ∀ env, starEach [e] env = (false, eval e env) :: starEach [] env := by intro _; rfl) : EG S E (.Call (.Name "tuple" p) [e] [] pos) (.tup ts) E1 := by
  rcases hq with rfl | rfl
  · exact eg_tupleL g hm ha he
  · exact eg_tupleT g hm ha he
theorem seq_of (hq : q = .lst ts ∨ q = .tup ts) : SeqT q ts := by
  rcases hq with rfl | rfl
  · exact .lst
  · exact .tup
end
end Cw
end L2

set_option Elab.async false
set_option linter.all false
set_option maxRecDepth 100000
set_option maxHeartbeats 2000000
namespace L2
namespace Cw
open PySem PySem.Spec PyProof.Rows PySem.SeqAt
/-! ### typed turns -/
section
variable {S : SS} {E : List Ent} {vs : List Nat} {tg kx vx : Expr} {α : Type} {toT : α → T} {vf : α → T}
theorem DcTurns.mapK {kf : α → Key} : ∀ {xs : List α} {l : List (Key × T)}, l.length + xs.length ≤ 16777216 → (∀ x ∈ xs, ∃ Ea Eb Ec ws, AG S (wipeE E vs) tg (toT x) Ea ws ∧ (∀ j ∈ ws, j ∈ vs) ∧ EG S Ea kx (kT (kf x)) Eb ∧ EG S Eb vx (vf x) Ec ∧ wipeE Ec vs = wipeE E vs) → DcTurns S vs tg [] kx vx E (xs.map toT) (dKey l) (dKey (mergeT l (xs.map fun x => (kf x, vf x)))) E
  | [], l, _, _ => .nil
  | x :: xs, l, hl, h => by
    obtain ⟨Ea, Eb, Ec, ws, h1, h2, h3, h4, h5⟩ := h x List.mem_cons_self
    have q := length_putN (l := l) (k := kf x) (t := vf x)
    rw [List.length_cons] at hl
    exact .take h1 h2 tgs_nil h3 h4 (stoK (by omega)) h5 (fun _ _ => rfl) (DcTurns.mapK (l := putN l (kf x) (vf x)) (by omega) fun y hy => h y (List.mem_cons_of_mem _ hy))
theorem DcTurns.mapN {kf : α → List NestedKey} : ∀ {xs : List α} {l : List (NestedKey × T)}, l.length + xs.length ≤ 16777216 → (∀ x ∈ xs, (NestedKey.tup (kf x)).depth ≤ 8) → (∀ x ∈ xs, ∃ Ea Eb Ec ws, AG S (wipeE E vs) tg (toT x) Ea ws ∧ (∀ j ∈ ws, j ∈ vs) ∧ EG S Ea kx (keyT (.tup (kf x))) Eb ∧ EG S Eb vx (vf x) Ec ∧ wipeE Ec vs = wipeE E vs) → DcTurns S vs tg [] kx vx E (xs.map toT) (dN S.w l) (dN S.w (mergeN l (xs.map fun x => (kf x, vf x)))) E
  | [], l, _, _, _ => .nil
  | x :: xs, l, hl, hd, h => by
    obtain ⟨Ea, Eb, Ec, ws, h1, h2, h3, h4, h5⟩ := h x List.mem_cons_self
    have q := length_putN (l := l) (k := NestedKey.tup (kf x)) (t := vf x)
    rw [List.length_cons] at hl
    exact .take h1 h2 tgs_nil h3 h4 (stoN (hd x List.mem_cons_self) (by omega)) h5 (fun _ _ => rfl) (DcTurns.mapN (l := putN l (.tup (kf x)) (vf x)) (by omega) (fun y hy => hd y (List.mem_cons_of_mem _ hy)) fun y hy => h y (List.mem_cons_of_mem _ hy))
end
section
variable {S : SS} {E E0 : List Ent} {scope : Scope} {i j : Nat} {x y : Str} {px py pt : Pos} {iter kx vx : Expr} {α : Type} {xs : List α} {toT vf : α → T}
theorem set_put {e : Ent} : (wipeE E [i]).set i e = E.set i e := by show (E.set i .no).set i _ = _; rw [List.set_set]
/-- {k: v for x in iter}, int and text keys -/
theorem dcK {kf : α → Key} (ok : BlkOk S.N S.sc scope [(x, i)]) (hN : S.N.Nodup) (so : StoOk (S.blk scope) i x) (hl : i < E.length) (no : ∀ t, E[i]? ≠ some (.ow t)) (hz : xs.length ≤ 16777216) (hi : IG S E0 (.Name x px) iter (xs.map toT) E)
    (hk : ∀ a ∈ xs, EG (S.blk scope) (E.set i (.sh (toT a))) kx (kT (kf a)) (E.set i (.sh (toT a)))) (hv : ∀ a ∈ xs, EG (S.blk scope) (E.set i (.sh (toT a))) vx (vf a) (E.set i (.sh (toT a)))) : DcD S E0 E (.Name x px) iter kx vx [] scope (dKey (mergeT [] (xs.map fun a => (kf a, vf a)))) := by
  refine ⟨_, _, E, _, _, ok, hN, hi, (fun k hk t => ?_), dicK_new, dicK_new_rep, (DcTurns.mapK (by simpa using hz) fun a ha => ⟨_, (wipeE E [i]).set i (.sh (toT a)), (wipeE E [i]).set i (.sh (toT a)), [i], ag_name so (by rw [wipeE_length]; exact hl), fun k hk => hk, ?_, ?_, wipeE_set⟩)⟩
  · have e : k = i := by simpa using hk
    subst e; exact no t
  · show EG _ ((wipeE E [i]).set i (.sh (toT a))) kx _ ((wipeE E [i]).set i (.sh (toT a)))
    rw [set_put]; exact hk a ha
  · show EG _ ((wipeE E [i]).set i (.sh (toT a))) vx _ ((wipeE E [i]).set i (.sh (toT a)))
    rw [set_put]; exact hv a ha
/-- {k: v for x in iter}, the keys tuples -/
theorem dcN {kf : α → List NestedKey} (ok : BlkOk S.N S.sc scope [(x, i)]) (hN : S.N.Nodup) (so : StoOk (S.blk scope) i x) (hl : i < E.length) (no : ∀ t, E[i]? ≠ some (.ow t)) (hz : xs.length ≤ 16777216) (hd : ∀ a ∈ xs, (NestedKey.tup (kf a)).depth ≤ 8) (hi : IG S E0 (.Name x px) iter (xs.map toT) E)
    (hk : ∀ a ∈ xs, EG (S.blk scope) (E.set i (.sh (toT a))) kx (keyT (.tup (kf a))) (E.set i (.sh (toT a)))) (hv : ∀ a ∈ xs, EG (S.blk scope) (E.set i (.sh (toT a))) vx (vf a) (E.set i (.sh (toT a)))) : DcD S E0 E (.Name x px) iter kx vx [] scope (dN S.w (mergeN [] (xs.map fun a => (kf a, vf a)))) := by
  refine ⟨_, _, E, _, _, ok, hN, hi, (fun k hk t => ?_), dicN_new, dicN_new_rep, (DcTurns.mapN (by simpa using hz) hd fun a ha => ⟨_, (wipeE E [i]).set i (.sh (toT a)), (wipeE E [i]).set i (.sh (toT a)), [i], ag_name so (by rw [wipeE_length]; exact hl), fun k hk => hk, ?_, ?_, wipeE_set⟩)⟩
  · have e : k = i := by simpa using hk
    subst e; exact no t
  · show EG _ ((wipeE E [i]).set i (.sh (toT a))) kx _ ((wipeE E [i]).set i (.sh (toT a)))
    rw [set_put]; exact hk a ha
  · show EG _ ((wipeE E [i]).set i (.sh (toT a))) vx _ ((wipeE E [i]).set i (.sh (toT a)))
    rw [set_put]; exact hv a ha
/-- {k: v for x, y in iter}, the keys tuples -/
theorem dcN2 {k : Nat} {t u : α → T} {kf : α → List NestedKey} (hq : ∀ a, toT a = .tup [t a, u a] ∨ toT a = .wtup [t a, u a]) (ok : BlkOk S.N S.sc scope [(x, i), (y, j)]) (hN : S.N.Nodup) (hij : i ≠ j) (so1 : StoOk (S.blk scope) i x) (so2 : StoOk (S.blk scope) j y) (hl : i < E.length) (hl2 : j < E.length) (no : ∀ t, E[i]? ≠ some (.ow t)) (no2 : ∀ t, E[j]? ≠ some (.ow t)) (hz : xs.length ≤ 16777216) (hd : ∀ a ∈ xs, (NestedKey.tup (kf a)).depth ≤ 8) (hi : IG S E0 (.Tuple [.Name x px, .Name y py] k pt) iter (xs.map toT) E)
    (hk : ∀ a ∈ xs, EG (S.blk scope) ((E.set i (.sh (t a))).set j (.sh (u a))) kx (keyT (.tup (kf a))) ((E.set i (.sh (t a))).set j (.sh (u a)))) (hv : ∀ a ∈ xs, EG (S.blk scope) ((E.set i (.sh (t a))).set j (.sh (u a))) vx (vf a) ((E.set i (.sh (t a))).set j (.sh (u a)))) : DcD S E0 E (.Tuple [.Name x px, .Name y py] k pt) iter kx vx [] scope (dN S.w (mergeN [] (xs.map fun a => (kf a, vf a)))) := by
  refine ⟨_, _, E, _, _, ok, hN, hi, (fun k hk t => ?_), dicN_new, dicN_new_rep, (DcTurns.mapN (by simpa using hz) hd fun a ha => ⟨_, (((wipeE E [i, j]).set i (.sh (t a))).set j (.sh (u a))), (((wipeE E [i, j]).set i (.sh (t a))).set j (.sh (u a))), [i, j], ag_two (hq a) so1 so2 (by rw [wipeE_length]; exact hl) (by rw [wipeE_length]; exact hl2), fun k hk => hk, ?_, ?_, wipeE2_set hij⟩)⟩
  · simp at hk
    rcases hk with rfl | rfl
    · exact no t
    · exact no2 t
  · show EG _ (((wipeE E [i, j]).set i (.sh (t a))).set j (.sh (u a))) kx _ (((wipeE E [i, j]).set i (.sh (t a))).set j (.sh (u a)))
    rw [wipeE2_put hij]; exact hk a ha
  · show EG _ (((wipeE E [i, j]).set i (.sh (t a))).set j (.sh (u a))) vx _ (((wipeE E [i, j]).set i (.sh (t a))).set j (.sh (u a)))
    rw [wipeE2_put hij]; exact hv a ha
end
section
variable {S : SS} {κ : Type} {D : List (κ × T) → T} {j : Nat} {tg : Expr} {body : List Stmt} {α : Type} {toT : α → T}
theorem PFor.upto {Ev : List α → List Ent} {Lv : List α → List (κ × List T)} {xs : List α} (h : ∀ pre x post, pre ++ x :: post = xs → ∃ Fa ws, (∀ d, AG S ((Ev pre).set j (.ow d)) tg (toT x) (Fa.set j (.ow d)) ws) ∧ PvB S D j Fa (Lv pre) body (Ev (pre ++ [x])) (Lv (pre ++ [x]))) : PFor S D j tg body (Ev []) (Lv []) (xs.map toT) (Ev xs) (Lv xs) := by
  have all : ∀ (post pre : List α), pre ++ post = xs → PFor S D j tg body (Ev pre) (Lv pre) (post.map toT) (Ev xs) (Lv xs) := fun post => by
    induction post with
    | nil => intro pre e; rw [List.append_nil] at e; subst e; exact .nil
    | cons x post ih =>
      intro pre e
      obtain ⟨Fa, ws, h1, h2⟩ := h pre x post e
      exact .step h1 h2 (ih (pre ++ [x]) (by rw [← e]; simp))
  exact all xs [] rfl
/-- the same, told by what holds of the state -/
theorem PFor.some {G : List α → List Ent → Prop} {Lv : List α → List (κ × List T)} {xs : List α} (h : ∀ pre x post F, pre ++ x :: post = xs → G pre F → ∃ Fa ws F1, (∀ d, AG S (F.set j (.ow d)) tg (toT x) (Fa.set j (.ow d)) ws) ∧ PvB S D j Fa (Lv pre) body F1 (Lv (pre ++ [x])) ∧ G (pre ++ [x]) F1) {F : List Ent} (g : G [] F) : ∃ F', PFor S D j tg body F (Lv []) (xs.map toT) F' (Lv xs) ∧ G xs F' := by
  have all : ∀ (post pre : List α) (F : List Ent), pre ++ post = xs → G pre F → ∃ F', PFor S D j tg body F (Lv pre) (post.map toT) F' (Lv xs) ∧ G xs F' := fun post => by
    induction post with
    | nil => intro pre F e g; rw [List.append_nil] at e; subst e; exact ⟨F, .nil, g⟩
    | cons x post ih =>
      intro pre F e g
      obtain ⟨Fa, ws, F1, h1, h2, h3⟩ := h pre x post F e g
      obtain ⟨F', r, g'⟩ := ih (pre ++ [x]) F1 (by rw [← e]; simp) h3
      exact ⟨F', .step h1 h2 r, g'⟩
  exact all xs [] F rfl g
end
section
variable {S : SS} {tg : Expr} {body : List Stmt} {α : Type} {toT : α → T}
theorem ForR.some {G : List α → List Ent → Prop} {xs : List α} (h : ∀ pre x post F, pre ++ x :: post = xs → G pre F → ∃ Fa ws F1, AG S F tg (toT x) Fa ws ∧ SGs S Fa body (.nx F1) ∧ G (pre ++ [x]) F1) {F : List Ent} (g : G [] F) : ∃ F', ForR S tg body F (xs.map toT) (.nx F') ∧ G xs F' := by
  have all : ∀ (post pre : List α) (F : List Ent), pre ++ post = xs → G pre F → ∃ F', ForR S tg body F (post.map toT) (.nx F') ∧ G xs F' := fun post => by
    induction post with
    | nil => intro pre F e g; rw [List.append_nil] at e; subst e; exact ⟨F, .nil, g⟩
    | cons x post ih =>
      intro pre F e g
      obtain ⟨Fa, ws, F1, h1, h2, h3⟩ := h pre x post F e g
      obtain ⟨F', r, g'⟩ := ih (pre ++ [x]) F1 (by rw [← e]; simp) h3
      exact ⟨F', .step h1 h2 r, g'⟩
  exact all xs [] F rfl g
end
theorem enumT_zip {α : Type} (f : α → T) (xs : List α) : enumT (xs.map f) = xs.zipIdx.map fun p => T.tup [.int (p.2 : Nat), f p.1] := by
  unfold enumT
  refine List.ext_getElem? fun i => ?_
  rw [List.getElem?_mapIdx, List.getElem?_map, List.getElem?_map, List.getElem?_zipIdx]
  cases xs[i]? <;> simp
end Cw
end L2

set_option Elab.async false
set_option linter.all false
set_option maxRecDepth 100000
set_option maxHeartbeats 2000000
namespace L2
namespace Cw
open PySem PySem.Spec PyProof.Rows PySem.SeqAt
/-! ### what is sorted, typed -/
def srtBy {α : Type} (f : α → T) (xs : List α) : List α := xs.mergeSort fun a b => PySem.W.dataLe false toD (f a) (f b)
section
variable {α : Type} {f : α → T} {xs ys : List α}
theorem sortT_map : sortT (xs.map f) = (srtBy f xs).map f := by
  unfold sortT srtBy
  exact (List.map_mergeSort (f := f) (l := xs) (s := PySem.W.dataLe false toD) (r := fun a b => PySem.W.dataLe false toD (f a) (f b)) fun _ _ _ _ => rfl).symm
theorem srtBy_perm : (srtBy f xs).Perm xs := List.mergeSort_perm _ _
theorem srtBy_mem {a : α} : a ∈ srtBy f xs ↔ a ∈ xs := List.mem_mergeSort
theorem srtBy_len : (srtBy f xs).length = xs.length := List.length_mergeSort xs
theorem srtBy_pair : (srtBy f xs).Pairwise fun a b => PySem.W.dataLe false toD (f a) (f b) = true := by
  have q := PySem.W.sortLe_total (listOrd itemOrd) false fun t : T => PySem.W.keyToks (toD t)
  refine List.pairwise_mergeSort (fun a b c => q.trans (f a) (f b) (f c)) (fun a b => ?_) xs
  rcases q.total (f a) (f b) with h | h
  · exact Bool.or_eq_true_iff.mpr (.inl h)
  · exact Bool.or_eq_true_iff.mpr (.inr h)
theorem srtBy_self (h : xs.Pairwise fun a b => PySem.W.dataLe false toD (f a) (f b) = true) : srtBy f xs = xs := List.mergeSort_of_pairwise h
theorem srtBy_eq (as : ∀ a ∈ xs, ∀ b ∈ ys, PySem.W.dataLe false toD (f a) (f b) = true → PySem.W.dataLe false toD (f b) (f a) = true → a = b) (h : ys.Pairwise fun a b => PySem.W.dataLe false toD (f a) (f b) = true) (p : xs.Perm ys) : srtBy f xs = ys :=
  List.Perm.eq_of_pairwise (fun a b ha hb => as a (srtBy_mem.mp ha) b hb) srtBy_pair h (srtBy_perm.trans p)
end
/-! ### squares in order -/
def sq2 (p : Int × Int) : T := .tup [.int p.1, .int p.2]
def leSq (p q : Int × Int) : Bool := decide (p.1 < q.1) || (decide (p.1 = q.1) && decide (p.2 ≤ q.2))
theorem dataLe_sq (p q : Int × Int) : PySem.W.dataLe false toD (sq2 p) (sq2 q) = leSq p q := by
  obtain ⟨a, b⟩ := p
  obtain ⟨c, d⟩ := q
  show (!PyProof.Rows.lexLt itemOrd [.inl 1, .inl c, .inl 1, .inl d, .inl 0] [.inl 1, .inl a, .inl 1, .inl b, .inl 0]) = _
  simp only [PyProof.Rows.lexLt, itemOrd, itemLt, leSq]
  by_cases h1 : a < c
  · have h2 : ¬ c < a := by omega
    simp [h1, h2]
  · by_cases h2 : c < a
    · have h3 : ¬ a = c := by omega
      simp [h1, h2, h3]
    · have h3 : a = c := by omega
      subst h3
      by_cases h4 : d < b
      · have h5 : ¬ b ≤ d := by omega
        simp [h4, h5]
      · have h5 : b ≤ d := by omega
        simp [h4, h5]
theorem leSq_as {p q : Int × Int} (h1 : leSq p q = true) (h2 : leSq q p = true) : p = q := by
  obtain ⟨a, b⟩ := p
  obtain ⟨c, d⟩ := q
  simp only [leSq, Bool.or_eq_true, Bool.and_eq_true, decide_eq_true_eq] at h1 h2
  have e1 : a = c := by omega
  have e2 : b = d := by omega
  rw [e1, e2]
theorem srt_sq {xs ys : List (Int × Int)} (hx : xs.Nodup) (hy : ys.Nodup) (h : ys.Pairwise fun a b => leSq a b = true) (m : ∀ a, a ∈ xs ↔ a ∈ ys) : srtBy sq2 xs = ys := by
  refine srtBy_eq (fun a _ b _ h1 h2 => leSq_as (by rw [← dataLe_sq]; exact h1) (by rw [← dataLe_sq]; exact h2)) ?_ ((List.perm_ext_iff_of_nodup hx hy).mpr m)
  exact h.imp fun {a b} q => by rw [dataLe_sq]; exact q
theorem srtok_sq (xs : List (Int × Int)) : SrtOk (xs.map sq2) where
  dok := fun t ht => by
    obtain ⟨p, _, rfl⟩ := List.mem_map.mp ht
    intro u hu
    simp at hu
    rcases hu with rfl | rfl <;> trivial
  alike := fun d hd e he => by
    obtain ⟨t, ht, rfl⟩ := List.mem_map.mp hd
    obtain ⟨u, hu, rfl⟩ := List.mem_map.mp he
    obtain ⟨p, _, rfl⟩ := List.mem_map.mp ht
    obtain ⟨q, _, rfl⟩ := List.mem_map.mp hu
    rfl
  able := .inl fun d hd => by
    obtain ⟨t, ht, rfl⟩ := List.mem_map.mp hd
    obtain ⟨p, _, rfl⟩ := List.mem_map.mp ht
    exact ⟨_, _, rfl⟩
theorem srtok_str (xs : List Str) (h : ∀ s ∈ xs, PyData.strOk s = true) : SrtOk (xs.map T.str) where
  dok := fun t ht => by
    obtain ⟨p, hp, rfl⟩ := List.mem_map.mp ht
    exact h p hp
  alike := fun d hd e he => by
    obtain ⟨t, ht, rfl⟩ := List.mem_map.mp hd
    obtain ⟨u, hu, rfl⟩ := List.mem_map.mp he
    obtain ⟨p, _, rfl⟩ := List.mem_map.mp ht
    obtain ⟨q, _, rfl⟩ := List.mem_map.mp hu
    rfl
  able := .inr fun d hd => by
    obtain ⟨t, ht, rfl⟩ := List.mem_map.mp hd
    obtain ⟨p, _, rfl⟩ := List.mem_map.mp ht
    exact ⟨(fun z => nomatch z), (fun _ z => nomatch z)⟩
end Cw
end L2

set_option Elab.async false
set_option linter.all false
set_option maxRecDepth 100000
set_option maxHeartbeats 2000000
namespace L2
namespace Cw
open PySem PySem.Spec PyProof.Rows PySem.SeqAt
/-! ### of lists kept under keys -/
theorem addTo_keys : ∀ (l : List (Key × List T)) (k : Key) (t : T), (k ∈ l.map (·.1) → (addTo l k t).map (·.1) = l.map (·.1)) ∧ (k ∉ l.map (·.1) → (addTo l k t).map (·.1) = l.map (·.1) ++ [k])
  | [], k, t => ⟨fun h => absurd h List.not_mem_nil, fun _ => rfl⟩
  | p :: l, k, t => by
    have ih := addTo_keys l k t
    unfold addTo
    by_cases h : p.1 = k
    · rw [if_pos h]
      exact ⟨fun _ => rfl, fun n => absurd (by rw [← h]; exact List.mem_map_of_mem List.mem_cons_self) n⟩
    · rw [if_neg h, List.map_cons, List.map_cons]
      have h' : ¬ k = p.1 := fun z => h z.symm
      refine ⟨fun m => ?_, fun n => ?_⟩
      · rcases List.mem_cons.mp m with z | z
        · exact absurd z h'
        · rw [ih.1 z]
      · rw [ih.2 fun z => n (List.mem_cons_of_mem _ z)]; rfl
theorem addTo_nodup {l : List (Key × List T)} {k : Key} {t : T} (h : (l.map (·.1)).Nodup) : ((addTo l k t).map (·.1)).Nodup := by
  by_cases n : k ∈ l.map (·.1)
  · rw [(addTo_keys l k t).1 n]; exact h
  · rw [(addTo_keys l k t).2 n]
    exact List.nodup_append.mpr ⟨h, by simp, fun x hx y hy e => n (by rw [List.mem_singleton] at hy; rw [← hy, ← e]; exact hx)⟩
/-- how many things are kept -/
def wtL (l : List (Key × List T)) : Nat := (l.map fun p => 1 + p.2.length).sum
theorem wt_add : ∀ (l : List (Key × List T)) (k : Key) (t : T), wtL (addTo l k t) ≤ wtL l + 2
  | [], k, t => by simp [addTo, wtL]
  | p :: l, k, t => by
    have ih := wt_add l k t
    unfold addTo
    split
    · simp only [wtL, List.map_cons, List.sum_cons, List.length_append, List.length_singleton]; omega
    · simp only [wtL, List.map_cons, List.sum_cons] at ih ⊢; omega
theorem wt_len : ∀ (l : List (Key × List T)), l.length ≤ wtL l
  | [] => Nat.le_refl _
  | p :: l => by have := wt_len l; simp only [wtL, List.map_cons, List.sum_cons, List.length_cons] at this ⊢; omega
theorem wt_each : ∀ (l : List (Key × List T)), ∀ p ∈ l, p.2.length ≤ wtL l
  | p :: l, q, h => by
    have ih := wt_each l
    obtain rfl | h := List.mem_cons.mp h
    · simp only [wtL, List.map_cons, List.sum_cons]; omega
    · have := ih q h; simp only [wtL, List.map_cons, List.sum_cons] at this ⊢; omega
/-- what stands under a key -/
def under : List (Key × List T) → Key → List T
  | [], _ => []
  | p :: l, k => if p.1 = k then p.2 else under l k
theorem under_add : ∀ (l : List (Key × List T)) (k : Key) (t : T) (j : Key), under (addTo l k t) j = if j = k then under l j ++ [t] else under l j
  | [], k, t, j => by
    simp only [addTo, under]
    by_cases h : k = j
    · subst h; simp
    · rw [if_neg h, if_neg (fun z => h z.symm)]
  | p :: l, k, t, j => by
    unfold addTo
    by_cases h : p.1 = k
    · rw [if_pos h]
      subst h
      simp only [under]
      by_cases h2 : p.1 = j
      · subst h2; simp
      · rw [if_neg h2, if_neg h2, if_neg (fun z => h2 z.symm)]
    · rw [if_neg h]
      simp only [under]
      by_cases h2 : p.1 = j
      · subst h2; simp [h]
      · rw [if_neg h2, if_neg h2]; exact under_add l k t j
theorem getN_lsL : ∀ {l : List (Key × List T)} {p : Key × List T}, (l.map (·.1)).Nodup → p ∈ l → getN (lsL l) p.1 = some (.lst p.2) ∧ under l p.1 = p.2
  | q :: l, p, nd, h => by
    simp only [List.map_cons, List.nodup_cons] at nd
    have e : lsL (q :: l) = (q.1, .lst q.2) :: lsL l := rfl
    rw [e, getN_cons]
    simp only [under]
    obtain rfl | h := List.mem_cons.mp h
    · rw [if_pos rfl, if_pos rfl]; exact ⟨rfl, rfl⟩
    · have ne : ¬ q.1 = p.1 := fun z => nd.1 (by rw [z]; exact List.mem_map_of_mem h)
      rw [if_neg ne, if_neg ne]; exact getN_lsL nd.2 h
theorem mergeT_new : ∀ (ps l : List (Key × T)), ((l ++ ps).map (·.1)).Nodup → mergeT l ps = l ++ ps
  | [], l, _ => (List.append_nil l).symm
  | p :: ps, l, h => by
    have no : getN l p.1 = none := by
      unfold getN
      rw [Option.map_eq_none_iff, List.find?_eq_none]
      intro q hq z
      rw [List.map_append, List.map_cons] at h
      have d := (List.nodup_append.mp h).2.2 q.1 (List.mem_map_of_mem hq) p.1 List.mem_cons_self
      exact d (of_decide_eq_true z)
    show mergeT (putN l p.1 p.2) ps = _
    rw [putN_new no, mergeT_new ps (l ++ [p]) (by rw [List.append_assoc]; exact h), List.append_assoc]
    rfl
theorem putN_newN {m : List (NestedKey × T)} {k : NestedKey} {t : T} (h : getN m k = none) : putN m k t = m ++ [(k, t)] := by
  unfold putN
  rw [h]
  rfl
theorem mergeN_new : ∀ (ps : List (List NestedKey × T)) (l : List (NestedKey × T)), ((l ++ ps.map fun p => (NestedKey.tup p.1, p.2)).map (·.1)).Nodup → mergeN l ps = l ++ ps.map fun p => (NestedKey.tup p.1, p.2)
  | [], l, _ => (List.append_nil l).symm
  | p :: ps, l, h => by
    have no : getN l (.tup p.1) = none := by
      unfold getN
      rw [Option.map_eq_none_iff, List.find?_eq_none]
      intro q hq z
      rw [List.map_append, List.map_cons, List.map_cons] at h
      have d := (List.nodup_append.mp h).2.2 q.1 (List.mem_map_of_mem hq) (.tup p.1) List.mem_cons_self
      exact d (of_decide_eq_true z)
    show mergeN (putN l (.tup p.1) p.2) ps = _
    rw [putN_newN no, mergeN_new ps (l ++ [(NestedKey.tup p.1, p.2)]) (by rw [List.append_assoc]; exact h), List.append_assoc]
    rfl
end Cw
end L2

set_option Elab.async false
set_option linter.all false
set_option maxRecDepth 100000
set_option maxHeartbeats 2000000
namespace L2
namespace Cw
open PySem PySem.Spec PyProof.Rows PySem.SeqAt
/-! ### what raises on the way -/
section
variable {Z H : Hp} {σ : St} {E E1 : List Ent} {S : SS} {C : Addr} {e : Expr} {es : List Expr} {x : Str} {p pos : Pos}
/-- for .. in what raises -/
theorem sg_forX {tg iter : Expr} {body : List Stmt} (h : EX S E iter C E1) (hs : ∀ env x, foldedSetIterable iter env x = pure x := by intro _ _; rfl) : SG S E (.For tg iter body [] pos) (.exc C E1) := fun W Z H σ D s k =>
  RSt.mk (t := tFor (RI S W tg iter) (RG S W tg) (RSs S W body)) (fun X hX => ps_for hX.po hX.calm (hX.pi tg iter) (hX.pg tg) (hX.pss body) (hs _))
    (fun X hX pins s' I => thn (h W Z H σ (fun _ _ => False) s (fun H1 Z1 g1 => k _ _ _ g1) X hX pins s' I) fun u s1 ⟨_, _, _, _, f⟩ => f.elim)
/-- f(what raises, ..), f a built-in -/
theorem ex_bi {v : Value} {id : String} (hv : bootBuiltins x = some v) (hid : v = .builtin id ∨ v = .type id) (g : GlOk S x) (hm : S.mg x = none) (h : EX S E e C E1) (hn : x ≠ "__name__" := by decide) (he : ∀ env, starEach (e :: es) env = (false, eval e env) :: starEach es env := by intro _; rfl) (hpl : ∀ env, (backTo pos (starEach es env)).any (·.1) = false := by intro _; rfl) :
    EX S E (.Call (.Name x p) (e :: es) [] pos) C E1 := fun W Z H σ Q st k => by
  refine R.mk (t := tCB (fun _ _ _ => False) (tCons (R S W e) (RA S W es))) (fun X hX => ?_) (h W Z H σ _ st k)
  have gg := g.at hX
  have pa := pa_cons (hX.pe e) (hX.pa es) (he _)
  obtain ⟨A, s0, H0, env, outer, stack, ex, pn, xe, rfl⟩ := hX.ex
  rcases hid with rfl | rfl
  · exact pe_callB (fun _ _ _ _ _ _ _ _ _ f => f.elim) gg hm hv pa hn g.h1 (he _) (hpl _)
  · exact pe_callTy (fun _ _ _ _ _ _ _ _ _ f => f.elim) gg hm hv pa hn g.h1 (he _) (hpl _)
end
end Cw
end L2

set_option Elab.async false
set_option linter.all false
set_option maxRecDepth 100000
set_option maxHeartbeats 2000000
namespace L2
namespace Cw
open PySem PySem.Spec PyProof.Rows PySem.SeqAt
/-! ### {k: v, ..} -/
section
variable {S : SS} {W : WX}
/-- the pairs' readings -/
def trsOf (S : SS) (W : WX) : List (Option Expr) → List Expr → List (TE × TE)
  | some k :: ks, v :: vs => (R S W k, R S W v) :: trsOf S W ks vs
  | _, _ => []
theorem pps_all {X : Cx} {pos : Pos} (hX : S.Has W X) : ∀ {ks : List (Option Expr)} {vs : List Expr}, ks.all (·.isSome) = true → ks.length = vs.length → PPs X pos ks vs (trsOf S W ks vs)
  | [], [], _, _ => pps_nil
  | [], _ :: _, _, h => nomatch h
  | _ :: _, [], _, h => nomatch h
  | none :: _, _ :: _, h, _ => by simp at h
  | some k :: ks, v :: vs, h, l => pps_cons (hX.pe k) (hX.pe v) (pps_all hX (by simpa using h) (by simpa using l))
end
/-- the pairs give these trees -/
inductive PairsG (S : SS) : List Ent → List (Option Expr) → List Expr → List (T × T) → List Ent → Prop
  | nil {E} : PairsG S E [] [] [] E
  | cons {E E1 E2 E3 k v ks vs kt vt r} (h1 : EG S E k kt E1) (h2 : EG S E1 v vt E2) (h3 : PairsG S E2 ks vs r E3) : PairsG S E (some k :: ks) (v :: vs) ((kt, vt) :: r) E3
/-- they are stored, one by one -/
inductive Stored (S : SS) : T → List (T × T) → T → Prop
  | nil {d} : Stored S d [] d
  | cons {d d1 d2 kt vt r} (h : StoG S d kt vt d1) (h2 : Stored S d1 r d2) : Stored S d ((kt, vt) :: r) d2
def PRel (K : PySem.W.Frag) (Z : Hp) : List (T × T) → List (V × V) → Prop := Paired fun a b => Rep K Z a.1 b.1 ∧ Rep K Z a.2 b.2
theorem PRel.mono {K : PySem.W.Frag} {Z Z' : Hp} {xs : List (T × T)} {ys : List (V × V)} (h : PRel K Z xs ys) (e : Same Z Z') : PRel K Z' xs ys := by
  unfold PRel at h ⊢
  induction h with
  | nil => exact .nil
  | cons a t ih => exact .cons ⟨a.1.mono e, a.2.mono e⟩ ih
theorem upd_over {H : Hp} {a : Addr} {o o' : HO} : upd (upd H a o) a o' = upd H a o' := by
  funext c
  by_cases hc : c = a
  · rw [hc, upd_same, upd_same]
  · rw [upd_ne hc, upd_ne hc, upd_ne hc]
section
variable {S : SS} {E E1 : List Ent} {ks : List (Option Expr)} {vs : List Expr} {kvs : List (T × T)}
theorem PairsG.run (h : PairsG S E ks vs kvs E1) : ∀ {W : WX} {Z H : Hp} {σ : St} {Q : List (V × V) → Hp → Prop}, StOk S.K Z H σ E → (∀ ps H' Z', Go S E σ Z H E1 σ Z' H' → PRel S.K Z' kvs ps → Q ps H') → tPairs (trsOf S W ks vs) σ H Q := by
  induction h with
  | nil => exact fun {W Z H σ Q} st k => k [] H Z (Go.refl st) .nil
  | cons h1 h2 h3 ih =>
    intro W Z H σ Q st k
    refine h1 W Z H σ _ st fun x H1 Z1 g1 r1 => h2 W Z1 H1 σ _ g1.st fun y H2 Z2 g2 r2 => ih g2.st fun ps H3 Z3 g3 r3 => k _ H3 Z3 ((g1.trans g2).trans g3) ?_
    exact .cons ⟨(r1.mono g2.step.zz).mono g3.step.zz, r2.mono g3.step.zz⟩ r3
theorem Stored.run {d0 d : T} (h : Stored S d0 kvs d) : ∀ {W : WX} {X : Cx} {pins : List (Addr × Obj)} {σ : St} {Z H : Hp} {s : Shared} {D : Addr} {o : HO} {ps : List (V × V)} {ws : List (Value × Value)} {Q : PUnit → Shared → Prop} {Ex : Value → Shared → Prop}, S.Has W X → Inv X pins σ H s → Same Z H → (∀ c u, Z c = some u → c ≠ D) → H D = some o → ORep S.K Z D o d0 → PRel S.K Z kvs ps → VV ps ws →
    (∀ s' H' o', Inv X pins σ H' s' → H' = upd H D o' → ORep S.K Z D o' d → Q PUnit.unit s') → wpAny (model X.prog X.w) X.A (storeAll D ws) Q Ex s := by
  induction h with
  | nil =>
    intro W X pins σ Z H s D o ps ws Q Ex hX I zh ne hD ro pr rel k
    cases pr; cases rel
    unfold storeAll
    rw [List.forIn_nil]
    exact wpAny_pure (k s H o I (upd_kept hD).symm ro)
  | cons h1 h2 ih =>
    intro W X pins σ Z H s D o ps ws Q Ex hX I zh ne hD ro pr rel k
    cases pr with
    | cons a t =>
      cases rel with
      | cons b u =>
        unfold storeAll
        rw [List.forIn_cons]
        refine wpAny_bind (wpAny_bind (h1 W X hX pins σ Z H s D o _ _ _ _ _ Ex I zh hD ro a.1 a.2 b.1 b.2 fun s' o' I' ro' => wpAny_pure ?_))
        exact ih hX I' (fun c w e => by rw [upd_ne (ne c w e)]; exact zh c w e) ne upd_same ro' t u fun s2 H2 o2 I2 e2 r2 => k s2 H2 o2 I2 (by rw [e2, upd_over]) r2
theorem eo_disp {pos : Pos} {d0 d : T} {new : Addr → HO} (hall : ks.all (·.isSome) = true) (hl : ks.length = vs.length) (h0 : ks ≠ []) (h15 : ks.length ≤ 15) (pr : PairsG S E ks vs kvs E1) (hnew : ∀ (h : Heap) (H : Hp), sysModules < h.objs.size → ObjOk S.P S.w H (h.push { cls := .type "dict", data := .dict #[] }) h.objs.size (new h.objs.size)) (hrep : ∀ Z a, ORep S.K Z a (new a) d0) (hs : Stored S d0 kvs d) : EO S E (.Dict ks vs pos) d E1 := fun W Z H σ Q st k X hX pins s I => by
  have hn := I.hok.fresh (Nat.le_of_eq (rfl : s.heap.objs.size = s.heap.objs.size))
  have nt := (hrep Z s.heap.objs.size).notbl
  have I1 := I.laid (a := s.heap.objs.size) (o := new s.heap.objs.size) (h' := s.heap.push { cls := .type "dict", data := .dict #[] }) (t' := s.toks) (fun _ _ q => Heap.get?_push_of_some _ q) (Nat.le_refl _) (by rw [hX.hP, hX.hw]; exact hnew s.heap _ I.big)
  have b0 := Beside.start (K := S.K) (o := new s.heap.objs.size) st hn nt
  refine wpAny_Dict_any hall hl h0 h15 (thn ((pps_all (pos := pos) hX hall hl).run pins _ σ _ (fun ps H2 => ∃ Z2, Go S E σ Z (upd H s.heap.objs.size (new s.heap.objs.size)) E1 σ Z2 H2 ∧ PRel S.K Z2 kvs ps) I1 (pr.run b0.st fun ps H2 Z2 g r => ⟨Z2, g, r⟩)) fun ws s2 ⟨ps, H2, I2, rel, Z2, g, r⟩ => ?_)
  have b := b0.go g rfl nt
  exact hs.run hX I2 b.st.zh (fun c u e z => by subst z; rw [b.zd] at e; cases e) b.hd ((hrep Z s.heap.objs.size).mono g.step.zz) r rel fun s' H' o' I' e' ro' => ⟨.ref s.heap.objs.size, H', I', rfl, by rw [e']; exact k _ _ _ _ b.write (.inl hn) ro'⟩
end
end Cw
end L2

set_option Elab.async false
set_option linter.all false
set_option maxRecDepth 100000
set_option maxHeartbeats 2000000
namespace L2
namespace Cw
open PySem PySem.Spec PyProof.Rows PySem.SeqAt
/-! ### texts of single signs -/
def flatS (ss : List Str) : Str := ⟨(ss.flatMap fun s => s.cps.toList).toArray⟩
theorem join_bare : ∀ ss : List Str, Str.join (Str.ofString "") ss = flatS ss
  | [] => rfl
  | [x] => by
    show x = flatS [x]
    unfold flatS
    simp
  | x :: y :: ss => by
    have ih := join_bare (y :: ss)
    show x ++ Str.ofString "" ++ Str.join (Str.ofString "") (y :: ss) = _
    rw [ih]
    show (⟨(x.cps ++ (Str.ofString "").cps) ++ (flatS (y :: ss)).cps⟩ : Str) = _
    have e : (Str.ofString "").cps = #[] := by decide +kernel
    rw [e]
    unfold flatS
    simp
theorem txt_join_bare (ss : List Str) : Txt.join (Str.ofString "") ss = flatS ss := (TL.join_eq _ ss).trans (join_bare ss)
theorem one_cps {s : Str} (h : s.length = 1) : ∃ c, s = ⟨#[c]⟩ := by
  obtain ⟨a⟩ := s
  obtain ⟨l⟩ := a
  match l, h with
  | [c], _ => exact ⟨c, rfl⟩
theorem signs_flat : ∀ {ss : List Str}, (∀ s ∈ ss, s.length = 1) → signs (flatS ss) = ss
  | [], _ => rfl
  | s :: ss, h => by
    obtain ⟨c, rfl⟩ := one_cps (h s List.mem_cons_self)
    have ih := signs_flat fun t ht => h t (List.mem_cons_of_mem _ ht)
    unfold signs flatS at ih ⊢
    simpa using ih
theorem flat_len : ∀ {ss : List Str}, (∀ s ∈ ss, s.length = 1) → (flatS ss).length = ss.length := fun {ss} h => by
  have e := congrArg List.length (signs_flat h)
  rw [signs_length] at e
  exact e
theorem sum_ones : ∀ {ss : List Str}, (∀ s ∈ ss, s.length = 1) → (ss.map (·.length)).sum = ss.length
  | [], _ => rfl
  | s :: ss, h => by
    rw [List.map_cons, List.sum_cons, sum_ones fun t ht => h t (List.mem_cons_of_mem _ ht), h s List.mem_cons_self, List.length_cons]
    omega
/-- ''.join(a list of signs) -/
theorem eg_joinOnes {S : SS} {E E1 : List Ent} {e : Expr} {p apos pos : Pos} {j : Nat} {ss : List Str} (h : ∀ s ∈ ss, s.length = 1) (hl : ss.length ≤ 16777216) (he : EG S E e (.lst (ss.map T.str)) E1)
    (h1 : ∀ env, starEach [e] env = [(false, eval e env)] := by intro _; rfl) (h2 : ∀ env, attributeBase (.Constant (.str "") j p) "join" env (eval (.Constant (.str "") j p) env) = eval (.Constant (.str "") j p) env := by intro _; rfl) (h3 : (apos.endLine == pos.line) = true := by rfl) : EG S E (.Call (.Attribute (.Constant (.str "") j p) "join" apos) [e] [] pos) (.str (flatS ss)) E1 := by
  rw [← txt_join_bare]
  refine eg_join eg_str he ?_ h1 h2 h3
  have z : (Str.ofString "").length = 0 := by decide +kernel
  rw [sum_ones h, z]
  omega
end Cw
end L2

set_option Elab.async false
set_option linter.all false
set_option maxRecDepth 100000
set_option maxHeartbeats 2000000
namespace L2
namespace Cw
open PySem PySem.Spec PyProof.Rows PySem.SeqAt
/-! ### state through turns, in general -/
theorem thr_len {α β σ : Type} (g : σ → α → β × σ) : ∀ (xs : List α) (s : σ), (thr g xs s).1.length = xs.length
  | [], s => rfl
  | x :: xs, s => congrArg Nat.succ (thr_len g xs _)
theorem thr_all {α β σ : Type} {g : σ → α → β × σ} {p : β → Prop} (h : ∀ s a, p (g s a).1) : ∀ (xs : List α) (s : σ), ∀ b ∈ (thr g xs s).1, p b
  | [], s, b, hb => by cases hb
  | x :: xs, s, b, hb => by
    obtain rfl | hb := List.mem_cons.mp hb
    · exact h s x
    · exact thr_all h xs _ b hb
theorem atI_any {α : Type} {ts : List α} {n : Nat} {t : α} (h : ts[n]? = some t) : atI ts (n : Int) = some t := by
  have hn : n < ts.length := (List.getElem?_eq_some_iff.mp h).1
  unfold atI ixN
  have h0 : (0 : Int) ≤ n := by omega
  simpa [h0, hn] using h
end Cw
end L2

set_option Elab.async false
set_option linter.all false
set_option maxRecDepth 100000
set_option maxHeartbeats 2000000
namespace L2
namespace Cw
open PySem PySem.Spec PyProof.Rows LamX
/-! ### a def that makes lambdas, called by the law -/
/-- a def's record, its code object at c -/
structure FunC (K : PySem.W.Frag) (x : Str) (st : Stmt) (f : Addr) (fd : FuncData) (c : Addr) : Prop where
  ex : ∃ (oc : Value) (od : Option Addr) (dV kV doc pm : Value) (an : Option Addr) (ct : Value) (osl : Array (Option Value)),
    fd = PySem.W.fnOf x x (defArgs st) (defBody st) (defScope st) dV kV doc pm an (.ref c) ct ∧ K.lookup f = some ⟨oc, od, .func fd, osl⟩ ∧ PySem.W.codeIn K (.ref c) x = true
/-- nothing is handed in; tables of code may be written; it gives True -/
def spTrue (Tb : List (Addr × Str)) : Sp := fun vs H Q _ => vs = [] ∧ Tabs Tb H ∧ ∀ H', Q (.bl true) H'
section
variable {P : Program} {w : World} {K : PySem.W.Frag} {mg : Str → Option Value} {base : Heap} {k : Nat} {x : Str} {st : Stmt} {f c : Addr} {fd : FuncData} {N : List Str} {Tb : List (Addr × Str)}
theorem fn_lg {E' : List Ent} (F : FunC K x st f fd c) (Sc : FnScope N [] (defScope st)) (h : LGs (defP P w K mg base k N (defScope st)) (LawF c ((x ++ (".<locals>." : Str)) ++ ("<lambda>" : Str))) Tb (List.replicate N.length Ent.no) (defBody st) (.ret (.bl true) E')) : FnOk P w K mg base (L2.CX P w) (k + 1) f fd [] (spTrue Tb) := by
  obtain ⟨oc, od, dV, kV, doc, pm, an, ct, osl, rfl, lk, hcd⟩ := F.ex
  refine fn_of (k := k) lk hcd Sc (fun vs H Q E q => by rw [q.1]; rfl) fun A outer s H vs Q Ex hr q => ?_
  obtain ⟨rfl, tb, q⟩ := q
  refine ⟨RLs (defP P w K mg base k N (defScope st)) (LawF c ((x ++ (".<locals>." : Str)) ++ ("<lambda>" : Str))) (fun cls d _ H => Ex cls d H) (defBody st), ⟨fun pins s' σ H' D I z => z _ ⟨⟨_, _, _, _, _, _, _, _, _, rfl⟩, hr, rfl, takes_of rfl rfl rfl rfl, passes_of rfl⟩ ⟨rfl, by dsimp only [cxOf, envOfC]⟩ pins s' I⟩, ?_⟩
  have no : ∀ {i : Nat} {u : Ent}, (List.replicate N.length Ent.no)[i]? = some u → u = .no := fun {i u} z => by
    rw [List.getElem?_replicate] at z
    split at z
    · exact (Option.some.inj z).symm
    · cases z
  refine h _ (fun _ => none) H _ _ ⟨(fun b u z => nomatch z), (fun b ps z => nomatch z), ?_, fun i t z => (nomatch no z), fun i t z => (nomatch no z), fun i j b t u z _ _ _ => (nomatch no z)⟩ tb fun v Z' H' r _ => ?_
  · rw [List.length_replicate]; simp [start]
  · rw [rep_bl.mp r]; exact q H'
end
theorem eg_isB {S : SS} {E E1 E2 : List Ent} {a b : Expr} {x y : Bool} {pos : Pos} (ha : EG S E a (.bl x) E1) (hb : EG S E1 b (.bl y) E2) (hm : behindInMarks .Is b = false := by exact nomark _) : EG S E (.Compare a [.Is] [b] pos) (.bl (decide (x = y))) E2 :=
  eg_cmp (r := rIsB) (fun _ _ _ => op_isBl) (fun E Z H σ v w Q st r1 r2 k => ⟨x, y, rep_bl.mp r1, rep_bl.mp r2, k _ _ _ (Go.refl st) (rep_bl.mpr rfl)⟩) ha hb hm
section
variable {S : SS} {E : List Ent} {L : Cx → Prop} {Tb Tc : List (Addr × Str)} {x : Str} {f : Addr} {fd : FuncData} {k : Nat} {p pos pos' : Pos}
/-- return x() -/
theorem lg_retTrue (D : DefOk S x f fd [] []) (g : GlOk S x) (F : FnOk S.P S.w S.K S.mg S.base (L2.CX S.P S.w) k f fd [] (spTrue Tc)) (hk : k ≤ S.k) (sub : ∀ p ∈ Tc, p ∈ Tb) : LG S L Tb E (.Return (some (.Call (.Name x p) [] [] pos)) pos') (.ret (.bl true) E) := fun W Z H σ Dn st tb kq => by
  refine RLt.mk (t := tRet (tCall (spTrue Tc) [] (fun _ _ _ => False) tNil)) (fun X hX hL => ps_ret ?_) (show spTrue Tc ([] ++ []) H Dn.rt (fun _ _ _ => False) from ⟨rfl, fun q hq => tb q (sub q hq), fun H' => kq _ (fun _ => none) H' (rep_bl.mpr rfl) fun b u z => nomatch z⟩)
  have gg := g.at hX
  have hr := hX.room.mono hk
  obtain ⟨A, s0, H0, env, outer, stack, ex, pn, xe, rfl⟩ := hX.ex
  exact pe_call0 (CX := L2.CX S.P S.w) F hr gg D.mg D.kp D.bd .nil passLL g.h1
end
end Cw
end L2

set_option Elab.async false
set_option linter.all false
set_option maxRecDepth 100000
set_option maxHeartbeats 2000000
namespace L2
namespace Cw
open PySem PySem.Spec PyProof.Rows LamX
/-! ### x, y = a, b where x is a cell: no stores are exchanged -/
theorem swapC {x y : Str} {px py pt pt2 : Pos} {kt k2 : Nat} {a b : Expr} {env : PySem.Env} (hx : env.scope.names.lookup x = some .cell) : swappedStores [.Tuple [.Name x px, .Name y py] kt pt] (.Tuple [a, b] k2 pt2) env = pure none := by
  have kx : env.kindOf x = some .cell := hx
  unfold swappedStores
  dsimp only
  split
  · rfl
  split
  · rfl
  have few : ∀ l : Nat, ([Expr.Name x px, Expr.Name y py].filterMap fun | .Name id pos => if (env.kindOf id == some .local && pos.line == l) = true then some id else none | _ => none).length ≤ 1 := fun l => by
    rw [List.filterMap_cons]
    simp only [kx]
    show ([Expr.Name y py].filterMap _).length ≤ 1
    exact Nat.le_trans (List.length_filterMap_le _ _) (Nat.le_refl 1)
  rw [if_pos]
  · rw [Bool.or_eq_true]
    refine .inl ?_
    have := few ((Option.map (fun e : Expr => e.pos.line) [Expr.Name x px, Expr.Name y py].head?).getD 0)
    rw [bne_iff_ne]
    intro z
    have z2 : ([Expr.Name x px, Expr.Name y py] : List Expr).length = 2 := rfl
    rw [z2] at z
    have w := Nat.le_of_eq z.symm
    exact absurd (Nat.le_trans w this) (by decide)
section
variable {S : SS} {E E1 E2 : List Ent} {x y : Str} {px py pt pt2 pos : Pos} {kt k2 i j : Nat} {a b : Expr} {t u : T}
theorem sg_parC (so1 : StoOk S i x) (so2 : StoOk S j y) (hx : S.sc.names.lookup x = some .cell) (h : EAs S E [a, b] [t, u] E1) (hi : i < E1.length) (hj : j < E1.length) (hs : ∀ env, swapsWithSole [.Tuple [.Name x px, .Name y py] kt pt] (.Tuple [a, b] k2 pt2) pos.line env = pure false := by intro _; rfl) : SG S E (.Assign [.Tuple [.Name x px, .Name y py] kt pt] (.Tuple [a, b] k2 pt2) pos) (.nx ((E1.set i (.sh t)).set j (.sh u))) := fun W Z H σ D s k => by
  have ag := ag_two (S := S) (E := E1) (px := px) (py := py) (k := kt) (pos := pt) (q := .tup [t, u]) (.inl rfl) so1 so2 hi hj
  refine RSt.mk (t := tAsg (R S W (.Tuple [a, b] k2 pt2)) (RG S W (.Tuple [.Name x px, .Name y py] kt pt))) (fun X hX => ps_asg (hX.pe _) (hX.pg _) (hs _) (swapC (by rw [hX.sc]; exact hx)) rfl) (eg_tup h (show 2 ≤ 16777216 by decide) W Z H σ _ s fun v H1 Z1 g1 r1 => ?_)
  exact ag.2.2 W Z1 H1 σ v _ g1.st r1 fun τ st e => k _ _ _ (g1.trans (ag.go st e))
end
end Cw
end L2

set_option Elab.async false
set_option linter.all false
set_option maxRecDepth 100000
set_option maxHeartbeats 4000000
namespace L2
namespace Cw
namespace K01
open PySem PySem.Spec PyProof.Rows
local macro_rules | `(tactic| walk_at "vo") => `(tactic| exact ⟨rfl, by first | exact .inl rfl | exact .inr (.inl rfl) | exact .inr (.inr rfl), by decide, by decide⟩)
local macro_rules | `(tactic| walk_at "gl") => `(tactic| exact ⟨rfl, by decide⟩)
local macro_rules | `(tactic| walk_at "nd") => `(tactic| (dsimp only [SS.blk, defP]; decide +kernel))
local macro_rules | `(tactic| walk_at "so") => `(tactic| exact ⟨by walk_at "nd", rfl, by first | exact .inl rfl | exact .inr rfl, by first | exact .inl rfl | exact .inr rfl, by first | (dsimp only [SS.blk, defP, pins]; decide) | (simp [SS.blk, defP, pins, isOw, List.range_succ]; done)⟩)
local macro_rules | `(tactic| walk_at "bk") => `(tactic| exact blkOk_by (by walk_at "nd"))
local macro_rules | `(tactic| walk_at "ln") => `(tactic| (simp; done))
local macro_rules | `(tactic| walk_at "no") => `(tactic| (intro t; simp; done))
local macro_rules | `(tactic| walk_at "lv") => `(tactic| (dsimp only [SS.blk, defP]; decide))
local macro_rules | `(tactic| walk_at "sc") => `(tactic| exact ⟨rfl, rfl, rfl, by decide +kernel, rfl, by decide +kernel, by decide +kernel⟩)
/- a name's value -/
local macro_rules | `(tactic| walk_at "v") => `(tactic| first
  | exact eg_sh (i := 0) (by walk_at "vo") rfl | exact eg_sh (i := 1) (by walk_at "vo") rfl | exact eg_sh (i := 2) (by walk_at "vo") rfl | exact eg_sh (i := 3) (by walk_at "vo") rfl
  | exact eg_sh (i := 4) (by walk_at "vo") rfl | exact eg_sh (i := 5) (by walk_at "vo") rfl | exact eg_sh (i := 6) (by walk_at "vo") rfl | exact eg_sh (i := 7) (by walk_at "vo") rfl)
def top (i : Nat) : Stmt := PySem.Challenge.pw_cluewright_k01_squares_of_a_board.main.body.getD i (.Pass ⟨0, 0, 0, 0⟩)
/-- a def of the text as its callers know it -/
structure Dfn (K : PySem.W.Frag) (mg : Str → Option Value) (x : Str) (i : Nat) (ps : List Str) (dV : List Value) where
  f : Addr
  fd : FuncData
  F : FunA K x x (top i) f fd
  mgf : mg x = some (.ref f)
  bd : Binds K fd ps dV
structure ExcF (K : PySem.W.Frag) (mg : Str → Option Value) (x : Str) where
  C : Addr
  mgC : mg x = some (.ref C)
  xc : PySem.W.excIn K C [.type "ValueError", .type "Exception", .type "BaseException", .type "object"] "ValueError.__new__" = true
  kp : (PySem.W.keepIn K (.ref C)) = true
  sb : PySem.W.subIn K (.ref C) (.type "BaseException") = some true
  ty : PySem.W.typeIn K (.ref C) = some (.type "type")
theorem ExcF.ok {K : PySem.W.Frag} {mg : Str → Option Value} {x : Str} (X : ExcF K mg x) {S : SS} (hK : S.K = K) (hm : S.mg = mg) : ExcOk S x X.C := by
  subst hK; subst hm; exact ⟨X.mgC, X.xc, X.kp, X.sb, X.ty⟩
theorem Dfn.ok {K : PySem.W.Frag} {mg : Str → Option Value} {x : Str} {i : Nat} {ps : List Str} {dV : List Value} (D : Dfn K mg x i ps dV) {S : SS} (hK : S.K = K) (hm : S.mg = mg) : DefOk S x D.f D.fd ps dV := by
  subst hK; subst hm; exact ⟨D.mgf, D.F.kp, D.bd⟩
/-! ### the data -/
abbrev Sq := Int × Int
def sqT (p : Sq) : T := .tup [.int p.1, .int p.2]
def wsqT (p : Sq) : T := .wtup [.int p.1, .int p.2]
def sidesL : List Sq := [(-1, 0), (0, -1), (0, 1), (1, 0)]
def cornersL : List Sq := [(-1, -1), (-1, 0), (-1, 1), (0, -1), (0, 1), (1, -1), (1, 0), (1, 1)]
structure Tx (K : PySem.W.Frag) (mg : Str → Option Value) where
  check_size : Dfn K mg "check_size" 15 ["high", "wide"] []
  all_squares : Dfn K mg "all_squares" 16 ["high", "wide"] []
  row_of : Dfn K mg "row_of" 17 ["y", "wide"] []
  column_of : Dfn K mg "column_of" 18 ["x", "high"] []
  stepped : Dfn K mg "stepped" 19 ["spot", "moves"] []
  on_board : Dfn K mg "on_board" 20 ["spots", "high", "wide"] []
  beside : Dfn K mg "beside" 21 ["spot", "high", "wide"] []
  around : Dfn K mg "around" 22 ["spot", "high", "wide"] []
  box_at : Dfn K mg "box_at" 23 ["top", "left", "tall", "broad"] []
  boxes : Dfn K mg "boxes" 24 ["high", "wide", "tall", "broad"] []
  lots_of : Dfn K mg "lots_of" 25 ["rows"] []
  check_rows : Dfn K mg "check_rows" 26 ["rows"] []
  reached : Dfn K mg "reached" 27 ["spot", "lot"] []
  hangs : Dfn K mg "hangs" 28 ["spots"] []
  parts_of : Dfn K mg "parts_of" 29 ["spots"] []
  sign_at : Dfn K mg "sign_at" 30 ["table", "spot", "bare"] []
  toldT : Nat
  told : Dfn K mg "told" 31 ["table", "high", "wide", "bare"] [.str "." toldT]
  readT : Nat
  read : Dfn K mg "read" 32 ["rows", "bare"] [.str "." readT]
  turned : Dfn K mg "turned" 33 ["table", "high", "wide"] []
  mirrored : Dfn K mg "mirrored" 34 ["table", "wide"] []
  flat : Dfn K mg "_law_flat" 36 ["rows"] []
  dice : Dfn K mg "_law_dice" 37 ["cell"] []
  roll : Dfn K mg "_law_roll" 38 ["dice", "many"] []
  rounds : Dfn K mg "_law_rounds" 39 ["script", "most"] []
  told_ : Dfn K mg "_law_told" 40 ["what"] []
  cells : Dfn K mg "_law_cells" 41 ["dice", "wide", "high", "letters"] []
  xSquare : ExcF K mg "BadSquare"
  xText : ExcF K mg "BadText"
  eRule : Addr
  mRule : mg "BadRule" = some (.ref eRule)
  eStep : Addr
  mStep : mg "BadStep" = some (.ref eStep)
  ePaper : Addr
  mPaper : mg "BadPaper" = some (.ref ePaper)
  eSize : Addr
  mSize : mg "BadSize" = some (.ref eSize)
  eStore : Addr
  mStore : mg "BadStore" = some (.ref eStore)
  eNoWay : Addr
  mNoWay : mg "NoWay" = some (.ref eNoWay)
  eNoSuch : Addr
  mNoSuch : mg "NoSuch" = some (.ref eNoSuch)
  read2 : Binds K read.fd ["rows", "bare"] []
  figT : Nat
  figures : mg "FIGURES" = some (.str "0123456789" figT)
  isSquare : PySem.W.exmOne K (.ref xSquare.C) (.ref xSquare.C) = some true
  tSquare : PySem.W.exmOne K (.ref xText.C) (.ref xSquare.C) = some false
  tRule : PySem.W.exmOne K (.ref xText.C) (.ref eRule) = some false
  tStep : PySem.W.exmOne K (.ref xText.C) (.ref eStep) = some false
  tPaper : PySem.W.exmOne K (.ref xText.C) (.ref ePaper) = some false
  tSize : PySem.W.exmOne K (.ref xText.C) (.ref eSize) = some false
  isText : PySem.W.exmOne K (.ref xText.C) (.ref xText.C) = some true
  sides : Addr
  mgSides : mg "SIDES" = some (.ref sides)
  repSides : ∀ Z, Rep K Z (.wtup (sidesL.map wsqT)) (.ref sides)
  corners : Addr
  mgCorners : mg "SIDES_AND_CORNERS" = some (.ref corners)
  repCorners : ∀ Z, Rep K Z (.wtup (cornersL.map wsqT)) (.ref corners)
  nAbs : mg "abs" = none
  nAny : mg "any" = none
  nDict : mg "dict" = none
  nEnum : mg "enumerate" = none
  nInt : mg "int" = none
  nLen : mg "len" = none
  nList : mg "list" = none
  nMax : mg "max" = none
  nRange : mg "range" = none
  nSorted : mg "sorted" = none
  nStr : mg "str" = none
  nTuple : mg "tuple" = none
section
variable {P : Program} {w : World} {K : PySem.W.Frag} {mg : Str → Option Value} {base : Heap} (T_ : Tx K mg)
/-! ### check_size -/
theorem sc15 : FnScope ["high", "wide"] ["high", "wide"] (defScope (top 15)) := by walk_at "sc"
theorem check_size_ok (h v : Int) (hb : 0 < h ∧ h < 10 ∧ 0 < v ∧ v < 10) : Gives P w K mg base 1 T_.check_size.f T_.check_size.fd ["high", "wide"] [.int h, .int v] (.tup [.int h, .int v]) := by
  refine gives_p [.sh (.int h), .sh (.int v)] T_.check_size.F sc15 rfl rfl (sgr_ifFn (d := !(decide (0 < h) && decide (h < 10)) || !(decide (0 < v) && decide (v < 10))) (by simp; omega) (tg_w (wg_or (tg_not (pt_ltlt eg_int (eg_sh (i := 0) (by walk_at "vo") rfl) eg_int)) fun _ => wg_or1 (tg_not (pt_ltlt eg_int (eg_sh (i := 1) (by walk_at "vo") rfl) eg_int)))) ?_)
  exact sgr_ret (pg_tup2 (eg_sh (i := 0) (by walk_at "vo") rfl) (eg_sh (i := 1) (by walk_at "vo") rfl))
theorem check_size_no (h v : Int) (hb : ¬ (0 < h ∧ h < 10 ∧ 0 < v ∧ v < 10)) : Errs P w K mg base 1 T_.check_size.f T_.check_size.fd ["high", "wide"] [.int h, .int v] T_.xSquare.C := by
  refine errs_p [.sh (.int h), .sh (.int v)] T_.check_size.F sc15 rfl rfl (sgx_ifT (d := !(decide (0 < h) && decide (h < 10)) || !(decide (0 < v) && decide (v < 10))) (by simp; omega) (tg_w (wg_or (tg_not (pt_ltlt eg_int (eg_sh (i := 0) (by walk_at "vo") rfl) eg_int)) fun _ => wg_or1 (tg_not (pt_ltlt eg_int (eg_sh (i := 1) (by walk_at "vo") rfl) eg_int)))) ?_)
  exact sgx_raise (T_.xSquare.ok rfl rfl) (by walk_at "gl")
/-! ### all_squares, row_of, column_of -/
def allSq (h v : Int) : List Sq := (List.range h.toNat).flatMap fun y => (List.range v.toNat).map fun x => (((0 : Int) + (y : Nat), (0 : Int) + (x : Nat)) : Sq)
theorem sc16 : FnScope ["high", "wide", "y", "x"] ["high", "wide"] (defScope (top 16)) := by walk_at "sc"
theorem map_flat {α : Type} (g : α → T) (xs : List Nat) (f : Nat → List α) : (xs.flatMap f).map g = xs.flatMap fun x => (f x).map g := by rw [List.map_flatMap]
theorem all_squares_ok (h v : Int) (hb : 0 < h ∧ h < 10 ∧ 0 < v ∧ v < 10) : Gives P w K mg base 2 T_.all_squares.f T_.all_squares.fd ["high", "wide"] [.int h, .int v] (.tup ((allSq h v).map sqT)) := by
  refine gives_p [.sh (.int h), .sh (.int v), .no, .no] T_.all_squares.F sc16 rfl rfl (sgr_cons (sg_expr (eg_fn (T_.check_size.ok rfl rfl) (by walk_at "gl") (check_size_ok T_ h v hb) (by walk_at "lv") (pas_cons (eg_sh (i := 0) (by walk_at "vo") rfl) (pas_cons (eg_sh (i := 1) (by walk_at "vo") rfl) eas_nil)))) (sgr_ret (eg_tupleL (by walk_at "gl") T_.nTuple ?_)))
  unfold allSq
  rw [map_flat]
  have e : ∀ y : Nat, ((List.range v.toNat).map fun x => (((0 : Int) + (y : Nat), (0 : Int) + (x : Nat)) : Sq)).map sqT = (List.range v.toNat).map fun x => T.tup [.int (0 + (y : Nat)), .int (0 + (x : Nat))] := fun y => by rw [List.map_map]; rfl
  simp only [e]
  refine eg_lc2N (α := Nat) (β := Nat) (n1 := v.toNat) (toT := fun y => T.int (0 + (y : Nat))) (toU := fun y => T.int (0 + (y : Nat))) (i := 2) (j := 3) (by walk_at "bk") (by walk_at "nd") (by decide) (by walk_at "so") (by walk_at "so") (by walk_at "ln") (by walk_at "ln") (by walk_at "no") (by walk_at "no") ?_ (by omega)
    (ig_range (n := h) (by walk_at "gl") T_.nRange (eg_sh (i := 0) (by walk_at "vo") rfl) (by omega)) (fun _ _ => by simp) (fun _ _ => ig_range (n := v) (by walk_at "gl") T_.nRange (eg_sh (i := 1) (by walk_at "vo") rfl) (by omega)) fun a _ b _ => pg_tup2 (eg_sh (i := 2) (by walk_at "vo") rfl) (eg_sh (i := 3) (by walk_at "vo") rfl)
  rw [List.length_range]
  exact Nat.le_trans (Nat.mul_le_mul (show h.toNat ≤ 9 by omega) (show v.toNat ≤ 9 by omega)) (by decide)
theorem sc17 : FnScope ["y", "wide", "x"] ["y", "wide"] (defScope (top 17)) := by walk_at "sc"
theorem row_of_ok (y v : Int) (hb : 0 ≤ v ∧ v < 10) : Gives P w K mg base 1 T_.row_of.f T_.row_of.fd ["y", "wide"] [.int y, .int v] (.tup (((List.range v.toNat).map fun x => ((y, (0 : Int) + (x : Nat)) : Sq)).map sqT)) := by
  refine gives_p [.sh (.int y), .sh (.int v), .no] T_.row_of.F sc17 rfl rfl (sgr_ret (eg_tupleL (by walk_at "gl") T_.nTuple ?_))
  rw [List.map_map]
  exact eg_lcN (α := Nat) (toT := fun i => T.int (0 + (i : Int))) (f := sqT ∘ fun x : Nat => ((y, (0 : Int) + (x : Nat)) : Sq)) (i := 2) (by walk_at "bk") (by walk_at "nd") (by walk_at "so") (by walk_at "ln") (by walk_at "no") (by simp; omega) (ig_range (n := v) (by walk_at "gl") T_.nRange (eg_sh (i := 1) (by walk_at "vo") rfl) (by omega)) fun a ha =>
    pg_tup2 (eg_sh (i := 0) (by walk_at "vo") rfl) (eg_sh (i := 2) (by walk_at "vo") rfl)
theorem sc18 : FnScope ["x", "high", "y"] ["x", "high"] (defScope (top 18)) := by walk_at "sc"
theorem column_of_ok (x v : Int) (hb : 0 ≤ v ∧ v < 10) : Gives P w K mg base 1 T_.column_of.f T_.column_of.fd ["x", "high"] [.int x, .int v] (.tup (((List.range v.toNat).map fun y => (((0 : Int) + (y : Nat), x) : Sq)).map sqT)) := by
  refine gives_p [.sh (.int x), .sh (.int v), .no] T_.column_of.F sc18 rfl rfl (sgr_ret (eg_tupleL (by walk_at "gl") T_.nTuple ?_))
  rw [List.map_map]
  exact eg_lcN (α := Nat) (toT := fun i => T.int (0 + (i : Int))) (f := sqT ∘ fun y : Nat => (((0 : Int) + (y : Nat), x) : Sq)) (i := 2) (by walk_at "bk") (by walk_at "nd") (by walk_at "so") (by walk_at "ln") (by walk_at "no") (by simp; omega) (ig_range (n := v) (by walk_at "gl") T_.nRange (eg_sh (i := 1) (by walk_at "vo") rfl) (by omega)) fun a ha =>
    pg_tup2 (eg_sh (i := 2) (by walk_at "vo") rfl) (eg_sh (i := 0) (by walk_at "vo") rfl)
/-! ### neighbours -/
def stepD (p : Sq) (ms : List Sq) : List Sq := ms.map fun d => (p.1 + d.1, p.2 + d.2)
def onB (ps : List Sq) (h v : Int) : List Sq := ps.filter fun p => (decide (0 ≤ p.1) && decide (p.1 < h)) && (decide (0 ≤ p.2) && decide (p.2 < v))
theorem sc19 : FnScope ["spot", "moves", "down", "right"] ["spot", "moves"] (defScope (top 19)) := by walk_at "sc"
theorem at0 {t : T} {ts : List T} : atI (t :: ts) 0 = some t := by simp [atI, ixN]
theorem at1 {t u : T} {ts : List T} : atI (t :: u :: ts) 1 = some u := by
  have h : (1 : Int) < ((t :: u :: ts).length : Nat) := by simp only [List.length_cons]; omega
  unfold atI ixN
  rw [if_pos (by decide), if_pos h]
  rfl
theorem stepped_ok (p : Sq) (ms : List Sq) (hm : ms.length ≤ 1000) : Gives P w K mg base 1 T_.stepped.f T_.stepped.fd ["spot", "moves"] [sqT p, .wtup (ms.map wsqT)] (.lst ((stepD p ms).map sqT)) := by
  refine gives_p [.sh (sqT p), .sh (.wtup (ms.map wsqT)), .no, .no] T_.stepped.F sc19 rfl rfl (sgr_ret ?_)
  unfold stepD
  rw [List.map_map]
  exact eg_lcT (α := Sq) (toT := wsqT) (t := fun d => .int d.1) (u := fun d => .int d.2) (i := 2) (j := 3) (f := sqT ∘ fun d : Sq => (p.1 + d.1, p.2 + d.2)) (fun a => .inr rfl) (by walk_at "bk") (by walk_at "nd") (by decide) (by walk_at "so") (by walk_at "so") (by walk_at "ln") (by walk_at "ln") (by walk_at "no") (by walk_at "no") (by omega) (pg_iter .wtup (eg_sh (i := 1) (by walk_at "vo") rfl))
    fun a _ => pg_tup2 (pg_add (pg_item .tup at0 (eg_sh (i := 0) (by walk_at "vo") rfl) eg_int) (eg_sh (i := 2) (by walk_at "vo") rfl)) (pg_add (pg_item .tup at1 (eg_sh (i := 0) (by walk_at "vo") rfl) eg_int) (eg_sh (i := 3) (by walk_at "vo") rfl))
theorem sc20 : FnScope ["spots", "high", "wide", "y", "x"] ["spots", "high", "wide"] (defScope (top 20)) := by walk_at "sc"
theorem on_board_ok (ps : List Sq) (h v : Int) (hm : ps.length ≤ 1000) : Gives P w K mg base 1 T_.on_board.f T_.on_board.fd ["spots", "high", "wide"] [.lst (ps.map sqT), .int h, .int v] (.tup ((onB ps h v).map sqT)) := by
  refine gives_p [.sh (.lst (ps.map sqT)), .sh (.int h), .sh (.int v), .no, .no] T_.on_board.F sc20 rfl rfl (sgr_ret (eg_tupleL (by walk_at "gl") T_.nTuple ?_))
  unfold onB
  exact eg_lcTF (α := Sq) (toT := sqT) (t := fun d => .int d.1) (u := fun d => .int d.2) (i := 3) (j := 4) (fun a => .inl rfl) (by walk_at "bk") (by walk_at "nd") (by decide) (by walk_at "so") (by walk_at "so") (by walk_at "ln") (by walk_at "ln") (by walk_at "no") (by walk_at "no") (by omega) (pg_iter .lst (eg_sh (i := 0) (by walk_at "vo") rfl))
    (fun a _ => tg_w (wg_and (pt_lelt eg_int (eg_sh (i := 3) (by walk_at "vo") rfl) (eg_sh (i := 1) (by walk_at "vo") rfl)) fun _ => wg_and1 (pt_lelt eg_int (eg_sh (i := 4) (by walk_at "vo") rfl) (eg_sh (i := 2) (by walk_at "vo") rfl))))
    fun a _ _ => pg_tup2 (eg_sh (i := 3) (by walk_at "vo") rfl) (eg_sh (i := 4) (by walk_at "vo") rfl)
def besideL (p : Sq) (h v : Int) : List Sq := onB (stepD p sidesL) h v
def aroundL (p : Sq) (h v : Int) : List Sq := onB (stepD p cornersL) h v
theorem sc21 : FnScope ["spot", "high", "wide"] ["spot", "high", "wide"] (defScope (top 21)) := by walk_at "sc"
theorem beside_ok (p : Sq) (h v : Int) : Gives P w K mg base 2 T_.beside.f T_.beside.fd ["spot", "high", "wide"] [sqT p, .int h, .int v] (.tup ((besideL p h v).map sqT)) :=
  gives_p [.sh (sqT p), .sh (.int h), .sh (.int v)] T_.beside.F sc21 rfl rfl (sgr_ret (eg_fn (T_.on_board.ok rfl rfl) (by walk_at "gl") (on_board_ok T_ (stepD p sidesL) h v (by simp [stepD, sidesL])) (by walk_at "lv")
    (pas_cons (eg_fn (T_.stepped.ok rfl rfl) (by walk_at "gl") (stepped_ok T_ p sidesL (by simp [sidesL])) (by walk_at "lv") (pas_cons (eg_sh (i := 0) (by walk_at "vo") rfl) (pas_cons (eg_glob (v := .ref T_.sides) (by walk_at "gl") T_.mgSides rfl T_.repSides) eas_nil))) (pas_cons (eg_sh (i := 1) (by walk_at "vo") rfl) (pas_cons (eg_sh (i := 2) (by walk_at "vo") rfl) eas_nil)))))
theorem sc22 : FnScope ["spot", "high", "wide"] ["spot", "high", "wide"] (defScope (top 22)) := by walk_at "sc"
theorem around_ok (p : Sq) (h v : Int) : Gives P w K mg base 2 T_.around.f T_.around.fd ["spot", "high", "wide"] [sqT p, .int h, .int v] (.tup ((aroundL p h v).map sqT)) :=
  gives_p [.sh (sqT p), .sh (.int h), .sh (.int v)] T_.around.F sc22 rfl rfl (sgr_ret (eg_fn (T_.on_board.ok rfl rfl) (by walk_at "gl") (on_board_ok T_ (stepD p cornersL) h v (by simp [stepD, cornersL])) (by walk_at "lv")
    (pas_cons (eg_fn (T_.stepped.ok rfl rfl) (by walk_at "gl") (stepped_ok T_ p cornersL (by simp [cornersL])) (by walk_at "lv") (pas_cons (eg_sh (i := 0) (by walk_at "vo") rfl) (pas_cons (eg_glob (v := .ref T_.corners) (by walk_at "gl") T_.mgCorners rfl T_.repCorners) eas_nil))) (pas_cons (eg_sh (i := 1) (by walk_at "vo") rfl) (pas_cons (eg_sh (i := 2) (by walk_at "vo") rfl) eas_nil)))))
/-! ### boxes -/
def boxAt (t l a b : Int) : List Sq := (List.range a.toNat).flatMap fun y => (List.range b.toNat).map fun x => ((t + ((0 : Int) + (y : Nat)), l + ((0 : Int) + (x : Nat))) : Sq)
theorem sc23 : FnScope ["top", "left", "tall", "broad", "y", "x"] ["top", "left", "tall", "broad"] (defScope (top 23)) := by walk_at "sc"
theorem box_at_ok (t l a b : Int) (hb : 0 ≤ a ∧ a < 100 ∧ 0 ≤ b ∧ b < 100) : Gives P w K mg base 1 T_.box_at.f T_.box_at.fd ["top", "left", "tall", "broad"] [.int t, .int l, .int a, .int b] (.tup ((boxAt t l a b).map sqT)) := by
  refine gives_p [.sh (.int t), .sh (.int l), .sh (.int a), .sh (.int b), .no, .no] T_.box_at.F sc23 rfl rfl (sgr_ret (eg_tupleL (by walk_at "gl") T_.nTuple ?_))
  unfold boxAt
  rw [map_flat]
  have e : ∀ y : Nat, ((List.range b.toNat).map fun x => ((t + ((0 : Int) + (y : Nat)), l + ((0 : Int) + (x : Nat))) : Sq)).map sqT = (List.range b.toNat).map fun x => T.tup [.int (t + (0 + (y : Nat))), .int (l + (0 + (x : Nat)))] := fun y => by rw [List.map_map]; rfl
  simp only [e]
  refine eg_lc2N (α := Nat) (β := Nat) (n1 := b.toNat) (toT := fun y => T.int (0 + (y : Nat))) (toU := fun y => T.int (0 + (y : Nat))) (i := 4) (j := 5) (by walk_at "bk") (by walk_at "nd") (by decide) (by walk_at "so") (by walk_at "so") (by walk_at "ln") (by walk_at "ln") (by walk_at "no") (by walk_at "no") ?_ (by omega)
    (ig_range (n := a) (by walk_at "gl") T_.nRange (eg_sh (i := 2) (by walk_at "vo") rfl) (by omega)) (fun _ _ => by simp) (fun _ _ => ig_range (n := b) (by walk_at "gl") T_.nRange (eg_sh (i := 3) (by walk_at "vo") rfl) (by omega)) fun p _ q _ => pg_tup2 (pg_add (eg_sh (i := 0) (by walk_at "vo") rfl) (eg_sh (i := 4) (by walk_at "vo") rfl)) (pg_add (eg_sh (i := 1) (by walk_at "vo") rfl) (eg_sh (i := 5) (by walk_at "vo") rfl))
  rw [List.length_range]
  exact Nat.le_trans (Nat.mul_le_mul (show a.toNat ≤ 100 by omega) (show b.toNat ≤ 100 by omega)) (by decide)
end
end K01
end Cw
end L2

set_option Elab.async false
set_option linter.all false
set_option maxRecDepth 100000
set_option maxHeartbeats 4000000
namespace L2
namespace Cw
namespace K01
open PySem PySem.Spec PyProof.Rows
local macro_rules | `(tactic| walk_at "vo") => `(tactic| exact ⟨rfl, by first | exact .inl rfl | exact .inr (.inl rfl) | exact .inr (.inr rfl), by decide, by decide⟩)
local macro_rules | `(tactic| walk_at "gl") => `(tactic| exact ⟨rfl, by decide⟩)
local macro_rules | `(tactic| walk_at "nd") => `(tactic| (dsimp only [SS.blk, defP]; decide +kernel))
local macro_rules | `(tactic| walk_at "so") => `(tactic| exact ⟨by walk_at "nd", rfl, by first | exact .inl rfl | exact .inr rfl, by first | exact .inl rfl | exact .inr rfl, by first | (dsimp only [SS.blk, defP, pins]; decide) | (simp [SS.blk, defP, pins, isOw, List.range_succ]; done)⟩)
local macro_rules | `(tactic| walk_at "bk") => `(tactic| exact blkOk_by (by walk_at "nd"))
local macro_rules | `(tactic| walk_at "ln") => `(tactic| (simp; done))
local macro_rules | `(tactic| walk_at "no") => `(tactic| (intro t; simp; done))
local macro_rules | `(tactic| walk_at "lv") => `(tactic| (dsimp only [SS.blk, defP]; decide))
local macro_rules | `(tactic| walk_at "sc") => `(tactic| exact ⟨rfl, rfl, rfl, by decide +kernel, rfl, by decide +kernel, by decide +kernel⟩)
/- a name's value -/
local macro_rules | `(tactic| walk_at "v") => `(tactic| first
  | exact eg_sh (i := 0) (by walk_at "vo") rfl | exact eg_sh (i := 1) (by walk_at "vo") rfl | exact eg_sh (i := 2) (by walk_at "vo") rfl | exact eg_sh (i := 3) (by walk_at "vo") rfl
  | exact eg_sh (i := 4) (by walk_at "vo") rfl | exact eg_sh (i := 5) (by walk_at "vo") rfl | exact eg_sh (i := 6) (by walk_at "vo") rfl | exact eg_sh (i := 7) (by walk_at "vo") rfl)
section
variable {P : Program} {w : World} {K : PySem.W.Frag} {mg : Str → Option Value} {base : Heap} (T_ : Tx K mg)
theorem sc24 : FnScope ["high", "wide", "tall", "broad", "top", "left"] ["high", "wide", "tall", "broad"] (defScope (top 24)) := by walk_at "sc"
def boxBad (h v a b : Int) : Bool := decide (a < 1) || (decide (b < 1) || (!decide (h.fmod a = 0) || !decide (v.fmod b = 0)))
theorem boxes_no (h v a b : Int) (hb : boxBad h v a b = true) : Errs P w K mg base 1 T_.boxes.f T_.boxes.fd ["high", "wide", "tall", "broad"] [.int h, .int v, .int a, .int b] T_.xSquare.C := by
  refine errs_p [.sh (.int h), .sh (.int v), .sh (.int a), .sh (.int b), .no, .no] T_.boxes.F sc24 rfl rfl (sgx_ifT (d := decide (a < 1) || (decide (b < 1) || (!teq (.int (h.fmod a)) (.int 0) || !teq (.int (v.fmod b)) (.int 0)))) ?_ (tg_w (wg_or (pt_lt (by walk_at "v") eg_int) fun h1 => wg_or (pt_lt (by walk_at "v") eg_int) fun h2 => wg_or (pt_ne (n := 0) trivial trivial (pg_mod ?_ (by walk_at "v") (by walk_at "v")) eg_int) fun _ => wg_or1 (pt_ne (n := 0) trivial trivial (pg_mod ?_ (by walk_at "v") (by walk_at "v")) eg_int))) (sgx_raise (T_.xSquare.ok rfl rfl) (by walk_at "gl")))
  · rw [enc_int.eq, enc_int.eq]; exact hb
  · have := of_decide_eq_false h1; omega
  · have := of_decide_eq_false h2; omega
def boxesL (h v a b : Nat) : List (List Sq) := (List.range (h / a)).flatMap fun i => (List.range (v / b)).map fun j => boxAt (0 + (i : Nat) * (a : Int)) (0 + (j : Nat) * (b : Int)) a b
theorem rgc_ok : ∀ h : Nat, h < 10 → ∀ a : Nat, a < 10 → 1 ≤ a → h % a = 0 → RgC 0 (h : Nat) (a : Nat) (h / a) := by
  have q : ∀ (h a : _root_.Fin 10), (decide (1 ≤ a.val → h.val % a.val = 0 → ((a.val : Int) ≠ 0 ∧ (a.val : Int).natAbs < 1073741824 ∧ Builtin.Range.small 0 (h.val : Nat) (a.val : Nat) = true ∧ Builtin.Range.rangeSize 0 (h.val : Nat) (a.val : Nat) = (h.val / a.val : Nat)))) = true := by decide +kernel
  exact fun h hh a ha h1 h2 => of_decide_eq_true (q ⟨h, hh⟩ ⟨a, ha⟩) h1 h2
theorem boxes_ok (h v a b : Nat) (hh : 0 < h ∧ h < 10 ∧ 0 < v ∧ v < 10) (ha : 1 ≤ a ∧ a < 10) (hb : 1 ≤ b ∧ b < 10) (ma : h % a = 0) (mb : v % b = 0) : Gives P w K mg base 2 T_.boxes.f T_.boxes.fd ["high", "wide", "tall", "broad"] [.int h, .int v, .int a, .int b] (.tup ((boxesL h v a b).map fun l => .tup (l.map sqT))) := by
  refine gives_p [.sh (.int h), .sh (.int v), .sh (.int a), .sh (.int b), .no, .no] T_.boxes.F sc24 rfl rfl (sgr_ifFn (d := decide ((a : Int) < 1) || (decide ((b : Int) < 1) || (!teq (.int ((h : Int).fmod a)) (.int 0) || !teq (.int ((v : Int).fmod b)) (.int 0)))) ?_ (tg_w (wg_or (pt_lt (by walk_at "v") eg_int) fun h1 => wg_or (pt_lt (by walk_at "v") eg_int) fun h2 => wg_or (pt_ne (n := 0) trivial trivial (pg_mod (by omega) (by walk_at "v") (by walk_at "v")) eg_int) fun _ => wg_or1 (pt_ne (n := 0) trivial trivial (pg_mod (by omega) (by walk_at "v") (by walk_at "v")) eg_int))) (sgr_cons (sg_expr (eg_fn (T_.check_size.ok rfl rfl) (by walk_at "gl") (check_size_ok T_ h v (by omega)) (by walk_at "lv") (pas_cons (eg_sh (i := 0) (by walk_at "vo") rfl) (pas_cons (eg_sh (i := 1) (by walk_at "vo") rfl) eas_nil)))) (sgr_ret (eg_tupleL (by walk_at "gl") T_.nTuple ?_))))
  · rw [enc_int.eq, enc_int.eq]
    have e1 : (h : Int).fmod a = 0 := by rw [Int.fmod_eq_emod_of_nonneg _ (by omega)]; omega
    have e2 : (v : Int).fmod b = 0 := by rw [Int.fmod_eq_emod_of_nonneg _ (by omega)]; omega
    rw [e1, e2]
    simp
    omega
  · unfold boxesL
    have e : ∀ i : Nat, ((List.range (v / b)).map fun j => boxAt (0 + (i : Nat) * (a : Int)) (0 + (j : Nat) * (b : Int)) a b).map (fun l => T.tup (l.map sqT)) = (List.range (v / b)).map fun j => T.tup ((boxAt (0 + (i : Nat) * (a : Int)) (0 + (j : Nat) * (b : Int)) a b).map sqT) := fun i => by rw [List.map_map]; rfl
    rw [List.map_flatMap]
    simp only [e]
    have l1 : h / a ≤ 9 := Nat.le_trans (Nat.div_le_self _ _) (by omega)
    have l2 : v / b ≤ 9 := Nat.le_trans (Nat.div_le_self _ _) (by omega)
    refine eg_lc2N (α := Nat) (β := Nat) (n1 := v / b) (toT := fun y => T.int (0 + (y : Nat) * (a : Int))) (toU := fun y => T.int (0 + (y : Nat) * (b : Int))) (i := 4) (j := 5) (by walk_at "bk") (by walk_at "nd") (by decide) (by walk_at "so") (by walk_at "so") (by walk_at "ln") (by walk_at "ln") (by walk_at "no") (by walk_at "no") ?_ (by omega)
      (ig_range3 (by walk_at "gl") T_.nRange eg_int (eg_sh (i := 0) (by walk_at "vo") rfl) (eg_sh (i := 2) (by walk_at "vo") rfl) (rgc_ok h hh.2.1 a ha.2 ha.1 ma)) (fun _ _ => by simp) (fun _ _ => ig_range3 (by walk_at "gl") T_.nRange eg_int (eg_sh (i := 1) (by walk_at "vo") rfl) (eg_sh (i := 3) (by walk_at "vo") rfl) (rgc_ok v hh.2.2.2 b hb.2 hb.1 mb)) fun i _ j _ => ?_
    · rw [List.length_range]
      exact Nat.le_trans (Nat.mul_le_mul l1 l2) (by decide)
    · exact eg_fn (T_.box_at.ok rfl rfl) (by walk_at "gl") (box_at_ok T_ _ _ a b (by omega)) (by walk_at "lv") (pas_cons (eg_sh (i := 4) (by walk_at "vo") rfl) (pas_cons (eg_sh (i := 5) (by walk_at "vo") rfl) (pas_cons (eg_sh (i := 2) (by walk_at "vo") rfl) (pas_cons (eg_sh (i := 3) (by walk_at "vo") rfl) eas_nil))))
/-! ### check_rows -/
theorem sc26 : FnScope ["rows", "row"] ["rows"] (defScope (top 26)) := by walk_at "sc"
/-- rows all alike, none bare -/
def rowsBad (ys : List Str) : Bool := decide (ys.length = 0) || (decide ((ys.headD "").length = 0) || ys.any fun y => !decide (y.length = (ys.headD "").length))
theorem head_at {ys : List Str} (h : ys ≠ []) : atI (ys.map T.str) 0 = some (.str (ys.headD "")) := by
  cases ys with
  | nil => exact absurd rfl h
  | cons y ys => exact at0
include T_ in
theorem rows_test (ys : List Str) {q : T} (hq : q = .lst (ys.map T.str) ∨ q = .tup (ys.map T.str)) (hl : ∀ y ∈ ys, y.length ≤ 1000) (hn : ys.length ≤ 1000) : ∃ c, (∃ A rest pos, defBody (top 26) = .If c A [] pos :: rest) ∧ TtG (defP P w K mg base 0 ["rows", "row"] (defScope (top 26))) [.sh q, .no] c (rowsBad ys) [.sh q, .no] := by
  refine ⟨_, ⟨_, _, _, rfl⟩, ?_⟩
  have sq := seq_of hq
  have e : rowsBad ys = (teq (.int ((ys.map T.str).length : Nat)) (.int 0) || (teq (.int ((ys.headD "").length : Nat)) (.int 0) || ((ys.map fun y => !teq (.int (y.length : Nat)) (.int ((ys.headD "").length : Nat))).any id))) := by
    simp only [enc_int.eq, List.length_map, rowsBad, List.any_map]
    congr 1
    · simp
    · congr 1
      · simp
      · congr 1
        funext y
        simp
        omega
  rw [e]
  refine tg_w (wg_or (pt_eq (n := 0) trivial trivial (eg_len sq (by walk_at "gl") T_.nLen (eg_sh (i := 0) (by walk_at "vo") rfl)) eg_int) fun h1 => ?_)
  have ne : ys ≠ [] := fun z => by subst z; exact absurd h1 (by decide +kernel)
  have hh : (ys.headD "").length ≤ 1000 := by
    cases ys with
    | nil => exact absurd rfl ne
    | cons y ys => exact hl y List.mem_cons_self
  refine wg_or (pt_eq (n := 0) trivial trivial (eg_lenStr (by walk_at "gl") T_.nLen (pg_item sq (head_at ne) (eg_sh (i := 0) (by walk_at "vo") rfl) eg_int) (by omega)) eg_int) fun _ => wg_or1 (tg_val (eg_any (by walk_at "gl") T_.nAny ?_))
  rw [List.map_map]
  refine (lcN (α := Str) (toT := T.str) (i := 1) (by walk_at "bk") (by walk_at "nd") (by walk_at "so") (by walk_at "ln") (by walk_at "no") (by omega) (pg_iter sq (eg_sh (i := 0) (by walk_at "vo") rfl)) fun y hy => ?_).eg
  exact pg_ne (n := 0) trivial trivial (eg_lenStr (by walk_at "gl") T_.nLen (eg_sh (i := 1) (by walk_at "vo") rfl) (by have := hl y hy; omega)) (eg_lenStr (by walk_at "gl") T_.nLen (pg_item sq (head_at ne) (eg_sh (i := 0) (by walk_at "vo") rfl) eg_int) (by omega))
theorem check_rows_ok (ys : List Str) {q : T} (hq : q = .lst (ys.map T.str) ∨ q = .tup (ys.map T.str)) (hl : ∀ y ∈ ys, y.length ≤ 1000) (hn : ys.length ≤ 1000) (hb : rowsBad ys = false) : Gives P w K mg base 1 T_.check_rows.f T_.check_rows.fd ["rows"] [q] (.tup (ys.map T.str)) := by
  obtain ⟨c, ⟨A, rest, pos, e⟩, t⟩ := rows_test (P := P) (w := w) (base := base) T_ ys hq hl hn
  cases e
  exact gives_p [.sh q, .no] T_.check_rows.F sc26 rfl rfl (sgr_ifFn hb t (sgr_ret (eg_tupleQ hq (by walk_at "gl") T_.nTuple (eg_sh (i := 0) (by walk_at "vo") rfl))))
theorem check_rows_no (ys : List Str) {q : T} (hq : q = .lst (ys.map T.str) ∨ q = .tup (ys.map T.str)) (hl : ∀ y ∈ ys, y.length ≤ 1000) (hn : ys.length ≤ 1000) (hb : rowsBad ys = true) : Errs P w K mg base 1 T_.check_rows.f T_.check_rows.fd ["rows"] [q] T_.xText.C := by
  obtain ⟨c, ⟨A, rest, pos, e⟩, t⟩ := rows_test (P := P) (w := w) (base := base) T_ ys hq hl hn
  cases e
  exact errs_p [.sh q, .no] T_.check_rows.F sc26 rfl rfl (sgx_ifT hb t (sgx_raise (T_.xText.ok rfl rfl) (by walk_at "gl")))
end
end K01
end Cw
end L2

set_option Elab.async false
set_option linter.all false
set_option maxRecDepth 100000
set_option maxHeartbeats 4000000
namespace L2
namespace Cw
namespace K01
open PySem PySem.Spec PyProof.Rows
local macro_rules | `(tactic| walk_at "vo") => `(tactic| exact ⟨rfl, by first | exact .inl rfl | exact .inr (.inl rfl) | exact .inr (.inr rfl), by decide, by decide⟩)
local macro_rules | `(tactic| walk_at "gl") => `(tactic| exact ⟨rfl, by decide⟩)
local macro_rules | `(tactic| walk_at "nd") => `(tactic| (dsimp only [SS.blk, defP]; decide +kernel))
local macro_rules | `(tactic| walk_at "so") => `(tactic| exact ⟨by walk_at "nd", rfl, by first | exact .inl rfl | exact .inr rfl, by first | exact .inl rfl | exact .inr rfl, by first | (dsimp only [SS.blk, defP, pins]; decide) | (simp [SS.blk, defP, pins, isOw, List.range_succ]; done)⟩)
local macro_rules | `(tactic| walk_at "bk") => `(tactic| exact blkOk_by (by walk_at "nd"))
local macro_rules | `(tactic| walk_at "ln") => `(tactic| (simp; done))
local macro_rules | `(tactic| walk_at "no") => `(tactic| (intro t; simp; done))
local macro_rules | `(tactic| walk_at "lv") => `(tactic| (dsimp only [SS.blk, defP]; decide))
local macro_rules | `(tactic| walk_at "sc") => `(tactic| exact ⟨rfl, rfl, rfl, by decide +kernel, rfl, by decide +kernel, by decide +kernel⟩)
/- a name's value -/
local macro_rules | `(tactic| walk_at "v") => `(tactic| first
  | exact eg_sh (i := 0) (by walk_at "vo") rfl | exact eg_sh (i := 1) (by walk_at "vo") rfl | exact eg_sh (i := 2) (by walk_at "vo") rfl | exact eg_sh (i := 3) (by walk_at "vo") rfl
  | exact eg_sh (i := 4) (by walk_at "vo") rfl | exact eg_sh (i := 5) (by walk_at "vo") rfl | exact eg_sh (i := 6) (by walk_at "vo") rfl | exact eg_sh (i := 7) (by walk_at "vo") rfl)
def nw (e : Ent) : Prop := ∀ t, e ≠ .ow t
theorem nw_no : nw .no := fun _ z => nomatch z
theorem nw_sh {t : T} : nw (.sh t) := fun _ z => nomatch z
/-! ### lots_of -/
def lotsStep (y : Nat) (l : List (Key × List T)) (p : Str × Nat) : List (Key × List T) := addTo l (.inr p.1) (sqT ((y : Int), (p.2 : Int)))
def lotsRow (l : List (Key × List T)) (q : Str × Nat) : List (Key × List T) := (signs q.1).zipIdx.foldl (lotsStep q.2) l
def lotsL (ys : List Str) : List (Key × List T) := ys.zipIdx.foldl lotsRow []
theorem step_wt (y : Nat) : ∀ (ps : List (Str × Nat)) (l : List (Key × List T)), wtL (ps.foldl (lotsStep y) l) ≤ wtL l + 2 * ps.length
  | [], l => Nat.le_refl _
  | p :: ps, l => by
    have h := step_wt y ps (lotsStep y l p)
    have h2 := wt_add l (.inr p.1) (sqT ((y : Int), (p.2 : Int)))
    rw [List.length_cons, List.foldl_cons]
    unfold lotsStep at h ⊢
    omega
theorem row_wt {m : Nat} : ∀ (qs : List (Str × Nat)) (l : List (Key × List T)), (∀ q ∈ qs, q.1.length ≤ m) → wtL (qs.foldl lotsRow l) ≤ wtL l + 2 * m * qs.length
  | [], l, _ => Nat.le_refl _
  | q :: qs, l, h => by
    have h1 := row_wt qs (lotsRow l q) fun x hx => h x (List.mem_cons_of_mem _ hx)
    have h2 := step_wt q.2 (signs q.1).zipIdx l
    have h3 := h q List.mem_cons_self
    rw [List.length_zipIdx, signs_length] at h2
    have h4 : q.1.cps.size ≤ m := h3
    rw [List.foldl_cons, List.length_cons, Nat.mul_add, Nat.mul_one]
    have h5 : wtL (lotsRow l q) ≤ wtL l + 2 * q.1.cps.size := h2
    omega
theorem step_nd (y : Nat) : ∀ (ps : List (Str × Nat)) (l : List (Key × List T)), (l.map (·.1)).Nodup → ((ps.foldl (lotsStep y) l).map (·.1)).Nodup
  | [], l, h => h
  | p :: ps, l, h => step_nd y ps _ (addTo_nodup h)
theorem row_nd : ∀ (qs : List (Str × Nat)) (l : List (Key × List T)), (l.map (·.1)).Nodup → ((qs.foldl lotsRow l).map (·.1)).Nodup
  | [], l, h => h
  | q :: qs, l, h => row_nd qs _ (step_nd q.2 _ l h)
theorem lots_nd (ys : List Str) : ((lotsL ys).map (·.1)).Nodup := row_nd _ _ List.nodup_nil
/-- the keys are texts -/
def Txt1 (l : List (Key × List T)) : Prop := ∀ p ∈ l, ∃ s, p.1 = .inr s ∧ PyData.strOk s = true
theorem txt1_add {l : List (Key × List T)} {s : Str} {t : T} (h : Txt1 l) (hs : PyData.strOk s = true) : Txt1 (addTo l (.inr s) t) := fun p hp => by
  have hk : p.1 ∈ (addTo l (.inr s) t).map (·.1) := List.mem_map_of_mem hp
  have old : p.1 ∈ l.map (·.1) → ∃ s, p.1 = .inr s ∧ PyData.strOk s = true := fun m => by
    rcases List.mem_map.mp m with ⟨q, hq, e⟩
    rw [← e]; exact h q hq
  by_cases n : (Sum.inr s : Key) ∈ l.map (·.1)
  · rw [(addTo_keys l _ t).1 n] at hk; exact old hk
  · rw [(addTo_keys l _ t).2 n] at hk
    rcases List.mem_append.mp hk with m | m
    · exact old m
    · exact ⟨s, List.mem_singleton.mp m, hs⟩
theorem step_txt (y : Nat) : ∀ (ps : List (Str × Nat)) (l : List (Key × List T)), (∀ p ∈ ps, PyData.strOk p.1 = true) → Txt1 l → Txt1 (ps.foldl (lotsStep y) l)
  | [], l, _, h => h
  | p :: ps, l, hp, h => step_txt y ps _ (fun x hx => hp x (List.mem_cons_of_mem _ hx)) (txt1_add h (hp p List.mem_cons_self))
theorem row_txt : ∀ (qs : List (Str × Nat)) (l : List (Key × List T)), (∀ q ∈ qs, ∀ s ∈ signs q.1, PyData.strOk s = true) → Txt1 l → Txt1 (qs.foldl lotsRow l)
  | [], l, _, h => h
  | q :: qs, l, hq, h => row_txt qs _ (fun x hx => hq x (List.mem_cons_of_mem _ hx)) (step_txt q.2 _ l (fun p hp => hq q List.mem_cons_self p.1 (by
    have := List.mem_zipIdx' hp
    rw [this.2]; exact List.getElem_mem _)) h)
section
variable {P : Program} {w : World} {K : PySem.W.Frag} {mg : Str → Option Value} {base : Heap} (T_ : Tx K mg)
theorem sc25 : FnScope ["rows", "lots", "y", "row", "x", "sign"] ["rows"] (defScope (top 25)) := by walk_at "sc"
def lotsG (q : T) (F : List Ent) : Prop := ∃ a b c d, F = [.sh q, .no, a, b, c, d] ∧ nw a ∧ nw b ∧ nw c ∧ nw d
def lotsD (ys : List Str) : List (Key × T) := (srtBy (fun p => kT p.1) (lotsL ys)).map fun p => (p.1, .tup p.2)
theorem lots_of_ok (ys : List Str) {q : T} (hq : q = .lst (ys.map T.str) ∨ q = .tup (ys.map T.str)) (hl : ∀ y ∈ ys, y.length ≤ 100) (hn : ys.length ≤ 100) (hb : rowsBad ys = false) (hs : ∀ y ∈ ys, ∀ s ∈ signs y, PyData.strOk s = true) : Gives P w K mg base 2 T_.lots_of.f T_.lots_of.fd ["rows"] [q] (dKey (lotsD ys)) := by
  have wt : ∀ qs : List (Str × Nat), qs <+: ys.zipIdx → wtL (qs.foldl lotsRow []) ≤ 20000 := fun qs h => by
    have h1 := row_wt (m := 100) qs [] fun q hq => hl q.1 (by
      have := List.mem_zipIdx' (h.subset hq)
      rw [this.2]; exact List.getElem_mem _) 
    have h2 := h.length_le
    rw [List.length_zipIdx] at h2
    have : wtL ([] : List (Key × List T)) = 0 := rfl
    omega
  have step : ∃ F, PvS (defP P w K mg base 1 ["rows", "lots", "y", "row", "x", "sign"] (defScope (top 25))) dKey 1 [.sh q, .no, .no, .no, .no, .no] [] ((defBody (top 25)).getD 1 (.Pass ⟨0, 0, 0, 0⟩)) F (lotsL ys) ∧ lotsG q F := by
    refine Exists.elim (PFor.some (S := defP P w K mg base 1 ["rows", "lots", "y", "row", "x", "sign"] (defScope (top 25))) (D := dKey) (j := 1) (tg := match (defBody (top 25)).getD 1 (.Pass ⟨0, 0, 0, 0⟩) with | .For t _ _ _ _ => t | _ => .Constant .none 0 ⟨0, 0, 0, 0⟩) (body := match (defBody (top 25)).getD 1 (.Pass ⟨0, 0, 0, 0⟩) with | .For _ _ b _ _ => b | _ => []) (toT := fun p : Str × Nat => T.tup [.int (p.2 : Nat), .str p.1]) (G := fun _ F => lotsG q F) (Lv := fun pre => pre.foldl lotsRow []) (xs := ys.zipIdx) ?_ (F := [.sh q, .no, .no, .no, .no, .no]) ⟨_, _, _, _, rfl, nw_no, nw_no, nw_no, nw_no⟩) ?_
    rotate_left
    · rintro F ⟨r, g⟩
      refine ⟨F, ?_, g⟩
      refine pvs_for (ts := ys.zipIdx.map fun p : Str × Nat => T.tup [.int (p.2 : Nat), .str p.1]) (fun d => ?_) r
      rw [← enumT_zip T.str]
      exact ig_enumTup (by walk_at "gl") T_.nEnum (eg_fn (T_.check_rows.ok rfl rfl) (by walk_at "gl") (check_rows_ok T_ ys hq (fun y hy => Nat.le_trans (hl y hy) (by decide)) (by omega) hb) (by walk_at "lv") (pas_cons (eg_sh (i := 0) (by walk_at "vo") rfl) eas_nil))
    · rintro pre ⟨r, y⟩ post F e ⟨a, b, c, d, rfl, na, nb, nc, nd⟩
      refine Exists.elim (PFor.some (S := defP P w K mg base 1 ["rows", "lots", "y", "row", "x", "sign"] (defScope (top 25))) (D := dKey) (j := 1) (tg := match (match (defBody (top 25)).getD 1 (.Pass ⟨0, 0, 0, 0⟩) with | .For _ _ b _ _ => b.getD 0 (.Pass ⟨0, 0, 0, 0⟩) | s => s) with | .For t _ _ _ _ => t | _ => .Constant .none 0 ⟨0, 0, 0, 0⟩) (body := match (match (defBody (top 25)).getD 1 (.Pass ⟨0, 0, 0, 0⟩) with | .For _ _ b _ _ => b.getD 0 (.Pass ⟨0, 0, 0, 0⟩) | s => s) with | .For _ _ b _ _ => b | _ => []) (toT := fun p : Str × Nat => T.tup [.int (p.2 : Nat), .str p.1]) (G := fun _ F => ∃ c d, F = [.sh q, .no, .sh (.int (y : Nat)), .sh (.str r), c, d] ∧ nw c ∧ nw d) (Lv := fun pre2 => pre2.foldl (lotsStep y) (pre.foldl lotsRow [])) (xs := (signs r).zipIdx) ?_ (F := [.sh q, .no, .sh (.int (y : Nat)), .sh (.str r), c, d]) ⟨_, _, rfl, nc, nd⟩) ?_
      rotate_left
      · rintro F1 ⟨rr, c2, d2, rfl, nc2, nd2⟩
        refine ⟨[.sh q, .no, .sh (.int (y : Nat)), .sh (.str r), c, d], [2, 3], [.sh q, .no, .sh (.int (y : Nat)), .sh (.str r), c2, d2], fun d' => ag_two (i := 2) (j := 3) (.inl rfl) (by walk_at "so") (by walk_at "so") (by walk_at "ln") (by walk_at "ln"), ?_, ⟨_, _, _, _, rfl, nw_sh, nw_sh, nc2, nd2⟩⟩
        have e2 : (pre ++ [(r, y)]).foldl lotsRow [] = (signs r).zipIdx.foldl (lotsStep y) (pre.foldl lotsRow []) := by rw [List.foldl_append]; rfl
        rw [e2]
        refine pvb_one (pvs_for (ts := (signs r).zipIdx.map fun p : Str × Nat => T.tup [.int (p.2 : Nat), .str p.1]) (fun d => ?_) rr)
        rw [← enumT_zip T.str]
        exact ig_enumStr (by walk_at "gl") T_.nEnum (eg_sh (i := 3) (by walk_at "vo") rfl)
      · rintro pre2 ⟨s, x⟩ post2 F e2 ⟨c, d, rfl, nc, nd⟩
        refine ⟨[.sh q, .no, .sh (.int (y : Nat)), .sh (.str r), .sh (.int (x : Nat)), .sh (.str s)], [4, 5], [.sh q, .no, .sh (.int (y : Nat)), .sh (.str r), .sh (.int (x : Nat)), .sh (.str s)], fun d' => ag_two (i := 4) (j := 5) (.inl rfl) (by walk_at "so") (by walk_at "so") (by walk_at "ln") (by walk_at "ln"), ?_, ⟨_, _, rfl, nw_sh, nw_sh⟩⟩
        have w1 := wt pre ⟨_, e⟩
        have w2 := step_wt y pre2 (pre.foldl lotsRow [])
        have w3 : pre2.length ≤ 100 := by
          have := congrArg List.length e2
          rw [List.length_append, List.length_zipIdx, signs_length] at this
          have h3 := hl r (by
            have := List.mem_zipIdx' (show (r, y) ∈ ys.zipIdx by rw [← e]; simp)
            rw [this.2]; exact List.getElem_mem _)
          have h4 : r.cps.size ≤ 100 := h3
          omega
        have w4 := wt_len (pre2.foldl (lotsStep y) (pre.foldl lotsRow []))
        have w5 := wt_each (pre2.foldl (lotsStep y) (pre.foldl lotsRow []))
        have e3 : (pre2 ++ [(s, x)]).foldl (lotsStep y) (pre.foldl lotsRow []) = addTo (pre2.foldl (lotsStep y) (pre.foldl lotsRow [])) (.inr s) (sqT ((y : Int), (x : Int))) := by rw [List.foldl_append]; rfl
        rw [e3]
        exact pvb_one (pvs_setd (by walk_at "vo") (by walk_at "ln") (fun d => eg_sh (i := 5) (by walk_at "vo") rfl) (fun d => pg_tup2 (eg_sh (i := 2) (by walk_at "vo") rfl) (eg_sh (i := 4) (by walk_at "vo") rfl)) (by omega) (fun p hp => by have := w5 p hp; omega) (fun X => ⟨rfl, rfl, rfl, rfl⟩) ⟨fun _ => rfl, fun _ => rfl, rfl, fun _ => rfl, fun _ => rfl⟩)
  obtain ⟨F, st, a, b, c, d, rfl, na, nb, nc, nd⟩ := step
  have nd1 := lots_nd ys
  have w1 := wt ys.zipIdx (List.prefix_refl _)
  have w2 := wt_len (lotsL ys)
  have w3 : wtL (lotsL ys) ≤ 20000 := w1
  have tx : Txt1 (lotsL ys) := row_txt _ _ (fun q hq => hs q.1 (by
    have := List.mem_zipIdx' hq
    rw [this.2]; exact List.getElem_mem _)) (fun _ h => nomatch h)
  have pm : (srtBy (fun p : Key × List T => kT p.1) (lotsL ys)).Perm (lotsL ys) := srtBy_perm
  have nd2 : ((lotsD ys).map (·.1)).Nodup := by
    unfold lotsD
    rw [List.map_map]
    exact (pm.map (·.1)).nodup_iff.mpr nd1
  have ln := pm.length_eq
  refine gives_p [.sh q, .no, .no, .no, .no, .no] T_.lots_of.F sc25 rfl rfl (sgr_cons (E1 := [.sh q, .ow (dKey []), .no, .no, .no, .no]) (sg_setO (i := 1) (t := dKey []) (by walk_at "so") eo_dictK0 (by walk_at "ln")) (sgr_cons (E1 := [.sh q, .ow (dKey (lsL (lotsL ys))), a, b, c, d]) (sg_pv0 settleK st) (sgr_retE (E1 := [.sh q, .sh (dKey (lsL (lotsL ys))), a, b, c, d]) (eg_o ?_))))
  rw [← List.nil_append (lotsD ys), ← mergeT_new (lotsD ys) [] nd2]
  refine DcD.eo (dcK (xs := srtBy (fun p : Key × List T => kT p.1) (lotsL ys)) (toT := fun p => kT p.1) (kf := fun p => p.1) (vf := fun p => .tup p.2) (i := 5) (by walk_at "bk") (by walk_at "nd") (by walk_at "so") (by walk_at "ln") (fun t z => nd t (Option.some.inj z)) (by omega) ?_ (fun p hp => ?_) fun p hp => ?_)
  · rw [← sortT_map]
    refine ig_seq .lst (eg_sortedD (ts := (lotsL ys).map fun p => kT p.1) ?_ ?_ (by walk_at "gl") T_.nSorted (eg_fz (i := 1) (by walk_at "vo") rfl))
    · have e : ((lotsL ys).map fun p => kT p.1) = (lsL (lotsL ys)).map fun p => kT p.1 := by unfold lsL; rw [List.map_map]; rfl
      rw [e]; exact drawn_dK
    · have e : ((lotsL ys).map fun p => kT p.1) = ((lotsL ys).map fun p => match p.1 with | .inr s => s | _ => "").map T.str := by
        rw [List.map_map]
        apply List.map_congr_left
        intro p hp
        obtain ⟨s, e, _⟩ := tx p hp
        show kT p.1 = T.str (match p.1 with | .inr s => s | _ => "")
        rw [e]; rfl
      rw [e]
      refine srtok_str _ fun s hs => ?_
      obtain ⟨p, hp, rfl⟩ := List.mem_map.mp hs
      obtain ⟨s, e, ok⟩ := tx p hp
      show PyData.strOk (match p.1 with | .inr s => s | _ => "") = true
      rw [e]; exact ok
  · exact eg_sh (i := 5) (by walk_at "vo") rfl
  · have hp' := srtBy_mem.mp hp
    refine eg_tupleL (by walk_at "gl") T_.nTuple (eg_getK (da_sh (E2 := _) (eg_sh (i := 1) (by walk_at "vo") rfl)) (eg_sh (i := 5) (by walk_at "vo") rfl) (getN_lsL nd1 hp').1)
end
end K01
end Cw
end L2

set_option Elab.async false
set_option linter.all false
set_option maxRecDepth 100000
set_option maxHeartbeats 4000000
namespace L2
namespace Cw
namespace K01
open PySem PySem.Spec PyProof.Rows
local macro_rules | `(tactic| walk_at "vo") => `(tactic| exact ⟨rfl, by first | exact .inl rfl | exact .inr (.inl rfl) | exact .inr (.inr rfl), by decide, by decide⟩)
local macro_rules | `(tactic| walk_at "gl") => `(tactic| exact ⟨rfl, by decide⟩)
local macro_rules | `(tactic| walk_at "nd") => `(tactic| (dsimp only [SS.blk, defP]; decide +kernel))
local macro_rules | `(tactic| walk_at "so") => `(tactic| exact ⟨by walk_at "nd", rfl, by first | exact .inl rfl | exact .inr rfl, by first | exact .inl rfl | exact .inr rfl, by first | (dsimp only [SS.blk, defP, pins]; decide) | (simp [SS.blk, defP, pins, isOw, List.range_succ]; done)⟩)
local macro_rules | `(tactic| walk_at "bk") => `(tactic| exact blkOk_by (by walk_at "nd"))
local macro_rules | `(tactic| walk_at "ln") => `(tactic| (simp; done))
local macro_rules | `(tactic| walk_at "no") => `(tactic| (intro t; simp; done))
local macro_rules | `(tactic| walk_at "lv") => `(tactic| (dsimp only [SS.blk, defP]; decide))
local macro_rules | `(tactic| walk_at "sc") => `(tactic| exact ⟨rfl, rfl, rfl, by decide +kernel, rfl, by decide +kernel, by decide +kernel⟩)
/- a name's value -/
local macro_rules | `(tactic| walk_at "v") => `(tactic| first
  | exact eg_sh (i := 0) (by walk_at "vo") rfl | exact eg_sh (i := 1) (by walk_at "vo") rfl | exact eg_sh (i := 2) (by walk_at "vo") rfl | exact eg_sh (i := 3) (by walk_at "vo") rfl
  | exact eg_sh (i := 4) (by walk_at "vo") rfl | exact eg_sh (i := 5) (by walk_at "vo") rfl | exact eg_sh (i := 6) (by walk_at "vo") rfl | exact eg_sh (i := 7) (by walk_at "vo") rfl)
section
variable {P : Program} {w : World} {K : PySem.W.Frag} {mg : Str → Option Value} {base : Heap} (T_ : Tx K mg)
theorem lots_of_no (ys : List Str) {q : T} (hq : q = .lst (ys.map T.str) ∨ q = .tup (ys.map T.str)) (hl : ∀ y ∈ ys, y.length ≤ 1000) (hn : ys.length ≤ 1000) (hb : rowsBad ys = true) : Errs P w K mg base 2 T_.lots_of.f T_.lots_of.fd ["rows"] [q] T_.xText.C :=
  errs_p [.sh q, .no, .no, .no, .no, .no] T_.lots_of.F sc25 rfl rfl (sgx_cons (E1 := [.sh q, .ow (dKey []), .no, .no, .no, .no]) (sg_setO (i := 1) (t := dKey []) (by walk_at "so") eo_dictK0 (by walk_at "ln")) (sgx_stop (sg_forX (ex_bi (x := "enumerate") (id := "enumerate") (v := .type "enumerate") (by decide +kernel) (.inr rfl) (by walk_at "gl") T_.nEnum (ex_fn (T_.check_rows.ok rfl rfl) (by walk_at "gl") (check_rows_no T_ ys hq hl hn hb) (by walk_at "lv") (pas_cons (eg_sh (i := 0) (by walk_at "vo") rfl) eas_nil))))))
end
/-! ### lots of squares as tables -/
def sqK (p : Sq) : List NestedKey := [.num p.1, .num p.2]
def lotP (xs : List Sq) : List (NestedKey × T) := xs.map fun p => (.tup (sqK p), .bl true)
def lotT (w : World) (xs : List Sq) : T := dN w (lotP xs)
theorem sqK_T (p : Sq) : keyT (.tup (sqK p)) = sqT p := rfl
theorem sqK_inj {p q : Sq} (h : NestedKey.tup (sqK p) = .tup (sqK q)) : p = q := by
  obtain ⟨a, b⟩ := p
  obtain ⟨c, d⟩ := q
  simp only [sqK, NestedKey.tup.injEq, List.cons.injEq, NestedKey.num.injEq, and_true] at h
  rw [h.1, h.2]
theorem sqK_depth (p : Sq) : (NestedKey.tup (sqK p)).depth ≤ 8 := by
  show _ ≤ 8
  simp [sqK, NestedKey.depth, NestedKey.depthAll]
theorem lot_get (xs : List Sq) (p : Sq) : getN (lotP xs) (.tup (sqK p)) = if p ∈ xs then some (.bl true) else none := by
  induction xs with
  | nil => rfl
  | cons x xs ih =>
    show getN ((NestedKey.tup (sqK x), T.bl true) :: lotP xs) _ = _
    unfold getN at ih ⊢
    rw [List.find?_cons]
    by_cases h : x = p
    · subst h
      simp
    · have h1 : ¬ NestedKey.tup (sqK x) = .tup (sqK p) := fun z => h (sqK_inj z)
      simp only [h1, decide_false, Bool.false_eq_true, if_false]
      rw [ih]
      have h2 : p ∈ x :: xs ↔ p ∈ xs := ⟨fun z => (List.mem_cons.mp z).resolve_left fun e => h e.symm, List.mem_cons_of_mem _⟩
      simp only [h2]
theorem lot_has (xs : List Sq) (p : Sq) : (getN (lotP xs) (.tup (sqK p))).isSome = decide (p ∈ xs) := by
  rw [lot_get]
  by_cases h : p ∈ xs <;> simp [h]
def addS (xs : List Sq) (p : Sq) : List Sq := if p ∈ xs then xs else xs ++ [p]
theorem lot_put (xs : List Sq) (p : Sq) : putN (lotP xs) (.tup (sqK p)) (.bl true) = lotP (addS xs p) := by
  unfold putN addS
  rw [lot_has]
  by_cases h : p ∈ xs
  · simp only [h, decide_true, if_true]
    unfold lotP
    rw [List.map_map]
    refine List.map_congr_left fun q _ => ?_
    simp
  · simp only [h, decide_false, Bool.false_eq_true, if_false]
    unfold lotP
    rw [List.map_append]
    rfl
theorem lot_len (xs : List Sq) : (lotP xs).length = xs.length := List.length_map _
/-! ### reached -/
def fillStep (lot : List Sq) (s : List Sq × List Sq) (q : Sq) : List Sq × List Sq := if q ∈ lot ∧ q ∉ s.1 then (s.1 ++ [q], s.2 ++ [q]) else s
def fillN (lot : List Sq) : Nat → List Sq × List Sq → List Sq
  | 0, s => s.1
  | n + 1, s => match s.2.getLast? with
    | none => s.1
    | some p => fillN lot n ((stepD p sidesL).foldl (fillStep lot) (s.1, s.2.dropLast))
/-- what may still come -/
def fillM (lot : List Sq) (s : List Sq × List Sq) : Nat := (lot.filter fun q => decide (q ∉ s.1)).length + s.2.length
theorem fill_one (lot : List Sq) (s : List Sq × List Sq) (q : Sq) : fillM lot (fillStep lot s q) ≤ fillM lot s := by
  unfold fillStep
  split
  · rename_i h
    unfold fillM
    simp only [List.length_singleton, List.length_append]
    have lt : (lot.filter fun r => decide (r ∉ s.1 ++ [q])).length < (lot.filter fun r => decide (r ∉ s.1)).length := by
      have e : (lot.filter fun r => decide (r ∉ s.1 ++ [q])) = (lot.filter fun r => decide (r ∉ s.1)).filter fun r => decide (r ≠ q) := by
        rw [List.filter_filter]
        refine List.filter_congr fun r _ => ?_
        by_cases h1 : r ∈ s.1 <;> by_cases h2 : r = q <;> simp [h1, h2]
      rw [e]
      refine List.length_filter_lt_length_iff_exists.mpr ⟨q, List.mem_filter.mpr ⟨h.1, by simpa using h.2⟩, by simp⟩
    omega
  · exact Nat.le_refl _
theorem fill_all (lot : List Sq) : ∀ (qs : List Sq) (s : List Sq × List Sq), fillM lot (qs.foldl (fillStep lot) s) ≤ fillM lot s
  | [], s => Nat.le_refl _
  | q :: qs, s => Nat.le_trans (fill_all lot qs _) (fill_one lot s q)
section
variable {P : Program} {w : World} {K : PySem.W.Frag} {mg : Str → Option Value} {base : Heap} (T_ : Tx K mg)
theorem sc27 : FnScope ["spot", "lot", "seen", "waiting", "place"] ["spot", "lot"] (defScope (top 27)) := by walk_at "sc"
def rE (w : World) (spot : Sq) (lot : List Sq) (s : List Sq × List Sq) (e : Ent) : List Ent := [.sh (sqT spot), .sh (lotT w lot), .ow (lotT w s.1), .ow (.lst (s.2.map sqT)), e]
abbrev rS (P : Program) (w : World) (K : PySem.W.Frag) (mg : Str → Option Value) (base : Heap) : SS := defP P w K mg base 1 ["spot", "lot", "seen", "waiting", "place"] (defScope (top 27))
abbrev rW : Stmt := (defBody (top 27)).getD 2 (.Pass ⟨0, 0, 0, 0⟩)
abbrev rC : Expr := match rW with | .While c _ _ _ => c | _ => .Constant .none 0 ⟨0, 0, 0, 0⟩
abbrev rB : List Stmt := match rW with | .While _ b _ _ => b | _ => []
include T_ in
theorem reach_turn (spot p : Sq) (lot : List Sq) (s : List Sq × List Sq) (e : Ent) (he : nw e) (hl : s.1.length + 4 ≤ 5000) (h2 : s.2.length + 4 ≤ 5000) : ∃ e', nw e' ∧ SGs (rS P w K mg base) (rE w spot lot (s.1, s.2 ++ [p]) e) rB (.nx (rE w spot lot ((stepD p sidesL).foldl (fillStep lot) s) e')) := by
  have len : ∀ pre : List Sq, pre.length ≤ 4 → (pre.foldl (fillStep lot) s).1.length ≤ s.1.length + pre.length ∧ (pre.foldl (fillStep lot) s).2.length ≤ s.2.length + pre.length := fun pre => by
    clear hl h2
    induction pre generalizing s with
    | nil => intro _; exact ⟨Nat.le_refl _, Nat.le_refl _⟩
    | cons q pre ih =>
      intro h
      rw [List.length_cons] at h
      obtain ⟨a, b⟩ := ih (fillStep lot s q) (by omega)
      have c : (fillStep lot s q).1.length ≤ s.1.length + 1 ∧ (fillStep lot s q).2.length ≤ s.2.length + 1 := by
        unfold fillStep
        split <;> simp
      rw [List.length_cons, List.foldl_cons]
      omega
  refine Exists.elim (ForR.some (S := rS P w K mg base) (tg := match rB.getD 0 (.Pass ⟨0, 0, 0, 0⟩) with | .For t _ _ _ _ => t | _ => .Constant .none 0 ⟨0, 0, 0, 0⟩) (body := match rB.getD 0 (.Pass ⟨0, 0, 0, 0⟩) with | .For _ _ b _ _ => b | _ => []) (toT := sqT) (G := fun pre F => ∃ e, nw e ∧ F = rE w spot lot (pre.foldl (fillStep lot) s) e) (xs := stepD p sidesL) ?_ (F := rE w spot lot s e) ⟨e, he, rfl⟩) ?_
  · rintro pre x post F eq ⟨e1, he1, rfl⟩
    have pl : pre.length ≤ 3 := by
      have := congrArg List.length eq
      simp [stepD, sidesL] at this
      omega
    obtain ⟨l1, l2⟩ := len pre (by omega)
    rw [List.foldl_append]
    generalize pre.foldl (fillStep lot) s = t at l1 l2 ⊢
    show ∃ Fa ws F1, AG _ (rE w spot lot t e1) _ (sqT x) Fa ws ∧ _ ∧ ∃ e, nw e ∧ F1 = rE w spot lot (fillStep lot t x) e
    refine ⟨rE w spot lot t (.sh (sqT x)), [4], rE w spot lot (fillStep lot t x) (.sh (sqT x)), ag_name (i := 4) (by walk_at "so") (show 4 < 5 by decide), ?_, ⟨_, nw_sh, rfl⟩⟩
    have tst : TtG (rS P w K mg base) (rE w spot lot t (.sh (sqT x))) (match (match rB.getD 0 (.Pass ⟨0, 0, 0, 0⟩) with | .For _ _ b _ _ => b | _ => []).getD 0 (.Pass ⟨0, 0, 0, 0⟩) with | .If c _ _ _ => c | _ => .Constant .none 0 ⟨0, 0, 0, 0⟩) (decide (x ∈ lot) && !decide (x ∈ t.1)) (rE w spot lot t (.sh (sqT x))) := by
      rw [← lot_has lot x, ← lot_has t.1 x]
      exact tg_w (wg_and (tt_c (cg_inN (kt := sqT x) (eg_sh (i := 4) (by walk_at "vo") rfl) (da_sh (eg_sh (i := 1) (by walk_at "vo") rfl)) (keyT_self _) (sqK_depth x))) fun _ => wg_and1 (tt_c (cg_ninN (kt := sqT x) (eg_sh (i := 4) (by walk_at "vo") rfl) (da_ow (i := 2) (by walk_at "vo") rfl rfl) (keyT_self _) (sqK_depth x))))
    by_cases h : x ∈ lot ∧ x ∉ t.1
    · have e2 : fillStep lot t x = (t.1 ++ [x], t.2 ++ [x]) := by unfold fillStep; rw [if_pos h]
      have e3 : addS t.1 x = t.1 ++ [x] := by unfold addS; rw [if_neg h.2]
      rw [e2]
      refine sgs_one (sg_ifT (d := decide (x ∈ lot) && !decide (x ∈ t.1)) (by simp [h]) tst ?_)
      refine sgs_cons (E1 := rE w spot lot (t.1 ++ [x], t.2) (.sh (sqT x))) ?_ (sgs_one (sg_nx (sg_append (l := 3) (by walk_at "vo") rfl (eg_sh (i := 4) (by walk_at "vo") rfl) rfl (by rw [List.length_map]; show t.2.length < 16777216; omega) ⟨fun _ => rfl, fun _ => rfl, rfl, fun _ => rfl, fun _ => rfl⟩) (by simp [rE])))
      refine sg_nx (sg_putN (j := 2) (l := lotP t.1) (ks := sqK x) (t := .bl true) eg_bl (by walk_at "vo") rfl (eg_sh (i := 4) (by walk_at "vo") rfl) rfl (sqK_depth x) (by rw [lot_len]; omega)) ?_
      rw [lot_put, e3]
      rfl
    · have e2 : fillStep lot t x = t := by unfold fillStep; rw [if_neg h]
      rw [e2]
      refine sgs_one (sg_ifFn (d := decide (x ∈ lot) && !decide (x ∈ t.1)) ?_ tst)
      by_cases h1 : x ∈ lot <;> by_cases h2 : x ∈ t.1 <;> simp [h1, h2] at h ⊢
  · rintro F ⟨r, e', he', rfl⟩
    refine ⟨e', he', sgs_one (sg_for (E1 := rE w spot lot s e) (ts := (stepD p sidesL).map sqT) (ig_seq .lst (eg_fn (T_.stepped.ok rfl rfl) (by walk_at "gl") (stepped_ok T_ p sidesL (by simp [sidesL])) (by walk_at "lv") (eas_cons ?_ (pas_cons (eg_glob (v := .ref T_.sides) (by walk_at "gl") T_.mgSides rfl T_.repSides) eas_nil)))) r)⟩
    exact eg_pop (l := 3) (ts := s.2.map sqT) (by walk_at "vo") (by simp [rE])
end
end K01
end Cw
end L2

set_option Elab.async false
set_option linter.all false
set_option maxRecDepth 100000
set_option maxHeartbeats 4000000
namespace L2
namespace Cw
namespace K01
open PySem PySem.Spec PyProof.Rows
local macro_rules | `(tactic| walk_at "vo") => `(tactic| exact ⟨rfl, by first | exact .inl rfl | exact .inr (.inl rfl) | exact .inr (.inr rfl), by decide, by decide⟩)
local macro_rules | `(tactic| walk_at "gl") => `(tactic| exact ⟨rfl, by decide⟩)
local macro_rules | `(tactic| walk_at "nd") => `(tactic| (dsimp only [SS.blk, defP]; decide +kernel))
local macro_rules | `(tactic| walk_at "so") => `(tactic| exact ⟨by walk_at "nd", rfl, by first | exact .inl rfl | exact .inr rfl, by first | exact .inl rfl | exact .inr rfl, by first | (dsimp only [SS.blk, defP, pins]; decide) | (simp [SS.blk, defP, pins, isOw, List.range_succ]; done)⟩)
local macro_rules | `(tactic| walk_at "bk") => `(tactic| exact blkOk_by (by walk_at "nd"))
local macro_rules | `(tactic| walk_at "ln") => `(tactic| (simp; done))
local macro_rules | `(tactic| walk_at "no") => `(tactic| (intro t; simp; done))
local macro_rules | `(tactic| walk_at "lv") => `(tactic| (dsimp only [SS.blk, defP]; decide))
local macro_rules | `(tactic| walk_at "sc") => `(tactic| exact ⟨rfl, rfl, rfl, by decide +kernel, rfl, by decide +kernel, by decide +kernel⟩)
/- a name's value -/
local macro_rules | `(tactic| walk_at "v") => `(tactic| first
  | exact eg_sh (i := 0) (by walk_at "vo") rfl | exact eg_sh (i := 1) (by walk_at "vo") rfl | exact eg_sh (i := 2) (by walk_at "vo") rfl | exact eg_sh (i := 3) (by walk_at "vo") rfl
  | exact eg_sh (i := 4) (by walk_at "vo") rfl | exact eg_sh (i := 5) (by walk_at "vo") rfl | exact eg_sh (i := 6) (by walk_at "vo") rfl | exact eg_sh (i := 7) (by walk_at "vo") rfl)
def fillK (lot : List Sq) (s : List Sq × List Sq) : Nat := (lot.filter fun q => decide (q ∉ s.1)).length + s.1.length
theorem fillK_one (lot : List Sq) (s : List Sq × List Sq) (q : Sq) : fillK lot (fillStep lot s q) ≤ fillK lot s := by
  unfold fillStep
  split
  · rename_i h
    unfold fillK
    simp only [List.length_singleton, List.length_append]
    have lt : (lot.filter fun r => decide (r ∉ s.1 ++ [q])).length < (lot.filter fun r => decide (r ∉ s.1)).length := by
      have e : (lot.filter fun r => decide (r ∉ s.1 ++ [q])) = (lot.filter fun r => decide (r ∉ s.1)).filter fun r => decide (r ≠ q) := by
        rw [List.filter_filter]
        refine List.filter_congr fun r _ => ?_
        by_cases h1 : r ∈ s.1 <;> by_cases h2 : r = q <;> simp [h1, h2]
      rw [e]
      refine List.length_filter_lt_length_iff_exists.mpr ⟨q, List.mem_filter.mpr ⟨h.1, by simpa using h.2⟩, by simp⟩
    omega
  · exact Nat.le_refl _
theorem fillK_all (lot : List Sq) : ∀ (qs : List Sq) (s : List Sq × List Sq), fillK lot (qs.foldl (fillStep lot) s) ≤ fillK lot s
  | [], s => Nat.le_refl _
  | q :: qs, s => Nat.le_trans (fillK_all lot qs _) (fillK_one lot s q)
theorem fillN_snoc (lot : List Sq) (n : Nat) (xs us : List Sq) (p : Sq) : fillN lot (n + 1) (xs, us ++ [p]) = fillN lot n ((stepD p sidesL).foldl (fillStep lot) (xs, us)) := by
  rw [fillN]
  simp
theorem fillN_nil (lot : List Sq) (n : Nat) (xs : List Sq) : fillN lot n (xs, []) = xs := by
  cases n <;> simp [fillN]
def reachL (lot : List Sq) (spot : Sq) : List Sq := srtBy sq2 (fillN lot (lot.length + 2) ([spot], [spot]))
section
variable {P : Program} {w : World} {K : PySem.W.Frag} {mg : Str → Option Value} {base : Heap} (T_ : Tx K mg)
include T_ in
theorem reach_while (spot : Sq) (lot : List Sq) : ∀ (n : Nat) (s : List Sq × List Sq) (e : Ent), nw e → fillM lot s ≤ n → n ≤ 1200 → fillK lot s ≤ 1200 → ∃ e', nw e' ∧ WhileR (rS P w K mg base) rC rB n (rE w spot lot s e) (.nx (rE w spot lot (fillN lot (n + 1) s, []) e')) := by
  intro n
  induction n with
  | zero =>
    intro s e he hm _ _
    have h2 : s.2 = [] := by unfold fillM at hm; exact List.length_eq_zero_iff.mp (by omega)
    obtain ⟨xs, ws⟩ := s
    cases h2
    refine ⟨e, he, .stop ?_⟩
    exact tt_c (cg_neA (n := 1) (t := .lst []) (u := .lst []) (da_ow (i := 3) (by walk_at "vo") rfl rfl) (da_sh pg_lst0) dok_nilL dok_nilL)
  | succ n ih =>
    intro s e he hm hn hk
    obtain ⟨xs, ws⟩ := s
    rcases List.eq_nil_or_concat ws with h2 | ⟨us, p, h2⟩
    · subst h2
      refine ⟨e, he, .stop ?_⟩
      exact tt_c (cg_neA (n := 1) (t := .lst []) (u := .lst []) (da_ow (i := 3) (by walk_at "vo") rfl rfl) (da_sh pg_lst0) dok_nilL dok_nilL)
    · rw [List.concat_eq_append] at h2
      subst h2
      have k1 : xs.length ≤ 1200 := by unfold fillK at hk; simp only at hk; omega
      have k2 : us.length + 1 ≤ 1200 := by unfold fillM at hm; simp only [List.length_append, List.length_singleton] at hm; omega
      obtain ⟨e1, he1, t1⟩ := reach_turn T_ (P := P) (w := w) (base := base) spot p lot (xs, us) e he (show xs.length + 4 ≤ 5000 by omega) (show us.length + 4 ≤ 5000 by omega)
      have m1 := fill_all lot (stepD p sidesL) (xs, us)
      have m2 : fillM lot (xs, us) + 1 = fillM lot (xs, us ++ [p]) := by unfold fillM; simp only [List.length_append, List.length_singleton]; omega
      have m3 := fillK_all lot (stepD p sidesL) (xs, us)
      have m4 : fillK lot (xs, us) = fillK lot (xs, us ++ [p]) := rfl
      obtain ⟨e2, he2, t2⟩ := ih ((stepD p sidesL).foldl (fillStep lot) (xs, us)) e1 he1 (by omega) (by omega) (by omega)
      refine ⟨e2, he2, .step ?_ t1 ?_⟩
      · have q : (!teq (.lst ((us ++ [p]).map sqT)) (.lst [])) = true := by rw [teq_nilL]; cases us <;> rfl
        rw [← q]
        exact tt_c (cg_neA (n := 2) (t := .lst ((us ++ [p]).map sqT)) (u := .lst []) (da_ow (i := 3) (by walk_at "vo") rfl rfl) (da_sh pg_lst0) (by
          intro t ht
          obtain ⟨q, _, rfl⟩ := List.mem_map.mp ht
          exact (srtok_sq [q]).dok _ List.mem_cons_self |> fun _ => by
            intro u hu
            simp at hu
            rcases hu with rfl | rfl <;> trivial) (DOk.up (n := 1) (by decide) dok_nilL))
      · have q : fillN lot (n + 2) (xs, us ++ [p]) = fillN lot (n + 1) ((stepD p sidesL).foldl (fillStep lot) (xs, us)) := by
          exact fillN_snoc lot (n + 1) xs us p
        rw [q]
        exact t2
theorem reached_ok (spot : Sq) (lot : List Sq) (hl : lot.length ≤ 1000) : Gives P w K mg base 2 T_.reached.f T_.reached.fd ["spot", "lot"] [sqT spot, lotT w lot] (.tup ((reachL lot spot).map sqT)) := by
  have f1 : (lot.filter fun q => decide (q ∉ [spot])).length ≤ lot.length := List.length_filter_le _ _
  obtain ⟨e', he', wl⟩ := reach_while T_ (P := P) (w := w) (base := base) spot lot (lot.length + 1) ([spot], [spot]) .no nw_no (by unfold fillM; simp only [List.length_singleton]; omega) (by omega) (by unfold fillK; simp only [List.length_singleton]; omega)
  refine gives_p [.sh (sqT spot), .sh (lotT w lot), .no, .no, .no] T_.reached.F sc27 rfl rfl (sgr_cons (E1 := [.sh (sqT spot), .sh (lotT w lot), .ow (lotT w [spot]), .no, .no]) (sg_setO (i := 2) (t := lotT w [spot]) (by walk_at "so") (eo_disp (d0 := dN w []) (kvs := [(sqT spot, .bl true)]) rfl rfl (by simp) (by decide) (.cons (eg_sh (i := 0) (by walk_at "vo") rfl) eg_bl .nil) dicN_new dicN_new_rep (.cons (d1 := dN w (putN [] (.tup (sqK spot)) (.bl true))) (stoN (sqK_depth spot) (by decide)) .nil)) (by walk_at "ln")) (sgr_cons (E1 := rE w spot lot ([spot], [spot]) .no) (sg_setO (i := 3) (t := .lst [sqT spot]) (by walk_at "so") (eo_lst (pas_cons (eg_sh (i := 0) (by walk_at "vo") rfl) eas_nil) (show 1 ≤ _ by decide)) (by walk_at "ln")) (sgr_cons (sg_while wl) (sgr_retE (E1 := [.sh (sqT spot), .sh (lotT w lot), .sh (lotT w (fillN lot (lot.length + 2) ([spot], [spot]))), .ow (.lst []), e']) ?_))))
  · have e : (reachL lot spot).map sqT = sortT ((lotP (fillN lot (lot.length + 2) ([spot], [spot]))).map fun x => keyT x.1) := by
      unfold lotP
      rw [List.map_map]
      exact (sortT_map (f := sq2)).symm
    rw [e]
    refine eg_tupleL (by walk_at "gl") T_.nTuple (eg_sortedD drawn_dN ?_ (by walk_at "gl") T_.nSorted (eg_fz (i := 2) (by walk_at "vo") rfl))
    unfold lotP
    rw [List.map_map]
    exact srtok_sq _
end
end K01
end Cw
end L2

set_option Elab.async false
set_option linter.all false
set_option maxRecDepth 100000
set_option maxHeartbeats 4000000
namespace L2
namespace Cw
namespace K01
open PySem PySem.Spec PyProof.Rows
local macro_rules | `(tactic| walk_at "vo") => `(tactic| exact ⟨rfl, by first | exact .inl rfl | exact .inr (.inl rfl) | exact .inr (.inr rfl), by decide, by decide⟩)
local macro_rules | `(tactic| walk_at "gl") => `(tactic| exact ⟨rfl, by decide⟩)
local macro_rules | `(tactic| walk_at "nd") => `(tactic| (dsimp only [SS.blk, defP]; decide +kernel))
local macro_rules | `(tactic| walk_at "so") => `(tactic| exact ⟨by walk_at "nd", rfl, by first | exact .inl rfl | exact .inr rfl, by first | exact .inl rfl | exact .inr rfl, by first | (dsimp only [SS.blk, defP, pins]; decide) | (simp [SS.blk, defP, pins, isOw, List.range_succ]; done)⟩)
local macro_rules | `(tactic| walk_at "bk") => `(tactic| exact blkOk_by (by walk_at "nd"))
local macro_rules | `(tactic| walk_at "ln") => `(tactic| (simp; done))
local macro_rules | `(tactic| walk_at "no") => `(tactic| (intro t; simp; done))
local macro_rules | `(tactic| walk_at "lv") => `(tactic| (dsimp only [SS.blk, defP]; decide))
local macro_rules | `(tactic| walk_at "sc") => `(tactic| exact ⟨rfl, rfl, rfl, by decide +kernel, rfl, by decide +kernel, by decide +kernel⟩)
/- a name's value -/
local macro_rules | `(tactic| walk_at "v") => `(tactic| first
  | exact eg_sh (i := 0) (by walk_at "vo") rfl | exact eg_sh (i := 1) (by walk_at "vo") rfl | exact eg_sh (i := 2) (by walk_at "vo") rfl | exact eg_sh (i := 3) (by walk_at "vo") rfl
  | exact eg_sh (i := 4) (by walk_at "vo") rfl | exact eg_sh (i := 5) (by walk_at "vo") rfl | exact eg_sh (i := 6) (by walk_at "vo") rfl | exact eg_sh (i := 7) (by walk_at "vo") rfl)
theorem fillN_len (lot : List Sq) : ∀ (n : Nat) (s : List Sq × List Sq), (fillN lot n s).length ≤ fillK lot s
  | 0, s => by unfold fillK fillN; omega
  | n + 1, (xs, ws) => by
    rcases List.eq_nil_or_concat ws with h2 | ⟨us, p, h2⟩
    · subst h2; rw [fillN_nil]; unfold fillK; simp only; omega
    · rw [List.concat_eq_append] at h2
      subst h2
      rw [fillN_snoc]
      exact Nat.le_trans (fillN_len lot n _) (Nat.le_trans (fillK_all lot _ _) (Nat.le_refl (fillK lot (xs, us))))
theorem reachL_len (lot : List Sq) (p : Sq) : (reachL lot p).length ≤ lot.length + 1 := by
  unfold reachL
  rw [srtBy_len]
  have h := fillN_len lot (lot.length + 2) ([p], [p])
  have f1 : (lot.filter fun q => decide (q ∉ [p])).length ≤ lot.length := List.length_filter_le _ _
  unfold fillK at h
  simp only [List.length_singleton] at h
  omega
/-! ### parts_of, hangs -/
def partsStep (lot : List Sq) (s : List Sq × List (List Sq)) (p : Sq) : List Sq × List (List Sq) := if p ∈ s.1 then s else ((reachL lot p).foldl addS s.1, s.2 ++ [reachL lot p])
def partsL (spots : List Sq) : List (List Sq) := ((srtBy sq2 spots).foldl (partsStep spots) ([], [])).2
def partT (l : List Sq) : T := .tup (l.map sqT)
theorem addS_len (xs : List Sq) (p : Sq) : (addS xs p).length ≤ xs.length + 1 := by
  unfold addS
  split
  · omega
  · rw [List.length_append]; exact Nat.le_refl _
theorem addS_all (qs : List Sq) : ∀ xs : List Sq, (qs.foldl addS xs).length ≤ xs.length + qs.length := by
  induction qs with
  | nil => exact fun _ => Nat.le_refl _
  | cons q qs ih => intro xs; have := ih (addS xs q); have := addS_len xs q; rw [List.foldl_cons, List.length_cons]; omega
theorem parts_len (lot : List Sq) (hl : lot.length ≤ 1000) : ∀ (ps : List Sq) (s : List Sq × List (List Sq)), (ps.foldl (partsStep lot) s).1.length ≤ s.1.length + 1001 * ps.length ∧ (ps.foldl (partsStep lot) s).2.length ≤ s.2.length + ps.length
  | [], s => ⟨Nat.le_refl _, Nat.le_refl _⟩
  | p :: ps, s => by
    obtain ⟨a, b⟩ := parts_len lot hl ps (partsStep lot s p)
    have c : (partsStep lot s p).1.length ≤ s.1.length + 1001 ∧ (partsStep lot s p).2.length ≤ s.2.length + 1 := by
      unfold partsStep
      split
      · omega
      · have h1 := reachL_len lot p
        have h2 := addS_all (reachL lot p) s.1
        simp only [List.length_singleton, List.length_append]
        omega
    rw [List.length_cons, List.foldl_cons]
    omega
section
variable {P : Program} {w : World} {K : PySem.W.Frag} {mg : Str → Option Value} {base : Heap} (T_ : Tx K mg)
theorem sc29 : FnScope ["spots", "lot", "seen", "parts", "spot", "part", "place"] ["spots"] (defScope (top 29)) := by walk_at "sc"
def pE (w : World) (q : T) (lot : List Sq) (s : List Sq × List (List Sq)) (a b c : Ent) : List Ent := [.sh q, .sh (lotT w lot), .ow (lotT w s.1), .ow (.lst (s.2.map partT)), a, b, c]
abbrev pS (P : Program) (w : World) (K : PySem.W.Frag) (mg : Str → Option Value) (base : Heap) : SS := defP P w K mg base 2 ["spots", "lot", "seen", "parts", "spot", "part", "place"] (defScope (top 29))
abbrev pF : Stmt := (defBody (top 29)).getD 3 (.Pass ⟨0, 0, 0, 0⟩)
abbrev pI : Stmt := match pF with | .For _ _ b _ _ => b.getD 0 (.Pass ⟨0, 0, 0, 0⟩) | s => s
abbrev pB : List Stmt := match pI with | .If _ b _ _ => b | _ => []
abbrev pG : Stmt := pB.getD 1 (.Pass ⟨0, 0, 0, 0⟩)
theorem part_put (q : T) (lot : List Sq) (parts : List (List Sq)) (xs part : List Sq) (a b c : Ent) (hx : xs.length + part.length < 16777216) (hc : nw c) : ∃ c', nw c' ∧ SG (pS P w K mg base) (pE w q lot (xs, parts) a (.sh (partT part)) c) pG (.nx (pE w q lot (part.foldl addS xs, parts) a (.sh (partT part)) c')) := by
  refine Exists.elim (ForR.some (S := pS P w K mg base) (tg := match pG with | .For t _ _ _ _ => t | _ => .Constant .none 0 ⟨0, 0, 0, 0⟩) (body := match pG with | .For _ _ b _ _ => b | _ => []) (toT := sqT) (G := fun pre F => ∃ c, nw c ∧ F = pE w q lot (pre.foldl addS xs, parts) a (.sh (partT part)) c) (xs := part) ?_ (F := pE w q lot (xs, parts) a (.sh (partT part)) c) ⟨c, hc, rfl⟩) ?_
  · rintro pre x post F eq ⟨c1, hc1, rfl⟩
    have hl : pre.length < part.length := by
      have := congrArg List.length eq
      simp at this
      omega
    have h2 := addS_all pre xs
    rw [List.foldl_append]
    refine ⟨pE w q lot (pre.foldl addS xs, parts) a (.sh (partT part)) (.sh (sqT x)), [6], pE w q lot (addS (pre.foldl addS xs) x, parts) a (.sh (partT part)) (.sh (sqT x)), ag_name (i := 6) (by walk_at "so") (show 6 < 7 by decide), ?_, ⟨_, nw_sh, rfl⟩⟩
    generalize pre.foldl addS xs = ys at h2 ⊢
    refine sgs_one (sg_nx (sg_putN (j := 2) (l := lotP ys) (ks := sqK x) (t := .bl true) eg_bl (by walk_at "vo") rfl (eg_sh (i := 6) (by walk_at "vo") rfl) rfl (sqK_depth x) (by rw [lot_len]; omega)) ?_)
    rw [lot_put]
    rfl
  · rintro F ⟨r, c', hc', rfl⟩
    exact ⟨c', hc', sg_for (E1 := pE w q lot (xs, parts) a (.sh (partT part)) c) (ts := part.map sqT) (ig_seq .tup (eg_sh (i := 5) (by walk_at "vo") rfl)) r⟩
theorem parts_of_ok (spots : List Sq) {q : T} (hq : q = .lst (spots.map sqT) ∨ q = .tup (spots.map sqT)) (nd : spots.Nodup) (hl : spots.length ≤ 1000) : Gives P w K mg base 3 T_.parts_of.f T_.parts_of.fd ["spots"] [q] (.tup ((partsL spots).map partT)) := by
  have lot : SG (pS P w K mg base) [.sh q, .no, .no, .no, .no, .no, .no] ((defBody (top 29)).getD 0 (.Pass ⟨0, 0, 0, 0⟩)) (.nx [.sh q, .ow (lotT w spots), .no, .no, .no, .no, .no]) := by
    have e : lotT w spots = dN w (mergeN [] (spots.map fun p => (sqK p, T.bl true))) := by
      have e2 : (spots.map fun p => (sqK p, T.bl true)).map (fun p => (NestedKey.tup p.1, p.2)) = lotP spots := by rw [List.map_map]; rfl
      have n2 : ((lotP spots).map (·.1)).Nodup := by
        unfold lotP
        rw [List.map_map]
        exact List.Pairwise.map _ (fun a b n h => n (sqK_inj h)) nd
      rw [mergeN_new _ [] (by rw [List.nil_append, e2]; exact n2), List.nil_append, e2]
      rfl
    rw [e]
    exact sg_nx (DcD.set (i := 1) (dcN (xs := spots) (toT := sqT) (kf := sqK) (vf := fun _ => .bl true) (i := 4) (by walk_at "bk") (by walk_at "nd") (by walk_at "so") (by walk_at "ln") (by walk_at "no") (by omega) (fun p _ => sqK_depth p) (ig_seq (seq_of hq) (eg_sh (i := 0) (by walk_at "vo") rfl)) (fun p _ => eg_sh (i := 4) (by walk_at "vo") rfl) fun _ _ => eg_bl) (by walk_at "so") rfl rfl rfl (by decide +kernel) (by walk_at "ln")) rfl
  have loop : ∃ F, (∃ a b c, F = pE w q spots ((srtBy sq2 spots).foldl (partsStep spots) ([], [])) a b c) ∧ SG (pS P w K mg base) [.sh q, .ow (lotT w spots), .ow (dN w []), .ow (.lst []), .no, .no, .no] pF (.nx F) := by
    refine Exists.elim (ForR.some (S := pS P w K mg base) (tg := match pF with | .For t _ _ _ _ => t | _ => .Constant .none 0 ⟨0, 0, 0, 0⟩) (body := match pF with | .For _ _ b _ _ => b | _ => []) (toT := sqT) (G := fun pre F => ∃ a b c, nw a ∧ nw b ∧ nw c ∧ F = pE w q spots (pre.foldl (partsStep spots) ([], [])) a b c) (xs := srtBy sq2 spots) ?_ (F := pE w q spots ([], []) .no .no .no) ⟨_, _, _, nw_no, nw_no, nw_no, rfl⟩) ?_
    · rintro pre x post F eq ⟨a, b, c, ha, hb, hc, rfl⟩
      have pl : pre.length ≤ 1000 := by
        have := congrArg List.length eq
        rw [srtBy_len] at this
        simp at this
        omega
      obtain ⟨l1, l2⟩ := parts_len spots hl pre ([], [])
      rw [List.foldl_append]
      generalize pre.foldl (partsStep spots) ([], []) = s at l1 l2 ⊢
      obtain ⟨xs, parts⟩ := s
      simp only [List.length_nil] at l1 l2
      show ∃ Fa ws F1, AG _ (pE w q spots (xs, parts) a b c) _ (sqT x) Fa ws ∧ _ ∧ ∃ a b c, nw a ∧ nw b ∧ nw c ∧ F1 = pE w q spots (partsStep spots (xs, parts) x) a b c
      have tst : TtG (pS P w K mg base) (pE w q spots (xs, parts) (.sh (sqT x)) b c) (match pI with | .If c _ _ _ => c | _ => .Constant .none 0 ⟨0, 0, 0, 0⟩) (!decide (x ∈ xs)) (pE w q spots (xs, parts) (.sh (sqT x)) b c) := by
        rw [← lot_has xs x]
        exact tt_c (cg_ninN (kt := sqT x) (eg_sh (i := 4) (by walk_at "vo") rfl) (da_ow (i := 2) (by walk_at "vo") rfl rfl) (keyT_self _) (sqK_depth x))
      by_cases h : x ∈ xs
      · have e2 : partsStep spots (xs, parts) x = (xs, parts) := by unfold partsStep; rw [if_pos h]
        rw [e2]
        exact ⟨pE w q spots (xs, parts) (.sh (sqT x)) b c, [4], _, ag_name (i := 4) (by walk_at "so") (show 4 < 7 by decide), sgs_one (sg_ifFn (d := !decide (x ∈ xs)) (by simp [h]) tst), ⟨_, b, c, nw_sh, hb, hc, rfl⟩⟩
      · have e2 : partsStep spots (xs, parts) x = ((reachL spots x).foldl addS xs, parts ++ [reachL spots x]) := by unfold partsStep; rw [if_neg h]
        rw [e2]
        have rl := reachL_len spots x
        obtain ⟨c', hc', put⟩ := part_put (P := P) (w := w) (K := K) (mg := mg) (base := base) q spots parts xs (reachL spots x) (.sh (sqT x)) b c (by omega) hc
        refine ⟨pE w q spots (xs, parts) (.sh (sqT x)) b c, [4], pE w q spots ((reachL spots x).foldl addS xs, parts ++ [reachL spots x]) (.sh (sqT x)) (.sh (partT (reachL spots x))) c', ag_name (i := 4) (by walk_at "so") (show 4 < 7 by decide), ?_, ⟨_, _, _, nw_sh, nw_sh, hc', rfl⟩⟩
        refine sgs_one (sg_ifT (d := !decide (x ∈ xs)) (by simp [h]) tst (sgs_cons (E1 := pE w q spots (xs, parts) (.sh (sqT x)) (.sh (partT (reachL spots x))) c) (sg_set (i := 5) (t := partT (reachL spots x)) (by walk_at "so") (eg_fn (T_.reached.ok rfl rfl) (by walk_at "gl") (reached_ok T_ x spots hl) (by walk_at "lv") (pas_cons (eg_sh (i := 4) (by walk_at "vo") rfl) (pas_cons (eg_sh (i := 1) (by walk_at "vo") rfl) eas_nil))) (show 5 < 7 by decide)) (sgs_cons put (sgs_one (sg_nx (sg_append (l := 3) (by walk_at "vo") rfl (eg_sh (i := 5) (by walk_at "vo") rfl) rfl (by rw [List.length_map]; show parts.length < 16777216; omega) ⟨fun _ => rfl, fun _ => rfl, rfl, fun _ => rfl, fun _ => rfl⟩) (by simp [pE]))))))
    · rintro F ⟨r, a, b, c, _, _, _, rfl⟩
      refine ⟨_, ⟨a, b, c, rfl⟩, sg_for (E1 := pE w q spots ([], []) .no .no .no) (ts := (srtBy sq2 spots).map sqT) ?_ r⟩
      have e : (srtBy sq2 spots).map sqT = sortT ((lotP spots).map fun x => keyT x.1) := by
        unfold lotP
        rw [List.map_map]
        exact (sortT_map (f := sq2)).symm
      rw [e]
      refine ig_seq .lst (eg_sortedD drawn_dN ?_ (by walk_at "gl") T_.nSorted (eg_fz (i := 1) (by walk_at "vo") rfl))
      unfold lotP
      rw [List.map_map]
      exact srtok_sq _
  obtain ⟨F, ⟨a, b, c, rfl⟩, lp⟩ := loop
  have sn : SG (pS P w K mg base) [.sh q, .ow (lotT w spots), .no, .no, .no, .no, .no] ((defBody (top 29)).getD 1 (.Pass ⟨0, 0, 0, 0⟩)) (.nx [.sh q, .ow (lotT w spots), .ow (dN w []), .no, .no, .no, .no]) := sg_nx (sg_setO (i := 2) (t := dN (pS P w K mg base).w []) (E1 := [.sh q, .ow (lotT w spots), .no, .no, .no, .no, .no]) (by walk_at "so") eo_dict0 (by walk_at "ln")) rfl
  refine gives_p [.sh q, .no, .no, .no, .no, .no, .no] T_.parts_of.F sc29 rfl rfl (sgr_cons (E1 := [.sh q, .ow (lotT w spots), .no, .no, .no, .no, .no]) lot (sgr_cons (E1 := [.sh q, .ow (lotT w spots), .ow (dN w []), .no, .no, .no, .no]) sn (sgr_cons (E1 := [.sh q, .ow (lotT w spots), .ow (dN w []), .ow (.lst []), .no, .no, .no]) (sg_setO (i := 3) (t := .lst []) (by walk_at "so") (eo_lst eas_nil (Nat.zero_le _)) (by walk_at "ln")) (sgr_cons lp (sgr_retE (eg_tupleL (by walk_at "gl") T_.nTuple (eg_fz (i := 3) (by walk_at "vo") rfl)))))))
theorem sc28 : FnScope ["spots"] ["spots"] (defScope (top 28)) := by walk_at "sc"
theorem hangs_ok (spots : List Sq) {q : T} (hq : q = .lst (spots.map sqT) ∨ q = .tup (spots.map sqT)) (nd : spots.Nodup) (hl : spots.length ≤ 1000) : Gives P w K mg base 4 T_.hangs.f T_.hangs.fd ["spots"] [q] (.bl (decide ((partsL spots).length < 2))) := by
  have e : decide ((partsL spots).length < 2) = decide (((((partsL spots).map partT).length : Nat) : Int) < 2) := by
    rw [List.length_map]
    by_cases h : (partsL spots).length < 2
    · rw [decide_eq_true h, decide_eq_true (by omega)]
    · rw [decide_eq_false h, decide_eq_false (by omega)]
  rw [e]
  exact gives_p [.sh q] T_.hangs.F sc28 rfl rfl (sgr_ret (pg_lt (eg_len .tup (by walk_at "gl") T_.nLen (eg_fn (T_.parts_of.ok rfl rfl) (by walk_at "gl") (parts_of_ok T_ spots hq nd hl) (by walk_at "lv") (pas_cons (eg_sh (i := 0) (by walk_at "vo") rfl) eas_nil))) eg_int))
end
end K01
end Cw
end L2

set_option Elab.async false
set_option linter.all false
set_option maxRecDepth 100000
set_option maxHeartbeats 4000000
namespace L2
namespace Cw
namespace K01
open PySem PySem.Spec PyProof.Rows
local macro_rules | `(tactic| walk_at "vo") => `(tactic| exact ⟨rfl, by first | exact .inl rfl | exact .inr (.inl rfl) | exact .inr (.inr rfl), by decide, by decide⟩)
local macro_rules | `(tactic| walk_at "gl") => `(tactic| exact ⟨rfl, by decide⟩)
local macro_rules | `(tactic| walk_at "nd") => `(tactic| (dsimp only [SS.blk, defP]; decide +kernel))
local macro_rules | `(tactic| walk_at "so") => `(tactic| exact ⟨by walk_at "nd", rfl, by first | exact .inl rfl | exact .inr rfl, by first | exact .inl rfl | exact .inr rfl, by first | (dsimp only [SS.blk, defP, pins]; decide) | (simp [SS.blk, defP, pins, isOw, List.range_succ]; done)⟩)
local macro_rules | `(tactic| walk_at "bk") => `(tactic| exact blkOk_by (by walk_at "nd"))
local macro_rules | `(tactic| walk_at "ln") => `(tactic| (simp; done))
local macro_rules | `(tactic| walk_at "no") => `(tactic| (intro t; simp; done))
local macro_rules | `(tactic| walk_at "lv") => `(tactic| (dsimp only [SS.blk, defP]; decide))
local macro_rules | `(tactic| walk_at "sc") => `(tactic| exact ⟨rfl, rfl, rfl, by decide +kernel, rfl, by decide +kernel, by decide +kernel⟩)
/- a name's value -/
local macro_rules | `(tactic| walk_at "v") => `(tactic| first
  | exact eg_sh (i := 0) (by walk_at "vo") rfl | exact eg_sh (i := 1) (by walk_at "vo") rfl | exact eg_sh (i := 2) (by walk_at "vo") rfl | exact eg_sh (i := 3) (by walk_at "vo") rfl
  | exact eg_sh (i := 4) (by walk_at "vo") rfl | exact eg_sh (i := 5) (by walk_at "vo") rfl | exact eg_sh (i := 6) (by walk_at "vo") rfl | exact eg_sh (i := 7) (by walk_at "vo") rfl)
/-! ### tables of squares -/
def tabP (ps : List (Sq × T)) : List (NestedKey × T) := ps.map fun x => (.tup (sqK x.1), x.2)
def tabT (w : World) (ps : List (Sq × T)) : T := dN w (tabP ps)
/-- what stands at a square -/
def atS {α : Type} : List (Sq × α) → Sq → Option α
  | [], _ => none
  | x :: ps, p => if x.1 = p then some x.2 else atS ps p
theorem tab_get (ps : List (Sq × T)) (p : Sq) : getN (tabP ps) (.tup (sqK p)) = atS ps p := by
  induction ps with
  | nil => rfl
  | cons x ps ih =>
    have e : getN (tabP (x :: ps)) (.tup (sqK p)) = if NestedKey.tup (sqK x.1) = .tup (sqK p) then some x.2 else getN (tabP ps) (.tup (sqK p)) := by
      show getN ((NestedKey.tup (sqK x.1), x.2) :: tabP ps) _ = _
      unfold getN
      rw [List.find?_cons]
      by_cases h : NestedKey.tup (sqK x.1) = .tup (sqK p) <;> simp [h]
    rw [e, ih]
    show _ = if x.1 = p then some x.2 else atS ps p
    by_cases h : x.1 = p
    · rw [if_pos h, if_pos (by rw [h])]
    · rw [if_neg h, if_neg fun z => h (sqK_inj z)]
theorem atS_mem {α : Type} : ∀ {ps : List (Sq × α)} {x : Sq × α}, (ps.map (·.1)).Nodup → x ∈ ps → atS ps x.1 = some x.2
  | y :: ps, x, nd, h => by
    simp only [List.map_cons, List.nodup_cons] at nd
    unfold atS
    obtain rfl | h := List.mem_cons.mp h
    · rw [if_pos rfl]
    · rw [if_neg fun z => nd.1 (by rw [z]; exact List.mem_map_of_mem h)]; exact atS_mem nd.2 h
theorem atS_none {α : Type} : ∀ {ps : List (Sq × α)} {p : Sq}, atS ps p = none ↔ p ∉ ps.map (·.1)
  | [], p => by simp [atS]
  | y :: ps, p => by
    unfold atS
    by_cases h : y.1 = p
    · rw [if_pos h]; simp [h]
    · rw [if_neg h, atS_none (ps := ps), List.map_cons, List.mem_cons]
      exact ⟨fun z q => q.elim (fun e => h e.symm) z, fun z q => z (.inr q)⟩
theorem tab_nd {ps : List (Sq × T)} (h : (ps.map (·.1)).Nodup) : ((tabP ps).map (·.1)).Nodup := by
  unfold tabP
  rw [List.map_map]
  have e : (ps.map ((·.1) ∘ fun x : Sq × T => (NestedKey.tup (sqK x.1), x.2))) = (ps.map (·.1)).map fun p => NestedKey.tup (sqK p) := by rw [List.map_map]; rfl
  rw [e]
  exact List.Pairwise.map _ (fun a b n h => n (sqK_inj h)) h
theorem tab_merge {w : World} {ps : List (Sq × T)} (h : (ps.map (·.1)).Nodup) : dN w (mergeN [] (ps.map fun x => (sqK x.1, x.2))) = tabT w ps := by
  have e : (ps.map fun x => (sqK x.1, x.2)).map (fun p => (NestedKey.tup p.1, p.2)) = tabP ps := by rw [List.map_map]; rfl
  rw [mergeN_new _ [] (by rw [List.nil_append, e]; exact tab_nd h), List.nil_append, e]
  rfl
theorem tab_len (ps : List (Sq × T)) : (tabP ps).length = ps.length := List.length_map _
section
variable {P : Program} {w : World} {K : PySem.W.Frag} {mg : Str → Option Value} {base : Heap} (T_ : Tx K mg)
/-! ### turned, mirrored -/
theorem sc33 : FnScope ["table", "high", "wide", "y", "x"] ["table", "high", "wide"] (defScope (top 33)) := by walk_at "sc"
def turnS (h : Int) (p : Sq) : Sq := (p.2, h - 1 - p.1)
def mirrS (v : Int) (p : Sq) : Sq := (p.1, v - 1 - p.2)
theorem turned_ok (ps : List (Sq × T)) (h v : Int) (nd : (ps.map (·.1)).Nodup) (hl : ps.length ≤ 1000) : Gives P w K mg base 1 T_.turned.f T_.turned.fd ["table", "high", "wide"] [tabT w ps, .int h, .int v] (tabT w (ps.map fun x => (turnS h x.1, x.2))) := by
  have nd2 : ((ps.map fun x => (turnS h x.1, x.2)).map (·.1)).Nodup := by
    rw [List.map_map]
    have e : (ps.map ((·.1) ∘ fun x : Sq × T => (turnS h x.1, x.2))) = (ps.map (·.1)).map (turnS h) := by rw [List.map_map]; rfl
    rw [e]
    refine List.Pairwise.map _ (fun a b n z => n ?_) nd
    obtain ⟨a, b⟩ := a
    rename_i c
    obtain ⟨c, d⟩ := c
    simp only [turnS, Prod.mk.injEq] at z ⊢
    omega
  refine gives_p [.sh (tabT w ps), .sh (.int h), .sh (.int v), .no, .no] T_.turned.F sc33 rfl rfl (sgr_ret (eg_o ?_))
  rw [← tab_merge nd2, List.map_map]
  refine DcD.eo (dcN2 (xs := ps) (toT := fun x => sqT x.1) (t := fun x => .int x.1.1) (u := fun x => .int x.1.2) (kf := fun x => sqK (turnS h x.1)) (vf := fun x => x.2) (i := 3) (j := 4) (fun a => .inl rfl) (by walk_at "bk") (by walk_at "nd") (by decide) (by walk_at "so") (by walk_at "so") (by walk_at "ln") (by walk_at "ln") (by walk_at "no") (by walk_at "no") (by omega) (fun x _ => sqK_depth _) ?_ (fun x hx => ?_) fun x hx => ?_)
  · have e : (ps.map fun x => sqT x.1) = (tabP ps).map fun x => keyT x.1 := by unfold tabP; rw [List.map_map]; rfl
    rw [e]
    exact ig_keysN (eg_sh (i := 0) (by walk_at "vo") rfl)
  · exact pg_tup2 (eg_sh (i := 4) (by walk_at "vo") rfl) (pg_sub (pg_sub (eg_sh (i := 1) (by walk_at "vo") rfl) eg_int) (eg_sh (i := 3) (by walk_at "vo") rfl))
  · exact eg_getN (kt := sqT x.1) (da_sh (eg_sh (i := 0) (by walk_at "vo") rfl)) (pg_tup2 (eg_sh (i := 3) (by walk_at "vo") rfl) (eg_sh (i := 4) (by walk_at "vo") rfl)) (keyT_self _) (sqK_depth x.1) ((tab_get ps x.1).trans (atS_mem nd hx))
theorem sc34 : FnScope ["table", "wide", "y", "x"] ["table", "wide"] (defScope (top 34)) := by walk_at "sc"
theorem mirrored_ok (ps : List (Sq × T)) (v : Int) (nd : (ps.map (·.1)).Nodup) (hl : ps.length ≤ 1000) : Gives P w K mg base 1 T_.mirrored.f T_.mirrored.fd ["table", "wide"] [tabT w ps, .int v] (tabT w (ps.map fun x => (mirrS v x.1, x.2))) := by
  have nd2 : ((ps.map fun x => (mirrS v x.1, x.2)).map (·.1)).Nodup := by
    rw [List.map_map]
    have e : (ps.map ((·.1) ∘ fun x : Sq × T => (mirrS v x.1, x.2))) = (ps.map (·.1)).map (mirrS v) := by rw [List.map_map]; rfl
    rw [e]
    refine List.Pairwise.map _ (fun a b n z => n ?_) nd
    obtain ⟨a, b⟩ := a
    rename_i c
    obtain ⟨c, d⟩ := c
    simp only [mirrS, Prod.mk.injEq] at z ⊢
    omega
  refine gives_p [.sh (tabT w ps), .sh (.int v), .no, .no] T_.mirrored.F sc34 rfl rfl (sgr_ret (eg_o ?_))
  rw [← tab_merge nd2, List.map_map]
  refine DcD.eo (dcN2 (xs := ps) (toT := fun x => sqT x.1) (t := fun x => .int x.1.1) (u := fun x => .int x.1.2) (kf := fun x => sqK (mirrS v x.1)) (vf := fun x => x.2) (i := 2) (j := 3) (fun a => .inl rfl) (by walk_at "bk") (by walk_at "nd") (by decide) (by walk_at "so") (by walk_at "so") (by walk_at "ln") (by walk_at "ln") (by walk_at "no") (by walk_at "no") (by omega) (fun x _ => sqK_depth _) ?_ (fun x hx => ?_) fun x hx => ?_)
  · have e : (ps.map fun x => sqT x.1) = (tabP ps).map fun x => keyT x.1 := by unfold tabP; rw [List.map_map]; rfl
    rw [e]
    exact ig_keysN (eg_sh (i := 0) (by walk_at "vo") rfl)
  · exact pg_tup2 (eg_sh (i := 2) (by walk_at "vo") rfl) (pg_sub (pg_sub (eg_sh (i := 1) (by walk_at "vo") rfl) eg_int) (eg_sh (i := 3) (by walk_at "vo") rfl))
  · exact eg_getN (kt := sqT x.1) (da_sh (eg_sh (i := 0) (by walk_at "vo") rfl)) (pg_tup2 (eg_sh (i := 2) (by walk_at "vo") rfl) (eg_sh (i := 3) (by walk_at "vo") rfl)) (keyT_self _) (sqK_depth x.1) ((tab_get ps x.1).trans (atS_mem nd hx))
/-! ### sign_at, told -/
theorem sc30 : FnScope ["table", "spot", "bare"] ["table", "spot", "bare"] (defScope (top 30)) := by walk_at "sc"
def digS (n : Int) : Str := Str.ofString (toString n)
def signAt (ns : List (Sq × Int)) (bare : Str) (p : Sq) : Str := match atS ns p with | some n => digS n | none => bare
def intP (ns : List (Sq × Int)) : List (Sq × T) := ns.map fun x => (x.1, .int x.2)
theorem atS_int (ns : List (Sq × Int)) (p : Sq) : atS (intP ns) p = (atS ns p).map T.int := by
  induction ns with
  | nil => rfl
  | cons x ns ih =>
    show atS ((x.1, T.int x.2) :: intP ns) p = _
    unfold atS
    by_cases h : x.1 = p
    · rw [if_pos h, if_pos h]; rfl
    · rw [if_neg h, if_neg h]; exact ih
def smallN (ns : List (Sq × Int)) : Prop := ∀ x ∈ ns, 0 ≤ x.2 ∧ x.2 < 10
theorem atS_of {α : Type} : ∀ {ps : List (Sq × α)} {p : Sq} {n : α}, atS ps p = some n → (p, n) ∈ ps
  | x :: ps, p, n, h => by
    unfold atS at h
    by_cases e : x.1 = p
    · rw [if_pos e] at h; cases h; subst e; exact List.mem_cons_self
    · rw [if_neg e] at h; exact List.mem_cons_of_mem _ (atS_of h)
theorem dig_small {n : Int} (h : 0 ≤ n ∧ n < 10) : n.natAbs.log2 < 1920 := by
  have e : n = ((n.toNat : Nat) : Int) := by omega
  rw [e]
  have q : n.toNat < 10 := by omega
  generalize n.toNat = m at q
  have all : ∀ m : _root_.Fin 10, ((m.val : Int).natAbs).log2 < 1920 := by decide +kernel
  exact all ⟨m, q⟩
theorem sign_at_ok (ns : List (Sq × Int)) (p : Sq) (bare : Str) (sm : smallN ns) : Gives P w K mg base 1 T_.sign_at.f T_.sign_at.fd ["table", "spot", "bare"] [tabT w (intP ns), sqT p, .str bare] (.str (signAt ns bare p)) := by
  have hg := (tab_get (intP ns) p).trans (atS_int ns p)
  have tst : ∀ S : SS, True := fun _ => trivial
  cases h : atS ns p with
  | some n =>
    have e : signAt ns bare p = digS n := by unfold signAt; rw [h]
    rw [e]
    rw [h] at hg
    exact gives_p [.sh (tabT w (intP ns)), .sh (sqT p), .sh (.str bare)] T_.sign_at.F sc30 rfl rfl (sgr_ifT (d := (getN (tabP (intP ns)) (.tup (sqK p))).isSome) (by rw [hg]; rfl) (tt_c (cg_inN (kt := sqT p) (eg_sh (i := 1) (by walk_at "vo") rfl) (da_sh (eg_sh (i := 0) (by walk_at "vo") rfl)) (keyT_self _) (sqK_depth p))) (sgr_ret (eg_strI (by walk_at "gl") T_.nStr (eg_getN (kt := sqT p) (da_sh (eg_sh (i := 0) (by walk_at "vo") rfl)) (eg_sh (i := 1) (by walk_at "vo") rfl) (keyT_self _) (sqK_depth p) hg) (dig_small (sm _ (atS_of h))))))
  | none =>
    have e : signAt ns bare p = bare := by unfold signAt; rw [h]
    rw [e]
    rw [h] at hg
    exact gives_p [.sh (tabT w (intP ns)), .sh (sqT p), .sh (.str bare)] T_.sign_at.F sc30 rfl rfl (sgr_ifFn (d := (getN (tabP (intP ns)) (.tup (sqK p))).isSome) (by rw [hg]; rfl) (tt_c (cg_inN (kt := sqT p) (eg_sh (i := 1) (by walk_at "vo") rfl) (da_sh (eg_sh (i := 0) (by walk_at "vo") rfl)) (keyT_self _) (sqK_depth p))) (sgr_ret (eg_sh (i := 2) (by walk_at "vo") rfl)))
theorem dig_len {n : Int} (h : 0 ≤ n ∧ n < 10) : (digS n).length = 1 := by
  have e : n = ((n.toNat : Nat) : Int) := by omega
  rw [e]
  have q : n.toNat < 10 := by omega
  generalize n.toNat = m at q
  have all : ∀ m : _root_.Fin 10, (digS (m.val : Int)).length = 1 := by decide +kernel
  exact all ⟨m, q⟩
theorem signAt_len {ns : List (Sq × Int)} {bare : Str} (sm : smallN ns) (hb : bare.length = 1) (p : Sq) : (signAt ns bare p).length = 1 := by
  unfold signAt
  cases h : atS ns p with
  | some n => exact dig_len (sm _ (atS_of h))
  | none => exact hb
def toldRow (ns : List (Sq × Int)) (bare : Str) (v y : Nat) : List Str := (List.range v).map fun x : Nat => signAt ns bare (0 + (y : Int), 0 + (x : Int))
def toldL (ns : List (Sq × Int)) (bare : Str) (h v : Nat) : List Str := (List.range h).map fun y : Nat => flatS (toldRow ns bare v y)
theorem sc31 : FnScope ["table", "high", "wide", "bare", "y", "x"] ["table", "high", "wide", "bare"] (defScope (top 31)) := by walk_at "sc"
theorem told_ok (ns : List (Sq × Int)) (h v : Nat) (bare : Str) (sm : smallN ns) (hb : bare.length = 1) (hh : h < 10 ∧ v < 10) : Gives P w K mg base 2 T_.told.f T_.told.fd ["table", "high", "wide", "bare"] [tabT w (intP ns), .int h, .int v, .str bare] (.tup ((toldL ns bare h v).map T.str)) := by
  refine gives_p [.sh (tabT w (intP ns)), .sh (.int h), .sh (.int v), .sh (.str bare), .no, .no] T_.told.F sc31 rfl rfl (sgr_ret (eg_tupleL (by walk_at "gl") T_.nTuple ?_))
  unfold toldL
  rw [List.map_map]
  refine (lcN (α := Nat) (toT := fun y => T.int (0 + (y : Nat))) (i := 4) (by walk_at "bk") (by walk_at "nd") (by walk_at "so") (by walk_at "ln") (by walk_at "no") (by rw [List.length_range]; omega) (ig_range (n := (h : Int)) (by walk_at "gl") T_.nRange (eg_sh (i := 1) (by walk_at "vo") rfl) (by omega)) fun y _ => ?_).eg
  have one : ∀ s ∈ toldRow ns bare v y, s.length = 1 := fun s hs => by
    obtain ⟨x, _, rfl⟩ := List.mem_map.mp hs
    exact signAt_len sm hb _
  refine eg_joinOnes one (by unfold toldRow; rw [List.length_map, List.length_range]; omega) ?_
  unfold toldRow
  rw [List.map_map]
  refine (lcN (α := Nat) (toT := fun x => T.int (0 + (x : Nat))) (i := 5) (by walk_at "bk") (by walk_at "nd") (by walk_at "so") (by walk_at "ln") (by walk_at "no") (by rw [List.length_range]; omega) (ig_range (n := (v : Int)) (by walk_at "gl") T_.nRange (eg_sh (i := 2) (by walk_at "vo") rfl) (by omega)) fun x _ => ?_).eg
  exact eg_fn (T_.sign_at.ok rfl rfl) (by walk_at "gl") (sign_at_ok T_ ns (0 + (y : Int), 0 + (x : Int)) bare sm) (by walk_at "lv") (pas_cons (eg_sh (i := 0) (by walk_at "vo") rfl) (pas_cons (pg_tup2 (eg_sh (i := 4) (by walk_at "vo") rfl) (eg_sh (i := 5) (by walk_at "vo") rfl)) (pas_cons (eg_sh (i := 3) (by walk_at "vo") rfl) eas_nil)))
end
end K01
end Cw
end L2

set_option Elab.async false
set_option linter.all false
set_option maxRecDepth 100000
set_option maxHeartbeats 4000000
namespace L2
namespace Cw
namespace K01
open PySem PySem.Spec PyProof.Rows
local macro_rules | `(tactic| walk_at "vo") => `(tactic| exact ⟨rfl, by first | exact .inl rfl | exact .inr (.inl rfl) | exact .inr (.inr rfl), by decide, by decide⟩)
local macro_rules | `(tactic| walk_at "gl") => `(tactic| exact ⟨rfl, by decide⟩)
local macro_rules | `(tactic| walk_at "nd") => `(tactic| (dsimp only [SS.blk, defP]; decide +kernel))
local macro_rules | `(tactic| walk_at "so") => `(tactic| exact ⟨by walk_at "nd", rfl, by first | exact .inl rfl | exact .inr rfl, by first | exact .inl rfl | exact .inr rfl, by first | (dsimp only [SS.blk, defP, pins]; decide) | (simp [SS.blk, defP, pins, isOw, List.range_succ]; done)⟩)
local macro_rules | `(tactic| walk_at "bk") => `(tactic| exact blkOk_by (by walk_at "nd"))
local macro_rules | `(tactic| walk_at "ln") => `(tactic| (simp; done))
local macro_rules | `(tactic| walk_at "no") => `(tactic| (intro t; simp; done))
local macro_rules | `(tactic| walk_at "lv") => `(tactic| (dsimp only [SS.blk, defP]; decide))
local macro_rules | `(tactic| walk_at "sc") => `(tactic| exact ⟨rfl, rfl, rfl, by decide +kernel, rfl, by decide +kernel, by decide +kernel⟩)
/- a name's value -/
local macro_rules | `(tactic| walk_at "v") => `(tactic| first
  | exact eg_sh (i := 0) (by walk_at "vo") rfl | exact eg_sh (i := 1) (by walk_at "vo") rfl | exact eg_sh (i := 2) (by walk_at "vo") rfl | exact eg_sh (i := 3) (by walk_at "vo") rfl
  | exact eg_sh (i := 4) (by walk_at "vo") rfl | exact eg_sh (i := 5) (by walk_at "vo") rfl | exact eg_sh (i := 6) (by walk_at "vo") rfl | exact eg_sh (i := 7) (by walk_at "vo") rfl)
def putS (ps : List (Sq × T)) (p : Sq) (t : T) : List (Sq × T) := if p ∈ ps.map (·.1) then ps.map (fun x => if x.1 = p then (x.1, t) else x) else ps ++ [(p, t)]
theorem tab_put (ps : List (Sq × T)) (p : Sq) (t : T) : putN (tabP ps) (.tup (sqK p)) t = tabP (putS ps p t) := by
  unfold putN putS
  rw [tab_get]
  by_cases h : p ∈ ps.map (·.1)
  · have e : (atS ps p).isSome = true := by
      cases q : atS ps p with
      | none => exact absurd h (atS_none.mp q)
      | some _ => rfl
    rw [if_pos e, if_pos h]
    unfold tabP
    rewrite [List.map_map, List.map_map]
    apply List.map_congr_left
    intro x _
    show (if NestedKey.tup (sqK x.1) = .tup (sqK p) then (NestedKey.tup (sqK x.1), t) else (NestedKey.tup (sqK x.1), x.2)) = (NestedKey.tup (sqK (if x.1 = p then (x.1, t) else x).1), (if x.1 = p then (x.1, t) else x).2)
    by_cases z : x.1 = p
    · rw [if_pos z, if_pos (by rw [z])]
    · rw [if_neg z, if_neg fun y => z (sqK_inj y)]
  · have e : (atS ps p).isSome = false := by rw [atS_none.mpr h]; rfl
    rw [e, if_neg h]
    simp only [if_false, Bool.false_eq_true]
    unfold tabP
    rw [List.map_append]
    rfl
theorem putS_len (ps : List (Sq × T)) (p : Sq) (t : T) : (putS ps p t).length ≤ ps.length + 1 := by
  unfold putS
  split
  · rw [List.length_map]; omega
  · rw [List.length_append]; exact Nat.le_refl _
def figS : Str := Str.ofString "0123456789"
/-- a sign that may be read -/
def goodS (bare s : Str) : Prop := PyData.strOk s = true ∧ s.length ≤ 640 ∧ (s = bare ∨ (inS s figS = true ∧ (PySem.intText? s).isSome = true))
def readStep (bare : Str) (y : Nat) (ps : List (Sq × T)) (p : Str × Nat) : List (Sq × T) := if p.1 = bare then ps else putS ps ((y : Int), (p.2 : Int)) (.int ((PySem.intText? p.1).getD 0))
def readRow (bare : Str) (ps : List (Sq × T)) (q : Str × Nat) : List (Sq × T) := (signs q.1).zipIdx.foldl (readStep bare q.2) ps
def readL (bare : Str) (ys : List Str) : List (Sq × T) := ys.zipIdx.foldl (readRow bare) []
theorem readStep_len (bare : Str) (y : Nat) : ∀ (xs : List (Str × Nat)) (ps : List (Sq × T)), (xs.foldl (readStep bare y) ps).length ≤ ps.length + xs.length
  | [], ps => Nat.le_refl _
  | x :: xs, ps => by
    have h := readStep_len bare y xs (readStep bare y ps x)
    have h2 : (readStep bare y ps x).length ≤ ps.length + 1 := by
      unfold readStep
      split
      · omega
      · exact putS_len _ _ _
    rw [List.length_cons, List.foldl_cons]
    omega
theorem readRow_len {m : Nat} (bare : Str) : ∀ (qs : List (Str × Nat)) (ps : List (Sq × T)), (∀ q ∈ qs, q.1.length ≤ m) → (qs.foldl (readRow bare) ps).length ≤ ps.length + m * qs.length
  | [], ps, _ => Nat.le_refl _
  | q :: qs, ps, h => by
    have h1 := readRow_len bare qs (readRow bare ps q) fun x hx => h x (List.mem_cons_of_mem _ hx)
    have h2 := readStep_len bare q.2 (signs q.1).zipIdx ps
    rw [List.length_zipIdx, signs_length] at h2
    have h3 : q.1.cps.size ≤ m := h q List.mem_cons_self
    have h4 : (readRow bare ps q).length ≤ ps.length + q.1.cps.size := h2
    rw [List.foldl_cons, List.length_cons, Nat.mul_add, Nat.mul_one]
    omega
section
variable {P : Program} {w : World} {K : PySem.W.Frag} {mg : Str → Option Value} {base : Heap} (T_ : Tx K mg)
theorem sc32 : FnScope ["rows", "bare", "table", "y", "row", "x", "sign"] ["rows", "bare"] (defScope (top 32)) := by walk_at "sc"
abbrev eS (P : Program) (w : World) (K : PySem.W.Frag) (mg : Str → Option Value) (base : Heap) : SS := defP P w K mg base 1 ["rows", "bare", "table", "y", "row", "x", "sign"] (defScope (top 32))
abbrev eF : Stmt := (defBody (top 32)).getD 1 (.Pass ⟨0, 0, 0, 0⟩)
abbrev eG : Stmt := match eF with | .For _ _ b _ _ => b.getD 0 (.Pass ⟨0, 0, 0, 0⟩) | s => s
abbrev eB : List Stmt := match eG with | .For _ _ b _ _ => b | _ => []
def eE (w : World) (q : T) (bare : Str) (ps : List (Sq × T)) (a b c d : Ent) : List Ent := [.sh q, .sh (.str bare), .ow (tabT w ps), a, b, c, d]
include T_ in
theorem read_sign (q : T) (bare s : Str) (y x : Nat) (b : Ent) (ps : List (Sq × T)) (hl : ps.length < 16777216) (g : goodS bare s) (hb : PyData.strOk bare = true) : SGs (eS P w K mg base) (eE w q bare ps (.sh (.int (y : Nat))) b (.sh (.int (x : Nat))) (.sh (.str s))) eB (.nx (eE w q bare (readStep bare y ps (s, x)) (.sh (.int (y : Nat))) b (.sh (.int (x : Nat))) (.sh (.str s)))) := by
  obtain ⟨g1, g2, g3⟩ := g
  by_cases h : s = bare
  · have e : readStep bare y ps (s, x) = ps := by unfold readStep; rw [if_pos h]
    rw [e]
    exact sgs_one (sg_ifFn (d := !teq (.str s) (.str bare)) (by rw [teq_str, h]; simp) (pt_ne (n := 0) g1 hb (eg_sh (i := 6) (by walk_at "vo") rfl) (eg_sh (i := 1) (by walk_at "vo") rfl)))
  · obtain ⟨h1, h2⟩ := g3.resolve_left h
    have e : readStep bare y ps (s, x) = putS ps ((y : Int), (x : Int)) (.int ((PySem.intText? s).getD 0)) := by unfold readStep; rw [if_neg h]
    rw [e]
    cases hi : PySem.intText? s with
    | none => rw [hi] at h2; cases h2
    | some n =>
      refine sgs_one (sg_ifT (d := !teq (.str s) (.str bare)) (by rw [teq_str]; simp [h]) (pt_ne (n := 0) g1 hb (eg_sh (i := 6) (by walk_at "vo") rfl) (eg_sh (i := 1) (by walk_at "vo") rfl)) (sgs_cons (sg_ifFn (d := !inS s figS) (by rw [h1]; rfl) (tt_ninS (eg_sh (i := 6) (by walk_at "vo") rfl) (eg_glob (v := .str figS) (by walk_at "gl") T_.figures ⟨_, rfl⟩ (fun _ => rep_str.mpr rfl)))) (sgs_one (sg_nx (sg_putN (j := 2) (l := tabP ps) (ks := sqK ((y : Int), (x : Int))) (t := .int n) (eg_intS (by walk_at "gl") T_.nInt (eg_sh (i := 6) (by walk_at "vo") rfl) hi g2) (by walk_at "vo") rfl (pg_tup2 (eg_sh (i := 3) (by walk_at "vo") rfl) (eg_sh (i := 5) (by walk_at "vo") rfl)) rfl (sqK_depth _) (by rw [tab_len]; exact hl)) ?_))))
      rw [tab_put]
      rfl
theorem read_ok (ys : List Str) (bare : Str) {q : T} (hq : q = .lst (ys.map T.str) ∨ q = .tup (ys.map T.str)) (hl : ∀ y ∈ ys, y.length ≤ 100) (hn : ys.length ≤ 100) (hb : rowsBad ys = false) (hs : ∀ y ∈ ys, ∀ s ∈ signs y, goodS bare s) (hbare : PyData.strOk bare = true) : Gives P w K mg base 2 T_.read.f T_.read.fd ["rows", "bare"] [q, .str bare] (tabT w (readL bare ys)) := by
  have loop : ∃ F, (∃ a b c d, F = eE w q bare (readL bare ys) a b c d) ∧ SG (eS P w K mg base) [.sh q, .sh (.str bare), .ow (dN w []), .no, .no, .no, .no] eF (.nx F) := by
    refine Exists.elim (ForR.some (S := eS P w K mg base) (tg := match eF with | .For t _ _ _ _ => t | _ => .Constant .none 0 ⟨0, 0, 0, 0⟩) (body := match eF with | .For _ _ b _ _ => b | _ => []) (toT := fun p : Str × Nat => T.tup [.int (p.2 : Nat), .str p.1]) (G := fun pre F => ∃ a b c d, nw a ∧ nw b ∧ nw c ∧ nw d ∧ F = eE w q bare (pre.foldl (readRow bare) []) a b c d) (xs := ys.zipIdx) ?_ (F := eE w q bare [] .no .no .no .no) ⟨_, _, _, _, nw_no, nw_no, nw_no, nw_no, rfl⟩) ?_
    · rintro pre ⟨r, y⟩ post F eq ⟨a, b, c, d, ha, hb', hc, hd, rfl⟩
      have mem : ∀ z ∈ pre, z.1 ∈ ys := fun z hz => by
        have := List.mem_zipIdx' (show z ∈ ys.zipIdx by rw [← eq]; exact List.mem_append_left _ hz)
        rw [this.2]; exact List.getElem_mem _
      have rm : r ∈ ys := by
        have := List.mem_zipIdx' (show (r, y) ∈ ys.zipIdx by rw [← eq]; simp)
        rw [this.2]; exact List.getElem_mem _
      have w1 := readRow_len (m := 100) bare pre [] fun z hz => hl _ (mem z hz)
      have w2 : pre.length ≤ 100 := by
        have := congrArg List.length eq
        rw [List.length_append, List.length_zipIdx] at this
        omega
      have e2 : (pre ++ [(r, y)]).foldl (readRow bare) [] = (signs r).zipIdx.foldl (readStep bare y) (pre.foldl (readRow bare) []) := by rw [List.foldl_append]; rfl
      rw [e2]
      generalize pre.foldl (readRow bare) [] = ps at w1 ⊢
      have w3 : ps.length ≤ 10000 := by simp only [List.length_nil] at w1; omega
      refine Exists.elim (ForR.some (S := eS P w K mg base) (tg := match eG with | .For t _ _ _ _ => t | _ => .Constant .none 0 ⟨0, 0, 0, 0⟩) (body := eB) (toT := fun p : Str × Nat => T.tup [.int (p.2 : Nat), .str p.1]) (G := fun pre F => ∃ c d, nw c ∧ nw d ∧ F = eE w q bare (pre.foldl (readStep bare y) ps) (.sh (.int (y : Nat))) (.sh (.str r)) c d) (xs := (signs r).zipIdx) ?_ (F := eE w q bare ps (.sh (.int (y : Nat))) (.sh (.str r)) c d) ⟨_, _, hc, hd, rfl⟩) ?_
      · rintro pre2 ⟨s, x⟩ post2 F eq2 ⟨c, d, hc, hd, rfl⟩
        have v1 := readStep_len bare y pre2 ps
        have v2 : pre2.length ≤ 100 := by
          have := congrArg List.length eq2
          rw [List.length_append, List.length_zipIdx, signs_length] at this
          have h4 : r.cps.size ≤ 100 := hl r rm
          omega
        have sm : s ∈ signs r := by
          have := List.mem_zipIdx' (show (s, x) ∈ (signs r).zipIdx by rw [← eq2]; simp)
          rw [this.2]; exact List.getElem_mem _
        rw [List.foldl_append]
        generalize pre2.foldl (readStep bare y) ps = qs at v1 ⊢
        exact ⟨eE w q bare qs (.sh (.int (y : Nat))) (.sh (.str r)) (.sh (.int (x : Nat))) (.sh (.str s)), [5, 6], eE w q bare (readStep bare y qs (s, x)) (.sh (.int (y : Nat))) (.sh (.str r)) (.sh (.int (x : Nat))) (.sh (.str s)), ag_two (i := 5) (j := 6) (.inl rfl) (by walk_at "so") (by walk_at "so") (show 5 < 7 by decide) (show 6 < 7 by decide), read_sign T_ q bare s y x _ qs (by omega) (hs r rm s sm) hbare, ⟨_, _, nw_sh, nw_sh, rfl⟩⟩
      · rintro F ⟨rr, c2, d2, hc2, hd2, rfl⟩
        refine ⟨eE w q bare ps (.sh (.int (y : Nat))) (.sh (.str r)) c d, [3, 4], _, ag_two (i := 3) (j := 4) (.inl rfl) (by walk_at "so") (by walk_at "so") (show 3 < 7 by decide) (show 4 < 7 by decide), sgs_one (sg_for (E1 := eE w q bare ps (.sh (.int (y : Nat))) (.sh (.str r)) c d) (ts := (signs r).zipIdx.map fun p : Str × Nat => T.tup [.int (p.2 : Nat), .str p.1]) ?_ rr), ⟨_, _, c2, d2, nw_sh, nw_sh, hc2, hd2, rfl⟩⟩
        rw [← enumT_zip T.str]
        exact ig_enumStr (by walk_at "gl") T_.nEnum (eg_sh (i := 4) (by walk_at "vo") rfl)
    · rintro F ⟨rr, a, b, c, d, _, _, _, _, rfl⟩
      refine ⟨_, ⟨a, b, c, d, rfl⟩, sg_for (E1 := eE w q bare [] .no .no .no .no) (ts := ys.zipIdx.map fun p : Str × Nat => T.tup [.int (p.2 : Nat), .str p.1]) ?_ rr⟩
      rw [← enumT_zip T.str]
      exact ig_enumTup (by walk_at "gl") T_.nEnum (eg_fn (T_.check_rows.ok rfl rfl) (by walk_at "gl") (check_rows_ok T_ ys hq (fun y hy => Nat.le_trans (hl y hy) (by decide)) (by omega) hb) (by walk_at "lv") (pas_cons (eg_sh (i := 0) (by walk_at "vo") rfl) eas_nil))
  obtain ⟨F, ⟨a, b, c, d, rfl⟩, lp⟩ := loop
  have s0 : SG (eS P w K mg base) [.sh q, .sh (.str bare), .no, .no, .no, .no, .no] ((defBody (top 32)).getD 0 (.Pass ⟨0, 0, 0, 0⟩)) (.nx [.sh q, .sh (.str bare), .ow (dN w []), .no, .no, .no, .no]) := sg_nx (sg_setO (i := 2) (t := dN (eS P w K mg base).w []) (E1 := [.sh q, .sh (.str bare), .no, .no, .no, .no, .no]) (by walk_at "so") eo_dict0 (by walk_at "ln")) rfl
  exact gives_p [.sh q, .sh (.str bare), .no, .no, .no, .no, .no] T_.read.F sc32 rfl rfl (sgr_cons s0 (sgr_cons lp (sgr_retE (eg_fz (i := 2) (by walk_at "vo") rfl))))
/-- read(['x']) -/
theorem read_no : Errs P w K mg base 2 T_.read.f T_.read.fd ["rows", "bare"] [.lst [.str (Str.ofString "x")], .str (Str.ofString ".")] T_.xText.C := by
  have s0 : SG (eS P w K mg base) [.sh (.lst [.str (Str.ofString "x")]), .sh (.str (Str.ofString ".")), .no, .no, .no, .no, .no] ((defBody (top 32)).getD 0 (.Pass ⟨0, 0, 0, 0⟩)) (.nx [.sh (.lst [.str (Str.ofString "x")]), .sh (.str (Str.ofString ".")), .ow (dN w []), .no, .no, .no, .no]) := sg_nx (sg_setO (i := 2) (t := dN (eS P w K mg base).w []) (E1 := [.sh (.lst [.str (Str.ofString "x")]), .sh (.str (Str.ofString ".")), .no, .no, .no, .no, .no]) (by walk_at "so") eo_dict0 (by walk_at "ln")) rfl
  have sx : signsT (Str.ofString "x") = [.str (Str.ofString "x")] := congrArg (List.map T.str) (show signs (Str.ofString "x") = [Str.ofString "x"] by decide +kernel)
  refine errs_p [.sh (.lst [.str (Str.ofString "x")]), .sh (.str (Str.ofString ".")), .no, .no, .no, .no, .no] T_.read.F sc32 rfl rfl (sgx_cons s0 (sgx_stop (sg_for (E1 := [.sh (.lst [.str (Str.ofString "x")]), .sh (.str (Str.ofString ".")), .ow (dN w []), .no, .no, .no, .no]) (ts := enumT [.str (Str.ofString "x")]) (ig_enumTup (by walk_at "gl") T_.nEnum (eg_fn (T_.check_rows.ok rfl rfl) (by walk_at "gl") (check_rows_ok T_ [Str.ofString "x"] (.inl rfl) (by decide +kernel) (by decide) (by decide +kernel)) (by walk_at "lv") (pas_cons (eg_sh (i := 0) (by walk_at "vo") rfl) eas_nil))) (.exc (Ea := [.sh (.lst [.str (Str.ofString "x")]), .sh (.str (Str.ofString ".")), .ow (dN w []), .sh (.int 0), .sh (.str (Str.ofString "x")), .no, .no]) (ag_two (i := 3) (j := 4) (.inl rfl) (by walk_at "so") (by walk_at "so") (by walk_at "ln") (by walk_at "ln")) (sgs_stop (sg_for (E1 := [.sh (.lst [.str (Str.ofString "x")]), .sh (.str (Str.ofString ".")), .ow (dN w []), .sh (.int 0), .sh (.str (Str.ofString "x")), .no, .no]) (ts := enumT [.str (Str.ofString "x")]) (by rw [← sx]; exact ig_enumStr (by walk_at "gl") T_.nEnum (eg_sh (i := 4) (by walk_at "vo") rfl)) (.exc (Ea := [.sh (.lst [.str (Str.ofString "x")]), .sh (.str (Str.ofString ".")), .ow (dN w []), .sh (.int 0), .sh (.str (Str.ofString "x")), .sh (.int 0), .sh (.str (Str.ofString "x"))]) (ag_two (i := 5) (j := 6) (.inl rfl) (by walk_at "so") (by walk_at "so") (by walk_at "ln") (by walk_at "ln")) (sgs_stop (sg_ifT (d := !teq (.str (Str.ofString "x")) (.str (Str.ofString "."))) (by decide +kernel) (pt_ne (n := 0) (by decide +kernel : PyData.strOk (Str.ofString "x") = true) (by decide +kernel : PyData.strOk (Str.ofString ".") = true) (eg_sh (i := 6) (by walk_at "vo") rfl) (eg_sh (i := 1) (by walk_at "vo") rfl)) (sgs_stop (sg_ifT (d := !inS (Str.ofString "x") figS) (by decide +kernel) (tt_ninS (eg_sh (i := 6) (by walk_at "vo") rfl) (eg_glob (v := .str figS) (by walk_at "gl") T_.figures ⟨_, rfl⟩ (fun _ => rep_str.mpr rfl))) (sgs_stop (sg_raise (T_.xText.ok rfl rfl) (by walk_at "gl")) trivial)) trivial)) trivial))) trivial)))))
end
end K01
end Cw
end L2

set_option Elab.async false
set_option linter.all false
set_option maxRecDepth 100000
set_option maxHeartbeats 4000000
namespace L2
namespace Cw
namespace K01
open PySem PySem.Spec PyProof.Rows
local macro_rules | `(tactic| walk_at "vo") => `(tactic| exact ⟨rfl, by first | exact .inl rfl | exact .inr (.inl rfl) | exact .inr (.inr rfl), by decide, by decide⟩)
local macro_rules | `(tactic| walk_at "gl") => `(tactic| exact ⟨rfl, by decide⟩)
local macro_rules | `(tactic| walk_at "nd") => `(tactic| (dsimp only [SS.blk, defP]; decide +kernel))
local macro_rules | `(tactic| walk_at "so") => `(tactic| exact ⟨by walk_at "nd", rfl, by first | exact .inl rfl | exact .inr rfl, by first | exact .inl rfl | exact .inr rfl, by first | (dsimp only [SS.blk, defP, pins]; decide) | (simp [SS.blk, defP, pins, isOw, List.range_succ]; done)⟩)
local macro_rules | `(tactic| walk_at "bk") => `(tactic| exact blkOk_by (by walk_at "nd"))
local macro_rules | `(tactic| walk_at "ln") => `(tactic| (simp; done))
local macro_rules | `(tactic| walk_at "no") => `(tactic| (intro t; simp; done))
local macro_rules | `(tactic| walk_at "lv") => `(tactic| (dsimp only [SS.blk, defP]; decide))
local macro_rules | `(tactic| walk_at "sc") => `(tactic| exact ⟨rfl, rfl, rfl, by decide +kernel, rfl, by decide +kernel, by decide +kernel⟩)
/- a name's value -/
local macro_rules | `(tactic| walk_at "v") => `(tactic| first
  | exact eg_sh (i := 0) (by walk_at "vo") rfl | exact eg_sh (i := 1) (by walk_at "vo") rfl | exact eg_sh (i := 2) (by walk_at "vo") rfl | exact eg_sh (i := 3) (by walk_at "vo") rfl
  | exact eg_sh (i := 4) (by walk_at "vo") rfl | exact eg_sh (i := 5) (by walk_at "vo") rfl | exact eg_sh (i := 6) (by walk_at "vo") rfl | exact eg_sh (i := 7) (by walk_at "vo") rfl)
theorem at_0 {t : T} {ts : List T} : atI (t :: ts) 0 = some t := atI_at (n := 0) rfl
theorem at_1 {t u : T} {ts : List T} : atI (t :: u :: ts) 1 = some u := atI_at (n := 1) rfl
section
variable {P : Program} {w : World} {K : PySem.W.Frag} {mg : Str → Option Value} {base : Heap} (T_ : Tx K mg)
/-! ### _law_flat -/
theorem sc36 : FnScope ["rows", "found", "row"] ["rows"] (defScope (top 36)) := by walk_at "sc"
def flatE (rows : List (List T)) (pre : List (List T)) : List Ent := [.sh (.lst (rows.map T.lst)), .sh (.lst pre.flatten), match pre.getLast? with | none => .no | some r => .sh (.lst r)]
theorem flat_ok (rows : List (List T)) (hl : ∀ n, (rows.take n).flatten.length ≤ 16777216) : Gives P w K mg base 1 T_.flat.f T_.flat.fd ["rows"] [.lst (rows.map T.lst)] (.lst rows.flatten) := by
  refine gives_p [.sh (.lst (rows.map T.lst)), .no, .no] T_.flat.F sc36 rfl rfl (sgr_cons (sg_setP (i := 1) (t := .lst []) (by walk_at "so") pg_lst0 (by walk_at "ln")) (sgr_cons (E1 := flatE rows rows) (sg_for (pg_iter .lst (eg_sh (i := 0) (by walk_at "vo") rfl)) (ForR.pre (toT := T.lst) (Ev := flatE rows) (fun pre x post hx => ?_))) (sgr_ret (t := .lst rows.flatten) (eg_sh (i := 1) (by walk_at "vo") rfl))))
  refine ⟨(flatE rows pre).set 2 (.sh (.lst x)), [2], ag_name (by walk_at "so") (by simp [flatE]), ?_⟩
  have e : flatE rows (pre ++ [x]) = [.sh (.lst (rows.map T.lst)), .sh (.lst (pre.flatten ++ x)), .sh (.lst x)] := by simp [flatE]
  rw [e]
  have h2 := hl (pre.length + 1)
  have h3 : rows.take (pre.length + 1) = pre ++ [x] := by
    rw [← hx, List.take_append, List.take_of_length_le (Nat.le_succ _)]
    simp
  rw [h3] at h2
  simp only [List.flatten_append, List.flatten_cons, List.flatten_nil, List.append_nil, List.length_append] at h2
  exact sgs_one (sg_setP (i := 1) (by walk_at "so") (eg_catL (eg_sh (i := 1) (by walk_at "vo") rfl) (eg_sh (i := 2) (by walk_at "vo") rfl) h2) (by simp [flatE]))
theorem take_flat_le {α : Type} (rows : List (List α)) (m : Nat) : (rows.take m).flatten.length ≤ rows.flatten.length := by
  have h : rows.flatten = ((rows.take m) ++ rows.drop m).flatten := by rw [List.take_append_drop]
  rw [h, List.flatten_append, List.length_append]
  exact Nat.le_add_right _ _
/-! ### _law_dice, _law_roll -/
def diceL (c : Int) : List Int := if -10 < c ∧ c < 10 then [if c < 0 then -c else c, 0, 2] else [c, 1 + c.fmod 1009, if (10 : Int) ^ 18 ≤ c then 1 else 0]
theorem sc37 : FnScope ["cell"] ["cell"] (defScope (top 37)) := by walk_at "sc"
theorem sc38 : FnScope ["dice", "many", "found"] ["dice", "many"] (defScope (top 38)) := by walk_at "sc"
/-- what is rolled, and the dice behind -/
def rollF (d : List Int) (m : Int) : Int × List Int :=
  let a := d.getD 0 0
  let b := d.getD 1 0
  let c := d.getD 2 0
  if c = 2 ∨ (c = 1 ∧ 0 < a) then (a.fmod m, [a.fdiv m, b, c])
  else
    let a' := (a * 48271 + b * 69621 + 11).fmod 2147483647
    ((a'.fdiv 7 + a').fmod m, [a', b + 1, 0])
theorem rollF_t {a b c m : Int} (h : c = 2 ∨ (c = 1 ∧ 0 < a)) : rollF [a, b, c] m = (a.fmod m, [a.fdiv m, b, c]) := by
  show (if c = 2 ∨ (c = 1 ∧ 0 < a) then _ else _) = _
  rw [if_pos h]
  rfl
theorem rollF_f {a b c m : Int} (h : ¬ (c = 2 ∨ (c = 1 ∧ 0 < a))) : rollF [a, b, c] m = ((((a * 48271 + b * 69621 + 11).fmod 2147483647).fdiv 7 + (a * 48271 + b * 69621 + 11).fmod 2147483647).fmod m, [(a * 48271 + b * 69621 + 11).fmod 2147483647, b + 1, 0]) := by
  show (if c = 2 ∨ (c = 1 ∧ 0 < a) then _ else _) = _
  rw [if_neg h]
  rfl
def rollOk (m : Int) : Prop := m ≠ 0 ∧ m.natAbs < 1073741824
theorem fin_roll {as' : List Ent} {t t' : T} {m : Int} {e : Ent} : FinA [.ow t, .sh (.int m)] [.ow t', .sh (.int m), e] [.ow t', .sh (.int m)] := by
  refine ⟨rfl, fun j t h => ?_, fun j t h => ?_⟩
  · match j with
    | 0 => cases h
    | 1 => exact h
    | j + 2 => cases h
  · match j with
    | 0 => cases h; exact ⟨rfl, _, rfl⟩
    | 1 => cases h
    | j + 2 => cases h
theorem roll_ok (a b c m : Int) (hm : rollOk m) : FnOk P w K mg base (L2.CX P w) 1 T_.roll.f T_.roll.fd ["dice", "many"] (spOf K [.ow (.lst ([a, b, c].map T.int)), .sh (.int m)] (.ret (.int (rollF [a, b, c] m).1) [.ow (.lst ((rollF [a, b, c] m).2.map T.int)), .sh (.int m)])) := by
  have at0 : ∀ {x y z : Int}, atI ([.int x, .int y, .int z] : List T) 0 = some (.int x) := at_0
  have at1 : ∀ {x y z : Int}, atI ([.int x, .int y, .int z] : List T) 1 = some (.int y) := at_1
  have at2 : ∀ {x y z : Int}, atI ([.int x, .int y, .int z] : List T) 2 = some (.int z) := atI_at (n := 2) rfl
  by_cases h : c = 2 ∨ (c = 1 ∧ 0 < a)
  · rw [rollF_t h]
    refine fn_ok (N := ["dice", "many", "found"]) (o := .ret (.int (a.fmod m)) [.ow (.lst [.int (a.fdiv m), .int b, .int c]), .sh (.int m), .sh (.int (a.fmod m))]) T_.roll.F sc38 rfl (.ret (fin_roll (as' := []))) ?_
    show SGs _ [.ow (.lst [.int a, .int b, .int c]), .sh (.int m), .no] _ _
    refine sgs_stop (sg_ifT (d := teq (.int c) (.int 2) || (teq (.int c) (.int 1) && decide (0 < a))) ?_ (tg_w (wg_or (pt_eq (n := 0) trivial trivial (eg_itemO (l := 0) (by walk_at "vo") rfl eg_int rfl at2) eg_int) fun _ => wg_or1 (tg_w (wg_and (pt_eq (n := 0) trivial trivial (eg_itemO (l := 0) (by walk_at "vo") rfl eg_int rfl at2) eg_int) fun _ => wg_and1 (pt_gt (eg_itemO (l := 0) (by walk_at "vo") rfl eg_int rfl at0) eg_int))))) ?_) trivial
    · rw [enc_int.eq, enc_int.eq]; simpa using h
    · exact sgs_cons (sg_setP (i := 2) (by walk_at "so") (pg_mod hm.1 (eg_intI (by walk_at "gl") T_.nInt (eg_itemO (l := 0) (by walk_at "vo") rfl eg_int rfl at0)) (eg_sh (i := 1) (by walk_at "vo") rfl)) (by walk_at "ln")) (sgs_cons (sg_putL (l := 0) (m := 0) (eg_fdiv (eg_itemO (l := 0) (by walk_at "vo") rfl eg_int rfl at0) (eg_sh (i := 1) (by walk_at "vo") rfl) hm) (by walk_at "vo") eg_int rfl rfl) (sgs_one (sg_ret (eg_sh (i := 2) (by walk_at "vo") rfl))))
  · rw [rollF_f h]
    refine fn_ok (N := ["dice", "many", "found"]) (o := .ret (.int ((((a * 48271 + b * 69621 + 11).fmod 2147483647).fdiv 7 + (a * 48271 + b * 69621 + 11).fmod 2147483647).fmod m)) [.ow (.lst [.int ((a * 48271 + b * 69621 + 11).fmod 2147483647), .int (b + 1), .int 0]), .sh (.int m), .no]) T_.roll.F sc38 rfl (.ret (fin_roll (as' := []))) ?_
    show SGs _ [.ow (.lst [.int a, .int b, .int c]), .sh (.int m), .no] _ _
    refine sgs_cons (sg_ifFn (d := teq (.int c) (.int 2) || (teq (.int c) (.int 1) && decide (0 < a))) ?_ (tg_w (wg_or (pt_eq (n := 0) trivial trivial (eg_itemO (l := 0) (by walk_at "vo") rfl eg_int rfl at2) eg_int) fun _ => wg_or1 (tg_w (wg_and (pt_eq (n := 0) trivial trivial (eg_itemO (l := 0) (by walk_at "vo") rfl eg_int rfl at2) eg_int) fun _ => wg_and1 (pt_gt (eg_itemO (l := 0) (by walk_at "vo") rfl eg_int rfl at0) eg_int)))))) ?_
    · rw [enc_int.eq, enc_int.eq]
      cases q : (decide (c = 2) || (decide (c = 1) && decide (0 < a))) with
      | false => rfl
      | true => exact absurd (by simpa using q) h
    · exact sgs_cons (sg_putL (l := 0) (m := 2) eg_int (by walk_at "vo") eg_int rfl rfl) (sgs_cons (sg_putL (l := 0) (m := 0) (pg_mod (by decide) (eg_intI (by walk_at "gl") T_.nInt (pg_add (pg_add (pg_mul (.inr (by decide)) (eg_itemO (l := 0) (by walk_at "vo") rfl eg_int rfl at0) eg_int) (pg_mul (.inr (by decide)) (eg_itemO (l := 0) (by walk_at "vo") rfl eg_int rfl at1) eg_int)) eg_int)) eg_int) (by walk_at "vo") eg_int rfl rfl)
        (sgs_cons (sg_putL (l := 0) (m := 1) (pg_add (eg_itemO (l := 0) (by walk_at "vo") rfl eg_int rfl at1) eg_int) (by walk_at "vo") eg_int rfl rfl) (sgs_one (sg_ret (pg_mod hm.1 (eg_intI (by walk_at "gl") T_.nInt (pg_add (pg_fdiv (by exact ⟨by decide, by decide⟩) (eg_itemO (l := 0) (by walk_at "vo") rfl eg_int rfl at0) eg_int) (eg_itemO (l := 0) (by walk_at "vo") rfl eg_int rfl at0))) (eg_sh (i := 1) (by walk_at "vo") rfl))))))
end
abbrev Dc := Int × Int × Int
def dT (d : Dc) : T := .lst [.int d.1, .int d.2.1, .int d.2.2]
/-- what is rolled, and the dice behind -/
def roll (d : Dc) (m : Int) : Int × Dc := ((rollF [d.1, d.2.1, d.2.2] m).1, ((rollF [d.1, d.2.1, d.2.2] m).2.getD 0 0, (rollF [d.1, d.2.1, d.2.2] m).2.getD 1 0, (rollF [d.1, d.2.1, d.2.2] m).2.getD 2 0))
theorem dT_roll (d : Dc) (m : Int) : dT (roll d m).2 = .lst ((rollF [d.1, d.2.1, d.2.2] m).2.map T.int) := by
  obtain ⟨a, b, c⟩ := d
  show dT (roll (a, b, c) m).2 = .lst ((rollF [a, b, c] m).2.map T.int)
  unfold roll dT
  by_cases h : c = 2 ∨ (c = 1 ∧ 0 < a)
  · simp only [rollF_t h]; rfl
  · simp only [rollF_f h]; rfl
theorem roll_lt (d : Dc) {m : Int} (hm : 0 < m) : 0 ≤ (roll d m).1 ∧ (roll d m).1 < m := by
  obtain ⟨a, b, c⟩ := d
  show 0 ≤ (rollF [a, b, c] m).1 ∧ (rollF [a, b, c] m).1 < m
  by_cases h : c = 2 ∨ (c = 1 ∧ 0 < a)
  · rw [rollF_t h]; exact ⟨Int.fmod_nonneg_of_pos _ hm, Int.fmod_lt_of_pos _ hm⟩
  · rw [rollF_f h]; exact ⟨Int.fmod_nonneg_of_pos _ hm, Int.fmod_lt_of_pos _ hm⟩
section
variable {P : Program} {w : World} {K : PySem.W.Frag} {mg : Str → Option Value} {base : Heap} (T_ : Tx K mg)
include T_ in
theorem eg_roll {S : SS} {E : List Ent} {e : Expr} {i : Nat} {m : Int} {d : Dc} {p q pos : Pos} (hP : S.P = P) (hw : S.w = w) (hK : S.K = K) (hm : S.mg = mg) (hB : S.base = base) (hk : 1 ≤ S.k) (vo : VarOk S i "dice") (g : GlOk S "_law_roll") (h0 : E[i]? = some (.ow (dT d))) (h : EG S E e (.int m) E) (ok : rollOk m)
    (he : ∀ env, starEach [.Name "dice" q, e] env = (false, eval (.Name "dice" q) env) :: starEach [e] env := by intro _; rfl) (he2 : ∀ env, starEach [e] env = (false, eval e env) :: starEach [] env := by intro _; rfl) (hpl : ∀ env, (backTo pos (starEach [e] env)).any (·.1) = false := by intro _; rfl) :
    EG S E (.Call (.Name "_law_roll" p) [.Name "dice" q, e] [] pos) (.int (roll d m).1) (E.set i (.ow (dT (roll d m).2))) := by
  subst hP hw hK hm hB
  have h := eg_call (S := S) (E := E) (E1 := E) (k := 1) (x := "_law_roll") (p := p) (pos := pos) (e := .Name "dice" q) (es := [e]) (ds := [.bo i (dT d), .va (.int m)]) (dts := []) (dvs := []) (dV := []) (t := .int (roll d m).1) (as' := [.ow (dT (roll d m).2), .sh (.int m)]) (T_.roll.ok rfl rfl) g (by rw [dT_roll]; exact roll_ok T_ d.1 d.2.1 d.2.2 m ok) hk .nil (fun _ => .nil) (eab_bo vo h0 (eab_va h (eab_of eas_nil) he2) he) ?_ ?_ ?_ he hpl
  · exact h
  · intro j i' t hj
    match j with
    | 0 => cases hj; exact h0
    | 1 => cases hj
    | j + 2 => cases hj
  · exact List.nodup_cons.mpr ⟨List.not_mem_nil, List.nodup_nil⟩
  · intro j i' t hj
    match j with
    | 0 => exact ⟨_, rfl⟩
    | 1 => cases hj
    | j + 2 => cases hj
end
section
variable {P : Program} {w : World} {K : PySem.W.Frag} {mg : Str → Option Value} {base : Heap} (T_ : Tx K mg)
theorem dice_ok (c : Int) : Gives P w K mg base 1 T_.dice.f T_.dice.fd ["cell"] [.int c] (.lst ((diceL c).map T.int)) := by
  by_cases h : -10 < c ∧ c < 10
  · have e : (diceL c).map T.int = [.int (if c < 0 then -c else c), .int 0, .int 2] := by unfold diceL; rw [if_pos h]; rfl
    rw [e]
    exact gives_p [.sh (.int c)] T_.dice.F sc37 rfl rfl (sgr_ifT (d := decide ((0 : Int) - 10 < c) && decide (c < 10)) (by simpa using h) (pt_ltlt (pg_sub eg_int eg_int) (eg_sh (i := 0) (by walk_at "vo") rfl) eg_int) (sgr_ret (pg_lst3 (eg_abs (by walk_at "gl") T_.nAbs (eg_sh (i := 0) (by walk_at "vo") rfl)) eg_int eg_int)))
  · have e : (diceL c).map T.int = [.int c, .int (1 + c.fmod 1009), .int (if decide ((10 : Int) ^ (18 : Int).toNat ≤ c) = true then 1 else 0)] := by
      unfold diceL
      rw [if_neg h, show (18 : Int).toNat = 18 from rfl]
      by_cases h2 : (10 : Int) ^ 18 ≤ c
      · rw [if_pos h2, if_pos (decide_eq_true h2)]; rfl
      · rw [if_neg h2, if_neg (by rw [decide_eq_false h2]; exact Bool.false_ne_true)]; rfl
    rw [e]
    have hd : (decide ((0 : Int) - 10 < c) && decide (c < 10)) = false := by
      cases q : (decide ((0 : Int) - 10 < c) && decide (c < 10)) with
      | false => rfl
      | true => exact absurd (by simpa using q) h
    exact gives_p [.sh (.int c)] T_.dice.F sc37 rfl rfl (sgr_ifFn (d := decide ((0 : Int) - 10 < c) && decide (c < 10)) hd (pt_ltlt (pg_sub eg_int eg_int) (eg_sh (i := 0) (by walk_at "vo") rfl) eg_int) (sgr_ret (pg_lst3 (eg_sh (i := 0) (by walk_at "vo") rfl) (pg_add eg_int (pg_mod (by decide) (eg_intI (by walk_at "gl") T_.nInt (eg_sh (i := 0) (by walk_at "vo") rfl)) eg_int)) (eg_intB (by walk_at "gl") T_.nInt (eg_ge (eg_sh (i := 0) (by walk_at "vo") rfl) (eg_pow eg_int eg_int ⟨by decide, by decide, by decide⟩))))))
theorem sc39 : FnScope ["script", "most", "cells", "cell"] ["script", "most"] (defScope (top 39)) := by walk_at "sc"
def firstC (ns : List Int) : List Int := if ns = [] then [0] else ns.take 1
theorem firstC_eq (ns : List Int) : firstC ns = [ns.headD 0] := by
  cases ns <;> rfl
theorem rounds_ok (ns : List Int) : Gives P w K mg base 2 T_.rounds.f T_.rounds.fd ["script", "most"] [.slst (ns.map T.int), .int 1] (.lst [.lst ((diceL (ns.headD 0)).map T.int)]) := by
  refine gives_p [.sh (.slst (ns.map T.int)), .sh (.int 1), .no, .no] T_.rounds.F sc39 rfl rfl (sgr_cons (sg_setP (i := 2) (t := .lst ((ns.take 1).map T.int)) (by walk_at "so") (eg_to (eg_sliceS (lo := none) (m := none) (n := some 1) (eg_sh (i := 0) (by walk_at "vo") rfl) pa_no (pa_so (eg_sh (i := 1) (by walk_at "vo") rfl))) ?_ rfl) (by walk_at "ln")) (sgr_cons (E1 := [.sh (.slst (ns.map T.int)), .sh (.int 1), .sh (.lst ((firstC ns).map T.int)), .no]) ?_ (sgr_ret ?_)))
  · rw [List.map_take]
    cases ns with
    | nil => rfl
    | cons x xs => exact congrArg T.lst (cut_take (n := 1) (by simp))
  · by_cases h : ns = []
    · subst h
      exact sg_ifT (d := teq (.lst []) (.lst [])) (by rw [teq_nilL]; rfl) (pt_eq (n := 1) dok_nilL dok_nilL (eg_sh (i := 2) (by walk_at "vo") rfl) pg_lst0) (sgs_one (sg_setP (i := 2) (by walk_at "so") (pg_lst1 eg_int) (by walk_at "ln")))
    · have e : firstC ns = ns.take 1 := by unfold firstC; rw [if_neg h]
      rw [e]
      refine sg_ifFn (d := teq (.lst ((ns.take 1).map T.int)) (.lst [])) ?_ (pt_eq (n := 1) (enc_int.lst.ok _) dok_nilL (eg_sh (i := 2) (by walk_at "vo") rfl) pg_lst0)
      rw [teq_nilL]
      cases ns with
      | nil => exact absurd rfl h
      | cons x xs => rfl
  · refine eg_to (lcN (α := Int) (toT := T.int) (f := fun c => T.lst ((diceL c).map T.int)) (xs := firstC ns) (i := 3) (by walk_at "bk") (by walk_at "nd") (by walk_at "so") (by walk_at "ln") (by walk_at "no") (by rw [firstC_eq]; show 1 ≤ 16777216; decide) (pg_iter .lst (eg_sh (i := 2) (by walk_at "vo") rfl)) fun c _ => ?_).eg (by rw [firstC_eq]; rfl) rfl
    exact eg_fn (T_.dice.ok rfl rfl) (by walk_at "gl") (dice_ok T_ c) (by walk_at "lv") (pas_cons (eg_sh (i := 3) (by walk_at "vo") rfl) eas_nil)
end
section
variable {P : Program} {w : World} {K : PySem.W.Frag} {mg : Str → Option Value} {base : Heap} (T_ : Tx K mg)
/-! ### _law_told -/
theorem sc40 : FnScope ["what"] ["what"] (defScope (top 40)) := by walk_at "sc"
def words (T_ : Tx K mg) : List (Addr × Str) := [(T_.xSquare.C, "square"), (T_.eRule, "rule"), (T_.eStep, "step"), (T_.ePaper, "paper"), (T_.eSize, "size"), (T_.xText.C, "text"), (T_.eStore, "store"), (T_.eNoWay, "no way"), (T_.eNoSuch, "no such")]
theorem caughtS : Catch K T_.xSquare.C (words T_) "square" := .here T_.isSquare
theorem caughtT : Catch K T_.xText.C (words T_) "text" := .skip T_.tSquare (.skip T_.tRule (.skip T_.tStep (.skip T_.tPaper (.skip T_.tSize (.here T_.isText)))))
def tryH : List ExceptHandler := match defBody (top 40) with | [.Try _ hds _ _ _] => hds | _ => []
theorem hds40 : Hds (defScope (top 40)) mg tryH (words T_) :=
  .cons rfl (by decide) T_.xSquare.mgC (.cons rfl (by decide) T_.mRule (.cons rfl (by decide) T_.mStep (.cons rfl (by decide) T_.mPaper (.cons rfl (by decide) T_.mSize (.cons rfl (by decide) T_.xText.mgC (.cons rfl (by decide) T_.mStore (.cons rfl (by decide) T_.mNoWay (.cons rfl (by decide) T_.mNoSuch .nil))))))))
theorem told_exc {q : Str} {ps : Arguments} {body : Expr} {sc : Scope} {k : Nat} {C : Addr} {word : Str} (ca : Catch K C (words T_) word) (Sc : FnScope [] [] sc) (hb : ∀ (c : Addr) (ct pm : Value), bindArgs (PySem.W.kla_fn "<lambda>" q ps body sc [] pm (.ref c) ct) ⟨[], []⟩ = pure []) (G : EXi (defP P w K mg base k [] sc) [] body C []) :
    Gives P w K mg base (k + 2) T_.told_.f T_.told_.fd ["what"] [lamT q ps body sc] (.str word) :=
  told_fn T_.told_.F sc40 rfl rfl (hds40 T_) (.exc ca) (sgs_one (sg_retX (ex_act (i := 0) (by walk_at "vo") rfl Sc hb (Nat.le_refl _) G)))
end
end K01
end Cw
end L2

set_option Elab.async false
set_option linter.all false
set_option maxRecDepth 100000
set_option maxHeartbeats 4000000
namespace L2
namespace Cw
namespace K01
open PySem PySem.Spec PyProof.Rows
local macro_rules | `(tactic| walk_at "vo") => `(tactic| exact ⟨rfl, by first | exact .inl rfl | exact .inr (.inl rfl) | exact .inr (.inr rfl), by decide, by decide⟩)
local macro_rules | `(tactic| walk_at "gl") => `(tactic| exact ⟨rfl, by decide⟩)
local macro_rules | `(tactic| walk_at "nd") => `(tactic| (dsimp only [SS.blk, defP]; decide +kernel))
local macro_rules | `(tactic| walk_at "so") => `(tactic| exact ⟨by walk_at "nd", rfl, by first | exact .inl rfl | exact .inr rfl, by first | exact .inl rfl | exact .inr rfl, by first | (dsimp only [SS.blk, defP, pins]; decide) | (simp [SS.blk, defP, pins, isOw, List.range_succ]; done)⟩)
local macro_rules | `(tactic| walk_at "bk") => `(tactic| exact blkOk_by (by walk_at "nd"))
local macro_rules | `(tactic| walk_at "ln") => `(tactic| (simp; done))
local macro_rules | `(tactic| walk_at "no") => `(tactic| (intro t; simp; done))
local macro_rules | `(tactic| walk_at "lv") => `(tactic| (dsimp only [SS.blk, defP]; decide))
local macro_rules | `(tactic| walk_at "sc") => `(tactic| exact ⟨rfl, rfl, rfl, by decide +kernel, rfl, by decide +kernel, by decide +kernel⟩)
/- a name's value -/
local macro_rules | `(tactic| walk_at "v") => `(tactic| first
  | exact eg_sh (i := 0) (by walk_at "vo") rfl | exact eg_sh (i := 1) (by walk_at "vo") rfl | exact eg_sh (i := 2) (by walk_at "vo") rfl | exact eg_sh (i := 3) (by walk_at "vo") rfl
  | exact eg_sh (i := 4) (by walk_at "vo") rfl | exact eg_sh (i := 5) (by walk_at "vo") rfl | exact eg_sh (i := 6) (by walk_at "vo") rfl | exact eg_sh (i := 7) (by walk_at "vo") rfl)
/-! ### _law_cells -/
def abcS (letters : Str) (n : Int) : Str := ⟨#[letters.cps.toList.getD n.toNat 0]⟩
def cellG (letters : Str) (s : Dc) (_ : Nat) : Str × Dc := (abcS letters (roll s letters.length).1, (roll s letters.length).2)
def cellRow (letters : Str) (v : Nat) (s : Dc) : List Str × Dc := thr (cellG letters) (List.range v) s
def rowG (letters : Str) (v : Nat) (s : Dc) (_ : Nat) : Str × Dc := (flatS (cellRow letters v s).1, (cellRow letters v s).2)
def cellsL (letters : Str) (h v : Nat) (s : Dc) : List Str × Dc := thr (rowG letters v) (List.range h) s
theorem cell_ones {letters : Str} {v : Nat} {s : Dc} : ∀ t ∈ (cellRow letters v s).1, t.length = 1 := by
  unfold cellRow
  refine thr_all (p := fun t : Str => t.length = 1) (fun s a => rfl) _ _
theorem cell_len {letters : Str} {v : Nat} {s : Dc} : (cellRow letters v s).1.length = v := by
  unfold cellRow
  rw [thr_len, List.length_range]
section
variable {P : Program} {w : World} {K : PySem.W.Frag} {mg : Str → Option Value} {base : Heap} (T_ : Tx K mg)
theorem sc41 : FnScope ["dice", "wide", "high", "letters", "y", "x"] ["dice", "wide", "high", "letters"] (defScope (top 41)) := by walk_at "sc"
def cE (d : Dc) (h v : Nat) (letters : Str) : List Ent := [.ow (dT d), .sh (.int v), .sh (.int h), .sh (.str letters), .no, .no]
theorem fin_cells {d d' : Dc} {h v : Nat} {l : Str} : FinA [.ow (dT d), .sh (.int v), .sh (.int h), .sh (.str l)] (cE d' h v l) [.ow (dT d'), .sh (.int v), .sh (.int h), .sh (.str l)] := by
  refine ⟨rfl, fun j t h => ?_, fun j t h => ?_⟩
  · match j with
    | 0 => cases h
    | 1 => exact h
    | 2 => exact h
    | 3 => exact h
    | j + 4 => cases h
  · match j with
    | 0 => cases h; exact ⟨rfl, _, rfl⟩
    | 1 => cases h
    | 2 => cases h
    | 3 => cases h
    | j + 4 => cases h
theorem cells_ok (d : Dc) (h v : Nat) (letters : Str) (hh : h < 10 ∧ v < 10) (hl : 0 < letters.length ∧ letters.length < 100) : FnOk P w K mg base (L2.CX P w) 2 T_.cells.f T_.cells.fd ["dice", "wide", "high", "letters"] (spOf K [.ow (dT d), .sh (.int v), .sh (.int h), .sh (.str letters)] (.ret (.tup ((cellsL letters h v d).1.map T.str)) [.ow (dT (cellsL letters h v d).2), .sh (.int v), .sh (.int h), .sh (.str letters)])) := by
  refine fn_ok (N := ["dice", "wide", "high", "letters", "y", "x"]) (o := .ret (.tup ((cellsL letters h v d).1.map T.str)) (cE (cellsL letters h v d).2 h v letters)) T_.cells.F sc41 rfl (.ret fin_cells) ?_
  show SGs _ (cE d h v letters) _ _
  refine sgs_one (sg_ret (eg_tupleL (by walk_at "gl") T_.nTuple (lcT (Ev := fun s => cE s h v letters) (g := rowG letters v) (f := T.str) (xs := List.range h) (toT := fun y : Nat => T.int (0 + (y : Int))) (i := 4) d (by walk_at "bk") (by walk_at "nd") (by walk_at "so") (fun _ => show 4 < 6 by decide) (fun _ _ => rfl) (fun t z => by cases z) (by rw [List.length_range]; omega) (ig_range (n := (h : Int)) (by walk_at "gl") T_.nRange (eg_sh (i := 2) (by walk_at "vo") rfl) (by omega)) fun y _ s => ?_).eg))
  refine eg_joinOnes cell_ones (by rw [cell_len]; omega) ?_
  refine (lcT (Ev := fun s => (cE s h v letters).set 4 (.sh (.int (0 + (y : Int))))) (g := cellG letters) (f := T.str) (xs := List.range v) (toT := fun x : Nat => T.int (0 + (x : Int))) (i := 5) s (by walk_at "bk") (by walk_at "nd") (by walk_at "so") (fun _ => show 5 < 6 by decide) (fun _ _ => rfl) (fun t z => by cases z) (by rw [List.length_range]; omega) (ig_range (n := (v : Int)) (by walk_at "gl") T_.nRange (eg_sh (i := 1) (by walk_at "vo") rfl) (by omega)) fun x _ s => ?_).eg
  have q := roll_lt s (m := (letters.length : Int)) (by omega)
  refine eg_itemS (eg_sh (i := 3) (by walk_at "vo") rfl) (eg_roll T_ (i := 0) (d := s) (m := (letters.length : Int)) rfl rfl rfl rfl rfl (by walk_at "lv") (by walk_at "vo") (by walk_at "gl") rfl (eg_lenStr (by walk_at "gl") T_.nLen (eg_sh (i := 3) (by walk_at "vo") rfl) (by omega)) ⟨by omega, by omega⟩) (by omega) ?_
  have e : (roll s letters.length).1 = (((roll s letters.length).1.toNat : Nat) : Int) := by omega
  have lt : (roll s letters.length).1.toNat < letters.cps.toList.length := by
    rw [Array.length_toList]
    show _ < letters.length
    omega
  rw [e]
  refine atI_any ?_
  rw [List.getD_eq_getElem?_getD, Int.toNat_natCast, List.getElem?_eq_getElem lt]
  rfl
include T_ in
theorem eg_cells {S : SS} {E : List Ent} {a b c : Expr} {i : Nat} {h v : Nat} {l : Str} {d : Dc} {p q pos : Pos} (hP : S.P = P) (hw : S.w = w) (hK : S.K = K) (hm : S.mg = mg) (hB : S.base = base) (hk : 2 ≤ S.k) (vo : VarOk S i "dice") (g : GlOk S "_law_cells") (h0 : E[i]? = some (.ow (dT d))) (h1 : EG S E a (.int v) E) (h2 : EG S E b (.int h) E) (h3 : EG S E c (.str l) E) (hh : h < 10 ∧ v < 10) (hl : 0 < l.length ∧ l.length < 100)
    (he : ∀ env, starEach [.Name "dice" q, a, b, c] env = (false, eval (.Name "dice" q) env) :: starEach [a, b, c] env := by intro _; rfl) (he2 : ∀ env, starEach [a, b, c] env = (false, eval a env) :: starEach [b, c] env := by intro _; rfl) (he3 : ∀ env, starEach [b, c] env = (false, eval b env) :: starEach [c] env := by intro _; rfl) (he4 : ∀ env, starEach [c] env = (false, eval c env) :: starEach [] env := by intro _; rfl) (hpl : ∀ env, (backTo pos (starEach [a, b, c] env)).any (·.1) = false := by intro _; rfl) :
    EG S E (.Call (.Name "_law_cells" p) [.Name "dice" q, a, b, c] [] pos) (.tup ((cellsL l h v d).1.map T.str)) (E.set i (.ow (dT (cellsL l h v d).2))) := by
  subst hP hw hK hm hB
  have h := eg_call (S := S) (E := E) (E1 := E) (k := 2) (x := "_law_cells") (p := p) (pos := pos) (e := .Name "dice" q) (es := [a, b, c]) (ds := [.bo i (dT d), .va (.int v), .va (.int h), .va (.str l)]) (dts := []) (dvs := []) (dV := []) (t := .tup ((cellsL l h v d).1.map T.str)) (as' := [.ow (dT (cellsL l h v d).2), .sh (.int v), .sh (.int h), .sh (.str l)]) (T_.cells.ok rfl rfl) g (cells_ok T_ d h v l hh hl) hk .nil (fun _ => .nil) (eab_bo vo h0 (eab_va h1 (eab_va h2 (eab_va h3 (eab_of eas_nil) he4) he3) he2) he) ?_ ?_ ?_ he hpl
  · exact h
  · intro j i' t hj
    match j with
    | 0 => cases hj; exact h0
    | 1 => cases hj
    | 2 => cases hj
    | 3 => cases hj
    | j + 4 => cases hj
  · exact List.nodup_cons.mpr ⟨List.not_mem_nil, List.nodup_nil⟩
  · intro j i' t hj
    match j with
    | 0 => exact ⟨_, rfl⟩
    | 1 => cases hj
    | 2 => cases hj
    | 3 => cases hj
    | j + 4 => cases hj
end
end K01
end Cw
end L2

set_option Elab.async false
set_option linter.all false
set_option maxRecDepth 100000
set_option maxHeartbeats 4000000
namespace L2
namespace Cw
namespace K01
open PySem PySem.Spec PyProof.Rows
local macro_rules | `(tactic| walk_at "vo") => `(tactic| exact ⟨rfl, by first | exact .inl rfl | exact .inr (.inl rfl) | exact .inr (.inr rfl), by decide, by decide⟩)
local macro_rules | `(tactic| walk_at "gl") => `(tactic| exact ⟨rfl, by decide⟩)
local macro_rules | `(tactic| walk_at "nd") => `(tactic| (dsimp only [SS.blk, defP]; decide +kernel))
local macro_rules | `(tactic| walk_at "so") => `(tactic| exact ⟨by walk_at "nd", rfl, by first | exact .inl rfl | exact .inr rfl, by first | exact .inl rfl | exact .inr rfl, by first | (dsimp only [SS.blk, defP, pins]; decide) | (simp [SS.blk, defP, pins, isOw, List.range_succ]; done)⟩)
local macro_rules | `(tactic| walk_at "bk") => `(tactic| exact blkOk_by (by walk_at "nd"))
local macro_rules | `(tactic| walk_at "ln") => `(tactic| (simp; done))
local macro_rules | `(tactic| walk_at "no") => `(tactic| (intro t; simp; done))
local macro_rules | `(tactic| walk_at "lv") => `(tactic| (dsimp only [SS.blk, defP]; decide))
local macro_rules | `(tactic| walk_at "sc") => `(tactic| exact ⟨rfl, rfl, rfl, by decide +kernel, rfl, by decide +kernel, by decide +kernel⟩)
/- a name's value -/
local macro_rules | `(tactic| walk_at "v") => `(tactic| first
  | exact eg_sh (i := 0) (by walk_at "vo") rfl | exact eg_sh (i := 1) (by walk_at "vo") rfl | exact eg_sh (i := 2) (by walk_at "vo") rfl | exact eg_sh (i := 3) (by walk_at "vo") rfl
  | exact eg_sh (i := 4) (by walk_at "vo") rfl | exact eg_sh (i := 5) (by walk_at "vo") rfl | exact eg_sh (i := 6) (by walk_at "vo") rfl | exact eg_sh (i := 7) (by walk_at "vo") rfl)
def owOk : Ent → Bool
  | .ow (.lst _) => true
  | .ow _ => false
  | _ => true
theorem owOk_n : owOk .no = true := rfl
theorem owOk_s (t : T) : owOk (.sh t) = true := rfl
theorem owOk_d (d : Dc) : owOk (.ow (dT d)) = true := rfl
theorem owOk_no {e : Ent} (h : isOw e = false) : owOk e = true := by
  cases e with
  | ow t => cases h
  | _ => rfl
theorem owl_all {E : List Ent} (h : E.all owOk = true) : OwL E := fun i t e => by
  have := List.all_eq_true.mp h _ (List.mem_of_getElem? e)
  cases t <;> first | exact ⟨_, rfl⟩ | cases this
/-! ### _law_cases1 -/
section
variable {P : Program} {w : World} {K : PySem.W.Frag} {mg : Str → Option Value} {base : Heap} (T_ : Tx K mg)
theorem sc42 : FnScope ["wrong", "pair"] [] (defScope (top 42)) := by walk_at "sc"
abbrev cS (P : Program) (w : World) (K : PySem.W.Frag) (mg : Str → Option Value) (base : Heap) : SS := defP P w K mg base 6 ["wrong", "pair"] (defScope (top 42))
/-- a lambda that must be told a word, beside this word -/
def WOk (P : Program) (w : World) (base : Heap) (q : Str) (t : T) : Prop := ∃ (ps : Arguments) (body : Expr) (sc : Scope) (C : Addr) (wd : Str), t = .tup [lamT q ps body sc, .str wd] ∧ FnScope [] [] sc ∧ (∀ (c : Addr) (ct pm : Value), bindArgs (PySem.W.kla_fn "<lambda>" q ps body sc [] pm (.ref c) ct) ⟨[], []⟩ = pure []) ∧ Catch K C (words T_) wd ∧ PyData.strOk wd = true ∧ EXi (defP P w K mg base 4 [] sc) [] body C []
def Wrongs (P : Program) (w : World) (base : Heap) (q : Str) (c D : Addr) (E : List Ent) (es : List Expr) : Prop := ∃ ts, ELs (cS P w K mg base) (LawF c q) [(D, q)] E es ts E ∧ ts.length = es.length ∧ ∀ t ∈ ts, WOk T_ P w base q t
theorem wr_nil {q : Str} {c D : Addr} {E : List Ent} : Wrongs T_ P w base q c D E [] := ⟨[], els_nil, rfl, fun _ h => absurd h List.not_mem_nil⟩
theorem wr_cons {q : Str} {c D : Addr} {E : List Ent} {ps : Arguments} {body : Expr} {sc : Scope} {C : Addr} {wd : Str} {p1 p2 p3 : Pos} {j n : Nat} {es : List Expr} (TB : LamX.TabB base mg c D) (ow : OwL E) (hdef : ∀ env, defaultsOf ps env = ([], [])) (Sc : FnScope [] [] sc)
    (hb : ∀ (c : Addr) (ct pm : Value), bindArgs (PySem.W.kla_fn "<lambda>" q ps body sc [] pm (.ref c) ct) ⟨[], []⟩ = pure []) (ca : Catch K C (words T_) wd) (so : PyData.strOk wd = true) (G : EXi (defP P w K mg base 4 [] sc) [] body C []) (r : Wrongs T_ P w base q c D E es)
    (hs : ∀ env, starEach (.Tuple [.Lambda ps body sc p1, .Constant (.str wd) j p2] n p3 :: es) env = (false, eval (.Tuple [.Lambda ps body sc p1, .Constant (.str wd) j p2] n p3) env) :: starEach es env := by intro _; rfl) :
    Wrongs T_ P w base q c D E (.Tuple [.Lambda ps body sc p1, .Constant (.str wd) j p2] n p3 :: es) := by
  obtain ⟨ts, h1, hl, h2⟩ := r
  refine ⟨_ :: ts, els_cons (el_tup (els_cons (el_lam TB ow hdef Sc.nofree) (els_cons (el_of eg_str ow) els_nil)) (by show 2 ≤ 16777216; decide)) h1 hs, by simp [hl], fun t ht => ?_⟩
  rcases List.mem_cons.mp ht with rfl | ht
  · exact ⟨ps, body, sc, C, wd, rfl, Sc, hb, ca, so, G⟩
  · exact h2 t ht
def wrongE : List Expr := match (defBody (top 42)).getD 0 (.Pass ⟨0, 0, 0, 0⟩) with | .Assign _ (.List es _) _ => es | _ => []
theorem wrong_all {q : Str} {c D : Addr} {E : List Ent} (TB : LamX.TabB base mg c D) (ow : OwL E) : Wrongs T_ P w base q c D E wrongE :=
  (wr_cons T_ TB ow (fun _ => rfl) (by walk_at "sc") (fun _ _ _ => rfl) (caughtS T_) (by decide +kernel) (ex_i (ex_fn (T_.check_size.ok rfl rfl) (by walk_at "gl") (check_size_no T_ 0 1 (by decide)) (by walk_at "lv") (pas_cons eg_int (pas_cons eg_int eas_nil))))
  (wr_cons T_ TB ow (fun _ => rfl) (by walk_at "sc") (fun _ _ _ => rfl) (caughtS T_) (by decide +kernel) (ex_i (ex_fn (T_.check_size.ok rfl rfl) (by walk_at "gl") (check_size_no T_ 1 10 (by decide)) (by walk_at "lv") (pas_cons eg_int (pas_cons eg_int eas_nil))))
  (wr_cons T_ TB ow (fun _ => rfl) (by walk_at "sc") (fun _ _ _ => rfl) (caughtS T_) (by decide +kernel) (ex_i (ex_fn (T_.boxes.ok rfl rfl) (by walk_at "gl") (boxes_no T_ 2 2 0 1 (by decide +kernel)) (by walk_at "lv") (pas_cons eg_int (pas_cons eg_int (pas_cons eg_int (pas_cons eg_int eas_nil))))))
  (wr_cons T_ TB ow (fun _ => rfl) (by walk_at "sc") (fun _ _ _ => rfl) (caughtT T_) (by decide +kernel) (ex_i (ex_fn (T_.lots_of.ok rfl rfl) (by walk_at "gl") (lots_of_no T_ [Str.ofString "a", Str.ofString "ab"] (.inl rfl) (by decide +kernel) (by decide) (by decide +kernel)) (by walk_at "lv") (pas_cons (pg_lst2 eg_str eg_str) eas_nil)))
  (wr_cons T_ TB ow (fun _ => rfl) (by walk_at "sc") (fun _ _ _ => rfl) (caughtT T_) (by decide +kernel) (ex_i (ex_fn (T_.check_rows.ok rfl rfl) (by walk_at "gl") (check_rows_no T_ [] (.inl rfl) (by decide +kernel) (by decide) (by decide +kernel)) (by walk_at "lv") (pas_cons pg_lst0 eas_nil)))
  (wr_cons T_ TB ow (fun _ => rfl) (by walk_at "sc") (fun _ _ _ => rfl) (caughtT T_) (by decide +kernel) (ex_i (ex_fn (T_.check_rows.ok rfl rfl) (by walk_at "gl") (check_rows_no T_ [Str.ofString ""] (.inl rfl) (by decide +kernel) (by decide) (by decide +kernel)) (by walk_at "lv") (pas_cons (pg_lst1 eg_str) eas_nil)))
  (wr_cons T_ TB ow (fun _ => rfl) (by walk_at "sc") (fun _ _ _ => rfl) (caughtT T_) (by decide +kernel) (ex_i (ex_callP (ts := [.lst [.str (Str.ofString "x")]]) (dts := [.str (Str.ofString ".")]) (dvs := [.str (Str.ofString ".")]) (T_.read.ok rfl rfl) (by walk_at "gl") (read_no T_) (by walk_at "lv") (.cons ⟨_, rfl⟩ .nil) (fun _ => .cons (rep_str.mpr rfl) .nil) (pas_cons (pg_lst1 eg_str) eas_nil)))
  (wr_nil T_))))))))
theorem read_one : readL (Str.ofString "-") [Str.ofString "1-"] = [((0, 0), .int 1)] := by
  have e1 : signs (Str.ofString "1-") = [Str.ofString "1", Str.ofString "-"] := by decide +kernel
  have e2 : PySem.intText? (Str.ofString "1") = some 1 := by decide +kernel
  have e3 : ¬ Str.ofString "1" = Str.ofString "-" := by decide +kernel
  show (signs (Str.ofString "1-")).zipIdx.foldl (readStep (Str.ofString "-") 0) [] = _
  rw [e1]
  show readStep (Str.ofString "-") 0 (readStep (Str.ofString "-") 0 [] (Str.ofString "1", 0)) (Str.ofString "-", 1) = _
  unfold readStep
  rw [if_pos rfl, if_neg e3, e2]
  rfl
include T_ in
theorem cases_ok {q : Str} {c D : Addr} (TB : LamX.TabB base mg c D) : ∃ E', LGs (cS P w K mg base) (LawF c q) [(D, q)] [.no, .no] (defBody (top 42)) (.ret (.bl true) E') := by
  have ow : OwL [Ent.no, Ent.no] := owl_all (by rfl)
  obtain ⟨ts, h1, hl, h2⟩ := wrong_all (P := P) (w := w) T_ (q := q) TB ow
  refine ⟨[.sh (.lst ts), .no], lgs_cons (E1 := [.sh (.lst ts), .no]) (lg_set (i := 0) (by walk_at "so") (el_lst h1 (by rw [hl]; decide)) (by walk_at "ln")) (lgs_stop (lg_of (sg_ret ?_) (owl_all (by rfl))) trivial)⟩
  have tb : (true : Bool) = (true && (true && true)) := rfl
  rw [tb]
  refine eg_andV ?_ fun _ => eg_andV ?_ fun _ => eg_and1 ?_
  · have e : (true : Bool) = teq (.lst ((ts.filter fun _ => false).map id)) (.lst []) := by
      have : ts.filter (fun _ => false) = [] := by simp
      rw [this]; rfl
    rw [e]
    refine eg_eq (n := 1) (LcD.eg (lcNF (α := T) (toT := id) (f := id) (xs := ts) (b := fun _ => false) (i := 1) (by walk_at "bk") (by walk_at "nd") (by walk_at "so") (by walk_at "ln") (by walk_at "no") (by rw [hl]; decide) (by rw [List.map_id]; exact pg_iter .lst (eg_sh (i := 0) (by walk_at "vo") rfl)) (fun t ht => ?_) fun _ _ z => by cases z)) pg_lst0 (by simp [DOk]) dok_nilL
    obtain ⟨ps, body, sc, C, wd, rfl, Sc, hb, ca, so, G⟩ := h2 t ht
    have e2 : false = !teq (.str wd) (.str wd) := by rw [teq_str]; simp
    rw [e2]
    exact pt_ne (n := 0) so so (eg_fn (T_.told_.ok rfl rfl) (by walk_at "gl") (told_exc T_ ca Sc hb G) (by walk_at "lv") (pas_cons (pg_item .tup at_0 (eg_sh (i := 1) (by walk_at "vo") rfl) eg_int) eas_nil)) (pg_item .tup at_1 (eg_sh (i := 1) (by walk_at "vo") rfl) eg_int)
  · have e : (true : Bool) = decide (decide ((partsL []).length < 2) = true) := by decide +kernel
    refine eg_to (t := .bl (decide (decide ((partsL []).length < 2) = true))) (eg_isB (eg_fn (T_.hangs.ok rfl rfl) (by walk_at "gl") (hangs_ok T_ [] (.inl rfl) List.nodup_nil (by decide)) (by walk_at "lv") (pas_cons pg_lst0 eas_nil)) eg_bl) (congrArg T.bl e.symm) rfl
  · have e : (true : Bool) = (deq (tabP [((0, 0), .int 1)]) (tabP [((0, 0), .int 1)]) == true) := by decide +kernel
    rw [e]
    refine eg_c (cmpN (E1 := [.sh (.lst ts), .no]) (n := 0) (.inl ⟨rfl, rfl⟩) (by decide) (da_sh ?_) (da_sh (eg_o ?_)) (fun p hp => ?_) fun p hp => ?_)
    · have r := read_ok T_ (P := P) (w := w) (base := base) [Str.ofString "1-"] (Str.ofString "-") (.inl rfl) (by decide +kernel) (by decide) (by decide +kernel) (fun y hy s hs => ?_) (by decide +kernel)
      · rw [read_one] at r
        exact eg_fn (f := T_.read.f) (fd := T_.read.fd) ⟨T_.read.mgf, T_.read.F.kp, T_.read2⟩ (by walk_at "gl") r (by walk_at "lv") (pas_cons (pg_lst1 eg_str) (pas_cons eg_str eas_nil))
      · cases List.mem_singleton.mp hy
        have e1 : signs (Str.ofString "1-") = [Str.ofString "1", Str.ofString "-"] := by decide +kernel
        rw [e1] at hs
        simp only [List.mem_cons, List.not_mem_nil, or_false] at hs
        rcases hs with rfl | rfl
        · exact ⟨by decide +kernel, by decide +kernel, .inr ⟨by decide +kernel, by decide +kernel⟩⟩
        · exact ⟨by decide +kernel, by decide +kernel, .inl rfl⟩
    · exact eo_disp (d0 := dN w []) (kvs := [(sqT (0, 0), .int 1)]) rfl rfl (by simp) (by decide) (.cons (pg_tup2 eg_int eg_int) eg_int .nil) dicN_new dicN_new_rep (.cons (d1 := dN w (putN [] (.tup (sqK (0, 0))) (.int 1))) (stoN (sqK_depth _) (by decide)) .nil)
    · cases List.mem_singleton.mp hp; trivial
    · cases List.mem_singleton.mp hp; trivial
end
end K01
end Cw
end L2

set_option Elab.async false
set_option linter.all false
set_option maxRecDepth 100000
set_option maxHeartbeats 4000000
namespace L2
namespace Cw
namespace K01
open PySem PySem.Spec PyProof.Rows
local macro_rules | `(tactic| walk_at "vo") => `(tactic| exact ⟨rfl, by first | exact .inl rfl | exact .inr (.inl rfl) | exact .inr (.inr rfl), by decide, by decide⟩)
local macro_rules | `(tactic| walk_at "gl") => `(tactic| exact ⟨rfl, by decide⟩)
local macro_rules | `(tactic| walk_at "nd") => `(tactic| (dsimp only [SS.blk, defP]; decide +kernel))
local macro_rules | `(tactic| walk_at "so") => `(tactic| exact ⟨by walk_at "nd", rfl, by first | exact .inl rfl | exact .inr rfl, by first | exact .inl rfl | exact .inr rfl, by first | (dsimp only [SS.blk, defP, pins]; decide) | (simp [SS.blk, defP, pins, isOw, List.range_succ]; done)⟩)
local macro_rules | `(tactic| walk_at "bk") => `(tactic| exact blkOk_by (by walk_at "nd"))
local macro_rules | `(tactic| walk_at "ln") => `(tactic| (simp; done))
local macro_rules | `(tactic| walk_at "no") => `(tactic| (intro t; simp; done))
local macro_rules | `(tactic| walk_at "lv") => `(tactic| (dsimp only [SS.blk, defP]; decide))
local macro_rules | `(tactic| walk_at "sc") => `(tactic| exact ⟨rfl, rfl, rfl, by decide +kernel, rfl, by decide +kernel, by decide +kernel⟩)
/- a name's value -/
local macro_rules | `(tactic| walk_at "v") => `(tactic| first
  | exact eg_sh (i := 0) (by walk_at "vo") rfl | exact eg_sh (i := 1) (by walk_at "vo") rfl | exact eg_sh (i := 2) (by walk_at "vo") rfl | exact eg_sh (i := 3) (by walk_at "vo") rfl
  | exact eg_sh (i := 4) (by walk_at "vo") rfl | exact eg_sh (i := 5) (by walk_at "vo") rfl | exact eg_sh (i := 6) (by walk_at "vo") rfl | exact eg_sh (i := 7) (by walk_at "vo") rfl)
abbrev lawN : List Str := ["script", "dice", "high", "wide", "spots", "y", "x", "tall", "broad", "lots", "rows", "table", "some", "reach", "parts", "left", "turn", "lot", "step", "numbers", "told_rows", "once", "spot", "letter", "row", "a", "b", "one"]
def lawBody : List Stmt := match (defBody (top 43)).getD 0 (.Pass ⟨0, 0, 0, 0⟩) with | .For _ _ b _ _ => b | _ => []
def bS (i : Nat) : Stmt := lawBody.getD i (.Pass ⟨0, 0, 0, 0⟩)
def cond (st : Stmt) : Expr := match st with | .If c _ _ _ => c | _ => .Constant .none 0 ⟨0, 0, 0, 0⟩
/-- one to so many -/
def sideD (d : Dc) (m : Int) : Nat := (1 + (roll d m).1).toNat
theorem sideD_ok (d : Dc) {m : Int} (hm : 0 < m) : 1 ≤ sideD d m ∧ (sideD d m : Int) ≤ m ∧ 1 + (roll d m).1 = (sideD d m : Nat) := by
  have q := roll_lt d hm
  unfold sideD
  omega
section
variable {P : Program} {w : World} {K : PySem.W.Frag} {mg : Str → Option Value} {base : Heap} (T_ : Tx K mg)
theorem sc43 : FnScope lawN ["script"] (defScope (top 43)) := by walk_at "sc"
abbrev lawS (P : Program) (w : World) (K : PySem.W.Frag) (mg : Str → Option Value) (base : Heap) : SS := defP P w K mg base 8 lawN (defScope (top 43))
include T_ in
theorem b0_ok (d : Dc) : SG (lawS P w K mg base) [.no, .ow (dT d), .no, .no, .no, .no, .no, .no, .no, .no, .no, .no, .no, .no, .no, .no, .no, .no, .no, .no, .no, .no, .no, .no, .no, .no, .no, .no] (bS 0) (.nx [.no, .ow (dT (roll (roll d 5).2 5).2), .sh (.int (sideD d 5 : Nat)), .sh (.int (sideD (roll d 5).2 5 : Nat)), .no, .no, .no, .no, .no, .no, .no, .no, .no, .no, .no, .no, .no, .no, .no, .no, .no, .no, .no, .no, .no, .no, .no, .no]) := by
  have e1 := (sideD_ok d (m := 5) (by decide)).2.2
  have e2 := (sideD_ok (roll d 5).2 (m := 5) (by decide)).2.2
  rw [← e1, ← e2]
  refine sg_nx (sg_parC (i := 2) (j := 3) (by walk_at "so") (by walk_at "so") rfl (eas_cons (eg_add eg_int (eg_roll T_ (i := 1) (d := d) (m := 5) rfl rfl rfl rfl rfl (by walk_at "lv") (by walk_at "vo") (by walk_at "gl") rfl eg_int ⟨by decide, by decide⟩)) (eas_cons (eg_add eg_int (eg_roll T_ (i := 1) (d := (roll d 5).2) (m := 5) rfl rfl rfl rfl rfl (by walk_at "lv") (by walk_at "vo") (by walk_at "gl") rfl eg_int ⟨by decide, by decide⟩)) eas_nil)) (by walk_at "ln") (by walk_at "ln")) rfl
theorem allSq_len (h v : Nat) : (allSq h v).length = h * v := by
  unfold allSq
  rw [List.length_flatMap]
  have all : ∀ l : List Nat, (l.map fun _ => v).sum = l.length * v := fun l => by
    induction l with
    | nil => simp
    | cons x l ih => rw [List.map_cons, List.sum_cons, ih, List.length_cons, Nat.succ_mul, Nat.add_comm]
  have e := all (List.range h)
  rw [List.length_range] at e
  simpa using e
include T_ in
theorem b1_ok (d : Dc) (h v : Nat) (hh : h < 10 ∧ v < 10) : SG (lawS P w K mg base) [.no, .ow (dT d), .sh (.int (h : Nat)), .sh (.int (v : Nat)), .no, .no, .no, .no, .no, .no, .no, .no, .no, .no, .no, .no, .no, .no, .no, .no, .no, .no, .no, .no, .no, .no, .no, .no] (bS 1) (.nx [.no, .ow (dT d), .sh (.int (h : Nat)), .sh (.int (v : Nat)), .sh (.lst ((allSq h v).map sqT)), .no, .no, .no, .no, .no, .no, .no, .no, .no, .no, .no, .no, .no, .no, .no, .no, .no, .no, .no, .no, .no, .no, .no]) := by
  have fl : ((List.range h).map fun y : Nat => (List.range v).map fun x : Nat => T.tup [.int (0 + (y : Int)), .int (0 + (x : Int))]).flatten = (allSq h v).map sqT := by
    unfold allSq
    rw [List.map_flatMap, List.flatMap_def]
    simp only [List.map_map, Int.toNat_natCast]
    rfl
  rw [← fl]
  refine sg_nx (sg_set (i := 4) (by walk_at "so") (eg_fn (T_.flat.ok rfl rfl) (by walk_at "gl") (flat_ok T_ ((List.range h).map fun y : Nat => (List.range v).map fun x : Nat => T.tup [.int (0 + (y : Int)), .int (0 + (x : Int))]) fun m => ?_) (by walk_at "lv") (pas_cons ?_ eas_nil)) (by walk_at "ln")) rfl
  · refine Nat.le_trans (take_flat_le _ _) ?_
    rw [fl, List.length_map, allSq_len]
    exact Nat.le_trans (Nat.mul_le_mul (show h ≤ 9 by omega) (show v ≤ 9 by omega)) (by decide)
  · rw [List.map_map]
    refine (lcN (α := Nat) (toT := fun y => T.int (0 + (y : Nat))) (i := 5) (by walk_at "bk") (by walk_at "nd") (by walk_at "so") (by walk_at "ln") (by walk_at "no") (by rw [List.length_range]; omega) (ig_range (n := (h : Int)) (by walk_at "gl") T_.nRange (eg_sh (i := 2) (by walk_at "vo") rfl) (by omega)) fun y _ => ?_).eg
    refine (lcN (α := Nat) (toT := fun x => T.int (0 + (x : Nat))) (i := 6) (by walk_at "bk") (by walk_at "nd") (by walk_at "so") (by walk_at "ln") (by walk_at "no") (by rw [List.length_range]; omega) (ig_range (n := (v : Int)) (by walk_at "gl") T_.nRange (eg_sh (i := 3) (by walk_at "vo") rfl) (by omega)) fun x _ => ?_).eg
    exact pg_tup2 (eg_sh (i := 5) (by walk_at "vo") rfl) (eg_sh (i := 6) (by walk_at "vo") rfl)
theorem dok_sq (p : Sq) : DOk 1 (sqT p) := by
  intro t ht
  simp at ht
  rcases ht with rfl | rfl <;> trivial
theorem dok_sqs (xs : List Sq) : DOk 2 (.lst (xs.map sqT)) := fun t ht => by
  obtain ⟨p, _, rfl⟩ := List.mem_map.mp ht
  exact dok_sq p
theorem teq_sqs (xs ys : List Sq) : teq (.lst (xs.map sqT)) (.lst (ys.map sqT)) = decide (xs = ys) := by
  have e : Enc 1 sqT := ⟨fun a b => by
    obtain ⟨a, b⟩ := a
    rename_i c
    obtain ⟨c, d⟩ := c
    simp [teq, sqT, toD, toDs, PyData.eqv, PyData.eqvAll, Prod.mk.injEq]
    rfl, dok_sq⟩
  exact e.lst.eq xs ys
include T_ in
theorem b2_ok (d : Dc) (h v : Nat) (hh : 0 < h ∧ h < 10 ∧ 0 < v ∧ v < 10) : TtG (lawS P w K mg base) [.no, .ow (dT d), .sh (.int (h : Nat)), .sh (.int (v : Nat)), .sh (.lst ((allSq h v).map sqT)), .no, .no, .no, .no, .no, .no, .no, .no, .no, .no, .no, .no, .no, .no, .no, .no, .no, .no, .no, .no, .no, .no, .no] (cond (bS 2)) false [.no, .ow (dT d), .sh (.int (h : Nat)), .sh (.int (v : Nat)), .sh (.lst ((allSq h v).map sqT)), .no, .no, .no, .no, .no, .no, .no, .no, .no, .no, .no, .no, .no, .no, .no, .no, .no, .no, .no, .no, .no, .no, .no] := by
  have e : false = (!teq (.lst ((allSq h v).map sqT)) (.lst ((allSq h v).map sqT)) || !teq (.tup [.int h, .int v]) (.tup [.int h, .int v])) := by
    rw [teq_refl (dok_sqs _), teq_refl (n := 1) (t := .tup [.int h, .int v]) (dok_sq (h, v))]; rfl
  rw [e]
  exact tg_w (wg_or (pt_ne (n := 2) (dok_sqs _) (dok_sqs _) (eg_listS .tup (by walk_at "gl") T_.nList (eg_fn (T_.all_squares.ok rfl rfl) (by walk_at "gl") (all_squares_ok T_ h v (by omega)) (by walk_at "lv") (pas_cons (eg_sh (i := 2) (by walk_at "vo") rfl) (pas_cons (eg_sh (i := 3) (by walk_at "vo") rfl) eas_nil)))) (eg_sh (i := 4) (by walk_at "vo") rfl)) fun _ => wg_or1 (pt_ne (n := 1) (dok_sq (h, v)) (dok_sq (h, v)) (eg_fn (T_.check_size.ok rfl rfl) (by walk_at "gl") (check_size_ok T_ h v (by omega)) (by walk_at "lv") (pas_cons (eg_sh (i := 2) (by walk_at "vo") rfl) (pas_cons (eg_sh (i := 3) (by walk_at "vo") rfl) eas_nil))) (pg_tup2 (eg_sh (i := 2) (by walk_at "vo") rfl) (eg_sh (i := 3) (by walk_at "vo") rfl))))
/-- the square that is drawn -/
def spotD (d : Dc) (h v : Nat) : Sq := (allSq h v).getD (roll d ((h * v : Nat) : Int)).1.toNat (0, 0)
theorem spotD_at (d : Dc) (h v : Nat) (hh : 0 < h ∧ 0 < v) : atI ((allSq h v).map sqT) (roll d ((h * v : Nat) : Int)).1 = some (sqT (spotD d h v)) := by
  have pos : 0 < h * v := Nat.mul_pos hh.1 hh.2
  have q := roll_lt d (m := ((h * v : Nat) : Int)) (by omega)
  have e : (roll d ((h * v : Nat) : Int)).1 = (((roll d ((h * v : Nat) : Int)).1.toNat : Nat) : Int) := by omega
  have lt : (roll d ((h * v : Nat) : Int)).1.toNat < (allSq h v).length := by rw [allSq_len]; omega
  unfold spotD
  rw [e]
  refine atI_any ?_
  rw [Int.toNat_natCast, List.getElem?_map, List.getD_eq_getElem?_getD, List.getElem?_eq_getElem lt]
  rfl
theorem spotD_in (d : Dc) (h v : Nat) (hh : 0 < h ∧ 0 < v) : ∃ y x : Nat, y < h ∧ x < v ∧ spotD d h v = (0 + (y : Int), 0 + (x : Int)) := by
  have pos : 0 < h * v := Nat.mul_pos hh.1 hh.2
  have q := roll_lt d (m := ((h * v : Nat) : Int)) (by omega)
  have lt : (roll d ((h * v : Nat) : Int)).1.toNat < (allSq h v).length := by rw [allSq_len]; omega
  have m : spotD d h v ∈ allSq h v := by
    unfold spotD
    rw [List.getD_eq_getElem?_getD, List.getElem?_eq_getElem lt]
    exact List.getElem_mem _
  unfold allSq at m
  obtain ⟨y, hy, m⟩ := List.mem_flatMap.mp m
  obtain ⟨x, hx, e⟩ := List.mem_map.mp m
  rw [List.mem_range, Int.toNat_natCast] at hy hx
  exact ⟨y, x, hy, hx, e.symm⟩
include T_ in
theorem b3_ok (d : Dc) (h v : Nat) (hh : 0 < h ∧ h < 10 ∧ 0 < v ∧ v < 10) : SG (lawS P w K mg base) [.no, .ow (dT d), .sh (.int (h : Nat)), .sh (.int (v : Nat)), .sh (.lst ((allSq h v).map sqT)), .no, .no, .no, .no, .no, .no, .no, .no, .no, .no, .no, .no, .no, .no, .no, .no, .no, .no, .no, .no, .no, .no, .no] (bS 3) (.nx [.no, .ow (dT (roll d ((h * v : Nat) : Int)).2), .sh (.int (h : Nat)), .sh (.int (v : Nat)), .sh (.lst ((allSq h v).map sqT)), .sh (.int (spotD d h v).1), .sh (.int (spotD d h v).2), .no, .no, .no, .no, .no, .no, .no, .no, .no, .no, .no, .no, .no, .no, .no, .no, .no, .no, .no, .no, .no]) := by
  have pos : 0 < h * v := Nat.mul_pos hh.1 hh.2.2.1
  have lt : h * v ≤ 81 := Nat.mul_le_mul (show h ≤ 9 by omega) (show v ≤ 9 by omega)
  refine sg_nx (sg_asg (eg_item .lst (eg_sh (i := 4) (by walk_at "vo") rfl) (eg_roll T_ (i := 1) (d := d) (m := ((h * v : Nat) : Int)) rfl rfl rfl rfl rfl (by walk_at "lv") (by walk_at "vo") (by walk_at "gl") rfl (eg_to (eg_len .lst (by walk_at "gl") T_.nLen (eg_sh (i := 4) (by walk_at "vo") rfl)) (by rw [List.length_map, allSq_len]) rfl) ⟨by omega, by omega⟩) (spotD_at d h v ⟨hh.1, hh.2.2.1⟩)) (ag_two (i := 5) (j := 6) (.inl rfl) (by walk_at "so") (by walk_at "so") (by walk_at "ln") (by walk_at "ln"))) rfl
include T_ in
theorem b6_ok (d : Dc) (h v : Nat) (p : Sq) : SG (lawS P w K mg base) [.no, .ow (dT d), .sh (.int (h : Nat)), .sh (.int (v : Nat)), .sh (.lst ((allSq h v).map sqT)), .sh (.int p.1), .sh (.int p.2), .no, .no, .no, .no, .no, .no, .no, .no, .no, .no, .no, .no, .no, .no, .no, .no, .no, .no, .no, .no, .no] (bS 6) (.nx [.no, .ow (dT (roll (roll d 3).2 3).2), .sh (.int (h : Nat)), .sh (.int (v : Nat)), .sh (.lst ((allSq h v).map sqT)), .sh (.int p.1), .sh (.int p.2), .sh (.int (sideD d 3 : Nat)), .sh (.int (sideD (roll d 3).2 3 : Nat)), .no, .no, .no, .no, .no, .no, .no, .no, .no, .no, .no, .no, .no, .no, .no, .no, .no, .no, .no]) := by
  have e1 := (sideD_ok d (m := 3) (by decide)).2.2
  have e2 := (sideD_ok (roll d 3).2 (m := 3) (by decide)).2.2
  rw [← e1, ← e2]
  refine sg_nx (sg_parC (i := 7) (j := 8) (by walk_at "so") (by walk_at "so") rfl (eas_cons (eg_add eg_int (eg_roll T_ (i := 1) (d := d) (m := 3) rfl rfl rfl rfl rfl (by walk_at "lv") (by walk_at "vo") (by walk_at "gl") rfl eg_int ⟨by decide, by decide⟩)) (eas_cons (eg_add eg_int (eg_roll T_ (i := 1) (d := (roll d 3).2) (m := 3) rfl rfl rfl rfl rfl (by walk_at "lv") (by walk_at "vo") (by walk_at "gl") rfl eg_int ⟨by decide, by decide⟩)) eas_nil)) (by walk_at "ln") (by walk_at "ln")) rfl

end
end K01
end Cw
end L2

set_option Elab.async false
set_option linter.all false
set_option maxRecDepth 100000
set_option maxHeartbeats 4000000
namespace L2
namespace Cw
namespace K01
open PySem PySem.Spec PyProof.Rows
local macro_rules | `(tactic| walk_at "vo") => `(tactic| exact ⟨rfl, by first | exact .inl rfl | exact .inr (.inl rfl) | exact .inr (.inr rfl), by decide, by decide⟩)
local macro_rules | `(tactic| walk_at "gl") => `(tactic| exact ⟨rfl, by decide⟩)
local macro_rules | `(tactic| walk_at "nd") => `(tactic| (dsimp only [SS.blk, defP]; decide +kernel))
local macro_rules | `(tactic| walk_at "so") => `(tactic| exact ⟨by walk_at "nd", rfl, by first | exact .inl rfl | exact .inr rfl, by first | exact .inl rfl | exact .inr rfl, by first | (dsimp only [SS.blk, defP, pins]; decide) | (simp [SS.blk, defP, pins, isOw, List.range_succ]; done)⟩)
local macro_rules | `(tactic| walk_at "bk") => `(tactic| exact blkOk_by (by walk_at "nd"))
local macro_rules | `(tactic| walk_at "ln") => `(tactic| (simp; done))
local macro_rules | `(tactic| walk_at "no") => `(tactic| (intro t; simp; done))
local macro_rules | `(tactic| walk_at "lv") => `(tactic| (dsimp only [SS.blk, defP]; decide))
local macro_rules | `(tactic| walk_at "sc") => `(tactic| exact ⟨rfl, rfl, rfl, by decide +kernel, rfl, by decide +kernel, by decide +kernel⟩)
/- a name's value -/
local macro_rules | `(tactic| walk_at "v") => `(tactic| first
  | exact eg_sh (i := 0) (by walk_at "vo") rfl | exact eg_sh (i := 1) (by walk_at "vo") rfl | exact eg_sh (i := 2) (by walk_at "vo") rfl | exact eg_sh (i := 3) (by walk_at "vo") rfl
  | exact eg_sh (i := 4) (by walk_at "vo") rfl | exact eg_sh (i := 5) (by walk_at "vo") rfl | exact eg_sh (i := 6) (by walk_at "vo") rfl | exact eg_sh (i := 7) (by walk_at "vo") rfl)
def absI (i : Int) : Int := if i < 0 then -i else i
def maxI (i j : Int) : Int := if i < j then j else i
def rowB (y : Nat) (s : Sq) : Bool := teq (.int s.1) (.int (0 + (y : Int)))
def colB (x : Nat) (s : Sq) : Bool := teq (.int s.2) (.int (0 + (x : Int)))
def besB (y x : Nat) (s : Sq) : Bool := teq (.int (absI (s.1 - (0 + (y : Int))) + absI (s.2 - (0 + (x : Int))))) (.int 1)
def aroB (y x : Nat) (s : Sq) : Bool := teq (.int (maxI (absI (s.1 - (0 + (y : Int)))) (absI (s.2 - (0 + (x : Int)))))) (.int 1)
theorem row_fact (h v y : Nat) (hh : h < 6 ∧ v < 6 ∧ y < h) : ((List.range v).map fun x : Nat => ((0 + (y : Int), 0 + (x : Int)) : Sq)) = (allSq h v).filter (rowB y) := by
  have all : ∀ h v y : _root_.Fin 6, y.val < h.val → ((List.range v.val).map fun x : Nat => ((0 + (y.val : Int), 0 + (x : Int)) : Sq)) = (allSq h.val v.val).filter fun s => decide (s.1 = 0 + (y.val : Int)) := by decide +kernel
  have e : rowB y = fun s : Sq => decide (s.1 = 0 + (y : Int)) := by funext s; exact enc_int.eq _ _
  rw [e]
  exact all ⟨h, hh.1⟩ ⟨v, hh.2.1⟩ ⟨y, by omega⟩ hh.2.2
theorem col_fact (h v x : Nat) (hh : h < 6 ∧ v < 6 ∧ x < v) : ((List.range h).map fun y : Nat => ((0 + (y : Int), 0 + (x : Int)) : Sq)) = (allSq h v).filter (colB x) := by
  have all : ∀ h v x : _root_.Fin 6, x.val < v.val → ((List.range h.val).map fun y : Nat => ((0 + (y : Int), 0 + (x.val : Int)) : Sq)) = (allSq h.val v.val).filter fun s => decide (s.2 = 0 + (x.val : Int)) := by decide +kernel
  have e : colB x = fun s : Sq => decide (s.2 = 0 + (x : Int)) := by funext s; exact enc_int.eq _ _
  rw [e]
  exact all ⟨h, hh.1⟩ ⟨v, hh.2.1⟩ ⟨x, by omega⟩ hh.2.2
theorem bes_fact (h v y x : Nat) (hh : h < 6 ∧ v < 6 ∧ y < h ∧ x < v) : besideL (0 + (y : Int), 0 + (x : Int)) h v = (allSq h v).filter (besB y x) := by
  have all : ∀ h v y x : _root_.Fin 6, y.val < h.val → x.val < v.val → besideL (0 + (y.val : Int), 0 + (x.val : Int)) h.val v.val = (allSq h.val v.val).filter fun s => decide (absI (s.1 - (0 + (y.val : Int))) + absI (s.2 - (0 + (x.val : Int))) = 1) := by decide +kernel
  have e : besB y x = fun s : Sq => decide (absI (s.1 - (0 + (y : Int))) + absI (s.2 - (0 + (x : Int))) = 1) := by funext s; exact enc_int.eq _ _
  rw [e]
  exact all ⟨h, hh.1⟩ ⟨v, hh.2.1⟩ ⟨y, by omega⟩ ⟨x, by omega⟩ hh.2.2.1 hh.2.2.2
theorem aro_fact (h v y x : Nat) (hh : h < 6 ∧ v < 6 ∧ y < h ∧ x < v) : aroundL (0 + (y : Int), 0 + (x : Int)) h v = (allSq h v).filter (aroB y x) := by
  have all : ∀ h v y x : _root_.Fin 6, y.val < h.val → x.val < v.val → aroundL (0 + (y.val : Int), 0 + (x.val : Int)) h.val v.val = (allSq h.val v.val).filter fun s => decide (maxI (absI (s.1 - (0 + (y.val : Int)))) (absI (s.2 - (0 + (x.val : Int)))) = 1) := by decide +kernel
  have e : aroB y x = fun s : Sq => decide (maxI (absI (s.1 - (0 + (y : Int)))) (absI (s.2 - (0 + (x : Int)))) = 1) := by funext s; exact enc_int.eq _ _
  rw [e]
  exact all ⟨h, hh.1⟩ ⟨v, hh.2.1⟩ ⟨y, by omega⟩ ⟨x, by omega⟩ hh.2.2.1 hh.2.2.2
section
variable {P : Program} {w : World} {K : PySem.W.Frag} {mg : Str → Option Value} {base : Heap} (T_ : Tx K mg)
include T_ in
theorem b4_ok (d : Dc) (h v y x : Nat) (hh : h < 6 ∧ v < 6 ∧ y < h ∧ x < v) : TtG (lawS P w K mg base) [.no, .ow (dT d), .sh (.int (h : Nat)), .sh (.int (v : Nat)), .sh (.lst ((allSq h v).map sqT)), .sh (.int (0 + (y : Nat))), .sh (.int (0 + (x : Nat))), .no, .no, .no, .no, .no, .no, .no, .no, .no, .no, .no, .no, .no, .no, .no, .no, .no, .no, .no, .no, .no] (cond (bS 4)) false [.no, .ow (dT d), .sh (.int (h : Nat)), .sh (.int (v : Nat)), .sh (.lst ((allSq h v).map sqT)), .sh (.int (0 + (y : Nat))), .sh (.int (0 + (x : Nat))), .no, .no, .no, .no, .no, .no, .no, .no, .no, .no, .no, .no, .no, .no, .no, .no, .no, .no, .no, .no, .no] := by
  have lt : h * v ≤ 25 := Nat.mul_le_mul (show h ≤ 5 by omega) (show v ≤ 5 by omega)
  have e : false = (!teq (.lst (((List.range v).map fun x : Nat => ((0 + (y : Int), 0 + (x : Int)) : Sq)).map sqT)) (.lst (((allSq h v).filter (rowB y)).map sqT)) || !teq (.lst (((List.range h).map fun y : Nat => ((0 + (y : Int), 0 + (x : Int)) : Sq)).map sqT)) (.lst (((allSq h v).filter (colB x)).map sqT))) := by
    rw [teq_sqs, teq_sqs, row_fact h v y (by omega), col_fact h v x (by omega)]; simp
  rw [e]
  refine tg_w (wg_or (pt_ne (n := 2) (dok_sqs _) (dok_sqs _) (eg_listS .tup (by walk_at "gl") T_.nList (eg_fn (T_.row_of.ok rfl rfl) (by walk_at "gl") (row_of_ok T_ (0 + (y : Int)) v (by omega)) (by walk_at "lv") (pas_cons (eg_sh (i := 5) (by walk_at "vo") rfl) (pas_cons (eg_sh (i := 3) (by walk_at "vo") rfl) eas_nil)))) (LcD.eg (lcNF (α := Sq) (toT := sqT) (f := sqT) (xs := allSq h v) (b := rowB y) (i := 22) (by walk_at "bk") (by walk_at "nd") (by walk_at "so") (by walk_at "ln") (by walk_at "no") (by rw [allSq_len]; omega) (pg_iter .lst (eg_sh (i := 4) (by walk_at "vo") rfl)) (fun s _ => pt_eq (n := 0) trivial trivial (pg_item .tup at_0 (eg_sh (i := 22) (by walk_at "vo") rfl) eg_int) (eg_sh (i := 5) (by walk_at "vo") rfl)) fun s _ _ => (eg_sh (i := 22) (by walk_at "vo") rfl)))) fun _ => wg_or1 (pt_ne (n := 2) (dok_sqs _) (dok_sqs _) (eg_listS .tup (by walk_at "gl") T_.nList (eg_fn (T_.column_of.ok rfl rfl) (by walk_at "gl") (column_of_ok T_ (0 + (x : Int)) h (by omega)) (by walk_at "lv") (pas_cons (eg_sh (i := 6) (by walk_at "vo") rfl) (pas_cons (eg_sh (i := 2) (by walk_at "vo") rfl) eas_nil)))) (LcD.eg (lcNF (α := Sq) (toT := sqT) (f := sqT) (xs := allSq h v) (b := colB x) (i := 22) (by walk_at "bk") (by walk_at "nd") (by walk_at "so") (by walk_at "ln") (by walk_at "no") (by rw [allSq_len]; omega) (pg_iter .lst (eg_sh (i := 4) (by walk_at "vo") rfl)) (fun s _ => pt_eq (n := 0) trivial trivial (pg_item .tup at_1 (eg_sh (i := 22) (by walk_at "vo") rfl) eg_int) (eg_sh (i := 6) (by walk_at "vo") rfl)) fun s _ _ => (eg_sh (i := 22) (by walk_at "vo") rfl)))))
include T_ in
theorem b5_ok (d : Dc) (h v y x : Nat) (hh : h < 6 ∧ v < 6 ∧ y < h ∧ x < v) : TtG (lawS P w K mg base) [.no, .ow (dT d), .sh (.int (h : Nat)), .sh (.int (v : Nat)), .sh (.lst ((allSq h v).map sqT)), .sh (.int (0 + (y : Nat))), .sh (.int (0 + (x : Nat))), .no, .no, .no, .no, .no, .no, .no, .no, .no, .no, .no, .no, .no, .no, .no, .no, .no, .no, .no, .no, .no] (cond (bS 5)) false [.no, .ow (dT d), .sh (.int (h : Nat)), .sh (.int (v : Nat)), .sh (.lst ((allSq h v).map sqT)), .sh (.int (0 + (y : Nat))), .sh (.int (0 + (x : Nat))), .no, .no, .no, .no, .no, .no, .no, .no, .no, .no, .no, .no, .no, .no, .no, .no, .no, .no, .no, .no, .no] := by
  have lt : h * v ≤ 25 := Nat.mul_le_mul (show h ≤ 5 by omega) (show v ≤ 5 by omega)
  have e : false = (!teq (.lst ((besideL (0 + (y : Int), 0 + (x : Int)) h v).map sqT)) (.lst (((allSq h v).filter (besB y x)).map sqT)) || !teq (.lst ((aroundL (0 + (y : Int), 0 + (x : Int)) h v).map sqT)) (.lst (((allSq h v).filter (aroB y x)).map sqT))) := by
    rw [teq_sqs, teq_sqs, bes_fact h v y x hh, aro_fact h v y x hh]; simp
  rw [e]
  refine tg_w (wg_or (pt_ne (n := 2) (dok_sqs _) (dok_sqs _) (eg_listS .tup (by walk_at "gl") T_.nList (eg_fn (T_.beside.ok rfl rfl) (by walk_at "gl") (beside_ok T_ (0 + (y : Int), 0 + (x : Int)) h v) (by walk_at "lv") (pas_cons (pg_tup2 (eg_sh (i := 5) (by walk_at "vo") rfl) (eg_sh (i := 6) (by walk_at "vo") rfl)) (pas_cons (eg_sh (i := 2) (by walk_at "vo") rfl) (pas_cons (eg_sh (i := 3) (by walk_at "vo") rfl) eas_nil))))) (LcD.eg (lcNF (α := Sq) (toT := sqT) (f := sqT) (xs := allSq h v) (b := besB y x) (i := 22) (by walk_at "bk") (by walk_at "nd") (by walk_at "so") (by walk_at "ln") (by walk_at "no") (by rw [allSq_len]; omega) (pg_iter .lst (eg_sh (i := 4) (by walk_at "vo") rfl)) (fun s _ => pt_eq (n := 0) trivial trivial (pg_add (eg_abs (by walk_at "gl") T_.nAbs (pg_sub (pg_item .tup at_0 (eg_sh (i := 22) (by walk_at "vo") rfl) eg_int) (eg_sh (i := 5) (by walk_at "vo") rfl))) (eg_abs (by walk_at "gl") T_.nAbs (pg_sub (pg_item .tup at_1 (eg_sh (i := 22) (by walk_at "vo") rfl) eg_int) (eg_sh (i := 6) (by walk_at "vo") rfl)))) eg_int) fun s _ _ => (eg_sh (i := 22) (by walk_at "vo") rfl)))) fun _ => wg_or1 (pt_ne (n := 2) (dok_sqs _) (dok_sqs _) (eg_listS .tup (by walk_at "gl") T_.nList (eg_fn (T_.around.ok rfl rfl) (by walk_at "gl") (around_ok T_ (0 + (y : Int), 0 + (x : Int)) h v) (by walk_at "lv") (pas_cons (pg_tup2 (eg_sh (i := 5) (by walk_at "vo") rfl) (eg_sh (i := 6) (by walk_at "vo") rfl)) (pas_cons (eg_sh (i := 2) (by walk_at "vo") rfl) (pas_cons (eg_sh (i := 3) (by walk_at "vo") rfl) eas_nil))))) (LcD.eg (lcNF (α := Sq) (toT := sqT) (f := sqT) (xs := allSq h v) (b := aroB y x) (i := 22) (by walk_at "bk") (by walk_at "nd") (by walk_at "so") (by walk_at "ln") (by walk_at "no") (by rw [allSq_len]; omega) (pg_iter .lst (eg_sh (i := 4) (by walk_at "vo") rfl)) (fun s _ => pt_eq (n := 0) trivial trivial (eg_max2 (by walk_at "gl") T_.nMax (eg_abs (by walk_at "gl") T_.nAbs (pg_sub (pg_item .tup at_0 (eg_sh (i := 22) (by walk_at "vo") rfl) eg_int) (eg_sh (i := 5) (by walk_at "vo") rfl))) (eg_abs (by walk_at "gl") T_.nAbs (pg_sub (pg_item .tup at_1 (eg_sh (i := 22) (by walk_at "vo") rfl) eg_int) (eg_sh (i := 6) (by walk_at "vo") rfl)))) eg_int) fun s _ _ => (eg_sh (i := 22) (by walk_at "vo") rfl)))))

end
end K01
end Cw
end L2

set_option Elab.async false
set_option linter.all false
set_option maxRecDepth 100000
set_option maxHeartbeats 4000000
namespace L2
namespace Cw
namespace K01
open PySem PySem.Spec PyProof.Rows
local macro_rules | `(tactic| walk_at "vo") => `(tactic| exact ⟨rfl, by first | exact .inl rfl | exact .inr (.inl rfl) | exact .inr (.inr rfl), by decide, by decide⟩)
local macro_rules | `(tactic| walk_at "gl") => `(tactic| exact ⟨rfl, by decide⟩)
local macro_rules | `(tactic| walk_at "nd") => `(tactic| (dsimp only [SS.blk, defP]; decide +kernel))
local macro_rules | `(tactic| walk_at "so") => `(tactic| exact ⟨by walk_at "nd", rfl, by first | exact .inl rfl | exact .inr rfl, by first | exact .inl rfl | exact .inr rfl, by first | (dsimp only [SS.blk, defP, pins]; decide) | (simp [SS.blk, defP, pins, isOw, List.range_succ]; done)⟩)
local macro_rules | `(tactic| walk_at "bk") => `(tactic| exact blkOk_by (by walk_at "nd"))
local macro_rules | `(tactic| walk_at "ln") => `(tactic| (simp; done))
local macro_rules | `(tactic| walk_at "no") => `(tactic| (intro t; simp; done))
local macro_rules | `(tactic| walk_at "lv") => `(tactic| (dsimp only [SS.blk, defP]; decide))
local macro_rules | `(tactic| walk_at "sc") => `(tactic| exact ⟨rfl, rfl, rfl, by decide +kernel, rfl, by decide +kernel, by decide +kernel⟩)
/- a name's value -/
local macro_rules | `(tactic| walk_at "v") => `(tactic| first
  | exact eg_sh (i := 0) (by walk_at "vo") rfl | exact eg_sh (i := 1) (by walk_at "vo") rfl | exact eg_sh (i := 2) (by walk_at "vo") rfl | exact eg_sh (i := 3) (by walk_at "vo") rfl
  | exact eg_sh (i := 4) (by walk_at "vo") rfl | exact eg_sh (i := 5) (by walk_at "vo") rfl | exact eg_sh (i := 6) (by walk_at "vo") rfl | exact eg_sh (i := 7) (by walk_at "vo") rfl)
/-- what the boxes come to, told -/
def goodB (h v a b : Nat) : Prop := h % a = 0 ∧ v % b = 0
instance (h v a b : Nat) : Decidable (goodB h v a b) := inferInstanceAs (Decidable (_ ∧ _))
def lotsV (h v a b : Nat) : T := if goodB h v a b then .tup ((boxesL h v a b).map partT) else .str (Str.ofString "square")
def sameBox (a b : Int) (l : List Sq) (s : Sq) : Bool := decide (s.1.fdiv a = (l.headD (0, 0)).1.fdiv a) && decide (s.2.fdiv b = (l.headD (0, 0)).2.fdiv b)
def okB (h v a b : Nat) : Bool :=
  decide ((boxesL h v a b).flatten.Nodup) && (boxesL h v a b).flatten.all (fun s => decide (s ∈ allSq h v)) && (allSq h v).all (fun s => decide (s ∈ (boxesL h v a b).flatten)) && decide ((allSq h v).Pairwise fun s t => leSq s t = true) && decide ((allSq h v).Nodup) &&
  (boxesL h v a b).all (fun l => decide (l.length = a * b) && l.all (sameBox a b l) && !l.isEmpty) && decide ((boxesL h v a b).Pairwise fun l m => PySem.W.dataLe false toD (partT l) (partT m) = true)
theorem okB_all (h v a b : Nat) (hh : 0 < h ∧ h < 6 ∧ 0 < v ∧ v < 6) (ha : 1 ≤ a ∧ a < 4) (hb : 1 ≤ b ∧ b < 4) (g : goodB h v a b) : okB h v a b = true := by
  have all : ∀ (h v : _root_.Fin 6) (a b : _root_.Fin 4), 0 < h.val → 0 < v.val → 1 ≤ a.val → 1 ≤ b.val → h.val % a.val = 0 → v.val % b.val = 0 → okB h.val v.val a.val b.val = true := by decide +kernel
  exact all ⟨h, hh.2.1⟩ ⟨v, hh.2.2.2⟩ ⟨a, ha.2⟩ ⟨b, hb.2⟩ hh.1 hh.2.2.1 ha.1 hb.1 g.1 g.2
theorem boxBad_iff (h v a b : Nat) (ha : 1 ≤ a) (hb : 1 ≤ b) : boxBad h v a b = !decide (goodB h v a b) := by
  have e1 : ((h : Int).fmod a = 0) ↔ h % a = 0 := by rw [Int.fmod_eq_emod_of_nonneg _ (by omega)]; omega
  have e2 : ((v : Int).fmod b = 0) ↔ v % b = 0 := by rw [Int.fmod_eq_emod_of_nonneg _ (by omega)]; omega
  have e3 : ¬ ((a : Int) < 1) := by omega
  have e4 : ¬ ((b : Int) < 1) := by omega
  unfold boxBad goodB
  simp only [e1, e2, e3, e4, decide_false, Bool.false_or]
  by_cases q1 : h % a = 0 <;> by_cases q2 : v % b = 0 <;> simp [q1, q2]
theorem alike_sqs : ∀ (xs ys : List Sq), PySem.W.alikeAll (toDs (xs.map sqT)) (toDs (ys.map sqT)) = true
  | [], ys => by cases ys <;> rfl
  | x :: xs, [] => rfl
  | x :: xs, y :: ys => by
    have ih := alike_sqs xs ys
    show (PySem.W.alike (toD (sqT x)) (toD (sqT y)) && PySem.W.alikeAll (toDs (xs.map sqT)) (toDs (ys.map sqT))) = true
    rw [ih]
    rfl
theorem dok_part (l : List Sq) : DOk 2 (partT l) := fun t ht => by
  obtain ⟨p, _, rfl⟩ := List.mem_map.mp ht
  exact dok_sq p
theorem dok_parts (ls : List (List Sq)) : DOk 3 (.lst (ls.map partT)) := fun t ht => by
  obtain ⟨l, _, rfl⟩ := List.mem_map.mp ht
  exact dok_part l
theorem srtok_parts (ls : List (List Sq)) (h : ∀ l ∈ ls, l ≠ []) : SrtOk (ls.map partT) where
  dok := fun t ht => by
    obtain ⟨l, _, rfl⟩ := List.mem_map.mp ht
    exact DOk.up (by decide) (dok_part l)
  alike := fun d hd e he => by
    obtain ⟨t, ht, rfl⟩ := List.mem_map.mp hd
    obtain ⟨u, hu, rfl⟩ := List.mem_map.mp he
    obtain ⟨l, _, rfl⟩ := List.mem_map.mp ht
    obtain ⟨m, _, rfl⟩ := List.mem_map.mp hu
    exact alike_sqs l m
  able := .inl fun d hd => by
    obtain ⟨t, ht, rfl⟩ := List.mem_map.mp hd
    obtain ⟨l, hl, rfl⟩ := List.mem_map.mp ht
    cases l with
    | nil => exact absurd rfl (h _ hl)
    | cons s l => exact ⟨_, _, rfl⟩
theorem boxes_len (h v a b : Nat) (hh : h < 6 ∧ v < 6) : (boxesL h v a b).length ≤ 25 := by
  unfold boxesL
  rw [List.length_flatMap]
  have all : ∀ l : List Nat, (l.map fun i => ((List.range (v / b)).map fun j : Nat => boxAt (0 + (i : Nat) * (a : Int)) (0 + (j : Nat) * (b : Int)) a b).length).sum = l.length * (v / b) := fun l => by
    induction l with
    | nil => simp
    | cons x l ih => rw [List.map_cons, List.sum_cons, ih, List.length_cons, Nat.succ_mul, Nat.add_comm, List.length_map, List.length_range]
  rw [all, List.length_range]
  exact Nat.mul_le_mul (Nat.le_trans (Nat.div_le_self _ _) (show h ≤ 5 by omega)) (Nat.le_trans (Nat.div_le_self _ _) (show v ≤ 5 by omega))
section
variable {P : Program} {w : World} {K : PySem.W.Frag} {mg : Str → Option Value} {base : Heap} (T_ : Tx K mg)
variable (ey ex : Ent)
include T_ in
theorem b7_ok {q : Str} {c D : Addr} {Tb : List (Addr × Str)} (TB : LamX.TabB base mg c D) (hT : (D, q) ∈ Tb) (hu : ∀ p ∈ Tb, p.1 = D → p.2 = q) (oy : owOk ey = true) (ox : owOk ex = true) (d : Dc) (h v a b : Nat) (hh : 0 < h ∧ h < 6 ∧ 0 < v ∧ v < 6) (ha : 1 ≤ a ∧ a < 4) (hb : 1 ≤ b ∧ b < 4) : LG (lawS P w K mg base) (LawF c q) Tb [.no, .ow (dT d), .sh (.int (h : Nat)), .sh (.int (v : Nat)), .sh (.lst ((allSq h v).map sqT)), ey, ex, .sh (.int (a : Nat)), .sh (.int (b : Nat)), .no, .no, .no, .no, .no, .no, .no, .no, .no, .no, .no, .no, .no, .no, .no, .no, .no, .no, .no] (bS 7) (.nx [.no, .ow (dT d), .sh (.int (h : Nat)), .sh (.int (v : Nat)), .sh (.lst ((allSq h v).map sqT)), ey, ex, .sh (.int (a : Nat)), .sh (.int (b : Nat)), .sh (lotsV h v a b), .no, .no, .no, .no, .no, .no, .no, .no, .no, .no, .no, .no, .no, .no, .no, .no, .no, .no]) := by
  have ow : OwL [.no, .ow (dT d), .sh (.int (h : Nat)), .sh (.int (v : Nat)), .sh (.lst ((allSq h v).map sqT)), ey, ex, .sh (.int (a : Nat)), .sh (.int (b : Nat)), .no, .no, .no, .no, .no, .no, .no, .no, .no, .no, .no, .no, .no, .no, .no, .no, .no, .no, .no] := owl_all (by simp only [List.all_cons, List.all_nil, owOk_d, owOk_n, owOk_s, oy, ox, Bool.and_self])
  refine lg_nx (lg_set (i := 9) (t := lotsV h v a b) (by walk_at "so") (el_told (k := 6) T_.told_.F (by walk_at "gl") T_.told_.mgf T_.told_.bd sc40 rfl (.inl rfl) rfl (hds40 T_) TB (by walk_at "lv") (LamX.lamS_by (by show LamX.lamSB (defScope (top 43)) _ = true; decide +kernel)) (fun _ => rfl) (fun _ _ _ _ _ => rfl) ow ?_ (hT := hT) (hu := hu)) (by walk_at "ln")) rfl
  have bad := boxBad_iff h v a b ha.1 hb.1
  unfold lotsV
  by_cases g : goodB h v a b
  · rw [if_pos g]
    exact .ret (eg_fn (T_.boxes.ok rfl rfl) (by walk_at "gl") (boxes_ok T_ h v a b (by omega) (by omega) (by omega) g.1 g.2) (by walk_at "lv") (pas_cons (eg_sh (i := 2) (by walk_at "vo") rfl) (pas_cons (eg_sh (i := 3) (by walk_at "vo") rfl) (pas_cons (eg_sh (i := 7) (by walk_at "vo") rfl) (pas_cons (eg_sh (i := 8) (by walk_at "vo") rfl) eas_nil)))))
  · rw [if_neg g]
    exact .exc (ex_i (ex_fn (T_.boxes.ok rfl rfl) (by walk_at "gl") (boxes_no T_ h v a b (by rw [bad, decide_eq_false g]; rfl)) (by walk_at "lv") (pas_cons (eg_sh (i := 2) (by walk_at "vo") rfl) (pas_cons (eg_sh (i := 3) (by walk_at "vo") rfl) (pas_cons (eg_sh (i := 7) (by walk_at "vo") rfl) (pas_cons (eg_sh (i := 8) (by walk_at "vo") rfl) eas_nil)))))) (caughtS T_)
theorem sqw_ok : PyData.strOk (Str.ofString "square") = true := by decide +kernel
theorem lotsV_dok (h v a b : Nat) : DOk 3 (lotsV h v a b) := by
  unfold lotsV
  split
  · exact fun t ht => by
      obtain ⟨l, _, rfl⟩ := List.mem_map.mp ht
      exact dok_part l
  · exact sqw_ok
theorem lotsV_sq (h v a b : Nat) : teq (lotsV h v a b) (.str (Str.ofString "square")) = !decide (goodB h v a b) := by
  unfold lotsV
  by_cases g : goodB h v a b
  · rw [if_pos g, decide_eq_true g]
    simp [teq, toD, PyData.eqv]
  · rw [if_neg g, decide_eq_false g, teq_str]
    simp
include T_ in
theorem b8_ok (d : Dc) (h v a b : Nat) (ha : 1 ≤ a ∧ a < 4) (hb : 1 ≤ b ∧ b < 4) : TtG (lawS P w K mg base) [.no, .ow (dT d), .sh (.int (h : Nat)), .sh (.int (v : Nat)), .sh (.lst ((allSq h v).map sqT)), ey, ex, .sh (.int (a : Nat)), .sh (.int (b : Nat)), .sh (lotsV h v a b), .no, .no, .no, .no, .no, .no, .no, .no, .no, .no, .no, .no, .no, .no, .no, .no, .no, .no] (cond (bS 8)) false [.no, .ow (dT d), .sh (.int (h : Nat)), .sh (.int (v : Nat)), .sh (.lst ((allSq h v).map sqT)), ey, ex, .sh (.int (a : Nat)), .sh (.int (b : Nat)), .sh (lotsV h v a b), .no, .no, .no, .no, .no, .no, .no, .no, .no, .no, .no, .no, .no, .no, .no, .no, .no, .no] := by
  have e1 : decide ((h : Int).fmod a = 0) = decide (h % a = 0) := by
    have q : ((h : Int).fmod a = 0) ↔ h % a = 0 := by rw [Int.fmod_eq_emod_of_nonneg _ (by omega)]; omega
    simp only [q]
  have e2 : decide ((v : Int).fmod b = 0) = decide (v % b = 0) := by
    have q : ((v : Int).fmod b = 0) ↔ v % b = 0 := by rw [Int.fmod_eq_emod_of_nonneg _ (by omega)]; omega
    simp only [q]
  have e : false = !teq (.bl (teq (lotsV h v a b) (.str (Str.ofString "square")))) (.bl (!teq (.int ((h : Int).fmod a)) (.int 0) || !teq (.int ((v : Int).fmod b)) (.int 0))) := by
    rw [lotsV_sq, enc_int.eq, enc_int.eq, e1, e2]
    unfold goodB
    by_cases q1 : h % a = 0 <;> by_cases q2 : v % b = 0 <;> simp [q1, q2, teq, toD, PyData.eqv]
  rw [e]
  exact tt_ne (n := 0) (eg_eq (n := 3) (eg_sh (i := 9) (by walk_at "vo") rfl) eg_str (lotsV_dok h v a b) sqw_ok) (eg_orV (pg_ne (n := 0) trivial trivial (pg_mod (by omega) (eg_sh (i := 2) (by walk_at "vo") rfl) (eg_sh (i := 7) (by walk_at "vo") rfl)) eg_int) fun _ => eg_or1 (pg_ne (n := 0) trivial trivial (pg_mod (by omega) (eg_sh (i := 3) (by walk_at "vo") rfl) (eg_sh (i := 8) (by walk_at "vo") rfl)) eg_int)) trivial trivial

end
end K01
end Cw
end L2

set_option Elab.async false
set_option linter.all false
set_option maxRecDepth 100000
set_option maxHeartbeats 4000000
namespace L2
namespace Cw
namespace K01
open PySem PySem.Spec PyProof.Rows
local macro_rules | `(tactic| walk_at "vo") => `(tactic| exact ⟨rfl, by first | exact .inl rfl | exact .inr (.inl rfl) | exact .inr (.inr rfl), by decide, by decide⟩)
local macro_rules | `(tactic| walk_at "gl") => `(tactic| exact ⟨rfl, by decide⟩)
local macro_rules | `(tactic| walk_at "nd") => `(tactic| (dsimp only [SS.blk, defP]; decide +kernel))
local macro_rules | `(tactic| walk_at "so") => `(tactic| exact ⟨by walk_at "nd", rfl, by first | exact .inl rfl | exact .inr rfl, by first | exact .inl rfl | exact .inr rfl, by first | (dsimp only [SS.blk, defP, pins]; decide) | (simp [SS.blk, defP, pins, isOw, List.range_succ]; done)⟩)
local macro_rules | `(tactic| walk_at "bk") => `(tactic| exact blkOk_by (by walk_at "nd"))
local macro_rules | `(tactic| walk_at "ln") => `(tactic| (simp; done))
local macro_rules | `(tactic| walk_at "no") => `(tactic| (intro t; simp; done))
local macro_rules | `(tactic| walk_at "lv") => `(tactic| (dsimp only [SS.blk, defP]; decide))
local macro_rules | `(tactic| walk_at "sc") => `(tactic| exact ⟨rfl, rfl, rfl, by decide +kernel, rfl, by decide +kernel, by decide +kernel⟩)
/- a name's value -/
local macro_rules | `(tactic| walk_at "v") => `(tactic| first
  | exact eg_sh (i := 0) (by walk_at "vo") rfl | exact eg_sh (i := 1) (by walk_at "vo") rfl | exact eg_sh (i := 2) (by walk_at "vo") rfl | exact eg_sh (i := 3) (by walk_at "vo") rfl
  | exact eg_sh (i := 4) (by walk_at "vo") rfl | exact eg_sh (i := 5) (by walk_at "vo") rfl | exact eg_sh (i := 6) (by walk_at "vo") rfl | exact eg_sh (i := 7) (by walk_at "vo") rfl)
section
variable {P : Program} {w : World} {K : PySem.W.Frag} {mg : Str → Option Value} {base : Heap} (T_ : Tx K mg)
variable (ey ex : Ent)
theorem tt_to {S : SS} {E E1 : List Ent} {c : Expr} {x y : Bool} (h : TtG S E c x E1) (e : y = x) : TtG S E c y E1 := e ▸ h
theorem okB_parts {h v a b : Nat} (ok : okB h v a b = true) : srtBy sq2 (boxesL h v a b).flatten = allSq h v ∧ (∀ l ∈ boxesL h v a b, l.length = a * b ∧ (∀ s ∈ l, sameBox a b l s = true) ∧ l ≠ []) ∧ srtBy partT (boxesL h v a b) = boxesL h v a b := by
  unfold okB at ok
  simp only [Bool.and_eq_true, decide_eq_true_eq, List.all_eq_true] at ok
  obtain ⟨⟨⟨⟨⟨⟨n1, s1⟩, s2⟩, p1⟩, n2⟩, l1⟩, p2⟩ := ok
  refine ⟨srt_sq n1 n2 p1 fun s => ⟨s1 s, s2 s⟩, fun l hl => ?_, srtBy_self p2⟩
  obtain ⟨⟨x1, x2⟩, x3⟩ := l1 l hl
  refine ⟨x1, x2, fun z => ?_⟩
  subst z
  cases x3
include T_ in
theorem b9a_ok (d : Dc) (h v a b : Nat) (hh : 0 < h ∧ h < 6 ∧ 0 < v ∧ v < 6) (ha : 1 ≤ a ∧ a < 4) (hb : 1 ≤ b ∧ b < 4) (g : goodB h v a b) : TtG (lawS P w K mg base) [.no, .ow (dT d), .sh (.int (h : Nat)), .sh (.int (v : Nat)), .sh (.lst ((allSq h v).map sqT)), ey, ex, .sh (.int (a : Nat)), .sh (.int (b : Nat)), .sh (.tup ((boxesL h v a b).map partT)), .no, .no, .no, .no, .no, .no, .no, .no, .no, .no, .no, .no, .no, .no, .no, .no, .no, .no] (cond (match bS 9 with | .If _ b _ _ => b.getD 0 (.Pass ⟨0, 0, 0, 0⟩) | s => s)) false [.no, .ow (dT d), .sh (.int (h : Nat)), .sh (.int (v : Nat)), .sh (.lst ((allSq h v).map sqT)), ey, ex, .sh (.int (a : Nat)), .sh (.int (b : Nat)), .sh (.tup ((boxesL h v a b).map partT)), .no, .no, .no, .no, .no, .no, .no, .no, .no, .no, .no, .no, .no, .no, .no, .no, .no, .no] := by
  obtain ⟨f1, f2, f3⟩ := okB_parts (okB_all h v a b hh ha hb g)
  have lb := boxes_len h v a b (by omega)
  have lab : a * b ≤ 9 := Nat.mul_le_mul (show a ≤ 3 by omega) (show b ≤ 3 by omega)
  have ff : ((boxesL h v a b).map fun l => l.map sqT).flatten = (boxesL h v a b).flatten.map sqT := by rw [List.map_flatten]
  have fl : (boxesL h v a b).flatten.length ≤ 1000 := by
    have e : (srtBy sq2 (boxesL h v a b).flatten).length = (allSq h v).length := by rw [f1]
    rw [srtBy_len, allSq_len] at e
    rw [e]
    exact Nat.le_trans (Nat.mul_le_mul (show h ≤ 5 by omega) (show v ≤ 5 by omega)) (by decide)
  have e1 : sortT ((boxesL h v a b).map fun l => l.map sqT).flatten = (allSq h v).map sqT := by
    rw [ff]
    have := sortT_map (f := sq2) (xs := (boxesL h v a b).flatten)
    rw [f1] at this
    exact this
  have e3 : sortT ((boxesL h v a b).map partT) = (boxesL h v a b).map partT := by rw [sortT_map, f3]
  have e : false = (!teq (.lst (sortT ((boxesL h v a b).map fun l => l.map sqT).flatten)) (.lst ((allSq h v).map sqT)) || (!teq (.lst (((boxesL h v a b).filter fun _ => false).map partT)) (.lst []) || !teq (.lst ((boxesL h v a b).map partT)) (.lst (sortT ((boxesL h v a b).map partT))))) := by
    have q : (boxesL h v a b).filter (fun _ => false) = [] := by simp
    rw [e1, e3, q, teq_refl (dok_sqs _), teq_refl (dok_parts _)]
    rfl
  rw [e]
  refine tg_w (wg_or (pt_ne (n := 2) (by rw [e1]; exact dok_sqs _) (dok_sqs _) (eg_sortedL (by walk_at "gl") T_.nSorted (by rw [ff]; exact srtok_sq _) (eg_fn (T_.flat.ok rfl rfl) (by walk_at "gl") (flat_ok T_ ((boxesL h v a b).map fun l => l.map sqT) fun m => ?_) (by walk_at "lv") (pas_cons ?_ eas_nil))) (eg_sh (i := 4) (by walk_at "vo") rfl)) fun _ => wg_or (pt_ne (n := 3) (dok_parts _) (DOk.up (n := 1) (by decide) dok_nilL) (LcD.eg (lcNF (α := List Sq) (toT := partT) (f := partT) (xs := boxesL h v a b) (b := fun _ => false) (i := 17) (by walk_at "bk") (by walk_at "nd") (by walk_at "so") (by walk_at "ln") (by walk_at "no") (by omega) (pg_iter .tup (eg_sh (i := 9) (by walk_at "vo") rfl)) (fun l hl => ?_) fun _ _ z => by cases z)) pg_lst0) fun _ => wg_or1 (pt_ne (n := 3) (dok_parts _) (by rw [e3]; exact dok_parts _) (eg_listS .tup (by walk_at "gl") T_.nList (eg_sh (i := 9) (by walk_at "vo") rfl)) (eg_sortedT (srtok_parts _ fun l hl => (f2 l hl).2.2) (by walk_at "gl") T_.nSorted (eg_sh (i := 9) (by walk_at "vo") rfl))))
  · refine Nat.le_trans (take_flat_le _ _) ?_
    rw [ff, List.length_map]
    omega
  · rw [List.map_map]
    refine (lcN (α := List Sq) (toT := partT) (f := T.lst ∘ fun l : List Sq => l.map sqT) (xs := boxesL h v a b) (i := 17) (by walk_at "bk") (by walk_at "nd") (by walk_at "so") (by walk_at "ln") (by walk_at "no") (by omega) (pg_iter .tup (eg_sh (i := 9) (by walk_at "vo") rfl)) fun l hl => ?_).eg
    refine (lcN (α := Sq) (toT := sqT) (f := sqT) (xs := l) (i := 22) (by walk_at "bk") (by walk_at "nd") (by walk_at "so") (by walk_at "ln") (by walk_at "no") (by rw [(f2 l hl).1]; omega) (pg_iter .tup (eg_sh (i := 17) (by walk_at "vo") rfl)) fun s _ => (eg_sh (i := 22) (by walk_at "vo") rfl)).eg
  · obtain ⟨y1, y2, y3⟩ := f2 l hl
    have q : false = (!teq (.int ((l.map sqT).length : Nat)) (.int ((a : Int) * (b : Int))) || !teq (.lst ((l.filter fun _ => false).map fun _ => T.int 1)) (.lst [])) := by
      have q1 : l.filter (fun _ => false) = [] := by simp
      rw [q1, enc_int.eq, List.length_map, y1, decide_eq_true (by simp)]
      rfl
    obtain ⟨s0, l', rfl⟩ : ∃ s0 l', l = s0 :: l' := by
      cases l with
      | nil => exact absurd rfl y3
      | cons s0 l' => exact ⟨s0, l', rfl⟩
    refine tt_to (tg_w (wg_or (pt_ne (n := 0) (t := .int (((s0 :: l').map sqT).length : Nat)) (u := .int ((a : Int) * (b : Int))) trivial trivial (eg_len .tup (by walk_at "gl") T_.nLen (eg_sh (i := 17) (by walk_at "vo") rfl)) (pg_mul (.inl (by omega)) (eg_sh (i := 7) (by walk_at "vo") rfl) (eg_sh (i := 8) (by walk_at "vo") rfl))) fun _ => wg_or1 (pt_ne (n := 1) (t := .lst (((s0 :: l').filter fun _ => false).map fun _ => T.int 1)) (u := .lst []) (fun t ht => by
      obtain ⟨_, _, rfl⟩ := List.mem_map.mp ht
      trivial) dok_nilL (eg_lcTF (α := Sq) (toT := sqT) (t := fun s => .int s.1) (u := fun s => .int s.2) (f := fun _ => T.int 1) (xs := s0 :: l') (b := fun _ => false) (i := 25) (j := 26) (fun s => .inl rfl) (by walk_at "bk") (by walk_at "nd") (by decide) (by walk_at "so") (by walk_at "so") (by walk_at "ln") (by walk_at "ln") (by walk_at "no") (by walk_at "no") (by rw [y1]; omega) (pg_iter .tup (eg_sh (i := 17) (by walk_at "vo") rfl)) (fun s hs => ?_) fun _ _ z => by cases z) pg_lst0))) q
    have sb := y2 s hs
    unfold sameBox at sb
    simp only [Bool.and_eq_true, decide_eq_true_eq, List.headD_cons] at sb
    have q2 : false = !teq (.tup [.int (s.1.fdiv a), .int (s.2.fdiv b)]) (.tup [.int (s0.1.fdiv a), .int (s0.2.fdiv b)]) := by
      rw [of_decide_eq_true sb.1, of_decide_eq_true sb.2, teq_refl (n := 1) (t := .tup [.int (s0.1.fdiv a), .int (s0.2.fdiv b)]) (dok_sq (s0.1.fdiv a, s0.2.fdiv b))]; rfl
    exact tt_to (pt_ne (n := 1) (t := .tup [.int (s.1.fdiv a), .int (s.2.fdiv b)]) (u := .tup [.int (s0.1.fdiv a), .int (s0.2.fdiv b)]) (dok_sq (s.1.fdiv a, s.2.fdiv b)) (dok_sq (s0.1.fdiv a, s0.2.fdiv b)) (pg_tup2 (pg_fdiv ⟨by omega, by omega⟩ (eg_sh (i := 25) (by walk_at "vo") rfl) (eg_sh (i := 7) (by walk_at "vo") rfl)) (pg_fdiv ⟨by omega, by omega⟩ (eg_sh (i := 26) (by walk_at "vo") rfl) (eg_sh (i := 8) (by walk_at "vo") rfl))) (pg_tup2 (pg_fdiv ⟨by omega, by omega⟩ (pg_item .tup at_0 (pg_item .tup at_0 (eg_sh (i := 17) (by walk_at "vo") rfl) eg_int) eg_int) (eg_sh (i := 7) (by walk_at "vo") rfl)) (pg_fdiv ⟨by omega, by omega⟩ (pg_item .tup at_1 (pg_item .tup at_0 (eg_sh (i := 17) (by walk_at "vo") rfl) eg_int) eg_int) (eg_sh (i := 8) (by walk_at "vo") rfl)))) q2
include T_ in
theorem b9_ok (d : Dc) (h v a b : Nat) (hh : 0 < h ∧ h < 6 ∧ 0 < v ∧ v < 6) (ha : 1 ≤ a ∧ a < 4) (hb : 1 ≤ b ∧ b < 4) : SG (lawS P w K mg base) [.no, .ow (dT d), .sh (.int (h : Nat)), .sh (.int (v : Nat)), .sh (.lst ((allSq h v).map sqT)), ey, ex, .sh (.int (a : Nat)), .sh (.int (b : Nat)), .sh (lotsV h v a b), .no, .no, .no, .no, .no, .no, .no, .no, .no, .no, .no, .no, .no, .no, .no, .no, .no, .no] (bS 9) (.nx [.no, .ow (dT d), .sh (.int (h : Nat)), .sh (.int (v : Nat)), .sh (.lst ((allSq h v).map sqT)), ey, ex, .sh (.int (a : Nat)), .sh (.int (b : Nat)), .sh (lotsV h v a b), .no, .no, .no, .no, .no, .no, .no, .no, .no, .no, .no, .no, .no, .no, .no, .no, .no, .no]) := by
  by_cases g : goodB h v a b
  · have e : lotsV h v a b = .tup ((boxesL h v a b).map partT) := by unfold lotsV; rw [if_pos g]
    have sqq := lotsV_sq h v a b
    rw [e, decide_eq_true g] at sqq
    have dk := lotsV_dok h v a b
    rw [e] at dk ⊢
    refine sg_ifT (d := !teq (.tup ((boxesL h v a b).map partT)) (.str (Str.ofString "square"))) (by rw [sqq]; rfl) (pt_ne (n := 3) dk sqw_ok (eg_sh (i := 9) (by walk_at "vo") rfl) eg_str) (sgs_one (sg_ifFn (d := false) rfl (b9a_ok T_ ey ex d h v a b hh ha hb g)))
  · have sqq := lotsV_sq h v a b
    rw [decide_eq_false g] at sqq
    exact sg_ifFn (d := !teq (lotsV h v a b) (.str (Str.ofString "square"))) (by rw [sqq]; rfl) (pt_ne (n := 3) (lotsV_dok h v a b) sqw_ok (eg_sh (i := 9) (by walk_at "vo") rfl) eg_str)

end
end K01
end Cw
end L2

set_option Elab.async false
set_option linter.all false
set_option maxRecDepth 100000
set_option maxHeartbeats 4000000
namespace L2
namespace Cw
namespace K01
open PySem PySem.Spec PyProof.Rows
local macro_rules | `(tactic| walk_at "vo") => `(tactic| exact ⟨rfl, by first | exact .inl rfl | exact .inr (.inl rfl) | exact .inr (.inr rfl), by decide, by decide⟩)
local macro_rules | `(tactic| walk_at "gl") => `(tactic| exact ⟨rfl, by decide⟩)
local macro_rules | `(tactic| walk_at "nd") => `(tactic| (dsimp only [SS.blk, defP]; decide +kernel))
local macro_rules | `(tactic| walk_at "so") => `(tactic| exact ⟨by walk_at "nd", rfl, by first | exact .inl rfl | exact .inr rfl, by first | exact .inl rfl | exact .inr rfl, by first | (dsimp only [SS.blk, defP, pins]; decide) | (simp [SS.blk, defP, pins, isOw, List.range_succ]; done)⟩)
local macro_rules | `(tactic| walk_at "bk") => `(tactic| exact blkOk_by (by walk_at "nd"))
local macro_rules | `(tactic| walk_at "ln") => `(tactic| (simp; done))
local macro_rules | `(tactic| walk_at "no") => `(tactic| (intro t; simp; done))
local macro_rules | `(tactic| walk_at "lv") => `(tactic| (dsimp only [SS.blk, defP]; decide))
local macro_rules | `(tactic| walk_at "sc") => `(tactic| exact ⟨rfl, rfl, rfl, by decide +kernel, rfl, by decide +kernel, by decide +kernel⟩)
/- a name's value -/
local macro_rules | `(tactic| walk_at "v") => `(tactic| first
  | exact eg_sh (i := 0) (by walk_at "vo") rfl | exact eg_sh (i := 1) (by walk_at "vo") rfl | exact eg_sh (i := 2) (by walk_at "vo") rfl | exact eg_sh (i := 3) (by walk_at "vo") rfl
  | exact eg_sh (i := 4) (by walk_at "vo") rfl | exact eg_sh (i := 5) (by walk_at "vo") rfl | exact eg_sh (i := 6) (by walk_at "vo") rfl | exact eg_sh (i := 7) (by walk_at "vo") rfl)
/-! ### rows of signs, as a board of them -/
def cellF (ys : List Str) (y x : Nat) : Str := (signs (ys.getD y "")).getD x ""
theorem zip_range {α : Type} (f : Nat → α) (n : Nat) : ((List.range n).map f).zipIdx = (List.range n).map fun i => (f i, i) := by
  refine List.ext_getElem? fun i => ?_
  rw [List.getElem?_zipIdx, List.getElem?_map, List.getElem?_map]
  cases h : (List.range n)[i]? with
  | none => rfl
  | some j =>
    have : j = i := by
      rw [List.getElem?_range (by have := (List.getElem?_eq_some_iff.mp h).1; rwa [List.length_range] at this)] at h
      exact (Option.some.inj h).symm
    subst this
    simp
theorem rows_form {ys : List Str} {h v : Nat} (hl : ys.length = h) (hv : ∀ r ∈ ys, r.length = v) : ys = (List.range h).map (fun y => ys.getD y "") ∧ ∀ y, y < h → signs (ys.getD y "") = (List.range v).map (cellF ys y) := by
  refine ⟨?_, fun y hy => ?_⟩
  · refine List.ext_getElem (by rw [List.length_map, List.length_range, hl]) fun i h1 h2 => ?_
    rw [List.getElem_map, List.getElem_range, List.getD_eq_getElem?_getD, List.getElem?_eq_getElem h1]
    rfl
  · have e : (signs (ys.getD y "")).length = v := by
      rw [signs_length, List.getD_eq_getElem?_getD, List.getElem?_eq_getElem (by rw [hl]; exact hy)]
      exact hv _ (List.getElem_mem _)
    refine List.ext_getElem (by rw [List.length_map, List.length_range, e]) fun i h1 h2 => ?_
    rw [List.getElem_map, List.getElem_range]
    unfold cellF
    rw [List.getD_eq_getElem?_getD (l := signs _), List.getElem?_eq_getElem h1]
    rfl
/-- the letters of the rows, row by row -/
def lettersK (ys : List Str) : List Key := ys.flatMap fun r => (signs r).map Sum.inr
/-- a key more, if it is new -/
def IsAdd (ks : List Key) (k : Key) (ks' : List Key) : Prop := (k ∈ ks → ks' = ks) ∧ (k ∉ ks → ks' = ks ++ [k])
inductive KeyRun : List Key → List Key → List Key → Prop
  | nil {ks} : KeyRun ks [] ks
  | cons {ks k r ks1 ks2} (h : IsAdd ks k ks1) (t : KeyRun ks1 r ks2) : KeyRun ks (k :: r) ks2
theorem KeyRun.same : ∀ {r ks a b : List Key}, KeyRun ks r a → KeyRun ks r b → a = b
  | [], _, _, _, .nil, .nil => rfl
  | k :: r, ks, a, b, .cons (ks1 := k1) h1 t1, .cons (ks1 := k2) h2 t2 => by
    have e : k1 = k2 := by
      by_cases m : k ∈ ks
      · rw [h1.1 m, h2.1 m]
      · rw [h1.2 m, h2.2 m]
    subst e
    exact KeyRun.same t1 t2
theorem KeyRun.app : ∀ {r r' ks a b : List Key}, KeyRun ks r a → KeyRun a r' b → KeyRun ks (r ++ r') b
  | [], _, _, _, _, .nil, h => h
  | k :: r, r', ks, a, b, .cons h1 t1, h => .cons h1 (t1.app h)
theorem run_step (y : Nat) : ∀ (ps : List (Str × Nat)) (l : List (Key × List T)), KeyRun (l.map (·.1)) (ps.map fun p => Sum.inr p.1) ((ps.foldl (lotsStep y) l).map (·.1))
  | [], l => .nil
  | p :: ps, l => .cons (addTo_keys l _ _) (run_step y ps _)
theorem zip_fst {α : Type} (xs : List α) : xs.zipIdx.map (·.1) = xs := by
  refine List.ext_getElem? fun i => ?_
  rw [List.getElem?_map, List.getElem?_zipIdx]
  cases xs[i]? <;> rfl
theorem run_rows : ∀ (qs : List (Str × Nat)) (l : List (Key × List T)), KeyRun (l.map (·.1)) (qs.flatMap fun q => (signs q.1).map Sum.inr) ((qs.foldl lotsRow l).map (·.1))
  | [], l => .nil
  | q :: qs, l => by
    have h := run_step q.2 (signs q.1).zipIdx l
    have e : ((signs q.1).zipIdx.map fun p => (Sum.inr p.1 : Key)) = (signs q.1).map Sum.inr := by
      have := congrArg (List.map (Sum.inr : Str → Key)) (zip_fst (signs q.1))
      rw [List.map_map] at this
      exact this
    rw [e] at h
    rw [List.flatMap_cons, List.foldl_cons]
    exact h.app (run_rows qs _)
theorem lots_keys (ys : List Str) : KeyRun [] (lettersK ys) ((lotsL ys).map (·.1)) := by
  have h := run_rows ys.zipIdx []
  have e : (ys.zipIdx.flatMap fun q => (signs q.1).map (Sum.inr : Str → Key)) = lettersK ys := by
    unfold lettersK
    conv => rhs; rw [← zip_fst ys]
    rw [List.flatMap_map]
  rw [e] at h
  exact h
theorem putN_keys (l : List (Key × T)) (k : Key) (t : T) : IsAdd (l.map (·.1)) k ((putN l k t).map (·.1)) := by
  unfold putN
  refine ⟨fun m => ?_, fun n => ?_⟩
  · have e : (getN l k).isSome = true := by
      rcases List.mem_map.mp m with ⟨p, hp, e⟩
      unfold getN
      rw [Option.isSome_map]
      exact List.find?_isSome.mpr ⟨p, hp, decide_eq_true e⟩
    rw [if_pos e, List.map_map]
    apply List.map_congr_left
    intro p _
    show (if p.1 = k then (p.1, t) else p).1 = p.1
    split <;> rfl
  · have e : (getN l k).isSome = false := by
      cases q : getN l k with
      | none => rfl
      | some u =>
        exfalso
        unfold getN at q
        obtain ⟨p, hp, _⟩ := Option.map_eq_some_iff.mp q
        exact n (List.mem_map.mpr ⟨p, List.mem_of_find?_eq_some hp, of_decide_eq_true (List.find?_some (p := fun p : Key × T => decide (p.1 = k)) hp)⟩)
    rw [e]
    simp
theorem merge_keys : ∀ (ps l : List (Key × T)), KeyRun (l.map (·.1)) (ps.map (·.1)) ((mergeT l ps).map (·.1))
  | [], l => .nil
  | p :: ps, l => .cons (putN_keys l p.1 p.2) (merge_keys ps (putN l p.1 p.2))
/-- what stands under a letter -/
theorem under_step (y : Nat) (k : Key) : ∀ (xs : List Nat) (f : Nat → Str) (l : List (Key × List T)), under ((xs.map fun x => (f x, x)).foldl (lotsStep y) l) k = under l k ++ (xs.filter fun x => decide (Sum.inr (f x) = k)).map fun x : Nat => sqT ((y : Int), (x : Int))
  | [], f, l => by simp
  | x :: xs, f, l => by
    rw [List.map_cons, List.foldl_cons, under_step y k xs f]
    unfold lotsStep
    rw [under_add]
    by_cases h : (Sum.inr (f x) : Key) = k
    · rw [if_pos h.symm, List.filter_cons_of_pos (by exact decide_eq_true h), List.map_cons, List.append_assoc]; rfl
    · rw [if_neg (fun z => h z.symm), List.filter_cons_of_neg (by simpa using h)]
theorem under_rows (ys : List Str) (v : Nat) (k : Key) : ∀ (hs : List Nat) (l : List (Key × List T)), (∀ y ∈ hs, signs (ys.getD y "") = (List.range v).map (cellF ys y)) → under ((hs.map fun y => (ys.getD y "", y)).foldl lotsRow l) k = under l k ++ hs.flatMap fun y => ((List.range v).filter fun x => decide (Sum.inr (cellF ys y x) = k)).map fun x : Nat => sqT ((y : Int), (x : Int))
  | [], l, _ => by simp
  | y :: hs, l, h => by
    rw [List.map_cons, List.foldl_cons, under_rows ys v k hs _ fun z hz => h z (List.mem_cons_of_mem _ hz)]
    have e : lotsRow l (ys.getD y "", y) = ((List.range v).map fun x => (cellF ys y x, x)).foldl (lotsStep y) l := by
      show (signs (ys.getD y "")).zipIdx.foldl (lotsStep y) l = _
      rw [h y List.mem_cons_self, zip_range]
    rw [e, under_step, List.flatMap_cons, List.append_assoc]
theorem lots_under {ys : List Str} {h v : Nat} (hl : ys.length = h) (hv : ∀ r ∈ ys, r.length = v) (s : Str) : under (lotsL ys) (.inr s) = ((allSq h v).filter fun p => decide (cellF ys p.1.toNat p.2.toNat = s)).map sqT := by
  obtain ⟨e1, e2⟩ := rows_form hl hv
  have e3 : ys.zipIdx = (List.range h).map fun y => (ys.getD y "", y) := by
    have := zip_range (fun y => ys.getD y "") h
    rw [← e1] at this
    exact this
  unfold lotsL
  rw [e3, under_rows ys v _ _ _ fun y hy => e2 y (List.mem_range.mp hy)]
  unfold allSq
  rw [List.filter_flatMap, List.map_flatMap]
  show [] ++ _ = _
  rw [List.nil_append]
  simp only [Int.toNat_natCast]
  congr 1
  funext y
  rw [List.filter_map, List.map_map]
  have e4 : (fun x : Nat => decide ((Sum.inr (cellF ys y x) : Key) = Sum.inr s)) = ((fun p : Sq => decide (cellF ys p.1.toNat p.2.toNat = s)) ∘ fun x : Nat => ((0 + (y : Int), 0 + (x : Int)) : Sq)) := by
    funext x
    simp
  rw [e4]
  apply List.map_congr_left
  intro x _
  show sqT ((y : Int), (x : Int)) = sqT (0 + (y : Int), 0 + (x : Int))
  rw [Int.zero_add, Int.zero_add]
end K01
end Cw
end L2

set_option Elab.async false
set_option linter.all false
set_option maxRecDepth 100000
set_option maxHeartbeats 4000000
namespace L2
namespace Cw
namespace K01
open PySem PySem.Spec PyProof.Rows
local macro_rules | `(tactic| walk_at "vo") => `(tactic| exact ⟨rfl, by first | exact .inl rfl | exact .inr (.inl rfl) | exact .inr (.inr rfl), by decide, by decide⟩)
local macro_rules | `(tactic| walk_at "gl") => `(tactic| exact ⟨rfl, by decide⟩)
local macro_rules | `(tactic| walk_at "nd") => `(tactic| (dsimp only [SS.blk, defP]; decide +kernel))
local macro_rules | `(tactic| walk_at "so") => `(tactic| exact ⟨by walk_at "nd", rfl, by first | exact .inl rfl | exact .inr rfl, by first | exact .inl rfl | exact .inr rfl, by first | (dsimp only [SS.blk, defP, pins]; decide) | (simp [SS.blk, defP, pins, isOw, List.range_succ]; done)⟩)
local macro_rules | `(tactic| walk_at "bk") => `(tactic| exact blkOk_by (by walk_at "nd"))
local macro_rules | `(tactic| walk_at "ln") => `(tactic| (simp; done))
local macro_rules | `(tactic| walk_at "no") => `(tactic| (intro t; simp; done))
local macro_rules | `(tactic| walk_at "lv") => `(tactic| (dsimp only [SS.blk, defP]; decide))
local macro_rules | `(tactic| walk_at "sc") => `(tactic| exact ⟨rfl, rfl, rfl, by decide +kernel, rfl, by decide +kernel, by decide +kernel⟩)
/- a name's value -/
local macro_rules | `(tactic| walk_at "v") => `(tactic| first
  | exact eg_sh (i := 0) (by walk_at "vo") rfl | exact eg_sh (i := 1) (by walk_at "vo") rfl | exact eg_sh (i := 2) (by walk_at "vo") rfl | exact eg_sh (i := 3) (by walk_at "vo") rfl
  | exact eg_sh (i := 4) (by walk_at "vo") rfl | exact eg_sh (i := 5) (by walk_at "vo") rfl | exact eg_sh (i := 6) (by walk_at "vo") rfl | exact eg_sh (i := 7) (by walk_at "vo") rfl)
/-- rows of single signs, so many and so long -/
structure RowsOk (ys : List Str) (h v : Nat) : Prop where
  len : ys.length = h
  each : ∀ r ∈ ys, r.length = v
  ok : ∀ r ∈ ys, ∀ s ∈ signs r, PyData.strOk s = true
theorem RowsOk.fine {ys : List Str} {h v : Nat} (r : RowsOk ys h v) (hh : 0 < h ∧ 0 < v) : rowsBad ys = false := by
  obtain ⟨y, l, rfl⟩ : ∃ y l, ys = y :: l := by
    cases ys with
    | nil => have := r.len; simp at this; omega
    | cons y l => exact ⟨y, l, rfl⟩
  have h1 := r.each y List.mem_cons_self
  unfold rowsBad
  simp only [List.headD_cons, h1]
  have h2 : ((y :: l).any fun z => !decide (z.length = v)) = false := by
    rw [List.any_eq_false]
    intro z hz
    rw [r.each z hz]
    simp
  rw [h2]
  simp
  omega
def abc : Str := Str.ofString "abc"
theorem abcS_ok (n : Int) : PyData.strOk (abcS abc n) = true := by
  unfold abcS
  have e : abc.cps.toList = [97, 98, 99] := by decide +kernel
  rw [e]
  match n.toNat with
  | 0 => decide +kernel
  | 1 => decide +kernel
  | 2 => decide +kernel
  | k + 3 => show PyData.strOk ⟨#[0]⟩ = true; decide +kernel
theorem rowsD_ok (d : Dc) (h v : Nat) : RowsOk (cellsL abc h v d).1 h v := by
  refine ⟨by unfold cellsL; rw [thr_len, List.length_range], ?_, ?_⟩
  · unfold cellsL
    refine thr_all (p := fun r : Str => r.length = v) (fun s a => ?_) _ _
    show (flatS (cellRow abc v s).1).length = v
    rw [flat_len cell_ones, cell_len]
  · unfold cellsL
    refine thr_all (p := fun r : Str => ∀ s ∈ signs r, PyData.strOk s = true) (fun s a => ?_) _ _
    show ∀ t ∈ signs (flatS (cellRow abc v s).1), PyData.strOk t = true
    rw [signs_flat cell_ones]
    unfold cellRow
    exact thr_all (p := fun t : Str => PyData.strOk t = true) (fun s a => abcS_ok _) _ _
theorem getN_mem {l : List (Key × T)} (nd : (l.map (·.1)).Nodup) {p : Key × T} (h : p ∈ l) : getN l p.1 = some p.2 := by
  induction l with
  | nil => cases h
  | cons x l ih =>
    rw [getN_cons]
    simp only [List.map_cons, List.nodup_cons] at nd
    obtain rfl | h := List.mem_cons.mp h
    · rw [if_pos rfl]
    · rw [if_neg fun z => nd.1 (by rw [z]; exact List.mem_map_of_mem h)]; exact ih nd.2 h
theorem cell_at {ys : List Str} {h v : Nat} (r : RowsOk ys h v) {y x : Nat} (hy : y < h) (hx : x < v) : ∃ c, (ys.getD y "").cps.toList[x]? = some c ∧ cellF ys y x = ⟨#[c]⟩ ∧ ys[y]? = some (ys.getD y "") ∧ (ys.getD y "").length = v ∧ PyData.strOk (cellF ys y x) = true := by
  have ly : y < ys.length := by rw [r.len]; exact hy
  have e1 : ys[y]? = some (ys.getD y "") := by rw [List.getD_eq_getElem?_getD, List.getElem?_eq_getElem ly]; rfl
  have m := List.mem_of_getElem? e1
  have lv := r.each _ m
  have lx : x < (ys.getD y "").cps.toList.length := by rw [Array.length_toList]; show x < (ys.getD y "").length; rw [lv]; exact hx
  have e2 : cellF ys y x = ⟨#[(ys.getD y "").cps.toList[x]]⟩ := by
    unfold cellF
    rw [List.getD_eq_getElem?_getD (l := signs _)]
    unfold signs
    rw [List.getElem?_map, List.getElem?_eq_getElem lx]
    rfl
  refine ⟨_, List.getElem?_eq_getElem lx, e2, e1, lv, ?_⟩
  refine r.ok _ m _ ?_
  rw [e2]
  unfold signs
  exact List.mem_map_of_mem (List.getElem_mem lx)
def lettersP (ys : List Str) : List (Key × T) := ys.flatMap fun r => (signs r).map fun s => (Sum.inr s, T.int 1)
theorem letters_fst (ys : List Str) : (lettersP ys).map (·.1) = lettersK ys := by
  unfold lettersP lettersK
  rw [List.map_flatMap]
  simp only [List.map_map]
  rfl
theorem dict_keys (ys : List Str) : (mergeT [] (lettersP ys)).map (·.1) = (lotsL ys).map (·.1) := by
  have h := merge_keys (lettersP ys) []
  rw [letters_fst] at h
  exact KeyRun.same h (lots_keys ys)
section
variable {P : Program} {w : World} {K : PySem.W.Frag} {mg : Str → Option Value} {base : Heap} (T_ : Tx K mg)
variable (ey ex et eb el : Ent)
include T_ in
theorem b10_ok (d : Dc) (h v : Nat) (hh : h < 6 ∧ v < 6) : SG (lawS P w K mg base) [.no, .ow (dT d), .sh (.int (h : Nat)), .sh (.int (v : Nat)), .sh (.lst ((allSq h v).map sqT)), ey, ex, et, eb, el, .no, .no, .no, .no, .no, .no, .no, .no, .no, .no, .no, .no, .no, .no, .no, .no, .no, .no] (bS 10) (.nx [.no, .ow (dT (cellsL abc h v d).2), .sh (.int (h : Nat)), .sh (.int (v : Nat)), .sh (.lst ((allSq h v).map sqT)), ey, ex, et, eb, el, .sh (.tup ((cellsL abc h v d).1.map T.str)), .no, .no, .no, .no, .no, .no, .no, .no, .no, .no, .no, .no, .no, .no, .no, .no, .no]) :=
  sg_nx (sg_set (i := 10) (by walk_at "so") (eg_cells T_ (i := 1) (h := h) (v := v) (l := abc) (d := d) rfl rfl rfl rfl rfl (by walk_at "lv") (by walk_at "vo") (by walk_at "gl") rfl (eg_sh (i := 3) (by walk_at "vo") rfl) (eg_sh (i := 2) (by walk_at "vo") rfl) eg_str (by omega) (by decide +kernel)) (by walk_at "ln")) rfl
theorem row_lens {ys : List Str} {h v : Nat} (r : RowsOk ys h v) (hh : h < 6 ∧ v < 6) : (∀ y ∈ ys, y.length ≤ 100) ∧ ys.length ≤ 100 := ⟨fun y hy => by rw [r.each y hy]; omega, by rw [r.len]; omega⟩
include T_ in
theorem b11_ok (d : Dc) (h v : Nat) (hh : 0 < h ∧ h < 6 ∧ 0 < v ∧ v < 6) (ys : List Str) (r : RowsOk ys h v) : SG (lawS P w K mg base) [.no, .ow (dT d), .sh (.int (h : Nat)), .sh (.int (v : Nat)), .sh (.lst ((allSq h v).map sqT)), ey, ex, et, eb, el, .sh (.tup (ys.map T.str)), .no, .no, .no, .no, .no, .no, .no, .no, .no, .no, .no, .no, .no, .no, .no, .no, .no] (bS 11) (.nx [.no, .ow (dT d), .sh (.int (h : Nat)), .sh (.int (v : Nat)), .sh (.lst ((allSq h v).map sqT)), ey, ex, et, eb, el, .sh (.tup (ys.map T.str)), .sh (dKey (lotsD ys)), .no, .no, .no, .no, .no, .no, .no, .no, .no, .no, .no, .no, .no, .no, .no, .no]) := by
  obtain ⟨l1, l2⟩ := row_lens r (by omega)
  exact sg_nx (sg_set (i := 11) (by walk_at "so") (eg_fn (T_.lots_of.ok rfl rfl) (by walk_at "gl") (lots_of_ok T_ ys (.inr rfl) l1 l2 (r.fine (by omega)) r.ok) (by walk_at "lv") (pas_cons (eg_sh (i := 10) (by walk_at "vo") rfl) eas_nil)) (by walk_at "ln")) rfl
theorem lotsD_keys (ys : List Str) : (lotsD ys).map (fun x => kT x.1) = sortT ((lotsL ys).map fun p => kT p.1) := by
  unfold lotsD
  rw [List.map_map, sortT_map]
  rfl
theorem lotsL_txt {ys : List Str} {h v : Nat} (r : RowsOk ys h v) : Txt1 (lotsL ys) := row_txt _ _ (fun q hq => r.ok q.1 (by
  have := List.mem_zipIdx' hq
  rw [this.2]; exact List.getElem_mem _)) (fun _ h => nomatch h)
theorem keys_str {l : List (Key × List T)} (tx : Txt1 l) : ∃ ss : List Str, (l.map fun p => kT p.1) = ss.map T.str ∧ ∀ s ∈ ss, PyData.strOk s = true := by
  induction l with
  | nil => exact ⟨[], rfl, fun _ h => nomatch h⟩
  | cons p l ih =>
    obtain ⟨ss, e, ok⟩ := ih fun q hq => tx q (List.mem_cons_of_mem _ hq)
    obtain ⟨s, e1, ok1⟩ := tx p List.mem_cons_self
    refine ⟨s :: ss, by rw [List.map_cons, e, e1]; rfl, fun t ht => ?_⟩
    rcases List.mem_cons.mp ht with rfl | ht
    · exact ok1
    · exact ok t ht
include T_ in
theorem b12_ok (d : Dc) (h v : Nat) (hh : 0 < h ∧ h < 6 ∧ 0 < v ∧ v < 6) (ys : List Str) (r : RowsOk ys h v) : TtG (lawS P w K mg base) [.no, .ow (dT d), .sh (.int (h : Nat)), .sh (.int (v : Nat)), .sh (.lst ((allSq h v).map sqT)), ey, ex, et, eb, el, .sh (.tup (ys.map T.str)), .sh (dKey (lotsD ys)), .no, .no, .no, .no, .no, .no, .no, .no, .no, .no, .no, .no, .no, .no, .no, .no] (cond (bS 12)) false [.no, .ow (dT d), .sh (.int (h : Nat)), .sh (.int (v : Nat)), .sh (.lst ((allSq h v).map sqT)), ey, ex, et, eb, el, .sh (.tup (ys.map T.str)), .sh (dKey (lotsD ys)), .no, .no, .no, .no, .no, .no, .no, .no, .no, .no, .no, .no, .no, .no, .no, .no] := by
  obtain ⟨l1, l2⟩ := row_lens r (by omega)
  have tx := lotsL_txt r
  obtain ⟨ss, ess, oks⟩ := keys_str tx
  have k1 : sortT ((mergeT [] (lettersP ys)).map fun x => kT x.1) = (lotsD ys).map fun x => kT x.1 := by
    rw [lotsD_keys]
    congr 1
    have := congrArg (List.map kT) (dict_keys ys)
    rw [List.map_map, List.map_map] at this
    exact this
  have k2 : ((mergeT [] (lettersP ys)).map fun x => kT x.1) = ss.map T.str := by
    rw [← ess]
    have := congrArg (List.map kT) (dict_keys ys)
    rw [List.map_map, List.map_map] at this
    exact this
  have dk : DOk 1 (.lst ((lotsD ys).map fun x => kT x.1)) := by
    rw [lotsD_keys, ess, sortT_map]
    intro t ht
    obtain ⟨s, hs, rfl⟩ := List.mem_map.mp ht
    exact oks s (srtBy_mem.mp hs)
  have fl : (ys.map fun r => (signs r).map fun s => pairK (Sum.inr s, T.int 1)).flatten = (lettersP ys).map pairK := by
    unfold lettersP
    rw [List.map_flatMap, List.flatMap_def]
    simp only [List.map_map]
    rfl
  have few : ∀ m, (((ys.map fun r => (signs r).map fun s => pairK (Sum.inr s, T.int 1)).take m).flatten).length ≤ 16777216 := fun m => by
    refine Nat.le_trans (take_flat_le _ _) ?_
    rw [List.length_flatten, List.map_map]
    have all : ∀ l : List Str, (∀ r ∈ l, r.length ≤ 100) → (l.map (List.length ∘ fun r => (signs r).map fun s => pairK (Sum.inr s, T.int 1))).sum ≤ 100 * l.length := fun l => by
      induction l with
      | nil => intro _; simp
      | cons x l ih =>
        intro hx
        have h1 := ih fun r hr => hx r (List.mem_cons_of_mem _ hr)
        have h2 := hx x List.mem_cons_self
        have h3 : ((List.length ∘ fun r => (signs r).map fun s => pairK (Sum.inr s, T.int 1)) x) = x.length := by
          show ((signs x).map fun s => pairK (Sum.inr s, T.int 1)).length = x.length
          rw [List.length_map, signs_length]; rfl
        rw [List.map_cons, List.sum_cons, h3, List.length_cons, Nat.mul_add]
        omega
    have := all ys l1
    omega
  refine tt_to (tg_w (wg_or (pt_ne (n := 1) (t := .lst ((lotsD ys).map fun x => kT x.1)) (u := .lst (sortT ((mergeT [] (lettersP ys)).map fun x => kT x.1))) dk (by rw [k1]; exact dk) (eg_listD drawn_dK (by walk_at "gl") T_.nList (eg_sh (i := 11) (by walk_at "vo") rfl)) (eg_sortedD drawn_dK (by rw [k2]; exact srtok_str ss oks) (by walk_at "gl") T_.nSorted (eg_o (eo_dictP (by walk_at "gl") T_.nDict (eg_to (eg_fn (T_.flat.ok rfl rfl) (by walk_at "gl") (flat_ok T_ (ys.map fun r => (signs r).map fun s => pairK (Sum.inr s, T.int 1)) few) (by walk_at "lv") (pas_cons ?_ eas_nil)) (congrArg T.lst fl) rfl))))) fun _ => wg_or1 (pt_ne (n := 1) (t := .lst (((lotsD ys).filter fun _ => false).map fun x => kT x.1)) (u := .lst []) ?_ dok_nilL (LcD.eg (lcNF (α := Key × T) (toT := fun x => kT x.1) (f := fun x => kT x.1) (xs := lotsD ys) (b := fun _ => false) (i := 23) (by walk_at "bk") (by walk_at "nd") (by walk_at "so") (by walk_at "ln") (by walk_at "no") ?_ (ig_keysK (eg_sh (i := 11) (by walk_at "vo") rfl)) (fun p hp => ?_) fun _ _ z => by cases z)) pg_lst0))) ?_
  · rw [List.map_map]
    refine (lcN (α := Str) (toT := T.str) (f := T.lst ∘ fun r => (signs r).map fun s => pairK (Sum.inr s, T.int 1)) (xs := ys) (i := 24) (by walk_at "bk") (by walk_at "nd") (by walk_at "so") (by walk_at "ln") (by walk_at "no") (by omega) (pg_iter .tup (eg_sh (i := 10) (by walk_at "vo") rfl)) fun r hr => ?_).eg
    refine (lcN (α := Str) (toT := T.str) (f := fun s => pairK (Sum.inr s, T.int 1)) (xs := signs r) (i := 23) (by walk_at "bk") (by walk_at "nd") (by walk_at "so") (by walk_at "ln") (by walk_at "no") (by rw [signs_length]; have := l1 r hr; show r.length ≤ 16777216; omega) (ig_str (eg_sh (i := 24) (by walk_at "vo") rfl)) fun s _ => pg_tup2 (eg_sh (i := 23) (by walk_at "vo") rfl) eg_int).eg
  · have q : (lotsD ys).filter (fun _ => false) = [] := by simp
    rw [q]
    exact dok_nilL
  · have w1 : (lotsD ys).length = (lotsL ys).length := by unfold lotsD; rw [List.length_map, srtBy_len]
    have w2 := row_wt (m := 100) ys.zipIdx [] fun q hq => l1 q.1 (by
      have := List.mem_zipIdx' hq
      rw [this.2]; exact List.getElem_mem _)
    have w3 := wt_len (lotsL ys)
    have w4 : wtL ([] : List (Key × List T)) = 0 := rfl
    rw [List.length_zipIdx] at w2
    have w5 : wtL (lotsL ys) ≤ 0 + 2 * 100 * ys.length := by rw [← w4]; exact w2
    omega
  · have hp' := hp
    unfold lotsD at hp'
    obtain ⟨pl, hpl, rfl⟩ := List.mem_map.mp hp'
    have hL := srtBy_mem.mp hpl
    obtain ⟨s, es, sok⟩ := tx pl hL
    obtain ⟨k, l⟩ := pl
    cases es
    have nd1 := lots_nd ys
    have nd2 : ((lotsD ys).map (·.1)).Nodup := by
      unfold lotsD
      rw [List.map_map]
      exact ((srtBy_perm (f := fun p : Key × List T => kT p.1) (xs := lotsL ys)).map (·.1)).nodup_iff.mpr nd1
    have gl := getN_mem nd2 hp
    have ul := (getN_lsL nd1 hL).2
    rw [lots_under r.len r.each s] at ul
    have ul : ((allSq h v).filter fun p => decide (cellF ys p.1.toNat p.2.toNat = s)).map sqT = l := ul
    subst ul
    have lt : h * v ≤ 25 := Nat.mul_le_mul (show h ≤ 5 by omega) (show v ≤ 5 by omega)
    have e : (fun _ : Key × T => false) (Sum.inr s, T.tup (((allSq h v).filter fun p => decide (cellF ys p.1.toNat p.2.toNat = s)).map sqT)) = !teq (.lst (((allSq h v).filter fun p => decide (cellF ys p.1.toNat p.2.toNat = s)).map sqT)) (.lst (((allSq h v).filter fun p => decide (cellF ys p.1.toNat p.2.toNat = s)).map sqT)) := by
      rw [teq_refl (dok_sqs _)]; rfl
    refine tt_to (pt_ne (n := 2) (dok_sqs _) (dok_sqs _) (eg_listS .tup (by walk_at "gl") T_.nList (eg_getK (k := Sum.inr s) (da_sh (E2 := _) (eg_sh (i := 11) (by walk_at "vo") rfl)) (eg_sh (i := 23) (by walk_at "vo") rfl) gl)) (eg_lcTF (α := Sq) (toT := sqT) (t := fun s => .int s.1) (u := fun s => .int s.2) (f := sqT) (xs := allSq h v) (b := fun p => decide (cellF ys p.1.toNat p.2.toNat = s)) (i := 25) (j := 26) (fun s => .inl rfl) (by walk_at "bk") (by walk_at "nd") (by decide) (by walk_at "so") (by walk_at "so") (by walk_at "ln") (by walk_at "ln") (by walk_at "no") (by walk_at "no") (by rw [allSq_len]; omega) (pg_iter .lst (eg_sh (i := 4) (by walk_at "vo") rfl)) (fun q hq => ?_) fun q _ _ => pg_tup2 (eg_sh (i := 25) (by walk_at "vo") rfl) (eg_sh (i := 26) (by walk_at "vo") rfl))) e
    unfold allSq at hq
    obtain ⟨y, hy, hq⟩ := List.mem_flatMap.mp hq
    obtain ⟨x, hx, rfl⟩ := List.mem_map.mp hq
    rw [List.mem_range, Int.toNat_natCast] at hy hx
    obtain ⟨c, c1, c2, c3, c4, c5⟩ := cell_at r hy hx
    have e2 : decide (cellF ys (0 + (y : Int)).toNat (0 + (x : Int)).toNat = s) = teq (.str ⟨#[c]⟩) (.str s) := by
      have q1 : (0 + (y : Int)).toNat = y := by omega
      have q2 : (0 + (x : Int)).toNat = x := by omega
      rw [q1, q2, c2, teq_str]
      by_cases z : (⟨#[c]⟩ : Str) = s <;> simp [z]
    refine tt_to (pt_eq (n := 0) (t := .str ⟨#[c]⟩) (u := .str s) (by rw [← c2]; exact c5) sok (eg_itemS (pg_item (i := 0 + (y : Int)) (u := .str (ys.getD y "")) .tup ?_ (eg_sh (i := 10) (by walk_at "vo") rfl) (eg_sh (i := 25) (by walk_at "vo") rfl)) (eg_sh (i := 26) (by walk_at "vo") rfl) (by rw [c4]; omega) ?_) (eg_sh (i := 23) (by walk_at "vo") rfl)) e2
    · rw [Int.zero_add]
      exact atI_any (by rw [List.getElem?_map, c3]; rfl)
    · show atI _ (0 + (x : Int)) = _
      rw [Int.zero_add]
      exact atI_any c1
  · have q : (lotsD ys).filter (fun _ => false) = [] := by simp
    rw [q, k1, teq_refl dk]
    rfl

end
end K01
end Cw
end L2

set_option Elab.async false
set_option linter.all false
set_option maxRecDepth 100000
set_option maxHeartbeats 4000000
namespace L2
namespace Cw
namespace K01
open PySem PySem.Spec PyProof.Rows
local macro_rules | `(tactic| walk_at "vo") => `(tactic| exact ⟨rfl, by first | exact .inl rfl | exact .inr (.inl rfl) | exact .inr (.inr rfl), by decide, by decide⟩)
local macro_rules | `(tactic| walk_at "gl") => `(tactic| exact ⟨rfl, by decide⟩)
local macro_rules | `(tactic| walk_at "nd") => `(tactic| (dsimp only [SS.blk, defP]; decide +kernel))
local macro_rules | `(tactic| walk_at "so") => `(tactic| exact ⟨by walk_at "nd", rfl, by first | exact .inl rfl | exact .inr rfl, by first | exact .inl rfl | exact .inr rfl, by first | (dsimp only [SS.blk, defP, pins]; decide) | (simp [SS.blk, defP, pins, isOw, List.range_succ]; done)⟩)
local macro_rules | `(tactic| walk_at "bk") => `(tactic| exact blkOk_by (by walk_at "nd"))
local macro_rules | `(tactic| walk_at "ln") => `(tactic| (simp; done))
local macro_rules | `(tactic| walk_at "no") => `(tactic| (intro t; simp; done))
local macro_rules | `(tactic| walk_at "lv") => `(tactic| (dsimp only [SS.blk, defP]; decide))
local macro_rules | `(tactic| walk_at "sc") => `(tactic| exact ⟨rfl, rfl, rfl, by decide +kernel, rfl, by decide +kernel, by decide +kernel⟩)
/- a name's value -/
local macro_rules | `(tactic| walk_at "v") => `(tactic| first
  | exact eg_sh (i := 0) (by walk_at "vo") rfl | exact eg_sh (i := 1) (by walk_at "vo") rfl | exact eg_sh (i := 2) (by walk_at "vo") rfl | exact eg_sh (i := 3) (by walk_at "vo") rfl
  | exact eg_sh (i := 4) (by walk_at "vo") rfl | exact eg_sh (i := 5) (by walk_at "vo") rfl | exact eg_sh (i := 6) (by walk_at "vo") rfl | exact eg_sh (i := 7) (by walk_at "vo") rfl)
/-- the squares that are drawn -/
def pickG (s : Dc) (_ : Sq) : Bool × Dc := (teq (.int (roll s 2).1) (.int 0), (roll s 2).2)
def someD (d : Dc) (h v : Nat) : List Sq := (thrF pickG (allSq h v) d).1
def someE (d : Dc) (h v : Nat) : Dc := (thrF pickG (allSq h v) d).2
theorem thrF_sub {g : Dc → Sq → Bool × Dc} : ∀ (xs : List Sq) (s : Dc), ((thrF g xs s).1).Sublist xs
  | [], s => List.Sublist.refl _
  | x :: xs, s => by
    have ih := thrF_sub (g := g) xs (g s x).2
    cases q : (g s x).1 with
    | false =>
      have e : thrF g (x :: xs) s = thrF g xs (g s x).2 := by simp [thrF, q]
      rw [e]; exact ih.cons x
    | true =>
      have e : thrF g (x :: xs) s = (x :: (thrF g xs (g s x).2).1, (thrF g xs (g s x).2).2) := by simp [thrF, q]
      rw [e]; exact ih.cons_cons x
theorem someD_sub (d : Dc) (h v : Nat) : (someD d h v).Sublist (allSq h v) := thrF_sub _ _
/-- the law's way to what hangs together -/
def nearB (s o : Sq) : Bool := teq (.int (absI (o.1 - s.1) + absI (o.2 - s.2))) (.int 1)
def growB (lot : List Sq) (s : Sq) : Bool := ((lot.map sqT).any fun x => teq x (sqT s)) || !teq (.lst ((lot.filter (nearB s)).map sqT)) (.lst [])
def growL (left lot : List Sq) : List Sq := left.filter (growB lot)
def growN (left : List Sq) : Nat → List Sq
  | 0 => left.take 1
  | k + 1 => growL left (growN left k)
def outB (lot : List Sq) (s : Sq) : Bool := !(lot.map sqT).any fun x => teq x (sqT s)
def turnT (n : Nat) (s : List (List Sq) × List Sq) : List (List Sq) × List Sq := if s.2 = [] then s else (s.1 ++ [growN s.2 n], s.2.filter (outB (growN s.2 n)))
def turnN (sm : List Sq) : Nat → List (List Sq) × List Sq
  | 0 => ([], sm)
  | k + 1 => turnT sm.length (turnN sm k)
theorem growN_len (left : List Sq) : ∀ k, (growN left k).length ≤ left.length
  | 0 => List.length_take_le' 1 left
  | k + 1 => List.length_filter_le _ _
theorem turnT_len (n : Nat) (s : List (List Sq) × List Sq) : (turnT n s).1.length ≤ s.1.length + 1 ∧ (turnT n s).2.length ≤ s.2.length := by
  unfold turnT
  split
  · omega
  · simp only [List.length_append, List.length_singleton]
    have := List.length_filter_le (outB (growN s.2 n)) s.2
    omega
theorem turnN_len (sm : List Sq) : ∀ k, (turnN sm k).1.length ≤ k ∧ (turnN sm k).2.length ≤ sm.length
  | 0 => ⟨Nat.le_refl _, Nat.le_refl _⟩
  | k + 1 => by
    have := turnN_len sm k
    have := turnT_len sm.length (turnN sm k)
    show (turnT sm.length (turnN sm k)).1.length ≤ k + 1 ∧ _
    constructor
    · omega
    · show (turnT sm.length (turnN sm k)).2.length ≤ sm.length
      omega
section
variable {P : Program} {w : World} {K : PySem.W.Frag} {mg : Str → Option Value} {base : Heap} (T_ : Tx K mg)
variable (ey ex et eb el er etb : Ent)
include T_ in
theorem b13_ok (d : Dc) (h v : Nat) (hh : h < 6 ∧ v < 6) : SG (lawS P w K mg base) [.no, .ow (dT d), .sh (.int (h : Nat)), .sh (.int (v : Nat)), .sh (.lst ((allSq h v).map sqT)), ey, ex, et, eb, el, er, etb, .no, .no, .no, .no, .no, .no, .no, .no, .no, .no, .no, .no, .no, .no, .no, .no] (bS 13) (.nx [.no, .ow (dT (someE d h v)), .sh (.int (h : Nat)), .sh (.int (v : Nat)), .sh (.lst ((allSq h v).map sqT)), ey, ex, et, eb, el, er, etb, .sh (.lst ((someD d h v).map sqT)), .no, .no, .no, .no, .no, .no, .no, .no, .no, .no, .no, .no, .no, .no, .no]) := by
  have lt : h * v ≤ 25 := Nat.mul_le_mul (show h ≤ 5 by omega) (show v ≤ 5 by omega)
  refine sg_nx (LcD.set (m := 12) (lcTF (Ev := fun d => [.no, .ow (dT d), .sh (.int (h : Nat)), .sh (.int (v : Nat)), .sh (.lst ((allSq h v).map sqT)), ey, ex, et, eb, el, er, etb, .no, .no, .no, .no, .no, .no, .no, .no, .no, .no, .no, .no, .no, .no, .no, .no]) (g := pickG) (fa := sqT) (xs := allSq h v) (toT := sqT) (i := 22) d (by walk_at "bk") (by walk_at "nd") (by walk_at "so") (fun _ => by walk_at "ln") (fun _ _ => rfl) (by walk_at "no") (by rw [allSq_len]; omega) (pg_iter .lst (eg_sh (i := 4) (by walk_at "vo") rfl)) (fun q _ s => ?_) fun q _ s => (eg_sh (i := 22) (by walk_at "vo") rfl)) (by walk_at "so") rfl rfl rfl (by decide +kernel) (by walk_at "ln")) rfl
  exact tt_eq (n := 0) (eg_roll T_ (i := 1) (d := s) (m := 2) rfl rfl rfl rfl rfl (by walk_at "lv") (by walk_at "vo") (by walk_at "gl") rfl eg_int ⟨by decide, by decide⟩) eg_int trivial trivial
include T_ in
theorem b14_ok (d : Dc) (h v : Nat) (sm : List Sq) : SG (lawS P w K mg base) [.no, .ow (dT d), .sh (.int (h : Nat)), .sh (.int (v : Nat)), .sh (.lst ((allSq h v).map sqT)), ey, ex, et, eb, el, er, etb, .sh (.lst (sm.map sqT)), .no, .no, .no, .no, .no, .no, .no, .no, .no, .no, .no, .no, .no, .no, .no] (bS 14) (.nx [.no, .ow (dT d), .sh (.int (h : Nat)), .sh (.int (v : Nat)), .sh (.lst ((allSq h v).map sqT)), ey, ex, et, eb, el, er, etb, .sh (.lst (sm.map sqT)), .sh (.lst ((sm.take 1).map sqT)), .sh (.lst []), .no, .no, .no, .no, .no, .no, .no, .no, .no, .no, .no, .no, .no]) := by
  have e : cutT (sm.map sqT) none (some 1) = (sm.take 1).map sqT := by
    cases sm with
    | nil => rfl
    | cons s sm => exact (cut_take (n := 1) (by simp)).trans (by rw [List.map_take])
  refine sg_nx (sg_par2 (i := 13) (j := 14) (by walk_at "so") (by walk_at "so") rfl rfl rfl (pas_cons (eg_to (eg_sliceL (lo := none) (m := none) (n := some 1) (eg_sh (i := 12) (by walk_at "vo") rfl) pa_no (pa_so eg_int)) (congrArg T.lst e) rfl) (pas_cons pg_lst0 eas_nil)) (by show 13 < 28; decide) (by show 14 < 28; decide) (by decide)) rfl
include T_ in
theorem b15_ok (d : Dc) (h v : Nat) (sm : List Sq) : SG (lawS P w K mg base) [.no, .ow (dT d), .sh (.int (h : Nat)), .sh (.int (v : Nat)), .sh (.lst ((allSq h v).map sqT)), ey, ex, et, eb, el, er, etb, .sh (.lst (sm.map sqT)), .sh (.lst ((sm.take 1).map sqT)), .sh (.lst []), .no, .no, .no, .no, .no, .no, .no, .no, .no, .no, .no, .no, .no] (bS 15) (.nx [.no, .ow (dT d), .sh (.int (h : Nat)), .sh (.int (v : Nat)), .sh (.lst ((allSq h v).map sqT)), ey, ex, et, eb, el, er, etb, .sh (.lst (sm.map sqT)), .sh (.lst ((sm.take 1).map sqT)), .sh (.lst []), .sh (.lst (sm.map sqT)), .no, .no, .no, .no, .no, .no, .no, .no, .no, .no, .no, .no]) :=
  sg_nx (sg_set (i := 15) (by walk_at "so") (eg_listS .lst (by walk_at "gl") T_.nList (eg_sh (i := 12) (by walk_at "vo") rfl)) (by walk_at "ln")) rfl
abbrev tB : List Stmt := match bS 16 with | .For _ _ b _ _ => b | _ => []
abbrev tI : List Stmt := match tB.getD 0 (.Pass ⟨0, 0, 0, 0⟩) with | .If _ b _ _ => b | _ => []
abbrev gB : List Stmt := match tI.getD 1 (.Pass ⟨0, 0, 0, 0⟩) with | .For _ _ b _ _ => b | _ => []
include T_ in
theorem grow_ok (d : Dc) (h v : Nat) (sm left lot : List Sq) (ps : List (List Sq)) (a c : Ent) (l1 : left.length ≤ 1000) (l2 : lot.length ≤ 1000) : SG (lawS P w K mg base) [.no, .ow (dT d), .sh (.int (h : Nat)), .sh (.int (v : Nat)), .sh (.lst ((allSq h v).map sqT)), ey, ex, et, eb, el, er, etb, .sh (.lst (sm.map sqT)), .sh (.lst ((sm.take 1).map sqT)), .sh (.lst ((ps).map partT)), .sh (.lst ((left).map sqT)), a, .sh (.lst (lot.map sqT)), c, .no, .no, .no, .no, .no, .no, .no, .no, .no] (gB.getD 0 (.Pass ⟨0, 0, 0, 0⟩)) (.nx [.no, .ow (dT d), .sh (.int (h : Nat)), .sh (.int (v : Nat)), .sh (.lst ((allSq h v).map sqT)), ey, ex, et, eb, el, er, etb, .sh (.lst (sm.map sqT)), .sh (.lst ((sm.take 1).map sqT)), .sh (.lst ((ps).map partT)), .sh (.lst ((left).map sqT)), a, .sh (.lst ((growL left lot).map sqT)), c, .no, .no, .no, .no, .no, .no, .no, .no, .no]) := by
  refine sg_nx (LcD.setC (m := 17) (lcNF (α := Sq) (toT := sqT) (f := sqT) (xs := left) (b := growB lot) (i := 22) (by walk_at "bk") (by walk_at "nd") (by walk_at "so") (by walk_at "ln") (by walk_at "no") (by omega) (pg_iter .lst (eg_sh (i := 15) (by walk_at "vo") rfl)) (fun s _ => ?_) fun s _ _ => (eg_sh (i := 22) (by walk_at "vo") rfl)) (by walk_at "so") rfl (by walk_at "ln")) rfl
  unfold growB
  refine tg_w (wg_or (tt_inL (n := 2) (eg_sh (i := 22) (by walk_at "vo") rfl) (eg_sh (i := 17) (by walk_at "vo") rfl) (DOk.up (n := 1) (by decide) (dok_sq s)) (dok_sqs lot)) fun _ => wg_or1 (pt_ne (n := 2) (dok_sqs _) (DOk.up (n := 1) (by decide) dok_nilL) (LcD.eg (lcNF (α := Sq) (toT := sqT) (f := sqT) (xs := lot) (b := nearB s) (i := 27) (by walk_at "bk") (by walk_at "nd") (by walk_at "so") (by walk_at "ln") (by walk_at "no") (by omega) (pg_iter .lst (eg_sh (i := 17) (by walk_at "vo") rfl)) (fun o _ => ?_) fun o _ _ => (eg_sh (i := 27) (by walk_at "vo") rfl))) pg_lst0))
  unfold nearB
  exact pt_eq (n := 0) trivial trivial (pg_add (eg_abs (by walk_at "gl") T_.nAbs (pg_sub (pg_item .tup at_0 (eg_sh (i := 27) (by walk_at "vo") rfl) eg_int) (pg_item .tup at_0 (eg_sh (i := 22) (by walk_at "vo") rfl) eg_int))) (eg_abs (by walk_at "gl") T_.nAbs (pg_sub (pg_item .tup at_1 (eg_sh (i := 27) (by walk_at "vo") rfl) eg_int) (pg_item .tup at_1 (eg_sh (i := 22) (by walk_at "vo") rfl) eg_int)))) eg_int
include T_ in
theorem turn_step (d : Dc) (h v : Nat) (sm left : List Sq) (ps : List (List Sq)) (a b c : Ent) (hb : nw b) (hc : nw c) (l0 : sm.length ≤ 25) (l1 : left.length ≤ 25) (l2 : ps.length ≤ 25) : ∃ b' c', nw b' ∧ nw c' ∧ SGs (lawS P w K mg base) [.no, .ow (dT d), .sh (.int (h : Nat)), .sh (.int (v : Nat)), .sh (.lst ((allSq h v).map sqT)), ey, ex, et, eb, el, er, etb, .sh (.lst (sm.map sqT)), .sh (.lst ((sm.take 1).map sqT)), .sh (.lst ((ps).map partT)), .sh (.lst ((left).map sqT)), a, b, c, .no, .no, .no, .no, .no, .no, .no, .no, .no] tB (.nx [.no, .ow (dT d), .sh (.int (h : Nat)), .sh (.int (v : Nat)), .sh (.lst ((allSq h v).map sqT)), ey, ex, et, eb, el, er, etb, .sh (.lst (sm.map sqT)), .sh (.lst ((sm.take 1).map sqT)), .sh (.lst (((turnT sm.length (ps, left)).1).map partT)), .sh (.lst (((turnT sm.length (ps, left)).2).map sqT)), a, b', c', .no, .no, .no, .no, .no, .no, .no, .no, .no]) := by
  by_cases hl : left = []
  · subst hl
    have e : turnT sm.length (ps, []) = (ps, []) := by unfold turnT; rw [if_pos rfl]
    rw [e]
    exact ⟨b, c, hb, hc, sgs_one (sg_ifFn (d := !teq (.lst []) (.lst [])) (by rw [teq_nilL]; rfl) (pt_ne (n := 1) dok_nilL dok_nilL (eg_sh (i := 15) (by walk_at "vo") rfl) pg_lst0))⟩
  · have e : turnT sm.length (ps, left) = (ps ++ [growN left sm.length], left.filter (outB (growN left sm.length))) := by unfold turnT; rw [if_neg hl]
    rw [e]
    have cut : cutT (left.map sqT) none (some 1) = (growN left 0).map sqT := by
      cases left with
      | nil => exact absurd rfl hl
      | cons s l => exact (cut_take (n := 1) (by simp)).trans (by rw [← List.map_take]; rfl)
    refine Exists.elim (ForR.some (S := lawS P w K mg base) (tg := match tI.getD 1 (.Pass ⟨0, 0, 0, 0⟩) with | .For t _ _ _ _ => t | _ => .Constant .none 0 ⟨0, 0, 0, 0⟩) (body := gB) (toT := fun k : Nat => T.int (0 + (k : Int))) (G := fun pre F => ∃ c, nw c ∧ F = [.no, .ow (dT d), .sh (.int (h : Nat)), .sh (.int (v : Nat)), .sh (.lst ((allSq h v).map sqT)), ey, ex, et, eb, el, er, etb, .sh (.lst (sm.map sqT)), .sh (.lst ((sm.take 1).map sqT)), .sh (.lst ((ps).map partT)), .sh (.lst ((left).map sqT)), a, .sh (.lst ((growN left pre.length).map sqT)), c, .no, .no, .no, .no, .no, .no, .no, .no, .no]) (xs := List.range sm.length) ?_ (F := [.no, .ow (dT d), .sh (.int (h : Nat)), .sh (.int (v : Nat)), .sh (.lst ((allSq h v).map sqT)), ey, ex, et, eb, el, er, etb, .sh (.lst (sm.map sqT)), .sh (.lst ((sm.take 1).map sqT)), .sh (.lst ((ps).map partT)), .sh (.lst ((left).map sqT)), a, .sh (.lst ((growN left 0).map sqT)), c, .no, .no, .no, .no, .no, .no, .no, .no, .no]) ⟨c, hc, rfl⟩) ?_
    · rintro pre x post F eq ⟨c1, hc1, rfl⟩
      have gl := growN_len left pre.length
      refine ⟨_, [18], [.no, .ow (dT d), .sh (.int (h : Nat)), .sh (.int (v : Nat)), .sh (.lst ((allSq h v).map sqT)), ey, ex, et, eb, el, er, etb, .sh (.lst (sm.map sqT)), .sh (.lst ((sm.take 1).map sqT)), .sh (.lst ((ps).map partT)), .sh (.lst ((left).map sqT)), a, .sh (.lst ((growN left (pre.length + 1)).map sqT)), .sh (.int (0 + (x : Int))), .no, .no, .no, .no, .no, .no, .no, .no, .no], ag_name (i := 18) (by walk_at "so") (by walk_at "ln"), sgs_one (grow_ok T_ ey ex et eb el er etb d h v sm left (growN left pre.length) ps a (.sh (.int (0 + (x : Int)))) (by omega) (by omega)), ⟨_, nw_sh, by rw [List.length_append]; rfl⟩⟩
    · rintro F ⟨r, c', hc', rfl⟩
      rw [List.length_range] at r
      have gl := growN_len left sm.length
      refine ⟨.sh (.lst ((growN left sm.length).map sqT)), c', nw_sh, hc', sgs_one (sg_ifT (d := !teq (.lst (left.map sqT)) (.lst [])) (by rw [teq_nilL]; cases left <;> first | exact absurd rfl hl | rfl) (pt_ne (n := 2) (dok_sqs _) (DOk.up (n := 1) (by decide) dok_nilL) (eg_sh (i := 15) (by walk_at "vo") rfl) pg_lst0) (sgs_cons (E1 := [.no, .ow (dT d), .sh (.int (h : Nat)), .sh (.int (v : Nat)), .sh (.lst ((allSq h v).map sqT)), ey, ex, et, eb, el, er, etb, .sh (.lst (sm.map sqT)), .sh (.lst ((sm.take 1).map sqT)), .sh (.lst ((ps).map partT)), .sh (.lst ((left).map sqT)), a, .sh (.lst ((growN left 0).map sqT)), c, .no, .no, .no, .no, .no, .no, .no, .no, .no]) (sg_nx (sg_set (i := 17) (by walk_at "so") (eg_to (eg_sliceL (lo := none) (m := none) (n := some 1) (eg_sh (i := 15) (by walk_at "vo") rfl) pa_no (pa_so eg_int)) (congrArg T.lst cut) rfl) (by walk_at "ln")) rfl) (sgs_cons (sg_for (ts := (List.range sm.length).map fun k : Nat => T.int (0 + (k : Int))) (ig_range (n := (sm.length : Int)) (by walk_at "gl") T_.nRange (eg_to (eg_len .lst (by walk_at "gl") T_.nLen (eg_sh (i := 12) (by walk_at "vo") rfl)) (by rw [List.length_map]) rfl) (by omega)) r) (sgs_one ?_))))⟩
      refine sg_nx (sg_par2 (i := 14) (j := 15) (by walk_at "so") (by walk_at "so") rfl rfl rfl (pas_cons (eg_to (eg_catL (ts := ps.map partT) (us := [partT (growN left sm.length)]) (eg_sh (i := 14) (by walk_at "vo") rfl) (pg_lst1 (eg_tupleL (by walk_at "gl") T_.nTuple (eg_sh (i := 17) (by walk_at "vo") rfl))) (by rw [List.length_map]; show _ + 1 ≤ _; omega)) (by rw [List.map_append]; rfl) rfl) (pas_cons (LcD.eg (lcNF (α := Sq) (toT := sqT) (f := sqT) (xs := left) (b := outB (growN left sm.length)) (i := 22) (by walk_at "bk") (by walk_at "nd") (by walk_at "so") (by walk_at "ln") (by walk_at "no") (by omega) (pg_iter .lst (eg_sh (i := 15) (by walk_at "vo") rfl)) (fun s _ => tt_ninL (n := 2) (eg_sh (i := 22) (by walk_at "vo") rfl) (eg_sh (i := 17) (by walk_at "vo") rfl) (DOk.up (n := 1) (by decide) (dok_sq s)) (dok_sqs _)) fun s _ _ => (eg_sh (i := 22) (by walk_at "vo") rfl))) eas_nil)) (by show 14 < 28; decide) (by show 15 < 28; decide) (by decide)) rfl

end
end K01
end Cw
end L2

set_option Elab.async false
set_option linter.all false
set_option maxRecDepth 100000
set_option maxHeartbeats 4000000
namespace L2
namespace Cw
namespace K01
open PySem PySem.Spec PyProof.Rows
local macro_rules | `(tactic| walk_at "vo") => `(tactic| exact ⟨rfl, by first | exact .inl rfl | exact .inr (.inl rfl) | exact .inr (.inr rfl), by decide, by decide⟩)
local macro_rules | `(tactic| walk_at "gl") => `(tactic| exact ⟨rfl, by decide⟩)
local macro_rules | `(tactic| walk_at "nd") => `(tactic| (dsimp only [SS.blk, defP]; decide +kernel))
local macro_rules | `(tactic| walk_at "so") => `(tactic| exact ⟨by walk_at "nd", rfl, by first | exact .inl rfl | exact .inr rfl, by first | exact .inl rfl | exact .inr rfl, by first | (dsimp only [SS.blk, defP, pins]; decide) | (simp [SS.blk, defP, pins, isOw, List.range_succ]; done)⟩)
local macro_rules | `(tactic| walk_at "bk") => `(tactic| exact blkOk_by (by walk_at "nd"))
local macro_rules | `(tactic| walk_at "ln") => `(tactic| (simp; done))
local macro_rules | `(tactic| walk_at "no") => `(tactic| (intro t; simp; done))
local macro_rules | `(tactic| walk_at "lv") => `(tactic| (dsimp only [SS.blk, defP]; decide))
local macro_rules | `(tactic| walk_at "sc") => `(tactic| exact ⟨rfl, rfl, rfl, by decide +kernel, rfl, by decide +kernel, by decide +kernel⟩)
/- a name's value -/
local macro_rules | `(tactic| walk_at "v") => `(tactic| first
  | exact eg_sh (i := 0) (by walk_at "vo") rfl | exact eg_sh (i := 1) (by walk_at "vo") rfl | exact eg_sh (i := 2) (by walk_at "vo") rfl | exact eg_sh (i := 3) (by walk_at "vo") rfl
  | exact eg_sh (i := 4) (by walk_at "vo") rfl | exact eg_sh (i := 5) (by walk_at "vo") rfl | exact eg_sh (i := 6) (by walk_at "vo") rfl | exact eg_sh (i := 7) (by walk_at "vo") rfl)
section
variable {P : Program} {w : World} {K : PySem.W.Frag} {mg : Str → Option Value} {base : Heap} (T_ : Tx K mg)
variable (ey ex et eb el er etb : Ent)
include T_ in
theorem b16_ok (d : Dc) (h v : Nat) (sm : List Sq) (l0 : sm.length ≤ 25) : ∃ a b c, nw a ∧ nw b ∧ nw c ∧ SG (lawS P w K mg base) [.no, .ow (dT d), .sh (.int (h : Nat)), .sh (.int (v : Nat)), .sh (.lst ((allSq h v).map sqT)), ey, ex, et, eb, el, er, etb, .sh (.lst (sm.map sqT)), .sh (.lst ((sm.take 1).map sqT)), .sh (.lst []), .sh (.lst (sm.map sqT)), .no, .no, .no, .no, .no, .no, .no, .no, .no, .no, .no, .no] (bS 16) (.nx [.no, .ow (dT d), .sh (.int (h : Nat)), .sh (.int (v : Nat)), .sh (.lst ((allSq h v).map sqT)), ey, ex, et, eb, el, er, etb, .sh (.lst (sm.map sqT)), .sh (.lst ((sm.take 1).map sqT)), .sh (.lst (((turnN sm sm.length).1).map partT)), .sh (.lst (((turnN sm sm.length).2).map sqT)), a, b, c, .no, .no, .no, .no, .no, .no, .no, .no, .no]) := by
  refine Exists.elim (ForR.some (S := lawS P w K mg base) (tg := match bS 16 with | .For t _ _ _ _ => t | _ => .Constant .none 0 ⟨0, 0, 0, 0⟩) (body := tB) (toT := fun k : Nat => T.int (0 + (k : Int))) (G := fun pre F => ∃ a b c, nw a ∧ nw b ∧ nw c ∧ F = [.no, .ow (dT d), .sh (.int (h : Nat)), .sh (.int (v : Nat)), .sh (.lst ((allSq h v).map sqT)), ey, ex, et, eb, el, er, etb, .sh (.lst (sm.map sqT)), .sh (.lst ((sm.take 1).map sqT)), .sh (.lst (((turnN sm pre.length).1).map partT)), .sh (.lst (((turnN sm pre.length).2).map sqT)), a, b, c, .no, .no, .no, .no, .no, .no, .no, .no, .no]) (xs := List.range sm.length) ?_ (F := [.no, .ow (dT d), .sh (.int (h : Nat)), .sh (.int (v : Nat)), .sh (.lst ((allSq h v).map sqT)), ey, ex, et, eb, el, er, etb, .sh (.lst (sm.map sqT)), .sh (.lst ((sm.take 1).map sqT)), .sh (.lst []), .sh (.lst (sm.map sqT)), .no, .no, .no, .no, .no, .no, .no, .no, .no, .no, .no, .no]) ⟨.no, .no, .no, nw_no, nw_no, nw_no, rfl⟩) ?_
  · rintro pre x post F eq ⟨a, b, c, ha, hb, hc, rfl⟩
    have pl : pre.length < sm.length := by
      have := congrArg List.length eq
      rw [List.length_append, List.length_range, List.length_cons] at this
      omega
    obtain ⟨t1, t2⟩ := turnN_len sm pre.length
    obtain ⟨b', c', hb', hc', st⟩ := turn_step T_ (P := P) (w := w) (base := base) ey ex et eb el er etb d h v sm (turnN sm pre.length).2 (turnN sm pre.length).1 (.sh (.int (0 + (x : Int)))) b c hb hc l0 (by omega) (by omega)
    have e : turnN sm (pre ++ [x]).length = turnT sm.length ((turnN sm pre.length).1, (turnN sm pre.length).2) := by rw [List.length_append]; rfl
    rw [e]
    exact ⟨_, [16], _, ag_name (i := 16) (by walk_at "so") (by walk_at "ln"), st, ⟨_, _, _, nw_sh, hb', hc', rfl⟩⟩
  · rintro F ⟨r, a, b, c, ha, hb, hc, rfl⟩
    rw [List.length_range] at r
    exact ⟨a, b, c, ha, hb, hc, sg_for (ts := (List.range sm.length).map fun k : Nat => T.int (0 + (k : Int))) (ig_range (n := (sm.length : Int)) (by walk_at "gl") T_.nRange (eg_to (eg_len .lst (by walk_at "gl") T_.nLen (eg_sh (i := 12) (by walk_at "vo") rfl)) (by rw [List.length_map]) rfl) (by omega)) r⟩
include T_ in
theorem b17_ok (d : Dc) (h v : Nat) (sm : List Sq) (l0 : sm.length ≤ 25) (nd : sm.Nodup) (hp : partsL sm = (turnN sm sm.length).1) (rest : List Sq) (a b c : Ent) : TtG (lawS P w K mg base) [.no, .ow (dT d), .sh (.int (h : Nat)), .sh (.int (v : Nat)), .sh (.lst ((allSq h v).map sqT)), ey, ex, et, eb, el, er, etb, .sh (.lst (sm.map sqT)), .sh (.lst ((sm.take 1).map sqT)), .sh (.lst ((partsL sm).map partT)), .sh (.lst ((rest).map sqT)), a, b, c, .no, .no, .no, .no, .no, .no, .no, .no, .no] (cond (bS 17)) false [.no, .ow (dT d), .sh (.int (h : Nat)), .sh (.int (v : Nat)), .sh (.lst ((allSq h v).map sqT)), ey, ex, et, eb, el, er, etb, .sh (.lst (sm.map sqT)), .sh (.lst ((sm.take 1).map sqT)), .sh (.lst ((partsL sm).map partT)), .sh (.lst ((rest).map sqT)), a, b, c, .no, .no, .no, .no, .no, .no, .no, .no, .no] := by
  have e : cutT (sm.map sqT) none (some 1) = (sm.take 1).map sqT := by
    cases sm with
    | nil => rfl
    | cons s sm => exact (cut_take (n := 1) (by simp)).trans (by rw [List.map_take])
  have e2 : decide (((((partsL sm).map partT).length : Nat) : Int) < 2) = decide ((partsL sm).length < 2) := by
    rw [List.length_map]
    by_cases q : (partsL sm).length < 2
    · rw [decide_eq_true q, decide_eq_true (by omega)]
    · rw [decide_eq_false q, decide_eq_false (by omega)]
  refine tt_to (tg_w (wg_or (pt_ne (n := 3) (dok_parts _) (dok_parts _) (eg_listS .tup (by walk_at "gl") T_.nList (eg_fn (T_.parts_of.ok rfl rfl) (by walk_at "gl") (parts_of_ok T_ sm (.inl rfl) nd (by omega)) (by walk_at "lv") (pas_cons (eg_sh (i := 12) (by walk_at "vo") rfl) eas_nil))) (eg_sh (i := 14) (by walk_at "vo") rfl)) fun _ => wg_or (pt_ne (n := 0) (t := .bl (decide ((partsL sm).length < 2))) (u := .bl (decide ((partsL sm).length < 2))) trivial trivial (eg_fn (T_.hangs.ok rfl rfl) (by walk_at "gl") (hangs_ok T_ sm (.inl rfl) nd (by omega)) (by walk_at "lv") (pas_cons (eg_sh (i := 12) (by walk_at "vo") rfl) eas_nil)) (eg_to (pg_lt (eg_len .lst (by walk_at "gl") T_.nLen (eg_sh (i := 14) (by walk_at "vo") rfl)) eg_int) (congrArg T.bl e2) rfl)) fun _ => wg_or1 (pt_ne (n := 2) (dok_sqs _) (dok_sqs _) (eg_sh (i := 13) (by walk_at "vo") rfl) (eg_to (eg_sliceL (lo := none) (m := none) (n := some 1) (eg_sh (i := 12) (by walk_at "vo") rfl) pa_no (pa_so eg_int)) (congrArg T.lst e) rfl)))) ?_
  rw [teq_refl (dok_parts _), teq_refl (dok_sqs _), teq_refl (n := 0) (t := .bl _) trivial]
  rfl

end
end K01
end Cw
end L2

set_option Elab.async false
set_option linter.all false
set_option maxRecDepth 100000
set_option maxHeartbeats 4000000
namespace L2
namespace Cw
namespace K01
open PySem PySem.Spec PyProof.Rows
local macro_rules | `(tactic| walk_at "vo") => `(tactic| exact ⟨rfl, by first | exact .inl rfl | exact .inr (.inl rfl) | exact .inr (.inr rfl), by decide, by decide⟩)
local macro_rules | `(tactic| walk_at "gl") => `(tactic| exact ⟨rfl, by decide⟩)
local macro_rules | `(tactic| walk_at "nd") => `(tactic| (dsimp only [SS.blk, defP]; decide +kernel))
local macro_rules | `(tactic| walk_at "so") => `(tactic| exact ⟨by walk_at "nd", rfl, by first | exact .inl rfl | exact .inr rfl, by first | exact .inl rfl | exact .inr rfl, by first | (dsimp only [SS.blk, defP, pins]; decide) | (simp [SS.blk, defP, pins, isOw, List.range_succ]; done)⟩)
local macro_rules | `(tactic| walk_at "bk") => `(tactic| exact blkOk_by (by walk_at "nd"))
local macro_rules | `(tactic| walk_at "ln") => `(tactic| (simp; done))
local macro_rules | `(tactic| walk_at "no") => `(tactic| (intro t; simp; done))
local macro_rules | `(tactic| walk_at "lv") => `(tactic| (dsimp only [SS.blk, defP]; decide))
local macro_rules | `(tactic| walk_at "sc") => `(tactic| exact ⟨rfl, rfl, rfl, by decide +kernel, rfl, by decide +kernel, by decide +kernel⟩)
/- a name's value -/
local macro_rules | `(tactic| walk_at "v") => `(tactic| first
  | exact eg_sh (i := 0) (by walk_at "vo") rfl | exact eg_sh (i := 1) (by walk_at "vo") rfl | exact eg_sh (i := 2) (by walk_at "vo") rfl | exact eg_sh (i := 3) (by walk_at "vo") rfl
  | exact eg_sh (i := 4) (by walk_at "vo") rfl | exact eg_sh (i := 5) (by walk_at "vo") rfl | exact eg_sh (i := 6) (by walk_at "vo") rfl | exact eg_sh (i := 7) (by walk_at "vo") rfl)
def dot : Str := Str.ofString "."
/-- the numbers that are drawn -/
def numG (d : Dc) (s : Sq) : (Sq × Int) × Dc := ((s, (roll d 10).1), (roll d 10).2)
def numD (sm : List Sq) (d : Dc) : List (Sq × Int) := (thr numG sm d).1
def numE (sm : List Sq) (d : Dc) : Dc := (thr numG sm d).2
theorem num_fst : ∀ (sm : List Sq) (d : Dc), (numD sm d).map (·.1) = sm
  | [], d => rfl
  | s :: sm, d => congrArg (List.cons s) (num_fst sm (roll d 10).2)
theorem num_small (sm : List Sq) (d : Dc) : smallN (numD sm d) := thr_all (p := fun x : Sq × Int => 0 ≤ x.2 ∧ x.2 < 10) (fun s a => roll_lt s (by decide)) sm d
theorem intP_fst (ns : List (Sq × Int)) : (intP ns).map (·.1) = ns.map (·.1) := by unfold intP; rw [List.map_map]; rfl
theorem deq_refl {ps : List (Sq × T)} {n : Nat} (nd : (ps.map (·.1)).Nodup) (ok : ∀ p ∈ ps, DOk n p.2) : deq (tabP ps) (tabP ps) = true := by
  unfold deq
  rw [Bool.and_eq_true]
  refine ⟨by simp, List.all_eq_true.mpr fun x hx => ?_⟩
  unfold tabP at hx
  obtain ⟨p, hp, rfl⟩ := List.mem_map.mp hx
  have g : getN (tabP ps) (.tup (sqK p.1)) = some p.2 := (tab_get ps p.1).trans (atS_mem nd hp)
  rw [has1_at (p := (NestedKey.tup (sqK p.1), p.2)) g]
  exact teq_refl (ok p hp)
/-- rows told are read again -/
theorem fold_put : ∀ (qs : List Sq) (f : Sq → Option Int) (ps : List (Sq × T)), qs.Nodup → (∀ q ∈ qs, q ∉ ps.map (·.1)) → qs.foldl (fun ps q => match f q with | none => ps | some n => putS ps q (.int n)) ps = ps ++ (qs.filterMap fun q => (f q).map fun n => (q, n)).map fun x => (x.1, .int x.2)
  | [], f, ps, _, _ => by simp
  | q :: qs, f, ps, nd, no => by
    rw [List.nodup_cons] at nd
    rw [List.foldl_cons]
    cases h : f q with
    | none =>
      rw [List.filterMap_cons_none (by rw [h]; rfl)]
      exact fold_put qs f ps nd.2 fun p hp => no p (List.mem_cons_of_mem _ hp)
    | some n =>
      have e : putS ps q (.int n) = ps ++ [(q, .int n)] := by unfold putS; rw [if_neg (no q List.mem_cons_self)]
      have hh : (f q).map (fun n => (q, n)) = some (q, n) := by rw [h]; rfl
      rw [List.filterMap_cons_some (f := fun q => (f q).map fun n => (q, n)) hh, List.map_cons]
      show qs.foldl _ (putS ps q (.int n)) = _
      rw [e, fold_put qs f _ nd.2 fun p hp z => ?_, List.append_assoc]
      · rfl
      · rw [List.map_append] at z
        rcases List.mem_append.mp z with z | z
        · exact no p (List.mem_cons_of_mem _ hp) z
        · rw [List.map_cons, List.map_nil, List.mem_singleton] at z
          exact nd.1 ((show p = q from z) ▸ hp)
theorem filter_back : ∀ {L ks : List Sq} (ns : List (Sq × Int)), ks.Sublist L → ns.map (·.1) = ks → L.Nodup → (L.filterMap fun q => (atS ns q).map fun n => (q, n)) = ns
  | _, _, ns, .slnil, e, _ => by
    cases ns with
    | nil => rfl
    | cons => cases e
  | a :: L, _, ns, .cons _ h, e, nd => by
    rw [List.nodup_cons] at nd
    have no : atS ns a = none := atS_none.mpr fun z => nd.1 (h.subset (by rw [← e]; exact z))
    rw [List.filterMap_cons_none (by rw [no]; rfl)]
    exact filter_back ns h e nd.2
  | a :: L, _ :: _, (b, n) :: ns, .cons_cons _ h, e, nd => by
    rw [List.nodup_cons] at nd
    rw [List.map_cons] at e
    injection e with e1 e2
    subst e1
    have at_ : atS ((b, n) :: ns) b = some n := by unfold atS; rw [if_pos rfl]
    have hh : (atS ((b, n) :: ns) b).map (fun n => (b, n)) = some (b, n) := by rw [at_]; rfl
    rw [List.filterMap_cons_some (f := fun q => (atS ((b, n) :: ns) q).map fun n => (q, n)) hh]
    have same : ∀ M : List Sq, (∀ q ∈ M, q ≠ b) → (M.filterMap fun q => (atS ((b, n) :: ns) q).map fun n => (q, n)) = M.filterMap fun q => (atS ns q).map fun n => (q, n) := fun M => by
      induction M with
      | nil => intro _; rfl
      | cons q M ih =>
        intro hM
        have ne : ¬ b = q := fun z => hM q List.mem_cons_self z.symm
        have e3 : atS ((b, n) :: ns) q = atS ns q := by
          show (if b = q then some n else atS ns q) = _
          rw [if_neg ne]
        rw [List.filterMap_cons, List.filterMap_cons, e3, ih fun p hp => hM p (List.mem_cons_of_mem _ hp)]
    have tail := same L fun q hq z => nd.1 (by rw [← z]; exact hq)
    exact congrArg (List.cons (b, n)) (tail.trans (filter_back ns h e2 nd.2))
theorem dig_facts {n : Int} (h : 0 ≤ n ∧ n < 10) : digS n ≠ dot ∧ PySem.intText? (digS n) = some n ∧ PyData.strOk (digS n) = true ∧ inS (digS n) figS = true := by
  have e : n = ((n.toNat : Nat) : Int) := by omega
  rw [e]
  have q : n.toNat < 10 := by omega
  generalize n.toNat = m at q
  have all : ∀ m : _root_.Fin 10, digS (m.val : Int) ≠ dot ∧ PySem.intText? (digS (m.val : Int)) = some (m.val : Int) ∧ PyData.strOk (digS (m.val : Int)) = true ∧ inS (digS (m.val : Int)) figS = true := by decide +kernel
  exact all ⟨m, q⟩
theorem dot_ok : PyData.strOk dot = true ∧ dot.length = 1 := by decide +kernel
theorem told_signs {ns : List (Sq × Int)} (sm : smallN ns) (v y : Nat) : signs (flatS (toldRow ns dot v y)) = toldRow ns dot v y := signs_flat fun s hs => by
  obtain ⟨x, _, rfl⟩ := List.mem_map.mp hs
  exact signAt_len sm dot_ok.2 _
theorem sign_good {ns : List (Sq × Int)} (sm : smallN ns) (p : Sq) : goodS dot (signAt ns dot p) := by
  unfold signAt
  cases h : atS ns p with
  | none => exact ⟨dot_ok.1, by rw [dot_ok.2]; decide, .inl rfl⟩
  | some n =>
    have := dig_facts (sm _ (atS_of h))
    have hl := dig_len (sm _ (atS_of h))
    exact ⟨this.2.2.1, by show (digS n).length ≤ 640; rw [hl]; decide, .inr ⟨this.2.2.2, by show (PySem.intText? (digS n)).isSome = true; rw [this.2.1]; rfl⟩⟩
theorem told_form {ns : List (Sq × Int)} (sm : smallN ns) (h v : Nat) : RowsOk (toldL ns dot h v) h v := by
  refine ⟨by unfold toldL; rw [List.length_map, List.length_range], fun r hr => ?_, fun r hr s hs => ?_⟩
  · obtain ⟨y, _, rfl⟩ := List.mem_map.mp hr
    rw [flat_len (fun s hs => by
      obtain ⟨x, _, rfl⟩ := List.mem_map.mp hs
      exact signAt_len sm dot_ok.2 _)]
    unfold toldRow
    rw [List.length_map]
    rw [List.length_range]
  · obtain ⟨y, _, rfl⟩ := List.mem_map.mp hr
    rw [told_signs sm] at hs
    obtain ⟨x, _, rfl⟩ := List.mem_map.mp hs
    exact (sign_good sm _).1
theorem read_told {ns : List (Sq × Int)} (sm : smallN ns) (h v : Nat) (sub : (ns.map (·.1)).Sublist (allSq h v)) (nd : (allSq h v).Nodup) : readL dot (toldL ns dot h v) = intP ns := by
  have step : ∀ (y : Nat) (xs : List Nat) (ps : List (Sq × T)), ((xs.map fun x : Nat => (signAt ns dot (0 + (y : Int), 0 + (x : Int)), x)).foldl (readStep dot y) ps) = (xs.map fun x : Nat => ((0 + (y : Int), 0 + (x : Int)) : Sq)).foldl (fun ps q => match atS ns q with | none => ps | some n => putS ps q (.int n)) ps := fun y xs => by
    induction xs with
    | nil => intro ps; rfl
    | cons x xs ih =>
      intro ps
      rw [List.map_cons, List.map_cons, List.foldl_cons, List.foldl_cons]
      have e : readStep dot y ps (signAt ns dot (0 + (y : Int), 0 + (x : Int)), x) = (match atS ns (0 + (y : Int), 0 + (x : Int)) with | none => ps | some n => putS ps (0 + (y : Int), 0 + (x : Int)) (.int n)) := by
        unfold readStep signAt
        cases q : atS ns (0 + (y : Int), 0 + (x : Int)) with
        | none => exact if_pos rfl
        | some n =>
          have f := dig_facts (sm _ (atS_of q))
          show (if digS n = dot then ps else putS ps ((y : Int), (x : Int)) (.int ((PySem.intText? (digS n)).getD 0))) = putS ps (0 + (y : Int), 0 + (x : Int)) (.int n)
          rw [if_neg f.1, f.2.1, Int.zero_add, Int.zero_add]
          rfl
      rw [e]
      exact ih _
  have rows : ∀ (hs : List Nat) (ps : List (Sq × T)), ((hs.map fun y : Nat => (flatS (toldRow ns dot v y), y)).foldl (readRow dot) ps) = (hs.flatMap fun y : Nat => (List.range v).map fun x : Nat => ((0 + (y : Int), 0 + (x : Int)) : Sq)).foldl (fun ps q => match atS ns q with | none => ps | some n => putS ps q (.int n)) ps := fun hs => by
    induction hs with
    | nil => intro ps; rfl
    | cons y hs ih =>
      intro ps
      rw [List.map_cons, List.foldl_cons, List.flatMap_cons, List.foldl_append, ih]
      congr 1
      show (signs (flatS (toldRow ns dot v y))).zipIdx.foldl (readStep dot y) ps = _
      rw [told_signs sm]
      unfold toldRow
      rw [zip_range]
      exact step y _ ps
  unfold readL toldL
  rw [zip_range, rows]
  have e : ((List.range h).flatMap fun y : Nat => (List.range v).map fun x : Nat => ((0 + (y : Int), 0 + (x : Int)) : Sq)) = allSq h v := by unfold allSq; rw [Int.toNat_natCast, Int.toNat_natCast]
  rw [e, fold_put _ _ _ nd fun _ _ z => by simp at z]
  have fb := filter_back ns sub rfl nd
  show [] ++ ((allSq h v).filterMap fun q => (atS ns q).map fun n => (q, n)).map (fun x => (x.1, T.int x.2)) = intP ns
  rw [fb]
  rfl
section
variable {P : Program} {w : World} {K : PySem.W.Frag} {mg : Str → Option Value} {base : Heap} (T_ : Tx K mg)
variable (ey ex et eb el er etb e13 e14 e15 e16 e17 e18 : Ent)
include T_ in
theorem b18_ok (d : Dc) (h v : Nat) (sm : List Sq) (l0 : sm.length ≤ 25) (nd : sm.Nodup) : SG (lawS P w K mg base) [.no, .ow (dT d), .sh (.int (h : Nat)), .sh (.int (v : Nat)), .sh (.lst ((allSq h v).map sqT)), ey, ex, et, eb, el, er, etb, .sh (.lst (sm.map sqT)), e13, e14, e15, e16, e17, e18, .no, .no, .no, .no, .no, .no, .no, .no, .no] (bS 18) (.nx [.no, .ow (dT (numE sm d)), .sh (.int (h : Nat)), .sh (.int (v : Nat)), .sh (.lst ((allSq h v).map sqT)), ey, ex, et, eb, el, er, etb, .sh (.lst (sm.map sqT)), e13, e14, e15, e16, e17, e18, .sh (tabT w (intP (numD sm d))), .no, .no, .no, .no, .no, .no, .no, .no]) := by
  have nd2 : ((intP (numD sm d)).map (·.1)).Nodup := by rw [intP_fst, num_fst]; exact nd
  have ln : (numD sm d).length = sm.length := by unfold numD; rw [thr_len]
  rw [← tab_merge nd2]
  have e : ((numD sm d).map fun x => T.tup [sqT x.1, .int x.2]) = ((intP (numD sm d)).map fun x => (sqK x.1, x.2)).map pairT := by
    unfold intP
    rewrite [List.map_map, List.map_map]
    rfl
  refine sg_nx (sg_set (i := 19) (by walk_at "so") (eg_dictN (by walk_at "gl") T_.nDict (eg_to (LcD.eg (lcT (Ev := fun d => [.no, .ow (dT d), .sh (.int (h : Nat)), .sh (.int (v : Nat)), .sh (.lst ((allSq h v).map sqT)), ey, ex, et, eb, el, er, etb, .sh (.lst (sm.map sqT)), e13, e14, e15, e16, e17, e18, .no, .no, .no, .no, .no, .no, .no, .no, .no]) (g := numG) (f := fun x : Sq × Int => T.tup [sqT x.1, .int x.2]) (xs := sm) (toT := sqT) (i := 22) d (by walk_at "bk") (by walk_at "nd") (by walk_at "so") (fun _ => by walk_at "ln") (fun _ _ => rfl) (by walk_at "no") (by omega) (pg_iter .lst (eg_sh (i := 12) (by walk_at "vo") rfl)) fun s _ d' => ?_)) (congrArg T.lst e) rfl) (fun p hp => ?_) (by rw [List.length_map]; unfold intP; rw [List.length_map, ln]; omega)) (by walk_at "ln")) rfl
  · exact eg_tup (eas_cons (eg_sh (i := 22) (by walk_at "vo") rfl) (eas_cons (eg_roll T_ (i := 1) (d := d') (m := 10) rfl rfl rfl rfl rfl (by walk_at "lv") (by walk_at "vo") (by walk_at "gl") rfl eg_int ⟨by decide, by decide⟩) eas_nil)) (show 2 ≤ 16777216 by decide)
  · obtain ⟨x, _, rfl⟩ := List.mem_map.mp hp
    exact sqK_depth x.1
include T_ in
theorem b19_ok (d : Dc) (h v : Nat) (hh : h < 6 ∧ v < 6) (sm : List Sq) (ns : List (Sq × Int)) (sn : smallN ns) : SG (lawS P w K mg base) [.no, .ow (dT d), .sh (.int (h : Nat)), .sh (.int (v : Nat)), .sh (.lst ((allSq h v).map sqT)), ey, ex, et, eb, el, er, etb, .sh (.lst (sm.map sqT)), e13, e14, e15, e16, e17, e18, .sh (tabT w (intP ns)), .no, .no, .no, .no, .no, .no, .no, .no] (bS 19) (.nx [.no, .ow (dT d), .sh (.int (h : Nat)), .sh (.int (v : Nat)), .sh (.lst ((allSq h v).map sqT)), ey, ex, et, eb, el, er, etb, .sh (.lst (sm.map sqT)), e13, e14, e15, e16, e17, e18, .sh (tabT w (intP ns)), .sh (.tup ((toldL ns dot h v).map T.str)), .no, .no, .no, .no, .no, .no, .no]) :=
  sg_nx (sg_set (i := 20) (by walk_at "so") (eg_fnD (dts := [.str dot]) (dvs := [.str dot]) (T_.told.ok rfl rfl) (by walk_at "gl") (told_ok T_ ns h v dot sn dot_ok.2 (by omega)) (by walk_at "lv") (.cons ⟨_, rfl⟩ .nil) (fun _ => .cons (rep_str.mpr rfl) .nil) (pas_cons (eg_sh (i := 19) (by walk_at "vo") rfl) (pas_cons (eg_sh (i := 2) (by walk_at "vo") rfl) (pas_cons (eg_sh (i := 3) (by walk_at "vo") rfl) eas_nil)))) (by walk_at "ln")) rfl

end
end K01
end Cw
end L2

set_option Elab.async false
set_option linter.all false
set_option maxRecDepth 100000
set_option maxHeartbeats 4000000
namespace L2
namespace Cw
namespace K01
open PySem PySem.Spec PyProof.Rows
local macro_rules | `(tactic| walk_at "vo") => `(tactic| exact ⟨rfl, by first | exact .inl rfl | exact .inr (.inl rfl) | exact .inr (.inr rfl), by decide, by decide⟩)
local macro_rules | `(tactic| walk_at "gl") => `(tactic| exact ⟨rfl, by decide⟩)
local macro_rules | `(tactic| walk_at "nd") => `(tactic| (dsimp only [SS.blk, defP]; decide +kernel))
local macro_rules | `(tactic| walk_at "so") => `(tactic| exact ⟨by walk_at "nd", rfl, by first | exact .inl rfl | exact .inr rfl, by first | exact .inl rfl | exact .inr rfl, by first | (dsimp only [SS.blk, defP, pins]; decide) | (simp [SS.blk, defP, pins, isOw, List.range_succ]; done)⟩)
local macro_rules | `(tactic| walk_at "bk") => `(tactic| exact blkOk_by (by walk_at "nd"))
local macro_rules | `(tactic| walk_at "ln") => `(tactic| (simp; done))
local macro_rules | `(tactic| walk_at "no") => `(tactic| (intro t; simp; done))
local macro_rules | `(tactic| walk_at "lv") => `(tactic| (dsimp only [SS.blk, defP]; decide))
local macro_rules | `(tactic| walk_at "sc") => `(tactic| exact ⟨rfl, rfl, rfl, by decide +kernel, rfl, by decide +kernel, by decide +kernel⟩)
/- a name's value -/
local macro_rules | `(tactic| walk_at "v") => `(tactic| first
  | exact eg_sh (i := 0) (by walk_at "vo") rfl | exact eg_sh (i := 1) (by walk_at "vo") rfl | exact eg_sh (i := 2) (by walk_at "vo") rfl | exact eg_sh (i := 3) (by walk_at "vo") rfl
  | exact eg_sh (i := 4) (by walk_at "vo") rfl | exact eg_sh (i := 5) (by walk_at "vo") rfl | exact eg_sh (i := 6) (by walk_at "vo") rfl | exact eg_sh (i := 7) (by walk_at "vo") rfl)
theorem strOk_flat {ss : List Str} (h : ∀ s ∈ ss, PyData.strOk s = true) : PyData.strOk (flatS ss) = true := by
  have e : ∀ s : Str, PyData.strOk s = true ↔ ∀ c ∈ s.cps.toList, decide (c < 0x110000) = true := fun s => by
    unfold PyData.strOk
    rw [← Array.all_toList]
    rw [List.all_eq_true]
  rw [e]
  intro c hc
  unfold flatS at hc
  rw [List.toList_toArray] at hc
  obtain ⟨s, hs, hc⟩ := List.mem_flatMap.mp hc
  exact (e s).mp (h s hs) c hc
theorem told_ok1 {ns : List (Sq × Int)} (sm : smallN ns) (h v : Nat) : ∀ r ∈ toldL ns dot h v, PyData.strOk r = true := fun r hr => by
  obtain ⟨y, _, rfl⟩ := List.mem_map.mp hr
  refine strOk_flat fun s hs => ?_
  obtain ⟨x, _, rfl⟩ := List.mem_map.mp hs
  exact (sign_good sm _).1
theorem dok_strs {ss : List Str} (h : ∀ s ∈ ss, PyData.strOk s = true) : DOk 1 (.lst (ss.map T.str)) ∧ DOk 1 (.tup (ss.map T.str)) := ⟨fun t ht => by
  obtain ⟨s, hs, rfl⟩ := List.mem_map.mp ht
  exact h s hs, fun t ht => by
  obtain ⟨s, hs, rfl⟩ := List.mem_map.mp ht
  exact h s hs⟩
theorem intP_dok (ns : List (Sq × Int)) (f : Sq → Sq) : ∀ p ∈ tabP ((intP ns).map fun x => (f x.1, x.2)), DOk 0 p.2 := fun p hp => by
  unfold tabP intP at hp
  rw [List.map_map, List.map_map] at hp
  rcases List.mem_map.mp hp with ⟨x, _, rfl⟩
  trivial
theorem intP_id (ns : List (Sq × Int)) : ((intP ns).map fun x => (id x.1, x.2)) = intP ns := by simp
theorem moved_nd {ns : List (Sq × Int)} (nd : (ns.map (·.1)).Nodup) {f : Sq → Sq} (inj : ∀ a b, f a = f b → a = b) : (((intP ns).map fun x => (f x.1, x.2)).map (·.1)).Nodup := by
  rw [List.map_map]
  have e : (intP ns).map ((·.1) ∘ fun x : Sq × T => (f x.1, x.2)) = (ns.map (·.1)).map f := by unfold intP; rw [List.map_map, List.map_map]; rfl
  rw [e]
  exact List.Pairwise.map _ (fun a b n z => n (inj a b z)) nd
theorem turnS_inj (h : Int) (a b : Sq) (z : turnS h a = turnS h b) : a = b := by
  obtain ⟨a1, a2⟩ := a
  obtain ⟨b1, b2⟩ := b
  simp only [turnS, Prod.mk.injEq] at z ⊢
  omega
theorem mirrS_inj (h : Int) (a b : Sq) (z : mirrS h a = mirrS h b) : a = b := by
  obtain ⟨a1, a2⟩ := a
  obtain ⟨b1, b2⟩ := b
  simp only [mirrS, Prod.mk.injEq] at z ⊢
  omega
theorem intP_len (ns : List (Sq × Int)) : (intP ns).length = ns.length := List.length_map _
theorem four_turns (ns : List (Sq × Int)) (h v : Int) : (((((intP ns).map fun x => (turnS h x.1, x.2)).map fun x => (turnS v x.1, x.2)).map fun x => (turnS h x.1, x.2)).map fun x => (turnS v x.1, x.2)) = intP ns := by
  simp only [List.map_map]
  conv => rhs; rw [← List.map_id (intP ns)]
  apply List.map_congr_left
  intro x _
  obtain ⟨⟨a, b⟩, t⟩ := x
  have e1 : h - 1 - (h - 1 - a) = a := by omega
  have e2 : v - 1 - (v - 1 - b) = b := by omega
  show ((h - 1 - (h - 1 - a), v - 1 - (v - 1 - b)), t) = ((a, b), t)
  rw [e1, e2]
theorem two_mirrors (ns : List (Sq × Int)) (v : Int) : (((intP ns).map fun x => (mirrS v x.1, x.2)).map fun x => (mirrS v x.1, x.2)) = intP ns := by
  simp only [List.map_map]
  conv => rhs; rw [← List.map_id (intP ns)]
  apply List.map_congr_left
  intro x _
  obtain ⟨⟨a, b⟩, t⟩ := x
  have e2 : v - 1 - (v - 1 - b) = b := by omega
  show ((a, v - 1 - (v - 1 - b)), t) = ((a, b), t)
  rw [e2]
section
variable {P : Program} {w : World} {K : PySem.W.Frag} {mg : Str → Option Value} {base : Heap} (T_ : Tx K mg)
variable (ey ex et eb el er etb e13 e14 e15 e16 e17 e18 : Ent)
include T_ in
theorem b20_ok (d : Dc) (h v : Nat) (hh : 0 < h ∧ h < 6 ∧ 0 < v ∧ v < 6) (sm : List Sq) (ns : List (Sq × Int)) (sn : smallN ns) (sub : (ns.map (·.1)).Sublist (allSq h v)) (nd : (allSq h v).Nodup) : TtG (lawS P w K mg base) [.no, .ow (dT d), .sh (.int (h : Nat)), .sh (.int (v : Nat)), .sh (.lst ((allSq h v).map sqT)), ey, ex, et, eb, el, er, etb, .sh (.lst (sm.map sqT)), e13, e14, e15, e16, e17, e18, .sh (tabT w (intP ns)), .sh (.tup ((toldL ns dot h v).map T.str)), .no, .no, .no, .no, .no, .no, .no] (cond (bS 20)) false [.no, .ow (dT d), .sh (.int (h : Nat)), .sh (.int (v : Nat)), .sh (.lst ((allSq h v).map sqT)), ey, ex, et, eb, el, er, etb, .sh (.lst (sm.map sqT)), e13, e14, e15, e16, e17, e18, .sh (tabT w (intP ns)), .sh (.tup ((toldL ns dot h v).map T.str)), .no, .no, .no, .no, .no, .no, .no] := by
  have nd2 : ((intP ns).map (·.1)).Nodup := by rw [intP_fst]; exact nd.sublist sub
  have ok1 := told_ok1 sn h v
  have rt := read_told sn h v sub nd
  have fm := told_form sn h v
  have lens : (∀ y ∈ toldL ns dot h v, y.length ≤ 100) ∧ (toldL ns dot h v).length ≤ 100 := row_lens fm (by omega)
  have dq : deq (tabP (intP ns)) (tabP (intP ns)) = true := deq_refl (n := 0) nd2 fun p hp => by
    unfold intP at hp
    rcases List.mem_map.mp hp with ⟨x, _, rfl⟩
    trivial
  have dk : ∀ p ∈ tabP (intP ns), DOk 0 p.2 := by have := intP_dok ns id; rwa [intP_id] at this
  have rd := read_ok T_ (P := P) (w := w) (base := base) (toldL ns dot h v) dot (q := .tup ((toldL ns dot h v).map T.str)) (.inr rfl) lens.1 lens.2 (fm.fine (by omega)) (fun y hy s hs => by
    obtain ⟨y, _, rfl⟩ := List.mem_map.mp hy
    rw [told_signs sn] at hs
    obtain ⟨x, _, rfl⟩ := List.mem_map.mp hs
    exact sign_good sn _) dot_ok.1
  rw [rt] at rd
  refine tt_to (tg_w (wg_or (pt_ne (n := 1) (t := .lst ((toldL ns dot h v).map T.str)) (u := .lst ((toldL ns dot h v).map T.str)) (dok_strs ok1).1 (dok_strs ok1).1 (eg_listS .tup (by walk_at "gl") T_.nList (eg_sh (i := 20) (by walk_at "vo") rfl)) ?_) fun _ => wg_or (tt_c (cmpN (E1 := [.no, .ow (dT d), .sh (.int (h : Nat)), .sh (.int (v : Nat)), .sh (.lst ((allSq h v).map sqT)), ey, ex, et, eb, el, er, etb, .sh (.lst (sm.map sqT)), e13, e14, e15, e16, e17, e18, .sh (tabT w (intP ns)), .sh (.tup ((toldL ns dot h v).map T.str)), .no, .no, .no, .no, .no, .no, .no]) (n := 0) (.inr ⟨rfl, rfl⟩) (by decide) (da_sh (eg_fnD (dts := [.str dot]) (dvs := [.str dot]) (T_.read.ok rfl rfl) (by walk_at "gl") rd (by walk_at "lv") (.cons ⟨_, rfl⟩ .nil) (fun _ => .cons (rep_str.mpr rfl) .nil) (pas_cons (eg_sh (i := 20) (by walk_at "vo") rfl) eas_nil))) (da_sh (eg_sh (i := 19) (by walk_at "vo") rfl)) dk dk)) fun _ => wg_or1 (pt_ne (n := 1) (dok_strs ok1).2 (dok_strs ok1).2 (eg_fn (T_.check_rows.ok rfl rfl) (by walk_at "gl") (check_rows_ok T_ (toldL ns dot h v) (.inr rfl) (fun y hy => Nat.le_trans (lens.1 y hy) (by decide)) (by omega) (fm.fine (by omega))) (by walk_at "lv") (pas_cons (eg_sh (i := 20) (by walk_at "vo") rfl) eas_nil)) (eg_tupleT (by walk_at "gl") T_.nTuple (eg_sh (i := 20) (by walk_at "vo") rfl))))) ?_
  · unfold toldL
    rw [List.map_map]
    refine (lcN (α := Nat) (toT := fun y => T.int (0 + (y : Nat))) (f := T.str ∘ fun y : Nat => flatS (toldRow ns dot v y)) (xs := List.range h) (i := 25) (by walk_at "bk") (by walk_at "nd") (by walk_at "so") (by walk_at "ln") (by walk_at "no") (by rw [List.length_range]; omega) (ig_range (n := (h : Int)) (by walk_at "gl") T_.nRange (eg_sh (i := 2) (by walk_at "vo") rfl) (by omega)) fun y _ => ?_).eg
    refine eg_joinOnes (fun s hs => by
      obtain ⟨x, _, rfl⟩ := List.mem_map.mp hs
      exact signAt_len sn dot_ok.2 _) (by unfold toldRow; rw [List.length_map, List.length_range]; omega) ?_
    unfold toldRow
    rw [List.map_map]
    refine (lcN (α := Nat) (toT := fun x => T.int (0 + (x : Nat))) (f := T.str ∘ fun x : Nat => signAt ns dot (0 + (y : Int), 0 + (x : Int))) (xs := List.range v) (i := 26) (by walk_at "bk") (by walk_at "nd") (by walk_at "so") (by walk_at "ln") (by walk_at "no") (by rw [List.length_range]; omega) (ig_range (n := (v : Int)) (by walk_at "gl") T_.nRange (eg_sh (i := 3) (by walk_at "vo") rfl) (by omega)) fun x _ => ?_).eg
    have gt := (tab_get (intP ns) (0 + (y : Int), 0 + (x : Int))).trans (atS_int ns (0 + (y : Int), 0 + (x : Int)))
    refine eg_to (eg_if (t := .str (digS ((atS ns (0 + (y : Int), 0 + (x : Int))).getD 0))) (u := .str dot) (tt_c (cg_inN (l := tabP (intP ns)) (ks := sqK (0 + (y : Int), 0 + (x : Int))) (kt := sqT (0 + (y : Int), 0 + (x : Int))) (pg_tup2 (eg_sh (i := 25) (by walk_at "vo") rfl) (eg_sh (i := 26) (by walk_at "vo") rfl)) (da_sh (eg_sh (i := 19) (by walk_at "vo") rfl)) (keyT_self _) (sqK_depth _))) (fun hd => ?_) fun _ => eg_str) ?_ rfl
    · cases q : atS ns (0 + (y : Int), 0 + (x : Int)) with
      | none => rw [gt, q] at hd; cases hd
      | some n =>
        rw [q] at gt
        exact eg_strI (by walk_at "gl") T_.nStr (eg_getN (kt := sqT (0 + (y : Int), 0 + (x : Int))) (da_sh (eg_sh (i := 19) (by walk_at "vo") rfl)) (pg_tup2 (eg_sh (i := 25) (by walk_at "vo") rfl) (eg_sh (i := 26) (by walk_at "vo") rfl)) (keyT_self _) (sqK_depth _) gt) (dig_small (sn _ (atS_of q)))
    · show _ = T.str (signAt ns dot (0 + (y : Int), 0 + (x : Int)))
      unfold signAt
      rw [gt]
      cases atS ns (0 + (y : Int), 0 + (x : Int)) <;> rfl
  · rw [teq_refl (dok_strs ok1).1, teq_refl (dok_strs ok1).2, dq]
    rfl

end
end K01
end Cw
end L2

set_option Elab.async false
set_option linter.all false
set_option maxRecDepth 100000
set_option maxHeartbeats 4000000
namespace L2
namespace Cw
namespace K01
open PySem PySem.Spec PyProof.Rows
local macro_rules | `(tactic| walk_at "vo") => `(tactic| exact ⟨rfl, by first | exact .inl rfl | exact .inr (.inl rfl) | exact .inr (.inr rfl), by decide, by decide⟩)
local macro_rules | `(tactic| walk_at "gl") => `(tactic| exact ⟨rfl, by decide⟩)
local macro_rules | `(tactic| walk_at "nd") => `(tactic| (dsimp only [SS.blk, defP]; decide +kernel))
local macro_rules | `(tactic| walk_at "so") => `(tactic| exact ⟨by walk_at "nd", rfl, by first | exact .inl rfl | exact .inr rfl, by first | exact .inl rfl | exact .inr rfl, by first | (dsimp only [SS.blk, defP, pins]; decide) | (simp [SS.blk, defP, pins, isOw, List.range_succ]; done)⟩)
local macro_rules | `(tactic| walk_at "bk") => `(tactic| exact blkOk_by (by walk_at "nd"))
local macro_rules | `(tactic| walk_at "ln") => `(tactic| (simp; done))
local macro_rules | `(tactic| walk_at "no") => `(tactic| (intro t; simp; done))
local macro_rules | `(tactic| walk_at "lv") => `(tactic| (dsimp only [SS.blk, defP]; decide))
local macro_rules | `(tactic| walk_at "sc") => `(tactic| exact ⟨rfl, rfl, rfl, by decide +kernel, rfl, by decide +kernel, by decide +kernel⟩)
/- a name's value -/
local macro_rules | `(tactic| walk_at "v") => `(tactic| first
  | exact eg_sh (i := 0) (by walk_at "vo") rfl | exact eg_sh (i := 1) (by walk_at "vo") rfl | exact eg_sh (i := 2) (by walk_at "vo") rfl | exact eg_sh (i := 3) (by walk_at "vo") rfl
  | exact eg_sh (i := 4) (by walk_at "vo") rfl | exact eg_sh (i := 5) (by walk_at "vo") rfl | exact eg_sh (i := 6) (by walk_at "vo") rfl | exact eg_sh (i := 7) (by walk_at "vo") rfl)
theorem keys_sq (ns : List (Sq × Int)) : (ns.map fun x => sqT x.1) = (tabP (intP ns)).map fun x => keyT x.1 := by
  unfold tabP intP
  rewrite [List.map_map, List.map_map]
  rfl
theorem map_nd {ps : List (Sq × T)} (nd : (ps.map (·.1)).Nodup) {f : Sq → Sq} (inj : ∀ a b, f a = f b → a = b) : ((ps.map fun x => (f x.1, x.2)).map (·.1)).Nodup := by
  rw [List.map_map]
  have e : ps.map ((·.1) ∘ fun x : Sq × T => (f x.1, x.2)) = (ps.map (·.1)).map f := by rw [List.map_map]; rfl
  rw [e]
  exact List.Pairwise.map _ (fun a b n z => n (inj a b z)) nd
theorem moved_dok {ps : List (Sq × T)} (h : ∀ p ∈ ps, DOk 0 p.2) (f : Sq → Sq) : ∀ p ∈ ps.map fun x => (f x.1, x.2), DOk 0 p.2 := fun p hp => by
  obtain ⟨x, hx, rfl⟩ := List.mem_map.mp hp
  exact h x hx
theorem tabP_dok {ps : List (Sq × T)} (h : ∀ p ∈ ps, DOk 0 p.2) : ∀ p ∈ tabP ps, DOk 0 p.2 := fun p hp => by
  obtain ⟨x, hx, rfl⟩ := List.mem_map.mp hp
  exact h x hx
theorem intP_ok0 (ns : List (Sq × Int)) : ∀ p ∈ intP ns, DOk 0 p.2 := fun p hp => by
  rcases List.mem_map.mp hp with ⟨x, _, rfl⟩
  trivial
theorem dict_moved {w : World} {ns : List (Sq × Int)} {f : Sq → Sq} (nd : (((intP ns).map fun x => (f x.1, x.2)).map (·.1)).Nodup) : dN w (mergeN [] ((intP ns).map fun x => (sqK (f x.1), x.2))) = tabT w ((intP ns).map fun x => (f x.1, x.2)) := by
  have := tab_merge (w := w) nd
  rw [List.map_map] at this
  exact this
section
variable {P : Program} {w : World} {K : PySem.W.Frag} {mg : Str → Option Value} {base : Heap} (T_ : Tx K mg)
variable (ey ex et eb el er etb e13 e14 e15 e16 e17 e18 : Ent)
include T_ in
theorem b21_ok (d : Dc) (h v : Nat) (sm : List Sq) (ns : List (Sq × Int)) (nd : (ns.map (·.1)).Nodup) (ln : ns.length ≤ 25) : SG (lawS P w K mg base) [.no, .ow (dT d), .sh (.int (h : Nat)), .sh (.int (v : Nat)), .sh (.lst ((allSq h v).map sqT)), ey, ex, et, eb, el, er, etb, .sh (.lst (sm.map sqT)), e13, e14, e15, e16, e17, e18, .sh (tabT w (intP ns)), .sh (.tup ((toldL ns dot h v).map T.str)), .no, .no, .no, .no, .no, .no, .no] (bS 21) (.nx [.no, .ow (dT d), .sh (.int (h : Nat)), .sh (.int (v : Nat)), .sh (.lst ((allSq h v).map sqT)), ey, ex, et, eb, el, er, etb, .sh (.lst (sm.map sqT)), e13, e14, e15, e16, e17, e18, .sh (tabT w (intP ns)), .sh (.tup ((toldL ns dot h v).map T.str)), .sh (tabT w ((intP ns).map fun x => (turnS h x.1, x.2))), .no, .no, .no, .no, .no, .no]) := by
  have n0 : ((intP ns).map (·.1)).Nodup := by rw [intP_fst]; exact nd
  exact sg_nx (sg_set (i := 21) (by walk_at "so") (eg_fn (T_.turned.ok rfl rfl) (by walk_at "gl") (turned_ok T_ (intP ns) h v n0 (by simp only [List.length_map, intP_len]; omega)) (by walk_at "lv") (pas_cons (eg_sh (i := 19) (by walk_at "vo") rfl) (pas_cons (eg_sh (i := 2) (by walk_at "vo") rfl) (pas_cons (eg_sh (i := 3) (by walk_at "vo") rfl) eas_nil)))) (by walk_at "ln")) rfl
include T_ in
theorem b22_ok (d : Dc) (h v : Nat) (sm : List Sq) (ns : List (Sq × Int)) (nd : (ns.map (·.1)).Nodup) (ln : ns.length ≤ 25) : TtG (lawS P w K mg base) [.no, .ow (dT d), .sh (.int (h : Nat)), .sh (.int (v : Nat)), .sh (.lst ((allSq h v).map sqT)), ey, ex, et, eb, el, er, etb, .sh (.lst (sm.map sqT)), e13, e14, e15, e16, e17, e18, .sh (tabT w (intP ns)), .sh (.tup ((toldL ns dot h v).map T.str)), .sh (tabT w ((intP ns).map fun x => (turnS h x.1, x.2))), .no, .no, .no, .no, .no, .no] (cond (bS 22)) false [.no, .ow (dT d), .sh (.int (h : Nat)), .sh (.int (v : Nat)), .sh (.lst ((allSq h v).map sqT)), ey, ex, et, eb, el, er, etb, .sh (.lst (sm.map sqT)), e13, e14, e15, e16, e17, e18, .sh (tabT w (intP ns)), .sh (.tup ((toldL ns dot h v).map T.str)), .sh (tabT w ((intP ns).map fun x => (turnS h x.1, x.2))), .no, .no, .no, .no, .no, .no] := by
  have n0 : ((intP ns).map (·.1)).Nodup := by rw [intP_fst]; exact nd
  have n1 := map_nd n0 (turnS_inj (h : Int))
  have n2 := map_nd n1 (turnS_inj (v : Int))
  have n3 := map_nd n2 (turnS_inj (h : Int))
  have o0 := intP_ok0 ns
  have o1 := moved_dok o0 (turnS (h : Int))
  have d1 := deq_refl n1 o1
  have d0 := deq_refl n0 o0
  have kn := keys_sq ns
  have ft := four_turns ns h v
  refine tt_to (tg_w (wg_or (tt_c (cmpN (E1 := [.no, .ow (dT d), .sh (.int (h : Nat)), .sh (.int (v : Nat)), .sh (.lst ((allSq h v).map sqT)), ey, ex, et, eb, el, er, etb, .sh (.lst (sm.map sqT)), e13, e14, e15, e16, e17, e18, .sh (tabT w (intP ns)), .sh (.tup ((toldL ns dot h v).map T.str)), .sh (tabT w ((intP ns).map fun x => (turnS h x.1, x.2))), .no, .no, .no, .no, .no, .no]) (n := 0) (l := tabP ((intP ns).map fun x => (turnS h x.1, x.2))) (m := tabP ((intP ns).map fun x => (turnS h x.1, x.2))) (.inr ⟨rfl, rfl⟩) (by decide) (da_sh (eg_sh (i := 21) (by walk_at "vo") rfl)) (da_sh ?_) (tabP_dok o1) (tabP_dok o1))) fun _ => wg_or1 (tt_c (cmpN (E1 := [.no, .ow (dT d), .sh (.int (h : Nat)), .sh (.int (v : Nat)), .sh (.lst ((allSq h v).map sqT)), ey, ex, et, eb, el, er, etb, .sh (.lst (sm.map sqT)), e13, e14, e15, e16, e17, e18, .sh (tabT w (intP ns)), .sh (.tup ((toldL ns dot h v).map T.str)), .sh (tabT w ((intP ns).map fun x => (turnS h x.1, x.2))), .no, .no, .no, .no, .no, .no]) (n := 0) (l := tabP (intP ns)) (m := tabP (intP ns)) (.inr ⟨rfl, rfl⟩) (by decide) (da_sh (eg_to (eg_fn (T_.turned.ok rfl rfl) (by walk_at "gl") (turned_ok T_ ((((intP ns).map fun x => (turnS h x.1, x.2)).map fun x => (turnS v x.1, x.2)).map fun x => (turnS h x.1, x.2)) v h n3 (by simp only [List.length_map, intP_len]; omega)) (by walk_at "lv") (pas_cons (eg_fn (T_.turned.ok rfl rfl) (by walk_at "gl") (turned_ok T_ (((intP ns).map fun x => (turnS h x.1, x.2)).map fun x => (turnS v x.1, x.2)) h v n2 (by simp only [List.length_map, intP_len]; omega)) (by walk_at "lv") (pas_cons (eg_fn (T_.turned.ok rfl rfl) (by walk_at "gl") (turned_ok T_ ((intP ns).map fun x => (turnS h x.1, x.2)) v h n1 (by simp only [List.length_map, intP_len]; omega)) (by walk_at "lv") (pas_cons (eg_sh (i := 21) (by walk_at "vo") rfl) (pas_cons (eg_sh (i := 3) (by walk_at "vo") rfl) (pas_cons (eg_sh (i := 2) (by walk_at "vo") rfl) eas_nil)))) (pas_cons (eg_sh (i := 2) (by walk_at "vo") rfl) (pas_cons (eg_sh (i := 3) (by walk_at "vo") rfl) eas_nil)))) (pas_cons (eg_sh (i := 3) (by walk_at "vo") rfl) (pas_cons (eg_sh (i := 2) (by walk_at "vo") rfl) eas_nil)))) (congrArg (tabT w) ft) rfl)) (da_sh (eg_sh (i := 19) (by walk_at "vo") rfl)) (tabP_dok o0) (tabP_dok o0))))) (by rw [d1, d0]; rfl)
  refine eg_to (eg_o (eo_dictN (ps := (intP ns).map fun x => (sqK (turnS (h : Int) x.1), x.2)) (by walk_at "gl") T_.nDict (eg_to (eg_lcT (α := Sq × Int) (toT := fun x => sqT x.1) (t := fun x => .int x.1.1) (u := fun x => .int x.1.2) (f := fun x => T.tup [sqT (turnS (h : Int) x.1), .int x.2]) (xs := ns) (i := 25) (j := 26) (fun x => .inl rfl) (by walk_at "bk") (by walk_at "nd") (by decide) (by walk_at "so") (by walk_at "so") (by walk_at "ln") (by walk_at "ln") (by walk_at "no") (by walk_at "no") (by omega) (by rw [kn]; exact ig_keysN (eg_sh (i := 19) (by walk_at "vo") rfl)) fun x hx => pg_tup2 (pg_tup2 (eg_sh (i := 26) (by walk_at "vo") rfl) (pg_sub (pg_sub (eg_sh (i := 2) (by walk_at "vo") rfl) eg_int) (eg_sh (i := 25) (by walk_at "vo") rfl))) (eg_getN (kt := sqT x.1) (da_sh (eg_sh (i := 19) (by walk_at "vo") rfl)) (pg_tup2 (eg_sh (i := 25) (by walk_at "vo") rfl) (eg_sh (i := 26) (by walk_at "vo") rfl)) (keyT_self _) (sqK_depth x.1) (by rw [tab_get, atS_int, atS_mem nd hx]; rfl))) (congrArg T.lst (by unfold intP; rw [List.map_map, List.map_map]; rfl)) rfl) (fun p hp => by
      rcases List.mem_map.mp hp with ⟨x, _, rfl⟩
      exact sqK_depth _) (by rw [List.length_map, intP_len]; omega))) (dict_moved n1) rfl
include T_ in
theorem b23_ok (d : Dc) (h v : Nat) (sm : List Sq) (ns : List (Sq × Int)) (nd : (ns.map (·.1)).Nodup) (ln : ns.length ≤ 25) : TtG (lawS P w K mg base) [.no, .ow (dT d), .sh (.int (h : Nat)), .sh (.int (v : Nat)), .sh (.lst ((allSq h v).map sqT)), ey, ex, et, eb, el, er, etb, .sh (.lst (sm.map sqT)), e13, e14, e15, e16, e17, e18, .sh (tabT w (intP ns)), .sh (.tup ((toldL ns dot h v).map T.str)), .sh (tabT w ((intP ns).map fun x => (turnS h x.1, x.2))), .no, .no, .no, .no, .no, .no] (cond (bS 23)) false [.no, .ow (dT d), .sh (.int (h : Nat)), .sh (.int (v : Nat)), .sh (.lst ((allSq h v).map sqT)), ey, ex, et, eb, el, er, etb, .sh (.lst (sm.map sqT)), e13, e14, e15, e16, e17, e18, .sh (tabT w (intP ns)), .sh (.tup ((toldL ns dot h v).map T.str)), .sh (tabT w ((intP ns).map fun x => (turnS h x.1, x.2))), .no, .no, .no, .no, .no, .no] := by
  have n0 : ((intP ns).map (·.1)).Nodup := by rw [intP_fst]; exact nd
  have q1 := map_nd n0 (mirrS_inj (v : Int))
  have o0 := intP_ok0 ns
  have o1 := moved_dok o0 (mirrS (v : Int))
  have d1 := deq_refl q1 o1
  have d0 := deq_refl n0 o0
  have kn := keys_sq ns
  have tm := two_mirrors ns v
  refine tt_to (tg_w (wg_or (tt_c (cmpN (E1 := [.no, .ow (dT d), .sh (.int (h : Nat)), .sh (.int (v : Nat)), .sh (.lst ((allSq h v).map sqT)), ey, ex, et, eb, el, er, etb, .sh (.lst (sm.map sqT)), e13, e14, e15, e16, e17, e18, .sh (tabT w (intP ns)), .sh (.tup ((toldL ns dot h v).map T.str)), .sh (tabT w ((intP ns).map fun x => (turnS h x.1, x.2))), .no, .no, .no, .no, .no, .no]) (n := 0) (l := tabP ((intP ns).map fun x => (mirrS v x.1, x.2))) (m := tabP ((intP ns).map fun x => (mirrS v x.1, x.2))) (.inr ⟨rfl, rfl⟩) (by decide) (da_sh (eg_fn (T_.mirrored.ok rfl rfl) (by walk_at "gl") (mirrored_ok T_ (intP ns) v n0 (by simp only [List.length_map, intP_len]; omega)) (by walk_at "lv") (pas_cons (eg_sh (i := 19) (by walk_at "vo") rfl) (pas_cons (eg_sh (i := 3) (by walk_at "vo") rfl) eas_nil)))) (da_sh ?_) (tabP_dok o1) (tabP_dok o1))) fun _ => wg_or1 (tt_c (cmpN (E1 := [.no, .ow (dT d), .sh (.int (h : Nat)), .sh (.int (v : Nat)), .sh (.lst ((allSq h v).map sqT)), ey, ex, et, eb, el, er, etb, .sh (.lst (sm.map sqT)), e13, e14, e15, e16, e17, e18, .sh (tabT w (intP ns)), .sh (.tup ((toldL ns dot h v).map T.str)), .sh (tabT w ((intP ns).map fun x => (turnS h x.1, x.2))), .no, .no, .no, .no, .no, .no]) (n := 0) (l := tabP (intP ns)) (m := tabP (intP ns)) (.inr ⟨rfl, rfl⟩) (by decide) (da_sh (eg_to (eg_fn (T_.mirrored.ok rfl rfl) (by walk_at "gl") (mirrored_ok T_ ((intP ns).map fun x => (mirrS v x.1, x.2)) v q1 (by simp only [List.length_map, intP_len]; omega)) (by walk_at "lv") (pas_cons (eg_fn (T_.mirrored.ok rfl rfl) (by walk_at "gl") (mirrored_ok T_ (intP ns) v n0 (by simp only [List.length_map, intP_len]; omega)) (by walk_at "lv") (pas_cons (eg_sh (i := 19) (by walk_at "vo") rfl) (pas_cons (eg_sh (i := 3) (by walk_at "vo") rfl) eas_nil))) (pas_cons (eg_sh (i := 3) (by walk_at "vo") rfl) eas_nil))) (congrArg (tabT w) tm) rfl)) (da_sh (eg_sh (i := 19) (by walk_at "vo") rfl)) (tabP_dok o0) (tabP_dok o0))))) (by rw [d1, d0]; rfl)
  refine eg_to (eg_o (eo_dictN (ps := (intP ns).map fun x => (sqK (mirrS (v : Int) x.1), x.2)) (by walk_at "gl") T_.nDict (eg_to (eg_lcT (α := Sq × Int) (toT := fun x => sqT x.1) (t := fun x => .int x.1.1) (u := fun x => .int x.1.2) (f := fun x => T.tup [sqT (mirrS (v : Int) x.1), .int x.2]) (xs := ns) (i := 25) (j := 26) (fun x => .inl rfl) (by walk_at "bk") (by walk_at "nd") (by decide) (by walk_at "so") (by walk_at "so") (by walk_at "ln") (by walk_at "ln") (by walk_at "no") (by walk_at "no") (by omega) (by rw [kn]; exact ig_keysN (eg_sh (i := 19) (by walk_at "vo") rfl)) fun x hx => pg_tup2 (pg_tup2 (eg_sh (i := 25) (by walk_at "vo") rfl) (pg_sub (pg_sub (eg_sh (i := 3) (by walk_at "vo") rfl) eg_int) (eg_sh (i := 26) (by walk_at "vo") rfl))) (eg_getN (kt := sqT x.1) (da_sh (eg_sh (i := 19) (by walk_at "vo") rfl)) (pg_tup2 (eg_sh (i := 25) (by walk_at "vo") rfl) (eg_sh (i := 26) (by walk_at "vo") rfl)) (keyT_self _) (sqK_depth x.1) (by rw [tab_get, atS_int, atS_mem nd hx]; rfl))) (congrArg T.lst (by unfold intP; rw [List.map_map, List.map_map]; rfl)) rfl) (fun p hp => by
      rcases List.mem_map.mp hp with ⟨x, _, rfl⟩
      exact sqK_depth _) (by rw [List.length_map, intP_len]; omega))) (dict_moved q1) rfl

end
end K01
end Cw
end L2

set_option Elab.async false
set_option linter.all false
set_option maxRecDepth 100000
set_option maxHeartbeats 4000000
namespace L2
namespace Cw
namespace K01
open PySem PySem.Spec PyProof.Rows
local macro_rules | `(tactic| walk_at "vo") => `(tactic| exact ⟨rfl, by first | exact .inl rfl | exact .inr (.inl rfl) | exact .inr (.inr rfl), by decide, by decide⟩)
local macro_rules | `(tactic| walk_at "gl") => `(tactic| exact ⟨rfl, by decide⟩)
local macro_rules | `(tactic| walk_at "nd") => `(tactic| (dsimp only [SS.blk, defP]; decide +kernel))
local macro_rules | `(tactic| walk_at "so") => `(tactic| exact ⟨by walk_at "nd", rfl, by first | exact .inl rfl | exact .inr rfl, by first | exact .inl rfl | exact .inr rfl, by first | (dsimp only [SS.blk, defP, pins]; decide) | (simp [SS.blk, defP, pins, isOw, List.range_succ]; done)⟩)
local macro_rules | `(tactic| walk_at "bk") => `(tactic| exact blkOk_by (by walk_at "nd"))
local macro_rules | `(tactic| walk_at "ln") => `(tactic| (simp; done))
local macro_rules | `(tactic| walk_at "no") => `(tactic| (intro t; simp; done))
local macro_rules | `(tactic| walk_at "lv") => `(tactic| (dsimp only [SS.blk, defP]; decide))
local macro_rules | `(tactic| walk_at "sc") => `(tactic| exact ⟨rfl, rfl, rfl, by decide +kernel, rfl, by decide +kernel, by decide +kernel⟩)
/- a name's value -/
local macro_rules | `(tactic| walk_at "v") => `(tactic| first
  | exact eg_sh (i := 0) (by walk_at "vo") rfl | exact eg_sh (i := 1) (by walk_at "vo") rfl | exact eg_sh (i := 2) (by walk_at "vo") rfl | exact eg_sh (i := 3) (by walk_at "vo") rfl
  | exact eg_sh (i := 4) (by walk_at "vo") rfl | exact eg_sh (i := 5) (by walk_at "vo") rfl | exact eg_sh (i := 6) (by walk_at "vo") rfl | exact eg_sh (i := 7) (by walk_at "vo") rfl)
/-! ### the program's parts are the law's -/
theorem near_iff (r x : Sq) : nearB r x = true ↔ absI (x.1 - r.1) + absI (x.2 - r.2) = 1 := by
  unfold nearB
  rw [enc_int.eq]
  exact decide_eq_true_iff
theorem near_symm {a b : Sq} (h : nearB a b = true) : nearB b a = true := by
  rw [near_iff] at h ⊢
  unfold absI at h ⊢
  split at h <;> split at h <;> split <;> split <;> omega
theorem step_near (x r : Sq) : r ∈ stepD x sidesL ↔ nearB r x = true := by
  rw [near_iff]
  obtain ⟨a, b⟩ := x
  obtain ⟨c, d⟩ := r
  simp only [stepD, sidesL, List.map_cons, List.map_nil, List.mem_cons, List.not_mem_nil, or_false, Prod.mk.injEq]
  unfold absI
  constructor
  · intro h
    split <;> split <;> omega
  · intro h
    split at h <;> split at h <;> omega
/-- ways by sides within a lot -/
inductive Path (L : List Sq) (p : Sq) : Sq → Prop
  | refl : Path L p p
  | step {q r} (h : Path L p q) (n : nearB r q = true) (m : r ∈ L) : Path L p r
structure FillI (L : List Sq) (p : Sq) (s : List Sq × List Sq) : Prop where
  way : ∀ x ∈ s.1, Path L p x
  sub : ∀ x ∈ s.2, x ∈ s.1
  clo : ∀ x ∈ s.1, x ∉ s.2 → ∀ r, nearB r x = true → r ∈ L → r ∈ s.1
  hp : p ∈ s.1
  nd : s.1.Nodup
theorem fold_fill (L : List Sq) : ∀ (qs : List Sq) (s : List Sq × List Sq), (∀ x ∈ s.1, x ∈ (qs.foldl (fillStep L) s).1) ∧ (∀ x ∈ s.2, x ∈ (qs.foldl (fillStep L) s).2) ∧ (∀ x ∈ (qs.foldl (fillStep L) s).1, x ∈ s.1 ∨ (x ∈ (qs.foldl (fillStep L) s).2 ∧ x ∈ qs ∧ x ∈ L)) ∧ (∀ r ∈ qs, r ∈ L → r ∈ (qs.foldl (fillStep L) s).1) ∧ (s.1.Nodup → (qs.foldl (fillStep L) s).1.Nodup) ∧ ((∀ x ∈ s.2, x ∈ s.1) → ∀ x ∈ (qs.foldl (fillStep L) s).2, x ∈ (qs.foldl (fillStep L) s).1)
  | [], s => ⟨fun _ h => h, fun _ h => h, fun _ h => .inl h, (fun _ h => by simp at h), fun h => h, fun h => h⟩
  | q :: qs, s => by
    obtain ⟨a, b, c, d, e, f⟩ := fold_fill L qs (fillStep L s q)
    have g1 : ∀ x ∈ s.1, x ∈ (fillStep L s q).1 := fun x hx => by
      unfold fillStep; split
      · exact List.mem_append_left _ hx
      · exact hx
    have g2 : ∀ x ∈ s.2, x ∈ (fillStep L s q).2 := fun x hx => by
      unfold fillStep; split
      · exact List.mem_append_left _ hx
      · exact hx
    have g3 : ∀ x ∈ (fillStep L s q).1, x ∈ s.1 ∨ (x ∈ (fillStep L s q).2 ∧ x = q ∧ x ∈ L) := fun x hx => by
      unfold fillStep at hx ⊢
      split at hx
      · rename_i h
        rw [if_pos h]
        rcases List.mem_append.mp hx with z | z
        · exact .inl z
        · have e := List.mem_singleton.mp z
          exact .inr ⟨List.mem_append_right _ z, e, by rw [e]; exact h.1⟩
      · exact .inl hx
    have g4 : q ∈ L → q ∈ (fillStep L s q).1 := fun hq => by
      unfold fillStep
      split
      · exact List.mem_append_right _ (List.mem_singleton.mpr rfl)
      · rename_i h
        exact Classical.byContradiction fun n => h ⟨hq, n⟩
    have g5 : s.1.Nodup → (fillStep L s q).1.Nodup := fun h => by
      unfold fillStep
      split
      · rename_i n
        exact List.nodup_append.mpr ⟨h, by simp, fun x hx y hy z => n.2 (by rw [List.mem_singleton] at hy; rw [← hy, ← z]; exact hx)⟩
      · exact h
    have g6 : (∀ x ∈ s.2, x ∈ s.1) → ∀ x ∈ (fillStep L s q).2, x ∈ (fillStep L s q).1 := fun h x hx => by
      unfold fillStep at hx ⊢
      split at hx
      · rename_i n
        rw [if_pos n]
        rcases List.mem_append.mp hx with z | z
        · exact List.mem_append_left _ (h x z)
        · exact List.mem_append_right _ z
      · rename_i n
        rw [if_neg n]
        exact h x hx
    refine ⟨fun x hx => a x (g1 x hx), fun x hx => b x (g2 x hx), fun x hx => ?_, fun r hr hL => ?_, fun h => e (g5 h), fun h => f (g6 h)⟩
    · rcases c x hx with z | ⟨z1, z2, z3⟩
      · rcases g3 x z with y | ⟨y1, y2, y3⟩
        · exact .inl y
        · exact .inr ⟨b x y1, by rw [y2]; exact List.mem_cons_self, y3⟩
      · exact .inr ⟨z1, List.mem_cons_of_mem _ z2, z3⟩
    · rcases List.mem_cons.mp hr with rfl | hr
      · exact a _ (g4 hL)
      · exact d r hr hL
theorem fill_mem (L : List Sq) (p : Sq) : ∀ (n : Nat) (s : List Sq × List Sq), fillM L s < n → FillI L p s → (∀ q, q ∈ fillN L n s ↔ Path L p q) ∧ (fillN L n s).Nodup
  | 0, _, h, _ => absurd h (Nat.not_lt_zero _)
  | n + 1, (xs, ws), h, I => by
    rcases List.eq_nil_or_concat ws with h2 | ⟨us, q, h2⟩
    · subst h2
      rw [fillN_nil]
      refine ⟨fun q => ⟨I.way q, fun pa => ?_⟩, I.nd⟩
      induction pa with
      | refl => exact I.hp
      | step _ nr m ih => exact I.clo _ ih (fun z => nomatch z) _ nr m
    · rw [List.concat_eq_append] at h2
      subst h2
      rw [fillN_snoc]
      obtain ⟨a, b, c, d, e, f⟩ := fold_fill L (stepD q sidesL) (xs, us)
      have m1 := fill_all L (stepD q sidesL) (xs, us)
      have m2 : fillM L (xs, us) + 1 = fillM L (xs, us ++ [q]) := by unfold fillM; simp only [List.length_append, List.length_singleton]; omega
      have qx : q ∈ xs := I.sub q (List.mem_append_right _ (List.mem_singleton.mpr rfl))
      refine fill_mem L p n _ (by omega) ⟨fun x hx => ?_, f fun x hx => I.sub x (List.mem_append_left _ hx), fun x hx nx r hr hL => ?_, a p I.hp, e I.nd⟩
      · rcases c x hx with z | ⟨_, z2, z3⟩
        · exact I.way x z
        · exact .step (I.way q qx) ((step_near q x).mp z2) z3
      · rcases c x hx with z | ⟨z1, _, _⟩
        · by_cases hq : x = q
          · subst hq
            exact d r ((step_near x r).mpr hr) hL
          · refine a r (I.clo x z (fun y => ?_) r hr hL)
            rcases List.mem_append.mp y with y | y
            · exact nx (b x y)
            · exact hq (List.mem_singleton.mp y)
        · exact absurd z1 nx
theorem fill_reach (L : List Sq) (p : Sq) : (∀ q, q ∈ fillN L (L.length + 2) ([p], [p]) ↔ Path L p q) ∧ (fillN L (L.length + 2) ([p], [p])).Nodup := by
  have f1 : (L.filter fun q => decide (q ∉ [p])).length ≤ L.length := List.length_filter_le _ _
  refine fill_mem L p _ _ (by unfold fillM; simp only [List.length_singleton]; omega) ⟨fun x hx => ?_, fun x hx => hx, fun x hx nx => absurd hx nx, List.mem_singleton.mpr rfl, by simp⟩
  rw [List.mem_singleton.mp hx]
  exact .refl
theorem reach_mem (L : List Sq) (p q : Sq) : q ∈ reachL L p ↔ Path L p q := by
  unfold reachL
  rw [srtBy_mem]
  exact (fill_reach L p).1 q
/-! the law's way -/
theorem any_sq (lot : List Sq) (s : Sq) : ((lot.map sqT).any fun x => teq x (sqT s)) = decide (s ∈ lot) := by
  have e : ∀ a b : Sq, teq (sqT a) (sqT b) = decide (a = b) := fun a b => by
    have := teq_sqs [a] [b]
    have h2 : teq (.lst ([a].map sqT)) (.lst ([b].map sqT)) = teq (sqT a) (sqT b) := by simp [teq, toD, toDs, PyData.eqv, PyData.eqvAll]
    rw [h2] at this
    rw [this]
    by_cases z : a = b <;> simp [z]
  induction lot with
  | nil => rfl
  | cons x lot ih =>
    rw [List.map_cons, List.any_cons, ih, e]
    by_cases h1 : x = s
    · subst h1; simp
    · have h1' : ¬ s = x := fun z => h1 z.symm
      by_cases h2 : s ∈ lot <;> simp [h1, h1', h2]
theorem grow_iff (lot : List Sq) (s : Sq) : growB lot s = true ↔ s ∈ lot ∨ ∃ o ∈ lot, nearB s o = true := by
  unfold growB
  rw [any_sq, Bool.or_eq_true, decide_eq_true_iff, teq_nilL]
  refine or_congr Iff.rfl ?_
  constructor
  · intro h
    cases q : lot.filter (nearB s) with
    | nil => rw [q] at h; cases h
    | cons o l =>
      have : o ∈ lot.filter (nearB s) := by rw [q]; exact List.mem_cons_self
      exact ⟨o, (List.mem_filter.mp this).1, (List.mem_filter.mp this).2⟩
  · rintro ⟨o, ho, hn⟩
    have : o ∈ lot.filter (nearB s) := List.mem_filter.mpr ⟨ho, hn⟩
    cases q : lot.filter (nearB s) with
    | nil => rw [q] at this; cases this
    | cons o l => rfl
theorem out_eq (lot : List Sq) : outB lot = fun s => decide (s ∉ lot) := by
  funext s
  unfold outB
  rw [any_sq]
  by_cases h : s ∈ lot <;> simp [h]
theorem grow_path {p : Sq} {l : List Sq} : ∀ k, ∀ q ∈ growN (p :: l) k, Path (p :: l) p q
  | 0, q, h => by
    have : q = p := by simpa [growN] using h
    rw [this]; exact .refl
  | k + 1, q, h => by
    obtain ⟨h1, h2⟩ := List.mem_filter.mp (show q ∈ (p :: l).filter (growB (growN (p :: l) k)) from h)
    rcases (grow_iff _ _).mp h2 with z | ⟨o, ho, hn⟩
    · exact grow_path k q z
    · exact .step (grow_path k o ho) hn h1
theorem grow_in {left : List Sq} : ∀ k, ∀ q ∈ growN left k, q ∈ left
  | 0, q, h => List.mem_of_mem_take h
  | k + 1, q, h => (List.mem_filter.mp (show q ∈ left.filter (growB (growN left k)) from h)).1
theorem grow_mono {left : List Sq} (k : Nat) : ∀ q ∈ growN left k, q ∈ growN left (k + 1) := fun q h =>
  show q ∈ left.filter (growB (growN left k)) from List.mem_filter.mpr ⟨grow_in k q h, (grow_iff _ _).mpr (.inl h)⟩
/-- nothing new at one step: nothing new at all -/
def Still (left : List Sq) (k : Nat) : Prop := ∀ q ∈ growN left (k + 1), q ∈ growN left k
theorem still_on {left : List Sq} {k : Nat} (h : Still left k) : Still left (k + 1) := fun q hq => by
  obtain ⟨h1, h2⟩ := List.mem_filter.mp (show q ∈ left.filter (growB (growN left (k + 1))) from hq)
  refine show q ∈ left.filter (growB (growN left k)) from List.mem_filter.mpr ⟨h1, (grow_iff _ _).mpr ?_⟩
  rcases (grow_iff _ _).mp h2 with z | ⟨o, ho, hn⟩
  · exact .inl (h q z)
  · exact .inr ⟨o, h o ho, hn⟩
theorem still_all {left : List Sq} {k : Nat} (h : Still left k) : ∀ j, Still left (k + j)
  | 0 => h
  | j + 1 => still_on (still_all h j)
def cntG (left : List Sq) (k : Nat) : Nat := (left.filter fun s => decide (s ∈ growN left k)).length
theorem cnt_up {left : List Sq} {k : Nat} (h : ¬ Still left k) : cntG left k < cntG left (k + 1) := by
  obtain ⟨q, hq⟩ : ∃ q, q ∈ growN left (k + 1) ∧ q ∉ growN left k := Classical.byContradiction fun n => h fun q hq => Classical.byContradiction fun z => n ⟨q, hq, z⟩
  unfold cntG
  have e : (left.filter fun s => decide (s ∈ growN left k)) = (left.filter fun s => decide (s ∈ growN left (k + 1))).filter fun s => decide (s ∈ growN left k) := by
    rw [List.filter_filter]
    refine List.filter_congr fun s _ => ?_
    by_cases z : s ∈ growN left k
    · simp [z, grow_mono k s z]
    · simp [z]
  rw [e]
  exact List.length_filter_lt_length_iff_exists.mpr ⟨q, List.mem_filter.mpr ⟨grow_in _ q hq.1, by simpa using hq.1⟩, by simpa using hq.2⟩
theorem still_at {left : List Sq} : ∀ n, left.length ≤ n → Still left n := fun n hn => by
  have main : ∀ k, (∃ j, j < k ∧ Still left j) ∨ k ≤ cntG left k := fun k => by
    induction k with
    | zero => exact .inr (Nat.zero_le _)
    | succ k ih =>
      rcases ih with ⟨j, h1, h2⟩ | h
      · exact .inl ⟨j, Nat.lt_succ_of_lt h1, h2⟩
      · by_cases z : Still left k
        · exact .inl ⟨k, Nat.lt_succ_self k, z⟩
        · have := cnt_up z
          exact .inr (by omega)
  rcases main (n + 1) with ⟨j, h1, h2⟩ | h
  · have := still_all h2 (n - j)
    rwa [show j + (n - j) = n by omega] at this
  · have : cntG left (n + 1) ≤ left.length := List.length_filter_le _ _
    omega
theorem grow_all {p : Sq} {l : List Sq} {n : Nat} (hn : (p :: l).length ≤ n) (q : Sq) : q ∈ growN (p :: l) n ↔ Path (p :: l) p q := by
  refine ⟨grow_path n q, fun h => ?_⟩
  have first : ∀ k, p ∈ growN (p :: l) k := fun k => by
    induction k with
    | zero => exact List.mem_cons_self
    | succ k ih => exact grow_mono k p ih
  induction h with
  | refl => exact first n
  | @step a b _ hn' m ih => exact still_at n hn b (show b ∈ (p :: l).filter (growB (growN (p :: l) n)) from List.mem_filter.mpr ⟨m, (grow_iff _ _).mpr (.inr ⟨a, ih, hn'⟩)⟩)
/-- closed within sm by sides -/
def Closed (sm left : List Sq) : Prop := ∀ a ∈ left, ∀ b ∈ sm, nearB b a = true → b ∈ left
theorem path_same {sm left : List Sq} (sub : left.Sublist sm) (cl : Closed sm left) {p : Sq} (hp : p ∈ left) (q : Sq) : Path left p q ↔ Path sm p q := by
  constructor
  · intro h
    induction h with
    | refl => exact .refl
    | step _ n m ih => exact .step ih n (sub.subset m)
  · intro h
    have : q ∈ left ∧ Path left p q := by
      induction h with
      | refl => exact ⟨hp, .refl⟩
      | step _ n m ih => exact ⟨cl _ ih.1 _ m n, .step ih.2 n (cl _ ih.1 _ m n)⟩
    exact this.2
theorem grow_reach {sm : List Sq} (nd : sm.Nodup) (pw : sm.Pairwise fun a b => leSq a b = true) {p : Sq} {l : List Sq} (sub : (p :: l).Sublist sm) (cl : Closed sm (p :: l)) {n : Nat} (hn : (p :: l).length ≤ n) : growN (p :: l) n = reachL sm p := by
  have gs : (growN (p :: l) n).Sublist sm := by
    cases n with
    | zero => simp at hn
    | succ n => exact (List.filter_sublist (p := growB (growN (p :: l) n))).trans sub
  unfold reachL
  refine (srt_sq (fill_reach sm p).2 (nd.sublist gs) (pw.sublist gs) fun q => ?_).symm
  rw [(fill_reach sm p).1 q, grow_all hn q, path_same sub cl List.mem_cons_self]
def specK (sm : List Sq) : Nat → List Sq → List (List Sq)
  | 0, _ => []
  | _ + 1, [] => []
  | k + 1, p :: l => reachL sm p :: specK sm k (l.filter fun s => decide (s ∉ reachL sm p))
theorem addS_mem (x : Sq) : ∀ (qs xs : List Sq), x ∈ qs.foldl addS xs ↔ x ∈ xs ∨ x ∈ qs
  | [], xs => by simp
  | q :: qs, xs => by
    rw [List.foldl_cons, addS_mem x qs]
    have e : x ∈ addS xs q ↔ x ∈ xs ∨ x = q := by
      unfold addS
      split
      · rename_i h
        exact ⟨.inl, fun z => z.elim id fun e => by rw [e]; exact h⟩
      · rw [List.mem_append, List.mem_singleton]
    rw [e, List.mem_cons, or_assoc]
theorem prog_spec (sm : List Sq) : ∀ (qs seen : List Sq) (ps : List (List Sq)) (k : Nat), (qs.filter fun s => decide (s ∉ seen)).length ≤ k → (qs.foldl (partsStep sm) (seen, ps)).2 = ps ++ specK sm k (qs.filter fun s => decide (s ∉ seen))
  | [], seen, ps, k, _ => by cases k <;> simp [specK]
  | q :: qs, seen, ps, k, hk => by
    rw [List.foldl_cons]
    by_cases h : q ∈ seen
    · have e : partsStep sm (seen, ps) q = (seen, ps) := by unfold partsStep; rw [if_pos h]
      have f : (q :: qs).filter (fun s => decide (s ∉ seen)) = qs.filter fun s => decide (s ∉ seen) := List.filter_cons_of_neg (by simpa using h)
      rw [f] at hk
      rw [e, f]
      exact prog_spec sm qs seen ps k hk
    · have e : partsStep sm (seen, ps) q = ((reachL sm q).foldl addS seen, ps ++ [reachL sm q]) := by unfold partsStep; rw [if_neg h]
      have f : (q :: qs).filter (fun s => decide (s ∉ seen)) = q :: qs.filter fun s => decide (s ∉ seen) := List.filter_cons_of_pos (by simpa using h)
      rw [f] at hk
      rw [e, f]
      cases k with
      | zero => simp at hk
      | succ k =>
        have g : (qs.filter fun s => decide (s ∉ seen)).filter (fun s => decide (s ∉ reachL sm q)) = qs.filter fun s => decide (s ∉ (reachL sm q).foldl addS seen) := by
          rw [List.filter_filter]
          refine List.filter_congr fun s _ => ?_
          have := addS_mem s (reachL sm q) seen
          by_cases z1 : s ∈ seen <;> by_cases z2 : s ∈ reachL sm q <;> simp [this, z1, z2]
        have ln : (qs.filter fun s => decide (s ∉ (reachL sm q).foldl addS seen)).length ≤ k := by
          rw [← g]
          refine Nat.le_trans (List.length_filter_le _ _) ?_
          rw [List.length_cons] at hk
          omega
        rw [prog_spec sm qs _ _ k ln]
        show _ = ps ++ (reachL sm q :: specK sm k ((qs.filter fun s => decide (s ∉ seen)).filter fun s => decide (s ∉ reachL sm q)))
        rw [g, List.append_assoc]
        rfl
def iterT (n : Nat) : Nat → List (List Sq) × List Sq → List (List Sq) × List Sq
  | 0, s => s
  | k + 1, s => iterT n k (turnT n s)
theorem iter_last (n : Nat) : ∀ (k : Nat) (s : List (List Sq) × List Sq), iterT n (k + 1) s = turnT n (iterT n k s)
  | 0, s => rfl
  | k + 1, s => iter_last n k (turnT n s)
theorem turn_iter (sm : List Sq) : ∀ k, turnN sm k = iterT sm.length k ([], sm)
  | 0 => rfl
  | k + 1 => by rw [iter_last, ← turn_iter sm k]; rfl
theorem law_spec {sm : List Sq} (nd : sm.Nodup) (pw : sm.Pairwise fun a b => leSq a b = true) {n : Nat} (hn : sm.length ≤ n) : ∀ (k : Nat) (ps : List (List Sq)) (left : List Sq), left.Sublist sm → Closed sm left → (iterT n k (ps, left)).1 = ps ++ specK sm k left
  | 0, ps, left, _, _ => by simp [iterT, specK]
  | k + 1, ps, [], _, _ => by
    have e : turnT n (ps, []) = (ps, []) := by unfold turnT; rw [if_pos rfl]
    show (iterT n k (turnT n (ps, []))).1 = _
    rw [e, law_spec nd pw hn k ps [] (List.nil_sublist _) (fun a h => nomatch h)]
    cases k <;> rfl
  | k + 1, ps, p :: l, sub, cl => by
    have gr := grow_reach nd pw sub cl (n := n) (Nat.le_trans sub.length_le hn)
    have e : turnT n (ps, p :: l) = (ps ++ [reachL sm p], l.filter fun s => decide (s ∉ reachL sm p)) := by
      unfold turnT
      rw [if_neg (by simp), out_eq]
      show (ps ++ [growN (p :: l) n], (p :: l).filter fun s => decide (s ∉ growN (p :: l) n)) = _
      rw [gr, List.filter_cons_of_neg (by simpa using (reach_mem sm p p).mpr .refl)]
    show (iterT n k (turnT n (ps, p :: l))).1 = _
    rw [e, law_spec nd pw hn k _ _ ((List.filter_sublist.trans (List.sublist_cons_self p l)).trans sub) (fun a ha b hb hn' => ?_)]
    · show _ = ps ++ (reachL sm p :: _)
      rw [List.append_assoc]
      rfl
    · obtain ⟨a1, a2⟩ := List.mem_filter.mp ha
      have a2 : a ∉ reachL sm p := by simpa using a2
      have bm := cl a (List.mem_cons_of_mem _ a1) b hb hn'
      have bn : b ∉ reachL sm p := fun z => a2 ((reach_mem sm p a).mpr (.step ((reach_mem sm p b).mp z) (near_symm hn') (sub.subset (List.mem_cons_of_mem _ a1))))
      rcases List.mem_cons.mp bm with z | z
      · exact absurd ((reach_mem sm p b).mpr (by rw [z]; exact .refl)) bn
      · exact List.mem_filter.mpr ⟨z, by simpa using bn⟩
theorem parts_law {sm : List Sq} (nd : sm.Nodup) (pw : sm.Pairwise fun a b => leSq a b = true) : partsL sm = (turnN sm sm.length).1 := by
  have s0 : srtBy sq2 sm = sm := srtBy_self (pw.imp fun {a b} h => by rw [dataLe_sq]; exact h)
  have f0 : sm.filter (fun s => decide (s ∉ ([] : List Sq))) = sm := by simp
  have h1 := prog_spec sm sm [] [] sm.length (List.length_filter_le _ _)
  rw [f0] at h1
  unfold partsL
  rw [s0, h1, turn_iter, law_spec nd pw (Nat.le_refl _) sm.length [] sm (List.Sublist.refl _) (fun a _ b hb _ => hb)]
end K01
end Cw
end L2

set_option Elab.async false
set_option linter.all false
set_option maxRecDepth 100000
set_option maxHeartbeats 4000000
namespace L2
namespace Cw
namespace K01
open PySem PySem.Spec PyProof.Rows
local macro_rules | `(tactic| walk_at "vo") => `(tactic| exact ⟨rfl, by first | exact .inl rfl | exact .inr (.inl rfl) | exact .inr (.inr rfl), by decide, by decide⟩)
local macro_rules | `(tactic| walk_at "gl") => `(tactic| exact ⟨rfl, by decide⟩)
local macro_rules | `(tactic| walk_at "nd") => `(tactic| (dsimp only [SS.blk, defP]; decide +kernel))
local macro_rules | `(tactic| walk_at "so") => `(tactic| exact ⟨by walk_at "nd", rfl, by first | exact .inl rfl | exact .inr rfl, by first | exact .inl rfl | exact .inr rfl, by first | (dsimp only [SS.blk, defP, pins]; decide) | (simp [SS.blk, defP, pins, isOw, List.range_succ]; done)⟩)
local macro_rules | `(tactic| walk_at "bk") => `(tactic| exact blkOk_by (by walk_at "nd"))
local macro_rules | `(tactic| walk_at "ln") => `(tactic| (simp; done))
local macro_rules | `(tactic| walk_at "no") => `(tactic| (intro t; simp; done))
local macro_rules | `(tactic| walk_at "lv") => `(tactic| (dsimp only [SS.blk, defP]; decide))
local macro_rules | `(tactic| walk_at "sc") => `(tactic| exact ⟨rfl, rfl, rfl, by decide +kernel, rfl, by decide +kernel, by decide +kernel⟩)
/- a name's value -/
local macro_rules | `(tactic| walk_at "v") => `(tactic| first
  | exact eg_sh (i := 0) (by walk_at "vo") rfl | exact eg_sh (i := 1) (by walk_at "vo") rfl | exact eg_sh (i := 2) (by walk_at "vo") rfl | exact eg_sh (i := 3) (by walk_at "vo") rfl
  | exact eg_sh (i := 4) (by walk_at "vo") rfl | exact eg_sh (i := 5) (by walk_at "vo") rfl | exact eg_sh (i := 6) (by walk_at "vo") rfl | exact eg_sh (i := 7) (by walk_at "vo") rfl)
/-! ### a turn of the law's loop -/
section
variable {P : Program} {w : World} {K : PySem.W.Frag} {mg : Str → Option Value} {base : Heap} (T_ : Tx K mg)
theorem body_all : lawBody = [bS 0, bS 1, bS 2, bS 3, bS 4, bS 5, bS 6, bS 7, bS 8, bS 9, bS 10, bS 11, bS 12, bS 13, bS 14, bS 15, bS 16, bS 17, bS 18, bS 19, bS 20, bS 21, bS 22, bS 23] := rfl
theorem if_all : (∀ i ∈ [2, 4, 5, 8, 12, 17, 20, 22, 23], ∃ A p, bS i = .If (cond (bS i)) A [] p) := by
  intro i hi
  simp only [List.mem_cons, List.not_mem_nil, or_false] at hi
  rcases hi with rfl | rfl | rfl | rfl | rfl | rfl | rfl | rfl | rfl <;> exact ⟨_, _, rfl⟩
theorem allSq_fine (h v : Nat) (hh : 0 < h ∧ h < 6 ∧ 0 < v ∧ v < 6) : (allSq h v).Nodup ∧ (allSq h v).Pairwise (fun s t => leSq s t = true) ∧ (allSq h v).length ≤ 25 := by
  have a := okB_all h v 1 1 hh (by decide) (by decide) ⟨Nat.mod_one _, Nat.mod_one _⟩
  unfold okB at a
  simp only [Bool.and_eq_true, decide_eq_true_eq] at a
  refine ⟨a.1.1.2, a.1.1.1.2, ?_⟩
  rw [allSq_len]
  exact Nat.le_trans (Nat.mul_le_mul (Nat.le_of_lt_succ hh.2.1) (Nat.le_of_lt_succ hh.2.2.2)) (by decide)
theorem nw_ok {e : Ent} (h : nw e) : owOk e = true := by
  cases e with
  | ow t => exact absurd rfl (h t)
  | _ => rfl
include T_ in
theorem turn_ok {q q1 : Str} {c D D1 : Addr} (TB : LamX.TabB base mg c D) (hne : D ≠ D1) (d : Dc) : ∃ E2, LGs (lawS P w K mg base) (LawF c q) [(D, q), (D1, q1)] ((List.replicate 28 Ent.no).set 1 (.ow (dT d))) lawBody (.nx E2) ∧ OwL E2 := by
  rw [body_all]
  have s0 := b0_ok T_ (P := P) (w := w) (base := base) d
  obtain ⟨h1, h5, -⟩ := sideD_ok d (m := 5) (by decide)
  obtain ⟨v1, v5, -⟩ := sideD_ok (roll d 5).2 (m := 5) (by decide)
  generalize sideD d 5 = h at s0 h1 h5
  generalize sideD (roll d 5).2 5 = v at s0 v1 v5
  generalize (roll (roll d 5).2 5).2 = d0 at s0
  have hh : 0 < h ∧ h < 6 ∧ 0 < v ∧ v < 6 := by omega
  have h6 : h < 6 ∧ v < 6 := by omega
  have h10 : 0 < h ∧ h < 10 ∧ 0 < v ∧ v < 10 := by omega
  obtain ⟨nd, pw, ln⟩ := allSq_fine h v hh
  have s1 := b1_ok T_ (P := P) (w := w) (base := base) d0 h v (by omega)
  have s2 := b2_ok T_ (P := P) (w := w) (base := base) d0 h v h10
  have s3 := b3_ok T_ (P := P) (w := w) (base := base) d0 h v h10
  obtain ⟨y, x, hy, hx, e⟩ := spotD_in d0 h v (by omega)
  rw [e] at s3
  generalize (roll d0 ((h * v : Nat) : Int)).2 = d1 at s3
  have s4 := b4_ok T_ (P := P) (w := w) (base := base) d1 h v y x (by omega)
  have s5 := b5_ok T_ (P := P) (w := w) (base := base) d1 h v y x (by omega)
  have s6 := b6_ok T_ (P := P) (w := w) (base := base) d1 h v (0 + (y : Int), 0 + (x : Int))
  obtain ⟨a1, a3, -⟩ := sideD_ok d1 (m := 3) (by decide)
  obtain ⟨b1, b3, -⟩ := sideD_ok (roll d1 3).2 (m := 3) (by decide)
  generalize sideD d1 3 = a at s6 a1 a3
  generalize sideD (roll d1 3).2 3 = b at s6 b1 b3
  generalize (roll (roll d1 3).2 3).2 = d2 at s6
  have ha : 1 ≤ a ∧ a < 4 := by omega
  have hb : 1 ≤ b ∧ b < 4 := by omega
  have s7 := b7_ok T_ (P := P) (w := w) (.sh (.int (0 + (y : Int)))) (.sh (.int (0 + (x : Int)))) (q := q) (Tb := [(D, q), (D1, q1)]) TB (by simp) (fun p hp z => by
    simp only [List.mem_cons, List.not_mem_nil, or_false] at hp
    rcases hp with rfl | rfl
    · rfl
    · exact absurd z.symm hne) rfl rfl d2 h v a b hh ha hb
  have s8 := b8_ok T_ (P := P) (w := w) (base := base) (.sh (.int (0 + (y : Int)))) (.sh (.int (0 + (x : Int)))) d2 h v a b ha hb
  have s9 := b9_ok T_ (P := P) (w := w) (base := base) (.sh (.int (0 + (y : Int)))) (.sh (.int (0 + (x : Int)))) d2 h v a b hh ha hb
  have s10 := b10_ok T_ (P := P) (w := w) (base := base) (.sh (.int (0 + (y : Int)))) (.sh (.int (0 + (x : Int)))) (.sh (.int (a : Nat))) (.sh (.int (b : Nat))) (.sh (lotsV h v a b)) d2 h v h6
  have r := rowsD_ok d2 h v
  generalize (cellsL abc h v d2).1 = ys at s10 r
  generalize (cellsL abc h v d2).2 = d3 at s10
  have s11 := b11_ok T_ (P := P) (w := w) (base := base) (.sh (.int (0 + (y : Int)))) (.sh (.int (0 + (x : Int)))) (.sh (.int (a : Nat))) (.sh (.int (b : Nat))) (.sh (lotsV h v a b)) d3 h v hh ys r
  have s12 := b12_ok T_ (P := P) (w := w) (base := base) (.sh (.int (0 + (y : Int)))) (.sh (.int (0 + (x : Int)))) (.sh (.int (a : Nat))) (.sh (.int (b : Nat))) (.sh (lotsV h v a b)) d3 h v hh ys r
  have s13 := b13_ok T_ (P := P) (w := w) (base := base) (.sh (.int (0 + (y : Int)))) (.sh (.int (0 + (x : Int)))) (.sh (.int (a : Nat))) (.sh (.int (b : Nat))) (.sh (lotsV h v a b)) (.sh (.tup (ys.map T.str))) (.sh (dKey (lotsD ys))) d3 h v h6
  have sub := someD_sub d3 h v
  generalize someD d3 h v = sm at s13 sub
  generalize someE d3 h v = d4 at s13
  have ndm : sm.Nodup := sub.nodup nd
  have pwm := pw.sublist sub
  have lm : sm.length ≤ 25 := Nat.le_trans sub.length_le ln
  have s14 := b14_ok T_ (P := P) (w := w) (base := base) (.sh (.int (0 + (y : Int)))) (.sh (.int (0 + (x : Int)))) (.sh (.int (a : Nat))) (.sh (.int (b : Nat))) (.sh (lotsV h v a b)) (.sh (.tup (ys.map T.str))) (.sh (dKey (lotsD ys))) d4 h v sm
  have s15 := b15_ok T_ (P := P) (w := w) (base := base) (.sh (.int (0 + (y : Int)))) (.sh (.int (0 + (x : Int)))) (.sh (.int (a : Nat))) (.sh (.int (b : Nat))) (.sh (lotsV h v a b)) (.sh (.tup (ys.map T.str))) (.sh (dKey (lotsD ys))) d4 h v sm
  obtain ⟨ea, eb, ec, na, nb, nc, s16⟩ := b16_ok T_ (P := P) (w := w) (base := base) (.sh (.int (0 + (y : Int)))) (.sh (.int (0 + (x : Int)))) (.sh (.int (a : Nat))) (.sh (.int (b : Nat))) (.sh (lotsV h v a b)) (.sh (.tup (ys.map T.str))) (.sh (dKey (lotsD ys))) d4 h v sm lm
  have oa := nw_ok na
  have ob := nw_ok nb
  have oc := nw_ok nc
  have hp := parts_law ndm pwm
  rw [← hp] at s16
  have s17 := b17_ok T_ (P := P) (w := w) (base := base) (.sh (.int (0 + (y : Int)))) (.sh (.int (0 + (x : Int)))) (.sh (.int (a : Nat))) (.sh (.int (b : Nat))) (.sh (lotsV h v a b)) (.sh (.tup (ys.map T.str))) (.sh (dKey (lotsD ys))) d4 h v sm lm ndm hp (turnN sm sm.length).2 ea eb ec
  generalize (turnN sm sm.length).2 = rest at s16 s17
  have s18 := b18_ok T_ (P := P) (w := w) (base := base) (.sh (.int (0 + (y : Int)))) (.sh (.int (0 + (x : Int)))) (.sh (.int (a : Nat))) (.sh (.int (b : Nat))) (.sh (lotsV h v a b)) (.sh (.tup (ys.map T.str))) (.sh (dKey (lotsD ys))) (.sh (.lst ((sm.take 1).map sqT))) (.sh (.lst ((partsL sm).map partT))) (.sh (.lst (rest.map sqT))) ea eb ec d4 h v sm lm ndm
  have sn := num_small sm d4
  have nf := num_fst sm d4
  generalize numD sm d4 = ns at s18 sn nf
  generalize numE sm d4 = d5 at s18
  have subn : (ns.map (·.1)).Sublist (allSq h v) := by rw [nf]; exact sub
  have ndn : (ns.map (·.1)).Nodup := by rw [nf]; exact ndm
  have lnn : ns.length ≤ 25 := by rw [← List.length_map (f := (·.1)), nf]; exact lm
  have s19 := b19_ok T_ (P := P) (w := w) (base := base) (.sh (.int (0 + (y : Int)))) (.sh (.int (0 + (x : Int)))) (.sh (.int (a : Nat))) (.sh (.int (b : Nat))) (.sh (lotsV h v a b)) (.sh (.tup (ys.map T.str))) (.sh (dKey (lotsD ys))) (.sh (.lst ((sm.take 1).map sqT))) (.sh (.lst ((partsL sm).map partT))) (.sh (.lst (rest.map sqT))) ea eb ec d5 h v h6 sm ns sn
  have s20 := b20_ok T_ (P := P) (w := w) (base := base) (.sh (.int (0 + (y : Int)))) (.sh (.int (0 + (x : Int)))) (.sh (.int (a : Nat))) (.sh (.int (b : Nat))) (.sh (lotsV h v a b)) (.sh (.tup (ys.map T.str))) (.sh (dKey (lotsD ys))) (.sh (.lst ((sm.take 1).map sqT))) (.sh (.lst ((partsL sm).map partT))) (.sh (.lst (rest.map sqT))) ea eb ec d5 h v hh sm ns sn subn nd
  have s21 := b21_ok T_ (P := P) (w := w) (base := base) (.sh (.int (0 + (y : Int)))) (.sh (.int (0 + (x : Int)))) (.sh (.int (a : Nat))) (.sh (.int (b : Nat))) (.sh (lotsV h v a b)) (.sh (.tup (ys.map T.str))) (.sh (dKey (lotsD ys))) (.sh (.lst ((sm.take 1).map sqT))) (.sh (.lst ((partsL sm).map partT))) (.sh (.lst (rest.map sqT))) ea eb ec d5 h v sm ns ndn lnn
  have s22 := b22_ok T_ (P := P) (w := w) (base := base) (.sh (.int (0 + (y : Int)))) (.sh (.int (0 + (x : Int)))) (.sh (.int (a : Nat))) (.sh (.int (b : Nat))) (.sh (lotsV h v a b)) (.sh (.tup (ys.map T.str))) (.sh (dKey (lotsD ys))) (.sh (.lst ((sm.take 1).map sqT))) (.sh (.lst ((partsL sm).map partT))) (.sh (.lst (rest.map sqT))) ea eb ec d5 h v sm ns ndn lnn
  have s23 := b23_ok T_ (P := P) (w := w) (base := base) (.sh (.int (0 + (y : Int)))) (.sh (.int (0 + (x : Int)))) (.sh (.int (a : Nat))) (.sh (.int (b : Nat))) (.sh (lotsV h v a b)) (.sh (.tup (ys.map T.str))) (.sh (dKey (lotsD ys))) (.sh (.lst ((sm.take 1).map sqT))) (.sh (.lst ((partsL sm).map partT))) (.sh (.lst (rest.map sqT))) ea eb ec d5 h v sm ns ndn lnn
  refine ⟨_, (lgs_cons (lg_of s0 (owl_all (by rfl))) (lgs_cons (lg_of s1 (owl_all (by simp only [List.all_cons, List.all_nil, owOk_d, owOk_n, owOk_s, Bool.and_self]))) (lgs_cons (lg_of (sg_ifFn (d := false) rfl s2) (owl_all (by simp only [List.all_cons, List.all_nil, owOk_d, owOk_n, owOk_s, Bool.and_self]))) (lgs_cons (lg_of s3 (owl_all (by simp only [List.all_cons, List.all_nil, owOk_d, owOk_n, owOk_s, Bool.and_self]))) (lgs_cons (lg_of (sg_ifFn (d := false) rfl s4) (owl_all (by simp only [List.all_cons, List.all_nil, owOk_d, owOk_n, owOk_s, Bool.and_self]))) (lgs_cons (lg_of (sg_ifFn (d := false) rfl s5) (owl_all (by simp only [List.all_cons, List.all_nil, owOk_d, owOk_n, owOk_s, Bool.and_self]))) (lgs_cons (lg_of s6 (owl_all (by simp only [List.all_cons, List.all_nil, owOk_d, owOk_n, owOk_s, Bool.and_self]))) (lgs_cons s7 (lgs_cons (lg_of (sg_ifFn (d := false) rfl s8) (owl_all (by simp only [List.all_cons, List.all_nil, owOk_d, owOk_n, owOk_s, Bool.and_self]))) (lgs_cons (lg_of s9 (owl_all (by simp only [List.all_cons, List.all_nil, owOk_d, owOk_n, owOk_s, Bool.and_self]))) (lgs_cons (lg_of s10 (owl_all (by simp only [List.all_cons, List.all_nil, owOk_d, owOk_n, owOk_s, Bool.and_self]))) (lgs_cons (lg_of s11 (owl_all (by simp only [List.all_cons, List.all_nil, owOk_d, owOk_n, owOk_s, Bool.and_self]))) (lgs_cons (lg_of (sg_ifFn (d := false) rfl s12) (owl_all (by simp only [List.all_cons, List.all_nil, owOk_d, owOk_n, owOk_s, Bool.and_self]))) (lgs_cons (lg_of s13 (owl_all (by simp only [List.all_cons, List.all_nil, owOk_d, owOk_n, owOk_s, Bool.and_self]))) (lgs_cons (lg_of s14 (owl_all (by simp only [List.all_cons, List.all_nil, owOk_d, owOk_n, owOk_s, Bool.and_self]))) (lgs_cons (lg_of s15 (owl_all (by simp only [List.all_cons, List.all_nil, owOk_d, owOk_n, owOk_s, Bool.and_self]))) (lgs_cons (lg_of s16 (owl_all (by simp only [List.all_cons, List.all_nil, owOk_d, owOk_n, owOk_s, Bool.and_self]))) (lgs_cons (lg_of (sg_ifFn (d := false) rfl s17) (owl_all (by simp only [List.all_cons, List.all_nil, owOk_d, owOk_n, owOk_s, oa, ob, oc, Bool.and_self]))) (lgs_cons (lg_of s18 (owl_all (by simp only [List.all_cons, List.all_nil, owOk_d, owOk_n, owOk_s, oa, ob, oc, Bool.and_self]))) (lgs_cons (lg_of s19 (owl_all (by simp only [List.all_cons, List.all_nil, owOk_d, owOk_n, owOk_s, oa, ob, oc, Bool.and_self]))) (lgs_cons (lg_of (sg_ifFn (d := false) rfl s20) (owl_all (by simp only [List.all_cons, List.all_nil, owOk_d, owOk_n, owOk_s, oa, ob, oc, Bool.and_self]))) (lgs_cons (lg_of s21 (owl_all (by simp only [List.all_cons, List.all_nil, owOk_d, owOk_n, owOk_s, oa, ob, oc, Bool.and_self]))) (lgs_cons (lg_of (sg_ifFn (d := false) rfl s22) (owl_all (by simp only [List.all_cons, List.all_nil, owOk_d, owOk_n, owOk_s, oa, ob, oc, Bool.and_self]))) (lgs_cons (lg_of (sg_ifFn (d := false) rfl s23) (owl_all (by simp only [List.all_cons, List.all_nil, owOk_d, owOk_n, owOk_s, oa, ob, oc, Bool.and_self]))) lgs_nil)))))))))))))))))))))))), (owl_all (by simp only [List.all_cons, List.all_nil, owOk_d, owOk_n, owOk_s, oa, ob, oc, Bool.and_self]))⟩
end
end K01
end Cw
end L2

set_option Elab.async false
set_option linter.all false
set_option maxRecDepth 100000
set_option maxHeartbeats 4000000
namespace L2
namespace Cw
namespace K01
open PySem PySem.Spec PyProof.Rows
local macro_rules | `(tactic| walk_at "vo") => `(tactic| exact ⟨rfl, by first | exact .inl rfl | exact .inr (.inl rfl) | exact .inr (.inr rfl), by decide, by decide⟩)
local macro_rules | `(tactic| walk_at "gl") => `(tactic| exact ⟨rfl, by decide⟩)
local macro_rules | `(tactic| walk_at "nd") => `(tactic| (dsimp only [SS.blk, defP]; decide +kernel))
local macro_rules | `(tactic| walk_at "so") => `(tactic| exact ⟨by walk_at "nd", rfl, by first | exact .inl rfl | exact .inr rfl, by first | exact .inl rfl | exact .inr rfl, by first | (dsimp only [SS.blk, defP, pins]; decide) | (simp [SS.blk, defP, pins, isOw, List.range_succ]; done)⟩)
local macro_rules | `(tactic| walk_at "bk") => `(tactic| exact blkOk_by (by walk_at "nd"))
local macro_rules | `(tactic| walk_at "ln") => `(tactic| (simp; done))
local macro_rules | `(tactic| walk_at "no") => `(tactic| (intro t; simp; done))
local macro_rules | `(tactic| walk_at "lv") => `(tactic| (dsimp only [SS.blk, defP]; decide))
local macro_rules | `(tactic| walk_at "sc") => `(tactic| exact ⟨rfl, rfl, rfl, by decide +kernel, rfl, by decide +kernel, by decide +kernel⟩)
/- a name's value -/
local macro_rules | `(tactic| walk_at "v") => `(tactic| first
  | exact eg_sh (i := 0) (by walk_at "vo") rfl | exact eg_sh (i := 1) (by walk_at "vo") rfl | exact eg_sh (i := 2) (by walk_at "vo") rfl | exact eg_sh (i := 3) (by walk_at "vo") rfl
  | exact eg_sh (i := 4) (by walk_at "vo") rfl | exact eg_sh (i := 5) (by walk_at "vo") rfl | exact eg_sh (i := 6) (by walk_at "vo") rfl | exact eg_sh (i := 7) (by walk_at "vo") rfl)
/-! ### the law -/
section
variable {P : Program} {w : World} {K : PySem.W.Frag} {mg : Str → Option Value} {base : Heap} (T_ : Tx K mg)
def diceC (c : Int) : Dc := ((diceL c).getD 0 0, (diceL c).getD 1 0, (diceL c).getD 2 0)
theorem diceC_T (c : Int) : dT (diceC c) = .lst ((diceL c).map T.int) := by
  unfold diceC diceL dT
  split <;> rfl
def lawQ : Str := (("law" : Str) ++ (".<locals>." : Str)) ++ ("<lambda>" : Str)
def casesQ : Str := (("_law_cases1" : Str) ++ (".<locals>." : Str)) ++ ("<lambda>" : Str)
/-- the record of the def that the law calls last -/
structure CaseF (K : PySem.W.Frag) (mg : Str → Option Value) (fc : Addr) (fdc : FuncData) (c1 : Addr) : Prop where
  F : FunC K "_law_cases1" (top 42) fc fdc c1
  mgf : mg "_law_cases1" = some (.ref fc)
  kp : PySem.W.keepIn K (.ref fc) = true
  bd : Binds K fdc [] []
theorem law_all : defBody (top 43) = .For (match (defBody (top 43)).getD 0 (.Pass ⟨0, 0, 0, 0⟩) with | .For t _ _ _ _ => t | _ => .Constant .none 0 ⟨0, 0, 0, 0⟩) (match (defBody (top 43)).getD 0 (.Pass ⟨0, 0, 0, 0⟩) with | .For _ i _ _ _ => i | _ => .Constant .none 0 ⟨0, 0, 0, 0⟩) lawBody [] (match (defBody (top 43)).getD 0 (.Pass ⟨0, 0, 0, 0⟩) with | .For _ _ _ _ p => p | _ => ⟨0, 0, 0, 0⟩) :: (defBody (top 43)).drop 1 := rfl
include T_ in
theorem tail_ok {q : Str} {c D c1 D1 fc : Addr} {fdc : FuncData} {E : List Ent} (C : CaseF K mg fc fdc c1) (TB1 : LamX.TabB base mg c1 D1) : LGs (lawS P w K mg base) (LawF c q) [(D, q), (D1, casesQ)] E ((defBody (top 43)).drop 1) (.ret (.bl true) E) := by
  obtain ⟨E', hc⟩ := cases_ok T_ (P := P) (w := w) (q := casesQ) TB1
  have F := fn_lg (k := 6) (Tb := [(D1, casesQ)]) (N := ["wrong", "pair"]) C.F sc42 hc
  exact lgs_stop (lg_retTrue (Tc := [(D1, casesQ)]) ⟨C.mgf, C.kp, C.bd⟩ (by walk_at "gl") F (by walk_at "lv") (fun p hp => by
    rw [List.mem_singleton.mp hp]
    simp)) trivial
include T_ in
theorem law_ok {q : Str} {c D c1 D1 fc : Addr} {fdc : FuncData} (C : CaseF K mg fc fdc c1) (TB : LamX.TabB base mg c D) (TB1 : LamX.TabB base mg c1 D1) (hne : D ≠ D1) (ns : List Int) : ∃ E', LGs (lawS P w K mg base) (LawF c q) [(D, q), (D1, casesQ)] (.sh (.slst (ns.map T.int)) :: List.replicate 27 Ent.no) (defBody (top 43)) (.ret (.bl true) E') := by
  obtain ⟨E2, h1, h2⟩ := turn_ok T_ (P := P) (w := w) (q := q) (q1 := casesQ) TB hne (diceC (ns.headD 0))
  have t1 := tail_ok T_ (P := P) (w := w) (q := q) (D := D) (c := c) (E := E2) C TB1
  rw [diceC_T] at h1
  rw [law_all]
  refine ⟨_, lgs_forOwn (n := 28) (i := 1) (ns := diceL (ns.headD 0)) (E1 := .sh (.slst (ns.map T.int)) :: List.replicate 27 Ent.no) ?_ (owl_all (by rfl)) (by simp) (by walk_at "so") (by decide) h1 t1⟩
  exact eg_fn (T_.rounds.ok rfl rfl) (by walk_at "gl") (rounds_ok T_ ns) (by walk_at "lv") (pas_cons (eg_sh (i := 0) (by walk_at "vo") rfl) (pas_cons eg_int eas_nil))
end
end K01
end Cw
end L2

set_option Elab.async false
set_option linter.all false
set_option maxRecDepth 100000
set_option maxHeartbeats 4000000
namespace L2
namespace Cw
namespace K01
open PySem PySem.Spec PyProof.Rows
local macro_rules | `(tactic| walk_at "vo") => `(tactic| exact ⟨rfl, by first | exact .inl rfl | exact .inr (.inl rfl) | exact .inr (.inr rfl), by decide, by decide⟩)
local macro_rules | `(tactic| walk_at "gl") => `(tactic| exact ⟨rfl, by decide⟩)
local macro_rules | `(tactic| walk_at "nd") => `(tactic| (dsimp only [SS.blk, defP]; decide +kernel))
local macro_rules | `(tactic| walk_at "so") => `(tactic| exact ⟨by walk_at "nd", rfl, by first | exact .inl rfl | exact .inr rfl, by first | exact .inl rfl | exact .inr rfl, by first | (dsimp only [SS.blk, defP, pins]; decide) | (simp [SS.blk, defP, pins, isOw, List.range_succ]; done)⟩)
local macro_rules | `(tactic| walk_at "bk") => `(tactic| exact blkOk_by (by walk_at "nd"))
local macro_rules | `(tactic| walk_at "ln") => `(tactic| (simp; done))
local macro_rules | `(tactic| walk_at "no") => `(tactic| (intro t; simp; done))
local macro_rules | `(tactic| walk_at "lv") => `(tactic| (dsimp only [SS.blk, defP]; decide))
local macro_rules | `(tactic| walk_at "sc") => `(tactic| exact ⟨rfl, rfl, rfl, by decide +kernel, rfl, by decide +kernel, by decide +kernel⟩)
/- a name's value -/
local macro_rules | `(tactic| walk_at "v") => `(tactic| first
  | exact eg_sh (i := 0) (by walk_at "vo") rfl | exact eg_sh (i := 1) (by walk_at "vo") rfl | exact eg_sh (i := 2) (by walk_at "vo") rfl | exact eg_sh (i := 3) (by walk_at "vo") rfl
  | exact eg_sh (i := 4) (by walk_at "vo") rfl | exact eg_sh (i := 5) (by walk_at "vo") rfl | exact eg_sh (i := 6) (by walk_at "vo") rfl | exact eg_sh (i := 7) (by walk_at "vo") rfl)
section
variable {P : Program} {w : World} {K : PySem.W.Frag} {mg : Str → Option Value} (T_ : Tx K mg)
/-- what the law is called with, and that it gives True -/
def spLaw (K : PySem.W.Frag) (D D1 : Addr) : Sp := fun vs H Q _ => ∃ (a : Addr) (ns : List Int), vs = [.ref a] ∧ H D = some (.tbl #[]) ∧ H D1 = some (.tbl #[]) ∧ SqL K H a (ns.map V.int) ∧ ∀ v H', v = V.bl true → Q v H'
theorem reps_ns {Z : Hp} : ∀ ns : List Int, Reps K Z (ns.map T.int) (ns.map V.int)
  | [] => .nil
  | n :: ns => .cons (rep_int.mpr rfl) (reps_ns ns)
theorem seq_frozen {H : Hp} {a : Addr} {xs : List V} (h : SqL K H a xs) : ∃ Z : Hp, Same Z H ∧ (∀ b ps, Z b ≠ some (.tbl ps)) ∧ SqL K Z a xs := by
  have one : ∀ u : HO, H a = some u → Same (upd (fun _ => none) a u) H := fun u e b v z => by
    by_cases hb : b = a
    · subst hb; rw [upd_same] at z; rw [e]; exact z
    · rw [upd_ne hb] at z; cases z
  have nt : ∀ u : HO, (∀ ps, u ≠ .tbl ps) → ∀ b ps, upd (fun _ => none) a u b ≠ some (.tbl ps) := fun u hu b ps z => by
    by_cases hb : b = a
    · subst hb; rw [upd_same] at z; exact hu ps (Option.some.inj z)
    · rw [upd_ne hb] at z; cases z
  obtain (h | ⟨o, h⟩) | h := h
  · exact ⟨_, one _ h, nt _ (fun ps z => by cases z), .inl (.inl upd_same)⟩
  · exact ⟨_, one _ h, nt _ (fun ps z => by cases z), .inl (.inr ⟨o, upd_same⟩)⟩
  · refine ⟨fun _ => none, ?_, ?_, .inr h⟩
    · intro b v z
      cases z
    · intro b ps z
      cases z
/-- the law's own record: its code object stands at c -/
structure LawA (K : PySem.W.Frag) (st : Stmt) (f : Addr) (fd : FuncData) (c : Addr) : Prop where
  ex : ∃ (oc : Value) (od : Option Addr) (dV kV doc pm : Value) (an : Option Addr) (ct : Value) (osl : Array (Option Value)),
    fd = PySem.W.fnOf "law" "law" (defArgs st) (defBody st) (defScope st) dV kV doc pm an (.ref c) ct ∧ K.lookup f = some ⟨oc, od, .func fd, osl⟩ ∧ PySem.W.codeIn K (.ref c) "law" = true
include T_ in
theorem law_fn {base : Heap} {fa c D c1 D1 fc : Addr} {fd fdc : FuncData} (F : LawA K (top 43) fa fd c) (C : CaseF K mg fc fdc c1) (TB : LamX.TabB base mg c D) (TB1 : LamX.TabB base mg c1 D1) (hne : D ≠ D1) : FnOk P w K mg base (L2.CX P w) 9 fa fd ["script"] (spLaw K D D1) := by
  obtain ⟨oc, od, dV, kV, doc, pm, an, ct, osl, rfl, lk, hcd⟩ := F.ex
  refine fn_of (k := 8) lk hcd sc43 (fun vs H Q E h => ?_) (fun A outer s H vs Q Ex hr h => ?_)
  · obtain ⟨a, ns, rfl, _⟩ := h
    rfl
  obtain ⟨a, ns, rfl, hD, hD1, hS, hQ⟩ := h
  obtain ⟨E', hl⟩ := law_ok T_ (P := P) (w := w) (q := lawQ) C TB TB1 hne ns
  obtain ⟨Z, zz, nt, hz⟩ := seq_frozen hS
  refine ⟨RLs (lawS P w K mg base) (LawF c lawQ) (fun cls d _ H => Ex cls d H) (defBody (top 43)), ⟨fun pins s' σ H' D I q => q _ ⟨⟨_, _, _, _, _, _, _, _, _, rfl⟩, hr, rfl, takes_of rfl rfl rfl rfl, passes_of rfl⟩ ⟨rfl, by unfold lawQ; dsimp only [cxOf, envOfC]⟩ pins s' I⟩, ?_⟩
  refine hl _ Z H _ _ ⟨zz, nt, rfl, fun i t h => ?_, fun i t h => ?_, fun i j b t u h1 _ _ _ => ?_⟩ (fun p hp => ?_) fun v Z' H' r _ => hQ v H' (rep_bl.mp r)
  · match i with
    | 0 =>
      cases h
      exact ⟨.ref a, rfl, rep_slst.mpr ⟨a, _, rfl, hz, reps_ns ns⟩⟩
    | i + 1 =>
      rw [List.getElem?_cons_succ, List.getElem?_replicate] at h
      split at h <;> cases h
  · match i with
    | 0 => cases h
    | i + 1 =>
      rw [List.getElem?_cons_succ, List.getElem?_replicate] at h
      split at h <;> cases h
  · match i with
    | 0 => cases h1
    | i + 1 =>
      rw [List.getElem?_cons_succ, List.getElem?_replicate] at h1
      split at h1 <;> cases h1
  · simp only [List.mem_cons, List.not_mem_nil, or_false] at hp
    rcases hp with rfl | rfl
    · exact LamX.TabS.nil hD
    · exact LamX.TabS.nil hD1
theorem law_at {l : PySem.W.OpenLaw} {w : World} {h : Heap} {fa c D c1 D1 fc : Addr} {fd fdc : FuncData} (T_ : Tx K mg) (F : LawA K (top 43) fa fd c) (C : CaseF K mg fc fdc c1) (hne : D ≠ D1) (hb : ∀ (s : Shared) (u : Value), BindsTo s fd ⟨[u], []⟩ [("script", u)]) (hT : h.get? D = some { cls := .none, data := .fields #[] }) (nT : K.lookup D = none) (hC : PySem.W.CodeHd h c D) (hT1 : h.get? D1 = some { cls := .none, data := .fields #[] }) (nT1 : K.lookup D1 = none) (hC1 : PySem.W.CodeHd h c1 D1) :
    LamX.LawAtS l w K (L2.CX l.prog w) 9 63 "script" mg fa h := by
  refine ⟨fd, [(c, D), (c1, D1)], spLaw K D D1, fun p hp => ?_, fun p hp => ?_, fun p hp => ?_, hb, fun H a ns _ _ ht hS => ⟨a, ns, rfl, ht (c, D) (by simp), ht (c1, D1) (by simp), hS, fun v H' e => e⟩, fun base _ _ tb => law_fn T_ F C (tb (c, D) (by simp)) (tb (c1, D1) (by simp)) hne⟩
  all_goals
    simp only [List.mem_cons, List.not_mem_nil, or_false] at hp
    rcases hp with rfl | rfl <;> assumption
end
end K01
end Cw
end L2

set_option Elab.async false
set_option linter.all false
set_option maxRecDepth 100000
set_option maxHeartbeats 8000000
namespace L2
namespace Cw
namespace K01
open PySem PySem.Spec PyProof.Rows
/-- what fills up is one text, or nothing -/
theorem one_text {K : PySem.W.Frag} {fd : FuncData} {ps : List Str} {x : Str} (h : ∃ ds, Vals [.str x] ds ∧ Binds K fd ps ds) : ∃ t, Binds K fd ps [.str x t] := by
  obtain ⟨_, r, b⟩ := h
  cases r with
  | cons r1 r2 =>
    cases r2
    obtain ⟨t, rfl⟩ := r1
    exact ⟨t, b⟩
theorem no_text {K : PySem.W.Frag} {fd : FuncData} {ps : List Str} (h : ∃ ds, Vals [] ds ∧ Binds K fd ps ds) : Binds K fd ps [] := by
  obtain ⟨_, r, b⟩ := h
  cases r
  exact b
/-- a tuple that stands from the start -/
theorem rep_tupK {K : PySem.W.Frag} {Z : Hp} {a : Addr} {od : Option Addr} {its : Array Value} {n : Nat} {sl : Array (Option Value)} {ts : List T} {vs : List V} (l : K.lookup a = some ⟨.type "tuple", od, .seq its n, sl⟩) (hs : its.size ≤ sizeLine) (r : Reps K Z ts vs) (hv : Vals vs its.toList) : Rep K Z (.wtup ts) (.ref a) :=
  rep_wtup.mpr ⟨a, vs, rfl, .inr ⟨_, its, n, l, rfl, rfl, hs, hv⟩, r⟩
theorem rep_sq {K : PySem.W.Frag} {Z : Hp} {a : Addr} {od : Option Addr} {y x : Int} {i j : Nat} {n : Nat} {sl : Array (Option Value)} (l : K.lookup a = some ⟨.type "tuple", od, .seq #[.int y i, .int x j] n, sl⟩) : Rep K Z (wsqT (y, x)) (.ref a) :=
  rep_tupK l (show 2 ≤ sizeLine by decide) (.cons (rep_int.mpr rfl) (.cons (rep_int.mpr rfl) .nil)) (.cons ⟨_, rfl⟩ (.cons ⟨_, rfl⟩ .nil))
theorem all_mk {l : PySem.W.OpenLaw} {w : World} {K : PySem.W.Frag} {h : Heap} {mg : Str → Option Value} {fa f15 f16 f17 f18 f19 f20 f21 f22 f23 f24 f25 f26 f27 f28 f29 f30 f33 f34 f36 f37 f38 f39 f40 f41 f31 T31 f32 T32 CS CT ERule EStep EPaper ESize EStore ENoWay ENoSuch GA PA0 PA1 PA2 PA3 GB PB0 PB1 PB2 PB3 PB4 PB5 PB6 PB7 f42 c1 D1 f43 cc DD : Addr} (X : K.In h) (G : h.Ns mainGlobals mg) (hfa : mg "law" = some (.ref fa))
    {od15 an15 od16 an16 od17 an17 od18 an18 od19 an19 od20 an20 od21 an21 od22 an22 od23 an23 od24 an24 od25 an25 od26 an26 od27 an27 od28 an28 od29 an29 od30 an30 od33 an33 od34 an34 od36 an36 od37 an37 od38 an38 od39 an39 od40 an40 od41 an41 od31 an31 dod31 od32 an32 dod32 godA podA0 podA1 podA2 podA3 godB podB0 podB1 podB2 podB3 podB4 podB5 podB6 podB7 od42 an42 cod42 od43 an43 cod43 : Option Addr} {sl15 sl16 sl17 sl18 sl19 sl20 sl21 sl22 sl23 sl24 sl25 sl26 sl27 sl28 sl29 sl30 sl33 sl34 sl36 sl37 sl38 sl39 sl40 sl41 sl31 dsl31 sl32 dsl32 gslA pslA0 pslA1 pslA2 pslA3 gslB pslB0 pslB1 pslB2 pslB3 pslB4 pslB5 pslB6 pslB7 sl42 csl42 sl43 csl43 : Array (Option Value)} {oc15 kV15 dc15 pm15 cd15 ct15 oc16 kV16 dc16 pm16 cd16 ct16 oc17 kV17 dc17 pm17 cd17 ct17 oc18 kV18 dc18 pm18 cd18 ct18 oc19 kV19 dc19 pm19 cd19 ct19 oc20 kV20 dc20 pm20 cd20 ct20 oc21 kV21 dc21 pm21 cd21 ct21 oc22 kV22 dc22 pm22 cd22 ct22 oc23 kV23 dc23 pm23 cd23 ct23 oc24 kV24 dc24 pm24 cd24 ct24 oc25 kV25 dc25 pm25 cd25 ct25 oc26 kV26 dc26 pm26 cd26 ct26 oc27 kV27 dc27 pm27 cd27 ct27 oc28 kV28 dc28 pm28 cd28 ct28 oc29 kV29 dc29 pm29 cd29 ct29 oc30 kV30 dc30 pm30 cd30 ct30 oc33 kV33 dc33 pm33 cd33 ct33 oc34 kV34 dc34 pm34 cd34 ct34 oc36 kV36 dc36 pm36 cd36 ct36 oc37 kV37 dc37 pm37 cd37 ct37 oc38 kV38 dc38 pm38 cd38 ct38 oc39 kV39 dc39 pm39 cd39 ct39 oc40 kV40 dc40 pm40 cd40 ct40 oc41 kV41 dc41 pm41 cd41 ct41 oc31 kV31 dc31 pm31 cd31 ct31 oc32 kV32 dc32 pm32 cd32 ct32 oc42 kV42 dc42 pm42 ct42 oc43 kV43 dc43 pm43 ct43 dcl31 dcl32 ccl42 ccl43 : Value} {dn31 ds31 dn32 ds32 nF gnA pnA0 pnA1 pnA2 pnA3 gnB pnB0 pnB1 pnB2 pnB3 pnB4 pnB5 pnB6 pnB7 piA0 pjA0 piA1 pjA1 piA2 pjA2 piA3 pjA3 piB0 pjB0 piB1 pjB1 piB2 pjB2 piB3 pjB3 piB4 pjB4 piB5 pjB5 piB6 pjB6 piB7 pjB7 : Nat} {vs42 vs43 : Array Value}
    (a15 : PySem.W.nsIn K mainGlobals "check_size" = some (some (.ref f15)))
    (l15 : K.lookup f15 = some ⟨oc15, od15, .func (PySem.W.fnOf "check_size" "check_size" (defArgs (top 15)) (defBody (top 15)) (defScope (top 15)) .none kV15 dc15 pm15 an15 cd15 ct15), sl15⟩)
    (c15 : PySem.W.codeIn K cd15 "check_size" = true)
    (k15 : PySem.W.keepIn K (.ref f15) = true)
    (a16 : PySem.W.nsIn K mainGlobals "all_squares" = some (some (.ref f16)))
    (l16 : K.lookup f16 = some ⟨oc16, od16, .func (PySem.W.fnOf "all_squares" "all_squares" (defArgs (top 16)) (defBody (top 16)) (defScope (top 16)) .none kV16 dc16 pm16 an16 cd16 ct16), sl16⟩)
    (c16 : PySem.W.codeIn K cd16 "all_squares" = true)
    (k16 : PySem.W.keepIn K (.ref f16) = true)
    (a17 : PySem.W.nsIn K mainGlobals "row_of" = some (some (.ref f17)))
    (l17 : K.lookup f17 = some ⟨oc17, od17, .func (PySem.W.fnOf "row_of" "row_of" (defArgs (top 17)) (defBody (top 17)) (defScope (top 17)) .none kV17 dc17 pm17 an17 cd17 ct17), sl17⟩)
    (c17 : PySem.W.codeIn K cd17 "row_of" = true)
    (k17 : PySem.W.keepIn K (.ref f17) = true)
    (a18 : PySem.W.nsIn K mainGlobals "column_of" = some (some (.ref f18)))
    (l18 : K.lookup f18 = some ⟨oc18, od18, .func (PySem.W.fnOf "column_of" "column_of" (defArgs (top 18)) (defBody (top 18)) (defScope (top 18)) .none kV18 dc18 pm18 an18 cd18 ct18), sl18⟩)
    (c18 : PySem.W.codeIn K cd18 "column_of" = true)
    (k18 : PySem.W.keepIn K (.ref f18) = true)
    (a19 : PySem.W.nsIn K mainGlobals "stepped" = some (some (.ref f19)))
    (l19 : K.lookup f19 = some ⟨oc19, od19, .func (PySem.W.fnOf "stepped" "stepped" (defArgs (top 19)) (defBody (top 19)) (defScope (top 19)) .none kV19 dc19 pm19 an19 cd19 ct19), sl19⟩)
    (c19 : PySem.W.codeIn K cd19 "stepped" = true)
    (k19 : PySem.W.keepIn K (.ref f19) = true)
    (a20 : PySem.W.nsIn K mainGlobals "on_board" = some (some (.ref f20)))
    (l20 : K.lookup f20 = some ⟨oc20, od20, .func (PySem.W.fnOf "on_board" "on_board" (defArgs (top 20)) (defBody (top 20)) (defScope (top 20)) .none kV20 dc20 pm20 an20 cd20 ct20), sl20⟩)
    (c20 : PySem.W.codeIn K cd20 "on_board" = true)
    (k20 : PySem.W.keepIn K (.ref f20) = true)
    (a21 : PySem.W.nsIn K mainGlobals "beside" = some (some (.ref f21)))
    (l21 : K.lookup f21 = some ⟨oc21, od21, .func (PySem.W.fnOf "beside" "beside" (defArgs (top 21)) (defBody (top 21)) (defScope (top 21)) .none kV21 dc21 pm21 an21 cd21 ct21), sl21⟩)
    (c21 : PySem.W.codeIn K cd21 "beside" = true)
    (k21 : PySem.W.keepIn K (.ref f21) = true)
    (a22 : PySem.W.nsIn K mainGlobals "around" = some (some (.ref f22)))
    (l22 : K.lookup f22 = some ⟨oc22, od22, .func (PySem.W.fnOf "around" "around" (defArgs (top 22)) (defBody (top 22)) (defScope (top 22)) .none kV22 dc22 pm22 an22 cd22 ct22), sl22⟩)
    (c22 : PySem.W.codeIn K cd22 "around" = true)
    (k22 : PySem.W.keepIn K (.ref f22) = true)
    (a23 : PySem.W.nsIn K mainGlobals "box_at" = some (some (.ref f23)))
    (l23 : K.lookup f23 = some ⟨oc23, od23, .func (PySem.W.fnOf "box_at" "box_at" (defArgs (top 23)) (defBody (top 23)) (defScope (top 23)) .none kV23 dc23 pm23 an23 cd23 ct23), sl23⟩)
    (c23 : PySem.W.codeIn K cd23 "box_at" = true)
    (k23 : PySem.W.keepIn K (.ref f23) = true)
    (a24 : PySem.W.nsIn K mainGlobals "boxes" = some (some (.ref f24)))
    (l24 : K.lookup f24 = some ⟨oc24, od24, .func (PySem.W.fnOf "boxes" "boxes" (defArgs (top 24)) (defBody (top 24)) (defScope (top 24)) .none kV24 dc24 pm24 an24 cd24 ct24), sl24⟩)
    (c24 : PySem.W.codeIn K cd24 "boxes" = true)
    (k24 : PySem.W.keepIn K (.ref f24) = true)
    (a25 : PySem.W.nsIn K mainGlobals "lots_of" = some (some (.ref f25)))
    (l25 : K.lookup f25 = some ⟨oc25, od25, .func (PySem.W.fnOf "lots_of" "lots_of" (defArgs (top 25)) (defBody (top 25)) (defScope (top 25)) .none kV25 dc25 pm25 an25 cd25 ct25), sl25⟩)
    (c25 : PySem.W.codeIn K cd25 "lots_of" = true)
    (k25 : PySem.W.keepIn K (.ref f25) = true)
    (a26 : PySem.W.nsIn K mainGlobals "check_rows" = some (some (.ref f26)))
    (l26 : K.lookup f26 = some ⟨oc26, od26, .func (PySem.W.fnOf "check_rows" "check_rows" (defArgs (top 26)) (defBody (top 26)) (defScope (top 26)) .none kV26 dc26 pm26 an26 cd26 ct26), sl26⟩)
    (c26 : PySem.W.codeIn K cd26 "check_rows" = true)
    (k26 : PySem.W.keepIn K (.ref f26) = true)
    (a27 : PySem.W.nsIn K mainGlobals "reached" = some (some (.ref f27)))
    (l27 : K.lookup f27 = some ⟨oc27, od27, .func (PySem.W.fnOf "reached" "reached" (defArgs (top 27)) (defBody (top 27)) (defScope (top 27)) .none kV27 dc27 pm27 an27 cd27 ct27), sl27⟩)
    (c27 : PySem.W.codeIn K cd27 "reached" = true)
    (k27 : PySem.W.keepIn K (.ref f27) = true)
    (a28 : PySem.W.nsIn K mainGlobals "hangs" = some (some (.ref f28)))
    (l28 : K.lookup f28 = some ⟨oc28, od28, .func (PySem.W.fnOf "hangs" "hangs" (defArgs (top 28)) (defBody (top 28)) (defScope (top 28)) .none kV28 dc28 pm28 an28 cd28 ct28), sl28⟩)
    (c28 : PySem.W.codeIn K cd28 "hangs" = true)
    (k28 : PySem.W.keepIn K (.ref f28) = true)
    (a29 : PySem.W.nsIn K mainGlobals "parts_of" = some (some (.ref f29)))
    (l29 : K.lookup f29 = some ⟨oc29, od29, .func (PySem.W.fnOf "parts_of" "parts_of" (defArgs (top 29)) (defBody (top 29)) (defScope (top 29)) .none kV29 dc29 pm29 an29 cd29 ct29), sl29⟩)
    (c29 : PySem.W.codeIn K cd29 "parts_of" = true)
    (k29 : PySem.W.keepIn K (.ref f29) = true)
    (a30 : PySem.W.nsIn K mainGlobals "sign_at" = some (some (.ref f30)))
    (l30 : K.lookup f30 = some ⟨oc30, od30, .func (PySem.W.fnOf "sign_at" "sign_at" (defArgs (top 30)) (defBody (top 30)) (defScope (top 30)) .none kV30 dc30 pm30 an30 cd30 ct30), sl30⟩)
    (c30 : PySem.W.codeIn K cd30 "sign_at" = true)
    (k30 : PySem.W.keepIn K (.ref f30) = true)
    (a33 : PySem.W.nsIn K mainGlobals "turned" = some (some (.ref f33)))
    (l33 : K.lookup f33 = some ⟨oc33, od33, .func (PySem.W.fnOf "turned" "turned" (defArgs (top 33)) (defBody (top 33)) (defScope (top 33)) .none kV33 dc33 pm33 an33 cd33 ct33), sl33⟩)
    (c33 : PySem.W.codeIn K cd33 "turned" = true)
    (k33 : PySem.W.keepIn K (.ref f33) = true)
    (a34 : PySem.W.nsIn K mainGlobals "mirrored" = some (some (.ref f34)))
    (l34 : K.lookup f34 = some ⟨oc34, od34, .func (PySem.W.fnOf "mirrored" "mirrored" (defArgs (top 34)) (defBody (top 34)) (defScope (top 34)) .none kV34 dc34 pm34 an34 cd34 ct34), sl34⟩)
    (c34 : PySem.W.codeIn K cd34 "mirrored" = true)
    (k34 : PySem.W.keepIn K (.ref f34) = true)
    (a36 : PySem.W.nsIn K mainGlobals "_law_flat" = some (some (.ref f36)))
    (l36 : K.lookup f36 = some ⟨oc36, od36, .func (PySem.W.fnOf "_law_flat" "_law_flat" (defArgs (top 36)) (defBody (top 36)) (defScope (top 36)) .none kV36 dc36 pm36 an36 cd36 ct36), sl36⟩)
    (c36 : PySem.W.codeIn K cd36 "_law_flat" = true)
    (k36 : PySem.W.keepIn K (.ref f36) = true)
    (a37 : PySem.W.nsIn K mainGlobals "_law_dice" = some (some (.ref f37)))
    (l37 : K.lookup f37 = some ⟨oc37, od37, .func (PySem.W.fnOf "_law_dice" "_law_dice" (defArgs (top 37)) (defBody (top 37)) (defScope (top 37)) .none kV37 dc37 pm37 an37 cd37 ct37), sl37⟩)
    (c37 : PySem.W.codeIn K cd37 "_law_dice" = true)
    (k37 : PySem.W.keepIn K (.ref f37) = true)
    (a38 : PySem.W.nsIn K mainGlobals "_law_roll" = some (some (.ref f38)))
    (l38 : K.lookup f38 = some ⟨oc38, od38, .func (PySem.W.fnOf "_law_roll" "_law_roll" (defArgs (top 38)) (defBody (top 38)) (defScope (top 38)) .none kV38 dc38 pm38 an38 cd38 ct38), sl38⟩)
    (c38 : PySem.W.codeIn K cd38 "_law_roll" = true)
    (k38 : PySem.W.keepIn K (.ref f38) = true)
    (a39 : PySem.W.nsIn K mainGlobals "_law_rounds" = some (some (.ref f39)))
    (l39 : K.lookup f39 = some ⟨oc39, od39, .func (PySem.W.fnOf "_law_rounds" "_law_rounds" (defArgs (top 39)) (defBody (top 39)) (defScope (top 39)) .none kV39 dc39 pm39 an39 cd39 ct39), sl39⟩)
    (c39 : PySem.W.codeIn K cd39 "_law_rounds" = true)
    (k39 : PySem.W.keepIn K (.ref f39) = true)
    (a40 : PySem.W.nsIn K mainGlobals "_law_told" = some (some (.ref f40)))
    (l40 : K.lookup f40 = some ⟨oc40, od40, .func (PySem.W.fnOf "_law_told" "_law_told" (defArgs (top 40)) (defBody (top 40)) (defScope (top 40)) .none kV40 dc40 pm40 an40 cd40 ct40), sl40⟩)
    (c40 : PySem.W.codeIn K cd40 "_law_told" = true)
    (k40 : PySem.W.keepIn K (.ref f40) = true)
    (a41 : PySem.W.nsIn K mainGlobals "_law_cells" = some (some (.ref f41)))
    (l41 : K.lookup f41 = some ⟨oc41, od41, .func (PySem.W.fnOf "_law_cells" "_law_cells" (defArgs (top 41)) (defBody (top 41)) (defScope (top 41)) .none kV41 dc41 pm41 an41 cd41 ct41), sl41⟩)
    (c41 : PySem.W.codeIn K cd41 "_law_cells" = true)
    (k41 : PySem.W.keepIn K (.ref f41) = true)
    (a31 : PySem.W.nsIn K mainGlobals "told" = some (some (.ref f31)))
    (l31 : K.lookup f31 = some ⟨oc31, od31, .func (PySem.W.fnOf "told" "told" (defArgs (top 31)) (defBody (top 31)) (defScope (top 31)) (.ref T31) kV31 dc31 pm31 an31 cd31 ct31), sl31⟩)
    (c31 : PySem.W.codeIn K cd31 "told" = true)
    (k31 : PySem.W.keepIn K (.ref f31) = true)
    (d31 : K.lookup T31 = some ⟨dcl31, dod31, .seq #[.str "." ds31] dn31, dsl31⟩)
    (a32 : PySem.W.nsIn K mainGlobals "read" = some (some (.ref f32)))
    (l32 : K.lookup f32 = some ⟨oc32, od32, .func (PySem.W.fnOf "read" "read" (defArgs (top 32)) (defBody (top 32)) (defScope (top 32)) (.ref T32) kV32 dc32 pm32 an32 cd32 ct32), sl32⟩)
    (c32 : PySem.W.codeIn K cd32 "read" = true)
    (k32 : PySem.W.keepIn K (.ref f32) = true)
    (d32 : K.lookup T32 = some ⟨dcl32, dod32, .seq #[.str "." ds32] dn32, dsl32⟩)
    (gS : PySem.W.nsIn K mainGlobals "BadSquare" = some (some (.ref CS)))
    (xS : PySem.W.excIn K CS [.type "ValueError", .type "Exception", .type "BaseException", .type "object"] "ValueError.__new__" = true)
    (pS : PySem.W.keepIn K (.ref CS) = true)
    (sS : PySem.W.subIn K (.ref CS) (.type "BaseException") = some true)
    (tS : PySem.W.typeIn K (.ref CS) = some (.type "type"))
    (hS : PySem.W.hasDictIn K CS = true)
    (gT : PySem.W.nsIn K mainGlobals "BadText" = some (some (.ref CT)))
    (xT : PySem.W.excIn K CT [.type "ValueError", .type "Exception", .type "BaseException", .type "object"] "ValueError.__new__" = true)
    (pT : PySem.W.keepIn K (.ref CT) = true)
    (sT : PySem.W.subIn K (.ref CT) (.type "BaseException") = some true)
    (tT : PySem.W.typeIn K (.ref CT) = some (.type "type"))
    (hT : PySem.W.hasDictIn K CT = true)
    (eRule : PySem.W.nsIn K mainGlobals "BadRule" = some (some (.ref ERule)))
    (eStep : PySem.W.nsIn K mainGlobals "BadStep" = some (some (.ref EStep)))
    (ePaper : PySem.W.nsIn K mainGlobals "BadPaper" = some (some (.ref EPaper)))
    (eSize : PySem.W.nsIn K mainGlobals "BadSize" = some (some (.ref ESize)))
    (eStore : PySem.W.nsIn K mainGlobals "BadStore" = some (some (.ref EStore)))
    (eNoWay : PySem.W.nsIn K mainGlobals "NoWay" = some (some (.ref ENoWay)))
    (eNoSuch : PySem.W.nsIn K mainGlobals "NoSuch" = some (some (.ref ENoSuch)))
    (qSS : PySem.W.subIn K (.ref CS) (.ref CS) = some true)
    (qTS : PySem.W.subIn K (.ref CT) (.ref CS) = some false)
    (qTT : PySem.W.subIn K (.ref CT) (.ref CT) = some true)
    (sRule : PySem.W.subIn K (.ref ERule) (.type "BaseException") = some true)
    (hRule : PySem.W.hasDictIn K ERule = true)
    (tRule : PySem.W.typeIn K (.ref ERule) = some (.type "type"))
    (qRule : PySem.W.subIn K (.ref CT) (.ref ERule) = some false)
    (sStep : PySem.W.subIn K (.ref EStep) (.type "BaseException") = some true)
    (hStep : PySem.W.hasDictIn K EStep = true)
    (tStep : PySem.W.typeIn K (.ref EStep) = some (.type "type"))
    (qStep : PySem.W.subIn K (.ref CT) (.ref EStep) = some false)
    (sPaper : PySem.W.subIn K (.ref EPaper) (.type "BaseException") = some true)
    (hPaper : PySem.W.hasDictIn K EPaper = true)
    (tPaper : PySem.W.typeIn K (.ref EPaper) = some (.type "type"))
    (qPaper : PySem.W.subIn K (.ref CT) (.ref EPaper) = some false)
    (sSize : PySem.W.subIn K (.ref ESize) (.type "BaseException") = some true)
    (hSize : PySem.W.hasDictIn K ESize = true)
    (tSize : PySem.W.typeIn K (.ref ESize) = some (.type "type"))
    (qSize : PySem.W.subIn K (.ref CT) (.ref ESize) = some false)
    (aF : PySem.W.nsIn K mainGlobals "FIGURES" = some (some (.str "0123456789" nF)))
    (gA0 : PySem.W.nsIn K mainGlobals "SIDES" = some (some (.ref GA)))
    (glA : K.lookup GA = some ⟨.type "tuple", godA, .seq #[.ref PA0, .ref PA1, .ref PA2, .ref PA3] gnA, gslA⟩)
    (plA0 : K.lookup PA0 = some ⟨.type "tuple", podA0, .seq #[.int (-1) piA0, .int 0 pjA0] pnA0, pslA0⟩)
    (plA1 : K.lookup PA1 = some ⟨.type "tuple", podA1, .seq #[.int 0 piA1, .int (-1) pjA1] pnA1, pslA1⟩)
    (plA2 : K.lookup PA2 = some ⟨.type "tuple", podA2, .seq #[.int 0 piA2, .int 1 pjA2] pnA2, pslA2⟩)
    (plA3 : K.lookup PA3 = some ⟨.type "tuple", podA3, .seq #[.int 1 piA3, .int 0 pjA3] pnA3, pslA3⟩)
    (gB0 : PySem.W.nsIn K mainGlobals "SIDES_AND_CORNERS" = some (some (.ref GB)))
    (glB : K.lookup GB = some ⟨.type "tuple", godB, .seq #[.ref PB0, .ref PB1, .ref PB2, .ref PB3, .ref PB4, .ref PB5, .ref PB6, .ref PB7] gnB, gslB⟩)
    (plB0 : K.lookup PB0 = some ⟨.type "tuple", podB0, .seq #[.int (-1) piB0, .int (-1) pjB0] pnB0, pslB0⟩)
    (plB1 : K.lookup PB1 = some ⟨.type "tuple", podB1, .seq #[.int (-1) piB1, .int 0 pjB1] pnB1, pslB1⟩)
    (plB2 : K.lookup PB2 = some ⟨.type "tuple", podB2, .seq #[.int (-1) piB2, .int 1 pjB2] pnB2, pslB2⟩)
    (plB3 : K.lookup PB3 = some ⟨.type "tuple", podB3, .seq #[.int 0 piB3, .int (-1) pjB3] pnB3, pslB3⟩)
    (plB4 : K.lookup PB4 = some ⟨.type "tuple", podB4, .seq #[.int 0 piB4, .int 1 pjB4] pnB4, pslB4⟩)
    (plB5 : K.lookup PB5 = some ⟨.type "tuple", podB5, .seq #[.int 1 piB5, .int (-1) pjB5] pnB5, pslB5⟩)
    (plB6 : K.lookup PB6 = some ⟨.type "tuple", podB6, .seq #[.int 1 piB6, .int 0 pjB6] pnB6, pslB6⟩)
    (plB7 : K.lookup PB7 = some ⟨.type "tuple", podB7, .seq #[.int 1 piB7, .int 1 pjB7] pnB7, pslB7⟩)
    (znAbs : PySem.W.nsIn K mainGlobals "abs" = some none)
    (znAny : PySem.W.nsIn K mainGlobals "any" = some none)
    (znDict : PySem.W.nsIn K mainGlobals "dict" = some none)
    (znEnum : PySem.W.nsIn K mainGlobals "enumerate" = some none)
    (znInt : PySem.W.nsIn K mainGlobals "int" = some none)
    (znLen : PySem.W.nsIn K mainGlobals "len" = some none)
    (znList : PySem.W.nsIn K mainGlobals "list" = some none)
    (znMax : PySem.W.nsIn K mainGlobals "max" = some none)
    (znRange : PySem.W.nsIn K mainGlobals "range" = some none)
    (znSorted : PySem.W.nsIn K mainGlobals "sorted" = some none)
    (znStr : PySem.W.nsIn K mainGlobals "str" = some none)
    (znTuple : PySem.W.nsIn K mainGlobals "tuple" = some none)
    (a42 : PySem.W.nsIn K mainGlobals "_law_cases1" = some (some (.ref f42)))
    (a43 : PySem.W.nsIn K mainGlobals "law" = some (some (.ref f43)))
    (l42 : K.lookup f42 = some ⟨oc42, od42, .func (PySem.W.fnOf "_law_cases1" "_law_cases1" (defArgs (top 42)) (defBody (top 42)) (defScope (top 42)) .none kV42 dc42 pm42 an42 (.ref c1) ct42), sl42⟩)
    (c42 : PySem.W.codeIn K (.ref c1) "_law_cases1" = true)
    (l43 : K.lookup f43 = some ⟨oc43, od43, .func (PySem.W.fnOf "law" "law" (defArgs (top 43)) (defBody (top 43)) (defScope (top 43)) .none kV43 dc43 pm43 an43 (.ref cc) ct43), sl43⟩)
    (c43 : PySem.W.codeIn K (.ref cc) "law" = true)
    (k42 : PySem.W.keepIn K (.ref f42) = true)
    (wv42 : K.lookup c1 = some ⟨ccl42, cod42, .fields vs42, csl42⟩)
    (wp42 : vs42[11]? = some (.ref D1))
    (w242 : PySem.W.codeHdIn K c1 D1 = true)
    (w342 : K.lookup D1 = none)
    (wv43 : K.lookup cc = some ⟨ccl43, cod43, .fields vs43, csl43⟩)
    (wp43 : vs43[11]? = some (.ref DD))
    (w243 : PySem.W.codeHdIn K cc DD = true)
    (w343 : K.lookup DD = none)
    (hne : DD ≠ D1)
    (w442 : h.get? D1 = some { cls := .none, data := .fields #[] })
    (w443 : h.get? DD = some { cls := .none, data := .fields #[] }) :
    LamX.LawAtS l w K (L2.CX l.prog w) 9 63 "script" mg fa h := by
  have e := hfa.symm.trans (PySem.W.mg_of X G a43)
  cases e
  have F31 : FunD K "told" "told" (defArgs (top 31)) (defBody (top 31)) (defScope (top 31)) [.str "."] [] f31 _ := ⟨⟨_, _, _, _, _, _, _, _, _, _, rfl, l31, c31, .inr ⟨List.cons_ne_nil _ _, T31, _, [.str "." ds31], _, rfl, d31, rfl, .cons ⟨_, rfl⟩ .nil⟩, .inl rfl⟩, k31⟩
  obtain ⟨t31, b31⟩ := one_text (FunD.binds1 (ps := ["table", "high", "wide", "bare"]) F31 3 0 (List.cons_ne_nil _ _) rfl fun _ _ _ _ _ _ _ us its hl h1 => match us, hl, its, h1 with | [_, _, _], _, [_], _ => ⟨_, rfl, rfl⟩)
  have F32 : FunD K "read" "read" (defArgs (top 32)) (defBody (top 32)) (defScope (top 32)) [.str "."] [] f32 _ := ⟨⟨_, _, _, _, _, _, _, _, _, _, rfl, l32, c32, .inr ⟨List.cons_ne_nil _ _, T32, _, [.str "." ds32], _, rfl, d32, rfl, .cons ⟨_, rfl⟩ .nil⟩, .inl rfl⟩, k32⟩
  obtain ⟨t32, b32⟩ := one_text (FunD.binds1 (ps := ["rows", "bare"]) F32 1 0 (List.cons_ne_nil _ _) rfl fun _ _ _ _ _ _ _ us its hl h1 => match us, hl, its, h1 with | [_], _, [_], _ => ⟨_, rfl, rfl⟩)
  have b2 := no_text (FunD.binds1 (ps := ["rows", "bare"]) F32 2 1 (List.cons_ne_nil _ _) rfl fun _ _ _ _ _ _ _ us its hl h1 => match us, hl, its, h1 with | [_, _], _, [_], _ => ⟨_, rfl, rfl⟩)
  exact law_at { check_size := ⟨f15, _, funA_mk l15 c15 k15, PySem.W.mg_of X G a15, (fun_mk (st := top 15) l15 c15 k15).binds (ps := ["high", "wide"]) fun _ _ _ _ _ _ us hl => match us, hl with | [_, _], _ => rfl⟩, all_squares := ⟨f16, _, funA_mk l16 c16 k16, PySem.W.mg_of X G a16, (fun_mk (st := top 16) l16 c16 k16).binds (ps := ["high", "wide"]) fun _ _ _ _ _ _ us hl => match us, hl with | [_, _], _ => rfl⟩, row_of := ⟨f17, _, funA_mk l17 c17 k17, PySem.W.mg_of X G a17, (fun_mk (st := top 17) l17 c17 k17).binds (ps := ["y", "wide"]) fun _ _ _ _ _ _ us hl => match us, hl with | [_, _], _ => rfl⟩, column_of := ⟨f18, _, funA_mk l18 c18 k18, PySem.W.mg_of X G a18, (fun_mk (st := top 18) l18 c18 k18).binds (ps := ["x", "high"]) fun _ _ _ _ _ _ us hl => match us, hl with | [_, _], _ => rfl⟩, stepped := ⟨f19, _, funA_mk l19 c19 k19, PySem.W.mg_of X G a19, (fun_mk (st := top 19) l19 c19 k19).binds (ps := ["spot", "moves"]) fun _ _ _ _ _ _ us hl => match us, hl with | [_, _], _ => rfl⟩, on_board := ⟨f20, _, funA_mk l20 c20 k20, PySem.W.mg_of X G a20, (fun_mk (st := top 20) l20 c20 k20).binds (ps := ["spots", "high", "wide"]) fun _ _ _ _ _ _ us hl => match us, hl with | [_, _, _], _ => rfl⟩, beside := ⟨f21, _, funA_mk l21 c21 k21, PySem.W.mg_of X G a21, (fun_mk (st := top 21) l21 c21 k21).binds (ps := ["spot", "high", "wide"]) fun _ _ _ _ _ _ us hl => match us, hl with | [_, _, _], _ => rfl⟩, around := ⟨f22, _, funA_mk l22 c22 k22, PySem.W.mg_of X G a22, (fun_mk (st := top 22) l22 c22 k22).binds (ps := ["spot", "high", "wide"]) fun _ _ _ _ _ _ us hl => match us, hl with | [_, _, _], _ => rfl⟩, box_at := ⟨f23, _, funA_mk l23 c23 k23, PySem.W.mg_of X G a23, (fun_mk (st := top 23) l23 c23 k23).binds (ps := ["top", "left", "tall", "broad"]) fun _ _ _ _ _ _ us hl => match us, hl with | [_, _, _, _], _ => rfl⟩, boxes := ⟨f24, _, funA_mk l24 c24 k24, PySem.W.mg_of X G a24, (fun_mk (st := top 24) l24 c24 k24).binds (ps := ["high", "wide", "tall", "broad"]) fun _ _ _ _ _ _ us hl => match us, hl with | [_, _, _, _], _ => rfl⟩, lots_of := ⟨f25, _, funA_mk l25 c25 k25, PySem.W.mg_of X G a25, (fun_mk (st := top 25) l25 c25 k25).binds (ps := ["rows"]) fun _ _ _ _ _ _ us hl => match us, hl with | [_], _ => rfl⟩, check_rows := ⟨f26, _, funA_mk l26 c26 k26, PySem.W.mg_of X G a26, (fun_mk (st := top 26) l26 c26 k26).binds (ps := ["rows"]) fun _ _ _ _ _ _ us hl => match us, hl with | [_], _ => rfl⟩, reached := ⟨f27, _, funA_mk l27 c27 k27, PySem.W.mg_of X G a27, (fun_mk (st := top 27) l27 c27 k27).binds (ps := ["spot", "lot"]) fun _ _ _ _ _ _ us hl => match us, hl with | [_, _], _ => rfl⟩, hangs := ⟨f28, _, funA_mk l28 c28 k28, PySem.W.mg_of X G a28, (fun_mk (st := top 28) l28 c28 k28).binds (ps := ["spots"]) fun _ _ _ _ _ _ us hl => match us, hl with | [_], _ => rfl⟩, parts_of := ⟨f29, _, funA_mk l29 c29 k29, PySem.W.mg_of X G a29, (fun_mk (st := top 29) l29 c29 k29).binds (ps := ["spots"]) fun _ _ _ _ _ _ us hl => match us, hl with | [_], _ => rfl⟩, sign_at := ⟨f30, _, funA_mk l30 c30 k30, PySem.W.mg_of X G a30, (fun_mk (st := top 30) l30 c30 k30).binds (ps := ["table", "spot", "bare"]) fun _ _ _ _ _ _ us hl => match us, hl with | [_, _, _], _ => rfl⟩, turned := ⟨f33, _, funA_mk l33 c33 k33, PySem.W.mg_of X G a33, (fun_mk (st := top 33) l33 c33 k33).binds (ps := ["table", "high", "wide"]) fun _ _ _ _ _ _ us hl => match us, hl with | [_, _, _], _ => rfl⟩, mirrored := ⟨f34, _, funA_mk l34 c34 k34, PySem.W.mg_of X G a34, (fun_mk (st := top 34) l34 c34 k34).binds (ps := ["table", "wide"]) fun _ _ _ _ _ _ us hl => match us, hl with | [_, _], _ => rfl⟩, flat := ⟨f36, _, funA_mk l36 c36 k36, PySem.W.mg_of X G a36, (fun_mk (st := top 36) l36 c36 k36).binds (ps := ["rows"]) fun _ _ _ _ _ _ us hl => match us, hl with | [_], _ => rfl⟩, dice := ⟨f37, _, funA_mk l37 c37 k37, PySem.W.mg_of X G a37, (fun_mk (st := top 37) l37 c37 k37).binds (ps := ["cell"]) fun _ _ _ _ _ _ us hl => match us, hl with | [_], _ => rfl⟩, roll := ⟨f38, _, funA_mk l38 c38 k38, PySem.W.mg_of X G a38, (fun_mk (st := top 38) l38 c38 k38).binds (ps := ["dice", "many"]) fun _ _ _ _ _ _ us hl => match us, hl with | [_, _], _ => rfl⟩, rounds := ⟨f39, _, funA_mk l39 c39 k39, PySem.W.mg_of X G a39, (fun_mk (st := top 39) l39 c39 k39).binds (ps := ["script", "most"]) fun _ _ _ _ _ _ us hl => match us, hl with | [_, _], _ => rfl⟩, told_ := ⟨f40, _, funA_mk l40 c40 k40, PySem.W.mg_of X G a40, (fun_mk (st := top 40) l40 c40 k40).binds (ps := ["what"]) fun _ _ _ _ _ _ us hl => match us, hl with | [_], _ => rfl⟩, cells := ⟨f41, _, funA_mk l41 c41 k41, PySem.W.mg_of X G a41, (fun_mk (st := top 41) l41 c41 k41).binds (ps := ["dice", "wide", "high", "letters"]) fun _ _ _ _ _ _ us hl => match us, hl with | [_, _, _, _], _ => rfl⟩, toldT := t31, told := ⟨f31, _, funA_mk l31 c31 k31, PySem.W.mg_of X G a31, b31⟩, readT := t32, read := ⟨f32, _, funA_mk l32 c32 k32, PySem.W.mg_of X G a32, b32⟩, read2 := b2, xSquare := ⟨CS, PySem.W.mg_of X G gS, xS, pS, sS, tS⟩, xText := ⟨CT, PySem.W.mg_of X G gT, xT, pT, sT, tT⟩, eRule := ERule, mRule := PySem.W.mg_of X G eRule, eStep := EStep, mStep := PySem.W.mg_of X G eStep, ePaper := EPaper, mPaper := PySem.W.mg_of X G ePaper, eSize := ESize, mSize := PySem.W.mg_of X G eSize, eStore := EStore, mStore := PySem.W.mg_of X G eStore, eNoWay := ENoWay, mNoWay := PySem.W.mg_of X G eNoWay, eNoSuch := ENoSuch, mNoSuch := PySem.W.mg_of X G eNoSuch, isSquare := PySem.W.exm_ref sS hS tS qSS, tSquare := PySem.W.exm_ref sS hS tS qTS, isText := PySem.W.exm_ref sT hT tT qTT, tRule := PySem.W.exm_ref sRule hRule tRule qRule, tStep := PySem.W.exm_ref sStep hStep tStep qStep, tPaper := PySem.W.exm_ref sPaper hPaper tPaper qPaper, tSize := PySem.W.exm_ref sSize hSize tSize qSize, figT := nF, figures := PySem.W.mg_of X G aF, sides := GA, mgSides := PySem.W.mg_of X G gA0, repSides := fun _ => rep_tupK glA (show 4 ≤ sizeLine by decide) (.cons (rep_sq plA0) (.cons (rep_sq plA1) (.cons (rep_sq plA2) (.cons (rep_sq plA3) .nil)))) (.cons rfl (.cons rfl (.cons rfl (.cons rfl .nil)))), corners := GB, mgCorners := PySem.W.mg_of X G gB0, repCorners := fun _ => rep_tupK glB (show 8 ≤ sizeLine by decide) (.cons (rep_sq plB0) (.cons (rep_sq plB1) (.cons (rep_sq plB2) (.cons (rep_sq plB3) (.cons (rep_sq plB4) (.cons (rep_sq plB5) (.cons (rep_sq plB6) (.cons (rep_sq plB7) .nil)))))))) (.cons rfl (.cons rfl (.cons rfl (.cons rfl (.cons rfl (.cons rfl (.cons rfl (.cons rfl .nil)))))))), nAbs := PySem.W.mg_none_of X G znAbs, nAny := PySem.W.mg_none_of X G znAny, nDict := PySem.W.mg_none_of X G znDict, nEnum := PySem.W.mg_none_of X G znEnum, nInt := PySem.W.mg_none_of X G znInt, nLen := PySem.W.mg_none_of X G znLen, nList := PySem.W.mg_none_of X G znList, nMax := PySem.W.mg_none_of X G znMax, nRange := PySem.W.mg_none_of X G znRange, nSorted := PySem.W.mg_none_of X G znSorted, nStr := PySem.W.mg_none_of X G znStr, nTuple := PySem.W.mg_none_of X G znTuple } ⟨_, _, _, _, _, _, _, _, _, rfl, l43, c43⟩ ⟨⟨_, _, _, _, _, _, _, _, _, rfl, l42, c42⟩, PySem.W.mg_of X G a42, k42, (fun_mk (st := top 42) l42 c42 k42).binds (ps := []) fun _ _ _ _ _ _ us hl => match us, hl with | [], _ => rfl⟩ hne (fun s v => .of_eq rfl) w443 w343 (PySem.W.codeHd_of_K X w243) w442 w342 (PySem.W.codeHd_of_K X w242)
theorem cx_none {P : Program} {w : World} {H : Hp} {s s' : Shared} {e : Value} : L2.CX P w [] H s (fun _ _ _ => False) e s' → False := fun h => match h with
  | ⟨_, _, _, _, _, _, _, _, _, _, _, _, z⟩ => z.elim
end K01
end Cw
end L2
open PySem PySem.W PyProof.Rows
set_option maxRecDepth 100000 in
set_option maxHeartbeats 0 in
theorem PySem.Challenge.cw_cluewright_k01_squares_of_a_board_holds : PySem.Challenge.rw_cluewright_k01_squares_of_a_board.Holds := by
  w_on
  o_law
  k_head
  (case hw => w_witness2)
  k_fill
  refine LamX.walk_ofTs (l := PySem.Challenge.rw_cluewright_k01_squares_of_a_board) (n := 63) (k := 9) (x := "script") (CX := fun w => L2.CX (PySem.Challenge.rw_cluewright_k01_squares_of_a_board).prog w) rfl (by decide) rfl ⟨rfl, by decide, by decide⟩ (fun w h Y => km_in_of Y) ?F (fun _ _ _ _ _ z => L2.Cw.K01.cx_none z)
  case F =>
    intro w mg fa h Y KX G hmg
    refine' L2.Cw.K01.all_mk KX G hmg ?a15 ?l15 ?c15 ?k15 ?a16 ?l16 ?c16 ?k16 ?a17 ?l17 ?c17 ?k17 ?a18 ?l18 ?c18 ?k18 ?a19 ?l19 ?c19 ?k19 ?a20 ?l20 ?c20 ?k20 ?a21 ?l21 ?c21 ?k21 ?a22 ?l22 ?c22 ?k22 ?a23 ?l23 ?c23 ?k23 ?a24 ?l24 ?c24 ?k24 ?a25 ?l25 ?c25 ?k25 ?a26 ?l26 ?c26 ?k26 ?a27 ?l27 ?c27 ?k27 ?a28 ?l28 ?c28 ?k28 ?a29 ?l29 ?c29 ?k29 ?a30 ?l30 ?c30 ?k30 ?a33 ?l33 ?c33 ?k33 ?a34 ?l34 ?c34 ?k34 ?a36 ?l36 ?c36 ?k36 ?a37 ?l37 ?c37 ?k37 ?a38 ?l38 ?c38 ?k38 ?a39 ?l39 ?c39 ?k39 ?a40 ?l40 ?c40 ?k40 ?a41 ?l41 ?c41 ?k41 ?a31 ?l31 ?c31 ?k31 ?d31 ?a32 ?l32 ?c32 ?k32 ?d32 ?gS ?xS ?pS ?sS ?tS ?hS ?gT ?xT ?pT ?sT ?tT ?hT ?eRule ?eStep ?ePaper ?eSize ?eStore ?eNoWay ?eNoSuch ?qSS ?qTS ?qTT ?sRule ?hRule ?tRule ?qRule ?sStep ?hStep ?tStep ?qStep ?sPaper ?hPaper ?tPaper ?qPaper ?sSize ?hSize ?tSize ?qSize ?aF ?gA0 ?glA ?plA0 ?plA1 ?plA2 ?plA3 ?gB0 ?glB ?plB0 ?plB1 ?plB2 ?plB3 ?plB4 ?plB5 ?plB6 ?plB7 ?znAbs ?znAny ?znDict ?znEnum ?znInt ?znLen ?znList ?znMax ?znRange ?znSorted ?znStr ?znTuple ?a42 ?a43 ?l42 ?c42 ?l43 ?c43 ?k42 ?wv42 ?wp42 ?w242 ?w342 ?wv43 ?wp43 ?w243 ?w343 ?hne ?w442 ?w443
    (case a15 => k_is)
    (case l15 => k_is)
    (case c15 => k_is)
    (case k15 => k_is)
    (case a16 => k_is)
    (case l16 => k_is)
    (case c16 => k_is)
    (case k16 => k_is)
    (case a17 => k_is)
    (case l17 => k_is)
    (case c17 => k_is)
    (case k17 => k_is)
    (case a18 => k_is)
    (case l18 => k_is)
    (case c18 => k_is)
    (case k18 => k_is)
    (case a19 => k_is)
    (case l19 => k_is)
    (case c19 => k_is)
    (case k19 => k_is)
    (case a20 => k_is)
    (case l20 => k_is)
    (case c20 => k_is)
    (case k20 => k_is)
    (case a21 => k_is)
    (case l21 => k_is)
    (case c21 => k_is)
    (case k21 => k_is)
    (case a22 => k_is)
    (case l22 => k_is)
    (case c22 => k_is)
    (case k22 => k_is)
    (case a23 => k_is)
    (case l23 => k_is)
    (case c23 => k_is)
    (case k23 => k_is)
    (case a24 => k_is)
    (case l24 => k_is)
    (case c24 => k_is)
    (case k24 => k_is)
    (case a25 => k_is)
    (case l25 => k_is)
    (case c25 => k_is)
    (case k25 => k_is)
    (case a26 => k_is)
    (case l26 => k_is)
    (case c26 => k_is)
    (case k26 => k_is)
    (case a27 => k_is)
    (case l27 => k_is)
    (case c27 => k_is)
    (case k27 => k_is)
    (case a28 => k_is)
    (case l28 => k_is)
    (case c28 => k_is)
    (case k28 => k_is)
    (case a29 => k_is)
    (case l29 => k_is)
    (case c29 => k_is)
    (case k29 => k_is)
    (case a30 => k_is)
    (case l30 => k_is)
    (case c30 => k_is)
    (case k30 => k_is)
    (case a33 => k_is)
    (case l33 => k_is)
    (case c33 => k_is)
    (case k33 => k_is)
    (case a34 => k_is)
    (case l34 => k_is)
    (case c34 => k_is)
    (case k34 => k_is)
    (case a36 => k_is)
    (case l36 => k_is)
    (case c36 => k_is)
    (case k36 => k_is)
    (case a37 => k_is)
    (case l37 => k_is)
    (case c37 => k_is)
    (case k37 => k_is)
    (case a38 => k_is)
    (case l38 => k_is)
    (case c38 => k_is)
    (case k38 => k_is)
    (case a39 => k_is)
    (case l39 => k_is)
    (case c39 => k_is)
    (case k39 => k_is)
    (case a40 => k_is)
    (case l40 => k_is)
    (case c40 => k_is)
    (case k40 => k_is)
    (case a41 => k_is)
    (case l41 => k_is)
    (case c41 => k_is)
    (case k41 => k_is)
    (case a31 => k_is)
    (case l31 => k_is)
    (case c31 => k_is)
    (case k31 => k_is)
    (case d31 => k_is)
    (case a32 => k_is)
    (case l32 => k_is)
    (case c32 => k_is)
    (case k32 => k_is)
    (case d32 => k_is)
    (case gS => k_is)
    (case xS => k_exc)
    (case pS => k_is)
    (case sS => k_is)
    (case tS => k_is)
    (case hS => k_is)
    (case gT => k_is)
    (case xT => k_exc)
    (case pT => k_is)
    (case sT => k_is)
    (case tT => k_is)
    (case hT => k_is)
    (case eRule => k_is)
    (case eStep => k_is)
    (case ePaper => k_is)
    (case eSize => k_is)
    (case eStore => k_is)
    (case eNoWay => k_is)
    (case eNoSuch => k_is)
    (case qSS => first | rfl | k_is)
    (case qTS => first | rfl | k_is)
    (case qTT => first | rfl | k_is)
    (case sRule => k_is)
    (case hRule => k_is)
    (case tRule => k_is)
    (case qRule => first | rfl | k_is)
    (case sStep => k_is)
    (case hStep => k_is)
    (case tStep => k_is)
    (case qStep => first | rfl | k_is)
    (case sPaper => k_is)
    (case hPaper => k_is)
    (case tPaper => k_is)
    (case qPaper => first | rfl | k_is)
    (case sSize => k_is)
    (case hSize => k_is)
    (case tSize => k_is)
    (case qSize => first | rfl | k_is)
    (case aF => k_is)
    (case gA0 => k_is)
    (case glA => k_is)
    (case plA0 => k_is)
    (case plA1 => k_is)
    (case plA2 => k_is)
    (case plA3 => k_is)
    (case gB0 => k_is)
    (case glB => k_is)
    (case plB0 => k_is)
    (case plB1 => k_is)
    (case plB2 => k_is)
    (case plB3 => k_is)
    (case plB4 => k_is)
    (case plB5 => k_is)
    (case plB6 => k_is)
    (case plB7 => k_is)
    (case znAbs => k_is)
    (case znAny => k_is)
    (case znDict => k_is)
    (case znEnum => k_is)
    (case znInt => k_is)
    (case znLen => k_is)
    (case znList => k_is)
    (case znMax => k_is)
    (case znRange => k_is)
    (case znSorted => k_is)
    (case znStr => k_is)
    (case znTuple => k_is)
    (case a42 => k_is)
    (case a43 => k_is)
    (case l42 => k_is)
    (case c42 => k_is)
    (case l43 => k_is)
    (case c43 => k_is)
    (case k42 => k_is)
    (case wv42 => k_is)
    (case wp42 => rfl)
    (case w242 => kernel_rfl)
    (case w342 => kernel_rfl)
    (case wv43 => k_is)
    (case wp43 => rfl)
    (case w243 => kernel_rfl)
    (case w343 => kernel_rfl)
    (case hne => decide)
    (case w442 => exact km_tabs_of Y _ (by k_mem))
    (case w443 => exact km_tabs_of Y _ (by k_mem))
#print axioms PySem.Challenge.cw_cluewright_k01_squares_of_a_board_holds
