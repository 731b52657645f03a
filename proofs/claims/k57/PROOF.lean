import PyProof.Rows.All
import Wide.All
import OpenK.AllK
import Wide.FinOn
import HandS.ForMost
import HandS.TupAny
import HandS.Wide
import HandS.IsInst
import HandS.SortKw
import KE.DataMinMax
import KE.GoesEnum
import HandS.Dict
import HandS.ListItems
import HandS.More
import HandS.Deep
import HandS.ExcOwn
import HandS.WordsExc
import HandS.Small
import HandS.FStr
import HandS.TryOnly
import HandS.ExcIs
import KE.RegKIsAll
import HandS.Words
import PySem.Challenge.RW_lendback_k57_memory_blocks
set_option Elab.async false
set_option linter.all false
set_option maxRecDepth 100000
/-! Values without the heap: tuples are data, only what may change has an address. -/
namespace Q4
open PySem L2

inductive D where
  | non | bl (b : Bool) | int (i : Int) | str (x : Str) | tup (xs : List D) | rol (xs : List D) | ref (a : Addr) | ty (n : String)
inductive DO where
  | lst (xs : List D)
  | ins (C dx : Addr) (fs : List (Str × D))
  | dct (kvs : List (Key × D))
abbrev M := Addr → Option DO
def put (m : M) (a : Addr) (o : DO) : M := fun b => if b = a then some o else m b
theorem put_same {m : M} {a : Addr} {o : DO} : put m a o a = some o := if_pos rfl
theorem put_ne {m : M} {a b : Addr} {o : DO} (h : b ≠ a) : put m a o b = m b := if_neg h
theorem put_put {m : M} {a : Addr} {o u : DO} : put (put m a o) a u = put m a u := by
  funext b; unfold put; split <;> rfl
theorem put_comm {m : M} {a b : Addr} {o u : DO} (h : a ≠ b) : put (put m a o) b u = put (put m b u) a o := by
  funext c; unfold put
  by_cases h1 : c = b
  · have : ¬ c = a := fun e => h (e.symm.trans h1)
    simp [h1, this]
    intro e; exact absurd e.symm h
  · simp [h1]

/-- a list that nobody changes: locked, or one of the module's -/
def FrzL (K : PySem.W.Frag) (H : Hp) (a : Addr) (xs : List V) : Prop :=
  (∃ o, H a = some (.frz o (.lst xs))) ∨
    ∃ (o : Obj) (its : Array Value) (n : Nat), K.lookup a = some o ∧ o.cls = .type "list" ∧ o.dict = none ∧ o.data = .seq its n ∧ its.size ≤ sizeLine ∧ Vals xs its.toList
theorem FrzL.sq {K : PySem.W.Frag} {H : Hp} {a : Addr} {xs : List V} (h : FrzL K H a xs) : SqL K H a xs := by
  rcases h with ⟨o, h⟩ | h
  · exact .inl (.inr ⟨o, h⟩)
  · exact .inr h
mutual
inductive RD (K : PySem.W.Frag) (H : Hp) : D → V → Prop
  | non : RD K H .non .non
  | bl (b : Bool) : RD K H (.bl b) (.bl b)
  | int (i : Int) : RD K H (.int i) (.int i)
  | str (x : Str) : RD K H (.str x) (.str x)
  | ref (a : Addr) : RD K H (.ref a) (.ref a)
  | ty (n : String) : RD K H (.ty n) (.ty n)
  | tup {a : Addr} {xs : List V} {ds : List D} : SqT K H a xs → RDs K H ds xs → RD K H (.tup ds) (.ref a)
  | rol {a : Addr} {xs : List V} {ds : List D} : FrzL K H a xs → RDs K H ds xs → RD K H (.rol ds) (.ref a)
inductive RDs (K : PySem.W.Frag) (H : Hp) : List D → List V → Prop
  | nil : RDs K H [] []
  | cons {v : V} {vs : List V} {d : D} {ds : List D} : RD K H d v → RDs K H ds vs → RDs K H (d :: ds) (v :: vs)
end
structure Keep (K : PySem.W.Frag) (H H' : Hp) : Prop where
  t : ∀ a xs, SqT K H a xs → SqT K H' a xs
  f : ∀ a xs, FrzL K H a xs → FrzL K H' a xs
section
variable {K : PySem.W.Frag} {H H' H'' : Hp}
theorem Keep.refl (H : Hp) : Keep K H H := ⟨fun _ _ h => h, fun _ _ h => h⟩
theorem Keep.trans (a : Keep K H H') (b : Keep K H' H'') : Keep K H H'' := ⟨fun _ _ h => b.t _ _ (a.t _ _ h), fun _ _ h => b.f _ _ (a.f _ _ h)⟩
mutual
theorem RD.mono (k : Keep K H H') : ∀ {d : D} {v : V}, RD K H d v → RD K H' d v
  | _, _, .non => .non
  | _, _, .bl b => .bl b
  | _, _, .int b => .int b
  | _, _, .str b => .str b
  | _, _, .ref b => .ref b
  | _, _, .ty b => .ty b
  | _, _, .tup h r => .tup (k.t _ _ h) (RDs.mono k r)
  | _, _, .rol h r => .rol (k.f _ _ h) (RDs.mono k r)
theorem RDs.mono (k : Keep K H H') : ∀ {d : List D} {v : List V}, RDs K H d v → RDs K H' d v
  | _, _, .nil => .nil
  | _, _, .cons h r => .cons (h.mono k) (RDs.mono k r)
end
theorem RDs.length : ∀ {ds : List D} {vs : List V}, RDs K H ds vs → ds.length = vs.length
  | _, _, .nil => rfl
  | _, _, .cons _ r => congrArg (· + 1) r.length
theorem RDs.get : ∀ {ds : List D} {vs : List V} {i : Nat} {d : D}, RDs K H ds vs → ds[i]? = some d → ∃ v, vs[i]? = some v ∧ RD K H d v
  | _, _, _, _, .nil, e => by simp at e
  | _, _, 0, _, .cons h _, e => by simp at e; subst e; exact ⟨_, rfl, h⟩
  | _, _, i + 1, d, .cons _ r, e => by
    obtain ⟨v, h1, h2⟩ := RDs.get (i := i) (d := d) r (by simpa using e)
    exact ⟨v, by simpa using h1, h2⟩
theorem RDs.getV : ∀ {ds : List D} {vs : List V} {i : Nat} {v : V}, RDs K H ds vs → vs[i]? = some v → ∃ d, ds[i]? = some d ∧ RD K H d v
  | _, _, _, _, .nil, e => by simp at e
  | _, _, 0, _, .cons h _, e => by simp at e; subst e; exact ⟨_, rfl, h⟩
  | _, _, i + 1, d, .cons _ r, e => by
    obtain ⟨v, h1, h2⟩ := RDs.getV (i := i) (v := d) r (by simpa using e)
    exact ⟨v, by simpa using h1, h2⟩
theorem RDs.append : ∀ {ds es : List D} {vs us : List V}, RDs K H ds vs → RDs K H es us → RDs K H (ds ++ es) (vs ++ us)
  | _, _, _, _, .nil, s => s
  | _, _, _, _, .cons h r, s => .cons h (r.append s)
theorem RDs.set {d : D} {v : V} (h : RD K H d v) : ∀ {ds : List D} {vs : List V} (i : Nat), RDs K H ds vs → RDs K H (ds.set i d) (vs.set i v)
  | _, _, _, .nil => .nil
  | _, _, 0, .cons _ r => .cons h r
  | _, _, i + 1, .cons q r => .cons q (RDs.set h i r)
theorem RDs.take : ∀ {ds : List D} {vs : List V} (n : Nat), RDs K H ds vs → RDs K H (ds.take n) (vs.take n)
  | _, _, 0, _ => .nil
  | _, _, _ + 1, .nil => .nil
  | _, _, n + 1, .cons r t => .cons r (RDs.take n t)
theorem RDs.drop : ∀ {ds : List D} {vs : List V} (n : Nat), RDs K H ds vs → RDs K H (ds.drop n) (vs.drop n)
  | _, _, 0, r => r
  | _, _, _ + 1, .nil => .nil
  | _, _, n + 1, .cons _ t => RDs.drop n t
/-- a new object keeps every tuple -/
theorem Keep.new {p : Addr} {o : HO} (h : H p = none) : Keep K H (upd H p o) := by
  refine ⟨fun a xs q => ?_, fun a xs q => ?_⟩
  · rcases q with (q | ⟨o', q⟩) | q
    · exact .inl (.inl (by rw [upd_ne (ne_of_none q h)]; exact q))
    · exact .inl (.inr ⟨o', by rw [upd_ne (ne_of_none q h)]; exact q⟩)
    · exact .inr q
  · rcases q with ⟨o', q⟩ | q
    · exact .inl ⟨o', by rw [upd_ne (ne_of_none q h)]; exact q⟩
    · exact .inr q
/-- a list that changes keeps every tuple -/
theorem Keep.lst {p : Addr} {vs : List V} {o : HO} (h : H p = some (.lst vs)) : Keep K H (upd H p o) := by
  refine ⟨fun a xs q => ?_, fun a xs q => ?_⟩
  · rcases q with (q | ⟨o', q⟩) | q
    · exact .inl (.inl (by rw [upd_ne (ne_of q h (by simp))]; exact q))
    · exact .inl (.inr ⟨o', by rw [upd_ne (ne_of q h (by simp))]; exact q⟩)
    · exact .inr q
  · rcases q with ⟨o', q⟩ | q
    · exact .inl ⟨o', by rw [upd_ne (ne_of q h (by simp))]; exact q⟩
    · exact .inr q

/-- what stands at a changeable address -/
def RO (K : PySem.W.Frag) (H : Hp) (a : Addr) : DO → Prop
  | .lst xs => ∃ vs, H a = some (.lst vs) ∧ RDs K H xs vs
  | .ins C dx fs => ∃ gs, H a = some (.ins C dx gs) ∧ RDs K H (fs.map (·.2)) (gs.map (·.2)) ∧ fs.map (·.1) = gs.map (·.1)
  | .dct kvs => ∃ gs, H a = some (.dK gs) ∧ RDs K H (kvs.map (·.2)) (gs.map (·.2)) ∧ kvs.map (·.1) = gs.map (·.1)
def RM (K : PySem.W.Frag) (H : Hp) (m : M) : Prop := ∀ a o, m a = some o → RO K H a o
theorem RM.free {m : M} (r : RM K H m) {p : Addr} (h : H p = none) : m p = none := by
  cases e : m p with
  | none => rfl
  | some o =>
    have q := r p o e
    cases o with
    | lst xs => obtain ⟨vs, e1, _⟩ := q; rw [h] at e1; cases e1
    | ins C dx fs => obtain ⟨vs, e1, _⟩ := q; rw [h] at e1; cases e1
    | dct kvs => obtain ⟨vs, e1, _⟩ := q; rw [h] at e1; cases e1
/-- objects that stay as they are -/
theorem RO.stay {a : Addr} {o : DO} (q : RO K H a o) (k : Keep K H H') (e : H' a = H a) : RO K H' a o := by
  cases o with
  | lst xs => obtain ⟨vs, e1, r⟩ := q; exact ⟨vs, e.trans e1, r.mono k⟩
  | ins C dx fs => obtain ⟨vs, e1, r⟩ := q; exact ⟨vs, e.trans e1, r.1.mono k, r.2⟩
  | dct kvs => obtain ⟨vs, e1, r⟩ := q; exact ⟨vs, e.trans e1, r.1.mono k, r.2⟩
theorem RM.new {m : M} (r : RM K H m) {p : Addr} {o : HO} (h : H p = none) : RM K (upd H p o) m := fun a u e => by
  have n : a ≠ p := fun z => by rw [z, r.free h] at e; cases e
  exact (r a u e).stay (Keep.new h) (upd_ne n)
theorem RM.newPut {m : M} (r : RM K H m) {p : Addr} {vs : List V} {xs : List D} (h : H p = none) (q : RDs K H xs vs) : RM K (upd H p (.lst vs)) (put m p (.lst xs)) := fun a u e => by
  by_cases n : a = p
  · subst n
    rw [put_same] at e; cases e
    exact ⟨vs, upd_same, q.mono (Keep.new h)⟩
  · rw [put_ne n] at e
    exact (r a u e).stay (Keep.new h) (upd_ne n)
theorem RM.setPut {m : M} (r : RM K H m) {p : Addr} {ws vs : List V} {xs : List D} (h : H p = some (.lst ws)) (q : RDs K H xs vs) : RM K (upd H p (.lst vs)) (put m p (.lst xs)) := fun a u e => by
  by_cases n : a = p
  · subst n
    rw [put_same] at e; cases e
    exact ⟨vs, upd_same, q.mono (Keep.lst h)⟩
  · rw [put_ne n] at e
    exact (r a u e).stay (Keep.lst h) (upd_ne n)
/-- forgetting -/
theorem RM.less {m m' : M} (r : RM K H m) (h : ∀ a o, m' a = some o → m a = some o) : RM K H m' := fun a o e => r a o (h a o e)

abbrev DS := List (Option D)
structure RS (K : PySem.W.Frag) (H : Hp) (sd : DS) (σ : St) : Prop where
  len : sd.length = σ.length
  get : ∀ (i : Nat) (d : D), sd[i]? = some (some d) → ∃ v, σ[i]? = some (some v) ∧ RD K H d v
theorem RS.mono {sd : DS} {σ : St} (r : RS K H sd σ) (k : Keep K H H') : RS K H' sd σ :=
  ⟨r.len, fun i d e => let ⟨v, e1, q⟩ := r.get i d e; ⟨v, e1, q.mono k⟩⟩
theorem RS.set {sd : DS} {σ : St} (r : RS K H sd σ) (i : Nat) {d : D} {v : V} (q : RD K H d v) : RS K H (sd.set i (some d)) (σ.set i (some v)) :=
  ⟨by rw [List.length_set, List.length_set, r.len], fun j e h => by
    by_cases hj : i = j
    · subst hj
      by_cases hi : i < sd.length
      · rw [List.getElem?_set_self hi] at h
        cases h
        exact ⟨v, List.getElem?_set_self (by rw [← r.len]; exact hi), q⟩
      · rw [List.getElem?_eq_none (by rw [List.length_set]; omega)] at h
        cases h
    · rw [List.getElem?_set_ne hj] at h
      obtain ⟨u, e1, q1⟩ := r.get j e h
      exact ⟨u, by rw [List.getElem?_set_ne hj]; exact e1, q1⟩⟩
theorem RS.start {N : List Str} {ds : List D} {vs : List V} (r : RDs K H ds vs) : RS K H (ds.map some ++ List.replicate (N.length - ds.length) none) (L2.start N vs) := by
  refine ⟨?_, fun i d e => ?_⟩
  · unfold L2.start
    simp [r.length]
  · unfold L2.start
    by_cases hi : i < ds.length
    · rw [List.getElem?_append_left (by simpa using hi), List.getElem?_map] at e
      cases q : ds[i]? with
      | none => rw [q] at e; cases e
      | some d' =>
        rw [q] at e
        have e' : d' = d := by simpa using e
        subst e'
        obtain ⟨v, h1, h2⟩ := r.get q
        exact ⟨v, by rw [List.getElem?_append_left (by simp; rw [← r.length]; exact hi), List.getElem?_map, h1]; rfl, h2⟩
    · rw [List.getElem?_append_right (by simpa using Nat.le_of_not_lt hi), List.getElem?_replicate] at e
      split at e <;> cases e
end
def Less (m' m : M) : Prop := ∀ a o, m' a = some o → m a = some o
theorem Less.refl (m : M) : Less m m := fun _ _ h => h
theorem Less.trans {a b c : M} (h : Less a b) (h' : Less b c) : Less a c := fun x o e => h' x o (h x o e)
theorem Less.new {m : M} {p : Addr} {o : DO} (h : m p = none) : Less m (put m p o) := fun a u e => by
  rw [put_ne (fun z => by rw [z, h] at e; cases e)]
  exact e
theorem Less.put {m m' : M} {p : Addr} {o : DO} (h : Less m m') : Less (Q4.put m p o) (Q4.put m' p o) := fun a u e => by
  by_cases n : a = p
  · subst n; rw [put_same] at e ⊢; exact e
  · rw [put_ne n] at e ⊢; exact h a u e
/-- less may be known -/
def Fg (J : List (Option D) → M → Prop) : List (Option D) → M → Prop := fun sd m => ∃ m', Less m' m ∧ J sd m'
end Q4

set_option Elab.async false
set_option linter.all false
set_option maxRecDepth 100000
namespace Q4
open PySem L2
abbrev DK := D → M → Prop
abbrev DXK := Value → Option (List (Str × D)) → M → Prop
abbrev TDE := DS → M → DK → Prop
abbrev TDT := DS → M → (Bool → M → Prop) → Prop
abbrev TDA := DS → M → (List D → M → Prop) → Prop
structure DEnds where
  nx : DS → M → Prop
  rt : DK
  bk : DS → M → Prop := fun _ _ => False
  ct : DS → M → Prop := fun _ _ => False
abbrev TDS := DEnds → DS → M → Prop
structure At (K : PySem.W.Frag) (H0 : Hp) (sd : DS) (m : M) (σ : St) (H : Hp) : Prop where
  s : RS K H sd σ
  m : RM K H m
  k : Keep K H0 H
section
variable (K : PySem.W.Frag) (H0 : Hp)
def lE (t : TDE) : TE := fun σ H Q => ∃ sd m P, At K H0 sd m σ H ∧ t sd m P ∧ ∀ d m' v H', Keep K H H' → RM K H' m' → RD K H' d v → P d m' → Q v H'
def lT (t : TDT) : TT := fun σ H Q => ∃ sd m P, At K H0 sd m σ H ∧ t sd m P ∧ ∀ b m' H', Keep K H H' → RM K H' m' → P b m' → Q b H'
def lA (t : TDA) : TA := fun σ H Q => ∃ sd m P, At K H0 sd m σ H ∧ t sd m P ∧ ∀ ds m' vs H', Keep K H H' → RM K H' m' → RDs K H' ds vs → P ds m' → Q vs H'
def lS (t : TDS) : TS := fun D σ H => ∃ sd m DD, At K H0 sd m σ H ∧ t DD sd m ∧
  (∀ sd' m' σ' H', Keep K H H' → RS K H' sd' σ' → RM K H' m' → DD.nx sd' m' → D.nx σ' H') ∧
  (∀ d m' v H', Keep K H H' → RM K H' m' → RD K H' d v → DD.rt d m' → D.rt v H') ∧
  (∀ sd' m' σ' H', Keep K H H' → RS K H' sd' σ' → RM K H' m' → DD.bk sd' m' → D.bk σ' H') ∧
  (∀ sd' m' σ' H', Keep K H H' → RS K H' sd' σ' → RM K H' m' → DD.ct sd' m' → D.ct σ' H')
end
section
variable {K : PySem.W.Frag} {H0 H H' : Hp} {sd : DS} {m m' : M} {σ : St}
theorem At.to (a : At K H0 sd m σ H) (k : Keep K H H') (r : RM K H' m') : At K H0 sd m' σ H' := ⟨a.s.mono k, r, a.k.trans k⟩
theorem At.toS {sd' : DS} {σ' : St} (a : At K H0 sd m σ H) (k : Keep K H H') (s : RS K H' sd' σ') (r : RM K H' m') : At K H0 sd' m' σ' H' := ⟨s, r, a.k.trans k⟩
end
section
variable {X : Cx} {H0 : Hp}
theorem peL {e : Expr} {t t' : TE} (h : PE X e t) (i : ∀ σ H Q, t' σ H Q → t σ H Q) : PE X e t' := ⟨fun pins s σ H Q I ht => h.run pins s σ H Q I (i _ _ _ ht)⟩
theorem ptL {e : Expr} {t t' : TT} (h : PT X e t) (i : ∀ σ H Q, t' σ H Q → t σ H Q) : PT X e t' := ⟨fun pins s σ H Q I ht => h.run pins s σ H Q I (i _ _ _ ht)⟩
theorem pwL {e : Expr} {t t' : TT} (h : PW X e t) (i : ∀ σ H Q, t' σ H Q → t σ H Q) : PW X e t' := ⟨fun wh pins s σ H Q I ht => h.run wh pins s σ H Q I (i _ _ _ ht)⟩
theorem paL {e : List Expr} {t t' : TA} (h : PA X e t) (i : ∀ σ H Q, t' σ H Q → t σ H Q) : PA X e t' := ⟨fun p pins s σ H Q I ht => h.run p pins s σ H Q I (i _ _ _ ht)⟩
theorem psL {e : Stmt} {t t' : TS} (h : PS X e t) (i : ∀ D σ H, t' D σ H → t D σ H) : PS X e t' := ⟨fun pins s σ H Q I ht => h.run pins s σ H Q I (i _ _ _ ht)⟩
theorem pssL {e : List Stmt} {t t' : TS} (h : PSs X e t) (i : ∀ D σ H, t' D σ H → t D σ H) : PSs X e t' := ⟨fun pins s σ H Q I ht => h.run pins s σ H Q I (i _ _ _ ht)⟩

/-! ### names, constants -/
def dVar (i : Nat) : TDE := fun sd m P => ∃ d, sd[i]? = some (some d) ∧ P d m
def dC (d : D) : TDE := fun _ m P => P d m
theorem l_var {K : PySem.W.Frag} {i : Nat} {σ : St} {H : Hp} {Q : VK} (h : lE K H0 (dVar i) σ H Q) : tVar i σ H Q := by
  obtain ⟨sd, m, P, a, ⟨d, e, p⟩, q⟩ := h
  obtain ⟨v, e1, r⟩ := a.s.get i d e
  exact ⟨v, e1, q d m v H (Keep.refl _) a.m r p⟩
theorem qv (i : Nat) {x : Str} {pos : Pos} (hN : X.N[i]? = some x := by rfl) (hv : Vis X.env.scope x := by first | exact Or.inl rfl | exact Or.inr (Or.inl rfl) | exact Or.inr (Or.inr rfl)) (hd : (x == ("__debug__" : Str)) = false := by decide)
    (hcd : (x == ("__classdict__" : Str)) = false := by decide) : PE X (.Name x pos) (lE X.K H0 (dVar i)) := peL (pv i hN hv hd hcd) fun _ _ _ => l_var
theorem l_c {K : PySem.W.Frag} {d : D} {v : V} {σ : St} {H : Hp} {Q : VK} (r : ∀ H, RD K H d v) (h : lE K H0 (dC d) σ H Q) : tC v σ H Q := by
  obtain ⟨sd, m, P, a, p, q⟩ := h
  exact q d m v H (Keep.refl _) a.m (r H) p
theorem qe_int {i : Int} {j pos} : PE X (.Constant (.int i) j pos) (lE X.K H0 (dC (.int i))) := peL pe_int fun _ _ _ => l_c fun _ => .int i
theorem qe_bl {i : Bool} {j pos} : PE X (.Constant (.bool i) j pos) (lE X.K H0 (dC (.bl i))) := peL pe_bl fun _ _ _ => l_c fun _ => .bl i
theorem qe_str {i : Str} {j pos} : PE X (.Constant (.str i) j pos) (lE X.K H0 (dC (.str i))) := peL pe_str fun _ _ _ => l_c fun _ => .str i
theorem qe_non {j pos} : PE X (.Constant .none j pos) (lE X.K H0 (dC .non)) := peL pe_non fun _ _ _ => l_c fun _ => .non
/-- a module's constant -/
theorem qe_glob {x : Str} {v : V} {d : D} {u : Value} {pos : Pos} (hg : Gl X x) (hm : X.mg x = some u) (r : RelV v u) (rd : ∀ H, RD X.K H d v) (hd : (x == ("__debug__" : Str)) = false := by decide) : PE X (.Name x pos) (lE X.K H0 (dC d)) :=
  peL (pe_glob hg hm r hd) fun _ _ _ => l_c rd
theorem qe_bltn {x : Str} {v : V} {d : D} {u : Value} {pos : Pos} (hg : Gl X x) (hm : X.mg x = none) (hv : bootBuiltins x = some u) (r : RelV v u) (rd : ∀ H, RD X.K H d v) (hn : x ≠ "__name__" := by decide) (hd : (x == ("__debug__" : Str)) = false := by decide) : PE X (.Name x pos) (lE X.K H0 (dC d)) :=
  peL (pe_bltn hg hm hv r hn hd) fun _ _ _ => l_c rd

/-! ### operators by values -/
abbrev R2D := D → D → M → DK → Prop
abbrev R1D := D → M → DK → Prop
abbrev RnD := List D → M → DK → Prop
def Wants (K : PySem.W.Frag) (H : Hp) (P : DK) (Q : VK) : Prop := ∀ d m' w H', Keep K H H' → RM K H' m' → RD K H' d w → P d m' → Q w H'
theorem Wants.mono {K : PySem.W.Frag} {H H' : Hp} {P : DK} {Q : VK} (h : Wants K H P Q) (k : Keep K H H') : Wants K H' P Q := fun d m' w H2 k2 => h d m' w H2 (k.trans k2)
def Lift2 (K : PySem.W.Frag) (r' : R2D) (r : R2) : Prop := ∀ H m x y u v P Q, RM K H m → RD K H x u → RD K H y v → r' x y m P → Wants K H P Q → r u v H Q
def Lift1 (K : PySem.W.Frag) (r' : R1D) (r : V → Hp → VK → Prop) : Prop := ∀ H m x u P Q, RM K H m → RD K H x u → r' x m P → Wants K H P Q → r u H Q
def LiftN (K : PySem.W.Frag) (r' : RnD) (r : List V → Hp → VK → Prop) : Prop := ∀ H m xs us P Q, RM K H m → RDs K H xs us → r' xs m P → Wants K H P Q → r us H Q
def dOp (r : R2D) (ta tb : TDE) : TDE := fun sd m P => ta sd m fun x m1 => tb sd m1 fun y m2 => r x y m2 P
def dUn (r : R1D) (ta : TDE) : TDE := fun sd m P => ta sd m fun x m1 => r x m1 P
theorem l_op {K : PySem.W.Frag} {r' : R2D} {r : R2} {ta tb : TDE} {σ : St} {H : Hp} {Q : VK} (l : Lift2 K r' r) (h : lE K H0 (dOp r' ta tb) σ H Q) : tOp r (lE K H0 ta) (lE K H0 tb) σ H Q := by
  obtain ⟨sd, m, P, a, p, q⟩ := h
  refine ⟨sd, m, _, a, p, fun x m1 u H1 k1 r1 d1 p1 => ?_⟩
  refine ⟨sd, m1, _, a.to k1 r1, p1, fun y m2 v H2 k2 r2 d2 p2 => ?_⟩
  exact l H2 m2 x y u v P Q r2 (d1.mono k2) d2 p2 fun d m' w H' k => q d m' w H' ((k1.trans k2).trans k)
theorem l_un {K : PySem.W.Frag} {r' : R1D} {r : V → Hp → VK → Prop} {ta : TDE} {σ : St} {H : Hp} {Q : VK} (l : Lift1 K r' r) (h : lE K H0 (dUn r' ta) σ H Q) : tUn r (lE K H0 ta) σ H Q := by
  obtain ⟨sd, m, P, a, p, q⟩ := h
  refine ⟨sd, m, _, a, p, fun x m1 u H1 k1 r1 d1 p1 => ?_⟩
  exact l H1 m1 x u P Q r1 d1 p1 fun d m' w H' k => q d m' w H' (k1.trans k)
structure OpD (X : Cx) (f : Value → Value → Sem Value) (r' : R2D) : Prop where
  ex : ∃ r, OpR X f r ∧ Lift2 X.K r' r
theorem qe_op {a b : Expr} {op : Operator} {pos : Pos} {r' : R2D} {ta tb : TDE} (o : OpD X (binaryOp op) r') (ha : PE X a (lE X.K H0 ta)) (hb : PE X b (lE X.K H0 tb)) : PE X (.BinOp a op b pos) (lE X.K H0 (dOp r' ta tb)) := by
  obtain ⟨r, h1, h2⟩ := o.ex
  exact peL (pe_op h1 ha hb) fun _ _ _ => l_op h2
theorem qe_cmp {a b : Expr} {op : CmpOp} {pos : Pos} {r' : R2D} {ta tb : TDE} (o : OpD X (compareOp op) r') (ha : PE X a (lE X.K H0 ta)) (hb : PE X b (lE X.K H0 tb)) (hm : behindInMarks op b = false) : PE X (.Compare a [op] [b] pos) (lE X.K H0 (dOp r' ta tb)) := by
  obtain ⟨r, h1, h2⟩ := o.ex
  exact peL (pe_cmpR h1 ha hb hm) fun _ _ _ => l_op h2
theorem OpD.or {f : Value → Value → Sem Value} {r r' : R2D} (h : OpD X f r) (h' : OpD X f r') : OpD X f (fun x y m P => r x y m P ∨ r' x y m P) := by
  obtain ⟨r1, h1, h2⟩ := h.ex
  obtain ⟨r3, h3, h4⟩ := h'.ex
  refine ⟨fun x y H Q => r1 x y H Q ∨ r3 x y H Q, ?_, ?_⟩
  · intro pins s σ H x y v u Q I rx ry q
    rcases q with q | q
    · exact h1 pins s σ H x y v u Q I rx ry q
    · exact h3 pins s σ H x y v u Q I rx ry q
  · intro H m x y u v P Q a b c d e
    exact d.imp (fun d => h2 H m x y u v P Q a b c d e) fun d => h4 H m x y u v P Q a b c d e
theorem OpD.imp {f : Value → Value → Sem Value} {r r' : R2D} (h : OpD X f r) (i : ∀ x y m P, r' x y m P → r x y m P) : OpD X f r' := by
  obtain ⟨r1, h1, h2⟩ := h.ex
  exact ⟨r1, h1, fun H m x y u v P Q a b c d e => h2 H m x y u v P Q a b c (i _ _ _ _ d) e⟩
end
end Q4

set_option Elab.async false
set_option linter.all false
set_option maxRecDepth 100000
namespace Q4
open PySem L2
section
variable {K : PySem.W.Frag} {H : Hp}
theorem RD.int_ {i : Int} {u : V} (h : RD K H (.int i) u) : u = .int i := by cases h; rfl
theorem RD.str_ {i : Str} {u : V} (h : RD K H (.str i) u) : u = .str i := by cases h; rfl
theorem RD.bl_ {i : Bool} {u : V} (h : RD K H (.bl i) u) : u = .bl i := by cases h; rfl
theorem RD.non_ {u : V} (h : RD K H .non u) : u = .non := by cases h; rfl
theorem RD.ref_ {a : Addr} {u : V} (h : RD K H (.ref a) u) : u = .ref a := by cases h; rfl
theorem RD.ty_ {n : String} {u : V} (h : RD K H (.ty n) u) : u = .ty n := by cases h; rfl
theorem RD.tup_ {xs : List D} {u : V} (h : RD K H (.tup xs) u) : ∃ a vs, u = .ref a ∧ SqT K H a vs ∧ RDs K H xs vs := by cases h; exact ⟨_, _, rfl, by assumption, by assumption⟩
theorem RD.rol_ {xs : List D} {u : V} (h : RD K H (.rol xs) u) : ∃ a vs, u = .ref a ∧ FrzL K H a vs ∧ RDs K H xs vs := by cases h; exact ⟨_, _, rfl, by assumption, by assumption⟩
theorem RDs.one_ {x : D} {us : List V} (h : RDs K H [x] us) : ∃ u, us = [u] ∧ RD K H x u := by
  cases h with | cons a b => cases b; exact ⟨_, rfl, a⟩
theorem RDs.two_ {x y : D} {us : List V} (h : RDs K H [x, y] us) : ∃ u v, us = [u, v] ∧ RD K H x u ∧ RD K H y v := by
  cases h with | cons a b => cases b with | cons c d => cases d; exact ⟨_, _, rfl, a, c⟩
theorem RDs.three_ {x y z : D} {us : List V} (h : RDs K H [x, y, z] us) : ∃ u v w, us = [u, v, w] ∧ RD K H x u ∧ RD K H y v ∧ RD K H z w := by
  cases h with | cons a b => cases b with | cons c d => cases d with | cons e f => cases f; exact ⟨_, _, _, rfl, a, c, e⟩
theorem RDs.nil_ {us : List V} (h : RDs K H [] us) : us = [] := by cases h; rfl
end
/-- ints in, one scalar out -/
def rI2 (C : Int → Int → Prop) (g : Int → Int → D) : R2D := fun x y m P => match x, y with
  | .int i, .int j => C i j ∧ P (g i j) m
  | _, _ => False
section
variable {X : Cx} {f : Value → Value → Sem Value}
theorem opd_I {C : Int → Int → Prop} {g : Int → Int → V} {gd : Int → Int → D} (h : OpR X f (rI C g)) (r : ∀ H i j, RD X.K H (gd i j) (g i j)) : OpD X f (rI2 C gd) := by
  refine ⟨_, h, fun H m x y u v P Q rm rx ry p q => ?_⟩
  unfold rI2 at p
  split at p
  · obtain ⟨c, p⟩ := p
    cases rx.int_
    cases ry.int_
    exact ⟨_, _, rfl, rfl, c, q _ m _ H (Keep.refl _) rm (r H _ _) p⟩
  · exact p.elim
theorem opd_I0 {g : Int → Int → V} {gd : Int → Int → D} (h : OpR X f (rI0 g)) (r : ∀ H i j, RD X.K H (gd i j) (g i j)) : OpD X f (rI2 (fun _ _ => True) gd) := by
  refine ⟨_, h, fun H m x y u v P Q rm rx ry p q => ?_⟩
  unfold rI2 at p
  split at p
  · obtain ⟨c, p⟩ := p
    cases rx.int_
    cases ry.int_
    exact ⟨_, _, rfl, rfl, q _ m _ H (Keep.refl _) rm (r H _ _) p⟩
  · exact p.elim
/-! ### + -/
def rAdd : R2D := fun x y m P => match x, y with
  | .int i, .int j => P (.int (i + j)) m
  | .str a, .str b => a.length + b.length ≤ sizeLine ∧ P (.str (a ++ b)) m
  | .tup xs, .tup ys => xs.length + ys.length ≤ sizeLine ∧ P (.tup (xs ++ ys)) m
  | .ref a, .ref b => ∃ xs ys, m a = some (.lst xs) ∧ m b = some (.lst ys) ∧ xs.length + ys.length ≤ sizeLine ∧ ∀ p, m p = none → P (.ref p) (put m p (.lst (xs ++ ys)))
  | _, _ => False
theorem od_add : OpD X (binaryOp .Add) rAdd := by
  have h1 : OpD X (binaryOp .Add) (rI2 (fun _ _ => True) fun i j => .int (i + j)) := opd_I0 op_add fun _ _ _ => .int _
  have h2 : OpD X (binaryOp .Add) (fun x y m P => ∃ a b, x = .str a ∧ y = .str b ∧ a.length + b.length ≤ sizeLine ∧ P (.str (a ++ b)) m) := by
    refine ⟨_, op_add_str, fun H m x y u v P Q rm rx ry p q => ?_⟩
    obtain ⟨a, b, rfl, rfl, z, p⟩ := p
    cases rx.str_
    cases ry.str_
    exact ⟨_, _, rfl, rfl, z, q _ m _ H (Keep.refl _) rm (.str _) p⟩
  have h3 : OpD X (binaryOp .Add) (fun x y m P => ∃ xs ys, x = .tup xs ∧ y = .tup ys ∧ xs.length + ys.length ≤ sizeLine ∧ P (.tup (xs ++ ys)) m) := by
    refine ⟨_, op_catA, fun H m x y u v P Q rm rx ry p q => ?_⟩
    obtain ⟨xs, ys, rfl, rfl, z, p⟩ := p
    obtain ⟨a, vs, rfl, ha, r1⟩ := rx.tup_
    obtain ⟨b, us, rfl, hb, r2⟩ := ry.tup_
    refine ⟨a, b, vs, us, rfl, rfl, ha, hb, by rw [← r1.length, ← r2.length]; exact z, fun e => ?_, fun e e2 => ?_, fun e e2 p' hp => ?_⟩
    · subst e
      have : xs = [] := List.length_eq_zero_iff.mp r1.length
      subst this
      exact q _ m _ H (Keep.refl _) rm (.tup hb r2) p
    · subst e2
      have : ys = [] := List.length_eq_zero_iff.mp r2.length
      subst this
      exact q _ m _ H (Keep.refl _) rm (.tup ha (by simpa using r1)) p
    · exact q _ m _ _ (Keep.new hp) (rm.new hp) (.tup (.inl (.inl upd_same)) ((r1.append r2).mono (Keep.new hp))) p
  have h4 : OpD X (binaryOp .Add) (fun x y m P => ∃ a b xs ys, x = .ref a ∧ y = .ref b ∧ m a = some (.lst xs) ∧ m b = some (.lst ys) ∧ xs.length + ys.length ≤ sizeLine ∧ ∀ p, m p = none → P (.ref p) (put m p (.lst (xs ++ ys)))) := by
    refine ⟨_, op_cat, fun H m x y u v P Q rm rx ry p q => ?_⟩
    obtain ⟨a, b, xs, ys, rfl, rfl, ha, hb, z, p⟩ := p
    cases rx.ref_
    cases ry.ref_
    obtain ⟨vs, e1, r1⟩ := rm a _ ha
    obtain ⟨us, e2, r2⟩ := rm b _ hb
    refine ⟨a, b, vs, us, rfl, rfl, e1, e2, by rw [← r1.length, ← r2.length]; exact z, fun p' hp => ?_⟩
    exact q _ _ _ _ (Keep.new hp) (rm.newPut hp (r1.append r2)) (.ref p') (p p' (rm.free hp))
  refine (h1.or (h2.or (h3.or h4))).imp fun x y m P p => ?_
  unfold rAdd at p
  split at p
  · exact .inl ⟨trivial, p⟩
  · exact .inr (.inl ⟨_, _, rfl, rfl, p⟩)
  · exact .inr (.inr (.inl ⟨_, _, rfl, rfl, p⟩))
  · obtain ⟨xs, ys, p⟩ := p
    exact .inr (.inr (.inr ⟨_, _, xs, ys, rfl, rfl, p⟩))
  · exact p.elim
/-! ### other arithmetic -/
abbrev rSub : R2D := rI2 (fun _ _ => True) fun i j => .int (i - j)
theorem od_sub : OpD X (binaryOp .Sub) rSub := opd_I0 op_sub fun _ _ _ => .int _
abbrev rFdiv : R2D := rI2 CDivW fun i j => .int (i / j)
theorem od_fdiv : OpD X (binaryOp .FloorDiv) rFdiv := opd_I op_fdivW fun _ _ _ => .int _
abbrev rMod : R2D := rI2 (fun _ j => 0 < j) fun i j => .int (i % j)
theorem od_mod : OpD X (binaryOp .Mod) rMod := opd_I op_mod fun _ _ _ => .int _
abbrev rPow : R2D := rI2 CPow fun i j => .int (i ^ j.toNat)
theorem od_pow : OpD X (binaryOp .Pow) rPow := opd_I op_pow fun _ _ _ => .int _
def rMul : R2D := fun x y m P => match x, y with
  | .int i, .int j => CMul i j ∧ P (.int (i * j)) m
  | .ref a, .int k => ∃ xs, m a = some (.lst xs) ∧ -(2 ^ 63) ≤ k ∧ k < 2 ^ 63 ∧ xs.length * k.toNat ≤ sizeLine ∧ ∀ p, m p = none → P (.ref p) (put m p (.lst (List.replicate k.toNat xs).flatten))
  | _, _ => False
theorem RDs.flat {K : PySem.W.Frag} {H : Hp} {xs : List D} {vs : List V} (r : RDs K H xs vs) : ∀ n : Nat, RDs K H (List.replicate n xs).flatten (List.replicate n vs).flatten
  | 0 => .nil
  | n + 1 => by
    rw [List.replicate_succ, List.replicate_succ, List.flatten_cons, List.flatten_cons]
    exact r.append (r.flat n)
theorem od_mul : OpD X (binaryOp .Mult) rMul := by
  have h1 : OpD X (binaryOp .Mult) (rI2 CMul fun i j => .int (i * j)) := opd_I op_mul fun _ _ _ => .int _
  have h2 : OpD X (binaryOp .Mult) (fun x y m P => ∃ a k xs, x = .ref a ∧ y = .int k ∧ m a = some (.lst xs) ∧ -(2 ^ 63) ≤ k ∧ k < 2 ^ 63 ∧ xs.length * k.toNat ≤ sizeLine ∧ ∀ p, m p = none → P (.ref p) (put m p (.lst (List.replicate k.toNat xs).flatten))) := by
    refine ⟨_, op_rep, fun H m x y u v P Q rm rx ry p q => ?_⟩
    obtain ⟨a, k, xs, rfl, rfl, ha, h1, h2, z, p⟩ := p
    cases rx.ref_
    cases ry.int_
    obtain ⟨vs, e1, r1⟩ := rm a _ ha
    refine ⟨a, k, vs, rfl, rfl, e1, h1, h2, by rw [← r1.length]; exact z, fun p' hp => ?_⟩
    exact q _ _ _ _ (Keep.new hp) (rm.newPut hp (r1.flat _)) (.ref p') (p p' (rm.free hp))
  refine (h1.or h2).imp fun x y m P p => ?_
  unfold rMul at p
  split at p
  · exact .inl p
  · obtain ⟨xs, p⟩ := p
    exact .inr ⟨_, _, xs, rfl, rfl, p⟩
  · exact p.elim
/-! ### order -/
def rLtD : R2D := rI2 (fun _ _ => True) fun i j => .bl (decide (i < j))
def rLeD : R2D := rI2 (fun _ _ => True) fun i j => .bl (decide (i ≤ j))
def rGtD : R2D := rI2 (fun _ _ => True) fun i j => .bl (decide (j < i))
def rGeD : R2D := rI2 (fun _ _ => True) fun i j => .bl (decide (j ≤ i))
theorem od_lt : OpD X (compareOp .Lt) rLtD := opd_I0 op_lt fun _ _ _ => .bl _
theorem od_le : OpD X (compareOp .LtE) rLeD := opd_I0 op_le fun _ _ _ => .bl _
theorem od_gt : OpD X (compareOp .Gt) rGtD := opd_I0 op_gt fun _ _ _ => .bl _
theorem od_ge : OpD X (compareOp .GtE) rGeD := opd_I0 op_ge fun _ _ _ => .bl _
end
/-! ### == -/
mutual
def D.py : D → PyData
  | .non => .none
  | .bl b => .bool b
  | .int i => .int i
  | .str x => .str x
  | .tup xs => .tuple (D.pys xs)
  | .rol _ => .dict []
  | .ref _ => .dict []
  | .ty _ => .dict []
def D.pys : List D → List PyData
  | [] => []
  | x :: xs => x.py :: D.pys xs
end
mutual
theorem dp_of {K : PySem.W.Frag} {H : Hp} : ∀ {d : D} {v : V}, RD K H d v → d.py.canLay0 = true → Dp K H v d.py
  | _, _, .non, _ => .non
  | _, _, .bl b, _ => .bl b
  | _, _, .int b, _ => .int b
  | _, _, .str b, _ => .str b
  | _, _, .ref b, h => by simp [D.py, PyData.canLay0] at h
  | _, _, .ty b, h => by simp [D.py, PyData.canLay0] at h
  | _, _, .rol _ _, h => by simp [D.py, PyData.canLay0] at h
  | _, _, .tup (ds := ds) hs r, h => .tup hs (dps_of r (by simpa [D.py, PyData.canLay0] using h))
theorem dps_of {K : PySem.W.Frag} {H : Hp} : ∀ {d : List D} {v : List V}, RDs K H d v → PyData.canLayAll0 (D.pys d) = true → DpAll K H v (D.pys d)
  | _, _, .nil, _ => .nil
  | _, _, .cons (d := d) (ds := ds) h r, z => by
    have z' : d.py.canLay0 = true ∧ PyData.canLayAll0 (D.pys ds) = true := by simpa [D.pys, PyData.canLayAll0] using z
    exact .cons (dp_of h z'.1) (dps_of r z'.2)
end
def okD (d : D) : Prop := SeqAt.shaped d.py = true
def eqD (x y : D) : Bool := PyData.eqv x.py y.py
def rEqD : R2D := fun x y m P => match x, y with
  | .int i, .int j => P (.bl (decide (i = j))) m
  | .str i, .str j => P (.bl (decide (i = j))) m
  | .bl i, .bl j => P (.bl (decide (i = j))) m
  | .int _, .str _ => P (.bl false) m
  | .str _, .int _ => P (.bl false) m
  | x, y => okD x ∧ okD y ∧ P (.bl (eqD x y)) m
def rNeD : R2D := fun x y m P => match x, y with
  | .int i, .int j => P (.bl (!decide (i = j))) m
  | .str i, .str j => P (.bl (!decide (i = j))) m
  | .bl i, .bl j => P (.bl (!decide (i = j))) m
  | .int _, .str _ => P (.bl true) m
  | .str _, .int _ => P (.bl true) m
  | x, y => okD x ∧ okD y ∧ P (.bl (!eqD x y)) m
section
variable {X : Cx}
theorem od_eq (hu : X.A.units + 64 < cLine) : OpD X (compareOp .Eq) rEqD := by
  have h1 : OpD X (compareOp .Eq) (fun x y m P => ∃ u v, (∀ H, RD X.K H x u → True) ∧ (∀ H w, RD X.K H x w → w = u) ∧ (∀ H w, RD X.K H y w → w = v) ∧ scal u v = true ∧ P (.bl (decide (u = v))) m) := by
    refine ⟨_, op_eq, fun H m x y u v P Q rm rx ry p q => ?_⟩
    obtain ⟨u', v', _, e1, e2, s, p⟩ := p
    cases e1 _ _ rx
    cases e2 _ _ ry
    exact ⟨s, q _ m _ H (Keep.refl _) rm (.bl _) p⟩
  have h2 : OpD X (compareOp .Eq) (fun x y m P => okD x ∧ okD y ∧ P (.bl (eqD x y)) m) := by
    refine ⟨_, op_eqD hu, fun H m x y u v P Q rm rx ry p q => ?_⟩
    obtain ⟨o1, o2, p⟩ := p
    exact ⟨_, _, dp_of rx (SeqAt.canLay_of_shaped o1), dp_of ry (SeqAt.canLay_of_shaped o2), o1, o2, q _ m _ H (Keep.refl _) rm (.bl _) p⟩
  refine (h1.or h2).imp fun x y m P p => ?_
  unfold rEqD at p
  split at p
  · exact .inl ⟨_, _, fun _ _ => trivial, fun _ _ r => r.int_, fun _ _ r => r.int_, rfl, by rw [dec_int, ← Bool.beq_eq_decide_eq] at *; simpa [Bool.beq_eq_decide_eq] using p⟩
  · exact .inl ⟨_, _, fun _ _ => trivial, fun _ _ r => r.str_, fun _ _ r => r.str_, rfl, by simpa using p⟩
  · exact .inl ⟨_, _, fun _ _ => trivial, fun _ _ r => r.bl_, fun _ _ r => r.bl_, rfl, by simpa using p⟩
  · exact .inl ⟨_, _, fun _ _ => trivial, fun _ _ r => r.int_, fun _ _ r => r.str_, rfl, by simpa using p⟩
  · exact .inl ⟨_, _, fun _ _ => trivial, fun _ _ r => r.str_, fun _ _ r => r.int_, rfl, by simpa using p⟩
  · exact .inr p
theorem od_ne (hu : X.A.units + 64 < cLine) : OpD X (compareOp .NotEq) rNeD := by
  have h1 : OpD X (compareOp .NotEq) (fun x y m P => ∃ u v, (∀ H w, RD X.K H x w → w = u) ∧ (∀ H w, RD X.K H y w → w = v) ∧ scal u v = true ∧ P (.bl (!decide (u = v))) m) := by
    refine ⟨_, op_ne, fun H m x y u v P Q rm rx ry p q => ?_⟩
    obtain ⟨u', v', e1, e2, s, p⟩ := p
    cases e1 _ _ rx
    cases e2 _ _ ry
    exact ⟨s, q _ m _ H (Keep.refl _) rm (.bl _) p⟩
  have h2 : OpD X (compareOp .NotEq) (fun x y m P => okD x ∧ okD y ∧ P (.bl (!eqD x y)) m) := by
    refine ⟨_, op_neD hu, fun H m x y u v P Q rm rx ry p q => ?_⟩
    obtain ⟨o1, o2, p⟩ := p
    exact ⟨_, _, dp_of rx (SeqAt.canLay_of_shaped o1), dp_of ry (SeqAt.canLay_of_shaped o2), o1, o2, q _ m _ H (Keep.refl _) rm (.bl _) p⟩
  refine (h1.or h2).imp fun x y m P p => ?_
  unfold rNeD at p
  split at p
  · exact .inl ⟨_, _, fun _ _ r => r.int_, fun _ _ r => r.int_, rfl, by simpa using p⟩
  · exact .inl ⟨_, _, fun _ _ r => r.str_, fun _ _ r => r.str_, rfl, by simpa using p⟩
  · exact .inl ⟨_, _, fun _ _ r => r.bl_, fun _ _ r => r.bl_, rfl, by simpa using p⟩
  · exact .inl ⟨_, _, fun _ _ r => r.int_, fun _ _ r => r.str_, rfl, by simpa using p⟩
  · exact .inl ⟨_, _, fun _ _ r => r.str_, fun _ _ r => r.int_, rfl, by simpa using p⟩
  · exact .inr p
end
end Q4

set_option Elab.async false
set_option linter.all false
set_option maxRecDepth 100000
namespace Q4
open PySem L2
section
variable {X : Cx} {H0 : Hp}
/-! ### tests -/
def dB (t : TDE) : TDT := fun sd m P => t sd m fun x m1 => match x with | .bl b => P b m1 | _ => False
def dAnd (t u : TDT) : TDT := fun sd m P => t sd m fun c m1 => if c = true then u sd m1 P else P false m1
def dOr (t u : TDT) : TDT := fun sd m P => t sd m fun c m1 => if c = true then P true m1 else u sd m1 P
def dNot (t : TDT) : TDT := fun sd m P => t sd m fun c m1 => P (!c) m1
section
variable {K : PySem.W.Frag} {σ : St} {H : Hp}
theorem l_B {t : TDE} {Q : Bool → Hp → Prop} (h : lT K H0 (dB t) σ H Q) : tB (lE K H0 t) σ H Q := by
  obtain ⟨sd, m, P, a, p, q⟩ := h
  refine ⟨sd, m, _, a, p, fun d m' v H' k r rd p' => ?_⟩
  cases d with
  | bl b => cases rd.bl_; exact ⟨b, rfl, q b m' H' k r p'⟩
  | _ => exact p'.elim
theorem l_and {t u : TDT} {Q : Bool → Hp → Prop} (h : lT K H0 (dAnd t u) σ H Q) : tAnd (lT K H0 t) (lT K H0 u) σ H Q := by
  obtain ⟨sd, m, P, a, p, q⟩ := h
  refine ⟨sd, m, _, a, p, fun b m' H' k r p' => ?_⟩
  cases b with
  | true => exact ⟨sd, m', P, a.to k r, p', fun b m2 H2 k2 => q b m2 H2 (k.trans k2)⟩
  | false => exact q _ m' H' k r p'
theorem l_or {t u : TDT} {Q : Bool → Hp → Prop} (h : lT K H0 (dOr t u) σ H Q) : tOr (lT K H0 t) (lT K H0 u) σ H Q := by
  obtain ⟨sd, m, P, a, p, q⟩ := h
  refine ⟨sd, m, _, a, p, fun b m' H' k r p' => ?_⟩
  cases b with
  | true => exact q _ m' H' k r p'
  | false => exact ⟨sd, m', P, a.to k r, p', fun b m2 H2 k2 => q b m2 H2 (k.trans k2)⟩
theorem l_not {t : TDT} {Q : Bool → Hp → Prop} (h : lT K H0 (dNot t) σ H Q) : tNot (lT K H0 t) σ H Q := by
  obtain ⟨sd, m, P, a, p, q⟩ := h
  exact ⟨sd, m, _, a, p, fun b m' H' k r p' => q _ m' H' k r p'⟩
end
theorem qt_val {e : Expr} {t : TDE} (h : PE X e (lE X.K H0 t)) (he : ∀ whole, isTrue e X.env whole = (do let v ← whole; standAt e.pos; holding [v] (truthy v)) := by intro _; rfl) : PT X e (lT X.K H0 (dB t)) := ptL (pt_val h he) fun _ _ _ => l_B
theorem l_tst {K : PySem.W.Frag} {σ : St} {H : Hp} {r' : R2D} {r : R2} {ta tb : TDE} {Q : Bool → Hp → Prop} (l : Lift2 K r' r) (h : lT K H0 (dB (dOp r' ta tb)) σ H Q) : tTest (tOp r (lE K H0 ta) (lE K H0 tb)) σ H Q := by
  refine l_op (K := K) (H0 := H0) l ?_
  obtain ⟨sd, m, P, a, p, q⟩ := h
  refine ⟨sd, m, _, a, p, fun d m' v H' k r rd p' => ?_⟩
  cases d with
  | bl b => cases rd.bl_; exact ⟨b, rfl, q b m' H' k r p'⟩
  | _ => exact p'.elim
theorem qt_cmp {a b : Expr} {op : CmpOp} {pos : Pos} {r' : R2D} {ta tb : TDE} (o : OpD X (compareOp op) r') (ha : PE X a (lE X.K H0 ta)) (hb : PE X b (lE X.K H0 tb)) (hm : behindInMarks op b = false) : PT X (.Compare a [op] [b] pos) (lT X.K H0 (dB (dOp r' ta tb))) := by
  obtain ⟨r, h1, h2⟩ := o.ex
  exact ptL (pt_cmpR h1 ha hb hm) fun _ _ _ => l_tst h2
theorem qw_and1 {a : Expr} {t : TDT} {pos : Pos} (h : PT X a (lT X.K H0 t)) : PW X (.BoolOp .And [a] pos) (lT X.K H0 t) := pw_and1 h
theorem qw_or1 {a : Expr} {t : TDT} {pos : Pos} (h : PT X a (lT X.K H0 t)) : PW X (.BoolOp .Or [a] pos) (lT X.K H0 t) := pw_or1 h
theorem qw_and {a b : Expr} {rest : List Expr} {t u : TDT} {pos : Pos} (ha : PT X a (lT X.K H0 t)) (hb : PW X (.BoolOp .And (b :: rest) pos) (lT X.K H0 u)) : PW X (.BoolOp .And (a :: b :: rest) pos) (lT X.K H0 (dAnd t u)) := pwL (pw_and ha hb) fun _ _ _ => l_and
theorem qw_or {a b : Expr} {rest : List Expr} {t u : TDT} {pos : Pos} (ha : PT X a (lT X.K H0 t)) (hb : PW X (.BoolOp .Or (b :: rest) pos) (lT X.K H0 u)) : PW X (.BoolOp .Or (a :: b :: rest) pos) (lT X.K H0 (dOr t u)) := pwL (pw_or ha hb) fun _ _ _ => l_or
theorem qt_not {a : Expr} {t : TDT} {pos : Pos} (ha : PT X a (lT X.K H0 t)) : PT X (.UnaryOp .Not a pos) (lT X.K H0 (dNot t)) := ptL (pt_not ha) fun _ _ _ => l_not
/-! ### and, or, not as values (bools) -/
def dAndV (ta tb : TDE) : TDE := fun sd m P => ta sd m fun x m1 => match x with | .bl c => if c = true then tb sd m1 P else P (.bl false) m1 | _ => False
def dOrV (ta tb : TDE) : TDE := fun sd m P => ta sd m fun x m1 => match x with | .bl c => if c = true then P (.bl true) m1 else tb sd m1 P | _ => False
def dNotV (ta : TDE) : TDE := fun sd m P => ta sd m fun x m1 => match x with | .bl c => P (.bl (!c)) m1 | _ => False
theorem qe_one {a : Expr} {op} {t : TDE} {pos : Pos} (h : PE X a (lE X.K H0 t)) : PE X (.BoolOp op [a] pos) (lE X.K H0 t) := pe_one h
theorem qe_and {a b : Expr} {rest : List Expr} {ta tb : TDE} {pos : Pos} (ha : PE X a (lE X.K H0 ta)) (hb : PE X (.BoolOp .And (b :: rest) pos) (lE X.K H0 tb)) : PE X (.BoolOp .And (a :: b :: rest) pos) (lE X.K H0 (dAndV ta tb)) := peL (pe_and ha hb) fun σ H Q h => by
  obtain ⟨sd, m, P, a, p, q⟩ := h
  refine ⟨sd, m, _, a, p, fun d m' v H' k r rd p' => ?_⟩
  cases d with
  | bl b =>
    cases rd.bl_
    refine ⟨b, rfl, ?_⟩
    cases b with
    | true => exact ⟨sd, m', P, a.to k r, p', fun b m2 v H2 k2 => q b m2 v H2 (k.trans k2)⟩
    | false => exact q _ m' _ H' k r (.bl _) p'
  | _ => exact p'.elim
theorem qe_or {a b : Expr} {rest : List Expr} {ta tb : TDE} {pos : Pos} (ha : PE X a (lE X.K H0 ta)) (hb : PE X (.BoolOp .Or (b :: rest) pos) (lE X.K H0 tb)) : PE X (.BoolOp .Or (a :: b :: rest) pos) (lE X.K H0 (dOrV ta tb)) := peL (pe_or ha hb) fun σ H Q h => by
  obtain ⟨sd, m, P, a, p, q⟩ := h
  refine ⟨sd, m, _, a, p, fun d m' v H' k r rd p' => ?_⟩
  cases d with
  | bl b =>
    cases rd.bl_
    refine ⟨b, rfl, ?_⟩
    cases b with
    | false => exact ⟨sd, m', P, a.to k r, p', fun b m2 v H2 k2 => q b m2 v H2 (k.trans k2)⟩
    | true => exact q _ m' _ H' k r (.bl _) p'
  | _ => exact p'.elim
theorem qe_not {a : Expr} {ta : TDE} {pos : Pos} (ha : PE X a (lE X.K H0 ta)) : PE X (.UnaryOp .Not a pos) (lE X.K H0 (dNotV ta)) := peL (pe_not ha) fun σ H Q h => by
  obtain ⟨sd, m, P, a, p, q⟩ := h
  refine ⟨sd, m, _, a, p, fun d m' v H' k r rd p' => ?_⟩
  cases d with
  | bl b => cases rd.bl_; exact ⟨b, rfl, q _ m' _ H' k r (.bl _) p'⟩
  | _ => exact p'.elim
def dIfE (t : TDT) (ta tb : TDE) : TDE := fun sd m P => t sd m fun c m1 => if c = true then ta sd m1 P else tb sd m1 P
theorem qe_if {c a b : Expr} {t : TDT} {ta tb : TDE} {pos : Pos} (hc : PT X c (lT X.K H0 t)) (ha : PE X a (lE X.K H0 ta)) (hb : PE X b (lE X.K H0 tb)) : PE X (.IfExp c a b pos) (lE X.K H0 (dIfE t ta tb)) := peL (pe_ifExp hc ha hb) fun σ H Q h => by
  obtain ⟨sd, m, P, a, p, q⟩ := h
  refine ⟨sd, m, _, a, p, fun b m' H' k r p' => ?_⟩
  cases b with
  | true => exact ⟨sd, m', P, a.to k r, p', fun b m2 v H2 k2 => q b m2 v H2 (k.trans k2)⟩
  | false => exact ⟨sd, m', P, a.to k r, p', fun b m2 v H2 k2 => q b m2 v H2 (k.trans k2)⟩
/-- a op b op' c -/
def dChain (r r' : R2D) (ta tb tc : TDE) : TDE := fun sd m P => ta sd m fun x m1 => tb sd m1 fun y m2 => r x y m2 fun z m3 => match z with
  | .bl k => if k = true then tc sd m3 fun w m4 => r' y w m4 P else P (.bl false) m3
  | _ => False
theorem l_chain {K : PySem.W.Frag} {r r' : R2D} {s s' : R2} {ta tb tc : TDE} {σ : St} {H : Hp} {Q : VK} (l : Lift2 K r s) (l' : Lift2 K r' s') (h : lE K H0 (dChain r r' ta tb tc) σ H Q) : tChain s s' (lE K H0 ta) (lE K H0 tb) (lE K H0 tc) σ H Q := by
  obtain ⟨sd, m, P, a, p, q⟩ := h
  refine ⟨sd, m, _, a, p, fun x m1 u H1 k1 r1 d1 p1 => ?_⟩
  refine ⟨sd, m1, _, a.to k1 r1, p1, fun y m2 v H2 k2 r2 d2 p2 => ?_⟩
  refine l H2 m2 x y u v _ _ r2 (d1.mono k2) d2 p2 fun d m3 w H3 k3 r3 d3 p3 => ?_
  cases d with
  | bl b =>
    cases d3.bl_
    refine ⟨b, rfl, ?_⟩
    cases b with
    | true =>
      refine ⟨sd, m3, _, a.to ((k1.trans k2).trans k3) r3, p3, fun z m4 w H4 k4 r4 d4 p4 => ?_⟩
      exact l' H4 m4 y z v w P Q r4 (d2.mono (k3.trans k4)) d4 p4 fun d m' w H' k => q d m' w H' ((((k1.trans k2).trans k3).trans k4).trans k)
    | false => exact q _ m3 _ H3 ((k1.trans k2).trans k3) r3 (.bl _) p3
  | _ => exact p3.elim
theorem qe_chain {a b c : Expr} {op op' : CmpOp} {r r' : R2D} {ta tb tc : TDE} {pos : Pos} (o : OpD X (compareOp op) r) (o' : OpD X (compareOp op') r') (ha : PE X a (lE X.K H0 ta)) (hb : PE X b (lE X.K H0 tb)) (hc : PE X c (lE X.K H0 tc))
    (hm : lastMarks [op, op'] [b, c] = false := by with_unfolding_all rfl) : PE X (.Compare a [op, op'] [b, c] pos) (lE X.K H0 (dChain r r' ta tb tc)) := by
  obtain ⟨s, h1, h2⟩ := o.ex
  obtain ⟨s', h1', h2'⟩ := o'.ex
  exact peL (pe_chain h1 h1' ha hb hc hm) fun _ _ _ => l_chain h2 h2'
theorem qt_chain {a b c : Expr} {op op' : CmpOp} {r r' : R2D} {ta tb tc : TDE} {pos : Pos} (o : OpD X (compareOp op) r) (o' : OpD X (compareOp op') r') (ha : PE X a (lE X.K H0 ta)) (hb : PE X b (lE X.K H0 tb)) (hc : PE X c (lE X.K H0 tc))
    (hm : lastMarks [op, op'] [b, c] = false := by with_unfolding_all rfl) : PT X (.Compare a [op, op'] [b, c] pos) (lT X.K H0 (dB (dChain r r' ta tb tc))) := by
  obtain ⟨s, h1, h2⟩ := o.ex
  obtain ⟨s', h1', h2'⟩ := o'.ex
  refine ptL (pt_chain h1 h1' ha hb hc hm) fun σ H Q h => ?_
  refine l_chain (K := X.K) (H0 := H0) h2 h2' ?_
  obtain ⟨sd, m, P, a, p, q⟩ := h
  refine ⟨sd, m, _, a, p, fun d m' v H' k r rd p' => ?_⟩
  cases d with
  | bl b => cases rd.bl_; exact ⟨b, rfl, q b m' H' k r p'⟩
  | _ => exact p'.elim
/-! ### truth of lists, tuples, texts, ints -/
def truD : D → M → (Bool → M → Prop) → Prop := fun x m P => match x with
  | .bl b => P b m
  | .int i => P (i != 0) m
  | .str y => y.length ≤ sizeLine ∧ P ((y.length : Int) != 0) m
  | .tup xs => P (!xs.isEmpty) m
  | .non => P false m
  | .rol xs => P (!xs.isEmpty) m
  | .ref a => ∃ xs, m a = some (.lst xs) ∧ P (!xs.isEmpty) m
  | _ => False
def dTru (t : TDE) : TDT := fun sd m P => t sd m fun x m1 => truD x m1 P
theorem RDs.isEmpty {K : PySem.W.Frag} {H : Hp} : ∀ {xs : List D} {vs : List V}, RDs K H xs vs → xs.isEmpty = vs.isEmpty
  | _, _, .nil => rfl
  | _, _, .cons _ _ => rfl
theorem qt_tru {a : Expr} {t : TDE} (ha : PE X a (lE X.K H0 t)) (he : ∀ whole, isTrue a X.env whole = (do let v ← whole; standAt a.pos; holding [v] (truthy v)) := by intro _; rfl) : PT X a (lT X.K H0 (dTru t)) := ptL (pt_truth ha he) fun σ H Q h => by
  obtain ⟨sd, m, P, a, p, q⟩ := h
  refine ⟨sd, m, _, a, p, fun d m' v H' k r rd p' => ?_⟩
  cases d with
  | bl b => cases rd.bl_; exact ⟨b, rfl, q b m' H' k r p'⟩
  | int b => cases rd.int_; exact ⟨_, rfl, q _ m' H' k r p'⟩
  | non => cases rd.non_; exact ⟨_, rfl, q _ m' H' k r p'⟩
  | str b => cases rd.str_; exact ⟨_, ⟨p'.1, rfl⟩, q _ m' H' k r p'.2⟩
  | tup xs =>
    obtain ⟨a, vs, rfl, h1, h2⟩ := rd.tup_
    exact ⟨_, .inr (.inl ⟨vs, h1, rfl⟩), q _ m' H' k r (by rw [← h2.isEmpty]; exact p')⟩
  | ref a =>
    cases rd.ref_
    obtain ⟨xs, h1, p'⟩ := p'
    obtain ⟨vs, e1, r1⟩ := r a _ h1
    exact ⟨_, .inl ⟨vs, .inl (.inl e1), rfl⟩, q _ m' H' k r (by rw [← r1.isEmpty]; exact p')⟩
  | rol xs =>
    obtain ⟨a, vs, rfl, h1, h2⟩ := rd.rol_
    exact ⟨_, .inl ⟨vs, h1.sq, rfl⟩, q _ m' H' k r (by rw [← h2.isEmpty]; exact p')⟩
  | ty n => exact p'.elim
/-! ### argument lists, displays -/
def dNil : TDA := fun _ m P => P [] m
def dCons (ta : TDE) (tr : TDA) : TDA := fun sd m P => ta sd m fun x m1 => tr sd m1 fun xs m2 => P (x :: xs) m2
theorem qa_nil : PA X [] (lA X.K H0 dNil) := paL pa_nil fun σ H Q h => by
  obtain ⟨sd, m, P, a, p, q⟩ := h
  exact q [] m [] H (Keep.refl _) a.m .nil p
theorem l_cons {K : PySem.W.Frag} {ta : TDE} {tr : TDA} {σ : St} {H : Hp} {Q : List V → Hp → Prop} (h : lA K H0 (dCons ta tr) σ H Q) : tCons (lE K H0 ta) (lA K H0 tr) σ H Q := by
  obtain ⟨sd, m, P, a, p, q⟩ := h
  refine ⟨sd, m, _, a, p, fun x m1 u H1 k1 r1 d1 p1 => ?_⟩
  exact ⟨sd, m1, _, a.to k1 r1, p1, fun xs m2 us H2 k2 r2 d2 p2 => q _ m2 _ H2 (k1.trans k2) r2 (.cons (d1.mono k2) d2) p2⟩
theorem qa_cons {e : Expr} {es : List Expr} {te : TDE} {t : TDA} (ha : PE X e (lE X.K H0 te)) (hr : PA X es (lA X.K H0 t)) (hs : starEach (e :: es) X.env = (false, eval e X.env) :: starEach es X.env := by rfl) : PA X (e :: es) (lA X.K H0 (dCons te t)) :=
  paL (pa_cons ha hr hs) fun _ _ _ => l_cons
def dTup (t : TDA) : TDE := fun sd m P => t sd m fun xs m1 => xs.length ≤ sizeLine ∧ P (.tup xs) m1
def dLst (t : TDA) : TDE := fun sd m P => t sd m fun xs m1 => xs.length ≤ sizeLine ∧ ∀ p, m1 p = none → P (.ref p) (put m1 p (.lst xs))
theorem qe_tup {es : List Expr} {x1} {pos : Pos} {t : TDA} (h : PA X es (lA X.K H0 t)) : PE X (.Tuple es x1 pos) (lE X.K H0 (dTup t)) := peL (pe_tup h) fun σ H Q h => by
  obtain ⟨sd, m, P, a, p, q⟩ := h
  refine ⟨sd, m, _, a, p, fun xs m1 us H1 k1 r1 d1 p1 => ⟨by rw [← d1.length]; exact p1.1, fun z hz => ?_⟩⟩
  exact q _ m1 _ _ (k1.trans (Keep.new hz)) (r1.new hz) (.tup (.inl (.inl upd_same)) (d1.mono (Keep.new hz))) p1.2
theorem qe_lst {es : List Expr} {pos : Pos} {t : TDA} (h : PA X es (lA X.K H0 t)) : PE X (.List es pos) (lE X.K H0 (dLst t)) := peL (pe_lst h) fun σ H Q h => by
  obtain ⟨sd, m, P, a, p, q⟩ := h
  refine ⟨sd, m, _, a, p, fun xs m1 us H1 k1 r1 d1 p1 => ⟨by rw [← d1.length]; exact p1.1, fun z hz => ?_⟩⟩
  exact q _ _ _ _ (k1.trans (Keep.new hz)) (r1.newPut hz d1) (.ref z) (p1.2 z (r1.free hz))
/-! ### subscripts -/
def rIxD : R2D := fun x y m P => match x, y with
  | .tup xs, .int i => ∃ d, atI xs i = some d ∧ P d m
  | .str z, .int i => z.length ≤ sizeLine ∧ ∃ c, atI z.cps.toList i = some c ∧ P (.str ⟨#[c]⟩) m
  | .rol xs, .int i => ∃ d, atI xs i = some d ∧ P d m
  | .ref a, .int i => ∃ xs d, m a = some (.lst xs) ∧ atI xs i = some d ∧ P d m
  | _, _ => False
theorem RDs.atI {K : PySem.W.Frag} {H : Hp} {xs : List D} {vs : List V} {i : Int} {d : D} (r : RDs K H xs vs) (h : L2.atI xs i = some d) : ∃ v, L2.atI vs i = some v ∧ RD K H d v := by
  unfold L2.atI at h ⊢
  rw [← r.length]
  cases e : ixN xs.length i with
  | none => rw [e] at h; cases h
  | some j => rw [e] at h; exact r.get (by simpa using h)
theorem lift_ix {K : PySem.W.Frag} : Lift2 K rIxD (rIx K) := fun H m x y u v P Q rm rx ry p q => by
  unfold rIxD at p
  split at p
  · obtain ⟨d, h, p⟩ := p
    obtain ⟨a, vs, rfl, h1, h2⟩ := rx.tup_
    cases ry.int_
    obtain ⟨w, e, rd⟩ := h2.atI h
    exact .inr (.inl ⟨a, vs, _, w, rfl, rfl, h1, e, q _ m _ H (Keep.refl _) rm rd p⟩)
  · obtain ⟨z, c, h, p⟩ := p
    cases rx.str_
    cases ry.int_
    exact .inr (.inr ⟨_, _, c, rfl, rfl, z, h, q _ m _ H (Keep.refl _) rm (.str _) p⟩)
  · obtain ⟨d, h, p⟩ := p
    obtain ⟨a, vs, rfl, h1, h2⟩ := rx.rol_
    cases ry.int_
    obtain ⟨w, e, rd⟩ := h2.atI h
    exact .inl ⟨a, vs, _, w, rfl, rfl, h1.sq, e, q _ m _ H (Keep.refl _) rm rd p⟩
  · obtain ⟨xs, d, h, e, p⟩ := p
    cases rx.ref_
    cases ry.int_
    obtain ⟨vs, e1, r1⟩ := rm _ _ h
    obtain ⟨w, e', rd⟩ := r1.atI e
    exact .inl ⟨_, vs, _, w, rfl, rfl, .inl (.inl e1), e', q _ m _ H (Keep.refl _) rm rd p⟩
  · exact p.elim
theorem qe_ix {a b : Expr} {ta tb : TDE} {pos : Pos} (ha : PE X a (lE X.K H0 ta)) (hb : PE X b (lE X.K H0 tb)) (hs : PlainIx b) : PE X (.Subscript a b pos) (lE X.K H0 (dOp rIxD ta tb)) := peL (pe_ix ix_seq ha hb hs) fun _ _ _ => l_op lift_ix
/-! ### built-ins by name -/
def dCB (r : RnD) (t : TDA) : TDE := fun sd m P => t sd m fun xs m1 => r xs m1 P
structure CallD (X : Cx) (f : Value) (r' : RnD) : Prop where
  ex : ∃ r, CallR X f r ∧ LiftN X.K r' r
theorem CallD.or {f : Value} {r r' : RnD} (h : CallD X f r) (h' : CallD X f r') : CallD X f (fun x m P => r x m P ∨ r' x m P) := by
  obtain ⟨r1, h1, h2⟩ := h.ex
  obtain ⟨r3, h3, h4⟩ := h'.ex
  refine ⟨fun x H Q => r1 x H Q ∨ r3 x H Q, ?_, ?_⟩
  · intro pins s σ H xs us Q I r q
    rcases q with q | q
    · exact h1 pins s σ H xs us Q I r q
    · exact h3 pins s σ H xs us Q I r q
  · intro H m x u P Q a b d e
    exact d.imp (fun d => h2 H m x u P Q a b d e) fun d => h4 H m x u P Q a b d e
theorem CallD.imp {f : Value} {r r' : RnD} (h : CallD X f r) (i : ∀ x m P, r' x m P → r x m P) : CallD X f r' := by
  obtain ⟨r1, h1, h2⟩ := h.ex
  exact ⟨r1, h1, fun H m x u P Q a b d e => h2 H m x u P Q a b (i _ _ _ d) e⟩
theorem l_cb {K : PySem.W.Frag} {r' : RnD} {r : List V → Hp → VK → Prop} {t : TDA} {σ : St} {H : Hp} {Q : VK} (l : LiftN K r' r) (h : lE K H0 (dCB r' t) σ H Q) : tCB r (lA K H0 t) σ H Q := by
  obtain ⟨sd, m, P, a, p, q⟩ := h
  exact ⟨sd, m, _, a, p, fun xs m1 us H1 k1 r1 d1 p1 => l H1 m1 xs us P Q r1 d1 p1 fun d m' w H' k => q d m' w H' (k1.trans k)⟩
theorem qe_callB {e : Expr} {es : List Expr} {x : Str} {p pos : Pos} {id : String} {r : RnD} {t : TDA} (hc : CallD X (.builtin id) r) (hg : Gl X x) (hm : X.mg x = none) (hv : bootBuiltins x = some (.builtin id)) (ha : PA X (e :: es) (lA X.K H0 t)) (hn : x ≠ "__name__" := by decide) (hdb : (x == ("__debug__" : Str)) = false := by decide)
    (he : starEach (e :: es) X.env = (false, eval e X.env) :: starEach es X.env := by rfl) (hpl : (backTo pos (starEach es X.env)).any (·.1) = false := by rfl) : PE X (.Call (.Name x p) (e :: es) [] pos) (lE X.K H0 (dCB r t)) := by
  obtain ⟨r, h1, h2⟩ := hc.ex
  exact peL (pe_callB h1 hg hm hv ha hn hdb he hpl) fun _ _ _ => l_cb h2
theorem qe_callTy {e : Expr} {es : List Expr} {x : Str} {p pos : Pos} {T : String} {r : RnD} {t : TDA} (hc : CallD X (.type T) r) (hg : Gl X x) (hm : X.mg x = none) (hv : bootBuiltins x = some (.type T)) (ha : PA X (e :: es) (lA X.K H0 t)) (hn : x ≠ "__name__" := by decide) (hdb : (x == ("__debug__" : Str)) = false := by decide)
    (he : starEach (e :: es) X.env = (false, eval e X.env) :: starEach es X.env := by rfl) (hpl : (backTo pos (starEach es X.env)).any (·.1) = false := by rfl) : PE X (.Call (.Name x p) (e :: es) [] pos) (lE X.K H0 (dCB r t)) := by
  obtain ⟨r, h1, h2⟩ := hc.ex
  exact peL (pe_callTy h1 hg hm hv ha hn hdb he hpl) fun _ _ _ => l_cb h2
end
end Q4

set_option Elab.async false
set_option linter.all false
set_option maxRecDepth 100000
namespace Q4
open PySem L2
/-! ### statements -/
def dNext : TDS := fun D sd m => D.nx sd m
def dSeq (t u : TDS) : TDS := fun D sd m => ∃ J : DS → M → Prop, t { D with nx := J } sd m ∧ ∀ sd' m', J sd' m' → Fg (u D) sd' m'
def dBreak : TDS := fun D sd m => D.bk sd m
def dCont : TDS := fun D sd m => D.ct sd m
def dDrop (t : TDE) : TDS := fun D sd m => t sd m fun _ m1 => D.nx sd m1
def dRet (t : TDE) : TDS := fun D sd m => t sd m D.rt
def dRetN : TDS := fun D _ m => D.rt .non m
def dIf (c : TDT) (t u : TDS) : TDS := fun D sd m => c sd m fun b m1 => if b = true then t D sd m1 else u D sd m1
def dNever : TDS := fun _ _ _ => False
abbrev TDG := D → DS → M → (DS → M → Prop) → Prop
def lG (K : PySem.W.Frag) (H0 : Hp) (vs : List Nat) (g : TDG) : TG := fun v σ H Q => ∃ d sd m P, At K H0 sd m σ H ∧ RD K H d v ∧ g d sd m P ∧
  ∀ sd' m' σ' H', Keep K H H' → RS K H' sd' σ' → RM K H' m' → wipe σ' vs = wipe σ vs → P sd' m' → Q σ' H'
abbrev TDGs := List D → DS → M → (DS → M → Prop) → Prop
def lGs (K : PySem.W.Frag) (H0 : Hp) (vs : List Nat) (g : TDGs) : TGs := fun v σ H Q => ∃ d sd m P, At K H0 sd m σ H ∧ RDs K H d v ∧ g d sd m P ∧
  ∀ sd' m' σ' H', Keep K H H' → RS K H' sd' σ' → RM K H' m' → wipe σ' vs = wipe σ vs → P sd' m' → Q σ' H'
def dName (i : Nat) : TDG := fun d sd m P => P (sd.set i (some d)) m
def dGNil : TDGs := fun ds sd m P => ds = [] ∧ P sd m
def dGCons (t : TDG) (u : TDGs) : TDGs := fun ds sd m P => ∃ d r, ds = d :: r ∧ t d sd m fun sd' m' => u r sd' m' P
def dGTup (n : Nat) (t : TDGs) : TDG := fun d sd m P => ∃ xs, d = .tup xs ∧ xs.length = n ∧ t xs sd m P
def dAsg (t : TDE) (g : TDG) : TDS := fun D sd m => t sd m fun x m1 => g x sd m1 D.nx
theorem wipe_set {σ : St} {i : Nat} {x : Option V} : ∀ {vs : List Nat}, i ∈ vs → wipe (σ.set i x) vs = wipe σ vs
  | [], h => absurd h (by simp)
  | v :: vs, h => by
    unfold wipe
    by_cases e : i ∈ vs
    · rw [wipe_set e]
    · have : i = v := by simpa [e] using h
      subst this
      have : ∀ ws : List Nat, i ∉ ws → wipe (σ.set i x) ws = (wipe σ ws).set i x := by
        intro ws
        induction ws with
        | nil => intro _; rfl
        | cons w ws ih =>
          intro hw
          unfold wipe
          rw [ih fun z => hw (List.mem_cons_of_mem _ z), List.set_comm _ _ (fun z => hw (by rw [z]; exact List.mem_cons_self))]
      rw [this vs e, List.set_set]
theorem wipe_wipe {σ : St} : ∀ {vs : List Nat}, wipe (wipe σ vs) vs = wipe σ vs := by
  intro vs
  refine List.ext_getElem? fun j => ?_
  by_cases hj : j ∈ vs
  · have : ∀ (τ : St) (ws : List Nat), j ∈ ws → (wipe τ ws)[j]? = if j < τ.length then some none else none := by
      intro τ ws
      induction ws with
      | nil => intro h; simp at h
      | cons w ws ih =>
        intro h
        unfold wipe
        by_cases e : w = j
        · subst e
          rw [List.getElem?_set]
          simp [wipe_length]
        · rw [List.getElem?_set_ne e]
          exact ih ((List.mem_cons.mp h).resolve_left fun z => e z.symm)
    rw [this _ _ hj, this _ _ hj, wipe_length]
  · rw [wipe_out hj]
section
variable {X : Cx} {H0 : Hp}
theorem qss_nil : PSs X [] (lS X.K H0 dNext) := pssL pss_nil fun D σ H h => by
  obtain ⟨sd, m, DD, a, p, q⟩ := h
  exact q.1 sd m σ H (Keep.refl _) a.s a.m p
theorem l_seq {K : PySem.W.Frag} {t u : TDS} {D : Ends} {σ : St} {H : Hp} (h : lS K H0 (dSeq t u) D σ H) : tSeq (lS K H0 t) (lS K H0 u) D σ H := by
  obtain ⟨sd, m, DD, a, ⟨J, p, hJ⟩, q1, q2, q3, q4⟩ := h
  refine ⟨sd, m, _, a, p, fun sd' m' σ' H' k s r p' => ?_, q2, q3, q4⟩
  obtain ⟨m2, hl, p2⟩ := hJ sd' m' p'
  exact ⟨sd', m2, DD, a.toS k s (r.less hl), p2, fun a b c d k2 => q1 a b c d (k.trans k2), fun a b c d k2 => q2 a b c d (k.trans k2), fun a b c d k2 => q3 a b c d (k.trans k2), fun a b c d k2 => q4 a b c d (k.trans k2)⟩
theorem qss_cons {st : Stmt} {rest : List Stmt} {t u : TDS} (h1 : PS X st (lS X.K H0 t)) (h2 : PSs X rest (lS X.K H0 u)) : PSs X (st :: rest) (lS X.K H0 (dSeq t u)) := pssL (pss_cons h1 h2) fun _ _ _ => l_seq
theorem qss_one {st : Stmt} {t : TDS} (h1 : PS X st (lS X.K H0 t)) : PSs X [st] (lS X.K H0 t) := pss_one h1
theorem qs_pass {pos : Pos} : PS X (.Pass pos) (lS X.K H0 dNext) := psL ps_pass fun D σ H h => by
  obtain ⟨sd, m, DD, a, p, q⟩ := h
  exact q.1 sd m σ H (Keep.refl _) a.s a.m p
theorem qs_break {pos : Pos} : PS X (.Break pos) (lS X.K H0 dBreak) := psL ps_break fun D σ H h => by
  obtain ⟨sd, m, DD, a, p, q⟩ := h
  exact q.2.2.1 sd m σ H (Keep.refl _) a.s a.m p
theorem qs_continue {pos : Pos} : PS X (.Continue pos) (lS X.K H0 dCont) := psL ps_continue fun D σ H h => by
  obtain ⟨sd, m, DD, a, p, q⟩ := h
  exact q.2.2.2 sd m σ H (Keep.refl _) a.s a.m p
theorem qs_expr {e : Expr} {pos : Pos} {t : TDE} (he : PE X e (lE X.K H0 t)) (hs : swapsWith e none pos.line X.env = pure false := by rfl) : PS X (.Expr e pos) (lS X.K H0 (dDrop t)) := psL (ps_expr he hs) fun D σ H h => by
  obtain ⟨sd, m, DD, a, p, q⟩ := h
  exact ⟨sd, m, _, a, p, fun d m' v H' k r _ p' => q.1 sd m' σ H' k (a.s.mono k) r p'⟩
theorem qs_ret {e : Expr} {pos : Pos} {t : TDE} (he : PE X e (lE X.K H0 t)) : PS X (.Return (some e) pos) (lS X.K H0 (dRet t)) := psL (ps_ret he) fun D σ H h => by
  obtain ⟨sd, m, DD, a, p, q⟩ := h
  exact ⟨sd, m, _, a, p, q.2.1⟩
theorem qs_retN {pos : Pos} : PS X (.Return none pos) (lS X.K H0 dRetN) := psL ps_retN fun D σ H h => by
  obtain ⟨sd, m, DD, a, p, q⟩ := h
  exact q.2.1 .non m .non H (Keep.refl _) a.m .non p
theorem qs_if {c : Expr} {a b : List Stmt} {pos : Pos} {tc : TDT} {t u : TDS} (hc : PT X c (lT X.K H0 tc)) (ha : PSs X a (lS X.K H0 t)) (hb : PSs X b (lS X.K H0 u)) : PS X (.If c a b pos) (lS X.K H0 (dIf tc t u)) := psL (ps_if hc ha hb) fun D σ H h => by
  obtain ⟨sd, m, DD, a, p, q1, q2, q3, q4⟩ := h
  refine ⟨sd, m, _, a, p, fun b m' H' k r p' => ?_⟩
  cases b with
  | true => exact ⟨sd, m', DD, a.to k r, p', fun a b c d k2 => q1 a b c d (k.trans k2), fun a b c d k2 => q2 a b c d (k.trans k2), fun a b c d k2 => q3 a b c d (k.trans k2), fun a b c d k2 => q4 a b c d (k.trans k2)⟩
  | false => exact ⟨sd, m', DD, a.to k r, p', fun a b c d k2 => q1 a b c d (k.trans k2), fun a b c d k2 => q2 a b c d (k.trans k2), fun a b c d k2 => q3 a b c d (k.trans k2), fun a b c d k2 => q4 a b c d (k.trans k2)⟩
theorem qs_never {st : Stmt} : PS X st (lS X.K H0 dNever) := psL ps_never fun D σ H h => by
  obtain ⟨sd, m, DD, a, p, q⟩ := h
  exact p.elim
/-! ### targets -/
theorem qg_name {i : Nat} {x : Str} {pos : Pos} {vs : List Nat} (hN : X.N.Nodup) (hi : X.N[i]? = some x) (hx : Loc X.env.scope x) (hv : i ∈ vs) (hf : X.fn x = true ∨ X.env.scope.names.lookup x = some .local := by first | exact .inl rfl | exact .inr rfl | assumption) : PG X (.Name x pos) (lG X.K H0 vs (dName i)) := by
  refine ⟨fun pins s σ H v u Q I r h => (pg_name hN hi hx hf).run pins s σ H v u Q I r ?_⟩
  obtain ⟨d, sd, m, P, a, rd, p, q⟩ := h
  exact q _ m _ H (Keep.refl _) (a.s.set i rd) a.m (wipe_set hv) p
theorem qgs_nil {vs : List Nat} : PGs X [] (lGs X.K H0 vs dGNil) := by
  refine ⟨fun pins s σ H v us Q I r h => pgs_nil.run pins s σ H v us Q I r ?_⟩
  obtain ⟨d, sd, m, P, a, rd, ⟨e, p⟩, q⟩ := h
  subst e
  exact ⟨rd.nil_, q sd m σ H (Keep.refl _) a.s a.m rfl p⟩
theorem qgs_cons {e : Expr} {es : List Expr} {vs : List Nat} {t : TDG} {u : TDGs} (h1 : PG X e (lG X.K H0 vs t)) (h2 : PGs X es (lGs X.K H0 vs u)) (hs : (assignEach (e :: es) X.env).map (·.2) = assign e X.env :: (assignEach es X.env).map (·.2) := by rfl) : PGs X (e :: es) (lGs X.K H0 vs (dGCons t u)) := by
  refine ⟨fun pins s σ H v us Q I r h => (pgs_cons h1 h2 hs).run pins s σ H v us Q I r ?_⟩
  obtain ⟨d, sd, m, P, a, rd, ⟨x, xs, e, p⟩, q⟩ := h
  subst e
  cases rd with
  | cons r1 r2 =>
    refine ⟨_, _, rfl, x, sd, m, _, a, r1, p, fun sd' m' σ' H' k s r w p' => ?_⟩
    exact ⟨xs, sd', m', P, a.toS k s r, r2.mono k, p', fun sd2 m2 σ2 H2 k2 s2 r2 w2 => q sd2 m2 σ2 H2 (k.trans k2) s2 r2 (w2.trans w)⟩
theorem qg_tup {es : List Expr} {k : Nat} {pos : Pos} {vs : List Nat} {t : TDGs} {n : Nat} (hc : X.calm = true) (h : PGs X es (lGs X.K H0 vs t)) (hn : (assignEach es X.env).length = n := by rfl) (hst : (assignEach es X.env).findIdx? (·.1) = none := by rfl) : PG X (.Tuple es k pos) (lG X.K H0 vs (dGTup n t)) := by
  refine ⟨fun pins s σ H v u Q I r h' => (pg_tup hc h hn hst).run pins s σ H v u Q I r ?_⟩
  obtain ⟨d, sd, m, P, a, rd, ⟨xs, e, hl, p⟩, q⟩ := h'
  subst e
  obtain ⟨b, ws, rfl, h1, h2⟩ := rd.tup_
  exact ⟨b, ws, rfl, h1, by rw [← h2.length]; exact hl, xs, sd, m, P, a, h2, p, q⟩
theorem l_asg {K : PySem.W.Frag} {t : TDE} {g : TDG} {vs : List Nat} {D : Ends} {σ : St} {H : Hp} (h : lS K H0 (dAsg t g) D σ H) : tAsg (lE K H0 t) (lG K H0 vs g) D σ H := by
  obtain ⟨sd, m, DD, a, p, q⟩ := h
  refine ⟨sd, m, _, a, p, fun d m' v H' k r rd p' => ?_⟩
  exact ⟨d, sd, m', _, a.to k r, rd, p', fun sd2 m2 σ2 H2 k2 s2 r2 _ => q.1 sd2 m2 σ2 H2 (k.trans k2) s2 r2⟩
theorem qs_asg {tg e : Expr} {pos : Pos} {t : TDE} {g : TDG} {vs : List Nat} (he : PE X e (lE X.K H0 t)) (hg : PG X tg (lG X.K H0 vs g)) (hs : swapsWithSole [tg] e pos.line X.env = pure false := by rfl) (hw : swappedStores [tg] e X.env = pure none := by rfl)
    (h1 : (assignEach [tg] X.env).map (·.2) = [assign tg X.env] := by rfl) : PS X (.Assign [tg] e pos) (lS X.K H0 (dAsg t g)) := psL (ps_asg he hg hs hw h1) fun _ _ _ => l_asg
theorem qs_set {i : Nat} {x : Str} {e : Expr} {t : TDE} {pos pos' : Pos} (hN : X.N.Nodup) (hi : X.N[i]? = some x) (hx : Loc X.env.scope x) (he : PE X e (lE X.K H0 t)) (hs : swapsWith e (some (.Name x pos')) pos.line X.env = pure false := by rfl) (hf : X.fn x = true ∨ X.env.scope.names.lookup x = some .local := by first | exact .inl rfl | exact .inr rfl | assumption) :
    PS X (.Assign [.Name x pos'] e pos) (lS X.K H0 (dAsg t (dName i))) := psL (ps_set hN hi hx he hs hf) fun D σ H h => by
  obtain ⟨sd, m, DD, a, p, q⟩ := h
  exact ⟨sd, m, _, a, p, fun d m' v H' k r rd p' => q.1 _ m' _ H' k ((a.s.mono k).set i rd) r p'⟩
/-- o[i] = e of a list -/
def dGSub (to ti : TDE) : TDG := fun v sd m P => to sd m fun o m1 => ti sd m1 fun i m2 => match o, i with
  | .ref a, .int k => ∃ xs j, m2 a = some (.lst xs) ∧ ixN xs.length k = some j ∧ P sd (put m2 a (.lst (xs.set j v)))
  | _, _ => False
theorem qg_sub {o i : Expr} {to ti : TDE} {pos : Pos} {vs : List Nat} (ho : PE X o (lE X.K H0 to)) (hi : PE X i (lE X.K H0 ti)) (ha : ∀ v, assign (.Subscript o i pos) X.env v = (do
      let ov ← holding [v] (eval o X.env)
      let iv ← holding [v, ov] (eval i X.env)
      standAt pos
      holding [v, ov, iv] (setItem ov iv v)
      release [v, ov, iv] []) := by intro _; rfl) : PG X (.Subscript o i pos) (lG X.K H0 vs (dGSub to ti)) := by
  refine ⟨fun pins s σ H v u Q I r h => (pg_sub ho hi set_list ha).run pins s σ H v u Q I r ?_⟩
  obtain ⟨d, sd, m, P, a, rd, p, q⟩ := h
  refine ⟨sd, m, _, a, p, fun x m1 w H1 k1 r1 d1 p1 => ?_⟩
  refine ⟨sd, m1, _, a.to k1 r1, p1, fun y m2 w2 H2 k2 r2 d2 p2 => ?_⟩
  split at p2
  · obtain ⟨xs, j, e, hj, p2⟩ := p2
    cases d1.ref_
    cases d2.int_
    obtain ⟨ws, e1, rr⟩ := r2 _ _ e
    exact ⟨_, ws, _, j, rfl, rfl, e1, by rw [← rr.length]; exact hj, q sd _ σ _ ((k1.trans k2).trans (Keep.lst e1)) (a.s.mono ((k1.trans k2).trans (Keep.lst e1))) (r2.setPut e1 (RDs.set (rd.mono (k1.trans k2)) j rr)) rfl p2⟩
  · exact p2.elim
/-- name op= e: the operator's own rule (ints) -/
def rInp (f : Int → Int → Int) : R2D := fun x y m P => match x, y with | .int i, .int j => P (.int (f i j)) m | _, _ => False
def dAug (i : Nat) (t : TDE) (r : R2D) : TDS := fun D sd m => ∃ x, sd[i]? = some (some x) ∧ t sd m fun y m1 => r x y m1 fun z m2 => D.nx (sd.set i (some z)) m2
theorem qs_augI {f : Int → Int → Int} {i : Nat} {x : Str} {e : Expr} {t : TDE} {op : Operator} {pos pos' : Pos} (hN : X.N.Nodup) (hi : X.N[i]? = some x) (hx : Loc X.env.scope x) (he : PE X e (lE X.K H0 t)) (ho : PIp X op (ipI f)) (hf : X.fn x = true ∨ X.env.scope.names.lookup x = some .local := by first | exact .inl rfl | exact .inr rfl | assumption) :
    PS X (.AugAssign (.Name x pos') op e pos) (lS X.K H0 (dAug i t (rInp f))) := psL (ps_aug hN hi hx he ho hf) fun D σ H h => by
  obtain ⟨sd, m, DD, a, ⟨d, e1, p⟩, q⟩ := h
  obtain ⟨v, e2, rd⟩ := a.s.get i d e1
  refine ⟨v, e2, sd, m, _, a, p, fun y m1 w H1 k1 r1 d1 p1 => ?_⟩
  unfold rInp at p1
  split at p1
  · cases rd.int_
    cases d1.int_
    exact ⟨_, _, rfl, rfl, q.1 _ m1 _ H1 k1 ((a.s.mono k1).set i (.int _)) r1 p1⟩
  · exact p1.elim
/-! ### while -/
def dWhile (c : TDT) (tb : TDS) : TDS := fun D sd m => ∃ W : Nat → DS → M → Prop, (∃ n, W n sd m) ∧ ∀ n sd m, W n sd m →
  c sd m fun b m1 => if b = true then tb { D with nx := Fg fun sd' m' => ∃ n', n' < n ∧ W n' sd' m', ct := Fg fun sd' m' => ∃ n', n' < n ∧ W n' sd' m', bk := D.nx } sd m1 else D.nx sd m1
theorem qs_while {c : Expr} {body : List Stmt} {tc : TDT} {tb : TDS} {pos : Pos} (hp : PassesOwn (model X.prog X.w) X.A X.env X.xe) (hc : PT X c (lT X.K H0 tc)) (hb : PSs X body (lS X.K H0 tb)) : PS X (.While c body [] pos) (lS X.K H0 (dWhile tc tb)) := psL (ps_while hp hc hb) fun D σ H h => by
  obtain ⟨sd, m, DD, a, ⟨W, ⟨n0, w0⟩, turn⟩, q1, q2, q3, q4⟩ := h
  refine ⟨fun n σ' H' => ∃ sd' m', Keep X.K H H' ∧ RS X.K H' sd' σ' ∧ RM X.K H' m' ∧ W n sd' m', ⟨n0, sd, m, Keep.refl _, a.s, a.m, w0⟩, ?_⟩
  rintro n σ1 H1 ⟨sd1, m1, k1, s1, r1, w1⟩
  refine ⟨sd1, m1, _, a.toS k1 s1 r1, turn n sd1 m1 w1, fun b m2 H2 k2 r2 p2 => ?_⟩
  cases b with
  | true =>
    refine ⟨fun σ' H' => ∃ n', n' < n ∧ ∃ sd' m', Keep X.K H H' ∧ RS X.K H' sd' σ' ∧ RM X.K H' m' ∧ W n' sd' m', fun σ' H' z => z, ?_⟩
    refine ⟨sd1, m2, _, a.toS (k1.trans k2) (s1.mono k2) r2, p2, ?_, ?_, ?_, ?_⟩
    · rintro sd3 m3 σ3 H3 k3 s3 r3 ⟨m4, hl, n', hn, w⟩
      exact ⟨n', hn, sd3, m4, (k1.trans k2).trans k3, s3, r3.less hl, w⟩
    · exact fun a b c d k3 => q2 a b c d ((k1.trans k2).trans k3)
    · exact fun a b c d k3 => q1 a b c d ((k1.trans k2).trans k3)
    · rintro sd3 m3 σ3 H3 k3 s3 r3 ⟨m4, hl, n', hn, w⟩
      exact ⟨n', hn, sd3, m4, (k1.trans k2).trans k3, s3, r3.less hl, w⟩
  | false => exact q1 sd1 m2 σ1 H2 (k1.trans k2) (s1.mono k2) r2 p2
/-! ### what is walked -/
abbrev DIt := Nat → M → Option D → Prop
def LiftIt (K : PySem.W.Frag) (H1 : Hp) (J : DIt) (J' : It) : Prop := ∀ H, Keep K H1 H → ∀ i m, RM K H m → ∀ o, J i m o → match o with
  | none => J'.stop i H
  | some x => J'.go i H ∧ ∀ v H', J'.yld i H v H' → Keep K H H' ∧ RM K H' m ∧ RD K H' x v
abbrev TDI := DS → M → (DIt → M → Prop) → Prop
def lI (K : PySem.W.Frag) (H0 : Hp) (wi : TDI) : TI := fun σ H R => ∃ sd m P, At K H0 sd m σ H ∧ wi sd m P ∧ ∀ J m' J' H', Keep K H H' → RM K H' m' → LiftIt K H' J J' → P J m' → R J' H'
theorem piL {tg e : Expr} {t t' : TI} (h : PI X tg e t) (i : ∀ σ H Q, t' σ H Q → t σ H Q) : PI X tg e t' := ⟨fun pins s σ H Q I ht => h.run pins s σ H Q I (i _ _ _ ht)⟩
def jTup (xs : List D) : DIt := fun i _ o => o = xs[i]?
def jLst (a : Addr) : DIt := fun i m o => ∃ xs, m a = some (.lst xs) ∧ o = xs[i]?
def jRng (lo : Int) (n : Nat) : DIt := fun i _ o => o = if i < n then some (.int (lo + i)) else none
/-- a tuple -/
def iT (t : TDE) : TDI := fun sd m P => t sd m fun x m1 => match x with | .tup xs => P (jTup xs) m1 | _ => False
/-- a list -/
def iL (t : TDE) : TDI := fun sd m P => t sd m fun x m1 => match x with | .rol xs => P (jTup xs) m1 | .ref a => (∃ xs, m1 a = some (.lst xs)) ∧ P (jLst a) m1 | _ => False
theorem lift_tup {K : PySem.W.Frag} {H : Hp} {b : Addr} {xs : List D} {vs : List V} (h1 : SqT K H b vs) (h2 : RDs K H xs vs) : LiftIt K H (jTup xs) (Itt K b) := fun H2 k2 i m2 r2 o e => by
  have e : o = xs[i]? := e
  cases e2 : xs[i]? with
  | none =>
    rw [e2] at e
    subst e
    exact ⟨vs, k2.t _ _ h1, by rw [← h2.length]; exact List.getElem?_eq_none_iff.mp e2⟩
  | some x =>
    rw [e2] at e
    subst e
    obtain ⟨u, e3, r3⟩ := h2.get e2
    refine ⟨⟨vs, u, k2.t _ _ h1, e3⟩, fun v H3 y => ?_⟩
    obtain ⟨e4, y⟩ := y
    have e5 := y vs (k2.t _ _ h1)
    rw [e3] at e5
    cases e5
    subst e4
    exact ⟨Keep.refl _, r2, r3.mono k2⟩
theorem lift_rol {K : PySem.W.Frag} {H : Hp} {b : Addr} {xs : List D} {vs : List V} (h1 : FrzL K H b vs) (h2 : RDs K H xs vs) : LiftIt K H (jTup xs) (Itl K b) := fun H2 k2 i m2 r2 o e => by
  have e : o = xs[i]? := e
  have g1 := (k2.f _ _ h1).sq
  cases e2 : xs[i]? with
  | none =>
    rw [e2] at e
    subst e
    exact ⟨vs, g1, by rw [← h2.length]; exact List.getElem?_eq_none_iff.mp e2⟩
  | some x =>
    rw [e2] at e
    subst e
    obtain ⟨u, e3, r3⟩ := h2.get e2
    refine ⟨⟨vs, u, g1, e3⟩, fun v H3 y => ?_⟩
    obtain ⟨e4, y⟩ := y
    have e5 := y vs g1
    rw [e3] at e5
    cases e5
    subst e4
    exact ⟨Keep.refl _, r2, r3.mono k2⟩
theorem lift_lst {K : PySem.W.Frag} {H : Hp} {b : Addr} : LiftIt K H (jLst b) (Itl K b) := fun H2 k2 i m2 r2 o e => by
  obtain ⟨ys, hy, e⟩ := e
  obtain ⟨ws, e1, g2⟩ := r2 _ _ hy
  have g1 : SqL K H2 b ws := .inl (.inl e1)
  cases e2 : ys[i]? with
  | none =>
    rw [e2] at e
    subst e
    exact ⟨ws, g1, by rw [← g2.length]; exact List.getElem?_eq_none_iff.mp e2⟩
  | some x =>
    rw [e2] at e
    subst e
    obtain ⟨u, e3, r3⟩ := g2.get e2
    refine ⟨⟨ws, u, g1, e3⟩, fun v H3 y => ?_⟩
    obtain ⟨e4, y⟩ := y
    have e5 := y ws g1
    rw [e3] at e5
    cases e5
    subst e4
    exact ⟨Keep.refl _, r2, r3⟩
theorem qi_tup {tg l : Expr} {t : TDE} (hl : PE X l (lE X.K H0 t)) : PI X tg l (lI X.K H0 (iT t)) := piL (pi_tup hl) fun σ H Q h => by
  obtain ⟨sd, m, P, a, p, q⟩ := h
  refine ⟨sd, m, _, a, p, fun d m' v H' k r rd p' => ?_⟩
  cases d with
  | tup xs =>
    obtain ⟨b, vs, rfl, h1, h2⟩ := rd.tup_
    refine ⟨b, rfl, ⟨vs, h1⟩, q _ m' _ H' k r (fun H2 k2 i m2 r2 o e => ?_) p'⟩
    have e : o = xs[i]? := e
    cases e2 : xs[i]? with
    | none =>
      rw [e2] at e
      subst e
      exact ⟨vs, k2.t _ _ h1, by rw [← h2.length]; exact List.getElem?_eq_none_iff.mp e2⟩
    | some x =>
      rw [e2] at e
      subst e
      obtain ⟨u, e3, r3⟩ := h2.get e2
      refine ⟨⟨vs, u, k2.t _ _ h1, e3⟩, fun v H3 y => ?_⟩
      obtain ⟨e4, y⟩ := y
      have e5 := y vs (k2.t _ _ h1)
      rw [e3] at e5
      cases e5
      subst e4
      exact ⟨Keep.refl _, r2, r3.mono k2⟩
  | _ => exact p'.elim
theorem qi_list {tg l : Expr} {t : TDE} (hl : PE X l (lE X.K H0 t)) : PI X tg l (lI X.K H0 (iL t)) := piL (pi_list hl) fun σ H Q h => by
  obtain ⟨sd, m, P, a, p, q⟩ := h
  refine ⟨sd, m, _, a, p, fun d m' v H' k r rd p' => ?_⟩
  cases d with
  | ref b =>
    cases rd.ref_
    obtain ⟨⟨xs, hx⟩, p'⟩ := p'
    have sq : ∀ {H2 : Hp} {m2 : M} {ys : List D}, RM X.K H2 m2 → m2 b = some (.lst ys) → ∃ vs, SqL X.K H2 b vs ∧ RDs X.K H2 ys vs := fun r2 h2 => by
      obtain ⟨vs, e1, r1⟩ := r2 _ _ h2; exact ⟨vs, .inl (.inl e1), r1⟩
    obtain ⟨vs, h1, h2⟩ := sq r hx
    refine ⟨b, rfl, ⟨vs, h1⟩, q _ m' _ H' k r (fun H2 k2 i m2 r2 o e => ?_) p'⟩
    obtain ⟨ys, hy, e⟩ := e
    obtain ⟨ws, g1, g2⟩ := sq r2 hy
    cases e2 : ys[i]? with
    | none =>
      rw [e2] at e
      subst e
      exact ⟨ws, g1, by rw [← g2.length]; exact List.getElem?_eq_none_iff.mp e2⟩
    | some x =>
      rw [e2] at e
      subst e
      obtain ⟨u, e3, r3⟩ := g2.get e2
      refine ⟨⟨ws, u, g1, e3⟩, fun v H3 y => ?_⟩
      obtain ⟨e4, y⟩ := y
      have e5 := y ws g1
      rw [e3] at e5
      cases e5
      subst e4
      exact ⟨Keep.refl _, r2, r3⟩
  | rol xs =>
    obtain ⟨b, vs, rfl, h1, h2⟩ := rd.rol_
    refine ⟨b, rfl, ⟨vs, h1.sq⟩, q _ m' _ H' k r (fun H2 k2 i m2 r2 o e => ?_) p'⟩
    have e : o = xs[i]? := e
    have g1 := (k2.f _ _ h1).sq
    cases e2 : xs[i]? with
    | none =>
      rw [e2] at e
      subst e
      exact ⟨vs, g1, by rw [← h2.length]; exact List.getElem?_eq_none_iff.mp e2⟩
    | some x =>
      rw [e2] at e
      subst e
      obtain ⟨u, e3, r3⟩ := h2.get e2
      refine ⟨⟨vs, u, g1, e3⟩, fun v H3 y => ?_⟩
      obtain ⟨e4, y⟩ := y
      have e5 := y vs g1
      rw [e3] at e5
      cases e5
      subst e4
      exact ⟨Keep.refl _, r2, r3.mono k2⟩
  | _ => exact p'.elim
theorem lift_rng {K : PySem.W.Frag} {H : Hp} {lo : Int} {n : Nat} : LiftIt K H (jRng lo n) (Itr lo n) := fun H2 k2 i m2 r2 o e => by
  have e : o = if i < n then some (.int (lo + i)) else none := e
  by_cases h : i < n
  · rw [if_pos h] at e
    subst e
    refine ⟨h, fun v H3 y => ?_⟩
    obtain ⟨e4, y⟩ := y
    subst e4 y
    exact ⟨Keep.refl _, r2, .int _⟩
  · rw [if_neg h] at e
    subst e
    exact Nat.le_of_not_lt h
def iR1 (t : TDA) : TDI := fun sd m P => t sd m fun xs m1 => match xs with | [.int j] => -(2 ^ 62) ≤ j ∧ j < 2 ^ 62 ∧ P (jRng 0 j.toNat) m1 | _ => False
def iR2 (t : TDA) : TDI := fun sd m P => t sd m fun xs m1 => match xs with | [.int i, .int j] => (-(2 ^ 62) ≤ i ∧ i < 2 ^ 62 ∧ -(2 ^ 62) ≤ j ∧ j < 2 ^ 62) ∧ P (jRng i (j - i).toNat) m1 | _ => False
theorem qi_range1 {tg a : Expr} {t : TDA} {p pos : Pos} (hg : Gl X "range") (hm : X.mg "range" = none) (ha : PA X [a] (lA X.K H0 t)) (hs : starEach [a] X.env = [(false, eval a X.env)] := by rfl) : PI X tg (.Call (.Name "range" p) [a] [] pos) (lI X.K H0 (iR1 t)) := piL (pi_range1 hg hm ha hs) fun σ H Q h => by
  obtain ⟨sd, m, P, a, p, q⟩ := h
  refine ⟨sd, m, _, a, p, fun d m' v H' k r rd p' => ?_⟩
  split at p'
  · obtain ⟨u, rfl, r1⟩ := rd.one_
    cases r1.int_
    exact ⟨_, rfl, p'.1, p'.2.1, q _ m' _ H' k r lift_rng p'.2.2⟩
  · exact p'.elim
theorem qi_range2 {tg a b : Expr} {t : TDA} {p pos : Pos} (hg : Gl X "range") (hm : X.mg "range" = none) (ha : PA X [a, b] (lA X.K H0 t)) (hs : starEach [a, b] X.env = [(false, eval a X.env), (false, eval b X.env)] := by rfl) (hs2 : starEach [b] X.env = [(false, eval b X.env)] := by rfl) :
    PI X tg (.Call (.Name "range" p) [a, b] [] pos) (lI X.K H0 (iR2 t)) := piL (pi_range2 hg hm ha hs hs2) fun σ H Q h => by
  obtain ⟨sd, m, P, a, p, q⟩ := h
  refine ⟨sd, m, _, a, p, fun d m' v H' k r rd p' => ?_⟩
  split at p'
  · obtain ⟨u, w, rfl, r1, r2⟩ := rd.two_
    cases r1.int_
    cases r2.int_
    exact ⟨_, _, rfl, p'.1, q _ m' _ H' k r lift_rng p'.2⟩
  · exact p'.elim
/-! ### for -/
def dFor (wi : TDI) (g : TDG) (tb : TDS) : TDS := fun D sd m => wi sd m fun J m1 => ∃ (N : Nat) (W : Nat → DS → M → Prop), W 0 sd m1 ∧ ∀ i sd m, W i sd m → i ≤ N ∧ ∃ o, J i m o ∧ match o with
  | none => D.nx sd m
  | some x => g x sd m fun sd2 m2 => tb { D with nx := Fg (W (i + 1)), ct := Fg (W (i + 1)), bk := D.nx } sd2 m2
/-- a loop's reading over any lifted iterable -/
theorem for_core {K : PySem.W.Frag} {g : TDG} {tb : TDS} {vs : List Nat} {J : DIt} {J' : It} {H H1 : Hp} {sd : DS} {m1 : M} {σ : St} {DD : DEnds} {D : Ends} (k0 : Keep K H0 H) (k1 : Keep K H H1) (s1 : RS K H1 sd σ) (r1 : RM K H1 m1) (l1 : LiftIt K H1 J J')
    (q1 : ∀ sd' m' σ' H', Keep K H H' → RS K H' sd' σ' → RM K H' m' → DD.nx sd' m' → D.nx σ' H') (q2 : ∀ d m' v H', Keep K H H' → RM K H' m' → RD K H' d v → DD.rt d m' → D.rt v H')
    (p : ∃ (N : Nat) (W : Nat → DS → M → Prop), W 0 sd m1 ∧ ∀ i sd m, W i sd m → i ≤ N ∧ ∃ o, J i m o ∧ match o with
      | none => DD.nx sd m
      | some x => g x sd m fun sd2 m2 => tb { DD with nx := Fg (W (i + 1)), ct := Fg (W (i + 1)), bk := DD.nx } sd2 m2) :
    ∃ W : Nat → Nat → St → Hp → Prop, (∃ m, W 0 m σ H1) ∧ ∀ i m σ H, W i m σ H →
      (J'.stop i H ∧ D.nx σ H) ∨ (J'.go i H ∧ ∃ N : St → Hp → Prop, (∀ σ' H', N σ' H' → ∃ m', m' < m ∧ W (i + 1) m' σ' H') ∧ ∀ x H', J'.yld i H x H' → lG K H0 vs g x σ H' fun σ2 H2 => lS K H0 tb { D with nx := N, ct := N, bk := D.nx } σ2 H2) := by
  obtain ⟨N, W, w0, turn⟩ := p
  refine ⟨fun i n σ' H' => n = N - i ∧ ∃ sd' m', Keep K H1 H' ∧ RS K H' sd' σ' ∧ RM K H' m' ∧ W i sd' m', ⟨N, rfl, sd, m1, Keep.refl _, s1, r1, w0⟩, ?_⟩
  rintro i n σ2 H2 ⟨rfl, sd2, m2, k2, s2, r2, w2⟩
  obtain ⟨hi, o, jo, rest⟩ := turn i sd2 m2 w2
  have L := l1 H2 k2 i m2 r2 o jo
  cases o with
  | none => exact .inl ⟨L, q1 sd2 m2 σ2 H2 (k1.trans k2) s2 r2 rest⟩
  | some x =>
    refine .inr ⟨L.1, fun σ3 H3 => ∃ sd' m', Keep K H1 H3 ∧ RS K H3 sd' σ3 ∧ RM K H3 m' ∧ W (i + 1) sd' m', ?_, fun v H3 y => ?_⟩
    · rintro σ3 H3 ⟨sd3, m3, k3, s3, r3, w3⟩
      have := (turn (i + 1) sd3 m3 w3).1
      exact ⟨N - (i + 1), by omega, rfl, sd3, m3, k3, s3, r3, w3⟩
    · obtain ⟨k3, r3, d3⟩ := L.2 v H3 y
      refine ⟨x, sd2, m2, _, ⟨s2.mono k3, r3, k0.trans (k1.trans (k2.trans k3))⟩, d3, rest, fun sd4 m4 σ4 H4 k4 s4 r4 _ p4 => ?_⟩
      have K4 : Keep K H1 H4 := k2.trans (k3.trans k4)
      refine ⟨sd4, m4, _, ⟨s4, r4, k0.trans (k1.trans K4)⟩, p4, ?_, ?_, ?_, ?_⟩
      · exact fun sd5 m5 σ5 H5 k5 s5 r5 ⟨m6, hl, w5⟩ => ⟨sd5, m6, K4.trans k5, s5, r5.less hl, w5⟩
      · exact fun a b c d k5 => q2 a b c d ((k1.trans K4).trans k5)
      · exact fun a b c d k5 => q1 a b c d ((k1.trans K4).trans k5)
      · exact fun sd5 m5 σ5 H5 k5 s5 r5 ⟨m6, hl, w5⟩ => ⟨sd5, m6, K4.trans k5, s5, r5.less hl, w5⟩
theorem qs_for {tg iter : Expr} {body : List Stmt} {wi : TDI} {g : TDG} {tb : TDS} {pos : Pos} {vs : List Nat} (hp : PassesOwn (model X.prog X.w) X.A X.env X.xe) (hc : X.calm = true) (hi : PI X tg iter (lI X.K H0 wi)) (hg : PG X tg (lG X.K H0 vs g)) (hb : PSs X body (lS X.K H0 tb))
    (hs : ∀ x, foldedSetIterable iter X.env x = pure x := by intro _; rfl) : PS X (.For tg iter body [] pos) (lS X.K H0 (dFor wi g tb)) := psL (ps_for hp hc hi hg hb hs) fun D σ H h => by
  obtain ⟨sd, m, DD, a, p, q1, q2, q3, q4⟩ := h
  exact ⟨sd, m, _, a, p, fun J m1 J' H1 k1 r1 l1 p1 => for_core a.k k1 (a.s.mono k1) r1 l1 q1 q2 p1⟩
end
end Q4

set_option Elab.async false
set_option linter.all false
set_option maxRecDepth 100000
namespace Q4
open PySem L2
section
variable {X : Cx} {H0 : Hp}
/-- a list: one that may change, or a locked one -/
def isL (m : M) (x : D) (ys : List D) : Prop := match x with | .rol xs => xs = ys | .ref a => m a = some (.lst ys) | _ => False
theorem RM.list {K : PySem.W.Frag} {H : Hp} {m : M} {x : D} {u : V} (r : RM K H m) (rd : RD K H x u) {ys : List D} (h : isL m x ys) : ∃ a vs, u = .ref a ∧ SqL K H a vs ∧ RDs K H ys vs := by
  unfold isL at h
  split at h
  · subst h
    obtain ⟨a, vs, rfl, h1, h2⟩ := rd.rol_
    exact ⟨a, vs, rfl, h1.sq, h2⟩
  · cases rd.ref_
    obtain ⟨vs, e1, r1⟩ := r _ _ h
    exact ⟨_, vs, rfl, .inl (.inl e1), r1⟩
  · exact h.elim
theorem rds_ints {K : PySem.W.Frag} {H : Hp} : ∀ {ns : List Int} {vs : List V}, RDs K H (ns.map D.int) vs → vs = ns.map V.int
  | [], _, .nil => rfl
  | n :: ns, _, .cons h r => by cases h.int_; rw [rds_ints r]; rfl
theorem rds_bls {K : PySem.W.Frag} {H : Hp} : ∀ {ns : List Bool} {vs : List V}, RDs K H (ns.map D.bl) vs → vs = ns.map V.bl
  | [], _, .nil => rfl
  | n :: ns, _, .cons h r => by cases h.bl_; rw [rds_bls r]; rfl
theorem rds_strs {K : PySem.W.Frag} {H : Hp} : ∀ {ns : List Str} {vs : List V}, RDs K H (ns.map D.str) vs → vs = ns.map V.str
  | [], _, .nil => rfl
  | n :: ns, _, .cons h r => by cases h.str_; rw [rds_strs r]; rfl
/-! ### len -/
def rLen : RnD := fun xs m P => match xs with
  | [.tup ys] => P (.int ys.length) m
  | [.str z] => z.length ≤ sizeLine ∧ P (.int z.length) m
  | [x] => ∃ ys, isL m x ys ∧ P (.int ys.length) m
  | _ => False
theorem cd_len : CallD X (.builtin "len") rLen := by
  have h1 : CallD X (.builtin "len") (fun xs m P => (∃ ys, xs = [.tup ys] ∧ P (.int ys.length) m) ∨ ∃ x ys, xs = [x] ∧ isL m x ys ∧ P (.int ys.length) m) := by
    refine ⟨_, call_len_seq, fun H m xs us P Q rm rx p q => ?_⟩
    rcases p with ⟨ys, rfl, p⟩ | ⟨a, ys, rfl, h, p⟩
    · obtain ⟨u, rfl, r⟩ := rx.one_
      obtain ⟨a, vs, rfl, h1, h2⟩ := r.tup_
      exact ⟨a, vs, rfl, .inr h1, q _ m _ H (Keep.refl _) rm (by rw [← h2.length]; exact .int _) p⟩
    · obtain ⟨u, rfl, r⟩ := rx.one_
      obtain ⟨a, vs, rfl, h1, h2⟩ := rm.list r h
      exact ⟨a, vs, rfl, .inl h1, q _ m _ H (Keep.refl _) rm (by rw [← h2.length]; exact .int _) p⟩
  have h2 : CallD X (.builtin "len") (fun xs m P => ∃ z, xs = [.str z] ∧ z.length ≤ sizeLine ∧ P (.int z.length) m) := by
    refine ⟨_, call_len_str, fun H m xs us P Q rm rx p q => ?_⟩
    obtain ⟨z, rfl, h, p⟩ := p
    obtain ⟨u, rfl, r⟩ := rx.one_
    cases r.str_
    exact ⟨z, rfl, h, q _ m _ H (Keep.refl _) rm (.int _) p⟩
  refine (h1.or h2).imp fun xs m P p => ?_
  unfold rLen at p
  split at p
  · exact .inl (.inl ⟨_, rfl, p⟩)
  · exact .inr ⟨_, rfl, p⟩
  · obtain ⟨ys, h, p⟩ := p
    exact .inl (.inr ⟨_, ys, rfl, h, p⟩)
  · exact p.elim
/-! ### abs, int, bool, str -/
def rAbs : RnD := fun xs m P => match xs with | [.int i] => P (.int (if i < 0 then -i else i)) m | _ => False
theorem cd_abs : CallD X (.builtin "abs") rAbs := by
  refine ⟨_, call_abs, fun H m xs us P Q rm rx p q => ?_⟩
  unfold rAbs at p
  split at p
  · obtain ⟨u, rfl, r⟩ := rx.one_
    cases r.int_
    exact ⟨_, rfl, q _ m _ H (Keep.refl _) rm (.int _) p⟩
  · exact p.elim
def rInt : RnD := fun xs m P => match xs with | [.int i] => P (.int i) m | [.bl k] => P (.int (if k then 1 else 0)) m | [.str a] => ∃ n, PySem.intText? a = some n ∧ a.length ≤ 640 ∧ P (.int n) m | _ => False
theorem cd_int : CallD X (.type "int") rInt := by
  have h1 : CallD X (.type "int") (fun xs m P => (∃ i, xs = [.int i] ∧ P (.int i) m) ∨ ∃ k : Bool, xs = [.bl k] ∧ P (.int (if k then 1 else 0)) m) := by
    refine ⟨_, call_int1, fun H m xs us P Q rm rx p q => ?_⟩
    rcases p with ⟨ys, rfl, p⟩ | ⟨a, rfl, p⟩
    · obtain ⟨u, rfl, r⟩ := rx.one_
      cases r.int_
      exact .inl ⟨_, rfl, q _ m _ H (Keep.refl _) rm (.int _) p⟩
    · obtain ⟨u, rfl, r⟩ := rx.one_
      cases r.bl_
      exact .inr ⟨_, rfl, q _ m _ H (Keep.refl _) rm (.int _) p⟩
  have h2 : CallD X (.type "int") (fun xs m P => ∃ z n, xs = [.str z] ∧ PySem.intText? z = some n ∧ z.length ≤ 640 ∧ P (.int n) m) := by
    refine ⟨_, call_int_str, fun H m xs us P Q rm rx p q => ?_⟩
    obtain ⟨z, n, rfl, h, h2, p⟩ := p
    obtain ⟨u, rfl, r⟩ := rx.one_
    cases r.str_
    exact ⟨z, n, rfl, h, h2, q _ m _ H (Keep.refl _) rm (.int _) p⟩
  refine (h1.or h2).imp fun xs m P p => ?_
  unfold rInt at p
  split at p
  · exact .inl (.inl ⟨_, rfl, p⟩)
  · exact .inl (.inr ⟨_, rfl, p⟩)
  · obtain ⟨n, p⟩ := p
    exact .inr ⟨_, n, rfl, p⟩
  · exact p.elim
def rStr : RnD := fun xs m P => match xs with | [.int i] => i.natAbs.log2 < 1920 ∧ P (.str (toString i)) m | _ => False
theorem cd_str : CallD X (.type "str") rStr := by
  refine ⟨_, call_str_int, fun H m xs us P Q rm rx p q => ?_⟩
  unfold rStr at p
  split at p
  · obtain ⟨u, rfl, r⟩ := rx.one_
    cases r.int_
    exact ⟨_, rfl, p.1, q _ m _ H (Keep.refl _) rm (.str _) p.2⟩
  · exact p.elim
/-! ### tuple, list -/
def rTuple : RnD := fun xs m P => match xs with | [.tup ys] => P (.tup ys) m | [x] => ∃ ys, isL m x ys ∧ P (.tup ys) m | _ => False
theorem cd_tuple : CallD X (.type "tuple") rTuple := by
  refine ⟨_, call_tuple_of, fun H m xs us P Q rm rx p q => ?_⟩
  unfold rTuple at p
  split at p
  · obtain ⟨u, rfl, r⟩ := rx.one_
    obtain ⟨a, vs, rfl, h1, h2⟩ := r.tup_
    exact ⟨a, vs, rfl, .inr ⟨h1, q _ m _ H (Keep.refl _) rm (.tup h1 h2) p⟩⟩
  · obtain ⟨u, rfl, r⟩ := rx.one_
    obtain ⟨ys, h, p⟩ := p
    obtain ⟨_, vs, rfl, h1, h2⟩ := rm.list r h
    exact ⟨_, vs, rfl, .inl ⟨h1, fun l hl => q _ m _ _ (Keep.new hl) (rm.new hl) (.tup (.inl (.inl upd_same)) (h2.mono (Keep.new hl))) p⟩⟩
  · exact p.elim
def rList : RnD := fun xs m P => match xs with | [.tup ys] => ∀ l, m l = none → P (.ref l) (put m l (.lst ys)) | [x] => ∃ ys, isL m x ys ∧ ∀ l, m l = none → P (.ref l) (put m l (.lst ys)) | _ => False
theorem cd_list : CallD X (.type "list") rList := by
  refine ⟨_, call_list_of, fun H m xs us P Q rm rx p q => ?_⟩
  unfold rList at p
  split at p
  · obtain ⟨u, rfl, r⟩ := rx.one_
    obtain ⟨a, vs, rfl, h1, h2⟩ := r.tup_
    exact ⟨a, vs, rfl, .inr h1, fun l hl => q _ _ _ _ (Keep.new hl) (rm.newPut hl h2) (.ref l) (p l (rm.free hl))⟩
  · obtain ⟨u, rfl, r⟩ := rx.one_
    obtain ⟨ys, h, p⟩ := p
    obtain ⟨_, vs, rfl, h1, h2⟩ := rm.list r h
    exact ⟨_, vs, rfl, .inl h1, fun l hl => q _ _ _ _ (Keep.new hl) (rm.newPut hl h2) (.ref l) (p l (rm.free hl))⟩
  · exact p.elim
/-! ### sum, all, any over lists -/
def rSumD : RnD := fun xs m P => match xs with | [x] => ∃ ns : List Int, isL m x (ns.map D.int) ∧ P (.int ns.sum) m | _ => False
theorem cd_sum (hc : X.calm = true) : CallD X (.builtin "sum") rSumD := by
  refine ⟨_, cr_sum hc, fun H m xs us P Q rm rx p q => ?_⟩
  unfold rSumD at p
  split at p
  · obtain ⟨u, rfl, r⟩ := rx.one_
    obtain ⟨ys, h, p⟩ := p
    obtain ⟨_, vs, rfl, h1, h2⟩ := rm.list r h
    cases rds_ints h2
    exact ⟨_, _, rfl, h1, q _ m _ H (Keep.refl _) rm (.int _) p⟩
  · exact p.elim
def rAllD : RnD := fun xs m P => match xs with | [x] => ∃ ns : List Bool, isL m x (ns.map D.bl) ∧ P (.bl (ns.all id)) m | _ => False
theorem cd_all (hc : X.calm = true) : CallD X (.builtin "all") rAllD := by
  refine ⟨_, cr_all hc, fun H m xs us P Q rm rx p q => ?_⟩
  unfold rAllD at p
  split at p
  · obtain ⟨u, rfl, r⟩ := rx.one_
    obtain ⟨ys, h, p⟩ := p
    obtain ⟨_, vs, rfl, h1, h2⟩ := rm.list r h
    cases rds_bls h2
    exact ⟨_, _, rfl, h1, q _ m _ H (Keep.refl _) rm (.bl _) p⟩
  · exact p.elim
def rAnyD : RnD := fun xs m P => match xs with | [x] => ∃ ns : List Bool, isL m x (ns.map D.bl) ∧ P (.bl (ns.any id)) m | _ => False
theorem cd_any (hc : X.calm = true) : CallD X (.builtin "any") rAnyD := by
  refine ⟨_, cr_any hc, fun H m xs us P Q rm rx p q => ?_⟩
  unfold rAnyD at p
  split at p
  · obtain ⟨u, rfl, r⟩ := rx.one_
    obtain ⟨ys, h, p⟩ := p
    obtain ⟨_, vs, rfl, h1, h2⟩ := rm.list r h
    cases rds_bls h2
    exact ⟨_, _, rfl, h1, q _ m _ H (Keep.refl _) rm (.bl _) p⟩
  · exact p.elim
def rMaxD : RnD := fun xs m P => match xs with
  | [.int i, .int j] => P (.int (if j > i then j else i)) m
  | [x] => ∃ ns : List Int, isL m x (ns.map D.int) ∧ 0 < ns.length ∧ ∀ k, k ∈ ns → (∀ y, y ∈ ns → y ≤ k) → P (.int k) m
  | _ => False
theorem cd_max (hc : X.calm = true) : CallD X (.builtin "max") rMaxD := by
  have h1 : CallD X (.builtin "max") (fun xs m P => ∃ i j, xs = [.int i, .int j] ∧ P (.int (if j > i then j else i)) m) := by
    refine ⟨_, call_max2 hc, fun H m xs us P Q rm rx p q => ?_⟩
    obtain ⟨i, j, rfl, p⟩ := p
    obtain ⟨u, v, rfl, r1, r2⟩ := rx.two_
    cases r1.int_
    cases r2.int_
    exact ⟨i, j, rfl, q _ m _ H (Keep.refl _) rm (.int _) p⟩
  have h2 : CallD X (.builtin "max") (fun xs m P => ∃ x, ∃ ns : List Int, xs = [x] ∧ isL m x (ns.map D.int) ∧ 0 < ns.length ∧ ∀ k, k ∈ ns → (∀ y, y ∈ ns → y ≤ k) → P (.int k) m) := by
    refine ⟨_, cr_max hc, fun H m xs us P Q rm rx p q => ?_⟩
    obtain ⟨a, ns, rfl, h, z, p⟩ := p
    obtain ⟨u, rfl, r⟩ := rx.one_
    obtain ⟨_, vs, rfl, h1, h2⟩ := rm.list r h
    cases rds_ints h2
    exact ⟨_, _, rfl, h1, z, fun k hk hy => q _ m _ H (Keep.refl _) rm (.int _) (p k hk hy)⟩
  refine (h1.or h2).imp fun xs m P p => ?_
  unfold rMaxD at p
  split at p
  · exact .inl ⟨_, _, rfl, p⟩
  · obtain ⟨n, p⟩ := p
    exact .inr ⟨_, n, rfl, p⟩
  · exact p.elim
/-! ### isinstance of a built-in class -/
def tyN (m : M) : D → Option String
  | .non => some "NoneType" | .bl _ => some "bool" | .int _ => some "int" | .str _ => some "str" | .tup _ => some "tuple"
  | .rol _ => some "list"
  | .ref a => match m a with | some (.lst _) => some "list" | _ => none
  | .ty _ => none
def rIsD : RnD := fun xs m P => match xs with | [x, .ty T] => ∃ n b, tyN m x = some n ∧ kitB n T = some b ∧ P (.bl b) m | _ => False
theorem tyX_of {K : PySem.W.Frag} {H : Hp} {m : M} {x : D} {u : V} {n : String} (rm : RM K H m) (r : RD K H x u) (h : tyN m x = some n) : TyX K H u (.type n) := by
  cases x with
  | non => cases r.non_; cases h; exact .base .non
  | bl b => cases r.bl_; cases h; exact .base (.bl b)
  | int b => cases r.int_; cases h; exact .base (.int b)
  | str b => cases r.str_; cases h; exact .base (.str b)
  | tup xs =>
    obtain ⟨a, vs, rfl, h1, h2⟩ := r.tup_
    cases h
    rcases h1 with (h1 | ⟨o, h1⟩) | ⟨o, its, k, h1, h2, _⟩
    · exact .base (.tup h1)
    · exact .fTuple h1
    · exact .kTuple h1 h2
  | ref a =>
    cases r.ref_
    have h : (match m a with | some (.lst _) => some "list" | _ => none) = some n := h
    split at h
    · rename_i e
      cases h
      obtain ⟨vs, e1, _⟩ := rm _ _ e
      exact .base (.lst e1)
    · cases h
  | rol xs =>
    obtain ⟨a, vs, rfl, h1, h2⟩ := r.rol_
    cases h
    rcases h1 with ⟨o, h1⟩ | ⟨o, its, k, h1, h2, _⟩
    · exact .base (.frz h1)
    · exact .kList h1 h2
  | ty n => cases h
theorem cd_isi : CallD X (.builtin "isinstance") rIsD := by
  refine ⟨_, call_isi, fun H m xs us P Q rm rx p q => ?_⟩
  unfold rIsD at p
  split at p
  · obtain ⟨u, v, rfl, r1, r2⟩ := rx.two_
    cases r2.ty_
    obtain ⟨n, b, h1, h2, p⟩ := p
    exact ⟨_, _, _, _, b, rfl, .ty _, tyX_of rm r1 h1, kit_ty h2, q _ m _ H (Keep.refl _) rm (.bl _) p⟩
  · exact p.elim
/-! ### methods of built-in types -/
abbrev RmD := D → List D → M → DK → Prop
structure MethD (X : Cx) (T id : String) (ty : D → M → Prop) (r' : RmD) : Prop where
  ex : ∃ r, MtR X id r ∧ (∀ H m x u, RM X.K H m → RD X.K H x u → ty x m → tyV X.K T u H) ∧ ∀ H m x u xs us P Q, RM X.K H m → RD X.K H x u → RDs X.K H xs us → r' x xs m P → Wants X.K H P Q → r u us H Q
def dBM (ty : D → M → Prop) (r : RmD) (to : TDE) (t : TDA) : TDE := fun sd m P => to sd m fun x m1 => ty x m1 ∧ t sd m1 fun xs m2 => r x xs m2 P
theorem qe_bm {T id : String} {name : Str} {o e : Expr} {es : List Expr} {apos cpos : Pos} {ty : D → M → Prop} {r : RmD} {to : TDE} {t : TDA} (hm : MethD X T id ty r) (pa : PlainAttrs T) (slot : Slot T name id) (hty : typeOf (.builtin id) = pure (.type "method_descriptor")) (ho : PE X o (lE X.K H0 to)) (ha : PA X (e :: es) (lA X.K H0 t))
    (hbase : attributeBase o name X.env (eval o X.env) = eval o X.env := by rfl)
    (hfew : ((backTo cpos (starEach (e :: es) X.env)).all (fun x => !x.1) && (backToKw cpos (keywordEach [] X.env)).all (fun x => x.1.isSome)
      && decide ((e :: es).length + ([] : List Keyword).length + (if ([] : List Keyword).isEmpty then 0 else 1) < 30)) = true := by rfl)
    (hline : (apos.endLine == cpos.line) = true := by rfl) (hs : starEach (e :: es) X.env = (false, eval e X.env) :: starEach es X.env := by rfl) (hplain : (backTo cpos (starEach es X.env)).any (·.1) = false := by rfl) :
    PE X (.Call (.Attribute o name apos) (e :: es) [] cpos) (lE X.K H0 (dBM ty r to t)) := by
  obtain ⟨r1, h1, h2, h3⟩ := hm.ex
  refine peL (pe_bm pa slot hty h1 ho ha hbase hfew hline hs hplain) fun σ H Q h => ?_
  obtain ⟨sd, m, P, a, p, q⟩ := h
  refine ⟨sd, m, _, a, p, fun x m1 u H1 k1 r1 d1 p1 => ⟨h2 H1 m1 x u r1 d1 p1.1, ?_⟩⟩
  exact ⟨sd, m1, _, a.to k1 r1, p1.2, fun xs m2 us H2 k2 r2 d2 p2 => h3 H2 m2 x u xs us P Q r2 (d1.mono k2) d2 p2 fun d m' w H' k => q d m' w H' ((k1.trans k2).trans k)⟩
def isLst (x : D) (m : M) : Prop := match x with | .ref a => ∃ xs, m a = some (.lst xs) | _ => False
def rApp : RmD := fun x ys m P => match x, ys with | .ref a, [y] => ∃ xs, m a = some (.lst xs) ∧ xs.length < sizeLine ∧ P .non (put m a (.lst (xs ++ [y]))) | _, _ => False
theorem md_append : MethD X "list" "list.append" isLst rApp := by
  refine ⟨_, mt_append, fun H m x u rm rx h => ?_, fun H m x u xs us P Q rm rx rs p q => ?_⟩
  · unfold isLst at h
    split at h
    · cases rx.ref_
      obtain ⟨xs, h⟩ := h
      obtain ⟨vs, e, _⟩ := rm _ _ h
      exact .inl ⟨rfl, _, .inl (.inl e)⟩
    · exact h.elim
  · unfold rApp at p
    split at p
    · cases rx.ref_
      obtain ⟨w, rfl, r⟩ := rs.one_
      obtain ⟨xs, h, z, p⟩ := p
      obtain ⟨vs, e, rr⟩ := rm _ _ h
      exact ⟨_, vs, w, rfl, rfl, e, by rw [← rr.length]; exact z, q _ _ _ _ (Keep.lst e) (rm.setPut e (rr.append (.cons r .nil))) .non p⟩
    · exact p.elim
/-! ### slices -/
abbrev TDO := DS → M → (Option Int → M → Prop) → Prop
def lO (K : PySem.W.Frag) (H0 : Hp) (t : TDO) : TO := fun σ H Q => ∃ sd m P, At K H0 sd m σ H ∧ t sd m P ∧ ∀ o m' H', Keep K H H' → RM K H' m' → P o m' → Q o H'
def dNoPart : TDO := fun _ m P => P none m
def dPart (t : TDE) : TDO := fun sd m P => t sd m fun x m1 => match x with | .int i => P (some i) m1 | _ => False
theorem poL {e : Option Expr} {t t' : TO} (h : PO X e t) (i : ∀ σ H Q, t' σ H Q → t σ H Q) : PO X e t' := ⟨fun pins s σ H Q I ht => h.run pins s σ H Q I (i _ _ _ ht)⟩
theorem qo_none : PO X none (lO X.K H0 dNoPart) := poL po_none fun σ H Q h => by
  obtain ⟨sd, m, P, a, p, q⟩ := h
  exact q none m H (Keep.refl _) a.m p
theorem qo_some {e : Expr} {t : TDE} (h : PE X e (lE X.K H0 t)) : PO X (some e) (lO X.K H0 (dPart t)) := poL (po_some h) fun σ H Q h => by
  obtain ⟨sd, m, P, a, p, q⟩ := h
  refine ⟨sd, m, _, a, p, fun d m' v H' k r rd p' => ?_⟩
  cases d with
  | int i => cases rd.int_; exact ⟨i, rfl, q _ m' H' k r p'⟩
  | _ => exact p'.elim
def cutL {α : Type} (xs : List α) (lo hi : Option Int) : List α := (xs.drop (HT.sIx xs.length 0 lo)).take (HT.sIx xs.length xs.length hi - HT.sIx xs.length 0 lo)
def rSlD (x : D) (l u : Option Int) (m : M) (P : DK) : Prop := match x with
  | .tup xs => P (.tup (cutL xs l u)) m
  | .str z => z.length ≤ sizeLine ∧ P (.str (cutS z l u)) m
  | x => ∃ xs, isL m x xs ∧ ∀ p, m p = none → P (.ref p) (put m p (.lst (cutL xs l u)))
def dSl (t : TDE) (tl th : TDO) : TDE := fun sd m P => t sd m fun x m1 => tl sd m1 fun l m2 => th sd m2 fun u m3 => rSlD x l u m3 P
theorem RDs.cut {K : PySem.W.Frag} {H : Hp} {xs : List D} {vs : List V} (r : RDs K H xs vs) (lo hi : Option Int) : RDs K H (cutL xs lo hi) (cutV vs lo hi) := by
  unfold cutL cutV
  rw [← r.length]
  exact (r.drop _).take _
theorem qe_slice {e : Expr} {lo hi : Option Expr} {p2 pos : Pos} {t : TDE} {tl th : TDO} (he : PE X e (lE X.K H0 t)) (hl : PO X lo (lO X.K H0 tl)) (hu : PO X hi (lO X.K H0 th)) : PE X (.Subscript e (.Slice lo hi none p2) pos) (lE X.K H0 (dSl t tl th)) :=
  peL (pe_slice (sl_tupA.or (sl_str.or sl_list)) he hl hu) fun σ H Q h => by
    obtain ⟨sd, m, P, a, p, q⟩ := h
    refine ⟨sd, m, _, a, p, fun x m1 u H1 k1 r1 d1 p1 => ⟨sd, m1, _, a.to k1 r1, p1, fun l m2 H2 k2 r2 p2 => ⟨sd, m2, _, a.to (k1.trans k2) r2, p2, fun o m3 H3 k3 r3 p3 => ?_⟩⟩⟩
    have k : Keep X.K H H3 := (k1.trans k2).trans k3
    have d3 := d1.mono (k2.trans k3)
    unfold rSlD at p3
    split at p3
    · rename_i xs
      obtain ⟨b, vs, rfl, h1, h2⟩ := d3.tup_
      refine .inl ⟨b, vs, rfl, h1, fun e => ?_, fun e z hz => ?_⟩
      · refine q _ m3 _ H3 k r3 ?_ p3
        refine .tup h1 ?_
        have e' : cutL xs l o = xs := by
          unfold cutL
          rw [h2.length, e.1, e.2, List.drop_zero, Nat.sub_zero, ← h2.length]
          exact List.take_length
        rw [e']
        exact h2
      · exact q _ m3 _ _ (k.trans (Keep.new hz)) (r3.new hz) (.tup (.inl (.inl upd_same)) ((h2.cut l o).mono (Keep.new hz))) p3
    · cases d3.str_
      exact .inr (.inl ⟨_, rfl, p3.1, q _ m3 _ H3 k r3 (.str _) p3.2⟩)
    · obtain ⟨xs, h, p3⟩ := p3
      obtain ⟨_, vs, rfl, h1, h2⟩ := r3.list d3 h
      exact .inr (.inr ⟨_, vs, rfl, h1, fun z hz => q _ _ _ _ (k.trans (Keep.new hz)) (r3.newPut hz (h2.cut l o)) (.ref z) (p3 z (r3.free hz))⟩)
end
end Q4

set_option Elab.async false
set_option linter.all false
set_option maxRecDepth 100000
namespace Q4
open PySem L2
open PyProof.Rows (envOfC)
def Ret (P : DK) : DK := fun d m => ∃ m', Less m' m ∧ P d m'
abbrev DSp := List D → M → DK → DXK → Prop
def XRel (K : PySem.W.Frag) (H : Hp) : Option (List (Str × D)) → Option Addr → Prop
  | none, none => True
  | some fs, some d => ∃ gs, H d = some (.xd gs) ∧ RDs K H (fs.map (·.2)) (gs.map (·.2)) ∧ fs.map (·.1) = gs.map (·.1)
  | _, _ => False
def WantsX (K : PySem.W.Frag) (H : Hp) (EX : DXK) (E : XK) : Prop := ∀ c fo m' od H', Keep K H H' → RM K H' m' → XRel K H' fo od → EX c fo m' → E c od H'
def noX : DXK := fun _ _ _ => False
def lSp (K : PySem.W.Frag) (d : DSp) : Sp := fun vs H Q E => ∃ ds m P EX, RDs K H ds vs ∧ RM K H m ∧ d ds m P EX ∧ Wants K H P Q ∧ WantsX K H EX E
theorem wantsX0 {K : PySem.W.Frag} {H : Hp} {E : XK} : WantsX K H noX E := fun _ _ _ _ _ _ _ _ h => h.elim
section
variable {X : Cx} {H0 : Hp}
/-! ### calls of defs that raise nothing -/
def dCall (d : DSp) (t : TDA) : TDE := fun sd m P => t sd m fun xs m1 => d xs m1 P noX
theorem l_call {K : PySem.W.Frag} {d : DSp} {E : XK} {t : TDA} {σ : St} {H : Hp} {Q : VK} (h : lE K H0 (dCall d t) σ H Q) : tCall (lSp K d) [] E (lA K H0 t) σ H Q := by
  obtain ⟨sd, m, P, a, p, q⟩ := h
  refine ⟨sd, m, _, a, p, fun xs m1 us H1 k1 r1 d1 p1 => ?_⟩
  show lSp K d (us ++ []) H1 Q E
  rw [List.append_nil]
  exact ⟨xs, m1, P, noX, d1, r1, p1, fun d m' w H' k => q d m' w H' (k1.trans k), wantsX0⟩
theorem qe_call {CX : CXT} {k : Nat} {f : Addr} {fd : FuncData} {ps : List Str} {d : DSp} {E : XK} {x : Str} {p pos : Pos} {e : Expr} {es : List Expr} {t : TDA} (F : FnOk X.prog X.w X.K X.mg X.base CX k f fd ps (lSp X.K d)) (hr : Room k X.A) (hg : Gl X x) (hm : X.mg x = some (.ref f)) (hk : PySem.W.keepIn X.K (.ref f) = true) (hb : Binds X.K fd ps []) (hx : Passes CX X E)
    (ha : PA X (e :: es) (lA X.K H0 t)) (hdb : (x == ("__debug__" : Str)) = false := by decide) (he : starEach (e :: es) X.env = (false, eval e X.env) :: starEach es X.env := by rfl) (hpl : (backTo pos (starEach es X.env)).any (·.1) = false := by rfl) :
    PE X (.Call (.Name x p) (e :: es) [] pos) (lE X.K H0 (dCall d t)) := peL (pe_call F hr hg hm hk hb .nil hx ha hdb he hpl) fun _ _ _ => l_call
theorem qe_call0 {CX : CXT} {k : Nat} {f : Addr} {fd : FuncData} {ps : List Str} {d : DSp} {E : XK} {x : Str} {p pos : Pos} (F : FnOk X.prog X.w X.K X.mg X.base CX k f fd ps (lSp X.K d)) (hr : Room k X.A) (hg : Gl X x) (hm : X.mg x = some (.ref f)) (hk : PySem.W.keepIn X.K (.ref f) = true) (hb : Binds X.K fd ps []) (hx : Passes CX X E)
    (hdb : (x == ("__debug__" : Str)) = false := by decide) : PE X (.Call (.Name x p) [] [] pos) (lE X.K H0 (dCall d dNil)) := peL (pe_call0 F hr hg hm hk hb .nil hx hdb) fun σ H Q h => by
  have h' := l_call (K := X.K) (E := E) h
  obtain ⟨sd, m, P, a, p, q⟩ := h
  exact ⟨[], m, P, noX, .nil, a.m, p, q, wantsX0⟩
/-! ### a def -/
def dstart (N : List Str) (ds : List D) : DS := ds.map some ++ List.replicate (N.length - ds.length) none
theorem Fun.okD {P : Program} {w : World} {K : PySem.W.Frag} {mg : Str → Option Value} {base : Heap} {x qual : Str} {st : Stmt} {f : Addr} {fd : FuncData} {N ps : List Str} {k : Nat} {d : DSp} (F : Fun K x qual st f fd) (S : FnScope N ps (defScope st)) (len : ∀ ds m P EX, d ds m P EX → ds.length = ps.length)
    (t : TDS) (hread : ∀ ds m P EX, d ds m P EX → t { nx := fun _ m' => Ret P .non m', rt := Ret P } (dstart N ds) m)
    (hbody : ∀ (cdv : Value) (A : Around) (outer : List Env) (s : Shared) (H : Hp) (E : XK), Room k (A.deeper (envOfC qual (defScope st) s.heap.objs.size f cdv)) → PSs (cxOf CX0 P w K mg base N qual (defScope st) f cdv A outer s H E).nox (defBody st) (lS K H t)) :
    FnOk P w K mg base CX0 (k + 1) f fd ps (lSp K d) := by
  refine F.ok S (fun vs H Q E h => ?_) (fun cdv A outer s H vs Q E hr h => ?_)
  · obtain ⟨ds, m, P, EX, r, _, h, _⟩ := h
    rw [← r.length]
    exact len _ _ _ _ h
  · obtain ⟨ds, m, P', EX, r, rm, h, q, _⟩ := h
    refine ⟨_, hbody cdv A outer s H E hr, dstart N ds, m, _, ⟨RS.start r, rm, Keep.refl _⟩, hread ds m P' EX h, ?_, ?_, ?_, ?_⟩
    · rintro sd' m' σ' H' k s r ⟨m2, l, p⟩
      exact q _ m2 _ H' k (r.less l) .non p
    · rintro d m' v H' k r rd ⟨m2, l, p⟩
      exact q _ m2 _ H' k (r.less l) rd p
    · exact fun _ _ _ _ _ _ _ h => h
    · exact fun _ _ _ _ _ _ _ h => h
/-! ### comprehensions -/
def dYes : TDT := fun _ m P => P true m
theorem qts_nil : PTs X [] (lT X.K H0 dYes) := ⟨fun pins s σ H Q I h => pts_nil.run pins s σ H Q I (by
  obtain ⟨sd, m, P, a, p, q⟩ := h
  exact q true m H (Keep.refl _) a.m p)⟩
theorem qts_one {c : Expr} {t : TDT} (h : PT X c (lT X.K H0 t)) : PTs X [c] (lT X.K H0 t) := pts_one h
def wipeD (sd : DS) : List Nat → DS
  | [] => sd
  | v :: vs => (wipeD sd vs).set v none
theorem RS.wipe {K : PySem.W.Frag} {H : Hp} {sd : DS} {σ : St} (r : RS K H sd σ) : ∀ vs : List Nat, RS K H (wipeD sd vs) (L2.wipe σ vs)
  | [] => r
  | v :: vs => by
    have ih := r.wipe vs
    unfold wipeD L2.wipe
    refine ⟨by rw [List.length_set, List.length_set, ih.len], fun j d e => ?_⟩
    by_cases hj : v = j
    · subst hj
      rw [List.getElem?_set] at e
      simp at e
    · rw [List.getElem?_set_ne hj] at e ⊢
      exact ih.get j d e
/-- [e for g in wi if tt]: the new list's items so far are acc -/
def dLc (wi : TDI) (g : TDG) (tt : TDT) (te : TDE) (vs : List Nat) : TDE := fun sd m P => wi sd m fun J m1 => ∀ p, m1 p = none → ∃ (N : Nat) (W : Nat → List D → M → Prop), W 0 [] m1 ∧ ∀ i acc m2, W i acc m2 → i ≤ N ∧ ∃ o, J i (put m2 p (.lst acc)) o ∧ match o with
  | none => P (.ref p) (put m2 p (.lst acc))
  | some x => g x (wipeD sd vs) (put m2 p (.lst acc)) fun sd2 m3 => tt sd2 m3 fun b m4 =>
    if b = true then te sd2 m4 fun y m5 => ∃ m6, Less (put m6 p (.lst acc)) m5 ∧ acc.length < sizeLine ∧ W (i + 1) (acc ++ [y]) m6 else ∃ m6, Less (put m6 p (.lst acc)) m4 ∧ W (i + 1) acc m6
theorem lc_core {K : PySem.W.Frag} {g : TDG} {tt : TDT} {te : TDE} {vs : List Nat} {J : DIt} {J' : It} {H H1 : Hp} {sd : DS} {m1 : M} {σ : St} {P : DK} {Q : VK} (k0 : Keep K H0 H) (k1 : Keep K H H1) (s0 : RS K H sd σ) (r1 : RM K H1 m1) (l1 : LiftIt K H1 J J')
    (q : ∀ d m' v H', Keep K H H' → RM K H' m' → RD K H' d v → P d m' → Q v H') {D : Addr} (hD : H1 D = none)
    (p : ∃ (N : Nat) (W : Nat → List Q4.D → M → Prop), W 0 [] m1 ∧ ∀ i acc m2, W i acc m2 → i ≤ N ∧ ∃ o, J i (put m2 D (.lst acc)) o ∧ match o with
      | none => P (.ref D) (put m2 D (.lst acc))
      | some x => g x (wipeD sd vs) (put m2 D (.lst acc)) fun sd2 m3 => tt sd2 m3 fun b m4 =>
        if b = true then te sd2 m4 fun y m5 => ∃ m6, Less (put m6 D (.lst acc)) m5 ∧ acc.length < sizeLine ∧ W (i + 1) (acc ++ [y]) m6 else ∃ m6, Less (put m6 D (.lst acc)) m4 ∧ W (i + 1) acc m6) :
    ∃ W : Nat → Nat → Hp → Prop, (∃ m, W 0 m (upd H1 D (.lst []))) ∧ ∀ i m H, W i m H →
      (J'.stop i H ∧ Q (.ref D) H) ∨ (J'.go i H ∧ ∃ Nx : Hp → Prop, (∀ H', Nx H' → ∃ m', m' < m ∧ W (i + 1) m' H') ∧ ∀ x H', J'.yld i H x H' → lG K H0 vs g x (L2.wipe σ vs) H' fun σ2 H2 => L2.wipe σ2 vs = L2.wipe σ vs ∧ lT K H0 tt σ2 H2 fun b H3 =>
        if b = true then lE K H0 te σ2 H3 fun y H4 => ∃ acc, H4 D = some (.lst acc) ∧ acc.length < sizeLine ∧ Nx (upd H4 D (.lst (acc ++ [y]))) else Nx H3) := by
  obtain ⟨N, W, w0, turn⟩ := p
  refine ⟨fun i n H' => n = N - i ∧ ∃ acc m', Keep K H1 H' ∧ RM K H' (put m' D (.lst acc)) ∧ W i acc m', ⟨N, rfl, [], m1, Keep.new hD, r1.newPut hD .nil, w0⟩, ?_⟩
  rintro i n H2 ⟨rfl, acc, m2, k2, r2, w2⟩
  obtain ⟨hi, o, jo, rest⟩ := turn i acc m2 w2
  have L := l1 H2 k2 i _ r2 o jo
  cases o with
  | none => exact .inl ⟨L, q _ _ _ H2 (k1.trans k2) r2 (.ref D) rest⟩
  | some x =>
    refine .inr ⟨L.1, fun H3 => ∃ acc m', Keep K H1 H3 ∧ RM K H3 (put m' D (.lst acc)) ∧ W (i + 1) acc m', ?_, fun v H3 y => ?_⟩
    · rintro H3 ⟨acc3, m3, k3, r3, w3⟩
      have := (turn (i + 1) acc3 m3 w3).1
      exact ⟨N - (i + 1), by omega, rfl, acc3, m3, k3, r3, w3⟩
    · obtain ⟨k3, r3, d3⟩ := L.2 v H3 y
      have K3 : Keep K H H3 := k1.trans (k2.trans k3)
      refine ⟨x, wipeD sd vs, _, _, ⟨(s0.mono K3).wipe vs, r3, k0.trans K3⟩, d3, rest, fun sd4 m4 σ4 H4 k4 s4 r4 hw p4 => ⟨hw.trans wipe_wipe, ?_⟩⟩
      have K4 : Keep K H H4 := K3.trans k4
      refine ⟨sd4, m4, _, ⟨s4, r4, k0.trans K4⟩, p4, fun b m5 H5 k5 r5 p5 => ?_⟩
      have K5 : Keep K H1 H5 := (k2.trans k3).trans (k4.trans k5)
      cases b with
      | true =>
        refine ⟨sd4, m5, _, ⟨s4.mono k5, r5, k0.trans (K4.trans k5)⟩, p5, fun z m6 w H6 k6 r6 d6 p6 => ?_⟩
        obtain ⟨m7, hl7, hz, w7⟩ := p6
        have r6 := r6.less hl7
        obtain ⟨us, e1, rr⟩ := r6 D _ put_same
        refine ⟨us, e1, by rw [← rr.length]; exact hz, acc ++ [z], m7, (K5.trans k6).trans (Keep.lst e1), ?_, w7⟩
        have := r6.setPut e1 (rr.append (.cons d6 .nil))
        rw [put_put] at this
        exact this
      | false =>
        obtain ⟨m7, hl7, w7⟩ := p5
        exact ⟨acc, m7, K5, r5.less hl7, w7⟩
theorem l_lc {K : PySem.W.Frag} {wi : TDI} {g : TDG} {tt : TDT} {te : TDE} {vs : List Nat} {σ : St} {H : Hp} {Q : VK} (h : lE K H0 (dLc wi g tt te vs) σ H Q) : tLc (lI K H0 wi) (lG K H0 vs g) (lT K H0 tt) (lE K H0 te) vs σ H Q := by
  obtain ⟨sd, m, P, a, p, q⟩ := h
  exact ⟨sd, m, _, a, p, fun J m1 J' H1 k1 r1 l1 p1 D hD => lc_core a.k k1 a.s r1 l1 q hD (p1 D (r1.free hD))⟩
theorem qe_lc {elt tg iter : Expr} {ifs : List Expr} {scope : Scope} {own : List (Str × Nat)} {pos : Pos} {wi : TDI} {g : TDG} {tt : TDT} {te : TDE} (hc : X.calm = true) (hN : X.N.Nodup) (hi : PI X tg iter (lI X.K H0 wi)) (ok : BlkOk X.N X.env.scope scope own)
    (hg : ∀ (s : Shared) (H : Hp) (C : Addr) (cl : List (Str × Addr)) (fp : List Addr), PG (X.blk s H scope (compEnvC scope cl C X.env) fp) tg (lG X.K H0 (own.map (·.2)) g)) (ht : ∀ (s : Shared) (H : Hp) (C : Addr) (cl : List (Str × Addr)) (fp : List Addr), PTs (X.blk s H scope (compEnvC scope cl C X.env) fp) ifs (lT X.K H0 tt))
    (he : ∀ (s : Shared) (H : Hp) (C : Addr) (cl : List (Str × Addr)) (fp : List Addr), PE (X.blk s H scope (compEnvC scope cl C X.env) fp) elt (lE X.K H0 te)) (hs : ∀ x, foldedSetIterable iter X.env x = pure x := by intro _; rfl) :
    PE X (.ListComp elt [⟨tg, iter, ifs, 0⟩] scope pos) (lE X.K H0 (dLc wi g tt te (own.map (·.2)))) := peL (pe_lc hc hN hi ok hg ht he hs) fun _ _ _ => l_lc
theorem qs_setLc {i : Nat} {y : Str} {py : Pos} {elt tg iter : Expr} {ifs : List Expr} {scope : Scope} {own : List (Str × Nat)} {pos spos : Pos} {wi : TDI} {g : TDG} {tt : TDT} {te : TDE} (hc : X.calm = true) (hN : X.N.Nodup) (hy : X.N[i]? = some y) (hyl : X.env.scope.names.lookup y = some .local)
    (hsw : swapsWith (.ListComp elt [⟨tg, iter, ifs, 0⟩] scope pos) (some (.Name y py)) spos.line X.env = pure true) (hi : PI X tg iter (lI X.K H0 wi)) (ok : BlkOk X.N X.env.scope scope own)
    (hg : ∀ (s : Shared) (H : Hp) (C : Addr) (cl : List (Str × Addr)) (fp : List Addr), PG (X.blk s H scope (compEnvC scope cl C X.env) fp) tg (lG X.K H0 (own.map (·.2)) g)) (ht : ∀ (s : Shared) (H : Hp) (C : Addr) (cl : List (Str × Addr)) (fp : List Addr), PTs (X.blk s H scope (compEnvC scope cl C X.env) fp) ifs (lT X.K H0 tt))
    (he : ∀ (s : Shared) (H : Hp) (C : Addr) (cl : List (Str × Addr)) (fp : List Addr), PE (X.blk s H scope (compEnvC scope cl C X.env) fp) elt (lE X.K H0 te)) (hs : ∀ x, foldedSetIterable iter X.env x = pure x := by intro _; rfl) :
    PS X (.Assign [.Name y py] (.ListComp elt [⟨tg, iter, ifs, 0⟩] scope pos) spos) (lS X.K H0 (dAsg (dLc wi g tt te (own.map (·.2))) (dName i))) := psL (ps_setLc hc hN hy hyl hsw hi ok hg ht he hs) fun D σ H h => by
  obtain ⟨sd, m, DD, a, p, q⟩ := h
  refine l_lc (K := X.K) (H0 := H0) ⟨sd, m, _, a, p, fun d m' v H' k r rd p' => q.1 _ m' _ H' k ((a.s.mono k).set i rd) r p'⟩
end
end Q4

set_option Elab.async false
set_option linter.all false
set_option maxRecDepth 100000
namespace Q4
open PySem L2
section
variable {sd : DS} {m m1 : M} {P : DK} {D' : DEnds} {t u : TDS} {ta tb te : TDE} {tt : TDT} {d x y : D}
/-! ### steps: statements -/
theorem s_seq (h : t { D' with nx := u D' } sd m) : dSeq t u D' sd m := ⟨u D', h, fun _ _ h => ⟨_, Less.refl _, h⟩⟩
/-- ways that meet: what holds where they meet -/
theorem s_cut (J : DS → M → Prop) (h : t { D' with nx := Fg J } sd m) (hJ : ∀ sd' m', J sd' m' → u D' sd' m') : dSeq t u D' sd m := ⟨Fg J, h, fun sd' m' ⟨m2, hl, j⟩ => ⟨m2, hl, hJ sd' m2 j⟩⟩
theorem s_seqA {g : TDG} (h : ta sd m fun x m1 => g x sd m1 (u D')) : dSeq (dAsg ta g) u D' sd m := s_seq h
theorem s_seqD (h : ta sd m fun _ m1 => u D' sd m1) : dSeq (dDrop ta) u D' sd m := s_seq h
theorem s_seqIR (h : tt sd m fun b m1 => if b = true then dRet ta { D' with nx := u D' } sd m1 else u D' sd m1) : dSeq (dIf tt (dRet ta) dNext) u D' sd m := s_seq h
theorem s_seqIS {v : TDS} (h : tt sd m fun b m1 => if b = true then dSeq v (dRet ta) { D' with nx := u D' } sd m1 else u D' sd m1) : dSeq (dIf tt (dSeq v (dRet ta)) dNext) u D' sd m := s_seq h
theorem s_seqISS {v w : TDS} (h : tt sd m fun b m1 => if b = true then dSeq v (dSeq w (dRet ta)) { D' with nx := u D' } sd m1 else u D' sd m1) : dSeq (dIf tt (dSeq v (dSeq w (dRet ta))) dNext) u D' sd m := s_seq h
theorem s_seqIRC {k : List D} (h : tt sd m fun b m1 => if b = true then dRet ta { D' with nx := u D' } sd m1 else u D' sd m1) : dSeq (dIf tt (dRet ta) dNext) u D' sd m := s_seq h
theorem s_aug {i : Nat} {r : R2D} (h1 : sd[i]? = some (some x)) (h : ta sd m fun y m1 => r x y m1 fun z m2 => D'.nx (sd.set i (some z)) m2) : dAug i ta r D' sd m := ⟨x, h1, h⟩
theorem s_dNext (h : D'.nx sd m) : dNext D' sd m := h
theorem s_next (h : D'.nx sd m) : dNext D' sd m := h
theorem s_asg {g : TDG} (h : ta sd m fun x m1 => g x sd m1 D'.nx) : dAsg ta g D' sd m := h
theorem s_if (h : tt sd m fun b m1 => if b = true then t D' sd m1 else u D' sd m1) : dIf tt t u D' sd m := h
theorem s_ret (h : ta sd m D'.rt) : dRet ta D' sd m := h
theorem s_drop (h : ta sd m fun _ m1 => D'.nx sd m1) : dDrop ta D' sd m := h
theorem s_for {wi : TDI} {g : TDG} (h : wi sd m fun J m1 => ∃ (N : Nat) (W : Nat → DS → M → Prop), W 0 sd m1 ∧ ∀ i sd m, W i sd m → i ≤ N ∧ ∃ o, J i m o ∧ match o with
  | none => D'.nx sd m
  | some x => g x sd m fun sd2 m2 => t { D' with nx := Fg (W (i + 1)), ct := Fg (W (i + 1)), bk := D'.nx } sd2 m2) : dFor wi g t D' sd m := h
theorem s_name {i : Nat} {Q : DS → M → Prop} (h : Q (sd.set i (some d)) m) : dName i d sd m Q := h
/-! ### expressions -/
theorem s_var {i : Nat} (h : sd[i]? = some (some d)) (q : P d m) : dVar i sd m P := ⟨d, h, q⟩
theorem s_c (q : P d m) : dC d sd m P := q
theorem s_op {r : R2D} (h : ta sd m fun x m1 => tb sd m1 fun y m2 => r x y m2 P) : dOp r ta tb sd m P := h
theorem s_cb {r : RnD} {t : TDA} (h : t sd m fun xs m1 => r xs m1 P) : dCB r t sd m P := h
theorem s_call {r : DSp} {t : TDA} (h : t sd m fun xs m1 => r xs m1 P noX) : dCall r t sd m P := h
theorem s_nil {Q : List D → M → Prop} (h : Q [] m) : dNil sd m Q := h
theorem s_cons {t : TDA} {Q : List D → M → Prop} (h : ta sd m fun x m1 => t sd m1 fun xs m2 => Q (x :: xs) m2) : dCons ta t sd m Q := h
theorem s_tup {t : TDA} (h : t sd m fun xs m1 => xs.length ≤ sizeLine ∧ P (.tup xs) m1) : dTup t sd m P := h
theorem s_lst {t : TDA} (h : t sd m fun xs m1 => xs.length ≤ sizeLine ∧ ∀ p, m1 p = none → P (.ref p) (put m1 p (.lst xs))) : dLst t sd m P := h
theorem s_ifE (h : tt sd m fun c m1 => if c = true then ta sd m1 P else tb sd m1 P) : dIfE tt ta tb sd m P := h
theorem s_andV (h : ta sd m fun x m1 => match x with | .bl c => if c = true then tb sd m1 P else P (.bl false) m1 | _ => False) : dAndV ta tb sd m P := h
theorem s_orV (h : ta sd m fun x m1 => match x with | .bl c => if c = true then P (.bl true) m1 else tb sd m1 P | _ => False) : dOrV ta tb sd m P := h
theorem s_notV (h : ta sd m fun x m1 => match x with | .bl c => P (.bl (!c)) m1 | _ => False) : dNotV ta sd m P := h
theorem s_bm {ty : D → M → Prop} {r : RmD} {t : TDA} (h : ta sd m fun x m1 => ty x m1 ∧ t sd m1 fun xs m2 => r x xs m2 P) : dBM ty r ta t sd m P := h
theorem s_sl {tl th : TDO} (h : ta sd m fun x m1 => tl sd m1 fun l m2 => th sd m2 fun u m3 => rSlD x l u m3 P) : dSl ta tl th sd m P := h
theorem r_slT {xs : List D} {l u : Option Int} (q : P (.tup (cutL xs l u)) m) : rSlD (.tup xs) l u m P := q
theorem r_slS {z : Str} {l u : Option Int} (h : z.length ≤ sizeLine) (q : P (.str (cutS z l u)) m) : rSlD (.str z) l u m P := ⟨h, q⟩
theorem r_slL {a : Addr} {xs : List D} {l u : Option Int} (h : m a = some (.lst xs)) (q : ∀ p, m p = none → P (.ref p) (put m p (.lst (cutL xs l u)))) : rSlD (.ref a) l u m P := ⟨xs, h, q⟩
theorem r_slR {xs : List D} {l u : Option Int} (q : ∀ p, m p = none → P (.ref p) (put m p (.lst (cutL xs l u)))) : rSlD (.rol xs) l u m P := ⟨xs, rfl, q⟩
theorem s_opn {Q : Option Int → M → Prop} (h : Q none m) : dNoPart sd m Q := h
theorem s_ops {Q : Option Int → M → Prop} (h : ta sd m fun x m1 => match x with | .int i => Q (some i) m1 | _ => False) : dPart ta sd m Q := h
/-! ### tests -/
section
variable {Q : Bool → M → Prop} {t1 t2 : TDT}
theorem s_B (h : ta sd m fun x m1 => match x with | .bl b => Q b m1 | _ => False) : dB ta sd m Q := h
theorem s_and (h : t1 sd m fun c m1 => if c = true then t2 sd m1 Q else Q false m1) : dAnd t1 t2 sd m Q := h
theorem s_or (h : t1 sd m fun c m1 => if c = true then Q true m1 else t2 sd m1 Q) : dOr t1 t2 sd m Q := h
theorem s_not (h : t1 sd m fun c m1 => Q (!c) m1) : dNot t1 sd m Q := h
theorem s_tru (h : ta sd m fun x m1 => truD x m1 Q) : dTru ta sd m Q := h
theorem s_yes (h : Q true m) : dYes sd m Q := h
theorem s_truB {b : Bool} (h : Q b m) : truD (.bl b) m Q := h
theorem s_truT {xs : List D} (h : Q (!xs.isEmpty) m) : truD (.tup xs) m Q := h
end
theorem s_chain {r r' : R2D} {tc : TDE} (h : ta sd m fun x m1 => tb sd m1 fun y m2 => r x y m2 fun z m3 => match z with
  | .bl k => if k = true then tc sd m3 fun w m4 => r' y w m4 P else P (.bl false) m3
  | _ => False) : dChain r r' ta tb tc sd m P := h
/-! ### operators on known values -/
section
variable {i j : Int} {a b : Addr} {xs ys : List D} {z w : Str}
theorem r_I {C : Int → Int → Prop} {g : Int → Int → D} (c : C i j) (q : P (g i j) m) : rI2 C g (.int i) (.int j) m P := ⟨c, q⟩
theorem r_addI (q : P (.int (i + j)) m) : rAdd (.int i) (.int j) m P := q
theorem r_addS (h : z.length + w.length ≤ sizeLine) (q : P (.str (z ++ w)) m) : rAdd (.str z) (.str w) m P := ⟨h, q⟩
theorem r_addT (h : xs.length + ys.length ≤ sizeLine) (q : P (.tup (xs ++ ys)) m) : rAdd (.tup xs) (.tup ys) m P := ⟨h, q⟩
theorem r_addL (h1 : m a = some (.lst xs)) (h2 : m b = some (.lst ys)) (h : xs.length + ys.length ≤ sizeLine) (q : ∀ p, m p = none → P (.ref p) (put m p (.lst (xs ++ ys)))) : rAdd (.ref a) (.ref b) m P := ⟨xs, ys, h1, h2, h, q⟩
theorem r_sub (q : P (.int (i - j)) m) : rSub (.int i) (.int j) m P := ⟨trivial, q⟩
theorem r_mul (c : CMul i j) (q : P (.int (i * j)) m) : rMul (.int i) (.int j) m P := ⟨c, q⟩
theorem r_mod (c : 0 < j) (q : P (.int (i % j)) m) : rMod (.int i) (.int j) m P := ⟨c, q⟩
theorem r_fdiv (c : CDivW i j) (q : P (.int (i / j)) m) : rFdiv (.int i) (.int j) m P := ⟨c, q⟩
theorem r_pow (c : CPow i j) (q : P (.int (i ^ j.toNat)) m) : rPow (.int i) (.int j) m P := ⟨c, q⟩
theorem r_lt (q : P (.bl (decide (i < j))) m) : rLtD (.int i) (.int j) m P := ⟨trivial, q⟩
theorem r_le (q : P (.bl (decide (i ≤ j))) m) : rLeD (.int i) (.int j) m P := ⟨trivial, q⟩
theorem r_gt (q : P (.bl (decide (j < i))) m) : rGtD (.int i) (.int j) m P := ⟨trivial, q⟩
theorem r_ge (q : P (.bl (decide (j ≤ i))) m) : rGeD (.int i) (.int j) m P := ⟨trivial, q⟩
theorem r_eqI (q : P (.bl (decide (i = j))) m) : rEqD (.int i) (.int j) m P := q
theorem r_eqS (q : P (.bl (decide (z = w))) m) : rEqD (.str z) (.str w) m P := q
theorem r_eqIS (q : P (.bl false) m) : rEqD (.int i) (.str w) m P := q
theorem r_eqSI (q : P (.bl false) m) : rEqD (.str w) (.int i) m P := q
theorem r_neI (q : P (.bl (!decide (i = j))) m) : rNeD (.int i) (.int j) m P := q
theorem r_neS (q : P (.bl (!decide (z = w))) m) : rNeD (.str z) (.str w) m P := q
theorem r_ixT (e : atI xs i = some d) (q : P d m) : rIxD (.tup xs) (.int i) m P := ⟨d, e, q⟩
theorem r_ixL (h : m a = some (.lst xs)) (e : atI xs i = some d) (q : P d m) : rIxD (.ref a) (.int i) m P := ⟨xs, d, h, e, q⟩
theorem r_ixR (e : atI xs i = some d) (q : P d m) : rIxD (.rol xs) (.int i) m P := ⟨d, e, q⟩
theorem r_ixS {c : Nat} (h : z.length ≤ sizeLine) (e : atI z.cps.toList i = some c) (q : P (.str ⟨#[c]⟩) m) : rIxD (.str z) (.int i) m P := ⟨h, c, e, q⟩
theorem r_lenT (q : P (.int xs.length) m) : rLen [.tup xs] m P := q
theorem r_lenL (h : m a = some (.lst xs)) (q : P (.int xs.length) m) : rLen [.ref a] m P := ⟨xs, h, q⟩
theorem r_lenR (q : P (.int xs.length) m) : rLen [.rol xs] m P := ⟨xs, rfl, q⟩
theorem r_lenS (h : z.length ≤ sizeLine) (q : P (.int z.length) m) : rLen [.str z] m P := ⟨h, q⟩
theorem r_int (q : P (.int i) m) : rInt [.int i] m P := q
theorem r_abs (q : P (.int (if i < 0 then -i else i)) m) : rAbs [.int i] m P := q
theorem r_str (h : i.natAbs.log2 < 1920) (q : P (.str (toString i)) m) : rStr [.int i] m P := ⟨h, q⟩
theorem r_tupL (h : m a = some (.lst xs)) (q : P (.tup xs) m) : rTuple [.ref a] m P := ⟨xs, h, q⟩
theorem r_tupR (q : P (.tup xs) m) : rTuple [.rol xs] m P := ⟨xs, rfl, q⟩
theorem r_tupT (q : P (.tup xs) m) : rTuple [.tup xs] m P := q
theorem r_is {n T : String} {bb : Bool} (h : tyN m x = some n) (h2 : kitB n T = some bb) (q : P (.bl bb) m) : rIsD [x, .ty T] m P := ⟨n, bb, h, h2, q⟩
theorem r_app (h : m a = some (.lst xs)) (z : xs.length < sizeLine) (q : P .non (put m a (.lst (xs ++ [y])))) : rApp (.ref a) [y] m P := ⟨xs, h, z, q⟩
theorem s_gsub {to ti : TDE} {v : D} {Q : DS → M → Prop} (h : to sd m fun o m1 => ti sd m1 fun i m2 => match o, i with
  | .ref a, .int k => ∃ xs j, m2 a = some (.lst xs) ∧ ixN xs.length k = some j ∧ Q sd (put m2 a (.lst (xs.set j v)))
  | _, _ => False) : dGSub to ti v sd m Q := h
theorem r_set {k : Int} {j : Nat} {v : D} {Q : M → Prop} (h : m a = some (.lst xs)) (e : ixN xs.length k = some j) (q : Q (put m a (.lst (xs.set j v)))) : ∃ xs j, m a = some (.lst xs) ∧ ixN xs.length k = some j ∧ Q (put m a (.lst (xs.set j v))) := ⟨xs, j, h, e, q⟩
theorem r_isl (h : m a = some (.lst xs)) : isLst (.ref a) m := ⟨xs, h⟩
end
/-! ### loops -/
section
variable {g : TDG} {n : Nat} {lo : Int} {xs : List D} {a : Addr}
theorem f_rng (W : Nat → DS → M → Prop) (h0 : W 0 sd m) (hs : ∀ i sd m, i < n → W i sd m → g (.int (lo + i)) sd m fun sd2 m2 => t { D' with nx := Fg (W (i + 1)), ct := Fg (W (i + 1)), bk := D'.nx } sd2 m2) (hd : ∀ sd m, W n sd m → D'.nx sd m) :
    ∃ (N : Nat) (W : Nat → DS → M → Prop), W 0 sd m ∧ ∀ i sd m, W i sd m → i ≤ N ∧ ∃ o, jRng lo n i m o ∧ match o with
      | none => D'.nx sd m
      | some x => g x sd m fun sd2 m2 => t { D' with nx := Fg (W (i + 1)), ct := Fg (W (i + 1)), bk := D'.nx } sd2 m2 := by
  -- beyond n nothing holds: W is cut there
  refine ⟨n, fun i sd m => i ≤ n ∧ (i ≤ n → W i sd m), ⟨Nat.zero_le _, fun _ => h0⟩, ?_⟩
  rintro i sd m ⟨hi, w⟩
  refine ⟨hi, ?_⟩
  by_cases e : i < n
  · refine ⟨some (.int (lo + i)), (if_pos e).symm, ?_⟩
    have q := hs i sd m e (w hi)
    have eq : (fun (sd : DS) (m : M) => i + 1 ≤ n ∧ (i + 1 ≤ n → W (i + 1) sd m)) = W (i + 1) := by
      funext sd m
      exact propext ⟨fun z => z.2 z.1, fun z => ⟨e, fun _ => z⟩⟩
    show g (.int (lo + i)) sd m fun sd2 m2 => t { D' with nx := Fg fun (sd : DS) (m : M) => i + 1 ≤ n ∧ (i + 1 ≤ n → W (i + 1) sd m), ct := Fg fun (sd : DS) (m : M) => i + 1 ≤ n ∧ (i + 1 ≤ n → W (i + 1) sd m), bk := D'.nx } sd2 m2
    rw [eq]
    exact q
  · have : i = n := by omega
    subst this
    exact ⟨none, (if_neg e).symm, hd sd m (w hi)⟩
theorem f_tup (W : Nat → DS → M → Prop) (h0 : W 0 sd m) (hs : ∀ i x sd m, xs[i]? = some x → W i sd m → g x sd m fun sd2 m2 => t { D' with nx := Fg (W (i + 1)), ct := Fg (W (i + 1)), bk := D'.nx } sd2 m2) (hd : ∀ sd m, W xs.length sd m → D'.nx sd m) :
    ∃ (N : Nat) (W : Nat → DS → M → Prop), W 0 sd m ∧ ∀ i sd m, W i sd m → i ≤ N ∧ ∃ o, jTup xs i m o ∧ match o with
      | none => D'.nx sd m
      | some x => g x sd m fun sd2 m2 => t { D' with nx := Fg (W (i + 1)), ct := Fg (W (i + 1)), bk := D'.nx } sd2 m2 := by
  refine ⟨xs.length, fun i sd m => i ≤ xs.length ∧ (i ≤ xs.length → W i sd m), ⟨Nat.zero_le _, fun _ => h0⟩, ?_⟩
  rintro i sd m ⟨hi, w⟩
  refine ⟨hi, ?_⟩
  by_cases e : i < xs.length
  · refine ⟨some xs[i], (List.getElem?_eq_getElem e).symm, ?_⟩
    have q := hs i xs[i] sd m (List.getElem?_eq_getElem e) (w hi)
    have eq : (fun (sd : DS) (m : M) => i + 1 ≤ xs.length ∧ (i + 1 ≤ xs.length → W (i + 1) sd m)) = W (i + 1) := by
      funext sd m
      exact propext ⟨fun z => z.2 z.1, fun z => ⟨e, fun _ => z⟩⟩
    show g xs[i] sd m fun sd2 m2 => t { D' with nx := Fg fun (sd : DS) (m : M) => i + 1 ≤ xs.length ∧ (i + 1 ≤ xs.length → W (i + 1) sd m), ct := Fg fun (sd : DS) (m : M) => i + 1 ≤ xs.length ∧ (i + 1 ≤ xs.length → W (i + 1) sd m), bk := D'.nx } sd2 m2
    rw [eq]
    exact q
  · have : i = xs.length := by omega
    subst this
    exact ⟨none, (List.getElem?_eq_none (Nat.le_refl _)).symm, hd sd m (w hi)⟩
theorem f_lst (W : Nat → DS → M → Prop) (h0 : W 0 sd m) (hl : ∀ i sd m, i ≤ xs.length → W i sd m → m a = some (.lst xs)) (hs : ∀ i x sd m, xs[i]? = some x → W i sd m → g x sd m fun sd2 m2 => t { D' with nx := Fg (W (i + 1)), ct := Fg (W (i + 1)), bk := D'.nx } sd2 m2) (hd : ∀ sd m, W xs.length sd m → D'.nx sd m) :
    ∃ (N : Nat) (W : Nat → DS → M → Prop), W 0 sd m ∧ ∀ i sd m, W i sd m → i ≤ N ∧ ∃ o, jLst a i m o ∧ match o with
      | none => D'.nx sd m
      | some x => g x sd m fun sd2 m2 => t { D' with nx := Fg (W (i + 1)), ct := Fg (W (i + 1)), bk := D'.nx } sd2 m2 := by
  refine ⟨xs.length, fun i sd m => i ≤ xs.length ∧ (i ≤ xs.length → W i sd m), ⟨Nat.zero_le _, fun _ => h0⟩, ?_⟩
  rintro i sd m ⟨hi, w⟩
  refine ⟨hi, ?_⟩
  by_cases e : i < xs.length
  · refine ⟨some xs[i], ⟨xs, hl i sd m hi (w hi), (List.getElem?_eq_getElem e).symm⟩, ?_⟩
    have q := hs i xs[i] sd m (List.getElem?_eq_getElem e) (w hi)
    have eq : (fun (sd : DS) (m : M) => i + 1 ≤ xs.length ∧ (i + 1 ≤ xs.length → W (i + 1) sd m)) = W (i + 1) := by
      funext sd m
      exact propext ⟨fun z => z.2 z.1, fun z => ⟨e, fun _ => z⟩⟩
    show g xs[i] sd m fun sd2 m2 => t { D' with nx := Fg fun (sd : DS) (m : M) => i + 1 ≤ xs.length ∧ (i + 1 ≤ xs.length → W (i + 1) sd m), ct := Fg fun (sd : DS) (m : M) => i + 1 ≤ xs.length ∧ (i + 1 ≤ xs.length → W (i + 1) sd m), bk := D'.nx } sd2 m2
    rw [eq]
    exact q
  · have : i = xs.length := by omega
    subst this
    exact ⟨none, ⟨xs, hl _ sd m hi (w hi), (List.getElem?_eq_none (Nat.le_refl _)).symm⟩, hd sd m (w hi)⟩
end
/-- a range's end: what is asked of it -/
theorem s_r1 {j : Int} {Q : DIt → M → Prop} (h : -(2 ^ 62) ≤ j ∧ j < 2 ^ 62) (q : Q (jRng 0 j.toNat) m) : (match [D.int j] with | [.int j] => -(2 ^ 62) ≤ j ∧ j < 2 ^ 62 ∧ Q (jRng 0 j.toNat) m | _ => False) := ⟨h.1, h.2, q⟩
theorem i_r1 {t : TDA} {Q : DIt → M → Prop} (h : t sd m fun xs m1 => match xs with | [.int j] => -(2 ^ 62) ≤ j ∧ j < 2 ^ 62 ∧ Q (jRng 0 j.toNat) m1 | _ => False) : iR1 t sd m Q := h
theorem i_t {Q : DIt → M → Prop} (h : ta sd m fun x m1 => match x with | .tup xs => Q (jTup xs) m1 | _ => False) : iT ta sd m Q := h
theorem i_l {Q : DIt → M → Prop} (h : ta sd m fun x m1 => match x with | .rol xs => Q (jTup xs) m1 | .ref a => (∃ xs, m1 a = some (.lst xs)) ∧ Q (jLst a) m1 | _ => False) : iL ta sd m Q := h
theorem iteD {c A B : Prop} [Decidable c] (h1 : c → A) (h2 : ¬ c → B) : if decide c = true then A else B := by
  by_cases h : c
  · rw [if_pos (decide_eq_true h)]; exact h1 h
  · rw [if_neg (by rw [decide_eq_true_eq]; exact h)]; exact h2 h
theorem iteN {c A B : Prop} [Decidable c] (h1 : ¬ c → A) (h2 : c → B) : if (!decide c) = true then A else B := by
  by_cases h : c
  · rw [decide_eq_true h]; exact h2 h
  · rw [decide_eq_false h]; exact h1 h
theorem ite_t {A B : Prop} (h : A) : if true = true then A else B := h
theorem ite_f {A B : Prop} (h : B) : if false = true then A else B := h
theorem iteB {b : Bool} {A B : Prop} (h1 : b = true → A) (h2 : b = false → B) : if b = true then A else B := by
  cases b with
  | true => exact h1 rfl
  | false => exact h2 rfl
end
end Q4

set_option Elab.async false
set_option linter.all false
set_option maxRecDepth 100000
namespace Q4
open PySem L2
/-! ### loops, comprehensions: said without iterators -/
/-- over the items xs -/
def FT (xs : List D) (g : TDG) (tb : TDS) : TDS := fun D sd m => ∃ W : Nat → DS → M → Prop, W 0 sd m ∧
  (∀ i x sd m, xs[i]? = some x → W i sd m → g x sd m fun sd2 m2 => tb { D with nx := Fg (W (i + 1)), ct := Fg (W (i + 1)), bk := D.nx } sd2 m2) ∧ ∀ sd m, W xs.length sd m → D.nx sd m
/-- over the list at a, which stays -/
def FL (a : Addr) (xs : List D) (g : TDG) (tb : TDS) : TDS := fun D sd m => ∃ W : Nat → DS → M → Prop, W 0 sd m ∧ (∀ i sd m, i ≤ xs.length → W i sd m → m a = some (.lst xs)) ∧
  (∀ i x sd m, xs[i]? = some x → W i sd m → g x sd m fun sd2 m2 => tb { D with nx := Fg (W (i + 1)), ct := Fg (W (i + 1)), bk := D.nx } sd2 m2) ∧ ∀ sd m, W xs.length sd m → D.nx sd m
def FR (lo : Int) (n : Nat) (g : TDG) (tb : TDS) : TDS := fun D sd m => ∃ W : Nat → DS → M → Prop, W 0 sd m ∧
  (∀ (i : Nat) sd m, i < n → W i sd m → g (.int (lo + i)) sd m fun sd2 m2 => tb { D with nx := Fg (W (i + 1)), ct := Fg (W (i + 1)), bk := D.nx } sd2 m2) ∧ ∀ sd m, W n sd m → D.nx sd m
/-- range(n) -/
def FR0 (n : Nat) (g : TDG) (tb : TDS) : TDS := fun D sd m => ∃ W : Nat → DS → M → Prop, W 0 sd m ∧
  (∀ (i : Nat) sd m, i < n → W i sd m → g (.int i) sd m fun sd2 m2 => tb { D with nx := Fg (W (i + 1)), ct := Fg (W (i + 1)), bk := D.nx } sd2 m2) ∧ ∀ sd m, W n sd m → D.nx sd m
def dForR1 (t : TDA) (g : TDG) (tb : TDS) : TDS := fun D sd m => t sd m fun xs m1 => match xs with | [.int j] => (-(2 ^ 62) ≤ j ∧ j < 2 ^ 62) ∧ FR0 j.toNat g tb D sd m1 | _ => False
def dForR2 (t : TDA) (g : TDG) (tb : TDS) : TDS := fun D sd m => t sd m fun xs m1 => match xs with | [.int i, .int j] => (-(2 ^ 62) ≤ i ∧ i < 2 ^ 62 ∧ -(2 ^ 62) ≤ j ∧ j < 2 ^ 62) ∧ FR i (j - i).toNat g tb D sd m1 | _ => False
def dForT (t : TDE) (g : TDG) (tb : TDS) : TDS := fun D sd m => t sd m fun x m1 => match x with | .tup xs => FT xs g tb D sd m1 | _ => False
def dForL (t : TDE) (g : TDG) (tb : TDS) : TDS := fun D sd m => t sd m fun x m1 => match x with | .rol xs => FT xs g tb D sd m1 | .ref a => ∃ xs, m1 a = some (.lst xs) ∧ FL a xs g tb D sd m1 | _ => False
section
variable {X : Cx} {H0 : Hp} {tg : Expr} {body : List Stmt} {g : TDG} {tb : TDS} {pos : Pos} {vs : List Nat}
theorem qs_forR1 {a : Expr} {t : TDA} {p p2 : Pos} (hp : PassesOwn (model X.prog X.w) X.A X.env X.xe) (hc : X.calm = true) (hgl : Gl X "range") (hm : X.mg "range" = none) (ha : PA X [a] (lA X.K H0 t)) (hg : PG X tg (lG X.K H0 vs g)) (hb : PSs X body (lS X.K H0 tb))
    (hs : starEach [a] X.env = [(false, eval a X.env)] := by rfl) (hf : ∀ x, foldedSetIterable (.Call (.Name "range" p) [a] [] p2) X.env x = pure x := by intro _; rfl) : PS X (.For tg (.Call (.Name "range" p) [a] [] p2) body [] pos) (lS X.K H0 (dForR1 t g tb)) :=
  psL (ps_for hp hc (pi_range1 hgl hm ha hs) hg hb hf) fun D σ H h => by
    obtain ⟨sd, m, DD, a, p, q1, q2, q3, q4⟩ := h
    refine ⟨sd, m, _, a, p, fun d m' v H' k r rd p' => ?_⟩
    split at p'
    · obtain ⟨u, rfl, r1⟩ := rd.one_
      cases r1.int_
      obtain ⟨⟨h1, h2⟩, W, w0, ws, wd⟩ := p'
      exact ⟨_, rfl, h1, h2, for_core a.k k (a.s.mono k) r lift_rng q1 q2 (f_rng W w0 (fun i sd m hi w => by rw [Int.zero_add]; exact ws i sd m hi w) wd)⟩
    · exact p'.elim
theorem qs_forR2 {a b : Expr} {t : TDA} {p p2 : Pos} (hp : PassesOwn (model X.prog X.w) X.A X.env X.xe) (hc : X.calm = true) (hgl : Gl X "range") (hm : X.mg "range" = none) (ha : PA X [a, b] (lA X.K H0 t)) (hg : PG X tg (lG X.K H0 vs g)) (hb : PSs X body (lS X.K H0 tb))
    (hs : starEach [a, b] X.env = [(false, eval a X.env), (false, eval b X.env)] := by rfl) (hs2 : starEach [b] X.env = [(false, eval b X.env)] := by rfl) (hf : ∀ x, foldedSetIterable (.Call (.Name "range" p) [a, b] [] p2) X.env x = pure x := by intro _; rfl) : PS X (.For tg (.Call (.Name "range" p) [a, b] [] p2) body [] pos) (lS X.K H0 (dForR2 t g tb)) :=
  psL (ps_for hp hc (pi_range2 hgl hm ha hs hs2) hg hb hf) fun D σ H h => by
    obtain ⟨sd, m, DD, a, p, q1, q2, q3, q4⟩ := h
    refine ⟨sd, m, _, a, p, fun d m' v H' k r rd p' => ?_⟩
    split at p'
    · obtain ⟨u, w, rfl, r1, r2⟩ := rd.two_
      cases r1.int_
      cases r2.int_
      obtain ⟨h1, W, w0, ws, wd⟩ := p'
      exact ⟨_, _, rfl, h1, for_core a.k k (a.s.mono k) r lift_rng q1 q2 (f_rng W w0 ws wd)⟩
    · exact p'.elim
theorem qs_forT {l : Expr} {t : TDE} (hp : PassesOwn (model X.prog X.w) X.A X.env X.xe) (hc : X.calm = true) (hl : PE X l (lE X.K H0 t)) (hg : PG X tg (lG X.K H0 vs g)) (hb : PSs X body (lS X.K H0 tb)) (hf : ∀ x, foldedSetIterable l X.env x = pure x := by intro _; rfl) : PS X (.For tg l body [] pos) (lS X.K H0 (dForT t g tb)) :=
  psL (ps_for hp hc (pi_tup hl) hg hb hf) fun D σ H h => by
    obtain ⟨sd, m, DD, a, p, q1, q2, q3, q4⟩ := h
    refine ⟨sd, m, _, a, p, fun d m' v H' k r rd p' => ?_⟩
    cases d with
    | tup xs =>
      obtain ⟨b, ws, rfl, h1, h2⟩ := rd.tup_
      obtain ⟨W, w0, wst, wd⟩ := p'
      exact ⟨b, rfl, ⟨ws, h1⟩, for_core a.k k (a.s.mono k) r (lift_tup h1 h2) q1 q2 (f_tup W w0 wst wd)⟩
    | _ => exact p'.elim
theorem qs_forL {l : Expr} {t : TDE} (hp : PassesOwn (model X.prog X.w) X.A X.env X.xe) (hc : X.calm = true) (hl : PE X l (lE X.K H0 t)) (hg : PG X tg (lG X.K H0 vs g)) (hb : PSs X body (lS X.K H0 tb)) (hf : ∀ x, foldedSetIterable l X.env x = pure x := by intro _; rfl) : PS X (.For tg l body [] pos) (lS X.K H0 (dForL t g tb)) :=
  psL (ps_for hp hc (pi_list hl) hg hb hf) fun D σ H h => by
    obtain ⟨sd, m, DD, a, p, q1, q2, q3, q4⟩ := h
    refine ⟨sd, m, _, a, p, fun d m' v H' k r rd p' => ?_⟩
    cases d with
    | rol xs =>
      obtain ⟨b, ws, rfl, h1, h2⟩ := rd.rol_
      obtain ⟨W, w0, wst, wd⟩ := p'
      exact ⟨b, rfl, ⟨ws, h1.sq⟩, for_core a.k k (a.s.mono k) r (lift_rol h1 h2) q1 q2 (f_tup W w0 wst wd)⟩
    | ref b =>
      cases rd.ref_
      obtain ⟨xs, h, W, w0, wl, wst, wd⟩ := p'
      obtain ⟨ws, e1, r1⟩ := r _ _ h
      exact ⟨b, rfl, ⟨ws, .inl (.inl e1)⟩, for_core a.k k (a.s.mono k) r lift_lst q1 q2 (f_lst W w0 wl wst wd)⟩
    | _ => exact p'.elim
end
/-! ### comprehensions -/
/-- one turn: the item x, the list so far acc at p -/
def CTurn (g : TDG) (tt : TDT) (te : TDE) (vs : List Nat) (sd : DS) (p : Addr) (W' : List D → M → Prop) (x : D) (acc : List D) (m2 : M) : Prop :=
  g x (wipeD sd vs) (put m2 p (.lst acc)) fun sd2 m3 => tt sd2 m3 fun b m4 =>
    if b = true then te sd2 m4 fun y m5 => ∃ m6, Less (put m6 p (.lst acc)) m5 ∧ acc.length < sizeLine ∧ W' (acc ++ [y]) m6 else ∃ m6, Less (put m6 p (.lst acc)) m4 ∧ W' acc m6
def CT (xs : List D) (g : TDG) (tt : TDT) (te : TDE) (vs : List Nat) (sd : DS) (m1 : M) (P : DK) : Prop := ∀ p, m1 p = none → ∃ W : Nat → List D → M → Prop, W 0 [] m1 ∧
  (∀ i x acc m2, xs[i]? = some x → W i acc m2 → CTurn g tt te vs sd p (W (i + 1)) x acc m2) ∧ ∀ acc m2, W xs.length acc m2 → P (.ref p) (put m2 p (.lst acc))
def CL (a : Addr) (xs : List D) (g : TDG) (tt : TDT) (te : TDE) (vs : List Nat) (sd : DS) (m1 : M) (P : DK) : Prop := ∀ p, m1 p = none → ∃ W : Nat → List D → M → Prop, W 0 [] m1 ∧ (∀ i acc m2, i ≤ xs.length → W i acc m2 → m2 a = some (.lst xs)) ∧
  (∀ i x acc m2, xs[i]? = some x → W i acc m2 → CTurn g tt te vs sd p (W (i + 1)) x acc m2) ∧ ∀ acc m2, W xs.length acc m2 → P (.ref p) (put m2 p (.lst acc))
def CR0 (n : Nat) (g : TDG) (tt : TDT) (te : TDE) (vs : List Nat) (sd : DS) (m1 : M) (P : DK) : Prop := ∀ p, m1 p = none → ∃ W : Nat → List D → M → Prop, W 0 [] m1 ∧
  (∀ (i : Nat) acc m2, i < n → W i acc m2 → CTurn g tt te vs sd p (W (i + 1)) (.int i) acc m2) ∧ ∀ acc m2, W n acc m2 → P (.ref p) (put m2 p (.lst acc))
def CR (lo : Int) (n : Nat) (g : TDG) (tt : TDT) (te : TDE) (vs : List Nat) (sd : DS) (m1 : M) (P : DK) : Prop := ∀ p, m1 p = none → ∃ W : Nat → List D → M → Prop, W 0 [] m1 ∧
  (∀ (i : Nat) acc m2, i < n → W i acc m2 → CTurn g tt te vs sd p (W (i + 1)) (.int (lo + i)) acc m2) ∧ ∀ acc m2, W n acc m2 → P (.ref p) (put m2 p (.lst acc))
section
variable {g : TDG} {tt : TDT} {te : TDE} {vs : List Nat} {sd : DS} {m1 : M} {P : DK} {p : Addr}
theorem c_cut {n : Nat} {W : Nat → List D → M → Prop} {i : Nat} {x : D} {acc : List D} {m2 : M} (e : i + 1 ≤ n) (h : CTurn g tt te vs sd p (W (i + 1)) x acc m2) : CTurn g tt te vs sd p (fun acc m => i + 1 ≤ n ∧ (i + 1 ≤ n → W (i + 1) acc m)) x acc m2 := by
  have eq : (fun (acc : List D) (m : M) => i + 1 ≤ n ∧ (i + 1 ≤ n → W (i + 1) acc m)) = W (i + 1) := by
    funext acc m
    exact propext ⟨fun z => z.2 z.1, fun z => ⟨e, fun _ => z⟩⟩
  rw [eq]
  exact h
theorem c_tup {xs : List D} (h : ∃ W : Nat → List D → M → Prop, W 0 [] m1 ∧ (∀ i x acc m2, xs[i]? = some x → W i acc m2 → CTurn g tt te vs sd p (W (i + 1)) x acc m2) ∧ ∀ acc m2, W xs.length acc m2 → P (.ref p) (put m2 p (.lst acc))) :
    ∃ (N : Nat) (W : Nat → List D → M → Prop), W 0 [] m1 ∧ ∀ i acc m2, W i acc m2 → i ≤ N ∧ ∃ o, jTup xs i (put m2 p (.lst acc)) o ∧ match o with
      | none => P (.ref p) (put m2 p (.lst acc))
      | some x => CTurn g tt te vs sd p (W (i + 1)) x acc m2 := by
  obtain ⟨W, w0, ws, wd⟩ := h
  refine ⟨xs.length, fun i acc m => i ≤ xs.length ∧ (i ≤ xs.length → W i acc m), ⟨Nat.zero_le _, fun _ => w0⟩, ?_⟩
  rintro i acc m2 ⟨hi, w⟩
  refine ⟨hi, ?_⟩
  by_cases e : i < xs.length
  · exact ⟨some xs[i], (List.getElem?_eq_getElem e).symm, c_cut e (ws i xs[i] acc m2 (List.getElem?_eq_getElem e) (w hi))⟩
  · have : i = xs.length := by omega
    subst this
    exact ⟨none, (List.getElem?_eq_none (Nat.le_refl _)).symm, wd acc m2 (w hi)⟩
theorem c_lst {a : Addr} {xs : List D} (hap : a ≠ p) (h : ∃ W : Nat → List D → M → Prop, W 0 [] m1 ∧ (∀ i acc m2, i ≤ xs.length → W i acc m2 → m2 a = some (.lst xs)) ∧ (∀ i x acc m2, xs[i]? = some x → W i acc m2 → CTurn g tt te vs sd p (W (i + 1)) x acc m2) ∧ ∀ acc m2, W xs.length acc m2 → P (.ref p) (put m2 p (.lst acc))) :
    ∃ (N : Nat) (W : Nat → List D → M → Prop), W 0 [] m1 ∧ ∀ i acc m2, W i acc m2 → i ≤ N ∧ ∃ o, jLst a i (put m2 p (.lst acc)) o ∧ match o with
      | none => P (.ref p) (put m2 p (.lst acc))
      | some x => CTurn g tt te vs sd p (W (i + 1)) x acc m2 := by
  obtain ⟨W, w0, wl, ws, wd⟩ := h
  refine ⟨xs.length, fun i acc m => i ≤ xs.length ∧ (i ≤ xs.length → W i acc m), ⟨Nat.zero_le _, fun _ => w0⟩, ?_⟩
  rintro i acc m2 ⟨hi, w⟩
  refine ⟨hi, ?_⟩
  have hl : put m2 p (.lst acc) a = some (.lst xs) := (put_ne hap).trans (wl i acc m2 hi (w hi))
  by_cases e : i < xs.length
  · exact ⟨some xs[i], ⟨xs, hl, (List.getElem?_eq_getElem e).symm⟩, c_cut e (ws i xs[i] acc m2 (List.getElem?_eq_getElem e) (w hi))⟩
  · have : i = xs.length := by omega
    subst this
    exact ⟨none, ⟨xs, hl, (List.getElem?_eq_none (Nat.le_refl _)).symm⟩, wd acc m2 (w hi)⟩
theorem c_rng {lo : Int} {n : Nat} (h : ∃ W : Nat → List D → M → Prop, W 0 [] m1 ∧ (∀ (i : Nat) acc m2, i < n → W i acc m2 → CTurn g tt te vs sd p (W (i + 1)) (.int (lo + i)) acc m2) ∧ ∀ acc m2, W n acc m2 → P (.ref p) (put m2 p (.lst acc))) :
    ∃ (N : Nat) (W : Nat → List D → M → Prop), W 0 [] m1 ∧ ∀ i acc m2, W i acc m2 → i ≤ N ∧ ∃ o, jRng lo n i (put m2 p (.lst acc)) o ∧ match o with
      | none => P (.ref p) (put m2 p (.lst acc))
      | some x => CTurn g tt te vs sd p (W (i + 1)) x acc m2 := by
  obtain ⟨W, w0, ws, wd⟩ := h
  refine ⟨n, fun i acc m => i ≤ n ∧ (i ≤ n → W i acc m), ⟨Nat.zero_le _, fun _ => w0⟩, ?_⟩
  rintro i acc m2 ⟨hi, w⟩
  refine ⟨hi, ?_⟩
  by_cases e : i < n
  · exact ⟨some (.int (lo + i)), (if_pos e).symm, c_cut e (ws i acc m2 e (w hi))⟩
  · have : i = n := by omega
    subst this
    exact ⟨none, (if_neg e).symm, wd acc m2 (w hi)⟩
end
def dLcT (t : TDE) (g : TDG) (tt : TDT) (te : TDE) (vs : List Nat) : TDE := fun sd m P => t sd m fun x m1 => match x with | .tup xs => CT xs g tt te vs sd m1 P | _ => False
def dLcL (t : TDE) (g : TDG) (tt : TDT) (te : TDE) (vs : List Nat) : TDE := fun sd m P => t sd m fun x m1 => match x with | .rol xs => CT xs g tt te vs sd m1 P | .ref a => ∃ xs, m1 a = some (.lst xs) ∧ CL a xs g tt te vs sd m1 P | _ => False
def dLcR1 (t : TDA) (g : TDG) (tt : TDT) (te : TDE) (vs : List Nat) : TDE := fun sd m P => t sd m fun xs m1 => match xs with | [.int j] => (-(2 ^ 62) ≤ j ∧ j < 2 ^ 62) ∧ CR0 j.toNat g tt te vs sd m1 P | _ => False
section
variable {X : Cx} {H0 : Hp} {K : PySem.W.Frag} {g : TDG} {tt : TDT} {te : TDE} {vs : List Nat} {σ : St} {H : Hp} {Q : VK}
theorem l_lcT {t : TDE} (h : lE K H0 (dLcT t g tt te vs) σ H Q) : tLc (iTup K (lE K H0 t)) (lG K H0 vs g) (lT K H0 tt) (lE K H0 te) vs σ H Q := by
  obtain ⟨sd, m, P, a, p, q⟩ := h
  refine ⟨sd, m, _, a, p, fun d m' v H' k r rd p' => ?_⟩
  cases d with
  | tup xs =>
    obtain ⟨b, ws, rfl, h1, h2⟩ := rd.tup_
    exact ⟨b, rfl, ⟨ws, h1⟩, fun D hD => lc_core a.k k a.s r (lift_tup h1 h2) q hD (c_tup (p' D (r.free hD)))⟩
  | _ => exact p'.elim
theorem l_lcL {t : TDE} (h : lE K H0 (dLcL t g tt te vs) σ H Q) : tLc (iList K (lE K H0 t)) (lG K H0 vs g) (lT K H0 tt) (lE K H0 te) vs σ H Q := by
  obtain ⟨sd, m, P, a, p, q⟩ := h
  refine ⟨sd, m, _, a, p, fun d m' v H' k r rd p' => ?_⟩
  cases d with
  | rol xs =>
    obtain ⟨b, ws, rfl, h1, h2⟩ := rd.rol_
    exact ⟨b, rfl, ⟨ws, h1.sq⟩, fun D hD => lc_core a.k k a.s r (lift_rol h1 h2) q hD (c_tup (p' D (r.free hD)))⟩
  | ref b =>
    cases rd.ref_
    obtain ⟨xs, h, p'⟩ := p'
    obtain ⟨ws, e1, r1⟩ := r _ _ h
    refine ⟨b, rfl, ⟨ws, .inl (.inl e1)⟩, fun D hD => lc_core a.k k a.s r lift_lst q hD (c_lst ?_ (p' D (r.free hD)))⟩
    intro e
    subst e
    rw [r.free hD] at h
    cases h
  | _ => exact p'.elim
theorem l_lcR1 {t : TDA} (h : lE K H0 (dLcR1 t g tt te vs) σ H Q) : tLc (iRng1 (lA K H0 t)) (lG K H0 vs g) (lT K H0 tt) (lE K H0 te) vs σ H Q := by
  obtain ⟨sd, m, P, a, p, q⟩ := h
  refine ⟨sd, m, _, a, p, fun d m' v H' k r rd p' => ?_⟩
  split at p'
  · obtain ⟨u, rfl, r1⟩ := rd.one_
    cases r1.int_
    obtain ⟨⟨h1, h2⟩, p'⟩ := p'
    exact ⟨_, rfl, h1, h2, fun D hD => lc_core a.k k a.s r lift_rng q hD (c_rng (by
      obtain ⟨W, w0, ws, wd⟩ := p' D (r.free hD)
      exact ⟨W, w0, fun i acc m2 hi w => by rw [Int.zero_add]; exact ws i acc m2 hi w, wd⟩))⟩
  · exact p'.elim
/-- a comprehension as a value: its source's rule hi, its reading l -/
theorem qe_lcX {elt tg iter : Expr} {ifs : List Expr} {scope : Scope} {own : List (Str × Nat)} {pos : Pos} {wi : TI} {t' : TDE} (hc : X.calm = true) (hN : X.N.Nodup) (hi : PI X tg iter wi) (ok : BlkOk X.N X.env.scope scope own)
    (hg : ∀ (s : Shared) (H : Hp) (C : Addr) (cl : List (Str × Addr)) (fp : List Addr), PG (X.blk s H scope (compEnvC scope cl C X.env) fp) tg (lG X.K H0 (own.map (·.2)) g)) (ht : ∀ (s : Shared) (H : Hp) (C : Addr) (cl : List (Str × Addr)) (fp : List Addr), PTs (X.blk s H scope (compEnvC scope cl C X.env) fp) ifs (lT X.K H0 tt))
    (he : ∀ (s : Shared) (H : Hp) (C : Addr) (cl : List (Str × Addr)) (fp : List Addr), PE (X.blk s H scope (compEnvC scope cl C X.env) fp) elt (lE X.K H0 te)) (l : ∀ σ H Q, lE X.K H0 t' σ H Q → tLc wi (lG X.K H0 (own.map (·.2)) g) (lT X.K H0 tt) (lE X.K H0 te) (own.map (·.2)) σ H Q) (hs : ∀ x, foldedSetIterable iter X.env x = pure x := by intro _; rfl) :
    PE X (.ListComp elt [⟨tg, iter, ifs, 0⟩] scope pos) (lE X.K H0 t') := peL (pe_lc hc hN hi ok hg ht he hs) l
theorem qs_lcX {i : Nat} {y : Str} {py : Pos} {elt tg iter : Expr} {ifs : List Expr} {scope : Scope} {own : List (Str × Nat)} {pos spos : Pos} {wi : TI} {t' : TDE} (hc : X.calm = true) (hN : X.N.Nodup) (hy : X.N[i]? = some y) (hyl : X.env.scope.names.lookup y = some .local)
    (hsw : swapsWith (.ListComp elt [⟨tg, iter, ifs, 0⟩] scope pos) (some (.Name y py)) spos.line X.env = pure true) (hi : PI X tg iter wi) (ok : BlkOk X.N X.env.scope scope own)
    (hg : ∀ (s : Shared) (H : Hp) (C : Addr) (cl : List (Str × Addr)) (fp : List Addr), PG (X.blk s H scope (compEnvC scope cl C X.env) fp) tg (lG X.K H0 (own.map (·.2)) g)) (ht : ∀ (s : Shared) (H : Hp) (C : Addr) (cl : List (Str × Addr)) (fp : List Addr), PTs (X.blk s H scope (compEnvC scope cl C X.env) fp) ifs (lT X.K H0 tt))
    (he : ∀ (s : Shared) (H : Hp) (C : Addr) (cl : List (Str × Addr)) (fp : List Addr), PE (X.blk s H scope (compEnvC scope cl C X.env) fp) elt (lE X.K H0 te)) (l : ∀ σ H Q, lE X.K H0 t' σ H Q → tLc wi (lG X.K H0 (own.map (·.2)) g) (lT X.K H0 tt) (lE X.K H0 te) (own.map (·.2)) σ H Q) (hs : ∀ x, foldedSetIterable iter X.env x = pure x := by intro _; rfl) :
    PS X (.Assign [.Name y py] (.ListComp elt [⟨tg, iter, ifs, 0⟩] scope pos) spos) (lS X.K H0 (dAsg t' (dName i))) := psL (ps_setLc hc hN hy hyl hsw hi ok hg ht he hs) fun D σ H h => by
  obtain ⟨sd, m, DD, a, p, q⟩ := h
  exact l σ H _ ⟨sd, m, _, a, p, fun d m' v H' k r rd p' => q.1 _ m' _ H' k ((a.s.mono k).set i rd) r p'⟩
end
/-! ### steps -/
section
variable {sd : DS} {m : M} {D' : DEnds} {t u : TDS} {g : TDG} {ta : TDE} {tl : TDA} {P : DK} {tt : TDT} {te : TDE} {vs : List Nat}
theorem s_forR1 (h : tl sd m fun xs m1 => match xs with | [.int j] => (-(2 ^ 62) ≤ j ∧ j < 2 ^ 62) ∧ FR0 j.toNat g t D' sd m1 | _ => False) : dForR1 tl g t D' sd m := h
theorem s_forR2 (h : tl sd m fun xs m1 => match xs with | [.int i, .int j] => (-(2 ^ 62) ≤ i ∧ i < 2 ^ 62 ∧ -(2 ^ 62) ≤ j ∧ j < 2 ^ 62) ∧ FR i (j - i).toNat g t D' sd m1 | _ => False) : dForR2 tl g t D' sd m := h
theorem s_forT (h : ta sd m fun x m1 => match x with | .tup xs => FT xs g t D' sd m1 | _ => False) : dForT ta g t D' sd m := h
theorem s_forL (h : ta sd m fun x m1 => match x with | .rol xs => FT xs g t D' sd m1 | .ref a => ∃ xs, m1 a = some (.lst xs) ∧ FL a xs g t D' sd m1 | _ => False) : dForL ta g t D' sd m := h
theorem r_FL {a : Addr} {xs : List D} (h : m a = some (.lst xs)) (q : FL a xs g t D' sd m) : ∃ xs, m a = some (.lst xs) ∧ FL a xs g t D' sd m := ⟨xs, h, q⟩
theorem s_lcT (h : ta sd m fun x m1 => match x with | .tup xs => CT xs g tt te vs sd m1 P | _ => False) : dLcT ta g tt te vs sd m P := h
theorem s_lcL (h : ta sd m fun x m1 => match x with | .rol xs => CT xs g tt te vs sd m1 P | .ref a => ∃ xs, m1 a = some (.lst xs) ∧ CL a xs g tt te vs sd m1 P | _ => False) : dLcL ta g tt te vs sd m P := h
theorem s_lcR1 (h : tl sd m fun xs m1 => match xs with | [.int j] => (-(2 ^ 62) ≤ j ∧ j < 2 ^ 62) ∧ CR0 j.toNat g tt te vs sd m1 P | _ => False) : dLcR1 tl g tt te vs sd m P := h
theorem r_CL {a : Addr} {xs : List D} (h : m a = some (.lst xs)) (q : CL a xs g tt te vs sd m P) : ∃ xs, m a = some (.lst xs) ∧ CL a xs g tt te vs sd m P := ⟨xs, h, q⟩
end
end Q4

set_option Elab.async false
set_option linter.all false
set_option maxRecDepth 100000
namespace Q4
open PySem L2
/-! ### what is walked may be a list or a tuple -/
def iSq (K : PySem.W.Frag) (te : TE) : TI := fun σ H R => te σ H fun x G => ∃ b, x = .ref b ∧ (((∃ ys, SqL K G b ys) ∧ R (Itl K b) G) ∨ ((∃ ys, SqT K G b ys) ∧ R (Itt K b) G))
theorem pi_sq {X : Cx} {tg src : Expr} {te : TE} (hsrc : PE X src te) : PI X tg src (iSq X.K te) := by
  constructor
  intro pins st σ H R I hw
  refine thn (hsrc.run pins st σ H _ I hw) ?_
  rintro u st1 ⟨x, G, J, rv, b, ex, hq⟩
  subst ex
  cases rv
  have fresh : ∀ c ∈ [st1.heap.objs.size], FpOk X pins G c := by
    intro c hc
    rw [List.mem_singleton] at hc
    rw [hc]
    exact J.fpOk (Nat.le_refl _) (J.hok.fresh (Nat.le_refl _))
  rcases hq with ⟨⟨ys, h1⟩, q⟩ | ⟨⟨ys, h1⟩, q⟩
  · obtain ⟨its, _, pl, _⟩ := J.list h1
    refine wpAny_pyIter_list pl.isList ?_
    exact ⟨_, [_], _, _, G, rfl, J.kept (t' := st1.toks) (fun _ _ e => Heap.get?_push_of_some _ e), turn_list b _,
      ⟨_, Heap.get?_push_size _ rfl, rfl, rfl⟩, fresh, q⟩
  · obtain ⟨its, _, pl, _⟩ := J.tuple h1
    refine wpAny_pyIter_tuple (show st1.heap.IsTuple b its.toArray from pl) ?_
    exact ⟨_, [_], _, _, G, rfl, J.kept (t' := st1.toks) (fun _ _ e => Heap.get?_push_of_some _ e), turn_tuple b _,
      ⟨_, Heap.get?_push_size _ rfl, rfl, rfl⟩, fresh, q⟩
def FS (x : D) (g : TDG) (tb : TDS) : TDS := fun D sd m => match x with
  | .tup xs => FT xs g tb D sd m
  | .rol xs => FT xs g tb D sd m
  | .ref a => ∃ xs, m a = some (.lst xs) ∧ FL a xs g tb D sd m
  | _ => False
def dForS (t : TDE) (g : TDG) (tb : TDS) : TDS := fun D sd m => t sd m fun x m1 => FS x g tb D sd m1
def CS (x : D) (g : TDG) (tt : TDT) (te : TDE) (vs : List Nat) (sd : DS) (m1 : M) (P : DK) : Prop := match x with
  | .tup xs => CT xs g tt te vs sd m1 P
  | .rol xs => CT xs g tt te vs sd m1 P
  | .ref a => ∃ xs, m1 a = some (.lst xs) ∧ CL a xs g tt te vs sd m1 P
  | _ => False
def dLcS (t : TDE) (g : TDG) (tt : TDT) (te : TDE) (vs : List Nat) : TDE := fun sd m P => t sd m fun x m1 => CS x g tt te vs sd m1 P
section
variable {X : Cx} {H0 : Hp} {tg : Expr} {body : List Stmt} {g : TDG} {tb : TDS} {pos : Pos} {vs : List Nat} {K : PySem.W.Frag} {tt : TDT} {te : TDE} {σ : St} {H : Hp} {Q : VK}
theorem qs_forS {l : Expr} {t : TDE} (hp : PassesOwn (model X.prog X.w) X.A X.env X.xe) (hc : X.calm = true) (hl : PE X l (lE X.K H0 t)) (hg : PG X tg (lG X.K H0 vs g)) (hb : PSs X body (lS X.K H0 tb)) (hf : ∀ x, foldedSetIterable l X.env x = pure x := by intro _; rfl) : PS X (.For tg l body [] pos) (lS X.K H0 (dForS t g tb)) :=
  psL (ps_for hp hc (pi_sq hl) hg hb hf) fun D σ H h => by
    obtain ⟨sd, m, DD, a, p, q1, q2, q3, q4⟩ := h
    refine ⟨sd, m, _, a, p, fun d m' v H' k r rd p' => ?_⟩
    cases d with
    | tup xs =>
      obtain ⟨b, ws, rfl, h1, h2⟩ := rd.tup_
      obtain ⟨W, w0, wst, wd⟩ := p'
      exact ⟨b, rfl, .inr ⟨⟨ws, h1⟩, for_core a.k k (a.s.mono k) r (lift_tup h1 h2) q1 q2 (f_tup W w0 wst wd)⟩⟩
    | rol xs =>
      obtain ⟨b, ws, rfl, h1, h2⟩ := rd.rol_
      obtain ⟨W, w0, wst, wd⟩ := p'
      exact ⟨b, rfl, .inl ⟨⟨ws, h1.sq⟩, for_core a.k k (a.s.mono k) r (lift_rol h1 h2) q1 q2 (f_tup W w0 wst wd)⟩⟩
    | ref b =>
      cases rd.ref_
      obtain ⟨xs, h, W, w0, wl, wst, wd⟩ := p'
      obtain ⟨ws, e1, r1⟩ := r _ _ h
      exact ⟨b, rfl, .inl ⟨⟨ws, .inl (.inl e1)⟩, for_core a.k k (a.s.mono k) r lift_lst q1 q2 (f_lst W w0 wl wst wd)⟩⟩
    | _ => exact p'.elim
theorem l_lcS {t : TDE} (h : lE K H0 (dLcS t g tt te vs) σ H Q) : tLc (iSq K (lE K H0 t)) (lG K H0 vs g) (lT K H0 tt) (lE K H0 te) vs σ H Q := by
  obtain ⟨sd, m, P, a, p, q⟩ := h
  refine ⟨sd, m, _, a, p, fun d m' v H' k r rd p' => ?_⟩
  cases d with
  | tup xs =>
    obtain ⟨b, ws, rfl, h1, h2⟩ := rd.tup_
    exact ⟨b, rfl, .inr ⟨⟨ws, h1⟩, fun D hD => lc_core a.k k a.s r (lift_tup h1 h2) q hD (c_tup (p' D (r.free hD)))⟩⟩
  | rol xs =>
    obtain ⟨b, ws, rfl, h1, h2⟩ := rd.rol_
    exact ⟨b, rfl, .inl ⟨⟨ws, h1.sq⟩, fun D hD => lc_core a.k k a.s r (lift_rol h1 h2) q hD (c_tup (p' D (r.free hD)))⟩⟩
  | ref b =>
    cases rd.ref_
    obtain ⟨xs, h, p'⟩ := p'
    obtain ⟨ws, e1, r1⟩ := r _ _ h
    refine ⟨b, rfl, .inl ⟨⟨ws, .inl (.inl e1)⟩, fun D hD => lc_core a.k k a.s r lift_lst q hD (c_lst ?_ (p' D (r.free hD)))⟩⟩
    intro e
    subst e
    rw [r.free hD] at h
    cases h
  | _ => exact p'.elim
end
section
variable {sd : DS} {m : M} {D' : DEnds} {t u : TDS} {g : TDG} {ta : TDE} {tl : TDA} {P : DK} {tt : TDT} {te : TDE} {vs : List Nat} {xs : List D} {a : Addr}
theorem s_forS (h : ta sd m fun x m1 => FS x g t D' sd m1) : dForS ta g t D' sd m := h
theorem r_FST (q : FT xs g t D' sd m) : FS (.tup xs) g t D' sd m := q
theorem r_FSR (q : FT xs g t D' sd m) : FS (.rol xs) g t D' sd m := q
theorem r_FSL (h : m a = some (.lst xs)) (q : FL a xs g t D' sd m) : FS (.ref a) g t D' sd m := ⟨xs, h, q⟩
theorem s_lcS (h : ta sd m fun x m1 => CS x g tt te vs sd m1 P) : dLcS ta g tt te vs sd m P := h
theorem r_CST (q : CT xs g tt te vs sd m P) : CS (.tup xs) g tt te vs sd m P := q
theorem r_CSR (q : CT xs g tt te vs sd m P) : CS (.rol xs) g tt te vs sd m P := q
theorem r_CSL (h : m a = some (.lst xs)) (q : CL a xs g tt te vs sd m P) : CS (.ref a) g tt te vs sd m P := ⟨xs, h, q⟩
end
end Q4

set_option Elab.async false
set_option linter.all false
set_option maxRecDepth 100000
namespace Q4
open PySem L2
open PyProof.Rows (envOfC)
theorem neA {m : M} {a p : Addr} {o : DO} (h : m a = some o) (h' : m p = none) : a ≠ p := fun e => by subst e; rw [h] at h'; cases h'
theorem put_none {m : M} {a p : Addr} {o : DO} : put m a o p = none ↔ p ≠ a ∧ m p = none := by
  constructor
  · intro h
    by_cases e : p = a
    · subst e; rw [put_same] at h; cases h
    · rw [put_ne e] at h; exact ⟨e, h⟩
  · rintro ⟨e, h⟩
    rw [put_ne e]; exact h
/-! ### defs by name -/
structure FunAt (K : PySem.W.Frag) (mg : Str → Option Value) (x : Str) (st : Stmt) (ps : List Str) : Prop where
  ex : ∃ f fd, Fun K x x st f fd ∧ mg x = some (.ref f) ∧ ∀ us : List Value, us.length = ps.length → bindArgs fd ⟨us, []⟩ = pure (ps.zip us)
structure Callee (P : Program) (w : World) (K : PySem.W.Frag) (mg : Str → Option Value) (k : Nat) (x : Str) (ps : List Str) (d : DSp) : Prop where
  ex : ∃ f fd, mg x = some (.ref f) ∧ PySem.W.keepIn K (.ref f) = true ∧ (∀ us : List Value, us.length = ps.length → bindArgs fd ⟨us, []⟩ = pure (ps.zip us)) ∧ ∀ base, FnOk P w K mg base CX0 k f fd ps (lSp K d)
section
variable {P : Program} {w : World} {K : PySem.W.Frag} {mg : Str → Option Value} {x : Str} {st : Stmt} {ps N : List Str} {d d' : DSp} {k j : Nat}
theorem Callee.mono (C : Callee P w K mg j x ps d) (h : j ≤ k) : Callee P w K mg k x ps d := by
  obtain ⟨f, fd, a, b, c, e⟩ := C.ex
  exact ⟨f, fd, a, b, c, fun base => (e base).mono h⟩
theorem Callee.imp (C : Callee P w K mg k x ps d) (h : ∀ ds m P EX, d' ds m P EX → d ds m P EX) : Callee P w K mg k x ps d' := by
  obtain ⟨f, fd, a, b, c, e⟩ := C.ex
  refine ⟨f, fd, a, b, c, fun base => (e base).imp fun vs H Q E q => ?_⟩
  obtain ⟨ds, m, P, EX, r, rm, q, q2⟩ := q
  exact ⟨ds, m, P, EX, r, rm, h _ _ _ _ q, q2⟩
/-- what nobody can ask is kept by every def -/
theorem FunAt.none (F : FunAt K mg x st ps) (h : ∀ ds m P EX, ¬ d ds m P EX) : Callee P w K mg k x ps d := by
  obtain ⟨f, fd, F1, a, c⟩ := F.ex
  have no : ∀ vs H Q E, ¬ lSp K d vs H Q E := fun vs H Q E q => by
    obtain ⟨ds, m, P, EX, _, _, q, _⟩ := q
    exact h _ _ _ _ q
  exact ⟨f, fd, a, F1.kp, c, fun base => ⟨fun vs H Q E q => absurd q (no vs H Q E), fun A outer s H args us vs Q E _ _ _ _ q => absurd q (no vs H Q E)⟩⟩
theorem FunAt.callee (F : FunAt K mg x st ps) (S : FnScope N ps (defScope st)) (len : ∀ ds m P EX, d ds m P EX → ds.length = ps.length)
    (t : TDS) (hread : ∀ ds m P EX, d ds m P EX → t { nx := fun _ m' => Ret P .non m', rt := Ret P } (dstart N ds) m)
    (hbody : ∀ (base : Heap) (f : Addr) (cdv : Value) (A : Around) (outer : List Env) (s : Shared) (H : Hp) (E : XK), Room k (A.deeper (envOfC x (defScope st) s.heap.objs.size f cdv)) → PSs (cxOf CX0 P w K mg base N x (defScope st) f cdv A outer s H E).nox (defBody st) (lS K H t)) :
    Callee P w K mg (k + 1) x ps d := by
  obtain ⟨f, fd, F1, a, c⟩ := F.ex
  exact ⟨f, fd, a, F1.kp, c, fun base => Fun.okD F1 S len t hread (hbody base f)⟩
end
section
variable {X : Cx} {H0 : Hp}
theorem qe_fn {k : Nat} {ps : List Str} {d : DSp} {x : Str} {p pos : Pos} {e : Expr} {es : List Expr} {t : TDA} (C : Callee X.prog X.w X.K X.mg k x ps d) (hr : Room k X.A) (hg : Gl X x)
    (ha : PA X (e :: es) (lA X.K H0 t)) (hdb : (x == ("__debug__" : Str)) = false := by decide) (he : starEach (e :: es) X.env = (false, eval e X.env) :: starEach es X.env := by rfl) (hpl : (backTo pos (starEach es X.env)).any (·.1) = false := by rfl) :
    PE X (.Call (.Name x p) (e :: es) [] pos) (lE X.K H0 (dCall d t)) := by
  obtain ⟨f, fd, a, b, c, F⟩ := C.ex
  exact qe_call (F X.base) hr hg a b (.all c) (E := E0) pass0 ha hdb he hpl
theorem qe_fn0 {k : Nat} {ps : List Str} {d : DSp} {x : Str} {p pos : Pos} (C : Callee X.prog X.w X.K X.mg k x ps d) (hr : Room k X.A) (hg : Gl X x)
    (hdb : (x == ("__debug__" : Str)) = false := by decide) : PE X (.Call (.Name x p) [] [] pos) (lE X.K H0 (dCall d dNil)) := by
  obtain ⟨f, fd, a, b, c, F⟩ := C.ex
  exact qe_call0 (F X.base) hr hg a b (.all c) (E := E0) pass0 hdb
structure ConstAt (K : PySem.W.Frag) (mg : Str → Option Value) (x : Str) (d : D) : Prop where
  ex : ∃ v u, mg x = some u ∧ RelV v u ∧ ∀ H, RD K H d v
theorem qe_const {x : Str} {d : D} {pos : Pos} (C : ConstAt X.K X.mg x d) (hg : Gl X x) (hd : (x == ("__debug__" : Str)) = false := by decide) : PE X (.Name x pos) (lE X.K H0 (dC d)) := by
  obtain ⟨v, u, h1, h2, h3⟩ := C.ex
  exact qe_glob hg h1 h2 h3 hd
/-- a built-in class as a value -/
theorem qe_type {x : Str} {T : String} {pos : Pos} (hg : Gl X x) (hm : X.mg x = none) (hv : bootBuiltins x = some (.type T)) (hn : x ≠ "__name__" := by decide) (hd : (x == ("__debug__" : Str)) = false := by decide) : PE X (.Name x pos) (lE X.K H0 (dC (.ty T))) :=
  qe_bltn (v := .ty T) hg hm hv rfl (fun _ => .ty T) hn hd
theorem od_in : OpD X (compareOp .In) (fun x y m P => (∃ xs, (y = .tup xs ∨ isL m y xs) ∧ (∃ z : Str, x = .str z ∧ ∃ ys : List Str, xs = ys.map D.str ∧ P (.bl (decide (z ∈ ys))) m)) ∨ ∃ c z, x = .str ⟨#[c]⟩ ∧ y = .str z ∧ P (.bl (decide (c ∈ z.cps.toList))) m) := by
  have h1 : OpD X (compareOp .In) (fun x y m P => ∃ xs, (y = .tup xs ∨ isL m y xs) ∧ (∃ z : Str, x = .str z ∧ ∃ ys : List Str, xs = ys.map D.str ∧ P (.bl (decide (z ∈ ys))) m)) := by
    refine ⟨_, op_in_seq, fun H m x y u v P Q rm rx ry p q => ?_⟩
    obtain ⟨xs, hy, z, rfl, ys, rfl, p⟩ := p
    cases rx.str_
    have fin : ∀ ys : List Str, (ys.map V.str).all flatV = true := by
      intro ys
      induction ys with
      | nil => rfl
      | cons a r ih => rw [List.map_cons, List.all_cons, ih]; rfl
    have eqq : ∀ ys : List Str, inV (.str z) (ys.map V.str) = decide (z ∈ ys) := by
      intro ys
      unfold inV
      induction ys with
      | nil => simp
      | cons a r ih =>
        rw [List.map_cons, List.any_cons, ih]
        show (a == z || decide (z ∈ r)) = _
        by_cases e : a = z
        · subst e; simp
        · have : (a == z) = false := by simpa using e
          rw [this]
          simp [Ne.symm e]
    have : ∃ p', v = .ref p' ∧ (SqL X.K H p' (ys.map V.str) ∨ SqT X.K H p' (ys.map V.str)) := by
      rcases hy with rfl | hy
      · obtain ⟨a, vs, rfl, h1, h2⟩ := ry.tup_
        cases rds_strs h2
        exact ⟨a, rfl, .inr h1⟩
      · obtain ⟨a, vs, rfl, h1, h2⟩ := rm.list ry hy
        cases rds_strs h2
        exact ⟨a, rfl, .inl h1⟩
    obtain ⟨p', rfl, h⟩ := this
    refine ⟨p', _, rfl, h, rfl, fin ys, ?_⟩
    show Q (.bl (if false = true then !inV (.str z) (ys.map V.str) else inV (.str z) (ys.map V.str))) H
    rw [if_neg Bool.false_ne_true, eqq]
    exact q _ m _ H (Keep.refl _) rm (.bl _) p
  have h2 : OpD X (compareOp .In) (fun x y m P => ∃ c z, x = .str ⟨#[c]⟩ ∧ y = .str z ∧ P (.bl (decide (c ∈ z.cps.toList))) m) := by
    refine ⟨_, op_in_sign, fun H m x y u v P Q rm rx ry p q => ?_⟩
    obtain ⟨c, z, rfl, rfl, p⟩ := p
    cases rx.str_
    cases ry.str_
    exact ⟨c, z, rfl, rfl, q _ m _ H (Keep.refl _) rm (.bl _) p⟩
  exact (h1.or h2)
def rInD : R2D := fun x y m P => (∃ xs, (y = .tup xs ∨ isL m y xs) ∧ (∃ z : Str, x = .str z ∧ ∃ ys : List Str, xs = ys.map D.str ∧ P (.bl (decide (z ∈ ys))) m)) ∨ ∃ c z, x = .str ⟨#[c]⟩ ∧ y = .str z ∧ P (.bl (decide (c ∈ z.cps.toList))) m
theorem od_inD : OpD X (compareOp .In) rInD := od_in
end
def sp_law : DSp := fun ds m P _ => ∃ ns : List Int, ds = [.rol (ns.map D.int)] ∧ ns.length ≤ 63 ∧ m = (fun _ => none) ∧ ∀ m', P (.bl true) m'
theorem law_end {P : Program} {w : World} {K : PySem.W.Frag} {mg : Str → Option Value} {k : Nat} {fa : Addr} (C : Callee P w K mg k "law" ["script"] sp_law) (hm : mg "law" = some (.ref fa)) :
    ∃ fd : FuncData, (∀ (s : Shared) (v : Value), BindsTo s fd ⟨[v], []⟩ [("script", v)]) ∧ ∀ base : Heap, K.In base → base.Ns mainGlobals mg → FnOk P w K mg base CX0 k fa fd ["script"] (lSp K sp_law) := by
  obtain ⟨f, fd, a, b, c, F⟩ := C.ex
  rw [hm] at a
  cases a
  exact ⟨fd, fun s v => .of_eq (c [v] rfl), fun base _ _ => F base⟩
theorem law_ask {K : PySem.W.Frag} {H : Hp} {a : Addr} {ns : List Int} (hl : ns.length ≤ 63) (ho : Only H) (hS : SqL K H a (ns.map V.int)) : lSp K sp_law [.ref a] H (fun v _ => v = .bl true) fun _ _ _ => False := by
  have hf : FrzL K H a (ns.map V.int) := by
    rcases hS with (h | ⟨o, h⟩) | h
    · rcases ho a with q | ⟨o, xs, q⟩
      · rw [h] at q; cases q
      · rw [h] at q; cases q
    · exact .inl ⟨o, h⟩
    · exact .inr h
  have rd : ∀ ns : List Int, RDs K H (ns.map D.int) (ns.map V.int) := by
    intro ns
    induction ns with
    | nil => exact .nil
    | cons n r ih => exact .cons (.int n) ih
  refine ⟨[.rol (ns.map D.int)], fun _ => none, fun d _ => d = .bl true, noX, .cons (.rol hf (rd ns)) .nil, (fun a o e => by cases e), ⟨ns, rfl, hl, rfl, fun _ => rfl⟩, ?_, wantsX0⟩
  rintro d m' v H' k r rd' rfl
  exact rd'.bl_
theorem FunAt.of {K : PySem.W.Frag} {h : Heap} {mg : Str → Option Value} {x : Str} {st : Stmt} {ps : List Str} {f : Addr} {oc kV doc pm cdv ct : Value} {od an : Option Addr} {osl : Array (Option Value)} (X : K.In h) (G : h.Ns mainGlobals mg)
    (a1 : PySem.W.nsIn K mainGlobals x = some (some (.ref f))) (l1 : K.lookup f = some ⟨oc, od, .func (PySem.W.fnOf x x (defArgs st) (defBody st) (defScope st) .none kV doc pm an cdv ct), osl⟩) (c1 : PySem.W.codeIn K cdv x = true) (k1 : PySem.W.keepIn K (.ref f) = true)
    (hb : ∀ (kV doc pm : Value) (an : Option Addr) (cdv ct : Value) (us : List Value), us.length = ps.length → bindArgs (PySem.W.fnOf x x (defArgs st) (defBody st) (defScope st) .none kV doc pm an cdv ct) ⟨us, []⟩ = pure (ps.zip us)) : FunAt K mg x st ps :=
  ⟨f, _, fun_mk l1 c1 k1, PySem.W.mg_of X G a1, hb kV doc pm an cdv ct⟩
theorem ConstAt.tup {K : PySem.W.Frag} {h : Heap} {mg : Str → Option Value} {x : Str} {a : Addr} {o : Obj} {its : Array Value} {n : Nat} {ds : List D} {vs : List V} (X : K.In h) (G : h.Ns mainGlobals mg)
    (a1 : PySem.W.nsIn K mainGlobals x = some (some (.ref a))) (l1 : K.lookup a = some o) (c : o.cls = .type "tuple") (hd : o.data = .seq its n) (hz : its.size ≤ sizeLine) (hv : Vals vs its.toList) (hr : ∀ H, RDs K H ds vs) : ConstAt K mg x (.tup ds) :=
  ⟨.ref a, .ref a, PySem.W.mg_of X G a1, rfl, fun H => .tup (.inr ⟨o, its, n, l1, c, hd, hz, hv⟩) (hr H)⟩
end Q4

set_option Elab.async false
set_option linter.all false
set_option maxRecDepth 100000
namespace Q4
open PySem L2
abbrev Go (P : DK) (t : TDS) (sd : DS) (m : M) : Prop := t { nx := fun _ m' => Ret P .non m', rt := Ret P } sd m
section
variable {X : Cx} {H0 : Hp}
def rNegD : R1D := fun x m P => match x with | .int i => P (.int (-i)) m | _ => False
theorem qe_neg {a : Expr} {pos : Pos} {t : TDE} (ha : PE X a (lE X.K H0 t)) : PE X (.UnaryOp .USub a pos) (lE X.K H0 (dUn rNegD t)) := peL (pe_un un_neg ha) fun _ _ _ => l_un fun H m x u P Q rm rx p q => by
  unfold rNegD at p
  split at p
  · cases rx.int_
    exact ⟨_, rfl, q _ m _ H (Keep.refl _) rm (.int _) p⟩
  · exact p.elim
def rNotInD : R2D := fun x y m P => (∃ xs, (y = .tup xs ∨ isL m y xs) ∧ (∃ z : Str, x = .str z ∧ ∃ ys : List Str, xs = ys.map D.str ∧ P (.bl (!decide (z ∈ ys))) m)) ∨ ∃ c z, x = .str ⟨#[c]⟩ ∧ y = .str z ∧ P (.bl (!decide (c ∈ z.cps.toList))) m
theorem flat_strs : ∀ ys : List Str, (ys.map V.str).all flatV = true
  | [] => rfl
  | a :: r => by rw [List.map_cons, List.all_cons, flat_strs r]; rfl
theorem inV_strs {z : Str} : ∀ ys : List Str, inV (.str z) (ys.map V.str) = decide (z ∈ ys)
  | [] => by simp [inV]
  | a :: r => by
    have ih := inV_strs (z := z) r
    unfold inV at ih ⊢
    rw [List.map_cons, List.any_cons, ih]
    show (a == z || decide (z ∈ r)) = _
    by_cases e : a = z
    · subst e; simp
    · have : (a == z) = false := by simpa using e
      rw [this]
      simp [Ne.symm e]
theorem od_notInD : OpD X (compareOp .NotIn) rNotInD := by
  have h1 : OpD X (compareOp .NotIn) (fun x y m P => ∃ xs, (y = .tup xs ∨ isL m y xs) ∧ (∃ z : Str, x = .str z ∧ ∃ ys : List Str, xs = ys.map D.str ∧ P (.bl (!decide (z ∈ ys))) m)) := by
    refine ⟨_, op_notIn_seq, fun H m x y u v P Q rm rx ry p q => ?_⟩
    obtain ⟨xs, hy, z, rfl, ys, rfl, p⟩ := p
    cases rx.str_
    have : ∃ p', v = .ref p' ∧ (SqL X.K H p' (ys.map V.str) ∨ SqT X.K H p' (ys.map V.str)) := by
      rcases hy with rfl | hy
      · obtain ⟨a, vs, rfl, h1, h2⟩ := ry.tup_
        cases rds_strs h2
        exact ⟨a, rfl, .inr h1⟩
      · obtain ⟨a, vs, rfl, h1, h2⟩ := rm.list ry hy
        cases rds_strs h2
        exact ⟨a, rfl, .inl h1⟩
    obtain ⟨p', rfl, h⟩ := this
    refine ⟨p', _, rfl, h, rfl, flat_strs ys, ?_⟩
    show Q (.bl (if true = true then !inV (.str z) (ys.map V.str) else inV (.str z) (ys.map V.str))) H
    rw [if_pos rfl, inV_strs]
    exact q _ m _ H (Keep.refl _) rm (.bl _) p
  have h2 : OpD X (compareOp .NotIn) (fun x y m P => ∃ c z, x = .str ⟨#[c]⟩ ∧ y = .str z ∧ P (.bl (!decide (c ∈ z.cps.toList))) m) := by
    refine ⟨_, op_notIn_sign, fun H m x y u v P Q rm rx ry p q => ?_⟩
    obtain ⟨c, z, rfl, rfl, p⟩ := p
    cases rx.str_
    cases ry.str_
    exact ⟨c, z, rfl, rfl, q _ m _ H (Keep.refl _) rm (.bl _) p⟩
  exact (h1.or h2)
end
end Q4

set_option Elab.async false
set_option linter.all false
set_option maxRecDepth 100000
namespace Q4
open PySem L2
theorem atI_int {ns : List Int} {i : Int} (h0 : 0 ≤ i) (h : i < (ns.map D.int).length) : atI (ns.map D.int) i = some (.int (ns.getD i.toNat 0)) := by
  rw [List.length_map] at h
  have e : i = ((i.toNat : Nat) : Int) := by omega
  have hl : i.toNat < ns.length := by omega
  rw [e]
  refine atI_nat ?_
  rw [List.getElem?_map, List.getElem?_eq_getElem hl, List.getD_eq_getElem?_getD, Int.toNat_natCast, List.getElem?_eq_getElem hl]
  rfl
/-! ### the law's state: four ints -/
structure S4 where
  a : Int
  b : Int
  c : Int
  d : Int
abbrev S4.D (s : S4) : DO := .lst [.int s.a, .int s.b, .int s.c, .int s.d]
structure S4.Ok (s : S4) : Prop where
  a : 0 ≤ s.a
  c : 0 ≤ s.c
  c1 : s.c < 2147483647
def sp_law_pick : DSp := fun ds m P _ => ∃ st ns many s, ds = [.ref st, .rol (List.map D.int ns), .int many] ∧ m st = some (S4.D s) ∧ s.Ok ∧ 0 < many ∧ many < 2 ^ 62 ∧
  ∀ r s', 0 ≤ r → r < many → S4.Ok s' → s'.d = s.d → P (.int r) (put m st s'.D)
theorem use_pick {st : Addr} {ns : List Int} {many : Int} {s : S4} {m : M} {P : DK} (h : m st = some (S4.D s)) (o : s.Ok) (h0 : 0 < many) (h1 : many < 2 ^ 62) (q : ∀ r s', 0 ≤ r → r < many → S4.Ok s' → s'.d = s.d → P (.int r) (put m st s'.D)) :
    sp_law_pick [.ref st, .rol (List.map D.int ns), .int many] m P noX := ⟨st, ns, many, s, rfl, h, o, h0, h1, q⟩
theorem S4.Ok.d {s : S4} (o : s.Ok) (d : Int) : S4.Ok ⟨s.a, s.b, s.c, d⟩ := ⟨o.a, o.c, o.c1⟩
theorem use_pick2 {st : Addr} {ns : List Int} {many a b c d : Int} {m : M} {P : DK} (h : m st = some (.lst [.int a, .int b, .int c, .int d])) (o : S4.Ok ⟨a, b, c, d⟩) (h0 : 0 < many) (h1 : many < 2 ^ 62) (q : ∀ r s', 0 ≤ r → r < many → S4.Ok s' → s'.d = d → P (.int r) (put m st s'.D)) :
    sp_law_pick [.ref st, .rol (List.map D.int ns), .int many] m P noX := ⟨st, ns, many, ⟨a, b, c, d⟩, rfl, h, o, h0, h1, q⟩
theorem s_new {m : M} {Q : Addr → Prop} (h : ∀ p, m p = none → Q p) : ∀ p, m p = none → Q p := h
theorem r_inL {a : Addr} {m : M} {z : Str} {ys : List Str} {P : DK} (h : m a = some (.lst (ys.map D.str))) (q : P (.bl (decide (z ∈ ys))) m) : rInD (.str z) (.ref a) m P := .inl ⟨_, .inr h, z, rfl, ys, rfl, q⟩
theorem r_inT {m : M} {z : Str} {ys : List Str} {P : DK} (q : P (.bl (decide (z ∈ ys))) m) : rInD (.str z) (.tup (ys.map D.str)) m P := .inl ⟨_, .inl rfl, z, rfl, ys, rfl, q⟩
theorem r_ninL {a : Addr} {m : M} {z : Str} {ys : List Str} {P : DK} (h : m a = some (.lst (ys.map D.str))) (q : P (.bl (!decide (z ∈ ys))) m) : rNotInD (.str z) (.ref a) m P := .inl ⟨_, .inr h, z, rfl, ys, rfl, q⟩
/-- a plain text -/
structure Pl (z : Str) (n : Nat) : Prop where
  l : z.length ≤ n
  c : ∀ c ∈ z.cps.toList, c < 128
theorem Pl.one {c : Nat} (h : c < 128) : Pl ⟨#[c]⟩ 1 := ⟨Nat.le_refl _, fun d hd => by simp at hd; omega⟩
theorem Pl.app {z w : Str} {n k : Nat} (h : Pl z n) (h' : Pl w k) : Pl (z ++ w) (n + k) := by
  have e : (z ++ w).cps = z.cps ++ w.cps := rfl
  refine ⟨?_, fun c hc => ?_⟩
  · show (z ++ w).cps.size ≤ _
    rw [e, Array.size_append]
    exact Nat.add_le_add h.l h'.l
  · rw [e, Array.toList_append] at hc
    rcases List.mem_append.mp hc with q | q
    · exact h.c c q
    · exact h'.c c q
theorem Pl.mono {z : Str} {n k : Nat} (h : Pl z n) (e : n ≤ k) : Pl z k := ⟨Nat.le_trans h.l e, h.c⟩
theorem strAt {z : Str} {n : Nat} {r : Int} (hn : z.cps.toList.length = n) (h : z.cps.toList.all (fun c => decide (c < 128)) = true) (h0 : 0 ≤ r) (h1 : r < n) : ∃ c, atI z.cps.toList r = some c ∧ c < 128 := by
  obtain ⟨j, rfl⟩ : ∃ j : Nat, r = j := ⟨r.toNat, by omega⟩
  have hl : j < z.cps.toList.length := by omega
  refine ⟨z.cps.toList[j], atI_nat (List.getElem?_eq_getElem hl), ?_⟩
  have := List.all_eq_true.mp h _ (List.getElem_mem hl)
  simpa using this
theorem szA {z w : Str} {n k : Nat} (h : Pl z n) (h' : Pl w k) (e : n + k ≤ 100000) : z.length + w.length ≤ sizeLine := by
  have h1 := h.l
  have h2 := h'.l
  have : sizeLine = 16777216 := sizeLine_eq
  omega
theorem plLit {z : Str} {n : Nat} (h : z.cps.toList.all (fun c => decide (c < 128)) = true) (hl : z.length ≤ n) : Pl z n := ⟨hl, fun c hc => by simpa using List.all_eq_true.mp h c hc⟩
theorem put_self {m : M} {a : Addr} {o : DO} (h : m a = some o) : put m a o = m := by
  funext b
  by_cases e : b = a
  · subst e; rw [put_same, h]
  · rw [put_ne e]
theorem put_swap {m : M} {a b : Addr} {o u o' : DO} (h : b ≠ a) : put (put (put m a o) b u) a o' = put (put m a o') b u := by
  rw [put_comm h, put_put]
theorem kt_NoneType_bool : kitB "NoneType" "bool" = some false := by decide +kernel
theorem kt_NoneType_int : kitB "NoneType" "int" = some false := by decide +kernel
theorem kt_NoneType_str : kitB "NoneType" "str" = some false := by decide +kernel
theorem kt_NoneType_tuple : kitB "NoneType" "tuple" = some false := by decide +kernel
theorem kt_NoneType_list : kitB "NoneType" "list" = some false := by decide +kernel
theorem kt_bool_bool : kitB "bool" "bool" = some true := by decide +kernel
theorem kt_bool_int : kitB "bool" "int" = some true := by decide +kernel
theorem kt_bool_str : kitB "bool" "str" = some false := by decide +kernel
theorem kt_bool_tuple : kitB "bool" "tuple" = some false := by decide +kernel
theorem kt_bool_list : kitB "bool" "list" = some false := by decide +kernel
theorem kt_int_bool : kitB "int" "bool" = some false := by decide +kernel
theorem kt_int_int : kitB "int" "int" = some true := by decide +kernel
theorem kt_int_str : kitB "int" "str" = some false := by decide +kernel
theorem kt_int_tuple : kitB "int" "tuple" = some false := by decide +kernel
theorem kt_int_list : kitB "int" "list" = some false := by decide +kernel
theorem kt_str_bool : kitB "str" "bool" = some false := by decide +kernel
theorem kt_str_int : kitB "str" "int" = some false := by decide +kernel
theorem kt_str_str : kitB "str" "str" = some true := by decide +kernel
theorem kt_str_tuple : kitB "str" "tuple" = some false := by decide +kernel
theorem kt_str_list : kitB "str" "list" = some false := by decide +kernel
theorem kt_tuple_bool : kitB "tuple" "bool" = some false := by decide +kernel
theorem kt_tuple_int : kitB "tuple" "int" = some false := by decide +kernel
theorem kt_tuple_str : kitB "tuple" "str" = some false := by decide +kernel
theorem kt_tuple_tuple : kitB "tuple" "tuple" = some true := by decide +kernel
theorem kt_tuple_list : kitB "tuple" "list" = some false := by decide +kernel
theorem kt_list_bool : kitB "list" "bool" = some false := by decide +kernel
theorem kt_list_int : kitB "list" "int" = some false := by decide +kernel
theorem kt_list_str : kitB "list" "str" = some false := by decide +kernel
theorem kt_list_tuple : kitB "list" "tuple" = some false := by decide +kernel
theorem kt_list_list : kitB "list" "list" = some true := by decide +kernel
theorem r_eqB {a b : Bool} {m : M} {P : DK} (q : P (.bl (decide (a = b))) m) : rEqD (.bl a) (.bl b) m P := q
def plB (z : Str) (n : Nat) : Bool := decide (z.length ≤ n) && z.cps.toList.all fun c => decide (c < 128)
theorem pl_of {z : Str} {n : Nat} (h : plB z n = true) : Pl z n := by
  unfold plB at h
  rw [Bool.and_eq_true] at h
  exact plLit h.2 (of_decide_eq_true h.1)
theorem str_small : ∀ n : Nat, n < 128 → plB (Str.ofString (toString (n : Int))) 3 = true := by decide +kernel
theorem str_int {i : Int} (h0 : 0 ≤ i) (h : i < 128) : Pl (Str.ofString (toString i)) 3 := by
  obtain ⟨n, rfl⟩ : ∃ n : Nat, i = n := ⟨i.toNat, by omega⟩
  exact pl_of (str_small n (by omega))
theorem log2_small {i : Int} (h0 : 0 ≤ i) (h : i < 2 ^ 62) : i.natAbs.log2 < 1920 := by
  have : i.natAbs < 2 ^ 62 := by omega
  by_cases e : i.natAbs = 0
  · rw [e]; decide
  · have := (Nat.log2_lt e).mpr this
    omega
theorem cut_to {α : Type} (ys : List α) (k : Nat) : cutL ys none (some (k : Int)) = ys.take k := by
  unfold cutL
  rw [HT.sIx_nat, HT.sIx_none, List.drop_zero, Nat.sub_zero]
  by_cases h : k ≤ ys.length
  · rw [Nat.min_eq_left h]
  · rw [Nat.min_eq_right (by omega), List.take_of_length_le (Nat.le_refl _), List.take_of_length_le (by omega)]
theorem ite_nt {A B : Prop} (h : B) : if (!true) = true then A else B := h
theorem ite_nf {A B : Prop} (h : A) : if (!false) = true then A else B := h
theorem iteDT {c A B : Prop} [Decidable c] (h : c) (q : A) : if decide c = true then A else B := by rw [if_pos (decide_eq_true h)]; exact q
theorem iteDF {c A B : Prop} [Decidable c] (h : ¬ c) (q : B) : if decide c = true then A else B := by rw [if_neg (by rw [decide_eq_true_eq]; exact h)]; exact q
theorem iteNT {c A B : Prop} [Decidable c] (h : ¬ c) (q : A) : if (!decide c) = true then A else B := by rw [decide_eq_false h]; exact q
theorem iteNF {c A B : Prop} [Decidable c] (h : c) (q : B) : if (!decide c) = true then A else B := by rw [decide_eq_true h]; exact q
/-- a row of texts as data -/
def strsOf : List D → Option (List Str)
  | [] => some []
  | .str z :: r => (strsOf r).map (z :: ·)
  | _ => none
theorem strsOf_eq : ∀ {xs : List D} {ys : List Str}, strsOf xs = some ys → xs = ys.map D.str
  | [], _, h => by cases h; rfl
  | .str z :: r, _, h => by
    unfold strsOf at h
    cases e : strsOf r with
    | none => rw [e] at h; cases h
    | some w => rw [e] at h; cases h; rw [strsOf_eq e]; rfl
  | .non :: _, _, h => by cases h
  | .bl _ :: _, _, h => by cases h
  | .int _ :: _, _, h => by cases h
  | .tup _ :: _, _, h => by cases h
  | .rol _ :: _, _, h => by cases h
  | .ref _ :: _, _, h => by cases h
  | .ty _ :: _, _, h => by cases h
section
variable {m : M} {z : Str} {xs : List D} {ys : List Str} {P : DK} {a : Addr}
theorem r_inT' (h : strsOf xs = some ys) (q : P (.bl (decide (z ∈ ys))) m) : rInD (.str z) (.tup xs) m P := by rw [strsOf_eq h]; exact r_inT q
theorem r_inL' (h : m a = some (.lst xs)) (e : strsOf xs = some ys) (q : P (.bl (decide (z ∈ ys))) m) : rInD (.str z) (.ref a) m P := by rw [strsOf_eq e] at h; exact r_inL h q
theorem r_ninT' (h : strsOf xs = some ys) (q : P (.bl (!decide (z ∈ ys))) m) : rNotInD (.str z) (.tup xs) m P := .inl ⟨_, .inl rfl, z, rfl, ys, strsOf_eq h, q⟩
theorem r_ninL' (h : m a = some (.lst xs)) (e : strsOf xs = some ys) (q : P (.bl (!decide (z ∈ ys))) m) : rNotInD (.str z) (.ref a) m P := by rw [strsOf_eq e] at h; exact r_ninL h q
/-- a comprehension that maps -/
theorem CT_map {α : Type} {ks : List α} {e f : α → D} {g : TDG} {te : TDE} {vs : List Nat} {sd : DS} (hl : ks.length ≤ 100000) (hf : ∀ k ∈ ks, ∀ (m : M) (Q : DK), Q (f k) m → g (e k) (wipeD sd vs) m fun sd2 m3 => te sd2 m3 Q)
    (q : ∀ p, m p = none → P (.ref p) (put m p (.lst (ks.map f)))) : CT (ks.map e) g dYes te vs sd m P := by
  intro p hp
  refine ⟨fun i acc m2 => m2 = m ∧ acc = (ks.take i).map f, ⟨rfl, rfl⟩, ?_, ?_⟩
  · rintro i x acc m2 hx ⟨rfl, rfl⟩
    rw [List.getElem?_map] at hx
    cases hk : ks[i]? with
    | none => rw [hk] at hx; cases hx
    | some k =>
      rw [hk] at hx
      have hx : e k = x := by simpa using hx
      subst hx
      have hlt := (List.getElem?_eq_some_iff.mp hk).1
      refine hf k (List.mem_of_getElem? hk) _ _ ⟨m2, Less.refl _, ?_, rfl, ?_⟩
      · rw [List.length_map, List.length_take, PySem.sizeLine_eq]; omega
      · rw [List.take_add_one, hk, List.map_append]; rfl
  · rintro acc m2 ⟨rfl, rfl⟩
    rw [List.length_map, List.take_length]
    exact q p hp
theorem r_allM {α : Type} {ks : List α} {b : α → Bool} (h : m a = some (.lst (ks.map fun k => .bl (b k)))) (q : P (.bl (ks.all b)) m) : rAllD [.ref a] m P := by
  refine ⟨ks.map b, ?_, ?_⟩
  · show m a = _
    rw [h, List.map_map]; rfl
  · rw [List.all_map]; exact q
theorem r_anyM {α : Type} {ks : List α} {b : α → Bool} (h : m a = some (.lst (ks.map fun k => .bl (b k)))) (q : P (.bl (ks.any b)) m) : rAnyD [.ref a] m P := by
  refine ⟨ks.map b, ?_, ?_⟩
  · show m a = _
    rw [h, List.map_map]; rfl
  · rw [List.any_map]; exact q
end
theorem getMap {α β : Type} {ks : List α} {f : α → β} {i : Nat} {x : β} (h : (ks.map f)[i]? = some x) : ∃ k, ks[i]? = some k ∧ k ∈ ks ∧ x = f k := by
  rw [List.getElem?_map] at h
  cases e : ks[i]? with
  | none => rw [e] at h; cases h
  | some k => rw [e] at h; cases h; exact ⟨k, rfl, List.mem_of_getElem? e, rfl⟩
theorem allTake {α : Type} {ks : List α} {b : α → Bool} {i : Nat} {k : α} (h : ∀ k ∈ ks.take i, b k = true) (hk : ks[i]? = some k) (hb : b k = true) : ∀ k ∈ ks.take (i + 1), b k = true := by
  intro x hx
  rw [List.take_add_one, hk] at hx
  rcases List.mem_append.mp hx with q | q
  · exact h x q
  · simp at q; subst q; exact hb
theorem all_no {α : Type} {ks : List α} {b : α → Bool} {k : α} (h : k ∈ ks) (hb : b k = false) : ks.all b = false := by
  rw [Bool.eq_false_iff]
  intro e
  have := List.all_eq_true.mp e k h
  rw [hb] at this
  cases this
theorem all_yes {α : Type} {ks : List α} {b : α → Bool} {n : Nat} (h : ∀ k ∈ ks.take n, b k = true) (e : n = ks.length) : ks.all b = true := by
  subst e
  rw [List.take_length] at h
  exact List.all_eq_true.mpr h
end Q4

set_option Elab.async false
set_option linter.all false
set_option maxRecDepth 100000
namespace Q4
open PySem L2 PyProof.Rows
def maxInt (d : Int) : List Int → Int
  | [] => d
  | n :: r => r.foldl max n
theorem cmpInts (xs : List Int) : PySem.W.AlikeAll (xs.map PyData.int) := by
  refine ⟨fun x hx y hy => ?_, fun x hx => ?_⟩
  · obtain ⟨a, _, rfl⟩ := List.mem_map.mp hx
    obtain ⟨b, _, rfl⟩ := List.mem_map.mp hy
    rfl
  · obtain ⟨a, _, rfl⟩ := List.mem_map.mp hx
    intro h; cases h
theorem depthInts : ∀ xs : List Int, PyData.depthAll (xs.map PyData.int) ≤ 1
  | [] => by unfold PyData.depthAll; decide
  | x :: xs => by
    rw [List.map_cons]
    unfold PyData.depthAll
    have := depthInts xs
    have e : (PyData.int x).depth ≤ 1 := by unfold PyData.depth; decide
    omega
section
variable {X : Cx} {H0 : Hp}
def rMaxKw (K : PySem.W.Frag) : List V → List V → Hp → VK → Prop := fun vs zs H Q => ∃ (a : Addr) (ns : List Int) (d : Int), vs = [V.ref a] ∧ zs = [.int d] ∧ SqL K H a (ns.map V.int) ∧ Q (.int (maxInt d ns)) H
theorem cr_maxKw (hc : X.calm = true) (hu : X.A.units + 64 < cLine) : CallRK X (.builtin "max") [Str.ofString "default"] (rMaxKw X.K) := by
  intro pins s σ H vs zs us ws Q I r rz h
  obtain ⟨a, ns, d, rfl, rfl, hs, q⟩ := h
  obtain ⟨its, rv, hl, _⟩ := I.list hs
  obtain rfl := Vals.ref1 r
  obtain ⟨w1, rfl, e1⟩ := vals1 rz
  obtain ⟨td, rfl⟩ : ∃ t, w1 = Value.int d t := e1
  have hd := depthInts ns
  refine PySem.W.max_list_default (I.ok.hd hc) hl.isList (IntsAre.reads _ rv.ints) (cmpInts ns) (by omega) (fun e h' tk hk => ?_) fun y ys i v h' tk bs e hv rd hk => ?_
  · cases ns with
    | nil => exact ⟨.int _, H, I.kept hk, ⟨td, rfl⟩, q⟩
    | cons n r => cases e
  · cases ns with
    | nil => cases e
    | cons n r =>
      cases e
      rw [PySem.W.maxD_ints] at rd
      obtain ⟨t, rfl, _⟩ := reads_int_inv rd
      exact ⟨.int _, H, I.kept hk, ⟨t, rfl⟩, q⟩
def dMaxD (t : TDA) (td : TDE) : TDE := fun sd m P => t sd m fun xs m1 => td sd m1 fun y m2 => ∃ (x : D) (ns : List Int) (d : Int), xs = [x] ∧ isL m2 x (ns.map D.int) ∧ y = .int d ∧ P (.int (maxInt d ns)) m2
theorem qe_maxD {e d : Expr} {es : List Expr} {x : Str} {p pos kpos : Pos} {t : TDA} {td : TDE} (hc : X.calm = true) (hu : X.A.units + 64 < cLine) (hg : Gl X x) (hm : X.mg x = none) (ha : PA X (e :: es) (lA X.K H0 t)) (hd : PE X d (lE X.K H0 td))
    (hv : bootBuiltins x = some (.builtin "max")) (hn : x ≠ "__name__" := by decide) (hdb : (x == ("__debug__" : Str)) = false := by decide)
    (he : backTo pos (starEach (e :: es) X.env) = (false, eval e X.env) :: backTo pos (starEach es X.env) := by rfl) (hpl : (backTo pos (starEach (e :: es) X.env)).any (·.1) = false := by rfl)
    (hall : (backToKw pos (keywordEach [⟨some "default", d, kpos⟩] X.env)).all (·.1.isSome) = true := by rfl) (hnone : (backToKw pos (keywordEach [⟨some "default", d, kpos⟩] X.env)).any (·.1.isNone) = false := by rfl) (hks : (backToKw pos (keywordEach [⟨some "default", d, kpos⟩] X.env)).filterMap (·.1) = [Str.ofString "default"] := by rfl) :
    PE X (.Call (.Name x p) (e :: es) [⟨some "default", d, kpos⟩] pos) (lE X.K H0 (dMaxD t td)) :=
  peL (pe_callBK (cr_maxKw hc hu) hg hm hv ha (pk_cons hd pk_nil) hn hdb he hpl hall hnone hks) fun σ H Q h => by
    obtain ⟨sd, m, P, a, p, q⟩ := h
    refine ⟨sd, m, _, a, p, fun xs m1 us H1 k1 r1 d1 p1 => ?_⟩
    refine ⟨sd, m1, _, a.to k1 r1, p1, fun y m2 u H2 k2 r2 d2 p2 => ?_⟩
    obtain ⟨x, ns, d, rfl, h, rfl, p3⟩ := p2
    cases d2.int_
    obtain ⟨u1, rfl, r⟩ := (d1.mono k2).one_
    obtain ⟨_, vs, rfl, h1, h2⟩ := r2.list r h
    cases rds_ints h2
    exact ⟨_, ns, d, rfl, rfl, h1, q _ m2 _ H2 (k1.trans k2) r2 (.int _) p3⟩
end
end Q4

set_option Elab.async false
set_option linter.all false
set_option maxRecDepth 100000
namespace Q4
open PySem L2 PyProof.Rows PySem.Spec
/-! ### a tuple with its places: pairs (number, item) -/
set_option maxHeartbeats 1000000 in
theorem enum_one {x : Value} {it : Obj} {St : Heap → Prop} (B : Begins x it St) :
    Meets (Builtin.«enumerate.__new__» ⟨[.type "enumerate", x], []⟩) (fun _ R z => St z.heap ∧ R (.ok (.ret (.ref (z.heap.push it).objs.size)))
      { z with heap := (z.heap.push it).push { cls := .type "enumerate", data := .fields #[.none, .bool false, .ref z.heap.objs.size, rawInt 0, .none, .none] } }) :=
  .of_wp fun pr w A R z hz => by
    obtain ⟨hp, ge, dr, tok, osy⟩ := z
    obtain ⟨st, hz⟩ := hz
    have k1 := sub_enumerate
    have begin_ : ∀ {A' : Around} {G : Value → Shared → Prop} {Q : Value → Shared → Prop}, Q (.ref hp.objs.size) ⟨hp.push it, ge, dr, tok, osy⟩ → wpAny (model pr w) A' (pyIter x) Q G ⟨hp, ge, dr, tok, osy⟩ := fun q => B.iter pr w _ _ ⟨hp, ge, dr, tok, osy⟩ _ st q
    wp_walk using begin_
    refine wpAny_stack_any fun _ => wpAny_pure ?_
    split
    · rename_i cl _ _ _ _ _
      cases (cl == Value.type "enumerate") <;> (wp_walk using begin_; exact ⟨_, rfl, hz⟩)
    · wp_walk using begin_
      exact ⟨_, rfl, hz⟩
theorem enum_call {pr : Program} {w : World} {A : Around} {G : Value → Shared → Prop} {z : Shared} {x : Value} {it : Obj} {St : Heap → Prop} {Q : Value → Shared → Prop} (B : Begins x it St) (st : St z.heap)
    (q : ∀ h2, IsEnum h2 (z.heap.objs.size + 1) z.heap.objs.size 0 .none → h2.get? z.heap.objs.size = some it → h2.objs.size = z.heap.objs.size + 2 → (∀ b o, z.heap.get? b = some o → h2.get? b = some o) → Q (.ref (z.heap.objs.size + 1)) { z with heap := h2 }) :
    wpAny (model pr w) A (call (.type "enumerate") [x]) Q G z := by
  have sz : (z.heap.push it).objs.size = z.heap.objs.size + 1 := Heap.size_push ..
  refine callType_new F.called_enumerate (by decide) (F.typeCall_enumerate_1 _) (F.newCall_enumerate_1 _) (fun ob => F.args_object_init_2 ob _) F.entry_enumerate_new (enum_one B) ⟨st, ?_⟩
  show _ ∧ _
  rw [sz]
  have e0 := Heap.get?_push_size (z.heap.push it) (o := { cls := .type "enumerate", data := .fields #[.none, .bool false, .ref z.heap.objs.size, rawInt 0, .none, .none] }) rfl
  rw [sz] at e0
  exact ⟨⟨_, e0, rfl⟩, q _ e0 (Heap.get?_push_of_some _ (Heap.get?_push_size _ B.free)) (by rw [Heap.size_push, sz]) fun b o e => Heap.get?_push_of_some _ (Heap.get?_push_of_some _ e)⟩
/-- the tuple at a -/
def IteT (K : PySem.W.Frag) (a : Addr) : It :=
  ⟨fun i H => ∃ (ys : List V) (y : V), SqT K H a ys ∧ ys[i]? = some y, fun i H v H' => ∃ T y, v = .ref T ∧ H T = none ∧ H' = upd H T (.tup [.int (i : Nat), y]) ∧ ∀ ys, SqT K H a ys → ys[i]? = some y, fun i H => ∃ ys : List V, SqT K H a ys ∧ ys.length ≤ i⟩
theorem turn_enumT {P : Program} {w : World} {K : PySem.W.Frag} {els : List Expr} {k : Nat} {ps : Pos} (a e it : Addr) (hae : a ≠ e) (hai : a ≠ it) :
    Turn P w K (.Tuple els k ps) (IteT K a) [e, it] e (fun i h => (∃ old, IsEnum h e it ((i : Nat) : Int) old) ∧ h.IsTupleIter it a i ∧ e ≠ it) where
  mem := List.mem_cons_self
  obj := fun i h ⟨⟨old, he⟩, ⟨o, ho, hc, hd⟩, _⟩ b hb => by
    rcases List.mem_cons.mp hb with rfl | hb
    · exact ⟨_, he, fun v q => nomatch q⟩
    · rw [List.mem_singleton.mp hb]; exact ⟨o, ho, fun v q => by rw [hd] at q; cases q⟩
  keep := fun i h h' ⟨⟨old, he⟩, hi, hne⟩ kk => ⟨⟨old, kk e List.mem_cons_self _ he⟩, hi.at fun o q => kk it (List.mem_cons_of_mem _ List.mem_cons_self) o q, hne⟩
  item := by
    intro X hP hw hK hc i pins s σ H G I hf st hg
    subst hP hw hK
    obtain ⟨⟨old, he⟩, hit, hne⟩ := st
    obtain ⟨ys, y, hq, hy⟩ := hg
    obtain ⟨its, rv, p, hz⟩ := I.tuple hq
    obtain ⟨u, hu, ru⟩ := rv.get hy
    have lt1 : e < s.heap.objs.size := Heap.lt_size he
    have lt2 : it < s.heap.objs.size := by obtain ⟨_, q, _⟩ := hit; exact Heap.lt_size q
    have hlen : i < its.toArray.size := by
      have := (List.getElem?_eq_some_iff.mp hu).1
      simpa using this
    refine wpAny_pyNext_enum_itemC (Draws.tuple (A := X.A.in1) (I.ok.hd hc) it a hai its.toArray) he ⟨hit, (show s.heap.IsTuple a its.toArray from p)⟩ hlen hne (by simp [hne, Ne.symm hae]) fun x h' tk hx ho hst hT hsz hk => ?_
    obtain rfl : x = u := by
      have : its[i]? = some x := by simpa using hx
      rw [hu] at this
      exact (Option.some.inj this).symm
    refine ⟨_, rfl, wpAny_letOwnedTupleGo_enum (s := { s with heap := h', toks := tk + 1 }) ho fun h2 he2 sb => ?_⟩
    have hT2 := (sb.2 _ (Nat.ne_of_gt lt1)).trans hT
    have new : ObjOk X.prog X.w (upd H s.heap.objs.size (.tup [.int (i : Nat), y])) h2 s.heap.objs.size (.tup [.int (i : Nat), y]) :=
      ⟨by show 2 ≤ sizeLine; decide, [.int i tk, x], .cons ⟨_, rfl⟩ (.cons ru .nil), ⟨_, hT2, rfl, _, rfl⟩⟩
    have I1 : Inv X pins σ (upd H s.heap.objs.size (.tup [.int (i : Nat), y])) { s with heap := h2, toks := tk + 1 } :=
      I.turnedNew (ch := [e, it]) (fun b ob hb q => (sb.2 b (fun w => hb (by simp [w]))).trans (hk b ob (fun w => hb (by simp [w])) (fun w => hb (by simp [w])) q)) hf (Nat.le_refl _) new
    refine ⟨.ref s.heap.objs.size, _, I1, rfl, ⟨_, y, rfl, I.hok.fresh (Nat.le_refl _), rfl, fun zs hzs => by rw [I.tuple_inj hzs hq]; exact hy⟩, ⟨⟨x, ?_⟩, hst.1.at fun o q => (sb.2 it (Ne.symm hne)).trans q, hne⟩, fun b hb => ?_⟩
    · have e1 : ((i + 1 : Nat) : Int) = (i : Int) + 1 := by omega
      rw [e1]
      exact he2
    · have hb' : b < s.heap.objs.size := by
        rcases List.mem_cons.mp hb with rfl | hb
        · exact lt1
        · rw [List.mem_singleton.mp hb]; exact lt2
      rw [upd_ne (Nat.ne_of_lt hb')]
      exact (hf b hb).1
  done := by
    intro X hP hw hK hc i pins s σ H G I hf st hg
    subst hP hw hK
    obtain ⟨⟨old, he⟩, hit, hne⟩ := st
    obtain ⟨ys, hq, hy⟩ := hg
    obtain ⟨its, rv, p, hz⟩ := I.tuple hq
    obtain ⟨f0, f1, f2, f3, f4, f5⟩ := hf it (List.mem_cons_of_mem _ List.mem_cons_self)
    have hl := rv.length
    have Dz : Draws X.prog X.w X.A.in1 it [it, a] i (fun _ _ => False) (fun j h => j = i ∧ h.IsTupleIter it a i ∧ h.IsTuple a its.toArray) :=
      { live := fun _ _ z => let ⟨o, ho, _⟩ := z.2.1; ⟨o, ho⟩
        frame := fun _ _ _ z kk => ⟨z.1, z.2.1.at fun o q => kk it List.mem_cons_self o q, z.2.2.at fun o q => kk a (List.mem_cons_of_mem _ List.mem_cons_self) o q⟩
        item := fun j _ _ _ hj z _ => absurd z.1 (Nat.ne_of_lt hj)
        done := fun z Q G' st' q' => wpAny_nextOf_tuple_end (A := X.A.in1) (I.ok.hd hc) st'.2.1 st'.2.2 (by simp; omega) q' }
    exact wpAny_pyNext_enum_endD Dz he ⟨rfl, hit, (show s.heap.IsTuple a its.toArray from p)⟩ fun h' eb => ⟨rfl, I.turned (t' := s.toks) (fun b o hb q => eb b o hb q) f0 f1 f3 f4 f5⟩
  self := fun A i s Q G st h => let ⟨⟨_, he⟩, _⟩ := st; wpAny_pyIter_enum he h
def iEnumT (K : PySem.W.Frag) (ta : TA) : TI := fun σ H R => ta σ H fun vs H1 => ∃ a ys, vs = [.ref a] ∧ SqT K H1 a ys ∧ R (IteT K a) H1
theorem pi_enumT {X : Cx} {e : Expr} {ta : TA} {p pos tps : Pos} {els : List Expr} {k : Nat} (hg : Gl X "enumerate") (hm : X.mg "enumerate" = none) (ha : PA X [e] ta) (hs : starEach [e] X.env = [(false, eval e X.env)] := by rfl) :
    PI X (.Tuple els k tps) (.Call (.Name "enumerate" p) [e] [] pos) (iEnumT X.K ta) := by
  refine ⟨fun pins s σ H R I h => ?_⟩
  refine Call_ (ld_blt I hg hm boot_enumerate (PyProof.Rows.callWith_type1 (thn (ha.run pos pins s σ H _ I h) fun us z ⟨vs, H1, I1, r1, q1⟩ => ?_) hs rfl))
  obtain ⟨a, ys, rfl, hq, q⟩ := q1
  obtain rfl := Vals.ref1 r1
  obtain ⟨its, rv, pt, hz⟩ := I1.tuple hq
  have pt' : z.heap.IsTuple a its.toArray := pt
  have lta : a < z.heap.objs.size := by obtain ⟨o, ho, _⟩ := pt'; exact Heap.lt_size ho
  refine enum_call (begins_tuple a its.toArray) pt' fun h' he ho hsz kk => wpAny_pyIter_enum he ?_
  have I2 : Inv X pins σ H1 { z with heap := h' } := I1.kept (t' := z.toks) kk
  refine ⟨z.heap.objs.size + 1, [z.heap.objs.size + 1, z.heap.objs.size], _, _, H1, rfl, I2, turn_enumT a (z.heap.objs.size + 1) z.heap.objs.size (Nat.ne_of_lt (Nat.lt_succ_of_lt lta)) (Nat.ne_of_lt lta), ⟨⟨.none, he⟩, ⟨_, ho, rfl, rfl⟩, Nat.succ_ne_self _⟩, fun b hb => ?_, q⟩
  have le : z.heap.objs.size ≤ b := by
    rcases List.mem_cons.mp hb with rfl | hb
    · exact Nat.le_add_right _ _
    · rw [List.mem_singleton.mp hb]; exact Nat.le_refl _
  exact I1.fpOk le (I1.hok.fresh le)
end Q4

set_option Elab.async false
set_option linter.all false
set_option maxRecDepth 100000
namespace Q4
open PySem L2
/-! ### numbered items -/
def numd (xs : List D) : List D := xs.mapIdx fun i x => .tup [.int (i : Nat), x]
theorem numd_get {xs : List D} {i : Nat} : (numd xs)[i]? = (xs[i]?).map fun x => .tup [.int (i : Nat), x] := by
  unfold numd
  rw [List.getElem?_mapIdx]
theorem numd_len {xs : List D} : (numd xs).length = xs.length := by unfold numd; rw [List.length_mapIdx]
theorem lift_enumT {K : PySem.W.Frag} {H : Hp} {b : Addr} {xs : List D} {vs : List V} (h1 : SqT K H b vs) (h2 : RDs K H xs vs) : LiftIt K H (jTup (numd xs)) (IteT K b) := fun H2 k2 i m2 r2 o e => by
  have e : o = (numd xs)[i]? := e
  rw [numd_get] at e
  cases e2 : xs[i]? with
  | none =>
    rw [e2] at e
    subst e
    exact ⟨vs, k2.t _ _ h1, by rw [← h2.length]; exact List.getElem?_eq_none_iff.mp e2⟩
  | some x =>
    rw [e2] at e
    subst e
    obtain ⟨u, e3, r3⟩ := h2.get e2
    refine ⟨⟨vs, u, k2.t _ _ h1, e3⟩, fun v H3 y => ?_⟩
    obtain ⟨T, z, rfl, hn, rfl, hz⟩ := y
    have e5 := hz vs (k2.t _ _ h1)
    rw [e3] at e5
    cases e5
    have kk : Keep K H2 (upd H2 T (.tup [.int (i : Nat), u])) := Keep.new hn
    exact ⟨kk, r2.new hn, .tup (.inl (.inl upd_same)) ((RDs.cons (.int _) (.cons (r3.mono k2) .nil)).mono kk)⟩
/-! ### two clauses -/
/-- the inner items zs; where all are done, the outer turn is W' -/
def C2in (zs : List D) (g1 : TDG) (tt1 : TDT) (te : TDE) (vs1 : List Nat) (sd : DS) (p : Addr) (W' : List D → M → Prop) (m : M) : Prop :=
  ∃ W1 : Nat → List D → M → Prop, (∃ acc m6, Less (put m6 p (.lst acc)) m ∧ W1 0 acc m6) ∧
    (∀ j y acc m7, zs[j]? = some y → W1 j acc m7 → CTurn g1 tt1 te vs1 sd p (W1 (j + 1)) y acc m7) ∧ ∀ acc m7, W1 zs.length acc m7 → W' acc m7
def C2turn (g : TDG) (tt : TDT) (ti : TDE) (g1 : TDG) (tt1 : TDT) (te : TDE) (vs vs1 : List Nat) (sd : DS) (p : Addr) (W' : List D → M → Prop) (x : D) (acc : List D) (m2 : M) : Prop :=
  g x (wipeD sd vs) (put m2 p (.lst acc)) fun sd2 m3 => tt sd2 m3 fun b m4 =>
    if b = true then ti sd2 m4 fun z m5 => (match z with | .tup zs => C2in zs g1 tt1 te vs1 sd2 p W' m5 | _ => False) else ∃ m6, Less (put m6 p (.lst acc)) m4 ∧ W' acc m6
def C2 (xs : List D) (g : TDG) (tt : TDT) (ti : TDE) (g1 : TDG) (tt1 : TDT) (te : TDE) (vs vs1 : List Nat) (sd : DS) (m1 : M) (P : DK) : Prop := ∀ p, m1 p = none → ∃ W : Nat → List D → M → Prop, W 0 [] m1 ∧
  (∀ i x acc m2, xs[i]? = some x → W i acc m2 → C2turn g tt ti g1 tt1 te vs vs1 sd p (W (i + 1)) x acc m2) ∧ ∀ acc m2, W xs.length acc m2 → P (.ref p) (put m2 p (.lst acc))
/-- [te for g in enumerate(ta) if tt for g1 in ti if tt1], tuples -/
def dLcE2 (ta : TDA) (g : TDG) (tt : TDT) (ti : TDE) (g1 : TDG) (tt1 : TDT) (te : TDE) (vs vs1 : List Nat) : TDE := fun sd m P => ta sd m fun xs m1 => match xs with
  | [.tup ys] => C2 (numd ys) g tt ti g1 tt1 te vs vs1 sd m1 P
  | _ => False
section
variable {K : PySem.W.Frag} {H0 : Hp} {g g1 : TDG} {tt tt1 : TDT} {ti te : TDE} {vs vs1 : List Nat}
theorem in_core {H1 H3 : Hp} {sd2 : DS} {σ2 : St} {D : Addr} {W' : List Q4.D → M → Prop} {zs : List Q4.D} {m5 : M} {J1 : It} (k01 : Keep K H0 H1) (k1 : Keep K H1 H3) (s2 : RS K H3 sd2 σ2) (r3 : RM K H3 m5) (l1 : LiftIt K H3 (jTup zs) J1)
    (p : C2in zs g1 tt1 te vs1 sd2 D W' m5) :
    ∃ W1 : Nat → Nat → Hp → Prop, (∃ m, W1 0 m H3) ∧ ∀ j k H, W1 j k H →
      (J1.stop j H ∧ ∃ acc m', Keep K H1 H ∧ RM K H (put m' D (.lst acc)) ∧ W' acc m') ∨ (J1.go j H ∧ ∃ Nx1 : Hp → Prop, (∀ H', Nx1 H' → ∃ k', k' < k ∧ W1 (j + 1) k' H') ∧ ∀ x H', J1.yld j H x H' → lG K H0 vs1 g1 x (L2.wipe σ2 vs1) H' fun σ3 H5 => L2.wipe σ3 vs1 = L2.wipe σ2 vs1 ∧ lT K H0 tt1 σ3 H5 fun b H6 =>
        if b = true then lE K H0 te σ3 H6 fun y H7 => ∃ acc, H7 D = some (.lst acc) ∧ acc.length < sizeLine ∧ Nx1 (upd H7 D (.lst (acc ++ [y]))) else Nx1 H6) := by
  obtain ⟨W1, ⟨acc0, m6, hl0, w0⟩, ws, wd⟩ := p
  refine ⟨fun j n H' => n = zs.length - j ∧ j ≤ zs.length ∧ ∃ acc m', Keep K H3 H' ∧ RM K H' (put m' D (.lst acc)) ∧ W1 j acc m', ⟨_, rfl, Nat.zero_le _, acc0, m6, Keep.refl _, r3.less hl0, w0⟩, ?_⟩
  rintro j n H4 ⟨rfl, hj, acc, m7, k4, r4, w⟩
  have L := l1 H4 k4 j _ r4 (zs[j]?) rfl
  cases e : zs[j]? with
  | none =>
    rw [e] at L
    have : j = zs.length := Nat.le_antisymm hj (List.getElem?_eq_none_iff.mp e)
    subst this
    exact .inl ⟨L, acc, m7, k1.trans k4, r4, wd acc m7 w⟩
  | some y =>
    rw [e] at L
    have lt : j < zs.length := (List.getElem?_eq_some_iff.mp e).1
    refine .inr ⟨L.1, fun H' => ∃ acc m', Keep K H3 H' ∧ RM K H' (put m' D (.lst acc)) ∧ W1 (j + 1) acc m', ?_, fun v H5 yl => ?_⟩
    · rintro H' ⟨a2, m2, k2, r2, w2⟩
      exact ⟨zs.length - (j + 1), by omega, rfl, lt, a2, m2, k2, r2, w2⟩
    · obtain ⟨k5, r5, d5⟩ := L.2 v H5 yl
      have K5 : Keep K H3 H5 := k4.trans k5
      have rest := ws j y acc m7 e w
      refine ⟨y, wipeD sd2 vs1, _, _, ⟨(s2.mono K5).wipe vs1, r5, k01.trans (k1.trans K5)⟩, d5, rest, fun sd4 m4 σ4 H6 k6 s6 r6 hw p6 => ⟨hw.trans wipe_wipe, ?_⟩⟩
      have K6 : Keep K H3 H6 := K5.trans k6
      refine ⟨sd4, m4, _, ⟨s6, r6, k01.trans (k1.trans K6)⟩, p6, fun b m8 H7 k7 r7 p7 => ?_⟩
      cases b with
      | true =>
        refine ⟨sd4, m8, _, ⟨s6.mono k7, r7, k01.trans (k1.trans (K6.trans k7))⟩, p7, fun z m9 w9 H8 k8 r8 d8 p8 => ?_⟩
        obtain ⟨m10, hl, hz, w10⟩ := p8
        have r8 := r8.less hl
        obtain ⟨us, e1, rr⟩ := r8 D _ put_same
        refine ⟨us, e1, by rw [← rr.length]; exact hz, acc ++ [z], m10, ((K6.trans k7).trans k8).trans (Keep.lst e1), ?_, w10⟩
        have := r8.setPut e1 (rr.append (.cons d8 .nil))
        rw [put_put] at this
        exact this
      | false =>
        obtain ⟨m10, hl, w10⟩ := p7
        exact ⟨acc, m10, K6.trans k7, r7.less hl, w10⟩
theorem c2_core {J' : It} {H H1 : Hp} {sd : DS} {m1 : M} {σ : St} {P : DK} {Q : VK} {xs : List Q4.D} (k0 : Keep K H0 H) (k1 : Keep K H H1) (s0 : RS K H sd σ) (r1 : RM K H1 m1) (l1 : LiftIt K H1 (jTup xs) J')
    (q : ∀ d m' v H', Keep K H H' → RM K H' m' → RD K H' d v → P d m' → Q v H') {D : Addr} (hD : H1 D = none) (p : C2 xs g tt ti g1 tt1 te vs vs1 sd m1 P) :
    ∃ W : Nat → Nat → Hp → Prop, (∃ m, W 0 m (upd H1 D (.lst []))) ∧ ∀ i m H, W i m H →
      (J'.stop i H ∧ Q (.ref D) H) ∨ (J'.go i H ∧ ∃ Nx : Hp → Prop, (∀ H', Nx H' → ∃ m', m' < m ∧ W (i + 1) m' H') ∧ ∀ x H', J'.yld i H x H' → lG K H0 vs g x (L2.wipe σ vs) H' fun σ2 H2 => L2.wipe σ2 vs = L2.wipe σ vs ∧ lT K H0 tt σ2 H2 fun b H3 =>
        if b = true then iSq K (lE K H0 ti) σ2 H3 fun J1 H4 => ∃ W1 : Nat → Nat → Hp → Prop, (∃ m, W1 0 m H4) ∧ ∀ j k H, W1 j k H →
          (J1.stop j H ∧ Nx H) ∨ (J1.go j H ∧ ∃ Nx1 : Hp → Prop, (∀ H', Nx1 H' → ∃ k', k' < k ∧ W1 (j + 1) k' H') ∧ ∀ x H', J1.yld j H x H' → lG K H0 vs1 g1 x (L2.wipe σ2 vs1) H' fun σ3 H5 => L2.wipe σ3 vs1 = L2.wipe σ2 vs1 ∧ lT K H0 tt1 σ3 H5 fun b H6 =>
            if b = true then lE K H0 te σ3 H6 fun y H7 => ∃ acc, H7 D = some (.lst acc) ∧ acc.length < sizeLine ∧ Nx1 (upd H7 D (.lst (acc ++ [y]))) else Nx1 H6)
        else Nx H3) := by
  obtain ⟨W, w0, ws, wd⟩ := p D (r1.free hD)
  refine ⟨fun i n H' => n = xs.length - i ∧ i ≤ xs.length ∧ ∃ acc m', Keep K H1 H' ∧ RM K H' (put m' D (.lst acc)) ∧ W i acc m', ⟨_, rfl, Nat.zero_le _, [], m1, Keep.new hD, r1.newPut hD .nil, w0⟩, ?_⟩
  rintro i n H2 ⟨rfl, hi, acc, m2, k2, r2, w⟩
  have L := l1 H2 k2 i _ r2 (xs[i]?) rfl
  cases e : xs[i]? with
  | none =>
    rw [e] at L
    have : i = xs.length := Nat.le_antisymm hi (List.getElem?_eq_none_iff.mp e)
    subst this
    exact .inl ⟨L, q _ _ _ H2 (k1.trans k2) r2 (.ref D) (wd acc m2 w)⟩
  | some x =>
    rw [e] at L
    have lt : i < xs.length := (List.getElem?_eq_some_iff.mp e).1
    refine .inr ⟨L.1, fun H' => ∃ acc m', Keep K H1 H' ∧ RM K H' (put m' D (.lst acc)) ∧ W (i + 1) acc m', ?_, fun v H3 yl => ?_⟩
    · rintro H' ⟨a2, m2, k2, r2, w2⟩
      exact ⟨xs.length - (i + 1), by omega, rfl, lt, a2, m2, k2, r2, w2⟩
    · obtain ⟨k3, r3, d3⟩ := L.2 v H3 yl
      have K3 : Keep K H1 H3 := k2.trans k3
      have K03 : Keep K H H3 := k1.trans K3
      have rest := ws i x acc m2 e w
      refine ⟨x, wipeD sd vs, _, _, ⟨(s0.mono K03).wipe vs, r3, k0.trans K03⟩, d3, rest, fun sd4 m4 σ4 H4 k4 s4 r4 hw p4 => ⟨hw.trans wipe_wipe, ?_⟩⟩
      have K4 : Keep K H1 H4 := K3.trans k4
      refine ⟨sd4, m4, _, ⟨s4, r4, k0.trans (k1.trans K4)⟩, p4, fun b m5 H5 k5 r5 p5 => ?_⟩
      have K5 : Keep K H1 H5 := K4.trans k5
      cases b with
      | true =>
        refine ⟨sd4, m5, _, ⟨s4.mono k5, r5, k0.trans (k1.trans K5)⟩, p5, fun z m6 u H6 k6 r6 d6 p6 => ?_⟩
        cases z with
        | tup zs =>
          obtain ⟨b, us, rfl, h1, h2⟩ := d6.tup_
          exact ⟨b, rfl, .inr ⟨⟨us, h1⟩, in_core (k0.trans k1) (K5.trans k6) ((s4.mono k5).mono k6) r6 (lift_tup h1 h2) p6⟩⟩
        | _ => exact p6.elim
      | false =>
        obtain ⟨m7, hl, w7⟩ := p5
        exact ⟨acc, m7, K5, r5.less hl, w7⟩
theorem l_lcE2 {ta : TDA} {σ : St} {H : Hp} {Q : VK} (h : lE K H0 (dLcE2 ta g tt ti g1 tt1 te vs vs1) σ H Q) : tLc2 (iEnumT K (lA K H0 ta)) (lG K H0 vs g) (lT K H0 tt) (iSq K (lE K H0 ti)) (lG K H0 vs1 g1) (lT K H0 tt1) (lE K H0 te) vs vs1 σ H Q := by
  obtain ⟨sd, m, P, a, p, q⟩ := h
  refine ⟨sd, m, _, a, p, fun d m' v H' k r rd p' => ?_⟩
  split at p'
  · obtain ⟨u, rfl, r1⟩ := rd.one_
    obtain ⟨b, us, rfl, h1, h2⟩ := r1.tup_
    exact ⟨b, us, rfl, h1, fun D hD => c2_core a.k k a.s r (lift_enumT h1 h2) q hD p'⟩
  · exact p'.elim
end
theorem qe_lc2X {X : Cx} {H0 : Hp} {g g1 : TDG} {tt tt1 : TDT} {te : TDE} {elt tg iter tg1 iter1 : Expr} {ifs ifs1 : List Expr} {scope : Scope} {own : List (Str × Nat)} {vs1 : List Nat} {pos : Pos} {wi wi1 : TI} {t' : TDE} (hc : X.calm = true) (hN : X.N.Nodup) (hi : PI X tg iter wi) (ok : BlkOk X.N X.env.scope scope own) (hv : ∀ i ∈ vs1, i ∈ own.map (·.2))
    (hg : ∀ (s : Shared) (H : Hp) (C : Addr) (cl : List (Str × Addr)) (fp : List Addr), PG (X.blk s H scope (compEnvC scope cl C X.env) fp) tg (lG X.K H0 (own.map (·.2)) g)) (ht : ∀ (s : Shared) (H : Hp) (C : Addr) (cl : List (Str × Addr)) (fp : List Addr), PTs (X.blk s H scope (compEnvC scope cl C X.env) fp) ifs (lT X.K H0 tt))
    (hi1 : ∀ (s : Shared) (H : Hp) (C : Addr) (cl : List (Str × Addr)) (fp : List Addr), PI (X.blk s H scope (compEnvC scope cl C X.env) fp) tg1 iter1 wi1)
    (hg1 : ∀ (s : Shared) (H : Hp) (C : Addr) (cl : List (Str × Addr)) (fp : List Addr), PG (X.blk s H scope (compEnvC scope cl C X.env) fp) tg1 (lG X.K H0 vs1 g1)) (ht1 : ∀ (s : Shared) (H : Hp) (C : Addr) (cl : List (Str × Addr)) (fp : List Addr), PTs (X.blk s H scope (compEnvC scope cl C X.env) fp) ifs1 (lT X.K H0 tt1))
    (he : ∀ (s : Shared) (H : Hp) (C : Addr) (cl : List (Str × Addr)) (fp : List Addr), PE (X.blk s H scope (compEnvC scope cl C X.env) fp) elt (lE X.K H0 te))
    (l : ∀ σ H Q, lE X.K H0 t' σ H Q → tLc2 wi (lG X.K H0 (own.map (·.2)) g) (lT X.K H0 tt) wi1 (lG X.K H0 vs1 g1) (lT X.K H0 tt1) (lE X.K H0 te) (own.map (·.2)) vs1 σ H Q)
    (hs : ∀ x, foldedSetIterable iter X.env x = pure x := by intro _; rfl) (hs1 : ∀ env x, foldedSetIterable iter1 env x = pure x := by intro _ _; rfl) :
    PE X (.ListComp elt [⟨tg, iter, ifs, 0⟩, ⟨tg1, iter1, ifs1, 0⟩] scope pos) (lE X.K H0 t') := peL (pe_lc2 hc hN hi ok hv hg ht hi1 hg1 ht1 he hs hs1) l
end Q4

set_option Elab.async false
set_option linter.all false
set_option maxRecDepth 100000
namespace Q4
open PySem L2
/-! ### dicts whose keys are ints and texts -/
def kD : Key → D
  | .inl i => .int i
  | .inr z => .str z
theorem RD.key_ {K : PySem.W.Frag} {H : Hp} {k : Key} {v : V} (r : RD K H (kD k) v) : v = kV k := by
  cases k with
  | inl i => exact r.int_
  | inr z => exact r.str_
def valD (kvs : List (Key × D)) (k : Key) : Option D := (kvs.find? fun p => decide (p.1 = k)).map (·.2)
def putD (kvs : List (Key × D)) (k : Key) (d : D) : List (Key × D) :=
  if kvs.any fun p => decide (p.1 = k) then kvs.map fun p => if p.1 = k then (p.1, d) else p else kvs ++ [(k, d)]
/-- two dicts that stand for each other -/
structure RK (K : PySem.W.Frag) (H : Hp) (kvs : List (Key × D)) (gs : List (Key × V)) : Prop where
  v : RDs K H (kvs.map (·.2)) (gs.map (·.2))
  k : kvs.map (·.1) = gs.map (·.1)
section
variable {K : PySem.W.Frag} {H H' : Hp}
theorem RK.nil : RK K H [] [] := ⟨.nil, rfl⟩
theorem RK.cons {p : Key × D} {q : Key × V} {kvs : List (Key × D)} {gs : List (Key × V)} (r : RK K H (p :: kvs) (q :: gs)) : p.1 = q.1 ∧ RD K H p.2 q.2 ∧ RK K H kvs gs := by
  have e := r.k
  rw [List.map_cons, List.map_cons] at e
  have v := r.v
  rw [List.map_cons, List.map_cons] at v
  cases v with
  | cons a b => exact ⟨(List.cons.inj e).1, a, b, (List.cons.inj e).2⟩
theorem RK.mk_cons {p : Key × D} {q : Key × V} {kvs : List (Key × D)} {gs : List (Key × V)} (e : p.1 = q.1) (h : RD K H p.2 q.2) (r : RK K H kvs gs) : RK K H (p :: kvs) (q :: gs) :=
  ⟨.cons h r.v, by rw [List.map_cons, List.map_cons, e, r.k]⟩
theorem RK.mono {kvs : List (Key × D)} {gs : List (Key × V)} (r : RK K H kvs gs) (k : Keep K H H') : RK K H' kvs gs := ⟨r.v.mono k, r.k⟩
theorem RK.length {kvs : List (Key × D)} {gs : List (Key × V)} (r : RK K H kvs gs) : kvs.length = gs.length := by
  have := r.v.length
  rwa [List.length_map, List.length_map] at this
theorem RK.val (k : Key) : ∀ {kvs : List (Key × D)} {gs : List (Key × V)}, RK K H kvs gs → match valD kvs k with
    | some d => ∃ v, valV gs k = some v ∧ RD K H d v
    | none => valV gs k = none
  | [], [], _ => rfl
  | [], _ :: _, r => by have := r.length; cases this
  | _ :: _, [], r => by have := r.length; cases this
  | p :: kvs, q :: gs, r => by
    obtain ⟨e, h, r'⟩ := r.cons
    by_cases hk : p.1 = k
    · have e1 : valD (p :: kvs) k = some p.2 := by simp [valD, hk]
      rw [e1]
      exact ⟨q.2, valV_pos (e.symm.trans hk), h⟩
    · have e1 : valD (p :: kvs) k = valD kvs k := by simp [valD, hk]
      rw [e1, valV_neg (fun z => hk (e.trans z))]
      exact RK.val k r'
theorem RK.any (k : Key) : ∀ {kvs : List (Key × D)} {gs : List (Key × V)}, RK K H kvs gs → (kvs.any fun p => decide (p.1 = k)) = gs.any fun p => decide (p.1 = k)
  | [], [], _ => rfl
  | [], _ :: _, r => by have := r.length; cases this
  | _ :: _, [], r => by have := r.length; cases this
  | p :: kvs, q :: gs, r => by
    obtain ⟨e, h, r'⟩ := r.cons
    rw [List.any_cons, List.any_cons, e, RK.any k r']
theorem RK.app {d : D} {v : V} (k : Key) (h : RD K H d v) : ∀ {kvs : List (Key × D)} {gs : List (Key × V)}, RK K H kvs gs → RK K H (kvs ++ [(k, d)]) (gs ++ [(k, v)])
  | [], [], _ => .mk_cons rfl h .nil
  | [], _ :: _, r => by have := r.length; cases this
  | _ :: _, [], r => by have := r.length; cases this
  | p :: kvs, q :: gs, r => let ⟨e, h', r'⟩ := r.cons; .mk_cons e h' (RK.app k h r')
theorem RK.repl {d : D} {v : V} (k : Key) (h : RD K H d v) : ∀ {kvs : List (Key × D)} {gs : List (Key × V)}, RK K H kvs gs → RK K H (kvs.map fun p => if p.1 = k then (p.1, d) else p) (gs.map fun p => if p.1 = k then (p.1, v) else p)
  | [], [], _ => .nil
  | [], _ :: _, r => by have := r.length; cases this
  | _ :: _, [], r => by have := r.length; cases this
  | p :: kvs, q :: gs, r => by
    obtain ⟨e, h', r'⟩ := r.cons
    rw [List.map_cons, List.map_cons]
    by_cases hk : p.1 = k
    · rw [if_pos hk, if_pos (e.symm.trans hk)]
      exact .mk_cons e h (RK.repl k h r')
    · rw [if_neg hk, if_neg fun z => hk (e.trans z)]
      exact .mk_cons e h' (RK.repl k h r')
theorem RK.put {d : D} {v : V} {kvs : List (Key × D)} {gs : List (Key × V)} (k : Key) (h : RD K H d v) (r : RK K H kvs gs) : RK K H (putD kvs k d) (putK gs k v) := by
  unfold putD putK
  rw [← r.any k]
  split
  · exact r.repl k h
  · exact r.app k h
theorem Keep.dk {p : Addr} {gs : List (Key × V)} {o : HO} (h : H p = some (.dK gs)) : Keep K H (upd H p o) := by
  refine ⟨fun a xs q => ?_, fun a xs q => ?_⟩
  · rcases q with (q | ⟨o', q⟩) | q
    · exact .inl (.inl ((upd_ne (ne_of q h (by simp))).trans q))
    · exact .inl (.inr ⟨o', (upd_ne (ne_of q h (by simp))).trans q⟩)
    · exact .inr q
  · rcases q with ⟨o', q⟩ | q
    · exact .inl ⟨o', (upd_ne (ne_of q h (by simp))).trans q⟩
    · exact .inr q
theorem RM.dict {m : M} {a : Addr} {kvs : List (Key × D)} (r : RM K H m) (h : m a = some (.dct kvs)) : ∃ gs, H a = some (.dK gs) ∧ RK K H kvs gs := by
  obtain ⟨gs, e, v, k⟩ := r a _ h
  exact ⟨gs, e, v, k⟩
theorem RM.newDct {m : M} (r : RM K H m) {p : Addr} {gs : List (Key × V)} {kvs : List (Key × D)} (h : H p = none) (q : RK K H kvs gs) : RM K (upd H p (.dK gs)) (put m p (.dct kvs)) := fun a u e => by
  by_cases n : a = p
  · subst n
    rw [put_same] at e
    cases e
    exact ⟨gs, upd_same, (q.mono (Keep.new h)).v, q.k⟩
  · rw [put_ne n] at e
    exact (r a u e).stay (Keep.new h) (upd_ne n)
theorem RM.setDct {m : M} (r : RM K H m) {p : Addr} {gs gs' : List (Key × V)} {kvs : List (Key × D)} (h : H p = some (.dK gs)) (q : RK K H kvs gs') : RM K (upd H p (.dK gs')) (put m p (.dct kvs)) := fun a u e => by
  by_cases n : a = p
  · subst n
    rw [put_same] at e
    cases e
    exact ⟨gs', upd_same, (q.mono (Keep.dk h)).v, q.k⟩
  · rw [put_ne n] at e
    exact (r a u e).stay (Keep.dk h) (upd_ne n)
end
/-- t[u] of a dict -/
def dDGet (t u : TDE) : TDE := fun sd m P => t sd m fun x m1 => u sd m1 fun y m2 => ∃ a kvs k d, x = .ref a ∧ y = kD k ∧ m2 a = some (.dct kvs) ∧ valD kvs k = some d ∧ P d m2
/-- t in u, t not in u -/
def dDIn (t u : TDE) : TDE := fun sd m P => t sd m fun y m1 => u sd m1 fun x m2 => ∃ a kvs k, x = .ref a ∧ y = kD k ∧ m2 a = some (.dct kvs) ∧ P (.bl (valD kvs k).isSome) m2
def dDNotIn (t u : TDE) : TDE := fun sd m P => t sd m fun y m1 => u sd m1 fun x m2 => ∃ a kvs k, x = .ref a ∧ y = kD k ∧ m2 a = some (.dct kvs) ∧ P (.bl (!(valD kvs k).isSome)) m2
/-- t[u] = v -/
def dDPut (t u v : TDE) : TDS := fun D sd m => v sd m fun z m1 => t sd m1 fun x m2 => u sd m2 fun y m3 => ∃ a kvs k, x = .ref a ∧ y = kD k ∧ m3 a = some (.dct kvs) ∧ kvs.length < sizeLine ∧ D.nx sd (put m3 a (.dct (putD kvs k z)))
/-- {} -/
def dDNew : TDE := fun _ m P => ∀ p, m p = none → P (.ref p) (put m p (.dct []))
section
variable {X : Cx} {H0 : Hp} {a b c : Expr} {pos pos' : Pos} {t u v : TDE}
theorem qe_dget (hu : X.A.units + 64 < cLine) (ha : PE X a (lE X.K H0 t)) (hb : PE X b (lE X.K H0 u)) (hs : NoSl b) : PE X (.Subscript a b pos) (lE X.K H0 (dDGet t u)) := peL (pe_dget (by omega) ha hb hs) fun σ H Q h => by
  obtain ⟨sd, m, P, aa, p, q⟩ := h
  refine ⟨sd, m, _, aa, p, fun x m1 w1 H1 k1 r1 d1 p1 => ⟨sd, m1, _, aa.to k1 r1, p1, fun y m2 w2 H2 k2 r2 d2 p2 => ?_⟩⟩
  obtain ⟨ad, kvs, k, d, rfl, rfl, hm, hv, p3⟩ := p2
  obtain rfl := d1.ref_
  obtain rfl := d2.key_
  obtain ⟨gs, e, rk⟩ := r2.dict hm
  have z := rk.val k
  rw [hv] at z
  obtain ⟨w, e1, rd⟩ := z
  exact ⟨ad, w, rfl, by have g := DGet.k (k := k) e; rw [e1] at g; exact g, q _ m2 _ H2 (k1.trans k2) r2 rd p3⟩
theorem isSome_eq {K : PySem.W.Frag} {H : Hp} {kvs : List (Key × D)} {gs : List (Key × V)} (r : RK K H kvs gs) (k : Key) : (valV gs k).isSome = (valD kvs k).isSome := by
  have z := r.val k
  cases e : valD kvs k with
  | none => rw [e] at z; rw [z]; rfl
  | some d => rw [e] at z; obtain ⟨v, e1, _⟩ := z; rw [e1]; rfl
theorem qt_din (hu : X.A.units + 64 < cLine) (ha : PE X a (lE X.K H0 t)) (hb : PE X b (lE X.K H0 u)) (hm : behindInMarks .In b = false) : PE X (.Compare a [.In] [b] pos) (lE X.K H0 (dDIn t u)) := peL (pe_cmp (pc_din (by omega) ha hb) hm) fun σ H Q h => by
  obtain ⟨sd, m, P, aa, p, q⟩ := h
  refine ⟨sd, m, _, aa, p, fun y m1 w1 H1 k1 r1 d1 p1 => ⟨sd, m1, _, aa.to k1 r1, p1, fun x m2 w2 H2 k2 r2 d2 p2 => ?_⟩⟩
  obtain ⟨ad, kvs, k, rfl, rfl, hmm, p3⟩ := p2
  obtain rfl := d2.ref_
  obtain rfl := d1.key_
  obtain ⟨gs, e, rk⟩ := r2.dict hmm
  exact ⟨ad, _, rfl, DGet.k e, by rw [isSome_eq rk k]; exact q _ m2 _ H2 (k1.trans k2) r2 (.bl _) p3⟩
theorem qt_dnotin (hu : X.A.units + 64 < cLine) (ha : PE X a (lE X.K H0 t)) (hb : PE X b (lE X.K H0 u)) (hm : behindInMarks .NotIn b = false) : PE X (.Compare a [.NotIn] [b] pos) (lE X.K H0 (dDNotIn t u)) := peL (pe_cmp (pc_dnotin (by omega) ha hb) hm) fun σ H Q h => by
  obtain ⟨sd, m, P, aa, p, q⟩ := h
  refine ⟨sd, m, _, aa, p, fun y m1 w1 H1 k1 r1 d1 p1 => ⟨sd, m1, _, aa.to k1 r1, p1, fun x m2 w2 H2 k2 r2 d2 p2 => ?_⟩⟩
  obtain ⟨ad, kvs, k, rfl, rfl, hmm, p3⟩ := p2
  obtain rfl := d2.ref_
  obtain rfl := d1.key_
  obtain ⟨gs, e, rk⟩ := r2.dict hmm
  exact ⟨ad, _, rfl, DGet.k e, by rw [isSome_eq rk k]; exact q _ m2 _ H2 (k1.trans k2) r2 (.bl _) p3⟩
theorem qe_dnew : PE X (.Dict [] [] pos) (lE X.K H0 dDNew) := peL pe_dnewK fun σ H Q h => by
  obtain ⟨sd, m, P, aa, p, q⟩ := h
  exact fun z hz => q _ _ _ _ (Keep.new hz) (aa.m.newDct hz .nil) (.ref z) (p z (aa.m.free hz))
theorem qs_dput (hu : X.A.units + 64 < cLine) (ha : PE X a (lE X.K H0 t)) (hb : PE X b (lE X.K H0 u)) (hc : PE X c (lE X.K H0 v)) (hs : swapsWith c (some (.Subscript a b pos')) pos.line X.env = pure false) :
    PS X (.Assign [.Subscript a b pos'] c pos) (lS X.K H0 (dDPut t u v)) := psL (ps_dput (by omega) ha hb hc hs) fun D σ H h => by
  obtain ⟨sd, m, DD, aa, p, q⟩ := h
  refine ⟨sd, m, _, aa, p, fun z m1 w1 H1 k1 r1 d1 p1 => ⟨sd, m1, _, aa.to k1 r1, p1, fun x m2 w2 H2 k2 r2 d2 p2 => ⟨sd, m2, _, (aa.to k1 r1).to k2 r2, p2, fun y m3 w3 H3 k3 r3 d3 p3 => ?_⟩⟩⟩
  obtain ⟨ad, kvs, k, rfl, rfl, hm, hl, p4⟩ := p3
  obtain rfl := d2.ref_
  obtain rfl := d3.key_
  obtain ⟨gs, e, rk⟩ := r3.dict hm
  have K3 := (k1.trans k2).trans k3
  have rz := d1.mono (k2.trans k3)
  refine ⟨ad, _, rfl, DPut.k e (by rw [← rk.length]; exact hl), ?_⟩
  have KK : Keep X.K H (upd H3 ad (.dK (putK gs k w1))) := K3.trans (Keep.dk e)
  exact q.1 _ _ _ _ KK (aa.s.mono KK) (r3.setDct e (rk.put k rz)) p4
end
end Q4

set_option Elab.async false
set_option linter.all false
set_option maxRecDepth 100000
namespace Q4
open PySem L2
open PyProof.Rows (envOfC)
/-! ### statements that are never reached -/
def dDead : TDS := fun _ _ _ => False
theorem qs_dead {X : Cx} {H0 : Hp} {st : Stmt} : PS X st (lS X.K H0 dDead) := ⟨fun pins s σ H D I h => by
  obtain ⟨sd, m, DD, a, p, _⟩ := h
  exact p.elim⟩
/-! ### defs whose last parameters are given by name -/
structure FunAtK (K : PySem.W.Frag) (mg : Str → Option Value) (x : Str) (st : Stmt) (ps ks : List Str) : Prop where
  ex : ∃ f fd, Fun K x x st f fd ∧ mg x = some (.ref f) ∧ ∀ us ws : List Value, us.length = ps.length → ws.length = ks.length → bindArgs fd ⟨us, ks.zip ws⟩ = pure ((ps ++ ks).zip (us ++ ws))
structure CalleeK (P : Program) (w : World) (K : PySem.W.Frag) (mg : Str → Option Value) (k : Nat) (x : Str) (ps ks : List Str) (d : DSp) : Prop where
  ex : ∃ f fd, mg x = some (.ref f) ∧ PySem.W.keepIn K (.ref f) = true ∧ (∀ us ws : List Value, us.length = ps.length → ws.length = ks.length → bindArgs fd ⟨us, ks.zip ws⟩ = pure ((ps ++ ks).zip (us ++ ws))) ∧ ∀ base, FnOk P w K mg base CX0 k f fd (ps ++ ks) (lSp K d)
section
variable {P : Program} {w : World} {K : PySem.W.Frag} {mg : Str → Option Value} {x : Str} {st : Stmt} {ps ks N : List Str} {d d' : DSp} {k j : Nat}
theorem CalleeK.mono (C : CalleeK P w K mg j x ps ks d) (h : j ≤ k) : CalleeK P w K mg k x ps ks d := by
  obtain ⟨f, fd, a, b, c, e⟩ := C.ex
  exact ⟨f, fd, a, b, c, fun base => (e base).mono h⟩
theorem FunAtK.callee (F : FunAtK K mg x st ps ks) (S : FnScope N (ps ++ ks) (defScope st)) (len : ∀ ds m P EX, d ds m P EX → ds.length = (ps ++ ks).length)
    (t : TDS) (hread : ∀ ds m P EX, d ds m P EX → t { nx := fun _ m' => Ret P .non m', rt := Ret P } (dstart N ds) m)
    (hbody : ∀ (base : Heap) (f : Addr) (cdv : Value) (A : Around) (outer : List Env) (s : Shared) (H : Hp) (E : XK), Room k (A.deeper (envOfC x (defScope st) s.heap.objs.size f cdv)) → PSs (cxOf CX0 P w K mg base N x (defScope st) f cdv A outer s H E).nox (defBody st) (lS K H t)) :
    CalleeK P w K mg (k + 1) x ps ks d := by
  obtain ⟨f, fd, F1, a, c⟩ := F.ex
  exact ⟨f, fd, a, F1.kp, c, fun base => Fun.okD F1 S len t hread (hbody base f)⟩
theorem FunAtK.of {h : Heap} {f : Addr} {oc kV doc pm cdv ct : Value} {od an : Option Addr} {osl : Array (Option Value)} (X : K.In h) (G : h.Ns mainGlobals mg)
    (a1 : PySem.W.nsIn K mainGlobals x = some (some (.ref f))) (l1 : K.lookup f = some ⟨oc, od, .func (PySem.W.fnOf x x (defArgs st) (defBody st) (defScope st) .none kV doc pm an cdv ct), osl⟩) (c1 : PySem.W.codeIn K cdv x = true) (k1 : PySem.W.keepIn K (.ref f) = true)
    (hb : ∀ (kV doc pm : Value) (an : Option Addr) (cdv ct : Value) (us ws : List Value), us.length = ps.length → ws.length = ks.length → bindArgs (PySem.W.fnOf x x (defArgs st) (defBody st) (defScope st) .none kV doc pm an cdv ct) ⟨us, ks.zip ws⟩ = pure ((ps ++ ks).zip (us ++ ws))) : FunAtK K mg x st ps ks :=
  ⟨f, _, fun_mk l1 c1 k1, PySem.W.mg_of X G a1, hb kV doc pm an cdv ct⟩
end
section
variable {X : Cx} {H0 : Hp}
theorem pkL {kws : List Keyword} {t t' : TA} (h : PK X kws t) (l : ∀ σ H Q, t' σ H Q → t σ H Q) : PK X kws t' := ⟨fun pos pins s σ H Q I q => h.run pos pins s σ H Q I (l σ H Q q)⟩
theorem qk_nil : PK X [] (lA X.K H0 dNil) := pkL pk_nil fun σ H Q h => by
  obtain ⟨sd, m, P, a, p, q⟩ := h
  exact q [] m [] H (Keep.refl _) a.m .nil p
theorem qk_cons {nm : Option Str} {e : Expr} {kpos : Pos} {kws : List Keyword} {te : TDE} {t : TDA} (ha : PE X e (lE X.K H0 te)) (hr : PK X kws (lA X.K H0 t)) : PK X (⟨nm, e, kpos⟩ :: kws) (lA X.K H0 (dCons te t)) :=
  pkL (pk_cons ha hr) fun _ _ _ => l_cons
def dCallK (d : DSp) (a b : Nat) (t tk : TDA) : TDE := fun sd m P => t sd m fun xs m1 => tk sd m1 fun ys m2 => xs.length = a ∧ ys.length = b ∧ d (xs ++ ys) m2 P noX
def both {α : Type} (a b : Nat) (us ws : List α) : List α := if us.length = a ∧ ws.length = b then us ++ ws else []
theorem qe_fnK {k : Nat} {ps ks : List Str} {d : DSp} {x : Str} {p pos : Pos} {e : Expr} {es : List Expr} {kws : List Keyword} {t tk : TDA} (C : CalleeK X.prog X.w X.K X.mg k x ps ks d) (hr : Room k X.A) (hg : Gl X x)
    (ha : PA X (e :: es) (lA X.K H0 t)) (hkw : PK X kws (lA X.K H0 tk)) (hne : 0 < (ps ++ ks).length) {na nb : Nat} (hna : ps.length = na) (hnb : ks.length = nb) (hall : (backToKw pos (keywordEach kws X.env)).all (·.1.isSome) = true := by rfl) (hks : (backToKw pos (keywordEach kws X.env)).filterMap (·.1) = ks := by rfl)
    (hdb : (x == ("__debug__" : Str)) = false := by decide) (he : starEach (e :: es) X.env = (false, eval e X.env) :: starEach es X.env := by rfl)
    (hpl : ((backTo pos (starEach (e :: es) X.env)).any (·.1) || (backToKw pos (keywordEach kws X.env)).any (·.1.isNone)) = false := by rfl) :
    PE X (.Call (.Name x p) (e :: es) kws pos) (lE X.K H0 (dCallK d na nb t tk)) := by
  subst hna hnb
  obtain ⟨f, fd, a, b, c, F⟩ := C.ex
  have kb : KBinds X.K fd (ps ++ ks) ks (both ps.length ks.length) (both ps.length ks.length) := by
    refine ⟨fun s us ws _ hl => ?_, fun {vs us zs ws} r rz => ?_⟩
    · unfold both at hl ⊢
      split at hl
      · rename_i z
        rw [if_pos z]
        exact .of_eq (c us ws z.1 z.2)
      · rw [List.length_nil] at hl
        omega
    · unfold both
      rw [← r.length, ← rz.length]
      split
      · exact r.append rz
      · exact .nil
  refine peL (pe_callK (E := E0) (F X.base) hr hg a b kb pass0 ha hkw hall hks hdb he hpl) fun σ H Q h => ?_
  obtain ⟨sd, m, P, aa, p, q⟩ := h
  refine ⟨sd, m, _, aa, p, fun xs m1 us H1 k1 r1 d1 p1 => ⟨sd, m1, _, aa.to k1 r1, p1, fun ys m2 ws H2 k2 r2 d2 p2 => ?_⟩⟩
  obtain ⟨l1, l2, p3⟩ := p2
  unfold both
  rw [if_pos ⟨by rw [← d1.length]; exact l1, by rw [← d2.length]; exact l2⟩]
  exact ⟨xs ++ ys, m2, P, noX, (d1.mono k2).append d2, r2, p3, fun d m' w H' k => q d m' w H' ((k1.trans k2).trans k), wantsX0⟩
end
end Q4

set_option Elab.async false
set_option linter.all false
set_option maxRecDepth 100000
namespace Q4
open PySem L2
/-! ### in, not in for dicts; is None -/
def rInK : R2D := fun y x m P => ∃ a kvs k, x = .ref a ∧ y = kD k ∧ m a = some (.dct kvs) ∧ P (.bl (valD kvs k).isSome) m
def rNotInK : R2D := fun y x m P => ∃ a kvs k, x = .ref a ∧ y = kD k ∧ m a = some (.dct kvs) ∧ P (.bl (!(valD kvs k).isSome)) m
section
variable {X : Cx} {H0 : Hp}
theorem od_inK (hu : X.A.units + 64 < cLine) : OpD X (compareOp .In) rInK := by
  refine ⟨fun y x H Q => ∃ a o, x = .ref a ∧ DGet H a y o ∧ Q (.bl o.isSome) H, ?_, fun H m x y u v P Q rm rx ry p q => ?_⟩
  · intro pins s σ H y x v u Q I r1 r2 h
    obtain ⟨a, o, rfl, g, q⟩ := h
    obtain rfl : u = Value.ref a := r2
    exact d_in (by omega) I g r1 fun s' I' => ⟨.bl o.isSome, H, I', rfl, q⟩
  · obtain ⟨a, kvs, k, rfl, rfl, hm, p⟩ := p
    obtain rfl := ry.ref_
    obtain rfl := rx.key_
    obtain ⟨gs, e, rk⟩ := rm.dict hm
    exact ⟨a, _, rfl, DGet.k e, by rw [isSome_eq rk k]; exact q _ m _ H (Keep.refl _) rm (.bl _) p⟩
theorem od_notInK (hu : X.A.units + 64 < cLine) : OpD X (compareOp .NotIn) rNotInK := by
  refine ⟨fun y x H Q => ∃ a o, x = .ref a ∧ DGet H a y o ∧ Q (.bl (!o.isSome)) H, ?_, fun H m x y u v P Q rm rx ry p q => ?_⟩
  · intro pins s σ H y x v u Q I r1 r2 h
    obtain ⟨a, o, rfl, g, q⟩ := h
    obtain rfl : u = Value.ref a := r2
    exact d_notIn (by omega) I g r1 fun s' I' => ⟨.bl (!o.isSome), H, I', rfl, q⟩
  · obtain ⟨a, kvs, k, rfl, rfl, hm, p⟩ := p
    obtain rfl := ry.ref_
    obtain rfl := rx.key_
    obtain ⟨gs, e, rk⟩ := rm.dict hm
    exact ⟨a, _, rfl, DGet.k e, by rw [isSome_eq rk k]; exact q _ m _ H (Keep.refl _) rm (.bl _) p⟩
def nonB : D → Bool
  | .non => true
  | _ => false
theorem RD.nonB {K : PySem.W.Frag} {H : Hp} {d : D} {v : V} (r : RD K H d v) : decide (v = .non) = Q4.nonB d := by
  cases r <;> simp [Q4.nonB]
def dIsN (t : TDE) : TDE := fun sd m P => t sd m fun x m1 => P (.bl (nonB x)) m1
def dNotN (t : TDE) : TDE := fun sd m P => t sd m fun x m1 => P (.bl (!nonB x)) m1
theorem l_isN {K : PySem.W.Frag} {t : TDE} {σ : St} {H : Hp} {Q : VK} (h : lE K H0 (dIsN t) σ H Q) : tIsN (lE K H0 t) σ H Q := by
  obtain ⟨sd, m, P, a, p, q⟩ := h
  exact ⟨sd, m, _, a, p, fun d m' v H' k r rd p' => by show Q (.bl (decide (v = .non))) H'; rw [rd.nonB]; exact q _ m' _ H' k r (.bl _) p'⟩
theorem l_notN {K : PySem.W.Frag} {t : TDE} {σ : St} {H : Hp} {Q : VK} (h : lE K H0 (dNotN t) σ H Q) : tNotN (lE K H0 t) σ H Q := by
  obtain ⟨sd, m, P, a, p, q⟩ := h
  exact ⟨sd, m, _, a, p, fun d m' v H' k r rd p' => by show Q (.bl (!decide (v = .non))) H'; rw [rd.nonB]; exact q _ m' _ H' k r (.bl _) p'⟩
theorem l_BN {K : PySem.W.Frag} {t : TDE} {u : TE} {σ : St} {H : Hp} {Q : Bool → Hp → Prop} (l : ∀ σ H Q, lE K H0 t σ H Q → u σ H Q) (h : lT K H0 (dB t) σ H Q) : tB u σ H Q := by
  obtain ⟨sd, m, P, a, p, q⟩ := h
  refine l _ _ _ ⟨sd, m, _, a, p, fun d m' v H' k r rd p' => ?_⟩
  cases d with
  | bl b => cases rd.bl_; exact ⟨b, rfl, q b m' H' k r p'⟩
  | _ => exact p'.elim
theorem qe_isN {a : Expr} {j} {pos pos' : Pos} {t : TDE} (ha : PE X a (lE X.K H0 t)) : PE X (.Compare a [.Is] [.Constant .none j pos'] pos) (lE X.K H0 (dIsN t)) := peL (pe_cmp (pc_isN ha)) fun _ _ _ => l_isN
theorem qe_notN {a : Expr} {j} {pos pos' : Pos} {t : TDE} (ha : PE X a (lE X.K H0 t)) : PE X (.Compare a [.IsNot] [.Constant .none j pos'] pos) (lE X.K H0 (dNotN t)) := peL (pe_cmp (pc_notN ha)) fun _ _ _ => l_notN
theorem qt_isN {a : Expr} {j} {pos pos' : Pos} {t : TDE} (ha : PE X a (lE X.K H0 t)) : PT X (.Compare a [.Is] [.Constant .none j pos'] pos) (lT X.K H0 (dB (dIsN t))) := ptL (pt_cmp (pc_isN ha)) fun _ _ _ => l_BN fun _ _ _ => l_isN
theorem qt_notN {a : Expr} {j} {pos pos' : Pos} {t : TDE} (ha : PE X a (lE X.K H0 t)) : PT X (.Compare a [.IsNot] [.Constant .none j pos'] pos) (lT X.K H0 (dB (dNotN t))) := ptL (pt_cmp (pc_notN ha)) fun _ _ _ => l_BN fun _ _ _ => l_notN
end
end Q4

set_option Elab.async false
set_option linter.all false
set_option maxRecDepth 100000
namespace Q4
open PySem L2 LiI
/-! ### a dict display with one pair -/
def dDisp1 (t u : TDE) : TDE := fun sd m P => ∀ p, m p = none → t sd (put m p (.dct [])) fun y m1 => u sd m1 fun z m2 => ∃ k, y = kD k ∧ m2 p = some (.dct []) ∧ P (.ref p) (put m2 p (.dct [(k, z)]))
section
variable {X : Cx} {H0 : Hp}
theorem l_disp1 {K : PySem.W.Frag} {t u : TDE} {σ : St} {H : Hp} {Q : VK} (h : lE K H0 (dDisp1 t u) σ H Q) : tDisp [(lE K H0 t, lE K H0 u)] σ H Q := by
  obtain ⟨sd, m, P, a, p, q⟩ := h
  intro z hz
  have kz : Keep K H (upd H z (.dK [])) := Keep.new hz
  refine ⟨sd, put m z (.dct []), _, ⟨a.s.mono kz, a.m.newDct hz .nil, a.k.trans kz⟩, p z (a.m.free hz), fun y m1 w1 H1 k1 r1 d1 p1 => ?_⟩
  refine ⟨sd, m1, _, ⟨(a.s.mono kz).mono k1, r1, (a.k.trans kz).trans k1⟩, p1, fun x m2 w2 H2 k2 r2 d2 p2 => ?_⟩
  obtain ⟨k, rfl, hm, p3⟩ := p2
  obtain rfl := d1.key_
  obtain ⟨gs, e, rk⟩ := r2.dict hm
  have : gs = [] := List.eq_nil_of_length_eq_zero rk.length.symm
  subst this
  refine ⟨e, [(k, w2)], rfl, by show 1 ≤ 15; decide, ?_⟩
  have e1 : mergeK [] [(k, w2)] = [(k, w2)] := rfl
  rw [e1]
  have KK := (kz.trans k1).trans k2
  exact q _ _ _ _ (KK.trans (Keep.dk e)) (r2.setDct e (.mk_cons rfl d2 .nil)) (.ref z) p3
theorem qe_disp1 {a b : Expr} {pos : Pos} {t u : TDE} (ha : PE X a (lE X.K H0 t)) (hb : PE X b (lE X.K H0 u)) : PE X (.Dict [some a] [b] pos) (lE X.K H0 (dDisp1 t u)) :=
  peL (pe_disp (pps_cons ha hb pps_nil) rfl rfl (by simp) (by show 1 ≤ 15; decide)) fun _ _ _ => l_disp1
/-- list(t.items()) -/
def dItems (t : TDE) : TDE := fun sd m P => t sd m fun x m1 => ∃ a kvs, x = .ref a ∧ m1 a = some (.dct kvs) ∧ ∀ p, m1 p = none → P (.ref p) (put m1 p (.lst (kvs.map fun q => .tup [kD q.1, q.2])))
theorem Keep.grow {K : PySem.W.Frag} {H H' : Hp} (h : ∀ b o, H b = some o → H' b = some o) : Keep K H H' := by
  refine ⟨fun a xs q => ?_, fun a xs q => ?_⟩
  · rcases q with (q | ⟨o', q⟩) | q
    · exact .inl (.inl (h _ _ q))
    · exact .inl (.inr ⟨o', h _ _ q⟩)
    · exact .inr q
  · rcases q with ⟨o', q⟩ | q
    · exact .inl ⟨o', h _ _ q⟩
    · exact .inr q
theorem RM.grow {K : PySem.W.Frag} {H H' : Hp} {m : M} (r : RM K H m) (h : ∀ b o, H b = some o → H' b = some o) : RM K H' m := fun a o e => by
  have q := r a o e
  have k : Keep K H H' := Keep.grow h
  cases o with
  | lst xs => obtain ⟨vs, e1, d⟩ := q; exact ⟨vs, h _ _ e1, d.mono k⟩
  | ins C dx fs => obtain ⟨vs, e1, d⟩ := q; exact ⟨vs, h _ _ e1, d.1.mono k, d.2⟩
  | dct kvs => obtain ⟨vs, e1, d⟩ := q; exact ⟨vs, h _ _ e1, d.1.mono k, d.2⟩
theorem items_rds {K : PySem.W.Frag} {H H' : Hp} (k : Keep K H H') : ∀ {kvs : List (Key × D)} {gs : List (Key × V)} {ts : List Addr}, RK K H kvs gs → Paired (fun (t : Addr) (q : Key × V) => H' t = some (.tup [kV q.1, q.2])) ts gs →
    RDs K H' (kvs.map fun q => .tup [kD q.1, q.2]) (ts.map V.ref)
  | [], [], _, _, .nil => .nil
  | [], _ :: _, _, r, _ => by have := r.length; cases this
  | _ :: _, [], _, r, _ => by have := r.length; cases this
  | p :: kvs, q :: gs, _, r, .cons h t => by
    obtain ⟨e, d, r'⟩ := r.cons
    refine .cons (.tup (.inl (.inl h)) (.cons ?_ (.cons (d.mono k) .nil))) (items_rds k r' t)
    rw [← e]
    cases p.1 with
    | inl i => exact .int i
    | inr z => exact .str z
theorem l_items {K : PySem.W.Frag} {t : TDE} {σ : St} {H : Hp} {Q : VK} (h : lE K H0 (dItems t) σ H Q) : tListItems (lE K H0 t) σ H Q := by
  obtain ⟨sd, m, P, a, p, q⟩ := h
  refine ⟨sd, m, _, a, p, fun x m1 u H1 k1 r1 d1 p1 => ?_⟩
  obtain ⟨ad, kvs, rfl, hm, p2⟩ := p1
  obtain rfl := d1.ref_
  obtain ⟨gs, e, rk⟩ := r1.dict hm
  refine ⟨ad, gs, rfl, e, fun H2 b ts hk hb _ _ hl hp => ?_⟩
  have k2 : Keep K H1 H2 := Keep.grow hk
  refine q _ _ _ _ (k1.trans k2) ?_ (.ref b) (p2 b (r1.free hb))
  intro c o eo
  by_cases n : c = b
  · subst n
    rw [put_same] at eo
    cases eo
    exact ⟨_, hl, items_rds k2 rk hp⟩
  · rw [put_ne n] at eo
    exact r1.grow hk c o eo
theorem qe_items {a : Expr} {p apos cpos pos : Pos} {t : TDE} (hc : X.calm = true) (ha : PE X a (lE X.K H0 t)) (hg : Gl X "list") (hm : X.mg "list" = none) (hv : bootBuiltins "list" = some (.type "list")) (hbase : attributeBase a "items" X.env (eval a X.env) = eval a X.env := by rfl) (hline : (apos.endLine == cpos.line) = true := by rfl)
    (hs : starEach [.Call (.Attribute a "items" apos) [] [] cpos] X.env = (false, eval (.Call (.Attribute a "items" apos) [] [] cpos) X.env) :: starEach [] X.env := by rfl) :
    PE X (.Call (.Name "list" p) [.Call (.Attribute a "items" apos) [] [] cpos] [] pos) (lE X.K H0 (dItems t)) := peL (pe_listItems hc ha hg hm hv hbase hline hs) fun _ _ _ => l_items
/-- list(t) of a dict: its keys -/
def rListK : RnD := fun xs m P => ∃ a kvs, xs = [.ref a] ∧ m a = some (.dct kvs) ∧ ∀ p, m p = none → P (.ref p) (put m p (.lst (kvs.map fun q => kD q.1)))
theorem keys_rds {K : PySem.W.Frag} {H : Hp} : ∀ {kvs : List (Key × D)} {gs : List (Key × V)}, RK K H kvs gs → RDs K H (kvs.map fun q => kD q.1) (gs.map fun q => kV q.1)
  | [], [], _ => .nil
  | [], _ :: _, r => by have := r.length; cases this
  | _ :: _, [], r => by have := r.length; cases this
  | p :: kvs, q :: gs, r => by
    obtain ⟨e, d, r'⟩ := r.cons
    refine .cons ?_ (keys_rds r')
    show RD K H (kD p.1) (kV q.1)
    rw [← e]
    cases p.1 with
    | inl i => exact .int i
    | inr z => exact .str z
theorem cd_listK (hc : X.calm = true) : CallD X (.type "list") rListK := by
  refine ⟨_, call_listD hc, fun H m xs us P Q rm rx p q => ?_⟩
  obtain ⟨a, kvs, rfl, hm, p⟩ := p
  obtain ⟨u, rfl, r⟩ := rx.one_
  obtain rfl := r.ref_
  obtain ⟨gs, e, rk⟩ := rm.dict hm
  exact ⟨a, gs, rfl, .inl e, fun z hz => q _ _ _ _ (Keep.new hz) (rm.newPut hz (keys_rds rk)) (.ref z) (p z (rm.free hz))⟩
end
end Q4

set_option Elab.async false
set_option linter.all false
set_option maxRecDepth 100000
namespace Q4
open PySem L2 PySem.Spec PyProof.Rows
/-! ### == of lists -/
def okL (xs : List D) : Prop := SeqAt.shaped (.list (D.pys xs)) = true
def eqL (xs ys : List D) : Bool := PyData.eqv (.list (D.pys xs)) (.list (D.pys ys))
def rEqL : R2D := fun x y m P => ∃ xs ys, isL m x xs ∧ isL m y ys ∧ okL xs ∧ okL ys ∧ P (.bl (eqL xs ys)) m
section
variable {X : Cx}
theorem od_eqL (hu : X.A.units + 64 < cLine) : OpD X (compareOp .Eq) rEqL := by
  refine ⟨_, op_eqD hu, fun H m x y u v P Q rm rx ry p q => ?_⟩
  obtain ⟨xs, ys, h1, h2, o1, o2, p⟩ := p
  obtain ⟨a, vs, rfl, s1, d1⟩ := rm.list rx h1
  obtain ⟨b, ws, rfl, s2, d2⟩ := rm.list ry h2
  have c1 := SeqAt.canLay_of_shaped o1
  have c2 := SeqAt.canLay_of_shaped o2
  exact ⟨_, _, .lst s1 (dps_of d1 (by simpa [PyData.canLay0] using c1)), .lst s2 (dps_of d2 (by simpa [PyData.canLay0] using c2)), o1, o2, q _ m _ H (Keep.refl _) rm (.bl _) p⟩
end
def rNeL : R2D := fun x y m P => ∃ xs ys, isL m x xs ∧ isL m y ys ∧ okL xs ∧ okL ys ∧ P (.bl (!eqL xs ys)) m
section
variable {X : Cx}
theorem od_neL (hu : X.A.units + 64 < cLine) : OpD X (compareOp .NotEq) rNeL := by
  refine ⟨_, op_neD hu, fun H m x y u v P Q rm rx ry p q => ?_⟩
  obtain ⟨xs, ys, h1, h2, o1, o2, p⟩ := p
  obtain ⟨a, vs, rfl, s1, d1⟩ := rm.list rx h1
  obtain ⟨b, ws, rfl, s2, d2⟩ := rm.list ry h2
  have c1 := SeqAt.canLay_of_shaped o1
  have c2 := SeqAt.canLay_of_shaped o2
  exact ⟨_, _, .lst s1 (dps_of d1 (by simpa [PyData.canLay0] using c1)), .lst s2 (dps_of d2 (by simpa [PyData.canLay0] using c2)), o1, o2, q _ m _ H (Keep.refl _) rm (.bl _) p⟩
end
/-- data that can be laid, at most n deep -/
structure ShD (n : Nat) (d : D) : Prop where
  l : d.py.canLay0 = true
  d : d.py.depth ≤ n
theorem ShD.mono {n k : Nat} {d : D} (h : ShD n d) (e : n ≤ k) : ShD k d := ⟨h.l, Nat.le_trans h.d e⟩
theorem ShD.all {n : Nat} : ∀ {xs : List D}, (∀ x ∈ xs, ShD n x) → PyData.canLayAll0 (D.pys xs) = true ∧ PyData.depthAll (D.pys xs) ≤ n
  | [], _ => ⟨rfl, Nat.zero_le _⟩
  | x :: xs, h => by
    have h1 := h x List.mem_cons_self
    have h2 := ShD.all (xs := xs) fun y hy => h y (List.mem_cons_of_mem _ hy)
    have d1 := h1.d
    refine ⟨?_, ?_⟩
    · show (x.py.canLay0 && PyData.canLayAll0 (D.pys xs)) = true
      rw [h1.l, h2.1]; rfl
    · show PyData.depthAll (x.py :: D.pys xs) ≤ n
      rw [PyData.depthAll]
      omega
theorem ShD.tup {n : Nat} {xs : List D} (h : ∀ x ∈ xs, ShD n x) : ShD (n + 1) (.tup xs) := by
  have h2 := ShD.all h
  refine ⟨?_, ?_⟩
  · show PyData.canLay0 (.tuple (D.pys xs)) = true
    rw [PyData.canLay0]; exact h2.1
  · show PyData.depth (.tuple (D.pys xs)) ≤ n + 1
    rw [PyData.depth]; omega
theorem okL_of {n : Nat} {xs : List D} (h : ∀ x ∈ xs, ShD n x) (e : n + 1 ≤ 64) : okL xs := by
  have h2 := ShD.all h
  unfold okL SeqAt.shaped
  rw [Bool.and_eq_true]
  refine ⟨?_, decide_eq_true ?_⟩
  · show PyData.canLay0 (.list (D.pys xs)) = true
    rw [PyData.canLay0]; exact h2.1
  · show PyData.depth (.list (D.pys xs)) ≤ 64
    rw [PyData.depth]; omega
theorem okD_of {n : Nat} {d : D} (h : ShD n d) (e : n ≤ 64) : okD d := by
  unfold okD SeqAt.shaped
  rw [Bool.and_eq_true]
  exact ⟨h.l, decide_eq_true (Nat.le_trans h.d e)⟩
theorem eqL_refl {xs : List D} (h : okL xs) : eqL xs xs = true := SeqAt.eqv_refl _ (SeqAt.canLay_of_shaped h)
/-! ### x in a tuple of data -/
theorem units65 {k : Nat} {A : Around} (r : Room k A) : A.units + 65 < cLine := by have := r.un; omega
def rInT : R2D := fun x y m P => ∃ ys, y = .tup ys ∧ okD x ∧ okD (.tup ys) ∧ P (.bl (ys.any fun z => eqD z x)) m
theorem any_pys (d : PyData) : ∀ ys : List D, ((D.pys ys).any fun z => PyData.eqv z d) = ys.any fun z => PyData.eqv z.py d
  | [] => rfl
  | y :: ys => by
    show ((y.py :: D.pys ys).any fun z => PyData.eqv z d) = _
    rw [List.any_cons, List.any_cons, any_pys d ys]
section
variable {X : Cx}
theorem od_inT (hu : X.A.units + 65 < cLine) : OpD X (compareOp .In) rInT := by
  refine ⟨fun x y H Q => ∃ d ds, Dp X.K H x d ∧ Dp X.K H y (.tuple ds) ∧ SeqAt.shaped d = true ∧ SeqAt.shaped (.tuple ds) = true ∧ Q (.bl (ds.any fun z => PyData.eqv z d)) H, ?_, fun H m x y u v P Q rm rx ry p q => ?_⟩
  · intro pins s σ H x y v u Q I rx ry h
    obtain ⟨d, ds, hd, he, sd, se, q⟩ := h
    obtain ⟨as, r1⟩ := Dp.reads I d x v hd rx
    obtain ⟨bs, r2⟩ := Dp.reads I (.tuple ds) y u he ry
    exact SeqAt.in_tuple_reads r2 r1 (SeqAt.canLay_of_shaped se) (SeqAt.canLay_of_shaped sd) (room_in_shaped sd hu) ⟨.bl _, H, I, rfl, q⟩
  · obtain ⟨ys, rfl, o1, o2, p⟩ := p
    have c2 := SeqAt.canLay_of_shaped o2
    refine ⟨_, D.pys ys, dp_of rx (SeqAt.canLay_of_shaped o1), dp_of ry c2, o1, o2, ?_⟩
    rw [any_pys]
    exact q _ m _ H (Keep.refl _) rm (.bl _) p
end
end Q4

set_option Elab.async false
set_option linter.all false
set_option maxRecDepth 100000
namespace Q4
open PySem L2
open PyProof.Rows (envOfC)
/-! ### defs that raise: the wish of exceptions, by the slots -/
abbrev DX := DS → DXK
def WW (K : PySem.W.Frag) (H0 : Hp) (ex : DX) (W : WX) : Prop := ∀ sd σ c fo m' od H', Keep K H0 H' → RS K H' sd σ → RM K H' m' → XRel K H' fo od → ex sd c fo m' → W c od σ H'
/-- the wish of a def, whatever its slots are -/
abbrev outX (EX : DXK) : DX := fun _ => EX
theorem WW.out {K : PySem.W.Frag} {H : Hp} {EX : DXK} {E : XK} (h : WantsX K H EX E) : WW K H (outX EX) (fun c d _ H' => E c d H') := fun _ _ c fo m' od H' k _ r x e => h c fo m' od H' k r x e
def dCallX (ex : DX) (d : DSp) (t : TDA) : TDE := fun sd m P => t sd m fun xs m1 => d xs m1 P (ex sd)
theorem l_callX {K : PySem.W.Frag} {H0 : Hp} {ex : DX} {W : WX} {d : DSp} {t : TDA} {σ : St} {H : Hp} {Q : VK} (ww : WW K H0 ex W) (h : lE K H0 (dCallX ex d t) σ H Q) : tCallS (lSp K d) (WE W) (lA K H0 t) σ H Q := by
  obtain ⟨sd, m, P, a, p, q⟩ := h
  refine ⟨sd, m, _, a, p, fun xs m1 us H1 k1 r1 d1 p1 => ?_⟩
  exact ⟨xs, m1, P, ex sd, d1, r1, p1, fun d m' w H' k => q d m' w H' (k1.trans k), fun c fo m' od H' k r x e => ww sd σ c fo m' od H' ((a.k.trans k1).trans k) (a.s.mono (k1.trans k)) r x e⟩
structure CalleeX (P : Program) (w : World) (K : PySem.W.Frag) (mg : Str → Option Value) (k : Nat) (x : Str) (ps : List Str) (d : DSp) : Prop where
  ex : ∃ f fd, mg x = some (.ref f) ∧ PySem.W.keepIn K (.ref f) = true ∧ (∀ us : List Value, us.length = ps.length → bindArgs fd ⟨us, []⟩ = pure (ps.zip us)) ∧ ∀ base, FnOk P w K mg base (L2.CX P w) k f fd ps (lSp K d)
section
variable {P : Program} {w : World} {K : PySem.W.Frag} {mg : Str → Option Value} {x : Str} {st : Stmt} {ps N : List Str} {d d' : DSp} {k j : Nat}
theorem CalleeX.mono (C : CalleeX P w K mg j x ps d) (h : j ≤ k) : CalleeX P w K mg k x ps d := by
  obtain ⟨f, fd, a, b, c, e⟩ := C.ex
  exact ⟨f, fd, a, b, c, fun base => (e base).mono h⟩
theorem Fun.okXD {base : Heap} {qual : Str} {f : Addr} {fd : FuncData} (F : Fun K x qual st f fd) (S : FnScope N ps (defScope st)) (len : ∀ ds m P EX, d ds m P EX → ds.length = ps.length)
    (t : DX → TDS) (hread : ∀ ds m P EX, d ds m P EX → t (outX EX) { nx := fun _ m' => Ret P .non m', rt := Ret P } (dstart N ds) m)
    (hbody : ∀ (cdv : Value) (A : Around) (outer : List Env) (s : Shared) (H : Hp) (E : XK) (ex : DX), Room k (A.deeper (envOfC qual (defScope st) s.heap.objs.size f cdv)) → WW K H ex (fun c d _ H' => E c d H') →
      PSs (cxOf (L2.CX P w) P w K mg base N qual (defScope st) f cdv A outer s H E) (defBody st) (lS K H (t ex))) :
    FnOk P w K mg base (L2.CX P w) (k + 1) f fd ps (lSp K d) := by
  refine L2.Fun.okX F S (fun vs H Q E h => ?_) (fun cdv A outer s H vs Q E hr h => ?_)
  · obtain ⟨ds, m, P, EX, r, _, h, _⟩ := h
    rw [← r.length]
    exact len _ _ _ _ h
  · obtain ⟨ds, m, P', EX, r, rm, h, q, qx⟩ := h
    refine ⟨_, hbody cdv A outer s H E (outX EX) hr (WW.out qx), dstart N ds, m, _, ⟨RS.start r, rm, Keep.refl _⟩, hread ds m P' EX h, ?_, ?_, ?_, ?_⟩
    · rintro sd' m' σ' H' k s r ⟨m2, l, p⟩
      exact q _ m2 _ H' k (r.less l) .non p
    · rintro d m' v H' k r rd ⟨m2, l, p⟩
      exact q _ m2 _ H' k (r.less l) rd p
    · exact fun _ _ _ _ _ _ _ h => h
    · exact fun _ _ _ _ _ _ _ h => h
theorem FunAt.calleeX (F : FunAt K mg x st ps) (S : FnScope N ps (defScope st)) (len : ∀ ds m P EX, d ds m P EX → ds.length = ps.length)
    (t : DX → TDS) (hread : ∀ ds m P EX, d ds m P EX → t (outX EX) { nx := fun _ m' => Ret P .non m', rt := Ret P } (dstart N ds) m)
    (hbody : ∀ (base : Heap) (f : Addr) (cdv : Value) (A : Around) (outer : List Env) (s : Shared) (H : Hp) (E : XK) (ex : DX), Room k (A.deeper (envOfC x (defScope st) s.heap.objs.size f cdv)) → WW K H ex (fun c d _ H' => E c d H') →
      PSs (cxOf (L2.CX P w) P w K mg base N x (defScope st) f cdv A outer s H E) (defBody st) (lS K H (t ex))) : CalleeX P w K mg (k + 1) x ps d := by
  obtain ⟨f, fd, F1, a, c⟩ := F.ex
  exact ⟨f, fd, a, F1.kp, c, fun base => Fun.okXD F1 S len t hread (hbody base f)⟩
end
section
variable {X : Cx} {H0 : Hp} {ex : DX} {W : WX}
theorem qe_fnX {k : Nat} {ps : List Str} {d : DSp} {x : Str} {p pos : Pos} {e : Expr} {es : List Expr} {t : TDA} (C : CalleeX X.prog X.w X.K X.mg k x ps d) (hr : Room k X.A) (tk : Takes X W) (ww : WW X.K H0 ex W) (hg : Gl X x)
    (ha : PA X (e :: es) (lA X.K H0 t)) (hdb : (x == ("__debug__" : Str)) = false := by decide) (he : starEach (e :: es) X.env = (false, eval e X.env) :: starEach es X.env := by rfl) (hpl : (backTo pos (starEach es X.env)).any (·.1) = false := by rfl) :
    PE X (.Call (.Name x p) (e :: es) [] pos) (lE X.K H0 (dCallX ex d t)) := by
  obtain ⟨f, fd, a, b, c, F⟩ := C.ex
  exact peL (pe_callS (F X.base) hr hg a b (.all c) (fun σ => passAt tk σ) ha hdb he hpl) fun _ _ _ => l_callX ww
/-! ### f-texts -/
def dFmt (t : TDE) : TDE := fun sd m P => t sd m fun x m1 => (∃ y : Str, x = .str y ∧ y.length ≤ sizeLine ∧ P (.str y) m1) ∨ ∃ i : Int, x = .int i ∧ i.natAbs.log2 < 1920 ∧ P (.str (toString i)) m1
def dFmtR (t : TDE) : TDE := fun sd m P => t sd m fun x m1 => (∃ y : Str, x = .str y ∧ (reprText y).length ≤ sizeLine ∧ P (.str (reprText y)) m1) ∨ ∃ i : Int, x = .int i ∧ i.natAbs.log2 < 1920 ∧ P (.str (toString i)) m1
theorem qe_fmt {e : Expr} {t : TDE} {pos : Pos} (he : PE X e (lE X.K H0 t)) : PE X (.FormattedValue e (-1) none pos) (lE X.K H0 (dFmt t)) := peL (pe_fmt he) fun σ H Q h => by
  obtain ⟨sd, m, P, a, p, q⟩ := h
  refine ⟨sd, m, _, a, p, fun d m1 v H1 k r rd p1 => ?_⟩
  rcases p1 with ⟨y, rfl, h1, p1⟩ | ⟨i, rfl, h1, p1⟩
  · obtain rfl := rd.str_
    exact .inl ⟨y, rfl, h1, q _ m1 _ H1 k r (.str _) p1⟩
  · obtain rfl := rd.int_
    exact .inr ⟨i, rfl, h1, q _ m1 _ H1 k r (.str _) p1⟩
theorem qe_fmtR {e : Expr} {t : TDE} {pos : Pos} (he : PE X e (lE X.K H0 t)) : PE X (.FormattedValue e 114 none pos) (lE X.K H0 (dFmtR t)) := peL (pe_fmtR he) fun σ H Q h => by
  obtain ⟨sd, m, P, a, p, q⟩ := h
  refine ⟨sd, m, _, a, p, fun d m1 v H1 k r rd p1 => ?_⟩
  rcases p1 with ⟨y, rfl, h1, p1⟩ | ⟨i, rfl, h1, p1⟩
  · obtain rfl := rd.str_
    exact .inl ⟨y, rfl, h1, q _ m1 _ H1 k r (.str _) p1⟩
  · obtain rfl := rd.int_
    exact .inr ⟨i, rfl, h1, q _ m1 _ H1 k r (.str _) p1⟩
def dJs : List TDE → Str → DS → M → (Str → M → Prop) → Prop
  | [], acc, _, m, Q => Q acc m
  | t :: ts, acc, sd, m, Q => t sd m fun x m1 => ∃ y : Str, x = .str y ∧ (acc ++ y).length ≤ sizeLine ∧ dJs ts (acc ++ y) sd m1 Q
def dJoin (ts : List TDE) : TDE := fun sd m P => dJs ts Str.empty sd m fun out m1 => P (.str out) m1
theorem l_js {K : PySem.W.Frag} {H0 : Hp} {sd : DS} {σ : St} : ∀ {ts : List TDE} {acc : Str} {m : M} {H : Hp} {P : Str → M → Prop} {Q : Str → Hp → Prop}, At K H0 sd m σ H → dJs ts acc sd m P → (∀ z m' H', Keep K H H' → RM K H' m' → P z m' → Q z H') → tJs (ts.map (lE K H0)) acc σ H Q
  | [], acc, m, H, P, Q, a, p, q => q acc m H (Keep.refl _) a.m p
  | t :: ts, acc, m, H, P, Q, a, p, q => ⟨sd, m, _, a, p, fun d m1 v H1 k r rd ⟨y, e, hl, p2⟩ => by
    subst e
    obtain rfl := rd.str_
    exact ⟨y, rfl, hl, l_js (a.to k r) p2 fun z m' H' k' r' => q z m' H' (k.trans k') r'⟩⟩
inductive QJ (X : Cx) (H0 : Hp) : List Expr → List TDE → Prop where
  | nil : QJ X H0 [] []
  | cons {e : Expr} {t : TDE} {es : List Expr} {ts : List TDE} (h : PE X e (lE X.K H0 t)) (r : QJ X H0 es ts) : QJ X H0 (e :: es) (t :: ts)
theorem QJ.pj : ∀ {es : List Expr} {ts : List TDE}, QJ X H0 es ts → PJ X es (ts.map (lE X.K H0))
  | _, _, .nil => .nil
  | _, _, .cons h r => .cons h r.pj
theorem qe_joined {v1 v2 : Expr} {rest : List Expr} {ts : List TDE} {pos : Pos} (h : QJ X H0 (v1 :: v2 :: rest) ts) : PE X (.JoinedStr (v1 :: v2 :: rest) pos) (lE X.K H0 (dJoin ts)) := peL (pe_joined h.pj) fun σ H Q h => by
  obtain ⟨sd, m, P, a, p, q⟩ := h
  exact l_js a p fun z m' H' k r p => q (.str z) m' _ H' k r (.str _) p
/-! ### raise -/
structure ExcAt (K : PySem.W.Frag) (mg : Str → Option Value) (x : Str) (C : Addr) : Prop where
  g : mg x = some (.ref C)
  k : PySem.W.keepIn K (.ref C) = true
  q : PySem.W.excIn K C [.type "ValueError", .type "Exception", .type "BaseException", .type "object"] "ValueError.__new__" = true
  s : PySem.W.subIn K (.ref C) (.type "BaseException") = some true
  t : PySem.W.typeIn K (.ref C) = some (.type "type")
def dRaise (ex : DX) (C : Addr) (t : TDA) : TDS := fun _ sd m => t sd m fun xs m1 => xs.length ≤ sizeLine ∧ ex sd (.ref C) none m1
theorem qs_raise {x : Str} {C : Addr} {e : Expr} {es : List Expr} {t : TDA} {p pos pos' : Pos} (hc : X.calm = true) (F : ExcAt X.K X.mg x C) (tk : Takes X W) (ww : WW X.K H0 ex W) (hg : Gl X x) (ha : PA X (e :: es) (lA X.K H0 t)) (hdb : (x == ("__debug__" : Str)) = false := by decide)
    (he : starEach (e :: es) X.env = (false, eval e X.env) :: starEach es X.env := by rfl) (hpl : (backTo pos (starEach es X.env)).any (·.1) = false := by rfl) :
    PS X (.Raise (some (.Call (.Name x p) (e :: es) [] pos)) none pos') (lS X.K H0 (dRaise ex C t)) :=
  psL (ps_raise hc tk (pmk_ownA PySem.F.excBase_ValueError F.q F.g F.k (raises_own F.s F.t) hg ha hdb he hpl)) fun D σ H h => by
    obtain ⟨sd, m, DD, a, p, _⟩ := h
    refine ⟨sd, m, _, a, p, fun xs m1 us H1 k r rd p1 => ?_⟩
    obtain ⟨hl, p2⟩ := p1
    exact ⟨by rw [← rd.length]; exact hl, ww sd σ _ none m1 none H1 (a.k.trans k) (a.s.mono k) r trivial p2⟩
end
end Q4

set_option Elab.async false
set_option linter.all false
set_option maxRecDepth 100000
namespace Q4
open PySem L2 PySem.Spec PyProof.Rows
/-! ### isinstance of a caught error -/
inductive ClsD : D → V → Value → Prop where
  | ty (n : String) : ClsD (.ty n) (.ty n) (.type n)
  | own (C : Addr) : ClsD (.ref C) (.ref C) (.ref C)
theorem ClsD.rd {K : PySem.W.Frag} {H : Hp} {c : D} {v v' : V} {u : Value} (h : ClsD c v u) (r : RD K H c v') : v' = v := by
  cases h with
  | ty n => exact r.ty_
  | own C => exact r.ref_
theorem ClsD.cv {c : D} {v : V} {u : Value} (h : ClsD c v u) : ClsV v u := by
  cases h with
  | ty n => exact .ty n
  | own C => exact .own C
/-- what isinstance answers for an error of the class E -/
structure Isa (K : PySem.W.Frag) (E : Addr) (isa : D → Option Bool) : Prop where
  one : ∀ c b, isa c = some b → ∃ v u, ClsD c v u ∧ PySem.W.kitOne K (.ref E) u = some b
def isaAny (isa : D → Option Bool) : List D → Option Bool
  | [] => some false
  | c :: cs => match isa c, isaAny isa cs with
    | some b, some r => some (b || r)
    | _, _ => none
theorem Isa.any {K : PySem.W.Frag} {H : Hp} {E : Addr} {isa : D → Option Bool} (Z : Isa K E isa) : ∀ {cs : List D} {r : Bool}, isaAny isa cs = some r → ∀ {vs : List V}, RDs K H cs vs → ∃ us, Paired ClsV vs us ∧ PySem.W.kitAny K (.ref E) us = some r
  | [], r, e, _, .nil => by
    cases e
    exact ⟨[], .nil, kitAny_nil⟩
  | c :: cs, r, e, _, .cons h t => by
    unfold isaAny at e
    split at e
    · rename_i b r' e1 e2
      obtain ⟨v, u, k, e3⟩ := Z.one c b e1
      obtain ⟨us, p, e4⟩ := Z.any e2 t
      obtain rfl := k.rd h
      refine ⟨u :: us, .cons k.cv p, ?_⟩
      cases e
      refine kitAny_cons e3 (fun hb => ?_) (fun hb => ?_)
      · subst hb; simpa using e4
      · subst hb; rfl
    · cases e
def rIsX (a : Addr) (isa : D → Option Bool) : RnD := fun xs m P => (∃ c b, xs = [.ref a, c] ∧ isa c = some b ∧ P (.bl b) m) ∨ ∃ cs b, xs = [.ref a, .tup cs] ∧ isaAny isa cs = some b ∧ P (.bl b) m
theorem cd_isX {X : Cx} {a E : Addr} {oe : Obj} {pn : List (Addr × Obj)} {isa : D → Option Bool} (C : ExcC X.K E) (hz : Zc (.ref E) none oe) (hf : ∃ vs, oe.data = .fields vs) (Z : Isa X.K E isa) : CallD (X.suite a ((a, oe) :: pn)) (.builtin "isinstance") (rIsX a isa) := by
  refine ⟨fun xs H Q => (∃ (c : V) (cv : Value) (b : Bool), xs = [.ref a, c] ∧ (∀ u, RelV c u → u = cv) ∧ PySem.W.kitOne X.K (.ref E) cv = some b ∧ Q (.bl b) H) ∨
    ∃ (tp : Addr) (cs : List V) (us : List Value) (b : Bool), xs = [.ref a, .ref tp] ∧ SqT X.K H tp cs ∧ Paired ClsV cs us ∧ PySem.W.kitAny X.K (.ref E) us = some b ∧ Q (.bl b) H, ?_, fun H m xs us P Q rm rx p q => ?_⟩
  · intro pins s σ H xs us Q I r h
    rcases h with h | ⟨tp, cs, ws, b, rfl, hT, k, e, q⟩
    · exact call_isE C hz hf pins s σ H xs us Q I r h
    · cases r with
      | cons rx rr =>
        cases rr with
        | cons rt rr =>
          cases rr
          cases rx
          cases rt
          obtain ⟨hget, _⟩ := I.pin (a, oe) (List.mem_append.mpr (.inl List.mem_cons_self))
          obtain ⟨vs, hv⟩ := hf
          have J : PySem.W.InstAt s.heap a oe E none := by
            obtain ⟨oc, od, oda, osl⟩ := oe
            obtain ⟨h1, h2⟩ := hz
            dsimp only at h1 h2 hv
            subst h1 h2 hv
            exact ⟨hget, rfl, rfl, trivial⟩
          obtain ⟨its, rv, ⟨o, ho, hc, n, hd⟩, _⟩ := I.tuple hT
          have e3 := ClsV.all k rv
          subst e3
          obtain ⟨oc, od, dt, sl⟩ := o
          simp only at hc hd
          subst hc hd
          exact PySem.W.kia_tup (PySem.W.handS_kitx_exc C.hg C.hk C.hs C.hd C.ha C.hn C.ht C.hm) I.kIn J ho e (fun z => nomatch z) fun tk => ⟨.bl b, H, I.kept (t' := tk) fun _ _ z => z, rfl, q⟩
  · rcases p with ⟨c, b, rfl, e, p⟩ | ⟨cs, b, rfl, e, p⟩
    · obtain ⟨u, v, rfl, r1, r2⟩ := rx.two_
      cases r1.ref_
      obtain ⟨v', cv, k, e2⟩ := Z.one c b e
      obtain rfl := k.rd r2
      exact .inl ⟨_, cv, b, rfl, fun u hu => k.cv.eq hu, e2, q _ m _ H (Keep.refl _) rm (.bl _) p⟩
    · obtain ⟨u, v, rfl, r1, r2⟩ := rx.two_
      cases r1.ref_
      obtain ⟨tp, vs, rfl, h1, h2⟩ := r2.tup_
      obtain ⟨us, k, e2⟩ := Z.any e h2
      exact .inr ⟨tp, vs, us, b, rfl, h1, k, e2, q _ m _ H (Keep.refl _) rm (.bl _) p⟩
end Q4

set_option Elab.async false
set_option linter.all false
set_option maxRecDepth 100000
namespace Q4
open PySem L2 PySem.Spec PyProof.Rows
theorem RS.setNone {K : PySem.W.Frag} {H : Hp} {sd : DS} {σ : L2.St} (r : RS K H sd σ) (i : Nat) : RS K H (sd.set i none) (σ.set i none) :=
  ⟨by rw [List.length_set, List.length_set, r.len], fun j d e => by
    rw [List.getElem?_set] at e
    by_cases hj : i = j
    · rw [if_pos hj] at e
      split at e <;> cases e
    · rw [if_neg hj] at e
      obtain ⟨v, e1, q⟩ := r.get j d e
      exact ⟨v, by rw [List.getElem?_set, if_neg hj]; exact e1, q⟩⟩
/-! ### try: body, except x as n: suite -/
/-- the ends of a suite: the name is gone behind it -/
def DEnds.off (DD : DEnds) (i : Nat) : DEnds := { nx := fun sd m => DD.nx (sd.set i none) m, rt := DD.rt, bk := fun sd m => DD.bk (sd.set i none) m, ct := fun sd m => DD.ct (sd.set i none) m }
def dTryAs (hit : Value → Option Bool) (i : Nat) (b : DX → TDS) (suite : Addr → TDS) (ex : DX) : TDS := fun DD sd m =>
  b (fun sd' cls fo m' => ∃ bb, hit cls = some bb ∧ (bb = true → fo = none ∧ ∀ a, m' a = none → suite a (DD.off i) (sd'.set i (some (.ref a))) m') ∧ (bb = false → ex sd' cls fo m')) DD sd m
section
variable {X : Cx} {H0 : Hp} {ex : DX} {Wout : WX} {x n : Str} {c : Value} {E : Addr} {hit : Value → Option Bool} {i : Nat} {body rest : List Stmt} {b₀ : Stmt} {np pos pos' : Pos} {b : DX → TDS} {suite : Addr → TDS}
theorem qs_tryAs (hs : X.stack = X.env :: X.outer) (hf : X.env.frame = some X.env.locals) (hN : X.N.Nodup) (hi : X.N[i]? = some n) (hln : X.env.kindOf n = some .local) (hc : Names X x c) (tk : Takes X Wout) (ww : WW X.K H0 ex Wout)
    (hh : ∀ cls bb, hit cls = some bb → PySem.W.exmOne X.K cls c = some bb ∧ (bb = true → cls = .ref E))
    (hb : ∀ (H1 : Hp) (exx : DX) (W : WX) (pn : List (Addr × Obj)) (xe : Value → Shared → Prop), Takes (X.tr pn xe) W → PassesOwn (model X.prog X.w) X.A X.env xe → WW X.K H1 exx W → PSs (X.tr pn xe) body (lS X.K H1 (b exx)))
    (hsu : ∀ (a : Addr) (oe : Obj) (pn : List (Addr × Obj)), Zc (.ref E) none oe → (∃ vs, oe.data = .fields vs) → PSs (X.suite a ((a, oe) :: pn)) (b₀ :: rest) (lS X.K H0 (suite a))) :
    PS X (.Try body [.ExceptHandler (some (.Name x np)) (some n) (b₀ :: rest) pos'] [] [] pos) (lS X.K H0 (dTryAs hit i b suite ex)) :=
  psL (ps_try_as (tb := fun W D σ H => ∃ exx, WW X.K H exx W ∧ lS X.K H (b exx) D σ H) (ts := fun a cls d D σ H => cls = .ref E ∧ d = none ∧ lS X.K H0 (suite a) D σ H) hs hf hN hi hln hc tk
    (fun W pn xe tkk po => ⟨fun pins s σ H D I h => by
      obtain ⟨exx, w1, h⟩ := h
      exact (hb H exx W pn xe tkk po w1).run pins s σ H D I h⟩)
    (fun a oe cls d pn hz hd => ⟨fun pins s σ H D I h => by
      obtain ⟨e1, e2, h⟩ := h
      subst e1 e2
      exact (hsu a oe pn hz hd).run pins s σ H D I h⟩)) fun D σ H h => by
    obtain ⟨sd, m, DD, a0, p, q1, q2, q3, q4⟩ := h
    refine ⟨_, fun sd' σ' cls fo m' od H' k rs rm xr he => ?_, sd, m, DD, ⟨a0.s, a0.m, Keep.refl _⟩, p, q1, q2, q3, q4⟩
    obtain ⟨bb, e, h1, h2⟩ := he
    refine ⟨bb, (hh cls bb e).1, fun hb a ha => ?_, fun hb => ww sd' σ' cls fo m' od H' (a0.k.trans k) rs rm xr (h2 hb)⟩
    obtain ⟨hfo, h3⟩ := h1 hb
    subst hfo
    have hod : od = none := by
      cases od with
      | none => rfl
      | some d => exact xr.elim
    refine ⟨(hh cls bb e).2 hb, hod, _, m', DD.off i, ⟨rs.set i (.ref a), rm, a0.k.trans k⟩, h3 a (rm.free ha), ?_, ?_, ?_, ?_⟩
    · exact fun sd2 m2 σ2 H2 k2 r2 rm2 p2 => q1 _ m2 _ H2 (k.trans k2) (r2.setNone i) rm2 p2
    · exact fun d m2 v H2 k2 rm2 rd p2 => q2 d m2 v H2 (k.trans k2) rm2 rd p2
    · exact fun sd2 m2 σ2 H2 k2 r2 rm2 p2 => q3 _ m2 _ H2 (k.trans k2) (r2.setNone i) rm2 p2
    · exact fun sd2 m2 σ2 H2 k2 r2 rm2 p2 => q4 _ m2 _ H2 (k.trans k2) (r2.setNone i) rm2 p2
end
/-! ### calls by name that may raise -/
def dCallKX (ex : DX) (d : DSp) (a b : Nat) (t tk : TDA) : TDE := fun sd m P => t sd m fun xs m1 => tk sd m1 fun ys m2 => xs.length = a ∧ ys.length = b ∧ d (xs ++ ys) m2 P (ex sd)
structure CalleeKX (P : Program) (w : World) (K : PySem.W.Frag) (mg : Str → Option Value) (k : Nat) (x : Str) (ps ks : List Str) (d : DSp) : Prop where
  ex : ∃ f fd, mg x = some (.ref f) ∧ PySem.W.keepIn K (.ref f) = true ∧ (∀ us ws : List Value, us.length = ps.length → ws.length = ks.length → bindArgs fd ⟨us, ks.zip ws⟩ = pure ((ps ++ ks).zip (us ++ ws))) ∧ ∀ base, FnOk P w K mg base (L2.CX P w) k f fd (ps ++ ks) (lSp K d)
section
variable {P : Program} {w : World} {K : PySem.W.Frag} {mg : Str → Option Value} {x : Str} {st : Stmt} {ps ks N : List Str} {d d' : DSp} {k j : Nat}
theorem CalleeKX.mono (C : CalleeKX P w K mg j x ps ks d) (h : j ≤ k) : CalleeKX P w K mg k x ps ks d := by
  obtain ⟨f, fd, a, b, c, e⟩ := C.ex
  exact ⟨f, fd, a, b, c, fun base => (e base).mono h⟩
theorem FunAtK.calleeX (F : FunAtK K mg x st ps ks) (S : FnScope N (ps ++ ks) (defScope st)) (len : ∀ ds m P EX, d ds m P EX → ds.length = (ps ++ ks).length)
    (t : DX → TDS) (hread : ∀ ds m P EX, d ds m P EX → t (outX EX) { nx := fun _ m' => Ret P .non m', rt := Ret P } (dstart N ds) m)
    (hbody : ∀ (base : Heap) (f : Addr) (cdv : Value) (A : Around) (outer : List Env) (s : Shared) (H : Hp) (E : XK) (ex : DX), Room k (A.deeper (envOfC x (defScope st) s.heap.objs.size f cdv)) → WW K H ex (fun c d _ H' => E c d H') →
      PSs (cxOf (L2.CX P w) P w K mg base N x (defScope st) f cdv A outer s H E) (defBody st) (lS K H (t ex))) : CalleeKX P w K mg (k + 1) x ps ks d := by
  obtain ⟨f, fd, F1, a, c⟩ := F.ex
  exact ⟨f, fd, a, F1.kp, c, fun base => Fun.okXD F1 S len t hread (hbody base f)⟩
end
section
variable {X : Cx} {H0 : Hp} {ex : DX} {W : WX} {CX : CXT} {k : Nat} {f : Addr} {fd : FuncData} {ps ks : List Str} {sp : Sp} {E : L2.St → XK} {x : Str} {p pos : Pos} {e : Expr} {es : List Expr} {kws : List Keyword} {t tk : TA} {g : List Value → List Value → List Value} {gV : List V → List V → List V}
theorem run_fnkS {pins : List (Addr × Obj)} {σ : L2.St} {H : Hp} {s : Shared} {Q : VK} {us ws : List Value} {vs zs : List V} (F : FnOk X.prog X.w X.K X.mg X.base CX k f fd ps sp) (hr : Room k X.A) (hb : KBinds X.K fd ps ks g gV) (hx : PassesAt CX X σ (E σ))
    (I : Inv X pins σ H s) (r : Vals vs us) (rz : Vals zs ws) (h : sp (gV vs zs) H Q (E σ)) : wpAny (model X.prog X.w) X.A (call (.ref f) us (ks.zip ws)) (EP X pins σ Q) X.xe s := by
  have r2 := hb.rel r rz
  have hl : (g us ws).length = ps.length := by rw [← r2.length]; exact F.len _ _ _ _ h
  refine wpAny_call (codeAny_mono (F.run X.A X.stack s H ⟨us, ks.zip ws⟩ (g us ws) (gV vs zs) Q (E σ) hr I.env0 (hb.to s us ws I.kIn hl) r2 h) fun r s' hq => ?_)
  cases r with
  | error e => exact hx pins H s e s' I hq
  | ok fl =>
    cases fl with
    | ret u => exact I.after hq
    | next => exact False.elim hq
    | brk => exact False.elim hq
    | cont => exact False.elim hq
def tCallKS (sp : Sp) (gV : List V → List V → List V) (E : L2.St → XK) (t tk : TA) : TE := fun σ H Q => t σ H fun vs H1 => tk σ H1 fun zs H2 => sp (gV vs zs) H2 Q (E σ)
theorem pe_callKS (F : FnOk X.prog X.w X.K X.mg X.base CX k f fd ps sp) (hr : Room k X.A) (hg : Gl X x) (hm : X.mg x = some (.ref f)) (hk : PySem.W.keepIn X.K (.ref f) = true) (hb : KBinds X.K fd ps ks g gV) (hx : ∀ σ, PassesAt CX X σ (E σ))
    (ha : PA X (e :: es) t) (hkw : PK X kws tk) (hall : (backToKw pos (keywordEach kws X.env)).all (·.1.isSome) = true := by rfl) (hks : (backToKw pos (keywordEach kws X.env)).filterMap (·.1) = ks := by rfl)
    (hdb : (x == ("__debug__" : Str)) = false := by decide) (he : starEach (e :: es) X.env = (false, eval e X.env) :: starEach es X.env := by rfl)
    (hpl : ((backTo pos (starEach (e :: es) X.env)).any (·.1) || (backToKw pos (keywordEach kws X.env)).any (·.1.isNone)) = false := by rfl) :
    PE X (.Call (.Name x p) (e :: es) kws pos) (tCallKS sp gV E t tk) := by
  refine ⟨fun pins s σ H Q I h => ?_⟩
  refine wpAny_Call_Name_kw (ld_glob I hg hm ?_ hdb)
  refine PySem.W.callWith_KW (h₀ := X.base) I.ok.mod.kin hk hall (thn (ha.run pos pins s σ H _ I h) fun us s1 ⟨vs, H1, I1, r, q⟩ => ?_) hpl he
  refine thn (hkw.run pos pins s1 σ H1 _ I1 q) fun ws s2 ⟨zs, H2, I2, rz, q2⟩ => ⟨I2.kIn, ?_⟩
  rw [hks]
  exact run_fnkS F hr hb (hx σ) I2 r rz q2
end
section
variable {X : Cx} {H0 : Hp} {ex : DX} {W : WX}
theorem qe_fnKX {k : Nat} {ps ks : List Str} {d : DSp} {x : Str} {p pos : Pos} {e : Expr} {es : List Expr} {kws : List Keyword} {t tk : TDA} (C : CalleeKX X.prog X.w X.K X.mg k x ps ks d) (hr : Room k X.A) (tkk : Takes X W) (ww : WW X.K H0 ex W) (hg : Gl X x)
    (ha : PA X (e :: es) (lA X.K H0 t)) (hkw : PK X kws (lA X.K H0 tk)) (hne : 0 < (ps ++ ks).length) {na nb : Nat} (hna : ps.length = na) (hnb : ks.length = nb) (hall : (backToKw pos (keywordEach kws X.env)).all (·.1.isSome) = true := by rfl) (hks : (backToKw pos (keywordEach kws X.env)).filterMap (·.1) = ks := by rfl)
    (hdb : (x == ("__debug__" : Str)) = false := by decide) (he : starEach (e :: es) X.env = (false, eval e X.env) :: starEach es X.env := by rfl)
    (hpl : ((backTo pos (starEach (e :: es) X.env)).any (·.1) || (backToKw pos (keywordEach kws X.env)).any (·.1.isNone)) = false := by rfl) :
    PE X (.Call (.Name x p) (e :: es) kws pos) (lE X.K H0 (dCallKX ex d na nb t tk)) := by
  subst hna hnb
  obtain ⟨f, fd, a, b, c, F⟩ := C.ex
  have kb : KBinds X.K fd (ps ++ ks) ks (both ps.length ks.length) (both ps.length ks.length) := by
    refine ⟨fun s us ws _ hl => ?_, fun {vs us zs ws} r rz => ?_⟩
    · unfold both at hl ⊢
      split at hl
      · rename_i z
        rw [if_pos z]
        exact .of_eq (c us ws z.1 z.2)
      · rw [List.length_nil] at hl
        omega
    · unfold both
      rw [← r.length, ← rz.length]
      split
      · exact r.append rz
      · exact .nil
  refine peL (pe_callKS (E := WE W) (F X.base) hr hg a b kb (fun σ => passAt tkk σ) ha hkw hall hks hdb he hpl) fun σ H Q h => ?_
  obtain ⟨sd, m, P, aa, p, q⟩ := h
  refine ⟨sd, m, _, aa, p, fun xs m1 us H1 k1 r1 d1 p1 => ⟨sd, m1, _, aa.to k1 r1, p1, fun ys m2 ws H2 k2 r2 d2 p2 => ?_⟩⟩
  obtain ⟨l1, l2, p3⟩ := p2
  unfold both
  rw [if_pos ⟨by rw [← d1.length]; exact l1, by rw [← d2.length]; exact l2⟩]
  exact ⟨xs ++ ys, m2, P, ex sd, (d1.mono k2).append d2, r2, p3, fun d m' w H' k => q d m' w H' ((k1.trans k2).trans k), fun c fo m' od H' k r x e => ww sd σ c fo m' od H' (((aa.k.trans k1).trans k2).trans k) (aa.s.mono ((k1.trans k2).trans k)) r x e⟩
end
end Q4
namespace Q4
open PySem L2 PySem.Spec PyProof.Rows
def hitOf (E : Addr) : Value → Option Bool
  | .ref a => if a = E then some true else none
  | _ => none
theorem hitOf_ok {K : PySem.W.Frag} {E : Addr} (h : PySem.W.exmOne K (.ref E) (.ref E) = some true) : ∀ cls bb, hitOf E cls = some bb → PySem.W.exmOne K cls (.ref E) = some bb ∧ (bb = true → cls = .ref E) := fun cls bb e => by
  unfold hitOf at e
  split at e
  · split at e
    · rename_i a ha
      cases e
      subst ha
      exact ⟨h, fun _ => rfl⟩
    · cases e
  · cases e
theorem wwNo {K : PySem.W.Frag} {H0 : Hp} : WW K H0 (fun _ => noX) (fun _ _ _ _ => False) := fun _ _ _ _ _ _ _ _ _ _ _ h => h
/-- what isinstance answers by the program's own tables -/
def isaK (K : PySem.W.Frag) (E : Addr) : D → Option Bool
  | .ref C => PySem.W.kitOne K (.ref E) (.ref C)
  | .ty T => PySem.W.kitOne K (.ref E) (.type T)
  | _ => none
theorem isaK_ok {K : PySem.W.Frag} {E : Addr} : Isa K E (isaK K E) := ⟨fun c b h => by
  unfold isaK at h
  split at h
  · exact ⟨_, _, .own _, h⟩
  · exact ⟨_, _, .ty _, h⟩
  · cases h⟩
section
variable {X : Cx} {H0 : Hp}
/-- a call of a def that may raise, where it does not -/
theorem qe_fnX0 {k : Nat} {ps : List Str} {d : DSp} {x : Str} {p pos : Pos} {e : Expr} {es : List Expr} {t : TDA} (C : CalleeX X.prog X.w X.K X.mg k x ps d) (hr : Room k X.A) (hg : Gl X x)
    (ha : PA X (e :: es) (lA X.K H0 t)) (hdb : (x == ("__debug__" : Str)) = false := by decide) (he : starEach (e :: es) X.env = (false, eval e X.env) :: starEach es X.env := by rfl) (hpl : (backTo pos (starEach es X.env)).any (·.1) = false := by rfl) :
    PE X (.Call (.Name x p) (e :: es) [] pos) (lE X.K H0 (dCall d t)) := by
  obtain ⟨f, fd, a, b, c, F⟩ := C.ex
  exact qe_call (F X.base) hr hg a b (.all c) (E := E0) passL ha hdb he hpl
/-- an own class as a value -/
theorem ExcAt.const {K : PySem.W.Frag} {mg : Str → Option Value} {x : Str} {C : Addr} (h : mg x = some (.ref C)) : ConstAt K mg x (.ref C) := ⟨.ref C, .ref C, h, rfl, fun _ => .ref C⟩
end
end Q4
namespace Q4
open PySem L2 PySem.Spec PyProof.Rows
section
variable {X : Cx} {H0 : Hp}
/-- a call by name of a def that may raise, where it does not -/
theorem qe_fnKX0 {k : Nat} {ps ks : List Str} {d : DSp} {x : Str} {p pos : Pos} {e : Expr} {es : List Expr} {kws : List Keyword} {t tk : TDA} (C : CalleeKX X.prog X.w X.K X.mg k x ps ks d) (hr : Room k X.A) (hg : Gl X x)
    (ha : PA X (e :: es) (lA X.K H0 t)) (hkw : PK X kws (lA X.K H0 tk)) (hne : 0 < (ps ++ ks).length) {na nb : Nat} (hna : ps.length = na) (hnb : ks.length = nb) (hall : (backToKw pos (keywordEach kws X.env)).all (·.1.isSome) = true := by rfl) (hks : (backToKw pos (keywordEach kws X.env)).filterMap (·.1) = ks := by rfl)
    (hdb : (x == ("__debug__" : Str)) = false := by decide) (he : starEach (e :: es) X.env = (false, eval e X.env) :: starEach es X.env := by rfl)
    (hpl : ((backTo pos (starEach (e :: es) X.env)).any (·.1) || (backToKw pos (keywordEach kws X.env)).any (·.1.isNone)) = false := by rfl) :
    PE X (.Call (.Name x p) (e :: es) kws pos) (lE X.K H0 (dCallK d na nb t tk)) := by
  subst hna hnb
  obtain ⟨f, fd, a, b, c, F⟩ := C.ex
  have kb : KBinds X.K fd (ps ++ ks) ks (both ps.length ks.length) (both ps.length ks.length) := by
    refine ⟨fun s us ws _ hl => ?_, fun {vs us zs ws} r rz => ?_⟩
    · unfold both at hl ⊢
      split at hl
      · rename_i z
        rw [if_pos z]
        exact .of_eq (c us ws z.1 z.2)
      · rw [List.length_nil] at hl
        omega
    · unfold both
      rw [← r.length, ← rz.length]
      split
      · exact r.append rz
      · exact .nil
  refine peL (pe_callK (E := E0) (F X.base) hr hg a b kb passL ha hkw hall hks hdb he hpl) fun σ H Q h => ?_
  obtain ⟨sd, m, P, aa, p, q⟩ := h
  refine ⟨sd, m, _, aa, p, fun xs m1 us H1 k1 r1 d1 p1 => ⟨sd, m1, _, aa.to k1 r1, p1, fun ys m2 ws H2 k2 r2 d2 p2 => ?_⟩⟩
  obtain ⟨l1, l2, p3⟩ := p2
  unfold both
  rw [if_pos ⟨by rw [← d1.length]; exact l1, by rw [← d2.length]; exact l2⟩]
  exact ⟨xs ++ ys, m2, P, noX, (d1.mono k2).append d2, r2, p3, fun d m' w H' k => q d m' w H' ((k1.trans k2).trans k), wantsX0⟩
end
end Q4

set_option Elab.async false
set_option linter.all false
set_option maxRecDepth 100000
namespace Q4
open PySem L2 PySem.Spec PyProof.Rows
/-! ### l.index(x), len of a dict, a clause that names a base class -/
def rIdx : RmD := fun x ys m P => match x, ys with
  | .ref a, [y] => ∃ (xs : List D) (j : Nat) (z : D), m a = some (.lst xs) ∧ okL xs ∧ okD y ∧ xs[j]? = some z ∧ eqD z y = true ∧ (∀ (i : Nat) (z' : D), i < j → xs[i]? = some z' → eqD z' y = false) ∧ P (.int (j : Nat)) m
  | _, _ => False
theorem D.pys_at : ∀ {xs : List D} {j : Nat}, (D.pys xs)[j]? = (xs[j]?).map D.py
  | [], _ => by simp [D.pys]
  | x :: xs, 0 => by simp [D.pys]
  | x :: xs, j + 1 => by rw [D.pys, List.getElem?_cons_succ, List.getElem?_cons_succ]; exact D.pys_at
section
variable {X : Cx}
theorem md_index (hu : X.A.units + 65 < cLine) : MethD X "list" "list.index" isLst rIdx := by
  refine ⟨_, mt_indexD hu, fun H m x u rm rx h => ?_, fun H m x u xs us P Q rm rx rs p q => ?_⟩
  · unfold isLst at h
    split at h
    · cases rx.ref_
      obtain ⟨xs, h⟩ := h
      obtain ⟨vs, e, _⟩ := rm _ _ h
      exact .inl ⟨rfl, _, .inl (.inl e)⟩
    · exact h.elim
  · unfold rIdx at p
    split at p
    · rename_i a y
      cases rx.ref_
      obtain ⟨w, rfl, r⟩ := rs.one_
      obtain ⟨xs, j, z, hm, ol, od, hz, e, hno, p⟩ := p
      obtain ⟨vs, ev, rr⟩ := rm _ _ hm
      have c1 := SeqAt.canLay_of_shaped ol
      have c2 := SeqAt.canLay_of_shaped od
      refine ⟨a, w, y.py, D.pys xs, j, z.py, rfl, rfl, .lst (.inl (.inl ev)) (dps_of rr (by simpa [PyData.canLay0] using c1)), dp_of r c2, ol, od, by rw [D.pys_at, hz]; rfl, e, fun i z' hi hz' => ?_, q _ m _ H (Keep.refl _) rm (.int _) p⟩
      rw [D.pys_at] at hz'
      cases e2 : xs[i]? with
      | none => rw [e2] at hz'; cases hz'
      | some x2 =>
        rw [e2] at hz'
        cases hz'
        exact hno i x2 hi e2
    · exact p.elim
def rLenK : RnD := fun xs m P => ∃ a kvs, xs = [.ref a] ∧ m a = some (.dct kvs) ∧ P (.int kvs.length) m
theorem call_lenK : CallR X (.builtin "len") (fun xs H Q => ∃ (a : Addr) (gs : List (Key × V)), xs = [.ref a] ∧ H a = some (.dK gs) ∧ Q (.int gs.length) H) := by
  intro pins s σ H xs us Q I r h
  obtain ⟨a, gs, rfl, e, q⟩ := h
  obtain ⟨u, rfl, rx⟩ := vals1 r
  cases rx
  exact d_len I (.of e) fun t s' I' => ⟨.int _, H, I', ⟨_, rfl⟩, q⟩
theorem cd_lenK : CallD X (.builtin "len") rLenK := by
  refine ⟨_, call_lenK, fun H m xs us P Q rm rx p q => ?_⟩
  obtain ⟨a, kvs, rfl, hm, p⟩ := p
  obtain ⟨u, rfl, r⟩ := rx.one_
  obtain rfl := r.ref_
  obtain ⟨gs, e, rk⟩ := rm.dict hm
  exact ⟨a, gs, rfl, e, q _ m _ H (Keep.refl _) rm (by rw [← rk.length]; exact .int _) p⟩
end
theorem hitOf_ok2 {K : PySem.W.Frag} {E C : Addr} (h : PySem.W.exmOne K (.ref E) (.ref C) = some true) : ∀ cls bb, hitOf E cls = some bb → PySem.W.exmOne K cls (.ref C) = some bb ∧ (bb = true → cls = .ref E) := fun cls bb e => by
  unfold hitOf at e
  split at e
  · split at e
    · rename_i a ha
      cases e
      subst ha
      exact ⟨h, fun _ => rfl⟩
    · cases e
  · cases e
end Q4

set_option Elab.async false
set_option linter.all false
set_option maxRecDepth 100000
set_option maxHeartbeats 0
namespace Q4
open PySem L2 PySem.Spec PyProof.Rows
/-! ### try with two clauses that give the error a name; each error of the body fits one of them -/
def offE (D : Ends) (i : Nat) : Ends := { nx := fun σ H => D.nx (σ.set i none) H, rt := D.rt, bk := fun σ H => D.bk (σ.set i none) H, ct := fun σ H => D.ct (σ.set i none) H }
abbrev TSu := Addr → Value → Option Addr → TS
def wTwo (K : PySem.W.Frag) (c1 c2 : Value) (i : Nat) (u1 u2 : TSu) (D : Ends) : WX := fun cls d σ H => ∃ b, PySem.W.exmOne K cls c1 = some b ∧
  (b = true → ∀ a, H a = none → u1 a cls d (offE D i) (σ.set i (some (.ref a))) H) ∧ (b = false → PySem.W.exmOne K cls c2 = some true ∧ ∀ a, H a = none → u2 a cls d (offE D i) (σ.set i (some (.ref a))) H)
section
variable {X : Cx} {x1 x2 n : Str} {c1 c2 : Value} {i : Nat} {body r1 r2 : List Stmt} {f1 f2 : Stmt} {np1 np2 pos p1 p2 : Pos} {tb : WX → TS} {u1 u2 : TSu}
theorem ps_two (eS : X.stack = X.env :: X.outer) (eF : X.env.frame = some X.env.locals) (nd : X.N.Nodup) (at_ : X.N[i]? = some n) (loc : X.env.kindOf n = some .local) (C1 : Names X x1 c1) (C2 : Names X x2 c2)
    (B : ∀ (W : WX) (pn : List (Addr × Obj)) (xe : Value → Shared → Prop), Takes (X.tr pn xe) W → PassesOwn (model X.prog X.w) X.A X.env xe → PSs (X.tr pn xe) body (tb W))
    (U1 : ∀ (a : Addr) (oe : Obj) (cls : Value) (d : Option Addr) (pn : List (Addr × Obj)), Zc cls d oe → (∃ vs, oe.data = .fields vs) → PSs (X.suite a ((a, oe) :: pn)) (f1 :: r1) (u1 a cls d))
    (U2 : ∀ (a : Addr) (oe : Obj) (cls : Value) (d : Option Addr) (pn : List (Addr × Obj)), Zc cls d oe → (∃ vs, oe.data = .fields vs) → PSs (X.suite a ((a, oe) :: pn)) (f2 :: r2) (u2 a cls d)) :
    PS X (.Try body [.ExceptHandler (some (.Name x1 np1)) (some n) (f1 :: r1) p1, .ExceptHandler (some (.Name x2 np2)) (some n) (f2 :: r2) p2] [] [] pos) (fun D σ H => tb (wTwo X.K c1 c2 i u1 u2 D) D σ H) := by
  refine ⟨fun pins s σ H D I start => ?_⟩
  have ok := I.ok
  have eFr : X.A.frames = some (X.env :: X.outer) := ok.frames.trans (congrArg some eS)
  refine wpAny_Try_except ?_
  refine wpAny_mono ((B (wTwo X.K c1 c2 i u1 u2 D) (X.pn ++ pins)
    (fun e t1 => wpAny (model X.prog X.w) X.A (noteFrame e X.env)
      (fun _ t2 => wpAny (model X.prog X.w) X.A (setFlight e none)
        (fun _ t3 => wpAny (model X.prog X.w) X.A
          (handleBy e X.env [.ExceptHandler (some (.Name x1 np1)) (some n) (f1 :: r1) p1, .ExceptHandler (some (.Name x2 np2)) (some n) (f2 :: r2) p2]) (SP X pins D) X.xe t3) X.xe t2) X.xe t1)
    (fun u sE caught => ?_) PassesOwn.looking).run [] s σ H D (I.toTry _) start)
    (fun f t hsp => ?_) (fun _ _ he => he)
  · -- an error is caught
    obtain ⟨a, Bd, sB, pB, σ', H', cls, d, rfl, JT, nb, grown, sky, free, os, ag, b, hb1, yes, no⟩ := caught
    have J0 : Inv X pins σ' H' sB := JT.ofTry ok
    rw [eS] at sky
    change wpAny (model X.prog X.w) X.A (noteFrame (Value.ref a) X.env) _ _ _
    refine Sky.land Zc.steady eFr eF sky fun h3 flies up3 => ?_
    have JL : Inv X pins σ' H' { sE with heap := h3 } := J0.landed nb flies.1 (grown.trans up3) os ag
    obtain ⟨ob, fv, obAt, obZ, obD⟩ := flies.there
    have apart : a ∉ frs (X.env :: X.outer) := fun hm => by
      obtain ⟨_, o2, at2, isnt⟩ := flies.2.2.1.mem hm
      cases obAt.symm.trans at2
      exact isnt _ obD
    have apart1 : a ≠ X.env.locals := fun z => apart (List.mem_filterMap.mpr ⟨X.env, List.mem_cons_self, eF.trans (congrArg some z.symm)⟩)
    have apart2 : a ∉ X.fs := fun hm => by
      obtain ⟨en, mem, q⟩ := List.mem_filterMap.mp hm
      exact apart (List.mem_filterMap.mpr ⟨en, List.mem_cons_of_mem _ mem, q⟩)
    have SL := JL.suite obAt obD free apart1 apart2
    have clause : ∀ {x : Str} {c : Value} {np p : Pos} {f : Stmt} {r : List Stmt} {u : TSu} {more : List ExceptHandler} {bb : Bool}, Names X x c →
        (∀ (a : Addr) (oe : Obj) (cls : Value) (d : Option Addr) (pn : List (Addr × Obj)), Zc cls d oe → (∃ vs, oe.data = .fields vs) → PSs (X.suite a ((a, oe) :: pn)) (f :: r) (u a cls d)) →
        PySem.W.exmOne X.K cls c = some bb → (bb = true → u a cls d (offE D i) (σ'.set i (some (.ref a))) H') →
        (bb = false → wpAny (model X.prog X.w) X.A (handleBy (.ref a) X.env more) (SP X pins D) X.xe { sE with heap := h3 }) →
        wpAny (model X.prog X.w) X.A (handleBy (.ref a) X.env (.ExceptHandler (some (.Name x np)) (some n) (f :: r) p :: more)) (SP X pins D) X.xe { sE with heap := h3 } := by
      intro x c np p f r u more bb hc hu hbb hyes hno
      refine wpAny_handleBy_cons (codeAny_handlers_test ?_) (fun q => by cases q)
      have kind_ : PySem.W.Looks (model X.prog X.w) h3 (typeOf (.ref a)) cls := fun _ _ _ _ kp q =>
        wpAny_typeOf_ref (kp _ _ obAt) (by rw [obZ.1]; exact q)
      have fits := PySem.W.exm_one (M := model X.prog X.w) JL.kIn kind_ hbb
      have named : ∀ {Q E : Value → Shared → Prop}, Q c { sE with heap := h3 } →
          wpAny (model X.prog X.w) (X.A.mark (some (.ref a))) (eval (.Name x np) X.env) Q E { sE with heap := h3 } := fun {Q E} q => by
        obtain ⟨hg, hd, own | ⟨none_, blt, nn⟩⟩ := hc
        · exact ld_glob (X := X.suite a ((a, ob) :: (X.pn ++ pins))) SL hg own q hd
        · exact ld_blt (X := X.suite a ((a, ob) :: (X.pn ++ pins))) SL hg none_ blt q nn hd
      refine named (fits.here ?_)
      cases bb with
      | false =>
        show wpAny _ X.A (handleBy (.ref a) X.env more) _ _ _
        exact hno rfl
      | true =>
        refine codeAny_handlers_suite_as (HandSPX.lands_againZ flies fun h4 flies4 up4 => ?_)
        have J4 : Inv X pins σ' H' { sE with heap := h4 } := J0.landed nb flies4.1 ((grown.trans up3).trans up4) os ag
        obtain ⟨ob4, fv4, at4, z4, d4⟩ := flies4.there
        have sl4 := J4.suite at4 d4 free apart1 apart2
        refine store_ok (X := X.suite a ((a, ob4) :: (X.pn ++ pins))) (v := .ref a) sl4 nd at_ (.inl loc) rfl (fun s5 S5 => ?_) (.inr loc)
        have done_ : ∀ {σz : L2.St} {Hz : Hp} {sz : Shared} {Q : Shared → Prop}, Inv (X.suite a ((a, ob4) :: (X.pn ++ pins))) [] σz Hz sz → (∀ t, Inv X pins (σz.set i none) Hz t → Q t) →
            wpAny (model X.prog X.w) X.A (do bindName X.env n .none; unbindBehindTheSuite X.env n p) (fun _ t => Q t) X.xe sz := fun Sz hq => gone_ok (Sz.unsuite ok) nd at_ loc hq
        refine wpAny_mono ((hu a ob4 cls d (X.pn ++ pins) z4 ⟨_, d4⟩).run [] s5 _ H' _ S5 (hyes rfl)) (fun f6 s6 end6 => ?_) (fun _ _ z => z.elim)
        cases f6 with
        | ret u6 =>
          obtain ⟨v6, σ6, H6, S6, r6, q6⟩ := end6
          exact done_ S6 fun t Jt => ⟨_, _, _, Jt, r6, q6⟩
        | _ =>
          obtain ⟨σ6, H6, S6, q6⟩ := end6
          exact done_ S6 fun t Jt => ⟨_, _, Jt, q6⟩
    exact clause C1 U1 hb1 (fun e => yes e a free) fun e => clause C2 U2 (no e).1 (fun _ => (no e).2 a free) fun e2 => by cases e2
  · cases f with
    | ret u =>
      obtain ⟨v, σr, Hr, JT, rr, q⟩ := hsp
      exact ⟨v, σr, Hr, JT.ofTry ok, rr, q⟩
    | next =>
      obtain ⟨σr, Hr, JT, q⟩ := hsp
      exact wpAny_execs_nil ⟨σr, Hr, JT.ofTry ok, q⟩
    | _ =>
      obtain ⟨σr, Hr, JT, q⟩ := hsp
      exact ⟨σr, Hr, JT.ofTry ok, q⟩
end
def dTry2 (E1 E2 : Addr) (i : Nat) (b : DX → TDS) (s1 s2 : Addr → TDS) : TDS := fun DD sd m =>
  b (fun sd' cls fo m' => fo = none ∧ ((cls = .ref E1 ∧ ∀ a, m' a = none → s1 a (DD.off i) (sd'.set i (some (.ref a))) m') ∨ (cls = .ref E2 ∧ ∀ a, m' a = none → s2 a (DD.off i) (sd'.set i (some (.ref a))) m'))) DD sd m
section
variable {X : Cx} {H0 : Hp} {x1 x2 n : Str} {c1 c2 : Value} {E1 E2 : Addr} {i : Nat} {body r1 r2 : List Stmt} {f1 f2 : Stmt} {np1 np2 pos p1 p2 : Pos} {b : DX → TDS} {s1 s2 : Addr → TDS}
theorem qs_try2 (hs : X.stack = X.env :: X.outer) (hf : X.env.frame = some X.env.locals) (hN : X.N.Nodup) (hi : X.N[i]? = some n) (hln : X.env.kindOf n = some .local) (hc1 : Names X x1 c1) (hc2 : Names X x2 c2)
    (h11 : PySem.W.exmOne X.K (.ref E1) c1 = some true) (h21 : PySem.W.exmOne X.K (.ref E2) c1 = some false) (h22 : PySem.W.exmOne X.K (.ref E2) c2 = some true)
    (hb : ∀ (H1 : Hp) (exx : DX) (W : WX) (pn : List (Addr × Obj)) (xe : Value → Shared → Prop), Takes (X.tr pn xe) W → PassesOwn (model X.prog X.w) X.A X.env xe → WW X.K H1 exx W → PSs (X.tr pn xe) body (lS X.K H1 (b exx)))
    (hs1 : ∀ (a : Addr) (oe : Obj) (pn : List (Addr × Obj)), Zc (.ref E1) none oe → (∃ vs, oe.data = .fields vs) → PSs (X.suite a ((a, oe) :: pn)) (f1 :: r1) (lS X.K H0 (s1 a)))
    (hs2 : ∀ (a : Addr) (oe : Obj) (pn : List (Addr × Obj)), Zc (.ref E2) none oe → (∃ vs, oe.data = .fields vs) → PSs (X.suite a ((a, oe) :: pn)) (f2 :: r2) (lS X.K H0 (s2 a))) :
    PS X (.Try body [.ExceptHandler (some (.Name x1 np1)) (some n) (f1 :: r1) p1, .ExceptHandler (some (.Name x2 np2)) (some n) (f2 :: r2) p2] [] [] pos) (lS X.K H0 (dTry2 E1 E2 i b s1 s2)) :=
  psL (ps_two (tb := fun W D σ H => ∃ exx, WW X.K H exx W ∧ lS X.K H (b exx) D σ H) (u1 := fun a cls d D σ H => cls = .ref E1 ∧ d = none ∧ lS X.K H0 (s1 a) D σ H) (u2 := fun a cls d D σ H => cls = .ref E2 ∧ d = none ∧ lS X.K H0 (s2 a) D σ H) hs hf hN hi hln hc1 hc2
    (fun W pn xe tkk po => ⟨fun pins s σ H D I h => by
      obtain ⟨exx, w1, h⟩ := h
      exact (hb H exx W pn xe tkk po w1).run pins s σ H D I h⟩)
    (fun a oe cls d pn hz hd => ⟨fun pins s σ H D I h => by
      obtain ⟨e1, e2, h⟩ := h
      subst e1 e2
      exact (hs1 a oe pn hz hd).run pins s σ H D I h⟩)
    (fun a oe cls d pn hz hd => ⟨fun pins s σ H D I h => by
      obtain ⟨e1, e2, h⟩ := h
      subst e1 e2
      exact (hs2 a oe pn hz hd).run pins s σ H D I h⟩)) fun D σ H h => by
    obtain ⟨sd, m, DD, a0, p, q1, q2, q3, q4⟩ := h
    refine ⟨_, fun sd' σ' cls fo m' od H' k rs rm xr he => ?_, sd, m, DD, ⟨a0.s, a0.m, Keep.refl _⟩, p, q1, q2, q3, q4⟩
    obtain ⟨hfo, he⟩ := he
    subst hfo
    have hod : od = none := by
      cases od with
      | none => rfl
      | some d => exact xr.elim
    have ends : ∀ (st : Addr → TDS) (a : Addr), H' a = none → st a (DD.off i) (sd'.set i (some (.ref a))) m' → lS X.K H0 (st a) (offE D i) (σ'.set i (some (.ref a))) H' := fun st a ha h3 => by
      refine ⟨_, m', DD.off i, ⟨rs.set i (.ref a), rm, a0.k.trans k⟩, h3, ?_, ?_, ?_, ?_⟩
      · exact fun sd2 m2 σ2 H2 k2 r2 rm2 p2 => q1 _ m2 _ H2 (k.trans k2) (r2.setNone i) rm2 p2
      · exact fun d m2 v H2 k2 rm2 rd p2 => q2 d m2 v H2 (k.trans k2) rm2 rd p2
      · exact fun sd2 m2 σ2 H2 k2 r2 rm2 p2 => q3 _ m2 _ H2 (k.trans k2) (r2.setNone i) rm2 p2
      · exact fun sd2 m2 σ2 H2 k2 r2 rm2 p2 => q4 _ m2 _ H2 (k.trans k2) (r2.setNone i) rm2 p2
    rcases he with ⟨rfl, h3⟩ | ⟨rfl, h3⟩
    · exact ⟨true, h11, fun _ a ha => ⟨rfl, hod, ends s1 a ha (h3 a (rm.free ha))⟩, (fun e => by cases e)⟩
    · exact ⟨false, h21, (fun e => by cases e), fun _ => ⟨h22, fun a ha => ⟨rfl, hod, ends s2 a ha (h3 a (rm.free ha))⟩⟩⟩
end
end Q4

set_option Elab.async false
set_option linter.all false
set_option maxRecDepth 100000
namespace Q4
open PySem L2 PySem.Spec PyProof.Rows
open PyProof.Rows (envOfC)
/-! ### objects of own classes -/
theorem ins_lookup {K : PySem.W.Frag} {H : Hp} {f : Str} : ∀ {fs : List (Str × D)} {gs : List (Str × V)}, RDs K H (fs.map (·.2)) (gs.map (·.2)) → fs.map (·.1) = gs.map (·.1) →
    (fs.lookup f = none → gs.lookup f = none) ∧ ∀ d, fs.lookup f = some d → ∃ v, gs.lookup f = some v ∧ RD K H d v
  | [], [], _, _ => ⟨fun _ => rfl, fun d h => by cases h⟩
  | [], _ :: _, r, _ => by have := r.length; cases this
  | _ :: _, [], r, _ => by have := r.length; cases this
  | (g, d) :: fs, (g', v) :: gs, r, e => by
    rw [List.map_cons, List.map_cons] at r e
    obtain ⟨e1, e2⟩ := List.cons.inj e
    have e1 : g = g' := e1
    subst e1
    cases r with
    | cons r0 rr =>
      obtain ⟨h1, h2⟩ := ins_lookup (f := f) rr e2
      rw [List.lookup_cons, List.lookup_cons]
      cases hb : f == g with
      | true => exact ⟨(fun h => by cases h), (fun d' h => by cases h; exact ⟨v, rfl, r0⟩)⟩
      | false => exact ⟨h1, h2⟩
def putFD (f : Str) (v : D) : List (Str × D) → List (Str × D)
  | [] => [(f, v)]
  | (g, x) :: r => if g = f then (g, v) :: r else (g, x) :: putFD f v r
theorem ins_put {K : PySem.W.Frag} {H : Hp} {f : Str} {d : D} {v : V} (h : RD K H d v) : ∀ {fs : List (Str × D)} {gs : List (Str × V)}, RDs K H (fs.map (·.2)) (gs.map (·.2)) → fs.map (·.1) = gs.map (·.1) →
    RDs K H ((putFD f d fs).map (·.2)) ((putF f v gs).map (·.2)) ∧ (putFD f d fs).map (·.1) = (putF f v gs).map (·.1)
  | [], [], _, _ => ⟨.cons h .nil, rfl⟩
  | [], _ :: _, r, _ => by have := r.length; cases this
  | _ :: _, [], r, _ => by have := r.length; cases this
  | (g, x) :: fs, (g', y) :: gs, r, e => by
    rw [List.map_cons, List.map_cons] at r e
    obtain ⟨e1, e2⟩ := List.cons.inj e
    have e1 : g = g' := e1
    subst e1
    cases r with
    | cons r0 rr =>
      obtain ⟨h1, h2⟩ := ins_put h rr e2
      rw [putFD, putF]
      by_cases hg : g = f
      · rw [if_pos hg, if_pos hg]
        exact ⟨.cons h rr, by rw [List.map_cons, List.map_cons, e2]⟩
      · rw [if_neg hg, if_neg hg]
        exact ⟨.cons r0 h1, by rw [List.map_cons, List.map_cons, h2]⟩
theorem RM.ins {K : PySem.W.Frag} {H : Hp} {m : M} {a C dx : Addr} {fs : List (Str × D)} (r : RM K H m) (h : m a = some (.ins C dx fs)) : ∃ gs, H a = some (.ins C dx gs) ∧ RDs K H (fs.map (·.2)) (gs.map (·.2)) ∧ fs.map (·.1) = gs.map (·.1) := r a _ h
theorem Keep.ins {K : PySem.W.Frag} {H : Hp} {p C dx : Addr} {gs : List (Str × V)} {o : HO} (h : H p = some (.ins C dx gs)) : Keep K H (upd H p o) := by
  refine ⟨fun a xs q => ?_, fun a xs q => ?_⟩
  · rcases q with (q | ⟨o', q⟩) | q
    · exact .inl (.inl ((upd_ne (ne_of q h (by simp))).trans q))
    · exact .inl (.inr ⟨o', (upd_ne (ne_of q h (by simp))).trans q⟩)
    · exact .inr q
  · rcases q with ⟨o', q⟩ | q
    · exact .inl ⟨o', (upd_ne (ne_of q h (by simp))).trans q⟩
    · exact .inr q
theorem RM.setIns {K : PySem.W.Frag} {H : Hp} {m : M} (r : RM K H m) {p C dx : Addr} {gs gs' : List (Str × V)} {fs : List (Str × D)} (h : H p = some (.ins C dx gs)) (q : RDs K H (fs.map (·.2)) (gs'.map (·.2))) (q2 : fs.map (·.1) = gs'.map (·.1)) :
    RM K (upd H p (.ins C dx gs')) (put m p (.ins C dx fs)) := fun a u e => by
  by_cases n : a = p
  · subst n
    rw [put_same] at e
    cases e
    exact ⟨gs', upd_same, q.mono (Keep.ins h), q2⟩
  · rw [put_ne n] at e
    exact (r a u e).stay (Keep.ins h) (upd_ne n)
/-- t.f of an object of the class C -/
def dFld (C : Addr) (t : TDE) (f : Str) : TDE := fun sd m P => t sd m fun x m1 => ∃ a dx fs v, x = .ref a ∧ m1 a = some (.ins C dx fs) ∧ fs.lookup f = some v ∧ P v m1
/-- t.f = u -/
def dSetFld (C : Addr) (t u : TDE) (f : Str) : TDS := fun DD sd m => u sd m fun y m1 => t sd m1 fun x m2 => ∃ a dx fs, x = .ref a ∧ m2 a = some (.ins C dx fs) ∧ fs.length < 1000 ∧ DD.nx sd (put m2 a (.ins C dx (putFD f y fs)))
/-- t.m(u ..) of an object of the class C -/
def dMeth (C : Addr) (f : Str) (d : DSp) (t : TDE) (u : TDA) : TDE := fun sd m P => t sd m fun x m1 => ∃ a dx fs, x = .ref a ∧ m1 a = some (.ins C dx fs) ∧ fs.lookup f = none ∧ u sd m1 fun xs m2 => d (x :: xs) m2 P noX
/-- C() -/
def dMake0 (C : Addr) (d : DSp) : TDE := fun _ m P => ∀ x dx, m x = none → d [.ref x] (put m x (.ins C dx [])) (fun v m2 => v = .non ∧ P (.ref x) m2) noX
structure FunAtM (K : PySem.W.Frag) (C : Addr) (x qual : Str) (st : Stmt) (ps : List Str) : Prop where
  ex : ∃ f fd, Fun K x qual st f fd ∧ Meth K C x f ∧ ∀ us : List Value, us.length = ps.length → bindArgs fd ⟨us, []⟩ = pure (ps.zip us)
structure CalleeM (P : Program) (w : World) (K : PySem.W.Frag) (mg : Str → Option Value) (k : Nat) (C : Addr) (x : Str) (ps : List Str) (d : DSp) : Prop where
  ex : ∃ f fd, Meth K C x f ∧ (∀ us : List Value, us.length = ps.length → bindArgs fd ⟨us, []⟩ = pure (ps.zip us)) ∧ ∀ base, FnOk P w K mg base CX0 k f fd ps (lSp K d)
section
variable {P : Program} {w : World} {K : PySem.W.Frag} {mg : Str → Option Value} {C : Addr} {x qual : Str} {st : Stmt} {ps N : List Str} {d : DSp} {k j : Nat}
theorem CalleeM.mono (c : CalleeM P w K mg j C x ps d) (h : j ≤ k) : CalleeM P w K mg k C x ps d := by
  obtain ⟨f, fd, a, b, e⟩ := c.ex
  exact ⟨f, fd, a, b, fun base => (e base).mono h⟩
theorem FunAtM.callee (F : FunAtM K C x qual st ps) (S : FnScope N ps (defScope st)) (len : ∀ ds m P EX, d ds m P EX → ds.length = ps.length)
    (t : TDS) (hread : ∀ ds m P EX, d ds m P EX → t { nx := fun _ m' => Ret P .non m', rt := Ret P } (dstart N ds) m)
    (hbody : ∀ (base : Heap) (f : Addr) (cdv : Value) (A : Around) (outer : List Env) (s : Shared) (H : Hp) (E : XK), Room k (A.deeper (envOfC qual (defScope st) s.heap.objs.size f cdv)) → PSs (cxOf CX0 P w K mg base N qual (defScope st) f cdv A outer s H E).nox (defBody st) (lS K H t)) :
    CalleeM P w K mg (k + 1) C x ps d := by
  obtain ⟨f, fd, F1, a, c⟩ := F.ex
  exact ⟨f, fd, a, c, fun base => Fun.okD F1 S len t hread (hbody base f)⟩
end
section
variable {X : Cx} {H0 : Hp} {C : Addr}
theorem qe_fld {e : Expr} {t : TDE} {f : Str} {pos : Pos} (c : Cls X.K C) (n : NoAttr X.K C f) (he : PE X e (lE X.K H0 t)) (hb : attributeBase e f X.env (eval e X.env) = eval e X.env := by rfl) : PE X (.Attribute e f pos) (lE X.K H0 (dFld C t f)) := peL (pe_fld he hb) fun σ H Q h => by
  obtain ⟨sd, m, P, a, p, q⟩ := h
  refine ⟨sd, m, _, a, p, fun x m1 u H1 k1 r1 d1 p1 => ?_⟩
  obtain ⟨ad, dx, fs, v, rfl, hm, hf, p2⟩ := p1
  obtain rfl := d1.ref_
  obtain ⟨gs, e1, e2, e3⟩ := r1.ins hm
  obtain ⟨w, hw, rw⟩ := (ins_lookup e2 e3).2 v hf
  exact ⟨ad, C, dx, gs, w, rfl, e1, c, n, hw, q v m1 w H1 k1 r1 rw p2⟩
theorem qs_setFld {o e : Expr} {t u : TDE} {f : Str} {pos pos' : Pos} (c : Cls X.K C) (n : NoAttr X.K C f) (ho : PE X o (lE X.K H0 t)) (he : PE X e (lE X.K H0 u)) (hs : swapsWith e (some (.Attribute o f pos')) pos.line X.env = pure false := by rfl) :
    PS X (.Assign [.Attribute o f pos'] e pos) (lS X.K H0 (dSetFld C t u f)) := psL (ps_fld ho he hs) fun D σ H h => by
  obtain ⟨sd, m, DD, aa, p, q⟩ := h
  refine ⟨sd, m, _, aa, p, fun y m1 w1 H1 k1 r1 d1 p1 => ⟨sd, m1, _, aa.to k1 r1, p1, fun x m2 w2 H2 k2 r2 d2 p2 => ?_⟩⟩
  obtain ⟨ad, dx, fs, rfl, hm, hl, p3⟩ := p2
  obtain rfl := d2.ref_
  obtain ⟨gs, e1, e2, e3⟩ := r2.ins hm
  have el : fs.length = gs.length := by rw [← List.length_map (f := (·.1)) (as := fs), e3, List.length_map]
  obtain ⟨i1, i2⟩ := ins_put (f := f) (d1.mono k2) e2 e3
  have KK : Keep X.K H (upd H2 ad (.ins C dx (putF f w1 gs))) := (k1.trans k2).trans (Keep.ins e1)
  exact ⟨ad, C, dx, gs, rfl, e1, c, n, by omega, q.1 _ _ _ _ KK (aa.s.mono KK) (r2.setIns e1 i1 i2) p3⟩
theorem l_meth {K : PySem.W.Frag} {H0 : Hp} {f : Str} {d : DSp} {t : TDE} {u : TDA} {σ : L2.St} {H : Hp} {Q : VK} (h : lE K H0 (dMeth C f d t u) σ H Q) : tMeth C f (lSp K d) [] E0 (lE K H0 t) (lA K H0 u) σ H Q := by
  obtain ⟨sd, m, P, aa, p, q⟩ := h
  refine ⟨sd, m, _, aa, p, fun x m1 w1 H1 k1 r1 d1 p1 => ?_⟩
  obtain ⟨ad, dx, fs, rfl, hm, hf, p2⟩ := p1
  obtain rfl := d1.ref_
  obtain ⟨gs, e1, e2, e3⟩ := r1.ins hm
  refine ⟨ad, dx, gs, rfl, e1, (ins_lookup e2 e3).1 hf, sd, m1, _, aa.to k1 r1, p2, fun xs m2 us H2 k2 r2 d2 p3 => ?_⟩
  show lSp K d (.ref ad :: (us ++ [])) H2 Q E0
  rw [List.append_nil]
  exact ⟨.ref ad :: xs, m2, P, noX, .cons (.ref ad) d2, r2, p3, fun d m' w H' k => q d m' w H' ((k1.trans k2).trans k), wantsX0⟩
theorem l_meth0 {K : PySem.W.Frag} {H0 : Hp} {f : Str} {d : DSp} {t : TDE} {σ : L2.St} {H : Hp} {Q : VK} (h : lE K H0 (dMeth C f d t dNil) σ H Q) : tMeth C f (lSp K d) [] E0 (lE K H0 t) tNil σ H Q := by
  obtain ⟨sd, m, P, aa, p, q⟩ := h
  refine ⟨sd, m, _, aa, p, fun x m1 w1 H1 k1 r1 d1 p1 => ?_⟩
  obtain ⟨ad, dx, fs, rfl, hm, hf, p2⟩ := p1
  obtain rfl := d1.ref_
  obtain ⟨gs, e1, e2, e3⟩ := r1.ins hm
  exact ⟨ad, dx, gs, rfl, e1, (ins_lookup e2 e3).1 hf, [.ref ad], m1, P, noX, .cons (.ref ad) .nil, r1, p2, fun d m' w H' k => q d m' w H' (k1.trans k), wantsX0⟩
theorem qe_meth {k : Nat} {f : Str} {ps : List Str} {d : DSp} {o e : Expr} {es : List Expr} {apos pos : Pos} {t : TDE} {u : TDA} {pl : Sem Bool} (c : Cls X.K C) (M : CalleeM X.prog X.w X.K X.mg k C f ps d) (hr : Room k X.A) (ho : PE X o (lE X.K H0 t)) (ha : PA X (e :: es) (lA X.K H0 u))
    (e1 : starEach (e :: es) X.env = (false, eval e X.env) :: starEach es X.env := by rfl) (e2 : (backTo pos (starEach es X.env)).any (·.1) = false := by rfl)
    (ht : eval (.Call (.Attribute o f apos) (e :: es) [] pos) X.env = (do
      let ov ← eval o X.env
      standAt apos.atName
      let (g, first) ← holding [ov] (getMethod ov f pl)
      callWith pos g first (backTo pos (starEach (e :: es) X.env)) (backToKw pos (keywordEach [] X.env))) := by rfl) :
    PE X (.Call (.Attribute o f apos) (e :: es) [] pos) (lE X.K H0 (dMeth C f d t u)) := by
  obtain ⟨g, fd, a, b, F⟩ := M.ex
  exact peL (pe_meth (pl := pl) (E := E0) ho c a (F X.base) hr (.all b) .nil pass0 ha e1 e2 ht) fun _ _ _ => l_meth
theorem qe_meth0 {k : Nat} {f : Str} {ps : List Str} {d : DSp} {o : Expr} {apos pos : Pos} {t : TDE} {pl : Sem Bool} (c : Cls X.K C) (M : CalleeM X.prog X.w X.K X.mg k C f ps d) (hr : Room k X.A) (ho : PE X o (lE X.K H0 t))
    (ht : eval (.Call (.Attribute o f apos) [] [] pos) X.env = (do
      let ov ← eval o X.env
      standAt apos.atName
      let (g, first) ← holding [ov] (getMethod ov f pl)
      callWith pos g first (backTo pos (starEach [] X.env)) (backToKw pos (keywordEach [] X.env))) := by rfl) :
    PE X (.Call (.Attribute o f apos) [] [] pos) (lE X.K H0 (dMeth C f d t dNil)) := by
  obtain ⟨g, fd, a, b, F⟩ := M.ex
  exact peL (pe_meth0 (pl := pl) (E := E0) ho c a (F X.base) hr (.all b) .nil pass0 ht) fun σ H Q h => l_meth0 h
theorem RM.newIns {K : PySem.W.Frag} {H : Hp} {m : M} (r : RM K H m) {p dx C : Addr} (h : H p = none) : RM K (upd H p (.ins C dx [])) (put m p (.ins C dx [])) := fun a u e => by
  by_cases n : a = p
  · subst n
    rw [put_same] at e
    cases e
    exact ⟨[], upd_same, .nil, rfl⟩
  · rw [put_ne n] at e
    exact (r a u e).stay (Keep.new h) (upd_ne n)
theorem qe_make0 {k : Nat} {d : DSp} {x : Str} {p pos : Pos} (mk : PySem.W.makesIn X.K C = true) (kc : PySem.W.keepIn X.K (.ref C) = true) (I : CalleeM X.prog X.w X.K X.mg k C "__init__" ["self"] d) (hr : Room (k + 1) X.A) (hg : Gl X x) (hm : X.mg x = some (.ref C))
    (hdb : (x == ("__debug__" : Str)) = false := by decide) : PE X (.Call (.Name x p) [] [] pos) (lE X.K H0 (dMake0 C d)) := by
  obtain ⟨g, fd, a, b, F⟩ := I.ex
  refine peL (pe_make0 (E := E0) ⟨mk, a.at_, a.fn, kc⟩ (F X.base) hr hg hm (.all b) .nil pass0 hdb) fun σ H Q h => ?_
  obtain ⟨sd, m, P, aa, p, q⟩ := h
  intro y dx hy hdx hne
  have hy2 : upd H dx (.own y) y = none := (upd_ne (Ne.symm hne)).trans hy
  have kk : Keep X.K H (upd (upd H dx (.own y)) y (.ins C dx [])) := (Keep.new hdx).trans (Keep.new hy2)
  refine ⟨[.ref y], _, fun v m2 => v = .non ∧ P (.ref y) m2, noX, .cons (.ref y) .nil, (aa.m.new hdx).newIns hy2, p y dx (aa.m.free hy), fun v m' w H' k r rd ⟨ev, pp⟩ => ?_, wantsX0⟩
  subst ev
  exact ⟨rd.non_, q _ m' _ H' (kk.trans k) r (.ref y) pp⟩
end
/-! ### del d[k], l.insert(i, x), l.pop(i) -/
def dropD (kvs : List (Key × D)) (k : Key) : List (Key × D) := kvs.filter fun p => decide (p.1 ≠ k)
/-- del t[u] of a dict -/
def dDDel (t u : TDE) : TDS := fun DD sd m => t sd m fun x m1 => u sd m1 fun y m2 => ∃ a kvs k, x = .ref a ∧ y = kD k ∧ m2 a = some (.dct kvs) ∧ (valD kvs k).isSome = true ∧ DD.nx sd (put m2 a (.dct (dropD kvs k)))
def rInsert : RmD := fun x ys m P => match x, ys with
  | .ref a, [.int i, y] => ∃ xs, m a = some (.lst xs) ∧ xs.length < sizeLine ∧ 0 ≤ i ∧ i < 2 ^ 63 ∧ P .non (put m a (.lst (xs.take i.toNat ++ [y] ++ xs.drop i.toNat)))
  | _, _ => False
def rPopAtD : RmD := fun x ys m P => match x, ys with
  | .ref a, [.int i] => ∃ xs y, m a = some (.lst xs) ∧ 0 ≤ i ∧ i < 2 ^ 62 ∧ xs[i.toNat]? = some y ∧ P y (put m a (.lst (xs.eraseIdx i.toNat)))
  | _, _ => False
theorem RK.drop {K : PySem.W.Frag} {H : Hp} (k : Key) : ∀ {kvs : List (Key × D)} {gs : List (Key × V)}, RK K H kvs gs → RK K H (dropD kvs k) (dropK gs k)
  | [], [], _ => .nil
  | [], _ :: _, r => by have := r.length; cases this
  | _ :: _, [], r => by have := r.length; cases this
  | p :: kvs, q :: gs, r => by
    obtain ⟨e, h, r2⟩ := r.cons
    have ih := RK.drop k r2
    unfold dropD dropK at ih ⊢
    rw [List.filter_cons, List.filter_cons]
    by_cases hk : p.1 = k
    · rw [if_neg (by simp [hk]), if_neg (by simp [← e, hk])]
      exact ih
    · rw [if_pos (by simp [hk]), if_pos (by simp [← e, hk])]
      exact .mk_cons e h ih
theorem RDs.erase {K : PySem.W.Frag} {H : Hp} : ∀ {xs : List D} {vs : List V}, RDs K H xs vs → ∀ n, RDs K H (xs.eraseIdx n) (vs.eraseIdx n)
  | _, _, .nil, _ => .nil
  | _, _, .cons h r, 0 => r
  | _, _, .cons h r, n + 1 => .cons h (r.erase n)
section
variable {X : Cx} {H0 : Hp}
theorem qs_ddel {o i : Expr} {t u : TDE} {pos tpos : Pos} (ho : PE X o (lE X.K H0 t)) (hi : PE X i (lE X.K H0 u)) : PS X (.Delete [.Subscript o i tpos] pos) (lS X.K H0 (dDDel t u)) := psL (ps_ddel ho hi) fun DD σ H h => by
  obtain ⟨sd, m, EE, aa, p, q⟩ := h
  refine ⟨sd, m, _, aa, p, fun x m1 w1 H1 k1 r1 d1 p1 => ⟨sd, m1, _, aa.to k1 r1, p1, fun y m2 w2 H2 k2 r2 d2 p2 => ?_⟩⟩
  obtain ⟨ad, kvs, k, rfl, rfl, hm, hv, p3⟩ := p2
  obtain rfl := (d1.mono k2).ref_
  obtain rfl := d2.key_
  obtain ⟨gs, e, rk⟩ := r2.dict hm
  have KK : Keep X.K H (upd H2 ad (.dK (dropK gs k))) := (k1.trans k2).trans (Keep.dk e)
  exact ⟨ad, gs, k, rfl, e, rfl, by rw [isSome_eq rk k]; exact hv, q.1 _ _ _ _ KK (aa.s.mono KK) (r2.setDct e (rk.drop k)) p3⟩
theorem isLst_ty {H : Hp} {m : M} {x : D} {u : V} (rm : RM X.K H m) (rx : RD X.K H x u) (h : isLst x m) : tyV X.K "list" u H := by
  unfold isLst at h
  split at h
  · cases rx.ref_
    obtain ⟨xs, h⟩ := h
    obtain ⟨vs, e, _⟩ := rm _ _ h
    exact .inl ⟨rfl, _, .inl (.inl e)⟩
  · exact h.elim
theorem md_insert : MethD X "list" "list.insert" isLst rInsert := by
  refine ⟨_, mt_insert, fun H m x u rm rx h => isLst_ty rm rx h, fun H m x u xs us P Q rm rx rs p q => ?_⟩
  unfold rInsert at p
  split at p
  · rename_i a i y
    cases rx.ref_
    obtain ⟨w1, w2, rfl, r1, r2⟩ := rs.two_
    obtain rfl := r1.int_
    obtain ⟨xs, hm, hl, h0, h1, p⟩ := p
    obtain ⟨vs, e, rr⟩ := rm _ _ hm
    refine ⟨a, vs, i, w2, rfl, rfl, e, by rw [← rr.length]; exact hl, h0, h1, q _ _ _ _ (Keep.lst e) (rm.setPut e (((rr.take _).append (.cons r2 .nil)).append (rr.drop _))) .non p⟩
  · exact p.elim
theorem md_popAt : MethD X "list" "list.pop" isLst rPopAtD := by
  refine ⟨_, mt_popAt, fun H m x u rm rx h => isLst_ty rm rx h, fun H m x u xs us P Q rm rx rs p q => ?_⟩
  unfold rPopAtD at p
  split at p
  · rename_i a i
    cases rx.ref_
    obtain ⟨w1, rfl, r1⟩ := rs.one_
    obtain rfl := r1.int_
    obtain ⟨xs, y, hm, h0, h1, hy, p⟩ := p
    obtain ⟨vs, e, rr⟩ := rm _ _ hm
    obtain ⟨v, hv, rv⟩ := rr.get hy
    have hlt := (List.getElem?_eq_some_iff.mp hv).1
    have hix : PySem.seqIndex? i vs.length = some i.toNat := by
      have n0 : ¬ i < 0 := by omega
      unfold PySem.seqIndex?
      simp only [if_neg n0]
      exact if_pos (by rw [Bool.and_eq_true]; exact ⟨decide_eq_true h0, decide_eq_true (by omega)⟩)
    exact ⟨a, vs, i, i.toNat, v, rfl, rfl, e, by omega, by omega, hix, hv, q _ _ _ _ (Keep.lst e) (rm.setPut e (rr.erase _)) (rv.mono (Keep.lst e)) p⟩
  · exact p.elim
end
/-! ### a comprehension over enumerate(l) of a list; a, b = t, u -/
def jNum (a : Addr) : DIt := fun i m o => ∃ xs, m a = some (.lst xs) ∧ o = (xs[i]?).map fun x => .tup [.int (i : Nat), x]
theorem lift_num {K : PySem.W.Frag} {H : Hp} {b : Addr} : LiftIt K H (jNum b) (Ite K b) := fun H2 k2 i m2 r2 o e => by
  obtain ⟨ys, hy, e⟩ := e
  obtain ⟨ws, e1, g2⟩ := r2 _ _ hy
  have g1 : SqL K H2 b ws := .inl (.inl e1)
  cases e2 : ys[i]? with
  | none =>
    rw [e2] at e
    subst e
    exact ⟨ws, g1, by rw [← g2.length]; exact List.getElem?_eq_none_iff.mp e2⟩
  | some x =>
    rw [e2] at e
    subst e
    obtain ⟨u, e3, r3⟩ := g2.get e2
    refine ⟨⟨ws, u, g1, e3⟩, fun v H3 y => ?_⟩
    obtain ⟨T, z, rfl, hn, rfl, hz⟩ := y
    have e5 := hz ws g1
    rw [e3] at e5
    cases e5
    have kk : Keep K H2 (upd H2 T (.tup [.int (i : Nat), u])) := Keep.new hn
    exact ⟨kk, r2.new hn, .tup (.inl (.inl upd_same)) ((RDs.cons (.int _) (.cons r3 .nil)).mono kk)⟩
def CN (a : Addr) (xs : List D) (g : TDG) (tt : TDT) (te : TDE) (vs : List Nat) (sd : DS) (m1 : M) (P : DK) : Prop := ∀ p, m1 p = none → ∃ W : Nat → List D → M → Prop, W 0 [] m1 ∧ (∀ i acc m2, i ≤ xs.length → W i acc m2 → m2 a = some (.lst xs)) ∧
  (∀ i x acc m2, xs[i]? = some x → W i acc m2 → CTurn g tt te vs sd p (W (i + 1)) (.tup [.int (i : Nat), x]) acc m2) ∧ ∀ acc m2, W xs.length acc m2 → P (.ref p) (put m2 p (.lst acc))
def dLcN (t : TDA) (g : TDG) (tt : TDT) (te : TDE) (vs : List Nat) : TDE := fun sd m P => t sd m fun ys m1 => match ys with | [.ref a] => ∃ xs, m1 a = some (.lst xs) ∧ CN a xs g tt te vs sd m1 P | _ => False
section
variable {K : PySem.W.Frag} {H0 H : Hp} {g : TDG} {tt : TDT} {te : TDE} {vs : List Nat} {sd : DS} {m1 : M} {P : DK} {p : Addr} {σ : L2.St} {Q : VK}
theorem c_num {a : Addr} {xs : List D} (hap : a ≠ p) (h : ∃ W : Nat → List D → M → Prop, W 0 [] m1 ∧ (∀ i acc m2, i ≤ xs.length → W i acc m2 → m2 a = some (.lst xs)) ∧ (∀ i x acc m2, xs[i]? = some x → W i acc m2 → CTurn g tt te vs sd p (W (i + 1)) (.tup [.int (i : Nat), x]) acc m2) ∧ ∀ acc m2, W xs.length acc m2 → P (.ref p) (put m2 p (.lst acc))) :
    ∃ (N : Nat) (W : Nat → List D → M → Prop), W 0 [] m1 ∧ ∀ i acc m2, W i acc m2 → i ≤ N ∧ ∃ o, jNum a i (put m2 p (.lst acc)) o ∧ match o with
      | none => P (.ref p) (put m2 p (.lst acc))
      | some x => CTurn g tt te vs sd p (W (i + 1)) x acc m2 := by
  obtain ⟨W, w0, wl, ws, wd⟩ := h
  refine ⟨xs.length, fun i acc m => i ≤ xs.length ∧ (i ≤ xs.length → W i acc m), ⟨Nat.zero_le _, fun _ => w0⟩, ?_⟩
  rintro i acc m2 ⟨hi, w⟩
  refine ⟨hi, ?_⟩
  have hl : put m2 p (.lst acc) a = some (.lst xs) := (put_ne hap).trans (wl i acc m2 hi (w hi))
  by_cases e : i < xs.length
  · exact ⟨some (.tup [.int (i : Nat), xs[i]]), ⟨xs, hl, by rw [List.getElem?_eq_getElem e]; rfl⟩, c_cut e (ws i xs[i] acc m2 (List.getElem?_eq_getElem e) (w hi))⟩
  · have : i = xs.length := by omega
    subst this
    exact ⟨none, ⟨xs, hl, by rw [List.getElem?_eq_none (Nat.le_refl _)]; rfl⟩, wd acc m2 (w hi)⟩
theorem l_lcN {t : TDA} (h : lE K H0 (dLcN t g tt te vs) σ H Q) : tLc (iEnum K (lA K H0 t)) (lG K H0 vs g) (lT K H0 tt) (lE K H0 te) vs σ H Q := by
  obtain ⟨sd, m, P, a, p, q⟩ := h
  refine ⟨sd, m, _, a, p, fun d m' v H' k r rd p' => ?_⟩
  split at p'
  · obtain ⟨u, rfl, r1⟩ := rd.one_
    cases r1.ref_
    obtain ⟨xs, h, p'⟩ := p'
    obtain ⟨ws, e1, rr⟩ := r _ _ h
    refine ⟨_, ws, rfl, .inl (.inl e1), fun D hD => lc_core a.k k a.s r lift_num q hD (c_num ?_ (p' D (r.free hD)))⟩
    intro e
    subst e
    rw [r.free hD] at h
    cases h
  · exact p'.elim
end
def dPar (i j : Nat) (t : TDA) : TDS := fun DD sd m => t sd m fun xs m1 => ∃ v w, xs = [v, w] ∧ DD.nx ((sd.set i (some v)).set j (some w)) m1
theorem qs_par {X : Cx} {H0 : Hp} {i j : Nat} {x y : Str} {a b : Expr} {t : TDA} {px py pt : Pos} {kt k2 : Nat} {pt2 pos : Pos} (hc : X.calm = true) (hN : X.N.Nodup) (hi : X.N[i]? = some x) (hj : X.N[j]? = some y) (hij : i ≠ j)
    (hx : X.env.scope.names.lookup x = some .local) (hy : X.env.scope.names.lookup y = some .local) (ha : PA X [a, b] (lA X.K H0 t))
    (hw : swappedStores [.Tuple [.Name x px, .Name y py] kt pt] (.Tuple [a, b] k2 pt2) X.env = pure (some [x, y])) (hs : swapsWithSole [.Tuple [.Name x px, .Name y py] kt pt] (.Tuple [a, b] k2 pt2) pos.line X.env = pure false := by rfl) :
    PS X (.Assign [.Tuple [.Name x px, .Name y py] kt pt] (.Tuple [a, b] k2 pt2) pos) (lS X.K H0 (dPar i j t)) := psL (ps_par hc hN hi hj hij hx hy ha hw hs) fun DD σ H h => by
  obtain ⟨sd, m, EE, aa, p, q⟩ := h
  refine ⟨sd, m, _, aa, p, fun xs m1 us H1 k1 r1 d1 p1 => ?_⟩
  obtain ⟨v, w, rfl, p2⟩ := p1
  obtain ⟨u1, u2, rfl, g1, g2⟩ := d1.two_
  exact ⟨u1, u2, rfl, q.1 _ _ _ _ k1 (((aa.s.mono k1).set i g1).set j g2) r1 p2⟩
theorem FunAtM.of {K : PySem.W.Frag} {C f : Addr} {x qual : Str} {st : Stmt} {ps : List Str} {oc kV doc pm cdv ct : Value} {od an : Option Addr} {osl : Array (Option Value)}
    (a1 : PySem.W.findIn K (.ref C) x = some (some (.ref f))) (i1 : PySem.W.isFn K (.ref f) = true) (l1 : K.lookup f = some ⟨oc, od, .func (PySem.W.fnOf x qual (defArgs st) (defBody st) (defScope st) .none kV doc pm an cdv ct), osl⟩) (c1 : PySem.W.codeIn K cdv qual = true) (k1 : PySem.W.keepIn K (.ref f) = true)
    (hb : ∀ (kV doc pm : Value) (an : Option Addr) (cdv ct : Value) (us : List Value), us.length = ps.length → bindArgs (PySem.W.fnOf x qual (defArgs st) (defBody st) (defScope st) .none kV doc pm an cdv ct) ⟨us, []⟩ = pure (ps.zip us)) : FunAtM K C x qual st ps :=
  ⟨f, _, fun_mk l1 c1 k1, ⟨a1, i1, k1⟩, hb kV doc pm an cdv ct⟩
end Q4

set_option maxHeartbeats 0
namespace Q4
open PySem L2
def topS (i : Nat) : Stmt := PySem.Challenge.pw_lendback_k57_memory_blocks.main.body.getD i (.Pass ⟨0, 0, 0, 0⟩)
abbrev s_Memory_init : Stmt := inClass (topS 4) 0
theorem sc_Memory_init : FnScope ["self"] ["self"] (defScope s_Memory_init) := ⟨rfl, rfl, rfl, by decide +kernel, rfl, by decide +kernel, by decide +kernel⟩
def b_Memory_init (x_Memory : Addr) : TDS := (dSeq (dSetFld x_Memory (dVar 0) (dLst dNil) "rows")
    (dSetFld x_Memory (dVar 0) dDNew "numbers"))
theorem ok_Memory_init {P : Program} {w : World} {K : PySem.W.Frag} {mg : Str → Option Value} {k : Nat} {d : DSp} {x_Memory : Addr} (F : FunAtM K x_Memory "__init__" "Memory.__init__" s_Memory_init ["self"]) (cl_Memory : Cls K x_Memory) (nf_Memory_rows : NoAttr K x_Memory "rows") (nf_Memory_numbers : NoAttr K x_Memory "numbers") (g_Memory : mg "Memory" = some (.ref x_Memory))
    (len : ∀ ds m P EX, d ds m P EX → ds.length = 1) (rd : ∀ ds m P EX, d ds m P EX → Go P (b_Memory_init x_Memory) (dstart ["self"] ds) m) : CalleeM P w K mg (k + 1) x_Memory "__init__" ["self"] d :=
  F.callee sc_Memory_init len (b_Memory_init x_Memory) rd fun base f cdv A outer s H E hr =>
    ((qss_cons (qs_setFld cl_Memory nf_Memory_rows (qv 0) (qe_lst qa_nil))
    (qss_one (qs_setFld cl_Memory nf_Memory_numbers (qv 0) qe_dnew))))
abbrev s_Memory_allocate : Stmt := inClass (topS 4) 1
theorem sc_Memory_allocate : FnScope ["self", "size", "cell", "address", "at"] ["self", "size"] (defScope s_Memory_allocate) := ⟨rfl, rfl, rfl, by decide +kernel, rfl, by decide +kernel, by decide +kernel⟩
def b_Memory_allocate (x_Memory : Addr) : TDS := (dSeq (dAsg (dTup (dCons (dC (.int 1)) (dCons (dC (.int 0)) dNil))) (dGTup 2 (dGCons (dName 3) (dGCons (dName 4) dGNil))))
    (dSeq (dWhile (dAnd (dB (dOp rLtD (dVar 4) (dCB rLen (dCons (dFld x_Memory (dVar 0) "rows") dNil)))) (dB (dOp rLtD (dOp rIxD (dOp rIxD (dFld x_Memory (dVar 0) "rows") (dVar 4)) (dC (.int 0))) (dOp rAdd (dVar 3) (dVar 1)))))
    (dSeq (dAsg (dOp rAdd (dOp rIxD (dOp rIxD (dFld x_Memory (dVar 0) "rows") (dVar 4)) (dC (.int 0))) (dOp rIxD (dOp rIxD (dFld x_Memory (dVar 0) "rows") (dVar 4)) (dC (.int 1)))) (dName 3))
    (dAug 4 (dC (.int 1)) (rInp fun i j => i + j))))
    (dSeq (dDrop (dBM isLst rInsert (dFld x_Memory (dVar 0) "rows") (dCons (dVar 4) (dCons (dTup (dCons (dVar 3) (dCons (dVar 1) dNil))) dNil))))
    (dSeq (dForR2 (dCons (dVar 3) (dCons (dOp rAdd (dVar 3) (dVar 1)) dNil)) (dName 2)
    (dDPut (dFld x_Memory (dVar 0) "numbers") (dVar 2) (dC (.int 0))))
    (dRet (dVar 3))))))
theorem ok_Memory_allocate {P : Program} {w : World} {K : PySem.W.Frag} {mg : Str → Option Value} {k : Nat} {d : DSp} {x_Memory : Addr} (F : FunAtM K x_Memory "allocate" "Memory.allocate" s_Memory_allocate ["self", "size"]) (cl_Memory : Cls K x_Memory) (nf_Memory_rows : NoAttr K x_Memory "rows") (nf_Memory_numbers : NoAttr K x_Memory "numbers") (z_len : mg "len" = none) (z_range : mg "range" = none) (g_Memory : mg "Memory" = some (.ref x_Memory))
    (len : ∀ ds m P EX, d ds m P EX → ds.length = 2) (rd : ∀ ds m P EX, d ds m P EX → Go P (b_Memory_allocate x_Memory) (dstart ["self", "size", "cell", "address", "at"] ds) m) : CalleeM P w K mg (k + 1) x_Memory "allocate" ["self", "size"] d :=
  F.callee sc_Memory_allocate len (b_Memory_allocate x_Memory) rd fun base f cdv A outer s H E hr =>
    ((qss_cons (qs_asg (vs := [3, 4]) (qe_tup (qa_cons qe_int (qa_cons qe_int qa_nil))) (qg_tup rfl (qgs_cons (qg_name (i := 3) sc_Memory_allocate.nd rfl (by first | exact Or.inl rfl | exact Or.inr rfl) (by decide)) (qgs_cons (qg_name (i := 4) sc_Memory_allocate.nd rfl (by first | exact Or.inl rfl | exact Or.inr rfl) (by decide)) qgs_nil))))
    (qss_cons (qs_while PassesOwn.never (PW.pt (qw_and (qt_cmp od_lt (qv 4) (qe_callB (cd_len) (by rfl) z_len PySem.boot_len (qa_cons (qe_fld cl_Memory nf_Memory_rows (qv 0)) qa_nil)) (nomark _)) (qw_and1 (qt_cmp od_lt (qe_ix (qe_ix (qe_fld cl_Memory nf_Memory_rows (qv 0)) (qv 4) (fun _ _ => rfl)) qe_int (fun _ _ => rfl)) (qe_op od_add (qv 3) (qv 1)) (nomark _)))))
    (qss_cons (qs_set (i := 3) sc_Memory_allocate.nd rfl (by first | exact Or.inl rfl | exact Or.inr rfl) (qe_op od_add (qe_ix (qe_ix (qe_fld cl_Memory nf_Memory_rows (qv 0)) (qv 4) (fun _ _ => rfl)) qe_int (fun _ _ => rfl)) (qe_ix (qe_ix (qe_fld cl_Memory nf_Memory_rows (qv 0)) (qv 4) (fun _ _ => rfl)) qe_int (fun _ _ => rfl))))
    (qss_one (qs_augI (i := 4) sc_Memory_allocate.nd rfl (by first | exact Or.inl rfl | exact Or.inr rfl) qe_int ip_add))))
    (qss_cons (qs_expr (qe_bm md_insert PySem.F.plainAttrs_list PySem.F.slot_list_insert PySem.F.type_list_insert (qe_fld cl_Memory nf_Memory_rows (qv 0)) (qa_cons (qv 4) (qa_cons (qe_tup (qa_cons (qv 3) (qa_cons (qv 1) qa_nil))) qa_nil))))
    (qss_cons (qs_forR2 (vs := [2]) PassesOwn.never rfl (by rfl) z_range (qa_cons (qv 3) (qa_cons (qe_op od_add (qv 3) (qv 1)) qa_nil)) (qg_name (i := 2) sc_Memory_allocate.nd rfl (by first | exact Or.inl rfl | exact Or.inr rfl) (by decide))
    (qss_one (qs_dput hr.units (qe_fld cl_Memory nf_Memory_numbers (qv 0)) (qv 2) qe_int (by rfl))))
    (qss_one (qs_ret (qv 3))))))))
abbrev s_Memory_release : Stmt := inClass (topS 4) 2
theorem sc_Memory_release : FnScope ["self", "address", "found", "cell", "_", "size", "at", "row"] ["self", "address"] (defScope s_Memory_release) := ⟨rfl, rfl, rfl, by decide +kernel, rfl, by decide +kernel, by decide +kernel⟩
def b_Memory_release (x_Memory : Addr) : TDS := (dSeq (dAsg (dLcN (dCons (dFld x_Memory (dVar 0) "rows") dNil) (dGTup 2 (dGCons (dName 6) (dGCons (dName 7) dGNil))) (dB (dOp rEqD (dOp rIxD (dVar 7) (dC (.int 0))) (dVar 1))) (dVar 6) [6, 7]) (dName 2))
    (dSeq (dIf (dNot (dTru (dVar 2)))
    dDead
    dNext)
    (dSeq (dAsg (dBM isLst rPopAtD (dFld x_Memory (dVar 0) "rows") (dCons (dOp rIxD (dVar 2) (dC (.int 0))) dNil)) (dGTup 2 (dGCons (dName 4) (dGCons (dName 5) dGNil))))
    (dForR2 (dCons (dVar 1) (dCons (dOp rAdd (dVar 1) (dVar 5)) dNil)) (dName 3)
    (dDDel (dFld x_Memory (dVar 0) "numbers") (dVar 3))))))
theorem ok_Memory_release {P : Program} {w : World} {K : PySem.W.Frag} {mg : Str → Option Value} {k : Nat} {d : DSp} {x_Memory : Addr} (F : FunAtM K x_Memory "release" "Memory.release" s_Memory_release ["self", "address"]) (cl_Memory : Cls K x_Memory) (nf_Memory_rows : NoAttr K x_Memory "rows") (nf_Memory_numbers : NoAttr K x_Memory "numbers") (z_enumerate : mg "enumerate" = none) (z_range : mg "range" = none) (g_Memory : mg "Memory" = some (.ref x_Memory))
    (len : ∀ ds m P EX, d ds m P EX → ds.length = 2) (rd : ∀ ds m P EX, d ds m P EX → Go P (b_Memory_release x_Memory) (dstart ["self", "address", "found", "cell", "_", "size", "at", "row"] ds) m) : CalleeM P w K mg (k + 1) x_Memory "release" ["self", "address"] d :=
  F.callee sc_Memory_release len (b_Memory_release x_Memory) rd fun base f cdv A outer s H E hr =>
    ((qss_cons (qs_lcX (i := 2) (own := [("at", 6), ("row", 7)]) rfl sc_Memory_release.nd rfl rfl (sw_true rfl rfl rfl (by decide +kernel)) (pi_enum (by rfl) z_enumerate (qa_cons (qe_fld cl_Memory nf_Memory_rows (qv 0)) qa_nil)) (blkOk_by (N := ["self", "address", "found", "cell", "_", "size", "at", "row"]) (sc := defScope s_Memory_release) (by decide +kernel)) (fun _ _ _ _ _ => (qg_tup rfl (qgs_cons (qg_name (i := 6) sc_Memory_release.nd rfl (by first | exact Or.inl rfl | exact Or.inr rfl) (by decide)) (qgs_cons (qg_name (i := 7) sc_Memory_release.nd rfl (by first | exact Or.inl rfl | exact Or.inr rfl) (by decide)) qgs_nil)))) (fun _ _ _ _ _ => (qts_one (qt_cmp (od_eq hr.units) (qe_ix (qv 7) qe_int (fun _ _ => rfl)) (qv 1) (nomark _)))) (fun _ _ _ _ _ => (qv 6)) (fun _ _ _ => l_lcN))
    (qss_cons (qs_if (qt_not (qt_tru (qv 2)))
    (qss_one qs_dead)
    qss_nil)
    (qss_cons (qs_asg (vs := [4, 5]) (qe_bm md_popAt PySem.F.plainAttrs_list PySem.F.slot_list_pop PySem.F.type_list_pop (qe_fld cl_Memory nf_Memory_rows (qv 0)) (qa_cons (qe_ix (qv 2) qe_int (fun _ _ => rfl)) qa_nil)) (qg_tup rfl (qgs_cons (qg_name (i := 4) sc_Memory_release.nd rfl (by first | exact Or.inl rfl | exact Or.inr rfl) (by decide)) (qgs_cons (qg_name (i := 5) sc_Memory_release.nd rfl (by first | exact Or.inl rfl | exact Or.inr rfl) (by decide)) qgs_nil))))
    (qss_one (qs_forR2 (vs := [3]) PassesOwn.never rfl (by rfl) z_range (qa_cons (qv 1) (qa_cons (qe_op od_add (qv 1) (qv 5)) qa_nil)) (qg_name (i := 3) sc_Memory_release.nd rfl (by first | exact Or.inl rfl | exact Or.inr rfl) (by decide))
    (qss_one (qs_ddel (qe_fld cl_Memory nf_Memory_numbers (qv 0)) (qv 3)))))))))
abbrev s_Memory_read : Stmt := inClass (topS 4) 3
theorem sc_Memory_read : FnScope ["self", "address"] ["self", "address"] (defScope s_Memory_read) := ⟨rfl, rfl, rfl, by decide +kernel, rfl, by decide +kernel, by decide +kernel⟩
def b_Memory_read (x_Memory : Addr) : TDS := (dSeq (dIf (dB (dOp rNotInK (dVar 1) (dFld x_Memory (dVar 0) "numbers")))
    dDead
    dNext)
    (dRet (dDGet (dFld x_Memory (dVar 0) "numbers") (dVar 1))))
theorem ok_Memory_read {P : Program} {w : World} {K : PySem.W.Frag} {mg : Str → Option Value} {k : Nat} {d : DSp} {x_Memory : Addr} (F : FunAtM K x_Memory "read" "Memory.read" s_Memory_read ["self", "address"]) (cl_Memory : Cls K x_Memory) (nf_Memory_numbers : NoAttr K x_Memory "numbers") (g_Memory : mg "Memory" = some (.ref x_Memory))
    (len : ∀ ds m P EX, d ds m P EX → ds.length = 2) (rd : ∀ ds m P EX, d ds m P EX → Go P (b_Memory_read x_Memory) (dstart ["self", "address"] ds) m) : CalleeM P w K mg (k + 1) x_Memory "read" ["self", "address"] d :=
  F.callee sc_Memory_read len (b_Memory_read x_Memory) rd fun base f cdv A outer s H E hr =>
    ((qss_cons (qs_if (qt_cmp (od_notInK hr.units) (qv 1) (qe_fld cl_Memory nf_Memory_numbers (qv 0)) (by rfl))
    (qss_one qs_dead)
    qss_nil)
    (qss_one (qs_ret (qe_dget hr.units (qe_fld cl_Memory nf_Memory_numbers (qv 0)) (qv 1) (fun _ _ => rfl))))))
abbrev s_Memory_write : Stmt := inClass (topS 4) 4
theorem sc_Memory_write : FnScope ["self", "address", "number"] ["self", "address", "number"] (defScope s_Memory_write) := ⟨rfl, rfl, rfl, by decide +kernel, rfl, by decide +kernel, by decide +kernel⟩
def b_Memory_write (x_Memory : Addr) : TDS := (dSeq (dIf (dB (dOp rNotInK (dVar 1) (dFld x_Memory (dVar 0) "numbers")))
    dDead
    dNext)
    (dDPut (dFld x_Memory (dVar 0) "numbers") (dVar 1) (dVar 2)))
theorem ok_Memory_write {P : Program} {w : World} {K : PySem.W.Frag} {mg : Str → Option Value} {k : Nat} {d : DSp} {x_Memory : Addr} (F : FunAtM K x_Memory "write" "Memory.write" s_Memory_write ["self", "address", "number"]) (cl_Memory : Cls K x_Memory) (nf_Memory_numbers : NoAttr K x_Memory "numbers") (g_Memory : mg "Memory" = some (.ref x_Memory))
    (len : ∀ ds m P EX, d ds m P EX → ds.length = 3) (rd : ∀ ds m P EX, d ds m P EX → Go P (b_Memory_write x_Memory) (dstart ["self", "address", "number"] ds) m) : CalleeM P w K mg (k + 1) x_Memory "write" ["self", "address", "number"] d :=
  F.callee sc_Memory_write len (b_Memory_write x_Memory) rd fun base f cdv A outer s H E hr =>
    ((qss_cons (qs_if (qt_cmp (od_notInK hr.units) (qv 1) (qe_fld cl_Memory nf_Memory_numbers (qv 0)) (by rfl))
    (qss_one qs_dead)
    qss_nil)
    (qss_one (qs_dput hr.units (qe_fld cl_Memory nf_Memory_numbers (qv 0)) (qv 1) (qv 2) (by rfl)))))
abbrev s_Memory_blocks : Stmt := inClass (topS 4) 5
theorem sc_Memory_blocks : FnScope ["self"] ["self"] (defScope s_Memory_blocks) := ⟨rfl, rfl, rfl, by decide +kernel, rfl, by decide +kernel, by decide +kernel⟩
def b_Memory_blocks (x_Memory : Addr) : TDS := (dRet (dCB rList (dCons (dFld x_Memory (dVar 0) "rows") dNil)))
theorem ok_Memory_blocks {P : Program} {w : World} {K : PySem.W.Frag} {mg : Str → Option Value} {k : Nat} {d : DSp} {x_Memory : Addr} (F : FunAtM K x_Memory "blocks" "Memory.blocks" s_Memory_blocks ["self"]) (cl_Memory : Cls K x_Memory) (nf_Memory_rows : NoAttr K x_Memory "rows") (z_list : mg "list" = none) (g_Memory : mg "Memory" = some (.ref x_Memory))
    (len : ∀ ds m P EX, d ds m P EX → ds.length = 1) (rd : ∀ ds m P EX, d ds m P EX → Go P (b_Memory_blocks x_Memory) (dstart ["self"] ds) m) : CalleeM P w K mg (k + 1) x_Memory "blocks" ["self"] d :=
  F.callee sc_Memory_blocks len (b_Memory_blocks x_Memory) rd fun base f cdv A outer s H E hr =>
    ((qss_one (qs_ret (qe_callTy cd_list (by rfl) z_list PyProof.Rows.boot_list (qa_cons (qe_fld cl_Memory nf_Memory_rows (qv 0)) qa_nil)))))
abbrev s_law_numbers : Stmt := topS 6
theorem sc_law_numbers : FnScope ["script", "numbers", "cell", "rest", "k"] ["script"] (defScope s_law_numbers) := ⟨rfl, rfl, rfl, by decide +kernel, rfl, by decide +kernel, by decide +kernel⟩
def b_law_numbers : TDS := (dSeq (dAsg (dLst dNil) (dName 1))
    (dSeq (dForS (dSl (dVar 0) dNoPart (dPart (dC (.int 63)))) (dName 2)
    (dSeq (dAsg (dCB rAbs (dCons (dCB rInt (dCons (dVar 2) dNil)) dNil)) (dName 3))
    (dForR1 (dCons (dC (.int 24)) dNil) (dName 4)
    (dSeq (dDrop (dBM isLst rApp (dVar 1) (dCons (dOp rMod (dCB rInt (dCons (dVar 3) dNil)) (dC (.int 64))) dNil)))
    (dSeq (dAsg (dOp rFdiv (dVar 3) (dC (.int 64))) (dName 3))
    (dIf (dB (dOp rEqD (dVar 3) (dC (.int 0))))
    dBreak
    dNext))))))
    (dRet (dSl (dVar 1) dNoPart (dPart (dC (.int 40)))))))
theorem ok_law_numbers {P : Program} {w : World} {K : PySem.W.Frag} {mg : Str → Option Value} {k : Nat} {d : DSp} (F : FunAt K mg "_law_numbers" s_law_numbers ["script"]) (z_int : mg "int" = none) (z_abs : mg "abs" = none) (z_range : mg "range" = none)
    (len : ∀ ds m P EX, d ds m P EX → ds.length = 1) (rd : ∀ ds m P EX, d ds m P EX → Go P (b_law_numbers) (dstart ["script", "numbers", "cell", "rest", "k"] ds) m) : Callee P w K mg (k + 1) "_law_numbers" ["script"] d :=
  F.callee sc_law_numbers len (b_law_numbers) rd fun base f cdv A outer s H E hr =>
    ((qss_cons (qs_set (i := 1) sc_law_numbers.nd rfl (by first | exact Or.inl rfl | exact Or.inr rfl) (qe_lst qa_nil))
    (qss_cons (qs_forS (vs := [2]) PassesOwn.never rfl (qe_slice (qv 0) qo_none (qo_some qe_int)) (qg_name (i := 2) sc_law_numbers.nd rfl (by first | exact Or.inl rfl | exact Or.inr rfl) (by decide))
    (qss_cons (qs_set (i := 3) sc_law_numbers.nd rfl (by first | exact Or.inl rfl | exact Or.inr rfl) (qe_callB (cd_abs) (by rfl) z_abs PyProof.Rows.boot_abs (qa_cons (qe_callTy cd_int (by rfl) z_int PyProof.Rows.boot_int (qa_cons (qv 2) qa_nil)) qa_nil)))
    (qss_one (qs_forR1 (vs := [4]) PassesOwn.never rfl (by rfl) z_range (qa_cons qe_int qa_nil) (qg_name (i := 4) sc_law_numbers.nd rfl (by first | exact Or.inl rfl | exact Or.inr rfl) (by decide))
    (qss_cons (qs_expr (qe_bm md_append PySem.F.plainAttrs_list PySem.F.slot_list_append PySem.F.type_list_append (qv 1) (qa_cons (qe_op od_mod (qe_callTy cd_int (by rfl) z_int PyProof.Rows.boot_int (qa_cons (qv 3) qa_nil)) qe_int) qa_nil)))
    (qss_cons (qs_set (i := 3) sc_law_numbers.nd rfl (by first | exact Or.inl rfl | exact Or.inr rfl) (qe_op od_fdiv (qv 3) qe_int))
    (qss_one (qs_if (qt_cmp (od_eq hr.units) (qv 3) qe_int (nomark _))
    (qss_one qs_break)
    qss_nil))))))))
    (qss_one (qs_ret (qe_slice (qv 1) qo_none (qo_some qe_int)))))))
abbrev s_law_lowest : Stmt := topS 7
theorem sc_law_lowest : FnScope ["blocks", "size", "address", "block"] ["blocks", "size"] (defScope s_law_lowest) := ⟨rfl, rfl, rfl, by decide +kernel, rfl, by decide +kernel, by decide +kernel⟩
def b_law_lowest : TDS := (dSeq (dAsg (dC (.int 1)) (dName 2))
    (dSeq (dForS (dVar 0) (dName 3)
    (dSeq (dIf (dB (dOp rGeD (dOp rSub (dOp rIxD (dVar 3) (dC (.int 0))) (dVar 2)) (dVar 1)))
    (dRet (dVar 2))
    dNext)
    (dAsg (dOp rAdd (dOp rIxD (dVar 3) (dC (.int 0))) (dOp rIxD (dVar 3) (dC (.int 1)))) (dName 2))))
    (dRet (dVar 2))))
theorem ok_law_lowest {P : Program} {w : World} {K : PySem.W.Frag} {mg : Str → Option Value} {k : Nat} {d : DSp} (F : FunAt K mg "_law_lowest" s_law_lowest ["blocks", "size"])
    (len : ∀ ds m P EX, d ds m P EX → ds.length = 2) (rd : ∀ ds m P EX, d ds m P EX → Go P (b_law_lowest) (dstart ["blocks", "size", "address", "block"] ds) m) : Callee P w K mg (k + 1) "_law_lowest" ["blocks", "size"] d :=
  F.callee sc_law_lowest len (b_law_lowest) rd fun base f cdv A outer s H E hr =>
    ((qss_cons (qs_set (i := 2) sc_law_lowest.nd rfl (by first | exact Or.inl rfl | exact Or.inr rfl) qe_int)
    (qss_cons (qs_forS (vs := [3]) PassesOwn.never rfl (qv 0) (qg_name (i := 3) sc_law_lowest.nd rfl (by first | exact Or.inl rfl | exact Or.inr rfl) (by decide))
    (qss_cons (qs_if (qt_cmp od_ge (qe_op od_sub (qe_ix (qv 3) qe_int (fun _ _ => rfl)) (qv 2)) (qv 1) (nomark _))
    (qss_one (qs_ret (qv 2)))
    qss_nil)
    (qss_one (qs_set (i := 2) sc_law_lowest.nd rfl (by first | exact Or.inl rfl | exact Or.inr rfl) (qe_op od_add (qe_ix (qv 3) qe_int (fun _ _ => rfl)) (qe_ix (qv 3) qe_int (fun _ _ => rfl)))))))
    (qss_one (qs_ret (qv 2))))))
abbrev s_law_with : Stmt := topS 8
theorem sc_law_with : FnScope ["blocks", "added", "before", "after", "block"] ["blocks", "added"] (defScope s_law_with) := ⟨rfl, rfl, rfl, by decide +kernel, rfl, by decide +kernel, by decide +kernel⟩
def b_law_with : TDS := (dSeq (dAsg (dLcS (dVar 0) (dName 4) (dB (dOp rLtD (dOp rIxD (dVar 4) (dC (.int 0))) (dOp rIxD (dVar 1) (dC (.int 0))))) (dVar 4) [4]) (dName 2))
    (dSeq (dAsg (dLcS (dVar 0) (dName 4) (dB (dOp rGtD (dOp rIxD (dVar 4) (dC (.int 0))) (dOp rIxD (dVar 1) (dC (.int 0))))) (dVar 4) [4]) (dName 3))
    (dRet (dOp rAdd (dOp rAdd (dVar 2) (dLst (dCons (dVar 1) dNil))) (dVar 3)))))
theorem ok_law_with {P : Program} {w : World} {K : PySem.W.Frag} {mg : Str → Option Value} {k : Nat} {d : DSp} (F : FunAt K mg "_law_with" s_law_with ["blocks", "added"])
    (len : ∀ ds m P EX, d ds m P EX → ds.length = 2) (rd : ∀ ds m P EX, d ds m P EX → Go P (b_law_with) (dstart ["blocks", "added", "before", "after", "block"] ds) m) : Callee P w K mg (k + 1) "_law_with" ["blocks", "added"] d :=
  F.callee sc_law_with len (b_law_with) rd fun base f cdv A outer s H E hr =>
    ((qss_cons (qs_lcX (i := 2) (own := [("block", 4)]) rfl sc_law_with.nd rfl rfl (sw_true rfl rfl rfl (by decide +kernel)) (pi_sq (qv 0)) (blkOk_by (N := ["blocks", "added", "before", "after", "block"]) (sc := defScope s_law_with) (by decide +kernel)) (fun _ _ _ _ _ => (qg_name (i := 4) sc_law_with.nd rfl (by first | exact Or.inl rfl | exact Or.inr rfl) (by decide))) (fun _ _ _ _ _ => (qts_one (qt_cmp od_lt (qe_ix (qv 4) qe_int (fun _ _ => rfl)) (qe_ix (qv 1) qe_int (fun _ _ => rfl)) (nomark _)))) (fun _ _ _ _ _ => (qv 4)) (fun _ _ _ => l_lcS))
    (qss_cons (qs_lcX (i := 3) (own := [("block", 4)]) rfl sc_law_with.nd rfl rfl (sw_true rfl rfl rfl (by decide +kernel)) (pi_sq (qv 0)) (blkOk_by (N := ["blocks", "added", "before", "after", "block"]) (sc := defScope s_law_with) (by decide +kernel)) (fun _ _ _ _ _ => (qg_name (i := 4) sc_law_with.nd rfl (by first | exact Or.inl rfl | exact Or.inr rfl) (by decide))) (fun _ _ _ _ _ => (qts_one (qt_cmp od_gt (qe_ix (qv 4) qe_int (fun _ _ => rfl)) (qe_ix (qv 1) qe_int (fun _ _ => rfl)) (nomark _)))) (fun _ _ _ _ _ => (qv 4)) (fun _ _ _ => l_lcS))
    (qss_one (qs_ret (qe_op od_add (qe_op od_add (qv 2) (qe_lst (qa_cons (qv 1) qa_nil))) (qv 3)))))))
abbrev s_law_same : Stmt := topS 9
theorem sc_law_same : FnScope ["actual", "blocks", "k"] ["actual", "blocks"] (defScope s_law_same) := ⟨rfl, rfl, rfl, by decide +kernel, rfl, by decide +kernel, by decide +kernel⟩
def b_law_same : TDS := (dSeq (dIf (dOr (dNot (dTru (dCB rIsD (dCons (dVar 0) (dCons (dC (.ty "list")) dNil))))) (dB (dOp rNeD (dCB rLen (dCons (dVar 0) dNil)) (dCB rLen (dCons (dVar 1) dNil)))))
    (dRet (dC (.bl false)))
    dNext)
    (dSeq (dForR1 (dCons (dCB rLen (dCons (dVar 1) dNil)) dNil) (dName 2)
    (dIf (dOr (dNot (dTru (dCB rIsD (dCons (dOp rIxD (dVar 0) (dVar 2)) (dCons (dC (.ty "tuple")) dNil))))) (dB (dOp rNeD (dOp rIxD (dVar 0) (dVar 2)) (dOp rIxD (dVar 1) (dVar 2)))))
    (dRet (dC (.bl false)))
    dNext))
    (dRet (dC (.bl true)))))
theorem ok_law_same {P : Program} {w : World} {K : PySem.W.Frag} {mg : Str → Option Value} {k : Nat} {d : DSp} (F : FunAt K mg "_law_same" s_law_same ["actual", "blocks"]) (z_list : mg "list" = none) (z_isinstance : mg "isinstance" = none) (z_len : mg "len" = none) (z_tuple : mg "tuple" = none) (z_range : mg "range" = none)
    (len : ∀ ds m P EX, d ds m P EX → ds.length = 2) (rd : ∀ ds m P EX, d ds m P EX → Go P (b_law_same) (dstart ["actual", "blocks", "k"] ds) m) : Callee P w K mg (k + 1) "_law_same" ["actual", "blocks"] d :=
  F.callee sc_law_same len (b_law_same) rd fun base f cdv A outer s H E hr =>
    ((qss_cons (qs_if (PW.pt (qw_or (qt_not (qt_tru (qe_callB (cd_isi) (by rfl) z_isinstance PyProof.Rows.boot_isinstance (qa_cons (qv 0) (qa_cons (qe_type (by rfl) z_list PyProof.Rows.boot_list) qa_nil))))) (qw_or1 (qt_cmp (od_ne hr.units) (qe_callB (cd_len) (by rfl) z_len PySem.boot_len (qa_cons (qv 0) qa_nil)) (qe_callB (cd_len) (by rfl) z_len PySem.boot_len (qa_cons (qv 1) qa_nil)) (nomark _)))))
    (qss_one (qs_ret qe_bl))
    qss_nil)
    (qss_cons (qs_forR1 (vs := [2]) PassesOwn.never rfl (by rfl) z_range (qa_cons (qe_callB (cd_len) (by rfl) z_len PySem.boot_len (qa_cons (qv 1) qa_nil)) qa_nil) (qg_name (i := 2) sc_law_same.nd rfl (by first | exact Or.inl rfl | exact Or.inr rfl) (by decide))
    (qss_one (qs_if (PW.pt (qw_or (qt_not (qt_tru (qe_callB (cd_isi) (by rfl) z_isinstance PyProof.Rows.boot_isinstance (qa_cons (qe_ix (qv 0) (qv 2) (fun _ _ => rfl)) (qa_cons (qe_type (by rfl) z_tuple PyProof.Rows.boot_tuple) qa_nil))))) (qw_or1 (qt_cmp (od_ne hr.units) (qe_ix (qv 0) (qv 2) (fun _ _ => rfl)) (qe_ix (qv 1) (qv 2) (fun _ _ => rfl)) (nomark _)))))
    (qss_one (qs_ret qe_bl))
    qss_nil)))
    (qss_one (qs_ret qe_bl)))))
abbrev s_law : Stmt := topS 10
theorem sc_law : FnScope ["script", "memory", "blocks", "number", "gone", "size", "due", "actual", "k", "block"] ["script"] (defScope s_law) := ⟨rfl, rfl, rfl, by decide +kernel, rfl, by decide +kernel, by decide +kernel⟩
def b_law (x_Memory : Addr) (d_Memory_release d_law_lowest d_Memory_allocate d_Memory_read d_Memory_write d_law_with d_law_same d_Memory_blocks d_law_numbers d_Memory_init : DSp) : TDS := (dSeq (dAsg (dMake0 x_Memory d_Memory_init) (dName 1))
    (dSeq (dAsg (dLst dNil) (dName 2))
    (dSeq (dForS (dCall d_law_numbers (dCons (dVar 0) dNil)) (dName 3)
    (dSeq (dIf (dAnd (dB (dOp rGtD (dCB rLen (dCons (dVar 2) dNil)) (dC (.int 0)))) (dB (dOp rEqD (dOp rMod (dVar 3) (dC (.int 3))) (dC (.int 2)))))
    (dSeq (dAsg (dOp rIxD (dVar 2) (dOp rMod (dOp rFdiv (dVar 3) (dC (.int 3))) (dCB rLen (dCons (dVar 2) dNil)))) (dName 4))
    (dSeq (dDrop (dMeth x_Memory "release" d_Memory_release (dVar 1) (dCons (dOp rIxD (dVar 4) (dC (.int 0))) dNil)))
    (dAsg (dLcS (dVar 2) (dName 9) (dB (dOp rNeD (dOp rIxD (dVar 9) (dC (.int 0))) (dOp rIxD (dVar 4) (dC (.int 0))))) (dVar 9) [9]) (dName 2))))
    (dSeq (dAsg (dOp rAdd (dC (.int 1)) (dOp rMod (dOp rFdiv (dVar 3) (dC (.int 3))) (dC (.int 9)))) (dName 5))
    (dSeq (dIf (dB (dOp rEqD (dOp rMod (dOp rFdiv (dVar 3) (dC (.int 3))) (dC (.int 16))) (dC (.int 15))))
    (dAsg (dOp rAdd (dC (.int 60)) (dOp rMod (dVar 3) (dC (.int 31)))) (dName 5))
    dNext)
    (dSeq (dAsg (dCall d_law_lowest (dCons (dVar 2) (dCons (dVar 5) dNil))) (dName 6))
    (dSeq (dAsg (dMeth x_Memory "allocate" d_Memory_allocate (dVar 1) (dCons (dVar 5) dNil)) (dName 7))
    (dSeq (dIf (dOr (dNot (dTru (dCB rIsD (dCons (dVar 7) (dCons (dC (.ty "int")) dNil))))) (dOr (dTru (dCB rIsD (dCons (dVar 7) (dCons (dC (.ty "bool")) dNil)))) (dB (dOp rNeD (dVar 7) (dVar 6)))))
    (dRet (dC (.bl false)))
    dNext)
    (dSeq (dForR1 (dCons (dVar 5) dNil) (dName 8)
    (dSeq (dIf (dB (dOp rNeD (dMeth x_Memory "read" d_Memory_read (dVar 1) (dCons (dOp rAdd (dVar 6) (dVar 8)) dNil)) (dC (.int 0))))
    (dRet (dC (.bl false)))
    dNext)
    (dDrop (dMeth x_Memory "write" d_Memory_write (dVar 1) (dCons (dOp rAdd (dVar 6) (dVar 8)) (dCons (dOp rAdd (dVar 3) (dC (.int 1))) dNil))))))
    (dAsg (dCall d_law_with (dCons (dVar 2) (dCons (dTup (dCons (dVar 6) (dCons (dVar 5) dNil))) dNil))) (dName 2)))))))))
    (dIf (dNot (dTru (dCall d_law_same (dCons (dMeth x_Memory "blocks" d_Memory_blocks (dVar 1) dNil) (dCons (dVar 2) dNil)))))
    (dRet (dC (.bl false)))
    dNext)))
    (dRet (dCall d_law_same (dCons (dMeth x_Memory "blocks" d_Memory_blocks (dMake0 x_Memory d_Memory_init) dNil) (dCons (dLst dNil) dNil)))))))
theorem ok_law {P : Program} {w : World} {K : PySem.W.Frag} {mg : Str → Option Value} {k : Nat} {d d_Memory_release d_law_lowest d_Memory_allocate d_Memory_read d_Memory_write d_law_with d_law_same d_Memory_blocks d_law_numbers d_Memory_init : DSp} {x_Memory : Addr} (F : FunAt K mg "law" s_law ["script"]) (C_Memory_release : CalleeM P w K mg k x_Memory "release" ["self", "address"] d_Memory_release) (C_law_lowest : Callee P w K mg k "_law_lowest" ["blocks", "size"] d_law_lowest) (C_Memory_allocate : CalleeM P w K mg k x_Memory "allocate" ["self", "size"] d_Memory_allocate) (C_Memory_read : CalleeM P w K mg k x_Memory "read" ["self", "address"] d_Memory_read) (C_Memory_write : CalleeM P w K mg k x_Memory "write" ["self", "address", "number"] d_Memory_write) (C_law_with : Callee P w K mg k "_law_with" ["blocks", "added"] d_law_with) (C_law_same : Callee P w K mg k "_law_same" ["actual", "blocks"] d_law_same) (C_Memory_blocks : CalleeM P w K mg k x_Memory "blocks" ["self"] d_Memory_blocks) (C_law_numbers : Callee P w K mg k "_law_numbers" ["script"] d_law_numbers) {lj_Memory : Nat} (C_Memory_init : CalleeM P w K mg lj_Memory x_Memory "__init__" ["self"] d_Memory_init) (lv_Memory : lj_Memory + 1 ≤ k) (mk_Memory : PySem.W.makesIn K x_Memory = true) (kc_Memory : PySem.W.keepIn K (.ref x_Memory) = true) (cl_Memory : Cls K x_Memory) (z_len : mg "len" = none) (z_int : mg "int" = none) (z_isinstance : mg "isinstance" = none) (z_bool : mg "bool" = none) (z_range : mg "range" = none) (g_Memory : mg "Memory" = some (.ref x_Memory))
    (len : ∀ ds m P EX, d ds m P EX → ds.length = 1) (rd : ∀ ds m P EX, d ds m P EX → Go P (b_law x_Memory d_Memory_release d_law_lowest d_Memory_allocate d_Memory_read d_Memory_write d_law_with d_law_same d_Memory_blocks d_law_numbers d_Memory_init) (dstart ["script", "memory", "blocks", "number", "gone", "size", "due", "actual", "k", "block"] ds) m) : Callee P w K mg (k + 1) "law" ["script"] d :=
  F.callee sc_law len (b_law x_Memory d_Memory_release d_law_lowest d_Memory_allocate d_Memory_read d_Memory_write d_law_with d_law_same d_Memory_blocks d_law_numbers d_Memory_init) rd fun base f cdv A outer s H E hr =>
    ((qss_cons (qs_set (i := 1) sc_law.nd rfl (by first | exact Or.inl rfl | exact Or.inr rfl) (qe_make0 mk_Memory kc_Memory C_Memory_init (hr.mono lv_Memory) (by rfl) g_Memory))
    (qss_cons (qs_set (i := 2) sc_law.nd rfl (by first | exact Or.inl rfl | exact Or.inr rfl) (qe_lst qa_nil))
    (qss_cons (qs_forS (vs := [3]) PassesOwn.never rfl (qe_fn C_law_numbers hr (by rfl) (qa_cons (qv 0) qa_nil)) (qg_name (i := 3) sc_law.nd rfl (by first | exact Or.inl rfl | exact Or.inr rfl) (by decide))
    (qss_cons (qs_if (PW.pt (qw_and (qt_cmp od_gt (qe_callB (cd_len) (by rfl) z_len PySem.boot_len (qa_cons (qv 2) qa_nil)) qe_int (nomark _)) (qw_and1 (qt_cmp (od_eq hr.units) (qe_op od_mod (qv 3) qe_int) qe_int (nomark _)))))
    (qss_cons (qs_set (i := 4) sc_law.nd rfl (by first | exact Or.inl rfl | exact Or.inr rfl) (qe_ix (qv 2) (qe_op od_mod (qe_op od_fdiv (qv 3) qe_int) (qe_callB (cd_len) (by rfl) z_len PySem.boot_len (qa_cons (qv 2) qa_nil))) (fun _ _ => rfl)))
    (qss_cons (qs_expr (qe_meth cl_Memory C_Memory_release hr (qv 1) (qa_cons (qe_ix (qv 4) qe_int (fun _ _ => rfl)) qa_nil)))
    (qss_one (qs_lcX (i := 2) (own := [("block", 9)]) rfl sc_law.nd rfl rfl (sw_true rfl rfl rfl (by decide +kernel)) (pi_sq (qv 2)) (blkOk_by (N := ["script", "memory", "blocks", "number", "gone", "size", "due", "actual", "k", "block"]) (sc := defScope s_law) (by decide +kernel)) (fun _ _ _ _ _ => (qg_name (i := 9) sc_law.nd rfl (by first | exact Or.inl rfl | exact Or.inr rfl) (by decide))) (fun _ _ _ _ _ => (qts_one (qt_cmp (od_ne hr.units) (qe_ix (qv 9) qe_int (fun _ _ => rfl)) (qe_ix (qv 4) qe_int (fun _ _ => rfl)) (nomark _)))) (fun _ _ _ _ _ => (qv 9)) (fun _ _ _ => l_lcS)))))
    (qss_cons (qs_set (i := 5) sc_law.nd rfl (by first | exact Or.inl rfl | exact Or.inr rfl) (qe_op od_add qe_int (qe_op od_mod (qe_op od_fdiv (qv 3) qe_int) qe_int)))
    (qss_cons (qs_if (qt_cmp (od_eq hr.units) (qe_op od_mod (qe_op od_fdiv (qv 3) qe_int) qe_int) qe_int (nomark _))
    (qss_one (qs_set (i := 5) sc_law.nd rfl (by first | exact Or.inl rfl | exact Or.inr rfl) (qe_op od_add qe_int (qe_op od_mod (qv 3) qe_int))))
    qss_nil)
    (qss_cons (qs_set (i := 6) sc_law.nd rfl (by first | exact Or.inl rfl | exact Or.inr rfl) (qe_fn C_law_lowest hr (by rfl) (qa_cons (qv 2) (qa_cons (qv 5) qa_nil))))
    (qss_cons (qs_set (i := 7) sc_law.nd rfl (by first | exact Or.inl rfl | exact Or.inr rfl) (qe_meth cl_Memory C_Memory_allocate hr (qv 1) (qa_cons (qv 5) qa_nil)))
    (qss_cons (qs_if (PW.pt (qw_or (qt_not (qt_tru (qe_callB (cd_isi) (by rfl) z_isinstance PyProof.Rows.boot_isinstance (qa_cons (qv 7) (qa_cons (qe_type (by rfl) z_int PyProof.Rows.boot_int) qa_nil))))) (qw_or (qt_tru (qe_callB (cd_isi) (by rfl) z_isinstance PyProof.Rows.boot_isinstance (qa_cons (qv 7) (qa_cons (qe_type (by rfl) z_bool PyProof.Rows.boot_bool) qa_nil)))) (qw_or1 (qt_cmp (od_ne hr.units) (qv 7) (qv 6) (nomark _))))))
    (qss_one (qs_ret qe_bl))
    qss_nil)
    (qss_cons (qs_forR1 (vs := [8]) PassesOwn.never rfl (by rfl) z_range (qa_cons (qv 5) qa_nil) (qg_name (i := 8) sc_law.nd rfl (by first | exact Or.inl rfl | exact Or.inr rfl) (by decide))
    (qss_cons (qs_if (qt_cmp (od_ne hr.units) (qe_meth cl_Memory C_Memory_read hr (qv 1) (qa_cons (qe_op od_add (qv 6) (qv 8)) qa_nil)) qe_int (nomark _))
    (qss_one (qs_ret qe_bl))
    qss_nil)
    (qss_one (qs_expr (qe_meth cl_Memory C_Memory_write hr (qv 1) (qa_cons (qe_op od_add (qv 6) (qv 8)) (qa_cons (qe_op od_add (qv 3) qe_int) qa_nil)))))))
    (qss_one (qs_set (i := 2) sc_law.nd rfl (by first | exact Or.inl rfl | exact Or.inr rfl) (qe_fn C_law_with hr (by rfl) (qa_cons (qv 2) (qa_cons (qe_tup (qa_cons (qv 6) (qa_cons (qv 5) qa_nil))) qa_nil))))))))))))
    (qss_one (qs_if (qt_not (qt_tru (qe_fn C_law_same hr (by rfl) (qa_cons (qe_meth0 cl_Memory C_Memory_blocks hr (qv 1)) (qa_cons (qv 2) qa_nil)))))
    (qss_one (qs_ret qe_bl))
    qss_nil))))
    (qss_one (qs_ret (qe_fn C_law_same hr (by rfl) (qa_cons (qe_meth0 cl_Memory C_Memory_blocks hr (qe_make0 mk_Memory kc_Memory C_Memory_init (hr.mono lv_Memory) (by rfl) g_Memory)) (qa_cons (qe_lst qa_nil) qa_nil)))))))))
local macro_rules | `(tactic| one_place) => `(tactic| first
  | assumption | (apply Ne.symm; assumption) | exact neA (by assumption) (by assumption) | exact (neA (by assumption) (by assumption)).symm | fail)
local macro_rules | `(tactic| lcg_src) => `(tactic| first
  | assumption | exact put_same | (refine Eq.trans (put_ne ?_) ?_; one_place; lcg_src) | fail)
local macro_rules | `(tactic| one_sign) => `(tactic| first
  | omega | (simp only [List.length_cons, List.length_nil, List.length_append, List.length_map, List.length_take]; omega) | (simp only [PySem.sizeLine_eq, List.length_cons, List.length_nil, List.length_append, List.length_map, List.length_take]; omega)
  | exact szA (by first | assumption | exact Pl.one (by assumption) | exact plLit (n := 100) (by decide +kernel) (by decide +kernel)) (by first | assumption | exact Pl.one (by assumption) | exact plLit (n := 100) (by decide +kernel) (by decide +kernel)) (by omega)
  | exact Or.inr ⟨by omega, by omega⟩ | exact Or.inl ⟨by omega, by omega⟩
  | exact ⟨by decide, by decide, by decide⟩
  | exact wide_div (b := 64) (by omega) (by omega) (by decide) (by decide) | decide)
local macro_rules | `(tactic| got_up) => `(tactic| first
  | rfl | assumption | exact atI_nat (by assumption) | exact atI_int (by first | assumption | omega) (by first | assumption | (simp only [List.length_map] at *; omega)))
local macro_rules | `(tactic| lcg_sub) => `(tactic| first
  | with_reducible refine s_seqA ?_ | with_reducible refine s_seqD ?_ | with_reducible refine s_seqIR ?_ | with_reducible refine s_seqIS ?_ | with_reducible refine s_seqISS ?_ | with_reducible refine s_forR1 ?_ | with_reducible refine s_forR2 ?_ | with_reducible refine s_forS ?_ | with_reducible refine r_FST ?_ | with_reducible refine r_FSR ?_ | ((with_reducible refine' r_FSL ?h1 ?h2); (case h1 => lcg_src)) | with_reducible refine s_lcS ?_ | with_reducible refine r_CST ?_ | with_reducible refine r_CSR ?_ | ((with_reducible refine' r_CSL ?h1 ?h2); (case h1 => lcg_src)) | with_reducible refine s_lcR1 ?_ | with_reducible refine s_bm ?_ | with_reducible refine s_asg ?_ | with_reducible refine s_if ?_ | with_reducible refine s_ret ?_ | with_reducible refine s_drop ?_ | with_reducible refine s_next ?_
  | with_reducible refine s_name ?_ | (refine' s_var ?h1 ?h2; (case h1 => rfl)) | with_reducible refine s_c ?_ | with_reducible refine s_op ?_ | with_reducible refine s_cb ?_ | with_reducible refine s_call ?_
  | with_reducible refine s_nil ?_ | with_reducible refine s_cons ?_ | with_reducible refine s_ifE ?_ | with_reducible refine s_andV ?_ | with_reducible refine s_orV ?_ | with_reducible refine s_notV ?_
  | with_reducible refine s_B ?_ | with_reducible refine s_and ?_ | with_reducible refine s_or ?_ | with_reducible refine s_not ?_ | with_reducible refine s_tru ?_ | with_reducible refine s_yes ?_ | with_reducible refine s_truB ?_ | with_reducible refine s_truT ?_
  | with_reducible refine s_chain ?_ | with_reducible refine s_gsub ?_ | with_reducible refine s_sl ?_ | with_reducible refine s_opn ?_ | with_reducible refine s_ops ?_
  | with_reducible refine s_tup ?_ | with_reducible refine s_lst ?_
  | (refine ⟨(by first | exact Nat.zero_le _ | (show _ ≤ sizeLine; (try simp only [List.length_cons, List.length_nil]); decide)), ?_⟩)
  | with_reducible refine' r_addI ?_ | with_reducible refine' r_sub ?_ | with_reducible refine' r_lt ?_ | with_reducible refine' r_le ?_ | with_reducible refine' r_gt ?_ | with_reducible refine' r_ge ?_
  | with_reducible refine' r_eqI ?_ | with_reducible refine' r_eqS ?_ | with_reducible refine' r_neI ?_ | with_reducible refine' r_neS ?_ | with_reducible refine' r_eqIS ?_ | with_reducible refine' r_eqSI ?_
  | ((with_reducible refine' r_mul ?h1 ?h2); (case h1 => one_sign)) | ((with_reducible refine' r_mod ?h1 ?h2); (case h1 => one_sign)) | ((with_reducible refine' r_fdiv ?h1 ?h2); (case h1 => one_sign)) | ((with_reducible refine' r_pow ?h1 ?h2); (case h1 => one_sign))
  | ((with_reducible refine' r_addT ?h1 ?h2); (case h1 => one_sign)) | ((with_reducible refine' r_addS ?h1 ?h2); (case h1 => one_sign)) | ((with_reducible refine' r_addL ?h1 ?h2 ?h3 ?h4); (case h1 => lcg_src); (case h2 => lcg_src); (case h3 => one_sign))
  | ((with_reducible refine' r_ixT ?h1 ?h2); (case h1 => got_up)) | ((with_reducible refine' r_ixL ?h1 ?h2 ?h3); (case h1 => lcg_src); (case h2 => got_up)) | ((with_reducible refine' r_ixR ?h1 ?h2); (case h1 => got_up))
  | with_reducible refine' r_lenT ?_ | ((with_reducible refine' r_lenL ?h1 ?h2); (case h1 => lcg_src)) | with_reducible refine' r_lenR ?_ | ((with_reducible refine' r_lenS ?h1 ?h2); (case h1 => one_sign))
  | with_reducible refine' r_int ?_ | with_reducible refine' r_abs ?_ | ((with_reducible refine' r_tupL ?h1 ?h2); (case h1 => lcg_src)) | with_reducible refine' r_tupR ?_ | with_reducible refine' r_tupT ?_
  | ((with_reducible refine' r_app ?h1 ?h2 ?h3); (case h1 => lcg_src); (case h2 => one_sign); (try simp only [put_put]); try rw [put_swap (by one_place)])
  | ((refine' ⟨r_isl ?h1, ?h2⟩); (case h1 => lcg_src))
  | ((with_reducible refine' r_inL ?h1 ?h2); (case h1 => lcg_src)) | with_reducible refine' r_inT ?_ | ((with_reducible refine' r_ninL ?h1 ?h2); (case h1 => lcg_src))
  | ((with_reducible refine' r_set ?h1 ?h2 ?h3); (case h1 => lcg_src); (case h2 => first | rfl | decide); try simp only [put_put, List.set_cons_zero, List.set_cons_succ, Int.reduceToNat])
  | with_reducible refine ite_nt ?_ | with_reducible refine ite_nf ?_ | with_reducible refine ite_t ?_ | with_reducible refine ite_f ?_
  | with_reducible refine iteD (fun _ => ?_) (fun _ => ?_) | with_reducible refine iteN (fun _ => ?_) (fun _ => ?_))
local macro_rules | `(tactic| lcg_sub) => `(tactic| (with_reducible refine s_new (fun p hp => ?_); (try simp only [put_none] at hp); (repeat' (rename _ ∧ _ => hA; obtain ⟨_, _⟩ := hA))))
local macro_rules | `(tactic| lcg_sub) => `(tactic| ((with_reducible refine' use_pick2 ?h1 ?h2 ?h3 ?h4 ?h5); (case h1 => lcg_src); (case h2 => first | assumption | exact S4.Ok.d (by assumption) _); (case h3 => one_sign); (case h4 => one_sign); intro _ _ _ _ _ _; try simp only [put_put]))
local macro_rules | `(tactic| one_item) => `(tactic| (intro x o h; simp only [put] at h ⊢; grind))
local macro_rules | `(tactic| lcg_off) => `(tactic| repeat' (lcg_sub; try dsimp only [List.set_cons_zero, List.set_cons_succ]))
local macro_rules | `(tactic| lcg_sub) => `(tactic| ((with_reducible refine' r_is ?h1 ?h2 ?h3); (case h1 => rfl); (case h2 => first | exact kt_NoneType_bool | exact kt_NoneType_int | exact kt_NoneType_str | exact kt_NoneType_tuple | exact kt_NoneType_list | exact kt_bool_bool | exact kt_bool_int | exact kt_bool_str | exact kt_bool_tuple | exact kt_bool_list | exact kt_int_bool | exact kt_int_int | exact kt_int_str | exact kt_int_tuple | exact kt_int_list | exact kt_str_bool | exact kt_str_int | exact kt_str_str | exact kt_str_tuple | exact kt_str_list | exact kt_tuple_bool | exact kt_tuple_int | exact kt_tuple_str | exact kt_tuple_tuple | exact kt_tuple_list | exact kt_list_bool | exact kt_list_int | exact kt_list_str | exact kt_list_tuple | exact kt_list_list)))
local macro_rules | `(tactic| lcg_sub) => `(tactic| with_reducible refine r_eqB ?_)
local macro_rules | `(tactic| lcg_sub) => `(tactic| first | ((with_reducible refine r_slT ?_); try simp only [cut_to]) | ((with_reducible refine' r_slS ?h1 ?h2); (case h1 => one_sign)) | ((with_reducible refine' r_slL ?h1 ?h2); (case h1 => lcg_src); try simp only [cut_to]) | (with_reducible refine r_slR ?_; try simp only [cut_to]))
local macro_rules | `(tactic| lcg_sub) => `(tactic| first
  | ((with_reducible refine' r_inT' ?h1 ?h2); (case h1 => rfl)) | ((with_reducible refine' r_inL' ?h1 ?h2 ?h3); (case h1 => lcg_src); (case h2 => rfl)) | ((with_reducible refine' r_ninT' ?h1 ?h2); (case h1 => rfl)) | ((with_reducible refine' r_ninL' ?h1 ?h2 ?h3); (case h1 => lcg_src); (case h2 => rfl))
  | ((with_reducible refine' iteDT ?h1 ?h2); (case h1 => decide +kernel)) | ((with_reducible refine' iteDF ?h1 ?h2); (case h1 => decide +kernel)) | ((with_reducible refine' iteNT ?h1 ?h2); (case h1 => decide +kernel)) | ((with_reducible refine' iteNF ?h1 ?h2); (case h1 => decide +kernel)) | fail)
local macro_rules | `(tactic| top_strB) => `(tactic| repeat' ((first | lcg_sub | with_reducible refine s_seq ?_); try dsimp only [List.set_cons_zero, List.set_cons_succ]))

section
variable {t u v : TDE} {sd : DS} {m : M} {P : DK} {D' : DEnds} {tl tk : TDA} {d : DSp} {na nb : Nat}
def rDGetP (x y : D) (m2 : M) (P : DK) : Prop := ∃ a kvs k d, x = .ref a ∧ y = kD k ∧ m2 a = some (.dct kvs) ∧ valD kvs k = some d ∧ P d m2
theorem s_dget (h : t sd m fun x m1 => u sd m1 fun y m2 => rDGetP x y m2 P) : dDGet t u sd m P := h
theorem r_dget {a : Addr} {kvs : List (Key × D)} {z : Str} {e : D} (h : m a = some (.dct kvs)) (hv : valD kvs (.inr z) = some e) (q : P e m) : rDGetP (.ref a) (.str z) m P := ⟨a, kvs, .inr z, e, rfl, rfl, h, hv, q⟩
theorem s_un {r : R1D} (h : t sd m fun x m1 => r x m1 P) : dUn r t sd m P := h
theorem r_neg {i : Int} (q : P (.int (-i)) m) : rNegD (.int i) m P := q
theorem r_inK {a : Addr} {kvs : List (Key × D)} {z : Str} (h : m a = some (.dct kvs)) (q : P (.bl (valD kvs (.inr z)).isSome) m) : rInK (.str z) (.ref a) m P := ⟨a, kvs, .inr z, rfl, rfl, h, q⟩
theorem r_ninK {a : Addr} {kvs : List (Key × D)} {z : Str} (h : m a = some (.dct kvs)) (q : P (.bl (!(valD kvs (.inr z)).isSome)) m) : rNotInK (.str z) (.ref a) m P := ⟨a, kvs, .inr z, rfl, rfl, h, q⟩
theorem s_callK (h : tl sd m fun xs m1 => tk sd m1 fun ys m2 => xs.length = na ∧ ys.length = nb ∧ d (xs ++ ys) m2 P noX) : dCallK d na nb tl tk sd m P := h
theorem s_isN (h : t sd m fun x m1 => P (.bl (nonB x)) m1) : dIsN t sd m P := h
theorem s_notN (h : t sd m fun x m1 => P (.bl (!nonB x)) m1) : dNotN t sd m P := h
theorem r_and3 {A B C : Prop} (a : A) (b : B) (c : C) : A ∧ B ∧ C := ⟨a, b, c⟩
theorem s_gtup {ys : List D} {gs : TDGs} {n : Nat} {Q : DS → M → Prop} (hl : ys.length = n) (h : gs ys sd m Q) : dGTup n gs (.tup ys) sd m Q := ⟨ys, rfl, hl, h⟩
theorem s_gcons {t : TDG} {u : TDGs} {d : D} {r : List D} {Q : DS → M → Prop} (h : t d sd m fun sd' m' => u r sd' m' Q) : dGCons t u (d :: r) sd m Q := ⟨d, r, rfl, h⟩
theorem s_gnil {Q : DS → M → Prop} (h : Q sd m) : dGNil [] sd m Q := ⟨rfl, h⟩
end
local macro_rules | `(tactic| lcg_sub) => `(tactic| first
  | with_reducible refine s_dget ?_ | with_reducible refine s_un ?_ | with_reducible refine r_neg ?_ | ((with_reducible refine' r_dget ?h1 ?h2 ?h3); (case h1 => lcg_src); (case h2 => assumption)) | with_reducible refine s_callK ?_ | with_reducible refine s_isN ?_ | with_reducible refine s_notN ?_
  | ((with_reducible refine' r_inK ?h1 ?h2); (case h1 => lcg_src)) | ((with_reducible refine' r_ninK ?h1 ?h2); (case h1 => lcg_src))
  | ((with_reducible refine' s_gtup ?h1 ?h2); (case h1 => rfl)) | with_reducible refine s_gcons ?_ | with_reducible refine s_gnil ?_)
theorem r_listT {xs : List D} {m : M} {P : DK} (q : ∀ l, m l = none → P (.ref l) (put m l (.lst xs))) : rList [.tup xs] m P := q
theorem r_listR {xs : List D} {m : M} {P : DK} (q : ∀ l, m l = none → P (.ref l) (put m l (.lst xs))) : rList [.rol xs] m P := ⟨xs, rfl, q⟩
theorem r_listL {xs : List D} {a : Addr} {m : M} {P : DK} (h : m a = some (.lst xs)) (q : ∀ l, m l = none → P (.ref l) (put m l (.lst xs))) : rList [.ref a] m P := ⟨xs, h, q⟩
local macro_rules | `(tactic| lcg_sub) => `(tactic| first | with_reducible refine r_listT ?_ | with_reducible refine r_listR ?_ | ((with_reducible refine' r_listL ?h1 ?h2); (case h1 => lcg_src)))
def crD : Option Nat → D
  | none => .non
  | some k => .int k
theorem iteNonT {x : D} {A B : Prop} (h : nonB x = true) (q : A) : if nonB x = true then A else B := by rw [if_pos h]; exact q
theorem iteNonF {x : D} {A B : Prop} (h : nonB x = false) (q : B) : if nonB x = true then A else B := by rw [if_neg (by rw [h]; decide)]; exact q
theorem iteNNonT {x : D} {A B : Prop} (h : nonB x = true) (q : B) : if (!nonB x) = true then A else B := by rw [if_neg (by rw [h]; decide)]; exact q
theorem iteNNonF {x : D} {A B : Prop} (h : nonB x = false) (q : A) : if (!nonB x) = true then A else B := by rw [if_pos (by rw [h]; decide)]; exact q
local macro_rules | `(tactic| lcg_sub) => `(tactic| first | ((with_reducible refine' iteNonT ?h1 ?h2); (case h1 => rfl)) | ((with_reducible refine' iteNonF ?h1 ?h2); (case h1 => rfl)) | ((with_reducible refine' iteNNonT ?h1 ?h2); (case h1 => rfl)) | ((with_reducible refine' iteNNonF ?h1 ?h2); (case h1 => rfl)) | fail)
theorem r_neB {a b : Bool} {m : M} {P : DK} (q : P (.bl (!decide (a = b))) m) : rNeD (.bl a) (.bl b) m P := q
theorem r_neBs {a : Bool} {m : M} {P : DK} (q : P (.bl false) m) : rNeD (.bl a) (.bl a) m P := by
  show P (.bl (!decide (a = a))) m
  rw [decide_eq_true rfl]; exact q
local macro_rules | `(tactic| lcg_sub) => `(tactic| first | with_reducible refine r_neBs ?_ | with_reducible refine r_neB ?_)

/-! ### objects of the class Memory -/
def rowD (p : Int × Int) : D := .tup [.int p.1, .int p.2]
abbrev memF (r n : Addr) : List (Str × D) := [("rows", .ref r), ("numbers", .ref n)]
structure MemAt (x a dx r n : Addr) (m : M) (rs : List (Int × Int)) (kv : List (Key × D)) : Prop where
  ob : m a = some (.ins x dx (memF r n))
  ro : m r = some (.lst (rs.map rowD))
  nu : m n = some (.dct kv)
theorem MemAt.ar {x a dx r n : Addr} {m : M} {rs : List (Int × Int)} {kv : List (Key × D)} (h : MemAt x a dx r n m rs kv) : a ≠ r := fun e => by subst e; have := h.ob.symm.trans h.ro; cases this
theorem MemAt.an {x a dx r n : Addr} {m : M} {rs : List (Int × Int)} {kv : List (Key × D)} (h : MemAt x a dx r n m rs kv) : a ≠ n := fun e => by subst e; have := h.ob.symm.trans h.nu; cases this
theorem MemAt.rn {x a dx r n : Addr} {m : M} {rs : List (Int × Int)} {kv : List (Key × D)} (h : MemAt x a dx r n m rs kv) : r ≠ n := fun e => by subst e; have := h.ro.symm.trans h.nu; cases this
/-- all but the three objects of a memory are as they were -/
def FrM (a r n : Addr) (m m' : M) : Prop := ∀ b o, b ≠ a → b ≠ r → b ≠ n → m b = some o → m' b = some o
theorem FrM.refl {a r n : Addr} {m : M} : FrM a r n m m := fun _ _ _ _ _ h => h
section
variable {t : TDE} {u : TDE} {tl : TDA} {sd : DS} {m : M} {P : DK} {D' : DEnds} {d : DSp} {C : Addr} {f : Str}
def rFld (C : Addr) (f : Str) (x : D) (m1 : M) (P : DK) : Prop := ∃ a dx fs v, x = .ref a ∧ m1 a = some (.ins C dx fs) ∧ fs.lookup f = some v ∧ P v m1
theorem s_fld (h : t sd m fun x m1 => rFld C f x m1 P) : dFld C t f sd m P := h
theorem r_rows {a dx r n : Addr} (h : m a = some (.ins C dx (memF r n))) (q : P (.ref r) m) : rFld C "rows" (.ref a) m P := ⟨a, dx, _, _, rfl, h, rfl, q⟩
theorem r_numbers {a dx r n : Addr} (h : m a = some (.ins C dx (memF r n))) (q : P (.ref n) m) : rFld C "numbers" (.ref a) m P := ⟨a, dx, _, _, rfl, h, by rw [List.lookup_cons, List.lookup_cons]; rfl, q⟩
def rDPutI (z x y : D) (m3 : M) (Q : M → Prop) : Prop := ∃ a kvs k, x = .ref a ∧ y = kD k ∧ m3 a = some (.dct kvs) ∧ kvs.length < sizeLine ∧ Q (put m3 a (.dct (putD kvs k z)))
theorem s_dputI {v : TDE} (h : v sd m fun z m1 => t sd m1 fun x m2 => u sd m2 fun y m3 => rDPutI z x y m3 (D'.nx sd)) : dDPut t u v D' sd m := h
theorem r_dputI {a : Addr} {kvs : List (Key × D)} {i : Int} {e : D} {Q : M → Prop} (h : m a = some (.dct kvs)) (hl : kvs.length < sizeLine) (q : Q (put m a (.dct (putD kvs (.inl i) e)))) : rDPutI e (.ref a) (.int i) m Q := ⟨a, kvs, .inl i, rfl, rfl, h, hl, q⟩
theorem r_dgetI {a : Addr} {kvs : List (Key × D)} {i : Int} {e : D} (h : m a = some (.dct kvs)) (hv : valD kvs (.inl i) = some e) (q : P e m) : rDGetP (.ref a) (.int i) m P := ⟨a, kvs, .inl i, e, rfl, rfl, h, hv, q⟩
theorem r_ninKI {a : Addr} {kvs : List (Key × D)} {i : Int} (h : m a = some (.dct kvs)) (q : P (.bl (!(valD kvs (.inl i)).isSome)) m) : rNotInK (.int i) (.ref a) m P := ⟨a, kvs, .inl i, rfl, rfl, h, q⟩
def rDDelI (x y : D) (m2 : M) (Q : M → Prop) : Prop := ∃ a kvs k, x = .ref a ∧ y = kD k ∧ m2 a = some (.dct kvs) ∧ (valD kvs k).isSome = true ∧ Q (put m2 a (.dct (dropD kvs k)))
theorem s_ddelI (h : t sd m fun x m1 => u sd m1 fun y m2 => rDDelI x y m2 (D'.nx sd)) : dDDel t u D' sd m := h
theorem r_ddelI {a : Addr} {kvs : List (Key × D)} {i : Int} {Q : M → Prop} (h : m a = some (.dct kvs)) (hv : (valD kvs (.inl i)).isSome = true) (q : Q (put m a (.dct (dropD kvs (.inl i))))) : rDDelI (.ref a) (.int i) m Q := ⟨a, kvs, .inl i, rfl, rfl, h, hv, q⟩
def rSetFld (C : Addr) (f : Str) (y x : D) (m2 : M) (Q : M → Prop) : Prop := ∃ a dx fs, x = .ref a ∧ m2 a = some (.ins C dx fs) ∧ fs.length < 1000 ∧ Q (put m2 a (.ins C dx (putFD f y fs)))
theorem s_setFld (h : u sd m fun y m1 => t sd m1 fun x m2 => rSetFld C f y x m2 (D'.nx sd)) : dSetFld C t u f D' sd m := h
theorem r_setFld {a dx : Addr} {fs : List (Str × D)} {y : D} {Q : M → Prop} (h : m a = some (.ins C dx fs)) (hl : fs.length < 1000) (q : Q (put m a (.ins C dx (putFD f y fs)))) : rSetFld C f y (.ref a) m Q := ⟨a, dx, fs, rfl, h, hl, q⟩
def rMeth (C : Addr) (f : Str) (x : D) (m1 : M) (Q : Prop) : Prop := ∃ a dx fs, x = .ref a ∧ m1 a = some (.ins C dx fs) ∧ fs.lookup f = none ∧ Q
theorem s_meth (h : t sd m fun x m1 => ∃ a dx fs, x = .ref a ∧ m1 a = some (.ins C dx fs) ∧ fs.lookup f = none ∧ tl sd m1 fun xs m2 => d (x :: xs) m2 P noX) : dMeth C f d t tl sd m P := h
theorem r_meth {a dx r n : Addr} {Q : Prop} (h : m a = some (.ins C dx (memF r n))) (h2 : (memF r n).lookup f = none) (q : Q) : ∃ b dx fs, D.ref a = .ref b ∧ m b = some (.ins C dx fs) ∧ fs.lookup f = none ∧ Q := ⟨a, dx, _, rfl, h, h2, q⟩
theorem s_make0 (h : ∀ x dx, m x = none → d [.ref x] (put m x (.ins C dx [])) (fun v m2 => v = .non ∧ P (.ref x) m2) noX) : dMake0 C d sd m P := h
end
local macro_rules | `(tactic| lcg_sub) => `(tactic| first
  | with_reducible refine s_fld ?_ | ((with_reducible refine' r_rows ?h1 ?h2); (case h1 => lcg_src)) | ((with_reducible refine' r_numbers ?h1 ?h2); (case h1 => lcg_src))
  | with_reducible refine s_dputI ?_ | with_reducible refine s_ddelI ?_ | with_reducible refine s_setFld ?_ | with_reducible refine s_meth ?_
  | ((with_reducible refine' r_dgetI ?h1 ?h2 ?h3); (case h1 => lcg_src); (case h2 => assumption)) | ((with_reducible refine' r_ninKI ?h1 ?h2); (case h1 => lcg_src))
  | fail)
/-! ### __init__, read, write, blocks -/
def sp_init (x : Addr) : DSp := fun ds m P _ => ∃ a dx, ds = [.ref a] ∧ m a = some (.ins x dx []) ∧ ∀ r n m', m r = none → m n = none → r ≠ a → n ≠ a → r ≠ n → MemAt x a dx r n m' [] [] → FrM a r n m m' → P .non m'
theorem rd_init (x : Addr) : ∀ ds m P EX, sp_init x ds m P EX → Go P (b_Memory_init x) (dstart ["self"] ds) m := by
  rintro ds m P EX ⟨a, dx, rfl, ha, q⟩
  show b_Memory_init x { nx := fun _ m' => Ret P .non m', rt := Ret P } [some (.ref a)] m
  unfold b_Memory_init
  refine s_seq ?_
  lcg_off
  rename_i r hr
  have nar : a ≠ r := neA ha hr
  refine r_setFld ((put_ne nar).trans ha) (by decide) ?_
  have e1 : putFD "rows" (.ref r) [] = ([("rows", D.ref r)] : List (Str × D)) := rfl
  rw [e1]
  refine s_setFld ?_
  intro n hn
  have hn1 : n ≠ a ∧ n ≠ r ∧ m n = none := by
    simp only [put_none] at hn
    exact hn
  obtain ⟨nna, nnr, hn⟩ := hn1
  lcg_off
  refine r_setFld ((put_ne (Ne.symm nna)).trans put_same) (by show 1 < 1000; decide) ?_
  have e2 : putFD "numbers" (.ref n) ([("rows", D.ref r)] : List (Str × D)) = memF r n := by
    rw [putFD, if_neg (by decide +kernel)]; rfl
  rw [e2]
  refine ⟨_, Less.refl _, q r n _ hr hn (Ne.symm nar) nna (Ne.symm nnr) ⟨put_same, ?_, ?_⟩ ?_⟩
  · rw [put_ne (Ne.symm nar), put_ne (Ne.symm nnr), put_ne (Ne.symm nar), put_same]; rfl
  · rw [put_ne nna, put_same]
  · intro b o b1 b2 b3 hb
    rw [put_ne b1, put_ne b3, put_ne b1, put_ne b2]
    exact hb
def sp_read (x : Addr) : DSp := fun ds m P _ => ∃ a dx r n rs kv c v, ds = [.ref a, .int c] ∧ MemAt x a dx r n m rs kv ∧ valD kv (.inl c) = some v ∧ P v m
theorem rd_read (x : Addr) : ∀ ds m P EX, sp_read x ds m P EX → Go P (b_Memory_read x) (dstart ["self", "address"] ds) m := by
  rintro ds m P EX ⟨a, dx, r, n, rs, kv, c, v, rfl, hM, hv, q⟩
  show b_Memory_read x { nx := fun _ m' => Ret P .non m', rt := Ret P } [some (.ref a), some (.int c)] m
  unfold b_Memory_read
  have h1 := hM.ob
  have h3 := hM.nu
  refine s_seq ?_
  lcg_off
  rw [hv, Option.isSome_some]
  lcg_off
  exact ⟨_, Less.refl _, q⟩
def sp_write (x : Addr) : DSp := fun ds m P _ => ∃ a dx r n rs kv c v, ds = [.ref a, .int c, .int v] ∧ MemAt x a dx r n m rs kv ∧ (valD kv (.inl c)).isSome = true ∧ kv.length < 1000000 ∧ ∀ m', MemAt x a dx r n m' rs (putD kv (.inl c) (.int v)) → FrM a r n m m' → P .non m'
theorem rd_write (x : Addr) : ∀ ds m P EX, sp_write x ds m P EX → Go P (b_Memory_write x) (dstart ["self", "address", "number"] ds) m := by
  rintro ds m P EX ⟨a, dx, r, n, rs, kv, c, v, rfl, hM, hv, hl, q⟩
  show b_Memory_write x { nx := fun _ m' => Ret P .non m', rt := Ret P } [some (.ref a), some (.int c), some (.int v)] m
  unfold b_Memory_write
  have h1 := hM.ob
  have h3 := hM.nu
  refine s_seq ?_
  lcg_off
  rw [hv]
  lcg_off
  refine r_dputI h3 (by have := PySem.sizeLine_eq; omega) ?_
  refine ⟨_, Less.refl _, q _ ⟨(put_ne hM.an).trans h1, (put_ne hM.rn).trans hM.ro, put_same⟩ ?_⟩
  intro b o b1 b2 b3 hb
  rw [put_ne b3]
  exact hb
def sp_blocks (x : Addr) : DSp := fun ds m P _ => ∃ a dx r n rs kv, ds = [.ref a] ∧ MemAt x a dx r n m rs kv ∧ ∀ p, m p = none → P (.ref p) (put m p (.lst (rs.map rowD)))
theorem rd_blocks (x : Addr) : ∀ ds m P EX, sp_blocks x ds m P EX → Go P (b_Memory_blocks x) (dstart ["self"] ds) m := by
  rintro ds m P EX ⟨a, dx, r, n, rs, kv, rfl, hM, q⟩
  show b_Memory_blocks x { nx := fun _ m' => Ret P .non m', rt := Ret P } [some (.ref a)] m
  unfold b_Memory_blocks
  have h1 := hM.ob
  have h2 := hM.ro
  lcg_off
  exact ⟨_, Less.refl _, q _ ‹_›⟩

/-! ### keys -/
theorem valD_put (kvs : List (Key × D)) (k k' : Key) (d : D) : valD (putD kvs k d) k' = if k' = k then some d else valD kvs k' := by
  have mapped : ∀ l : List (Key × D), ((l.map fun p => if p.1 = k then (p.1, d) else p).find? fun p => decide (p.1 = k')).map (·.2) = if k' = k then (if (l.any fun p => decide (p.1 = k)) = true then some d else none) else (l.find? fun p => decide (p.1 = k')).map (·.2) := by
    intro l
    induction l with
    | nil => simp
    | cons q l ih =>
      rw [List.map_cons, List.find?_cons, List.any_cons, List.find?_cons]
      by_cases hq : q.1 = k
      · rw [if_pos hq]
        by_cases hk : k' = k
        · subst hk; simp [hq]
        · have : ¬ q.1 = k' := fun e => hk (e.symm.trans hq)
          simp only [decide_eq_false this, if_neg hk]
          rw [ih, if_neg hk]
      · rw [if_neg hq]
        by_cases hk : q.1 = k'
        · have : ¬ k' = k := fun e => hq (hk.trans e)
          simp [hk, this]
        · simp only [decide_eq_false hk, decide_eq_false hq, Bool.false_or]
          exact ih
  unfold valD putD
  split
  · rename_i h
    rw [mapped]
    rw [if_pos h]
  · rename_i h
    rw [List.find?_append]
    by_cases hk : k' = k
    · subst hk
      have : (kvs.find? fun p => decide (p.1 = k')) = none := by
        rw [List.find?_eq_none]
        intro p hp e
        exact h (List.any_eq_true.mpr ⟨p, hp, e⟩)
      rw [this, if_pos rfl]
      simp
    · rw [if_neg hk]
      have : ¬ k = k' := fun e => hk e.symm
      cases kvs.find? fun p => decide (p.1 = k') with
      | none => simp [this]
      | some v => simp
theorem putD_len (kvs : List (Key × D)) (k : Key) (d : D) : (putD kvs k d).length ≤ kvs.length + 1 := by
  unfold putD
  split
  · rw [List.length_map]; omega
  · rw [List.length_append]; exact Nat.le_refl _
theorem valD_drop (kvs : List (Key × D)) (k k' : Key) : valD (dropD kvs k) k' = if k' = k then none else valD kvs k' := by
  unfold valD dropD
  induction kvs with
  | nil => simp
  | cons q l ih =>
    rw [List.filter_cons]
    by_cases hq : q.1 = k
    · rw [if_neg (by simp [hq]), ih]
      by_cases hk : k' = k
      · rw [if_pos hk, if_pos hk]
      · have : ¬ q.1 = k' := fun e => hk (e.symm.trans hq)
        rw [if_neg hk, if_neg hk, List.find?_cons, decide_eq_false this]
    · rw [if_pos (by simp [hq]), List.find?_cons, List.find?_cons]
      by_cases hk : q.1 = k'
      · have : ¬ k' = k := fun e => hq (hk.trans e)
        rw [decide_eq_true hk, if_neg this]
      · rw [decide_eq_false hk]
        exact ih
theorem dropD_len (kvs : List (Key × D)) (k : Key) : (dropD kvs k).length ≤ kvs.length := List.length_filter_le ..
/-! ### rows in order -/
abbrev Rows := List (Int × Int)
def Srt : Int → Rows → Prop
  | _, [] => True
  | lo, p :: r => lo ≤ p.1 ∧ 1 ≤ p.2 ∧ Srt (p.1 + p.2) r
def low (sz : Int) : Int → Rows → Int
  | ad, [] => ad
  | ad, p :: r => if sz ≤ p.1 - ad then ad else low sz (p.1 + p.2) r
def skip (sz : Int) : Int → Rows → Nat
  | _, [] => 0
  | ad, p :: r => if sz ≤ p.1 - ad then 0 else skip sz (p.1 + p.2) r + 1
def newRows (sz : Int) (lo : Int) (rs : Rows) : Rows := rs.take (skip sz lo rs) ++ [(low sz lo rs, sz)] ++ rs.drop (skip sz lo rs)
theorem low_ge {sz : Int} : ∀ {lo : Int} {rs : Rows}, Srt lo rs → lo ≤ low sz lo rs
  | _, [], _ => Int.le_refl _
  | lo, p :: r, h => by
    rw [low]
    split
    · exact Int.le_refl _
    · have := low_ge (sz := sz) h.2.2
      have h1 := h.1
      have h2 := h.2.1
      omega
theorem low_le {sz B : Int} : ∀ {lo : Int} {rs : Rows}, lo ≤ B → (∀ p ∈ rs, p.1 + p.2 ≤ B) → low sz lo rs ≤ B
  | _, [], h, _ => h
  | lo, p :: r, h, hb => by
    rw [low]
    split
    · exact h
    · exact low_le (hb p List.mem_cons_self) fun q hq => hb q (List.mem_cons_of_mem _ hq)
theorem skip_le {sz : Int} : ∀ {lo : Int} {rs : Rows}, skip sz lo rs ≤ rs.length
  | _, [] => Nat.le_refl _
  | lo, p :: r => by
    rw [skip]
    split
    · exact Nat.zero_le _
    · have := skip_le (sz := sz) (lo := p.1 + p.2) (rs := r)
      rw [List.length_cons]; omega
theorem Srt.le {lo lo' : Int} : ∀ {rs : Rows}, Srt lo rs → lo' ≤ lo → Srt lo' rs
  | [], _, _ => trivial
  | _ :: _, h, e => ⟨Int.le_trans e h.1, h.2⟩
theorem Srt.new {sz : Int} (hs : 1 ≤ sz) : ∀ {lo : Int} {rs : Rows}, Srt lo rs → Srt lo (newRows sz lo rs)
  | lo, [], _ => ⟨Int.le_refl _, hs, trivial⟩
  | lo, p :: r, h => by
    unfold newRows
    rw [low, skip]
    split
    · rename_i e
      exact ⟨Int.le_refl _, hs, by show _ ≤ _; omega, h.2⟩
    · exact ⟨h.1, h.2.1, Srt.new hs h.2.2⟩
theorem Srt.mem {lo : Int} : ∀ {rs : Rows}, Srt lo rs → ∀ p ∈ rs, lo ≤ p.1 ∧ 1 ≤ p.2
  | [], _, p, hp => by cases hp
  | q :: r, h, p, hp => by
    rcases List.mem_cons.mp hp with rfl | hp
    · exact ⟨h.1, h.2.1⟩
    · have h3 := Srt.mem h.2.2 p hp
      have h1 := h.1
      have h2 := h.2.1
      exact ⟨by omega, h3.2⟩
theorem with_lt {sz : Int} (hs : 1 ≤ sz) : ∀ {lo : Int} {rs : Rows}, Srt lo rs → rs.filter (fun p => decide (p.1 < low sz lo rs)) = rs.take (skip sz lo rs)
  | lo, [], _ => rfl
  | lo, p :: r, h => by
    rw [low, skip]
    split
    · rename_i e
      rw [List.take_zero, List.filter_eq_nil_iff]
      intro q hq hd
      have h4 := Srt.mem (lo := p.1) (rs := p :: r) ⟨Int.le_refl _, h.2⟩ q hq
      have := of_decide_eq_true hd
      omega
    · have h5 := low_ge (sz := sz) h.2.2
      have h1 := h.2.1
      rw [List.filter_cons, if_pos (decide_eq_true (by omega)), List.take_succ_cons, with_lt hs h.2.2]
theorem with_gt {sz : Int} (hs : 1 ≤ sz) : ∀ {lo : Int} {rs : Rows}, Srt lo rs → rs.filter (fun p => decide (low sz lo rs < p.1)) = rs.drop (skip sz lo rs)
  | lo, [], _ => rfl
  | lo, p :: r, h => by
    rw [low, skip]
    split
    · rename_i e
      rw [List.drop_zero, List.filter_eq_self]
      intro q hq
      have h4 := Srt.mem (lo := p.1) (rs := p :: r) ⟨Int.le_refl _, h.2⟩ q hq
      exact decide_eq_true (by omega)
    · have h5 := low_ge (sz := sz) h.2.2
      have h1 := h.2.1
      rw [List.filter_cons, if_neg (fun e => by have := of_decide_eq_true e; omega), List.drop_succ_cons, with_gt hs h.2.2]
theorem Srt.erase : ∀ {lo : Int} {rs : Rows} (i : Nat), Srt lo rs → Srt lo (rs.eraseIdx i)
  | _, [], _, _ => trivial
  | lo, p :: r, 0, h => h.2.2.le (by have := h.1; have := h.2.1; omega)
  | lo, p :: r, i + 1, h => ⟨h.1, h.2.1, h.2.2.erase i⟩
/-- of two rows at different places one stands behind the other -/
theorem Srt.apart : ∀ {lo : Int} {rs : Rows}, Srt lo rs → ∀ {i j : Nat} {p q : Int × Int}, i < j → rs[i]? = some p → rs[j]? = some q → p.1 + p.2 ≤ q.1
  | _, [], _, i, j, p, q, _, h, _ => by simp at h
  | lo, x :: r, h, 0, j + 1, p, q, _, h1, h2 => by
    simp at h1
    subst h1
    rw [List.getElem?_cons_succ] at h2
    exact (Srt.mem h.2.2 q (List.mem_of_getElem? h2)).1
  | lo, x :: r, h, i + 1, j + 1, p, q, hij, h1, h2 => by
    rw [List.getElem?_cons_succ] at h1 h2
    exact Srt.apart h.2.2 (by omega) h1 h2
/-- the filter by another address takes away just that row -/
theorem filter_ne : ∀ {lo : Int} {rs : Rows}, Srt lo rs → ∀ {i : Nat} {p : Int × Int}, rs[i]? = some p → rs.filter (fun q => !decide (q.1 = p.1)) = rs.eraseIdx i
  | _, [], _, i, p, h => by simp at h
  | lo, x :: r, h, 0, p, h1 => by
    simp at h1
    subst h1
    rw [List.filter_cons, if_neg (by simp), List.eraseIdx_cons_zero, List.filter_eq_self]
    intro q hq
    have h4 := Srt.mem h.2.2 q hq
    have h5 := h.2.1
    have : ¬ q.1 = x.1 := by omega
    simp [this]
  | lo, x :: r, h, i + 1, p, h1 => by
    rw [List.getElem?_cons_succ] at h1
    have h4 := Srt.mem h.2.2 p (List.mem_of_getElem? h1)
    have h5 := h.2.1
    have : ¬ x.1 = p.1 := by omega
    rw [List.filter_cons, if_pos (by simp [this]), List.eraseIdx_cons_succ, filter_ne h.2.2 h1]

/-! ### allocate, release -/
def Cov (rs : Rows) (kv : List (Key × D)) : Prop := ∀ p ∈ rs, ∀ c, p.1 ≤ c → c < p.1 + p.2 → (valD kv (.inl c)).isSome = true
theorem r_insert {a : Addr} {i : Int} {y : D} {xs : List D} {m : M} {P : DK} (h : m a = some (.lst xs)) (hl : xs.length < sizeLine) (h0 : 0 ≤ i) (h1 : i < 2 ^ 63) (q : P .non (put m a (.lst (xs.take i.toNat ++ [y] ++ xs.drop i.toNat)))) : rInsert (.ref a) [.int i, y] m P := ⟨xs, h, hl, h0, h1, q⟩
theorem r_popAt {a : Addr} {i : Int} {y : D} {xs : List D} {m : M} {P : DK} (h : m a = some (.lst xs)) (h0 : 0 ≤ i) (h1 : i < 2 ^ 62) (hy : xs[i.toNat]? = some y) (q : P y (put m a (.lst (xs.eraseIdx i.toNat)))) : rPopAtD (.ref a) [.int i] m P := ⟨xs, y, h, h0, h1, hy, q⟩
theorem rowsNew {sz lo : Int} {rs : Rows} : (rs.map rowD).take (skip sz lo rs) ++ [rowD (low sz lo rs, sz)] ++ (rs.map rowD).drop (skip sz lo rs) = (newRows sz lo rs).map rowD := by
  unfold newRows
  rw [List.map_append, List.map_append, List.map_take, List.map_drop]; rfl
def sp_alloc (x : Addr) : DSp := fun ds m P _ => ∃ a dx r n rs kv sz, ds = [.ref a, .int sz] ∧ MemAt x a dx r n m rs kv ∧ Srt 1 rs ∧ 1 ≤ sz ∧ sz ≤ 1000 ∧ rs.length ≤ 1000 ∧ kv.length ≤ 1000000 ∧ (∀ p ∈ rs, p.1 + p.2 ≤ 1000000) ∧
  ∀ m' kv', MemAt x a dx r n m' (newRows sz 1 rs) kv' → (∀ c, valD kv' (.inl c) = if low sz 1 rs ≤ c ∧ c < low sz 1 rs + sz then some (.int 0) else valD kv (.inl c)) → kv'.length ≤ kv.length + sz.toNat → FrM a r n m m' → P (.int (low sz 1 rs)) m'
theorem rd_alloc (x : Addr) : ∀ ds m P EX, sp_alloc x ds m P EX → Go P (b_Memory_allocate x) (dstart ["self", "size", "cell", "address", "at"] ds) m := by
  rintro ds m P EX ⟨a, dx, r, n, rs, kv, sz, rfl, hM, hS, hz1, hz2, hrl, hkl, hb, q⟩
  show b_Memory_allocate x { nx := fun _ m' => Ret P .non m', rt := Ret P } [some (.ref a), some (.int sz), none, none, none] m
  unfold b_Memory_allocate
  have h1 := hM.ob
  have h2 := hM.ro
  have h3 := hM.nu
  have hlen : (rs.map rowD).length = rs.length := List.length_map ..
  have hz := PySem.sizeLine_eq
  refine s_seq ?_
  lcg_off
  refine s_cut (fun sd m' => m' = m ∧ sd = [some (.ref a), some (.int sz), none, some (.int (low sz 1 rs)), some (.int (skip sz 1 rs : Nat))]) ?_ ?_
  · refine ⟨fun k sd m' => m' = m ∧ ∃ (at_ : Nat) (ad : Int), k = rs.length - at_ ∧ at_ ≤ rs.length ∧ sd = [some (.ref a), some (.int sz), none, some (.int ad), some (.int at_)] ∧ low sz ad (rs.drop at_) = low sz 1 rs ∧ at_ + skip sz ad (rs.drop at_) = skip sz 1 rs, ⟨rs.length, rfl, 0, 1, by omega, by omega, rfl, rfl, by rw [Nat.zero_add]; rfl⟩, ?_⟩
    rintro k _ _ ⟨rfl, at_, ad, rfl, hat, rfl, e1, e2⟩
    refine s_and ?_
    lcg_off
    · rename_i hlt
      have hlt2 : at_ < rs.length := by omega
      have hd0 : rs[at_]? = some (rs[at_]'hlt2) := List.getElem?_eq_getElem _
      have hdr : rs.drop at_ = (rs[at_]'hlt2) :: rs.drop (at_ + 1) := List.drop_eq_getElem_cons hlt2
      rw [hdr] at e1 e2
      generalize rs[at_]'hlt2 = p at hd0 e1 e2
      have hd : (rs.map rowD)[at_]? = some (.tup [.int p.1, .int p.2]) := by rw [List.getElem?_map, hd0]; rfl
      rw [low] at e1
      rw [skip] at e2
      lcg_off
      · rename_i hc
        rw [if_neg (by omega)] at e1 e2
        refine s_aug rfl ?_
        lcg_off
        exact ⟨_, Less.refl _, rs.length - (at_ + 1), by omega, rfl, at_ + 1, p.1 + p.2, rfl, hlt2, rfl, e1, by omega⟩
      · rename_i hc
        rw [if_pos (by omega)] at e1 e2
        exact ⟨_, Less.refl _, rfl, by rw [← e1, ← e2]; rfl⟩
    · have hat2 : at_ = rs.length := by omega
      rw [hat2, List.drop_length] at e1 e2
      rw [low] at e1
      rw [skip] at e2
      exact ⟨_, Less.refl _, rfl, by rw [← e1, ← e2, hat2]; rfl⟩
  · rintro _ m2 ⟨rfl, rfl⟩
    have hsk : skip sz 1 rs ≤ rs.length := skip_le
    have hlo := low_ge (sz := sz) hS
    have hhi : low sz 1 rs ≤ 1000000 := low_le (by decide) hb
    lcg_off
    refine r_insert h2 (by omega) (by omega) (by omega) ?_
    rw [show ((skip sz 1 rs : Nat) : Int).toNat = skip sz 1 rs from rfl]
    rw [show D.tup [D.int (low sz 1 rs), D.int sz] = rowD (low sz 1 rs, sz) from rfl, rowsNew]
    have hM1 : MemAt x a dx r n (put m2 r (.lst ((newRows sz 1 rs).map rowD))) (newRows sz 1 rs) kv := ⟨(put_ne hM.ar).trans h1, put_same, (put_ne (Ne.symm hM.rn)).trans h3⟩
    have hF1 : FrM a r n m2 (put m2 r (.lst ((newRows sz 1 rs).map rowD))) := fun b o b1 b2 b3 hb => (put_ne b2).trans hb
    refine s_seq ?_
    lcg_off
    refine ⟨⟨by omega, by omega, by omega, by omega⟩, fun i sd m' => (∃ c, sd = [some (.ref a), some (.int sz), c, some (.int (low sz 1 rs)), some (.int (skip sz 1 rs : Nat))]) ∧ ∃ kv', MemAt x a dx r n m' (newRows sz 1 rs) kv' ∧
      (∀ c, valD kv' (.inl c) = if low sz 1 rs ≤ c ∧ c < low sz 1 rs + i then some (.int 0) else valD kv (.inl c)) ∧ kv'.length ≤ kv.length + i ∧ FrM a r n m2 m', ⟨⟨_, rfl⟩, kv, hM1, fun c => (by rw [if_neg (by omega)]), by omega, hF1⟩, ?_, ?_⟩
    · rintro i _ m3 hi ⟨⟨c, rfl⟩, kv', hM3, hv3, hl3, hF3⟩
      have g1 := hM3.ob
      have g3 := hM3.nu
      lcg_off
      refine r_dputI g3 (by omega) ?_
      refine ⟨_, Less.refl _, ⟨_, rfl⟩, _, ⟨(put_ne hM3.an).trans hM3.ob, (put_ne hM3.rn).trans hM3.ro, put_same⟩, fun c => ?_, ?_, fun b o b1 b2 b3 hb => (put_ne b3).trans (hF3 b o b1 b2 b3 hb)⟩
      · rw [valD_put, hv3]
        by_cases hc : c = low sz 1 rs + i
        · rw [if_pos (by rw [hc]), if_pos (by omega)]
        · rw [if_neg (by intro e; injection e with e; exact hc e)]
          by_cases h5 : low sz 1 rs ≤ c ∧ c < low sz 1 rs + i
          · rw [if_pos h5, if_pos (by omega)]
          · rw [if_neg h5, if_neg (by omega)]
      · have := putD_len kv' (.inl (low sz 1 rs + i)) (.int 0)
        omega
    · rintro _ m3 ⟨⟨c, rfl⟩, kv', hM3, hv3, hl3, hF3⟩
      lcg_off
      refine ⟨_, Less.refl _, q m3 kv' hM3 (fun c => ?_) (by omega) hF3⟩
      rw [hv3]
      have e : ((low sz 1 rs + sz - low sz 1 rs).toNat : Int) = sz := by omega
      rw [e]
theorem erase_map {α β : Type} (f : α → β) : ∀ (l : List α) (i : Nat), (l.map f).eraseIdx i = (l.eraseIdx i).map f
  | [], _ => rfl
  | _ :: _, 0 => rfl
  | x :: l, i + 1 => by rw [List.map_cons, List.eraseIdx_cons_succ, List.eraseIdx_cons_succ, List.map_cons, erase_map f l i]
theorem s_lcN {tl : TDA} {g : TDG} {tt : TDT} {te : TDE} {vs : List Nat} {sd : DS} {m : M} {P : DK} (h : tl sd m fun ys m1 => match ys with | [.ref a] => ∃ xs, m1 a = some (.lst xs) ∧ CN a xs g tt te vs sd m1 P | _ => False) : dLcN tl g tt te vs sd m P := h
theorem s_truL {a : Addr} {xs : List D} {m : M} {P : Bool → M → Prop} (h : m a = some (.lst xs)) (q : P (!xs.isEmpty) m) : truD (.ref a) m P := ⟨xs, h, q⟩
theorem Srt.uniq {rs : Rows} {lo : Int} (h : Srt lo rs) {i j : Nat} {p q : Int × Int} (hi : rs[i]? = some p) (hj : rs[j]? = some q) (e : q.1 = p.1) : j = i := by
  have p1 := (h.mem p (List.mem_of_getElem? hi)).2
  have q1 := (h.mem q (List.mem_of_getElem? hj)).2
  rcases Nat.lt_trichotomy i j with l | l | l
  · have := h.apart l hi hj; omega
  · exact l.symm
  · have := h.apart l hj hi; omega
def sp_release (x : Addr) : DSp := fun ds m P _ => ∃ a dx r n rs kv i p, ds = [.ref a, .int p.1] ∧ MemAt x a dx r n m rs kv ∧ Srt 1 rs ∧ rs[i]? = some p ∧ Cov rs kv ∧ rs.length ≤ 1000 ∧ (∀ p ∈ rs, p.1 + p.2 ≤ 1000000) ∧
  ∀ m' kv', MemAt x a dx r n m' (rs.eraseIdx i) kv' → (∀ c, valD kv' (.inl c) = if p.1 ≤ c ∧ c < p.1 + p.2 then none else valD kv (.inl c)) → kv'.length ≤ kv.length → FrM a r n m m' → P .non m'
theorem rd_release (x : Addr) : ∀ ds m P EX, sp_release x ds m P EX → Go P (b_Memory_release x) (dstart ["self", "address", "found", "cell", "_", "size", "at", "row"] ds) m := by
  rintro ds m P EX ⟨a, dx, r, n, rs, kv, i, p, rfl, hM, hS, hi, hC, hrl, hb, q⟩
  show b_Memory_release x { nx := fun _ m' => Ret P .non m', rt := Ret P } [some (.ref a), some (.int p.1), none, none, none, none, none, none] m
  unfold b_Memory_release
  have h1 := hM.ob
  have h2 := hM.ro
  have h3 := hM.nu
  have hlen : (rs.map rowD).length = rs.length := List.length_map ..
  have hz := PySem.sizeLine_eq
  refine s_seq ?_
  lcg_off
  refine s_lcN ?_
  lcg_off
  refine ⟨_, h2, fun l hl => ?_⟩
  have hil := (List.getElem?_eq_some_iff.mp hi).1
  have hpm := List.mem_of_getElem? hi
  have hps := (hS.mem p hpm).2
  have hpl := (hS.mem p hpm).1
  have hpb := hb p hpm
  have nrl : r ≠ l := neA h2 hl
  refine ⟨fun j acc m2 => m2 = m ∧ acc = if i < j then [.int (i : Nat)] else [], ⟨rfl, by rw [if_neg (by omega)]⟩, ?_, ?_, ?_⟩
  · rintro j acc _ _ ⟨rfl, _⟩
    exact h2
  · rintro j y acc _ hy ⟨rfl, rfl⟩
    obtain ⟨w, hj, hm, rfl⟩ := getMap hy
    unfold CTurn rowD
    lcg_off
    · rename_i e
      have ej := hS.uniq hi hj e
      subst ej
      refine ⟨_, Less.refl _, ?_, rfl, ?_⟩
      · rw [if_neg (by omega)]; simp; omega
      · rw [if_neg (by omega), if_pos (by omega)]; rfl
    · rename_i e
      have ne : j ≠ i := fun h => by subst h; rw [hi] at hj; cases hj; exact e rfl
      refine ⟨_, Less.refl _, rfl, ?_⟩
      by_cases h5 : i < j
      · rw [if_pos h5, if_pos (by omega)]
      · rw [if_neg h5, if_neg (by omega)]
  · rintro acc m2 ⟨rfl, rfl⟩
    rw [if_pos (by omega)]
    lcg_off
    refine s_seq ?_
    lcg_off
    refine s_truL put_same ?_
    rw [if_neg (by simp)]
    have nal : a ≠ l := neA h1 hl
    have nnl : n ≠ l := neA h3 hl
    have hd : (rs.map rowD)[i]? = some (.tup [.int p.1, .int p.2]) := by rw [List.getElem?_map, hi]; rfl
    lcg_off
    refine r_popAt (y := .tup [.int p.1, .int p.2]) ((put_ne nrl).trans h2) (by omega) (by omega) hd ?_
    have ee : (rs.map rowD).eraseIdx ((i : Nat) : Int).toNat = (rs.eraseIdx i).map rowD := by
      rw [Int.toNat_natCast, erase_map]
    rw [ee]
    lcg_off
    have hM1 : MemAt x a dx r n (put (put m2 l (.lst [.int i])) r (.lst ((rs.eraseIdx i).map rowD))) (rs.eraseIdx i) kv :=
      ⟨(put_ne hM.ar).trans ((put_ne nal).trans h1), put_same, (put_ne (Ne.symm hM.rn)).trans ((put_ne nnl).trans h3)⟩
    have hF1 : FrM a r n m2 (put (put m2 l (.lst [.int i])) r (.lst ((rs.eraseIdx i).map rowD))) := fun b o b1 b2 b3 hb =>
      (put_ne b2).trans ((put_ne (neA hb hl)).trans hb)
    refine ⟨⟨by omega, by omega, by omega, by omega⟩, fun j sd m' => (∃ c, sd = [some (.ref a), some (.int p.1), some (.ref l), c, some (.int p.1), some (.int p.2), none, none]) ∧ ∃ kv', MemAt x a dx r n m' (rs.eraseIdx i) kv' ∧
      (∀ c, valD kv' (.inl c) = if p.1 ≤ c ∧ c < p.1 + j then none else valD kv (.inl c)) ∧ kv'.length ≤ kv.length ∧ FrM a r n m2 m', ⟨⟨_, rfl⟩, kv, hM1, fun c => (by rw [if_neg (by omega)]), Nat.le_refl _, hF1⟩, ?_, ?_⟩
    · rintro j _ m3 hj ⟨⟨c, rfl⟩, kv', hM3, hv3, hl3, hF3⟩
      have g1 := hM3.ob
      have g3 := hM3.nu
      lcg_off
      refine r_ddelI g3 (by rw [hv3, if_neg (by omega)]; exact hC p hpm _ (by omega) (by omega)) ?_
      refine ⟨_, Less.refl _, ⟨_, rfl⟩, _, ⟨(put_ne hM3.an).trans hM3.ob, (put_ne hM3.rn).trans hM3.ro, put_same⟩, fun c => ?_, Nat.le_trans (dropD_len _ _) hl3, fun b o b1 b2 b3 hb => (put_ne b3).trans (hF3 b o b1 b2 b3 hb)⟩
      rw [valD_drop, hv3]
      by_cases hc : c = p.1 + j
      · rw [if_pos (by rw [hc]), if_pos (by omega)]
      · rw [if_neg (by intro e; injection e with e; exact hc e)]
        by_cases h5 : p.1 ≤ c ∧ c < p.1 + j
        · rw [if_pos h5, if_pos (by omega)]
        · rw [if_neg h5, if_neg (by omega)]
    · rintro _ m3 ⟨⟨c, rfl⟩, kv', hM3, hv3, hl3, hF3⟩
      refine ⟨_, Less.refl _, q m3 kv' hM3 (fun c => ?_) hl3 hF3⟩
      rw [hv3]
      have e : ((p.1 + p.2 - p.1).toNat : Int) = p.2 := by omega
      rw [e]

/-- [x for x in l if t] -/
theorem cl_filter {α : Type} {f : α → D} {b : α → Bool} {xs : List α} {a : Addr} {i : Nat} {tt : TDT} {vs : List Nat} {sd : DS} {m : M} {P : DK} (hl : xs.length ≤ 1000) (ha : m a = some (.lst (xs.map f))) (hi : i < (wipeD sd vs).length)
    (ht : ∀ x ∈ xs, ∀ m' (Q : Bool → M → Prop), Q (b x) m' → tt ((wipeD sd vs).set i (some (f x))) m' Q)
    (q : ∀ p, m p = none → P (.ref p) (put m p (.lst ((xs.filter b).map f)))) : CL a (xs.map f) (dName i) tt (dVar i) vs sd m P := fun p hp => by
  refine ⟨fun j acc m2 => m2 = m ∧ acc = ((xs.take j).filter b).map f, ⟨rfl, rfl⟩, ?_, ?_, ?_⟩
  · rintro j acc _ _ ⟨rfl, _⟩
    exact ha
  · rintro j x acc _ hx ⟨rfl, rfl⟩
    obtain ⟨y, hj, hm, rfl⟩ := getMap hx
    have lt := (List.getElem?_eq_some_iff.mp hj).1
    have hl2 : ((xs.take j).filter b).length ≤ 1000 := Nat.le_trans (List.length_filter_le ..) (by rw [List.length_take]; omega)
    have hz := PySem.sizeLine_eq
    have et : (xs.take (j + 1)).filter b = (xs.take j).filter b ++ (if b y = true then [y] else []) := by
      rw [List.take_add_one, hj, List.filter_append]
      congr 1
      show [y].filter b = _
      rw [List.filter_cons, List.filter_nil]
    unfold CTurn
    show tt ((wipeD sd vs).set i (some (f y))) _ _
    refine ht y hm _ _ ?_
    cases hb : b y with
    | true =>
      rw [hb, if_pos rfl] at et
      rw [if_pos rfl]
      refine ⟨f y, by rw [List.getElem?_set_self hi], _, Less.refl _, by rw [List.length_map]; omega, rfl, ?_⟩
      rw [et, List.map_append]; rfl
    | false =>
      rw [hb, if_neg (by decide), List.append_nil] at et
      rw [if_neg (by decide)]
      exact ⟨_, Less.refl _, rfl, by rw [et]⟩
  · rintro _ _ ⟨rfl, rfl⟩
    rw [List.length_map, List.take_length]
    exact q p hp
def sp_numbers : DSp := fun ds m P _ => ∃ ns, ds = [.rol (List.map D.int ns)] ∧ ∀ p (xs : List Int), m p = none → xs.length ≤ 40 → (∀ v ∈ xs, 0 ≤ v ∧ v < 64) → P (.ref p) (put m p (.lst (List.map D.int xs)))
theorem rd_numbers : ∀ ds m P EX, sp_numbers ds m P EX → Go P b_law_numbers (dstart ["script", "numbers", "cell", "rest", "k"] ds) m := by
  rintro ds m P EX ⟨ns, rfl, q⟩
  show b_law_numbers { nx := fun _ m' => Ret P .non m', rt := Ret P } [some (.rol (List.map D.int ns)), none, none, none, none] m
  unfold b_law_numbers
  lcg_off
  rename_i nl hnl
  refine s_seq ?_
  lcg_off
  rename_i p hpn hpm
  have ec : cutL (List.map D.int ns) none (some 63) = List.map D.int (ns.take 63) := by rw [List.map_take]; exact cut_to _ 63
  rw [ec]
  have hlen : (List.map D.int (ns.take 63)).length ≤ 63 := by rw [List.length_map, List.length_take]; omega
  refine ⟨fun i sd m' => ∃ (xs : List Int) (c r k : Option D), sd = [some (.rol (List.map D.int ns)), some (.ref nl), c, r, k] ∧ m' = put (put m nl (.lst (List.map D.int xs))) p (.lst (List.map D.int (ns.take 63))) ∧ xs.length ≤ 24 * i ∧ ∀ v ∈ xs, 0 ≤ v ∧ v < 64, ⟨[], none, none, none, rfl, rfl, by simp, fun _ h => by cases h⟩, ?_, ?_, ?_⟩
  · rintro i _ _ _ ⟨xs, c, r, k, rfl, rfl, hx, hv⟩
    exact put_same
  · rintro i x _ _ hi ⟨xs, c, r, k, rfl, rfl, hx, hv⟩
    have hi2 := (List.getElem?_eq_some_iff.mp hi).1
    obtain ⟨z, _, _, rfl⟩ := getMap hi
    lcg_off
    refine ⟨⟨by decide, by decide⟩, fun j sd m' => ∃ (xs : List Int) (r : Int) (k : Option D), sd = [some (.rol (List.map D.int ns)), some (.ref nl), some (.int z), some (.int r), k] ∧ m' = put (put m nl (.lst (List.map D.int xs))) p (.lst (List.map D.int (ns.take 63))) ∧ xs.length ≤ 24 * i + j ∧ ∀ v ∈ xs, 0 ≤ v ∧ v < 64, ⟨xs, _, _, rfl, rfl, by omega, hv⟩, ?_, ?_⟩
    · rintro j _ _ hj ⟨xs, r, k, rfl, rfl, hx, hv⟩
      have hj2 : j < 24 := by simpa using hj
      have es : xs.length < sizeLine := by have := PySem.sizeLine_eq; omega
      have el : (List.map D.int xs).length = xs.length := List.length_map ..
      have hv2 : ∀ v ∈ xs ++ [r % 64], 0 ≤ v ∧ v < 64 := fun v h => by
        rcases List.mem_append.mp h with h | h
        · exact hv v h
        · rw [List.mem_singleton] at h; subst h; exact ⟨Int.emod_nonneg _ (by decide), Int.emod_lt_of_pos _ (by decide)⟩
      lcg_off
      · exact ⟨_, Less.refl _, xs ++ [r % 64], _, _, _, rfl, by rw [List.map_append]; rfl, by rw [List.length_append, List.length_singleton]; omega, hv2⟩
      · exact ⟨_, Less.refl _, xs ++ [r % 64], _, _, rfl, by rw [List.map_append]; rfl, by rw [List.length_append, List.length_singleton]; omega, hv2⟩
    · rintro _ _ ⟨xs, r, k, rfl, rfl, hx, hv⟩
      exact ⟨_, Less.refl _, xs, _, _, _, rfl, rfl, by have e24 : Int.toNat 24 = 24 := rfl; rw [e24] at hx; omega, hv⟩
  · rintro _ _ ⟨xs, c, r, k, rfl, rfl, hx, hv⟩
    have ec2 : cutL (List.map D.int xs) none (some 40) = List.map D.int (xs.take 40) := by rw [List.map_take]; exact cut_to _ 40
    lcg_off
    rename_i q1 h1 h2 h3
    rw [ec2]
    refine ⟨put m q1 (.lst (List.map D.int (xs.take 40))), ?_, q q1 (xs.take 40) h3 (by rw [List.length_take]; omega) fun v h => hv v (List.mem_of_mem_take h)⟩
    one_item
def sp_lowest : DSp := fun ds m P _ => ∃ l sz rs, ds = [.ref l, .int sz] ∧ m l = some (.lst (List.map rowD rs)) ∧ P (.int (low sz 1 rs)) m
theorem rd_lowest : ∀ ds m P EX, sp_lowest ds m P EX → Go P b_law_lowest (dstart ["blocks", "size", "address", "block"] ds) m := by
  rintro ds m P EX ⟨l, sz, rs, rfl, hl, q⟩
  show b_law_lowest { nx := fun _ m' => Ret P .non m', rt := Ret P } [some (.ref l), some (.int sz), none, none] m
  unfold b_law_lowest
  lcg_off
  refine s_seq ?_
  lcg_off
  refine ⟨fun i sd m' => m' = m ∧ ∃ (ad : Int) (b : Option D), sd = [some (.ref l), some (.int sz), some (.int ad), b] ∧ low sz ad (rs.drop i) = low sz 1 rs, ⟨rfl, 1, _, rfl, rfl⟩, ?_, ?_, ?_⟩
  · rintro i _ _ _ ⟨rfl, _⟩
    exact hl
  · rintro i y _ m2 hy ⟨rfl, ad, b, rfl, e⟩
    obtain ⟨p, hi, hm, rfl⟩ := getMap hy
    have hlt := (List.getElem?_eq_some_iff.mp hi).1
    have hp := (List.getElem?_eq_some_iff.mp hi).2
    rw [List.drop_eq_getElem_cons hlt, hp, low] at e
    unfold rowD
    lcg_off
    · rename_i h
      rw [if_pos (by omega)] at e
      rw [← e] at q
      exact ⟨_, Less.refl _, q⟩
    · rename_i h
      rw [if_neg (by omega)] at e
      exact ⟨_, Less.refl _, rfl, _, _, rfl, e⟩
  · rintro _ m2 ⟨rfl, ad, b, rfl, e⟩
    rw [List.length_map, List.drop_length, low] at e
    rw [← e] at q
    lcg_off
    exact ⟨_, Less.refl _, q⟩
theorem less_put57 {m m2 : M} {p : Addr} {o : DO} (h : Less m m2) (hp : m2 p = none) : Less m (put m2 p o) := h.trans (Less.new hp)
theorem lessB {m m' : M} {p : Addr} {o : DO} (h : Less m m') : Less (put m p o) (put m' p o) := fun b u hb => by
  by_cases n : b = p
  · subst n; rw [put_same] at hb ⊢; exact hb
  · rw [put_ne n] at hb ⊢; exact h _ _ hb
def sp_with : DSp := fun ds m P _ => ∃ l ad sz rs, ds = [.ref l, .tup [.int ad, .int sz]] ∧ m l = some (.lst (List.map rowD rs)) ∧ rs.length ≤ 1000 ∧
  ∀ p, m p = none → P (.ref p) (put m p (.lst ((rs.filter (fun q => decide (q.1 < ad)) ++ [(ad, sz)] ++ rs.filter (fun q => decide (ad < q.1))).map rowD)))
theorem rd_with : ∀ ds m P EX, sp_with ds m P EX → Go P b_law_with (dstart ["blocks", "added", "before", "after", "block"] ds) m := by
  rintro ds m P EX ⟨l, ad, sz, rs, rfl, hl, hrl, q⟩
  show b_law_with { nx := fun _ m' => Ret P .non m', rt := Ret P } [some (.ref l), some (.tup [.int ad, .int sz]), none, none, none] m
  unfold b_law_with
  have hz := PySem.sizeLine_eq
  have f1 : (rs.filter (fun q => decide (q.1 < ad))).length ≤ 1000 := Nat.le_trans (List.length_filter_le ..) hrl
  have f2 : (rs.filter (fun q => decide (ad < q.1))).length ≤ 1000 := Nat.le_trans (List.length_filter_le ..) hrl
  lcg_off
  refine cl_filter (b := fun q => decide (q.1 < ad)) hrl hl (by show (4 : Nat) < 5; decide) ?_ ?_
  · intro y hy m' Q hq
    unfold rowD
    lcg_off
    exact hq
  · intro p1 hp1
    have nl1 : l ≠ p1 := neA hl hp1
    lcg_off
    refine cl_filter (b := fun q => decide (ad < q.1)) hrl ((put_ne nl1).trans hl) (by show (4 : Nat) < 5; decide) ?_ ?_
    · intro y hy m' Q hq
      unfold rowD
      lcg_off
      exact hq
    · intro p2 hp20
      have hp2 := hp20
      simp only [put_none] at hp2
      obtain ⟨n21, hp2⟩ := hp2
      have l1 : ((rs.filter (fun q => decide (q.1 < ad))).map rowD).length ≤ 1000 := by rw [List.length_map]; exact f1
      have l2 : ((rs.filter (fun q => decide (ad < q.1))).map rowD).length ≤ 1000 := by rw [List.length_map]; exact f2
      lcg_off
      rename_i p3 a1 a2 a3 p4 b1 b2 b3 b4 p5 _ _ _ _ h5
      have hq := q p5 h5
      rw [List.map_append, List.map_append] at hq
      refine ⟨_, lessB (less_put57 (less_put57 (less_put57 (Less.new hp1) hp20) ?_) ?_), hq⟩
      · simp only [put_none]; exact ⟨a1, a2, a3⟩
      · simp only [put_none]; exact ⟨b1, b2, b3, b4⟩
theorem r_isL {a : Addr} {xs : List D} {m : M} {P : DK} (h : m a = some (.lst xs)) (q : P (.bl true) m) : rIsD [.ref a, .ty "list"] m P := ⟨"list", true, by show (match m a with | some (.lst _) => some "list" | _ => none) = _; rw [h], kt_list_list, q⟩
local macro_rules | `(tactic| lcg_sub) => `(tactic| ((with_reducible refine' r_isL ?h1 ?h2); (case h1 => lcg_src)))
theorem r_neT {xs ys : List D} {m : M} {P : DK} (o1 : okD (.tup xs)) (o2 : okD (.tup ys)) (q : P (.bl (!eqD (.tup xs) (.tup ys))) m) : rNeD (.tup xs) (.tup ys) m P := ⟨o1, o2, q⟩
theorem rowOk (a b : Int) : okD (.tup [.int a, .int b]) := by
  unfold okD SeqAt.shaped
  simp [D.py, D.pys, PyData.canLay0, PyData.canLayAll0, PyData.depth, PyData.depthAll]
theorem rowEq (a b : Int) : eqD (.tup [.int a, .int b]) (.tup [.int a, .int b]) = true := by
  unfold eqD
  simp [D.py, D.pys, PyData.eqv, PyData.eqvAll]
def sp_same57 : DSp := fun ds m P _ => ∃ p q rs, ds = [.ref p, .ref q] ∧ m p = some (.lst (List.map rowD rs)) ∧ m q = some (.lst (List.map rowD rs)) ∧ rs.length ≤ 1000 ∧ P (.bl true) m
theorem rd_same57 : ∀ ds m P EX, sp_same57 ds m P EX → Go P b_law_same (dstart ["actual", "blocks", "k"] ds) m := by
  rintro ds m P EX ⟨p, r, rs, rfl, hp, hr, hl, q⟩
  show b_law_same { nx := fun _ m' => Ret P .non m', rt := Ret P } [some (.ref p), some (.ref r), none] m
  unfold b_law_same
  have hlen : (List.map rowD rs).length = rs.length := List.length_map ..
  refine s_seq ?_
  lcg_off
  · rename_i h
    exact absurd rfl h
  refine s_seq ?_
  lcg_off
  refine ⟨⟨by omega, by omega⟩, fun i sd m' => m' = m ∧ ∃ k, sd = [some (.ref p), some (.ref r), k], ⟨rfl, _, rfl⟩, ?_, ?_⟩
  · rintro i _ m2 hi ⟨rfl, k, rfl⟩
    have hi2 : i < rs.length := by omega
    have hd : (List.map rowD rs)[i]? = some (.tup [.int rs[i].1, .int rs[i].2]) := by rw [List.getElem?_map, List.getElem?_eq_getElem hi2]; rfl
    lcg_off
    refine r_neT (rowOk _ _) (rowOk _ _) ?_
    rw [rowEq]
    lcg_off
    exact ⟨_, Less.refl _, rfl, _, rfl⟩
  · rintro _ m2 ⟨rfl, k, rfl⟩
    lcg_off
    exact ⟨_, Less.refl _, q⟩
theorem memNo {f : Str} {r n : Addr} (h1 : (f == "rows") = false) (h2 : (f == "numbers") = false) : (memF r n).lookup f = none := by
  rw [List.lookup_cons, h1, List.lookup_cons, h2]; rfl
theorem putD_same {kvs : List (Key × D)} {k : Key} {d : D} (h : (valD kvs k).isSome = true) : (putD kvs k d).length = kvs.length := by
  unfold putD
  rw [if_pos, List.length_map]
  unfold valD at h
  rw [Option.isSome_map] at h
  obtain ⟨p, hp⟩ := Option.isSome_iff_exists.mp h
  have hp2 := List.find?_some hp
  exact List.any_eq_true.mpr ⟨p, List.mem_of_find?_eq_some hp, hp2⟩
structure St57 (x a dx r n nl b : Addr) (xs : List Int) (i : Nat) (m : M) (rs : Rows) (kv : List (Key × D)) : Prop where
  me : MemAt x a dx r n m rs kv
  bl : m b = some (.lst (rs.map rowD))
  nu : m nl = some (.lst (List.map D.int xs))
  br : b ≠ r
  nr : nl ≠ r
  so : Srt 1 rs
  co : Cov rs kv
  le : rs.length ≤ i
  ke : kv.length ≤ 100 * i
  hi : ∀ p ∈ rs, p.1 + p.2 ≤ 1 + 100 * i
/-- a list that is none of the memory's own stays -/
theorem FrM.lst {x a dx r n : Addr} {m m' : M} {rs : Rows} {kv : List (Key × D)} (h : FrM a r n m m') (hM : MemAt x a dx r n m rs kv) {l : Addr} {ys : List D} (hl : m l = some (.lst ys)) (hr : l ≠ r) : m' l = some (.lst ys) :=
  h l _ (fun e => by subst e; have := hM.ob.symm.trans hl; cases this) hr (fun e => by subst e; have := hM.nu.symm.trans hl; cases this) hl
theorem rd_law (x : Addr) : ∀ ds m P EX, sp_law ds m P EX → Go P (b_law x (sp_release x) sp_lowest (sp_alloc x) (sp_read x) (sp_write x) sp_with sp_same57 (sp_blocks x) sp_numbers (sp_init x)) (dstart ["script", "memory", "blocks", "number", "gone", "size", "due", "actual", "k", "block"] ds) m := by
  rintro ds m P EX ⟨ns, rfl, hl, rfl, q⟩
  show b_law x (sp_release x) sp_lowest (sp_alloc x) (sp_read x) (sp_write x) sp_with sp_same57 (sp_blocks x) sp_numbers (sp_init x) { nx := fun _ m' => Ret P .non m', rt := Ret P } [some (.rol (List.map D.int ns)), none, none, none, none, none, none, none, none, none] _
  unfold b_law
  refine s_seq ?_
  refine s_asg ?_
  intro a dx ha
  refine ⟨a, dx, rfl, put_same, fun r n m1 hr hn hra hna hrn hM1 hF1 => ⟨rfl, ?_⟩⟩
  lcg_off
  rename_i b hb
  refine s_seq ?_
  lcg_off
  refine ⟨ns, rfl, fun nl xs hnl hxl hxs => ?_⟩
  lcg_off
  have hnl2 : nl ≠ b ∧ m1 nl = none := by rw [put_none] at hnl; exact hnl
  refine ⟨fun i sd m' => ∃ b rs kv x3 x4 x5 x6 x7 x8 x9, sd = [some (.rol (List.map D.int ns)), some (.ref a), some (.ref b), x3, x4, x5, x6, x7, x8, x9] ∧ St57 x a dx r n nl b xs i m' rs kv, ⟨b, [], [], _, _, _, _, _, _, _, rfl, ?_⟩, ?_, ?_, ?_⟩
  · refine ⟨⟨?_, ?_, ?_⟩, ?_, put_same, ?_, ?_, trivial, (fun p h => by cases h), Nat.le_refl _, Nat.zero_le _, (fun p h => by cases h)⟩
    · exact (put_ne (neA hM1.ob hnl2.2)).trans ((put_ne (neA hM1.ob hb)).trans hM1.ob)
    · exact (put_ne (neA hM1.ro hnl2.2)).trans ((put_ne (neA hM1.ro hb)).trans hM1.ro)
    · exact (put_ne (neA hM1.nu hnl2.2)).trans ((put_ne (neA hM1.nu hb)).trans hM1.nu)
    · exact (put_ne (Ne.symm hnl2.1)).trans put_same
    · exact (neA hM1.ro hb).symm
    · exact (neA hM1.ro hnl2.2).symm
  · rintro i _ m2 _ ⟨b, rs, kv, x3, x4, x5, x6, x7, x8, x9, rfl, hS⟩
    exact hS.nu
  · rintro i y _ m2 hy ⟨b, rs, kv, x3, x4, x5, x6, x7, x8, x9, rfl, hS⟩
    obtain ⟨v, hi, hv, rfl⟩ := getMap hy
    have hil := (List.getElem?_eq_some_iff.mp hi).1
    obtain ⟨v0, v1⟩ := hxs v hv
    have hi40 : i < 40 := by omega
    have hrl := hS.le
    have hkl := hS.ke
    have hbl := hS.bl
    have hlen : (rs.map rowD).length = rs.length := List.length_map ..
    refine s_cut (fun sd m' => ∃ b rs kv x3 x4 x5 x6 x7 x8 x9, sd = [some (.rol (List.map D.int ns)), some (.ref a), some (.ref b), x3, x4, x5, x6, x7, x8, x9] ∧ St57 x a dx r n nl b xs (i + 1) m' rs kv) ?_ ?_
    · lcg_off
      · obtain ⟨j, hj⟩ : ∃ j : Nat, v / 3 % ((rs.map rowD).length : Int) = j := ⟨_, (Int.toNat_of_nonneg (Int.emod_nonneg _ (by omega))).symm⟩
        have hjl : j < rs.length := by
          have := Int.emod_lt_of_pos (v / 3) (b := ((rs.map rowD).length : Int)) (by omega)
          omega
        rw [hj]
        have e0 : rs[j]? = some (rs[j]'hjl) := List.getElem?_eq_getElem _
        generalize rs[j]'hjl = p at e0
        refine r_ixL (d := .tup [.int p.1, .int p.2]) hbl (atI_nat (by rw [List.getElem?_map, e0]; rfl)) ?_
        lcg_off
        refine r_meth hS.me.ob (memNo (by decide +kernel) (by decide +kernel)) ?_
        lcg_off
        refine ⟨a, dx, r, n, rs, kv, j, p, rfl, hS.me, hS.so, e0, hS.co, by omega, fun p hp => (by have := hS.hi p hp; omega), fun m3 kv3 hM3 hv3 hl3 hF3 => ?_⟩
        have hb3 := hF3.lst hS.me hS.bl hS.br
        lcg_off
        refine cl_filter (b := fun q => !decide (q.1 = p.1)) (by omega) hb3 (by show (9 : Nat) < 10; decide) ?_ ?_
        · intro y hy m' Q hq
          unfold rowD
          lcg_off
          exact hq
        · intro p4 hp4
          rw [filter_ne hS.so e0]
          lcg_off
          refine ⟨_, Less.refl _, p4, rs.eraseIdx j, kv3, _, _, _, _, _, _, _, rfl, ⟨⟨(put_ne (neA hM3.ob hp4)).trans hM3.ob, (put_ne (neA hM3.ro hp4)).trans hM3.ro, (put_ne (neA hM3.nu hp4)).trans hM3.nu⟩, put_same, ?_, (neA hM3.ro hp4).symm, hS.nr, hS.so.erase j, ?_, ?_, by omega, ?_⟩⟩
          · have h9 := hF3.lst hS.me hS.nu hS.nr
            exact (put_ne (neA h9 hp4)).trans h9
          · intro q hq c c1 c2
            rw [hv3, if_neg]
            · exact hS.co q (List.mem_of_mem_eraseIdx hq) c c1 c2
            · obtain ⟨k, hk, hne, hget⟩ := List.mem_eraseIdx_iff_getElem.mp hq
              have hk2 : rs[k]? = some q := by rw [List.getElem?_eq_getElem hk, hget]
              rcases Nat.lt_or_gt_of_ne hne with h | h
              · have := hS.so.apart h hk2 e0
                omega
              · have := hS.so.apart h e0 hk2
                omega
          · exact Nat.le_trans (List.length_eraseIdx_le ..) (by omega)
          · intro q hq
            have := hS.hi q (List.mem_of_mem_eraseIdx hq)
            omega
      all_goals
        refine s_cut (fun sd m' => m' = m2 ∧ ∃ sz, 1 ≤ sz ∧ sz ≤ 90 ∧ sd = [some (.rol (List.map D.int ns)), some (.ref a), some (.ref b), some (.int v), x4, some (.int sz), x6, x7, x8, x9]) ?_ ?_
        · lcg_off
          all_goals exact ⟨_, Less.refl _, rfl, _, by omega, by omega, rfl⟩
        · rintro _ m3 ⟨rfl, sz, z1, z2, rfl⟩
          have hsp := hS.so
          have hge := low_ge (sz := sz) hsp
          have hnn : (newRows sz 1 rs).length ≤ i + 1 := by
            unfold newRows
            rw [List.length_append, List.length_append, List.length_take, List.length_drop, List.length_singleton]
            have := skip_le (sz := sz) (lo := 1) (rs := rs)
            omega
          lcg_off
          refine ⟨b, sz, rs, rfl, hbl, ?_⟩
          lcg_off
          refine r_meth hS.me.ob (memNo (by decide +kernel) (by decide +kernel)) ?_
          lcg_off
          refine ⟨a, dx, r, n, rs, kv, sz, rfl, hS.me, hsp, z1, by omega, by omega, by omega, fun p hp => (by have := hS.hi p hp; omega), fun m4 kv4 hM4 hv4 hl4 hF4 => ?_⟩
          lcg_off
          · rename_i hne
            exact absurd rfl hne
          refine s_seq ?_
          lcg_off
          refine ⟨⟨by omega, by omega⟩, fun k sd m' => (∃ c, sd = [some (.rol (List.map D.int ns)), some (.ref a), some (.ref b), some (.int v), x4, some (.int sz), some (.int (low sz 1 rs)), some (.int (low sz 1 rs)), c, x9]) ∧ ∃ kv5, MemAt x a dx r n m' (newRows sz 1 rs) kv5 ∧ (∀ c, (valD kv4 (.inl c)).isSome = true → (valD kv5 (.inl c)).isSome = true) ∧
            (∀ c, low sz 1 rs + k ≤ c → c < low sz 1 rs + sz → valD kv5 (.inl c) = some (.int 0)) ∧ kv5.length = kv4.length ∧ FrM a r n m4 m', ⟨⟨_, rfl⟩, kv4, hM4, fun _ h => h, fun c c1 c2 => (by rw [hv4, if_pos (by omega)]), rfl, FrM.refl⟩, ?_, ?_⟩
          · rintro k _ m5 hk ⟨⟨c, rfl⟩, kv5, hM5, hs5, h05, hl5, hF5⟩
            have hcell := h05 (low sz 1 rs + k) (by omega) (by omega)
            lcg_off
            refine r_meth hM5.ob (memNo (by decide +kernel) (by decide +kernel)) ?_
            lcg_off
            refine ⟨a, dx, r, n, _, kv5, _, .int 0, rfl, hM5, hcell, ?_⟩
            lcg_off
            refine r_meth hM5.ob (memNo (by decide +kernel) (by decide +kernel)) ?_
            lcg_off
            refine ⟨a, dx, r, n, _, kv5, _, _, rfl, hM5, by rw [hcell]; rfl, by omega, fun m6 hM6 hF6 => ?_⟩
            lcg_off
            refine ⟨_, Less.refl _, ⟨_, rfl⟩, _, hM6, fun c hc => ?_, fun c c1 c2 => ?_, ?_, fun o u o1 o2 o3 ho => hF6 o u o1 o2 o3 (hF5 o u o1 o2 o3 ho)⟩
            · rw [valD_put]
              split
              · rfl
              · exact hs5 c hc
            · rw [valD_put, if_neg (by intro e; injection e with e; omega)]
              exact h05 c (by omega) c2
            · rw [putD_same (by rw [hcell]; rfl)]
              exact hl5
          · rintro _ m5 ⟨⟨c, rfl⟩, kv5, hM5, hs5, h05, hl5, hF5⟩
            have hF45 : FrM a r n m3 m5 := fun o u o1 o2 o3 ho => hF5 o u o1 o2 o3 (hF4 o u o1 o2 o3 ho)
            have hb5 := hF45.lst hS.me hS.bl hS.br
            have hn5 := hF45.lst hS.me hS.nu hS.nr
            lcg_off
            refine ⟨b, _, sz, rs, rfl, hb5, by omega, fun p hp => ?_⟩
            rw [with_lt z1 hsp, with_gt z1 hsp]
            lcg_off
            refine ⟨_, Less.refl _, p, newRows sz 1 rs, kv5, _, _, _, _, _, _, _, rfl, ⟨⟨(put_ne (neA hM5.ob hp)).trans hM5.ob, (put_ne (neA hM5.ro hp)).trans hM5.ro, (put_ne (neA hM5.nu hp)).trans hM5.nu⟩, put_same, (put_ne (neA hn5 hp)).trans hn5, (neA hM5.ro hp).symm, hS.nr, hsp.new z1, ?_, hnn, by omega, ?_⟩⟩
            · intro q hq c c1 c2
              refine hs5 c ?_
              rw [hv4]
              split
              · rfl
              · rename_i hno
                refine hS.co q ?_ c c1 c2
                unfold newRows at hq
                rcases List.mem_append.mp hq with hq | hq
                · rcases List.mem_append.mp hq with hq | hq
                  · exact List.mem_of_mem_take hq
                  · rw [List.mem_singleton] at hq
                    subst hq
                    exact absurd ⟨c1, c2⟩ hno
                · exact List.mem_of_mem_drop hq
            · intro q hq
              unfold newRows at hq
              rcases List.mem_append.mp hq with hq | hq
              · rcases List.mem_append.mp hq with hq | hq
                · have := hS.hi q (List.mem_of_mem_take hq)
                  omega
                · rw [List.mem_singleton] at hq
                  subst hq
                  have := low_le (sz := sz) (B := 1 + 100 * (i : Int)) (lo := 1) (rs := rs) (by omega) hS.hi
                  show low sz 1 rs + sz ≤ _
                  omega
              · have := hS.hi q (List.mem_of_mem_drop hq)
                omega
    · rintro _ m3 ⟨b, rs, kv, x3, x4, x5, x6, x7, x8, x9, rfl, hS3⟩
      lcg_off
      refine r_meth hS3.me.ob (memNo (by decide +kernel) (by decide +kernel)) ?_
      lcg_off
      refine ⟨a, dx, r, n, rs, kv, rfl, hS3.me, fun p hp => ?_⟩
      lcg_off
      have hle := hS3.le
      refine ⟨p, b, rs, rfl, put_same, (put_ne (neA hS3.bl hp)).trans hS3.bl, by omega, ?_⟩
      lcg_off
      exact ⟨m3, Less.new hp, b, rs, kv, _, _, _, _, _, _, _, rfl, hS3⟩
  · rintro _ m2 ⟨b, rs, kv, x3, x4, x5, x6, x7, x8, x9, rfl, hS⟩
    lcg_off
    intro y dy hy
    refine ⟨y, dy, rfl, put_same, fun r2 n2 m3 hr2 hn2 g1 g2 g3 hM3 hF3 => ⟨rfl, ?_⟩⟩
    refine r_meth hM3.ob (memNo (by decide +kernel) (by decide +kernel)) ?_
    lcg_off
    refine ⟨y, dy, r2, n2, [], [], rfl, hM3, fun p hp => ?_⟩
    lcg_off
    rename_i p2 k1 _ _ _
    refine ⟨p, p2, [], rfl, (put_ne (Ne.symm k1)).trans put_same, put_same, by decide, ?_⟩
    exact ⟨_, Less.refl _, q _⟩

theorem main {P : Program} {w : World} {K : PySem.W.Frag} {mg : Str → Option Value} {x_Memory : Addr} (F_Memory_init : FunAtM K x_Memory "__init__" "Memory.__init__" s_Memory_init ["self"]) (F_Memory_allocate : FunAtM K x_Memory "allocate" "Memory.allocate" s_Memory_allocate ["self", "size"]) (F_Memory_release : FunAtM K x_Memory "release" "Memory.release" s_Memory_release ["self", "address"]) (F_Memory_read : FunAtM K x_Memory "read" "Memory.read" s_Memory_read ["self", "address"]) (F_Memory_write : FunAtM K x_Memory "write" "Memory.write" s_Memory_write ["self", "address", "number"]) (F_Memory_blocks : FunAtM K x_Memory "blocks" "Memory.blocks" s_Memory_blocks ["self"]) (F_law_numbers : FunAt K mg "_law_numbers" s_law_numbers ["script"]) (F_law_lowest : FunAt K mg "_law_lowest" s_law_lowest ["blocks", "size"]) (F_law_with : FunAt K mg "_law_with" s_law_with ["blocks", "added"]) (F_law_same : FunAt K mg "_law_same" s_law_same ["actual", "blocks"]) (F_law : FunAt K mg "law" s_law ["script"]) (z_abs : mg "abs" = none) (z_bool : mg "bool" = none) (z_enumerate : mg "enumerate" = none) (z_int : mg "int" = none) (z_isinstance : mg "isinstance" = none) (z_len : mg "len" = none) (z_list : mg "list" = none) (z_range : mg "range" = none) (z_tuple : mg "tuple" = none) (cl_Memory : Cls K x_Memory) (nf_Memory_rows : NoAttr K x_Memory "rows") (nf_Memory_numbers : NoAttr K x_Memory "numbers") (mk_Memory : PySem.W.makesIn K x_Memory = true) (kc_Memory : PySem.W.keepIn K (.ref x_Memory) = true) (g_Memory : mg "Memory" = some (.ref x_Memory)) : Callee P w K mg 3 "law" ["script"] sp_law := by
  have C_Memory_release : CalleeM P w K mg 1 x_Memory "release" ["self", "address"] ((sp_release x_Memory)) := ok_Memory_release (k := 0) F_Memory_release cl_Memory nf_Memory_rows nf_Memory_numbers z_enumerate z_range g_Memory (by intro _ _ _ _ h; (try unfold sp_release at h); repeat (first | (obtain ⟨rfl, _⟩ := h; rfl) | obtain ⟨_, h⟩ := h)) (rd_release x_Memory)
  have C_law_lowest : Callee P w K mg 1 "_law_lowest" ["blocks", "size"] (sp_lowest) := ok_law_lowest (k := 0) F_law_lowest (by intro _ _ _ _ h; (try unfold sp_lowest at h); repeat (first | (obtain ⟨rfl, _⟩ := h; rfl) | obtain ⟨_, h⟩ := h)) rd_lowest
  have C_Memory_allocate : CalleeM P w K mg 1 x_Memory "allocate" ["self", "size"] ((sp_alloc x_Memory)) := ok_Memory_allocate (k := 0) F_Memory_allocate cl_Memory nf_Memory_rows nf_Memory_numbers z_len z_range g_Memory (by intro _ _ _ _ h; (try unfold sp_alloc at h); repeat (first | (obtain ⟨rfl, _⟩ := h; rfl) | obtain ⟨_, h⟩ := h)) (rd_alloc x_Memory)
  have C_Memory_read : CalleeM P w K mg 1 x_Memory "read" ["self", "address"] ((sp_read x_Memory)) := ok_Memory_read (k := 0) F_Memory_read cl_Memory nf_Memory_numbers g_Memory (by intro _ _ _ _ h; (try unfold sp_read at h); repeat (first | (obtain ⟨rfl, _⟩ := h; rfl) | obtain ⟨_, h⟩ := h)) (rd_read x_Memory)
  have C_Memory_write : CalleeM P w K mg 1 x_Memory "write" ["self", "address", "number"] ((sp_write x_Memory)) := ok_Memory_write (k := 0) F_Memory_write cl_Memory nf_Memory_numbers g_Memory (by intro _ _ _ _ h; (try unfold sp_write at h); repeat (first | (obtain ⟨rfl, _⟩ := h; rfl) | obtain ⟨_, h⟩ := h)) (rd_write x_Memory)
  have C_law_with : Callee P w K mg 1 "_law_with" ["blocks", "added"] (sp_with) := ok_law_with (k := 0) F_law_with (by intro _ _ _ _ h; (try unfold sp_with at h); repeat (first | (obtain ⟨rfl, _⟩ := h; rfl) | obtain ⟨_, h⟩ := h)) rd_with
  have C_law_same : Callee P w K mg 1 "_law_same" ["actual", "blocks"] (sp_same57) := ok_law_same (k := 0) F_law_same z_list z_isinstance z_len z_tuple z_range (by intro _ _ _ _ h; (try unfold sp_same57 at h); repeat (first | (obtain ⟨rfl, _⟩ := h; rfl) | obtain ⟨_, h⟩ := h)) rd_same57
  have C_Memory_blocks : CalleeM P w K mg 1 x_Memory "blocks" ["self"] ((sp_blocks x_Memory)) := ok_Memory_blocks (k := 0) F_Memory_blocks cl_Memory nf_Memory_rows z_list g_Memory (by intro _ _ _ _ h; (try unfold sp_blocks at h); repeat (first | (obtain ⟨rfl, _⟩ := h; rfl) | obtain ⟨_, h⟩ := h)) (rd_blocks x_Memory)
  have C_law_numbers : Callee P w K mg 1 "_law_numbers" ["script"] (sp_numbers) := ok_law_numbers (k := 0) F_law_numbers z_int z_abs z_range (by intro _ _ _ _ h; (try unfold sp_numbers at h); repeat (first | (obtain ⟨rfl, _⟩ := h; rfl) | obtain ⟨_, h⟩ := h)) rd_numbers
  have C_Memory_init : CalleeM P w K mg 1 x_Memory "__init__" ["self"] ((sp_init x_Memory)) := ok_Memory_init (k := 0) F_Memory_init cl_Memory nf_Memory_rows nf_Memory_numbers g_Memory (by intro _ _ _ _ h; (try unfold sp_init at h); repeat (first | (obtain ⟨rfl, _⟩ := h; rfl) | obtain ⟨_, h⟩ := h)) (rd_init x_Memory)
  have C_law : Callee P w K mg 3 "law" ["script"] (sp_law) := ok_law (k := 2) F_law (C_Memory_release.mono (by decide)) (C_law_lowest.mono (by decide)) (C_Memory_allocate.mono (by decide)) (C_Memory_read.mono (by decide)) (C_Memory_write.mono (by decide)) (C_law_with.mono (by decide)) (C_law_same.mono (by decide)) (C_Memory_blocks.mono (by decide)) (C_law_numbers.mono (by decide)) C_Memory_init (by decide) mk_Memory kc_Memory cl_Memory z_len z_int z_isinstance z_bool z_range g_Memory (by intro _ _ _ _ h; (try unfold sp_law at h); repeat (first | (obtain ⟨rfl, _⟩ := h; rfl) | obtain ⟨_, h⟩ := h)) (rd_law x_Memory)
  exact C_law
theorem all_mk {P : Program} {w : World} {K : PySem.W.Frag} {h : Heap} {mg : Str → Option Value} {fa : Addr} (X : K.In h) (G : h.Ns mainGlobals mg) (hfa : mg "law" = some (.ref fa)) {x_Memory : Addr} {f0 : Addr} {od0 an0 : Option Addr} {sl0 : Array (Option Value)} {oc0 kV0 dc0 pm0 cd0 ct0 : Value} {f1 : Addr} {od1 an1 : Option Addr} {sl1 : Array (Option Value)} {oc1 kV1 dc1 pm1 cd1 ct1 : Value} {f2 : Addr} {od2 an2 : Option Addr} {sl2 : Array (Option Value)} {oc2 kV2 dc2 pm2 cd2 ct2 : Value} {f3 : Addr} {od3 an3 : Option Addr} {sl3 : Array (Option Value)} {oc3 kV3 dc3 pm3 cd3 ct3 : Value} {f4 : Addr} {od4 an4 : Option Addr} {sl4 : Array (Option Value)} {oc4 kV4 dc4 pm4 cd4 ct4 : Value} {f5 : Addr} {od5 an5 : Option Addr} {sl5 : Array (Option Value)} {oc5 kV5 dc5 pm5 cd5 ct5 : Value} {f6 : Addr} {od6 an6 : Option Addr} {sl6 : Array (Option Value)} {oc6 kV6 dc6 pm6 cd6 ct6 : Value} {f7 : Addr} {od7 an7 : Option Addr} {sl7 : Array (Option Value)} {oc7 kV7 dc7 pm7 cd7 ct7 : Value} {f8 : Addr} {od8 an8 : Option Addr} {sl8 : Array (Option Value)} {oc8 kV8 dc8 pm8 cd8 ct8 : Value} {f9 : Addr} {od9 an9 : Option Addr} {sl9 : Array (Option Value)} {oc9 kV9 dc9 pm9 cd9 ct9 : Value} {f10 : Addr} {od10 an10 : Option Addr} {sl10 : Array (Option Value)} {oc10 kV10 dc10 pm10 cd10 ct10 : Value}
    (a0 : PySem.W.findIn K (.ref x_Memory) "__init__" = some (some (.ref f0))) (i0 : PySem.W.isFn K (.ref f0) = true)
    (l0 : K.lookup f0 = some ⟨oc0, od0, .func (PySem.W.fnOf "__init__" "Memory.__init__" (defArgs s_Memory_init) (defBody s_Memory_init) (defScope s_Memory_init) .none kV0 dc0 pm0 an0 cd0 ct0), sl0⟩)
    (c0 : PySem.W.codeIn K cd0 "Memory.__init__" = true) (k0 : PySem.W.keepIn K (.ref f0) = true)
    (a1 : PySem.W.findIn K (.ref x_Memory) "allocate" = some (some (.ref f1))) (i1 : PySem.W.isFn K (.ref f1) = true)
    (l1 : K.lookup f1 = some ⟨oc1, od1, .func (PySem.W.fnOf "allocate" "Memory.allocate" (defArgs s_Memory_allocate) (defBody s_Memory_allocate) (defScope s_Memory_allocate) .none kV1 dc1 pm1 an1 cd1 ct1), sl1⟩)
    (c1 : PySem.W.codeIn K cd1 "Memory.allocate" = true) (k1 : PySem.W.keepIn K (.ref f1) = true)
    (a2 : PySem.W.findIn K (.ref x_Memory) "release" = some (some (.ref f2))) (i2 : PySem.W.isFn K (.ref f2) = true)
    (l2 : K.lookup f2 = some ⟨oc2, od2, .func (PySem.W.fnOf "release" "Memory.release" (defArgs s_Memory_release) (defBody s_Memory_release) (defScope s_Memory_release) .none kV2 dc2 pm2 an2 cd2 ct2), sl2⟩)
    (c2 : PySem.W.codeIn K cd2 "Memory.release" = true) (k2 : PySem.W.keepIn K (.ref f2) = true)
    (a3 : PySem.W.findIn K (.ref x_Memory) "read" = some (some (.ref f3))) (i3 : PySem.W.isFn K (.ref f3) = true)
    (l3 : K.lookup f3 = some ⟨oc3, od3, .func (PySem.W.fnOf "read" "Memory.read" (defArgs s_Memory_read) (defBody s_Memory_read) (defScope s_Memory_read) .none kV3 dc3 pm3 an3 cd3 ct3), sl3⟩)
    (c3 : PySem.W.codeIn K cd3 "Memory.read" = true) (k3 : PySem.W.keepIn K (.ref f3) = true)
    (a4 : PySem.W.findIn K (.ref x_Memory) "write" = some (some (.ref f4))) (i4 : PySem.W.isFn K (.ref f4) = true)
    (l4 : K.lookup f4 = some ⟨oc4, od4, .func (PySem.W.fnOf "write" "Memory.write" (defArgs s_Memory_write) (defBody s_Memory_write) (defScope s_Memory_write) .none kV4 dc4 pm4 an4 cd4 ct4), sl4⟩)
    (c4 : PySem.W.codeIn K cd4 "Memory.write" = true) (k4 : PySem.W.keepIn K (.ref f4) = true)
    (a5 : PySem.W.findIn K (.ref x_Memory) "blocks" = some (some (.ref f5))) (i5 : PySem.W.isFn K (.ref f5) = true)
    (l5 : K.lookup f5 = some ⟨oc5, od5, .func (PySem.W.fnOf "blocks" "Memory.blocks" (defArgs s_Memory_blocks) (defBody s_Memory_blocks) (defScope s_Memory_blocks) .none kV5 dc5 pm5 an5 cd5 ct5), sl5⟩)
    (c5 : PySem.W.codeIn K cd5 "Memory.blocks" = true) (k5 : PySem.W.keepIn K (.ref f5) = true)
    (a6 : PySem.W.nsIn K mainGlobals "_law_numbers" = some (some (.ref f6)))
    (l6 : K.lookup f6 = some ⟨oc6, od6, .func (PySem.W.fnOf "_law_numbers" "_law_numbers" (defArgs s_law_numbers) (defBody s_law_numbers) (defScope s_law_numbers) .none kV6 dc6 pm6 an6 cd6 ct6), sl6⟩)
    (c6 : PySem.W.codeIn K cd6 "_law_numbers" = true) (k6 : PySem.W.keepIn K (.ref f6) = true)
    (a7 : PySem.W.nsIn K mainGlobals "_law_lowest" = some (some (.ref f7)))
    (l7 : K.lookup f7 = some ⟨oc7, od7, .func (PySem.W.fnOf "_law_lowest" "_law_lowest" (defArgs s_law_lowest) (defBody s_law_lowest) (defScope s_law_lowest) .none kV7 dc7 pm7 an7 cd7 ct7), sl7⟩)
    (c7 : PySem.W.codeIn K cd7 "_law_lowest" = true) (k7 : PySem.W.keepIn K (.ref f7) = true)
    (a8 : PySem.W.nsIn K mainGlobals "_law_with" = some (some (.ref f8)))
    (l8 : K.lookup f8 = some ⟨oc8, od8, .func (PySem.W.fnOf "_law_with" "_law_with" (defArgs s_law_with) (defBody s_law_with) (defScope s_law_with) .none kV8 dc8 pm8 an8 cd8 ct8), sl8⟩)
    (c8 : PySem.W.codeIn K cd8 "_law_with" = true) (k8 : PySem.W.keepIn K (.ref f8) = true)
    (a9 : PySem.W.nsIn K mainGlobals "_law_same" = some (some (.ref f9)))
    (l9 : K.lookup f9 = some ⟨oc9, od9, .func (PySem.W.fnOf "_law_same" "_law_same" (defArgs s_law_same) (defBody s_law_same) (defScope s_law_same) .none kV9 dc9 pm9 an9 cd9 ct9), sl9⟩)
    (c9 : PySem.W.codeIn K cd9 "_law_same" = true) (k9 : PySem.W.keepIn K (.ref f9) = true)
    (a10 : PySem.W.nsIn K mainGlobals "law" = some (some (.ref f10)))
    (l10 : K.lookup f10 = some ⟨oc10, od10, .func (PySem.W.fnOf "law" "law" (defArgs s_law) (defBody s_law) (defScope s_law) .none kV10 dc10 pm10 an10 cd10 ct10), sl10⟩)
    (c10 : PySem.W.codeIn K cd10 "law" = true) (k10 : PySem.W.keepIn K (.ref f10) = true)
    (z0 : PySem.W.nsIn K mainGlobals "abs" = some none)
    (z1 : PySem.W.nsIn K mainGlobals "bool" = some none)
    (z2 : PySem.W.nsIn K mainGlobals "enumerate" = some none)
    (z3 : PySem.W.nsIn K mainGlobals "int" = some none)
    (z4 : PySem.W.nsIn K mainGlobals "isinstance" = some none)
    (z5 : PySem.W.nsIn K mainGlobals "len" = some none)
    (z6 : PySem.W.nsIn K mainGlobals "list" = some none)
    (z7 : PySem.W.nsIn K mainGlobals "range" = some none)
    (z8 : PySem.W.nsIn K mainGlobals "tuple" = some none)
    (pg_Memory : PySem.W.plainGet K x_Memory Str.empty = true) (hd_Memory : PySem.W.hasDictIn K x_Memory = true) (po_Memory : PySem.W.plainOver K x_Memory = true) (sa_Memory : PySem.W.findIn K (.ref x_Memory) "__setattr__" = some (some (.builtin "object.__setattr__")))
    (nf_Memory_rows : PySem.W.findIn K (.ref x_Memory) "rows" = some none)
    (nf_Memory_numbers : PySem.W.findIn K (.ref x_Memory) "numbers" = some none)
    (mk_Memory : PySem.W.makesIn K x_Memory = true) (kc_Memory : PySem.W.keepIn K (.ref x_Memory) = true)
    (gx_Memory : PySem.W.nsIn K mainGlobals "Memory" = some (some (.ref x_Memory))) :
    ∃ fd : FuncData, (∀ (s : Shared) (v : Value), BindsTo s fd ⟨[v], []⟩ [("script", v)]) ∧ ∀ base : Heap, K.In base → base.Ns mainGlobals mg → FnOk P w K mg base CX0 3 fa fd ["script"] (lSp K sp_law) :=
  law_end (main (FunAtM.of a0 i0 l0 c0 k0 fun _ _ _ _ _ _ us hl => match us, hl with | [_], _ => rfl)
    (FunAtM.of a1 i1 l1 c1 k1 fun _ _ _ _ _ _ us hl => match us, hl with | [_, _], _ => rfl)
    (FunAtM.of a2 i2 l2 c2 k2 fun _ _ _ _ _ _ us hl => match us, hl with | [_, _], _ => rfl)
    (FunAtM.of a3 i3 l3 c3 k3 fun _ _ _ _ _ _ us hl => match us, hl with | [_, _], _ => rfl)
    (FunAtM.of a4 i4 l4 c4 k4 fun _ _ _ _ _ _ us hl => match us, hl with | [_, _, _], _ => rfl)
    (FunAtM.of a5 i5 l5 c5 k5 fun _ _ _ _ _ _ us hl => match us, hl with | [_], _ => rfl)
    (FunAt.of X G a6 l6 c6 k6 fun _ _ _ _ _ _ us hl => match us, hl with | [_], _ => rfl)
    (FunAt.of X G a7 l7 c7 k7 fun _ _ _ _ _ _ us hl => match us, hl with | [_, _], _ => rfl)
    (FunAt.of X G a8 l8 c8 k8 fun _ _ _ _ _ _ us hl => match us, hl with | [_, _], _ => rfl)
    (FunAt.of X G a9 l9 c9 k9 fun _ _ _ _ _ _ us hl => match us, hl with | [_, _], _ => rfl)
    (FunAt.of X G a10 l10 c10 k10 fun _ _ _ _ _ _ us hl => match us, hl with | [_], _ => rfl)
    (PySem.W.mg_none_of X G z0)
    (PySem.W.mg_none_of X G z1)
    (PySem.W.mg_none_of X G z2)
    (PySem.W.mg_none_of X G z3)
    (PySem.W.mg_none_of X G z4)
    (PySem.W.mg_none_of X G z5)
    (PySem.W.mg_none_of X G z6)
    (PySem.W.mg_none_of X G z7)
    (PySem.W.mg_none_of X G z8)
    ⟨pg_Memory, hd_Memory, po_Memory, sa_Memory⟩
    nf_Memory_rows
    nf_Memory_numbers
    mk_Memory
    kc_Memory
    (PySem.W.mg_of X G gx_Memory)) hfa
end Q4
open PySem PySem.W PyProof.Rows in
set_option maxRecDepth 100000 in
set_option maxHeartbeats 0 in
theorem PySem.Challenge.cw_lendback_k57_memory_blocks_holds : PySem.Challenge.rw_lendback_k57_memory_blocks.Holds := by
  w_on; o_law; k_head; (case hw => w_witness2)
  k_fill
  refine L2.walk_ofK (l := PySem.Challenge.rw_lendback_k57_memory_blocks) (n := 63) (k := 3) (x := "script") (CX := L2.CX0) (sp := fun K => Q4.lSp K Q4.sp_law) rfl (by decide) rfl ⟨rfl, by decide, by decide⟩ (fun w h Y => PySem.W.kIn_of Y) ?F (fun _ _ _ _ hl ho hS => Q4.law_ask hl ho hS) (fun _ _ _ _ h => h)
  case F =>
    intro w mg fa h KX G hmg
    refine' Q4.all_mk KX G hmg ?a0 ?i0 ?l0 ?c0 ?k0 ?a1 ?i1 ?l1 ?c1 ?k1 ?a2 ?i2 ?l2 ?c2 ?k2 ?a3 ?i3 ?l3 ?c3 ?k3 ?a4 ?i4 ?l4 ?c4 ?k4 ?a5 ?i5 ?l5 ?c5 ?k5 ?a6 ?l6 ?c6 ?k6 ?a7 ?l7 ?c7 ?k7 ?a8 ?l8 ?c8 ?k8 ?a9 ?l9 ?c9 ?k9 ?a10 ?l10 ?c10 ?k10 ?z0 ?z1 ?z2 ?z3 ?z4 ?z5 ?z6 ?z7 ?z8 ?pg_Memory ?hd_Memory ?po_Memory ?sa_Memory ?nf_Memory_rows ?nf_Memory_numbers ?mk_Memory ?kc_Memory ?gx_Memory
    (case gx_Memory => k_is)
    (case a0 => k_is)
    (case i0 => k_is)
    (case l0 => k_is)
    (case c0 => k_is)
    (case k0 => k_is)
    (case a1 => k_is)
    (case i1 => k_is)
    (case l1 => k_is)
    (case c1 => k_is)
    (case k1 => k_is)
    (case a2 => k_is)
    (case i2 => k_is)
    (case l2 => k_is)
    (case c2 => k_is)
    (case k2 => k_is)
    (case a3 => k_is)
    (case i3 => k_is)
    (case l3 => k_is)
    (case c3 => k_is)
    (case k3 => k_is)
    (case a4 => k_is)
    (case i4 => k_is)
    (case l4 => k_is)
    (case c4 => k_is)
    (case k4 => k_is)
    (case a5 => k_is)
    (case i5 => k_is)
    (case l5 => k_is)
    (case c5 => k_is)
    (case k5 => k_is)
    (case a6 => k_is)
    (case l6 => k_is)
    (case c6 => k_is)
    (case k6 => k_is)
    (case a7 => k_is)
    (case l7 => k_is)
    (case c7 => k_is)
    (case k7 => k_is)
    (case a8 => k_is)
    (case l8 => k_is)
    (case c8 => k_is)
    (case k8 => k_is)
    (case a9 => k_is)
    (case l9 => k_is)
    (case c9 => k_is)
    (case k9 => k_is)
    (case a10 => k_is)
    (case l10 => k_is)
    (case c10 => k_is)
    (case k10 => k_is)
    (case z0 => k_is)
    (case z1 => k_is)
    (case z2 => k_is)
    (case z3 => k_is)
    (case z4 => k_is)
    (case z5 => k_is)
    (case z6 => k_is)
    (case z7 => k_is)
    (case z8 => k_is)
    (case pg_Memory => k_is)
    (case hd_Memory => k_is)
    (case po_Memory => k_is)
    (case sa_Memory => k_is)
    (case nf_Memory_rows => k_is)
    (case nf_Memory_numbers => k_is)
    (case mk_Memory => k_is)
    (case kc_Memory => k_is)
