import PyProof.Rows.All
import Wide.All
import OpenK.AllK
import Wide.FinOn
import HandS.ForMost
import HandS.Wide
import HandS.TupAny
import HandS.Ends
import HandS.Zip
import HandS.Style
import HandS.Iter
import HandS.More
import HandS.SortInts
import HandS.Deep
import HandS.Flow
import HandS.NoneIn
import HandS.SortKw
import KE.SortData
import KE.DataMinMax
import KE.SortLaws
import KE.KDictKeyed
import PyProof.StrOps2
import PyProof.SumAny
import PyProof.FactsAll.dict_0
import PyProof.FactsAll.dict_3
import PyProof.Rows.StrCountLaw
import PyProof.ReprLen
import PyProof.ReprRoads
import PyProof.CallFns
import PyProof.Draws
import PyProof.EnumStmt
import PyProof.EnumMake
import KE.GoesMore
import PySem.Challenge.RW_railshut_k06_ends_exact
set_option Elab.async false
set_option linter.all false
set_option maxRecDepth 100000
/-! A def's meaning as a plain function over data: the state of a frame is a list of data (or of lists that the frame owns and may change). -/
namespace DN
open PySem PySem.Spec PyProof.Rows L2

abbrev D := PyData
/-- a dict that lasts: with text keys; with keys that are tuples of whole numbers -/
inductive Tabs where
  | txt (kvs : List (Str × D))
  | key (kvs : List (List Int × D))
instance : Coe (List (Str × D)) Tabs := ⟨.txt⟩
inductive Ent where
  | dat (d : D)
  | own (pinned : Bool) (ds : List D)
  | tab (t : Tabs)
abbrev En := List (Option Ent)
@[simp] def gt : En → Nat → Option Ent
  | [], _ => none
  | e :: _, 0 => e
  | _ :: r, n + 1 => gt r n
theorem gt_eq : ∀ (γ : En) (i : Nat), gt γ i = (γ[i]?).join
  | [], i => by simp [gt]
  | e :: r, 0 => by simp [gt]
  | e :: r, n + 1 => by simpa [gt] using gt_eq r n
theorem gt_set (γ : En) (i j : Nat) (e : Option Ent) : gt (γ.set i e) j = if i = j ∧ i < γ.length then e else gt γ j := by
  rw [gt_eq, gt_eq, List.getElem?_set]
  by_cases h : i = j
  · subst h
    by_cases h2 : i < γ.length
    · simp [h2]
    · simp [h2]
  · simp [h]
theorem gt_lt {γ : En} {i : Nat} {e : Ent} (h : gt γ i = some e) : i < γ.length := by
  rw [gt_eq] at h
  by_cases h2 : i < γ.length
  · exact h2
  · have : γ[i]? = none := by simp; omega
    rw [this] at h; cases h

theorem rd_mono {H H' : Hp} {a : Addr} {u : HO} (s : Same H H') (h : Rd H a u) : Rd H' a u := by
  rcases h with h | ⟨o, h⟩
  · exact .inl (s _ _ h)
  · exact .inr ⟨o, s _ _ h⟩
theorem sql_mono {K : PySem.W.Frag} {H H' : Hp} {a : Addr} {xs : List V} (s : Same H H') (h : SqL K H a xs) : SqL K H' a xs := by
  rcases h with h | h
  · exact .inl (rd_mono s h)
  · exact .inr h
theorem sqt_mono {K : PySem.W.Frag} {H H' : Hp} {a : Addr} {xs : List V} (s : Same H H') (h : SqT K H a xs) : SqT K H' a xs := by
  rcases h with h | h
  · exact .inl (rd_mono s h)
  · exact .inr h
mutual
theorem dp_mono {K : PySem.W.Frag} {H H' : Hp} (s : Same H H') : ∀ {v : V} {d : D}, Dp K H v d → Dp K H' v d
  | _, _, .non => .non
  | _, _, .bl b => .bl b
  | _, _, .int i => .int i
  | _, _, .str x => .str x
  | _, _, .lst h a => .lst (sql_mono s h) (dps_mono s a)
  | _, _, .tup h a => .tup (sqt_mono s h) (dps_mono s a)
theorem dps_mono {K : PySem.W.Frag} {H H' : Hp} (s : Same H H') : ∀ {vs : List V} {ds : List D}, DpAll K H vs ds → DpAll K H' vs ds
  | _, _, .nil => .nil
  | _, _, .cons h t => .cons (dp_mono s h) (dps_mono s t)
end
section
variable {K : PySem.W.Frag} {H : Hp}
theorem dps_len : ∀ {vs : List V} {ds : List D}, DpAll K H vs ds → vs.length = ds.length
  | _, _, .nil => rfl
  | _, _, .cons _ t => congrArg (· + 1) (dps_len t)
theorem dps_app : ∀ {vs us : List V} {ds es : List D}, DpAll K H vs ds → DpAll K H us es → DpAll K H (vs ++ us) (ds ++ es)
  | _, _, _, _, .nil, h => h
  | _, _, _, _, .cons a t, h => .cons a (dps_app t h)
theorem dps_at : ∀ {vs : List V} {ds : List D} {i : Nat} {d : D}, DpAll K H vs ds → ds[i]? = some d → ∃ v, vs[i]? = some v ∧ Dp K H v d
  | _, _, _, _, .nil, e => by simp at e
  | _, _, 0, _, .cons h _, e => by simp at e; subst e; exact ⟨_, rfl, h⟩
  | _, _, i + 1, d, .cons _ t, e => by
    obtain ⟨v, h1, h2⟩ := dps_at (i := i) (d := d) t (by simpa using e)
    exact ⟨v, by simpa using h1, h2⟩
theorem dps_set : ∀ {vs : List V} {ds : List D} {v : V} {d : D} (i : Nat), DpAll K H vs ds → Dp K H v d → DpAll K H (vs.set i v) (ds.set i d)
  | _, _, _, _, _, .nil, _ => .nil
  | _, _, _, _, 0, .cons _ t, h => .cons h t
  | _, _, _, _, i + 1, .cons a t, h => .cons a (dps_set i t h)
theorem dps_take : ∀ {vs : List V} {ds : List D} (n : Nat), DpAll K H vs ds → DpAll K H (vs.take n) (ds.take n)
  | _, _, 0, _ => .nil
  | _, _, _ + 1, .nil => .nil
  | _, _, n + 1, .cons a t => .cons a (dps_take n t)
theorem dps_drop : ∀ {vs : List V} {ds : List D} (n : Nat), DpAll K H vs ds → DpAll K H (vs.drop n) (ds.drop n)
  | _, _, 0, h => h
  | _, _, _ + 1, .nil => .nil
  | _, _, n + 1, .cons _ t => dps_drop n t
end

/-- the last of the pairs with the key -/
@[simp] def tabM : List (Str × D) → Str → Option D → Option D
  | [], _, o => o
  | p :: r, z, o => tabM r z (if p.1 = z then some p.2 else o)
/-- the dict at p, with these entries (key, where the key's tuple stands, value) -/
def dnt (P : Program) (w : World) (p : Addr) (xs : List (List Int × Addr × Value)) : HO := .ext fun h => ∃ o es ep, h.get? p = some o ∧ o.ExactDict ∧ o.data = .dict es ep ∧ es.toList = xs.map (entryOfKey (tupleKind (intKind P w)))
theorem dnt_any {P P' : Program} {w w' : World} {p : Addr} {xs : List (List Int × Addr × Value)} : dnt P w p xs = dnt P' w' p xs := rfl
/-- an entry of a dict that lasts -/
def EntK (K : PySem.W.Frag) (Hk : Hp) (x : List Int × Addr × Value) (kv : List Int × D) : Prop := x.1 = kv.1 ∧ Dp K Hk (.ref x.2.1) (.tuple (kv.1.map .int)) ∧ ∃ v, RelV v x.2.2 ∧ Dp K Hk v kv.2
/-- v is a dict that lasts -/
def Tb (K : PySem.W.Frag) (Hk : Hp) (v : V) : Tabs → Prop
  | .txt kvs => ∃ p kvs', v = .ref p ∧ Hk p = some (.dK kvs') ∧ ∀ z x, tabM kvs z none = some x → ∃ u, valV kvs' (Sum.inr z) = some u ∧ Dp K Hk u x
  | .key kvs => ∃ P w p xs, v = .ref p ∧ Hk p = some (dnt P w p xs) ∧ PySem.W.EachIs (EntK K Hk) xs kvs ∧ (xs.map (·.1)).Nodup ∧ (p == sysModules) = false ∧ xs.length ≤ sizeLine
theorem Tb.mono {K : PySem.W.Frag} {H H' : Hp} {v : V} {t : Tabs} (s : Same H H') (h : Tb K H v t) : Tb K H' v t := by
  cases t with
  | txt kvs =>
    obtain ⟨p, kvs', e, hp, t⟩ := h
    refine ⟨p, kvs', e, s _ _ hp, fun z x q => ?_⟩
    obtain ⟨u, e1, r⟩ := t z x q
    exact ⟨u, e1, dp_mono s r⟩
  | key kvs =>
    obtain ⟨P, w, p, xs, e, hp, r, n, q, z⟩ := h
    exact ⟨P, w, p, xs, e, s _ _ hp, r.mono fun x kv ⟨a, b, v, c, d⟩ => ⟨a, dp_mono s b, v, c, dp_mono s d⟩, n, q, z⟩
/-- the frame's slots σ, the heap H and its lasting part Hk are as γ tells -/
structure Ok (K : PySem.W.Frag) (σ : L2.St) (H Hk : Hp) (γ : En) : Prop where
  len : σ.length = γ.length
  sub : Same Hk H
  dat : ∀ i d, gt γ i = some (.dat d) → ∃ v, σ[i]? = some (some v) ∧ Dp K Hk v d
  own : ∀ i b ds, gt γ i = some (.own b ds) → ∃ p vs, σ[i]? = some (some (.ref p)) ∧ H p = some (.lst vs) ∧ Hk p = none ∧ DpAll K Hk vs ds
  pin : ∀ i ds, gt γ i = some (.own true ds) → i = 0
  sep : ∀ i j b c ds es p, gt γ i = some (.own b ds) → gt γ j = some (.own c es) → σ[i]? = some (some (.ref p)) → σ[j]? = some (some (.ref p)) → i = j
  tab : ∀ i kvs, gt γ i = some (.tab kvs) → ∃ v, σ[i]? = some (some v) ∧ Tb K Hk v kvs
/-- the addresses that the frame owns -/
def OwnA (σ : L2.St) (γ : En) (a : Addr) : Prop := ∃ i b ds, gt γ i = some (.own b ds) ∧ σ[i]? = some (some (.ref a))
/-- from one situation to a later one -/
structure Go (K : PySem.W.Frag) (σ : L2.St) (H Hk : Hp) (γ : En) (σ2 : L2.St) (H2 Hk2 : Hp) (γ2 : En) : Prop where
  ok : Ok K σ2 H2 Hk2 γ2
  kk : Same Hk Hk2
  nw : ∀ a u, Hk2 a = some u → Hk a = none → H a = none ∨ OwnA σ γ a
  kp : ∀ a u, H a = some u → ¬ OwnA σ γ a → H2 a = some u
  sh : ∀ a, OwnA σ2 γ2 a → OwnA σ γ a ∨ H a = none
  pn : ∀ i ds, gt γ i = some (.own true ds) → σ2[i]? = σ[i]? ∧ ∃ es, gt γ2 i = some (.own true es)
theorem Go.refl {K : PySem.W.Frag} {σ : L2.St} {H Hk : Hp} {γ : En} (o : Ok K σ H Hk γ) : Go K σ H Hk γ σ H Hk γ :=
  ⟨o, Same.refl _, fun a u h n => (by rw [h] at n; cases n), fun _ _ h _ => h, fun _ h => .inl h, fun i ds h => ⟨rfl, ds, h⟩⟩
theorem Go.trans {K : PySem.W.Frag} {σ σ1 σ2 : L2.St} {H Hk H1 Hk1 H2 Hk2 : Hp} {γ γ1 γ2 : En} (a : Go K σ H Hk γ σ1 H1 Hk1 γ1) (b : Go K σ1 H1 Hk1 γ1 σ2 H2 Hk2 γ2) : Go K σ H Hk γ σ2 H2 Hk2 γ2 := by
  have back : ∀ x, H1 x = none → H x = none ∨ OwnA σ γ x := fun x h => by
    by_cases ho : OwnA σ γ x
    · exact .inr ho
    · cases e : H x with
      | none => exact .inl rfl
      | some u => have := a.kp x u e ho; rw [h] at this; cases this
  refine ⟨b.ok, a.kk.trans b.kk, fun x u h n => ?_, fun x u h no => ?_, fun x h => ?_, fun i ds h => ?_⟩
  · cases e : Hk1 x with
    | some u' => exact a.nw x u' e n
    | none =>
      rcases b.nw x u h e with z | z
      · exact back x z
      · rcases a.sh x z with z | z
        · exact .inr z
        · exact .inl z
  · refine b.kp x u (a.kp x u h no) fun z => ?_
    rcases a.sh x z with z | z
    · exact no z
    · rw [h] at z; cases z
  · rcases b.sh x h with z | z
    · exact a.sh x z
    · rcases back x z with z | z
      · exact .inr z
      · exact .inl z
  · obtain ⟨e1, es, h1⟩ := a.pn i ds h
    obtain ⟨e2, es2, h2⟩ := b.pn i es h1
    exact ⟨e2.trans e1, es2, h2⟩
/-- the heap grows, nothing is changed -/
structure Grow (H Hk H2 Hk2 : Hp) : Prop where
  hh : Same H H2
  kk : Same Hk Hk2
  sub : Same Hk2 H2
  nw : ∀ a u, Hk2 a = some u → Hk a = none → H a = none
theorem Grow.refl {H Hk : Hp} (s : Same Hk H) : Grow H Hk H Hk := ⟨Same.refl _, Same.refl _, s, fun a u h n => (by rw [h] at n; cases n)⟩
theorem same_upd {H : Hp} {p : Addr} {o : HO} (h : H p = none) : Same H (upd H p o) := fun b x e => by
  rw [upd_ne (ne_of_none e h)]; exact e
theorem Grow.new {H Hk : Hp} {p : Addr} {o : HO} (s : Same Hk H) (h : H p = none) : Grow H Hk (upd H p o) (upd Hk p o) := by
  have hk : Hk p = none := s.free h
  refine ⟨same_upd h, same_upd hk, fun b x e => ?_, fun a u e n => ?_⟩
  · by_cases hb : b = p
    · subst hb; rw [upd_same] at e ⊢; exact e
    · rw [upd_ne hb] at e ⊢; exact s _ _ e
  · by_cases hb : a = p
    · subst hb; exact h
    · rw [upd_ne hb, n] at e; cases e
theorem Grow.newH {H Hk : Hp} {p : Addr} {o : HO} (s : Same Hk H) (h : H p = none) : Grow H Hk (upd H p o) Hk :=
  ⟨same_upd h, Same.refl _, s.trans (same_upd h), fun a u e n => (by rw [e] at n; cases n)⟩
theorem Grow.trans {H Hk H1 Hk1 H2 Hk2 : Hp} (a : Grow H Hk H1 Hk1) (b : Grow H1 Hk1 H2 Hk2) : Grow H Hk H2 Hk2 :=
  ⟨a.hh.trans b.hh, a.kk.trans b.kk, b.sub, fun x u h n => (by
    cases e : Hk1 x with
    | some u' => exact a.nw x u' e n
    | none => exact a.hh.free (b.nw x u h e))⟩
theorem Ok.grow {K : PySem.W.Frag} {σ : L2.St} {H Hk H2 Hk2 : Hp} {γ : En} (o : Ok K σ H Hk γ) (g : Grow H Hk H2 Hk2) : Ok K σ H2 Hk2 γ := by
  refine ⟨o.len, g.sub, fun i d h => ?_, fun i b ds h => ?_, o.pin, o.sep, fun i kvs h => (let ⟨v, e, r⟩ := o.tab i kvs h; ⟨v, e, r.mono g.kk⟩)⟩
  · obtain ⟨v, e, r⟩ := o.dat i d h
    exact ⟨v, e, dp_mono g.kk r⟩
  · obtain ⟨p, vs, e, hp, hn, r⟩ := o.own i b ds h
    refine ⟨p, vs, e, g.hh _ _ hp, ?_, dps_mono g.kk r⟩
    cases q : Hk2 p with
    | none => rfl
    | some u => have := g.nw p u q hn; rw [hp] at this; cases this
theorem Ok.go {K : PySem.W.Frag} {σ : L2.St} {H Hk H2 Hk2 : Hp} {γ : En} (o : Ok K σ H Hk γ) (g : Grow H Hk H2 Hk2) : Go K σ H Hk γ σ H2 Hk2 γ :=
  ⟨o.grow g, g.kk, fun a u h n => .inl (g.nw a u h n), fun a u h _ => g.hh _ _ h, fun _ h => .inl h, fun i ds h => ⟨rfl, ds, h⟩⟩

/-- a value seen as data: lasting, or a list that is owned -/
def Vw (K : PySem.W.Frag) (H Hk : Hp) (v : V) (d : D) : Prop := Dp K Hk v d ∨ ∃ p vs ds, v = .ref p ∧ d = .list ds ∧ H p = some (.lst vs) ∧ DpAll K Hk vs ds
section
variable {K : PySem.W.Frag} {H Hk : Hp} {v : V}
theorem Vw.int {i : Int} (h : Vw K H Hk v (.int i)) : v = .int i := by
  rcases h with h | ⟨p, vs, ds, _, e, _⟩
  · cases h; rfl
  · cases e
theorem Vw.str {i : Str} (h : Vw K H Hk v (.str i)) : v = .str i := by
  rcases h with h | ⟨p, vs, ds, _, e, _⟩
  · cases h; rfl
  · cases e
theorem Vw.bl {i : Bool} (h : Vw K H Hk v (.bool i)) : v = .bl i := by
  rcases h with h | ⟨p, vs, ds, _, e, _⟩
  · cases h; rfl
  · cases e
theorem Vw.non (h : Vw K H Hk v .none) : v = .non := by
  rcases h with h | ⟨p, vs, ds, _, e, _⟩
  · cases h; rfl
  · cases e
theorem Vw.tup {ds : List D} (s : Same Hk H) (h : Vw K H Hk v (.tuple ds)) : ∃ p vs, v = .ref p ∧ SqT K H p vs ∧ DpAll K Hk vs ds := by
  rcases h with h | ⟨p, vs, ds, _, e, _⟩
  · cases h with
    | tup h a => exact ⟨_, _, rfl, sqt_mono s h, a⟩
  · cases e
theorem Vw.lst {ds : List D} (s : Same Hk H) (h : Vw K H Hk v (.list ds)) : ∃ p vs, v = .ref p ∧ SqL K H p vs ∧ DpAll K Hk vs ds := by
  rcases h with h | ⟨p, vs, ds, e1, e, hp, a⟩
  · cases h with
    | lst h a => exact ⟨_, _, rfl, sql_mono s h, a⟩
  · cases e; exact ⟨p, vs, e1, .inl (.inl hp), a⟩
end

/-! ### readings by functions -/
abbrev Fe := En → Option (D × En)
def tI (K : PySem.W.Frag) (f : Fe) : TE := fun σ H Q => ∃ γ Hk d γ2, Ok K σ H Hk γ ∧ f γ = some (d, γ2) ∧ ∀ v H2 Hk2, Go K σ H Hk γ σ H2 Hk2 γ2 → Dp K Hk2 v d → Q v H2
theorem PE.imp {X : Cx} {e : Expr} {t t' : TE} (h : PE X e t) (i : ∀ σ H Q, t' σ H Q → t σ H Q) : PE X e t' := ⟨fun pins s σ H Q I q => h.run pins s σ H Q I (i _ _ _ q)⟩
theorem PT.imp {X : Cx} {e : Expr} {t t' : TT} (h : PT X e t) (i : ∀ σ H Q, t' σ H Q → t σ H Q) : PT X e t' := ⟨fun pins s σ H Q I q => h.run pins s σ H Q I (i _ _ _ q)⟩
theorem PA.imp {X : Cx} {e : List Expr} {t t' : TA} (h : PA X e t) (i : ∀ σ H Q, t' σ H Q → t σ H Q) : PA X e t' := ⟨fun pos pins s σ H Q I q => h.run pos pins s σ H Q I (i _ _ _ q)⟩
theorem PS.imp {X : Cx} {e : Stmt} {t t' : TS} (h : PS X e t) (i : ∀ D σ H, t' D σ H → t D σ H) : PS X e t' := ⟨fun pins s σ H D I q => h.run pins s σ H D I (i _ _ _ q)⟩
theorem PSs.imp {X : Cx} {e : List Stmt} {t t' : TS} (h : PSs X e t) (i : ∀ D σ H, t' D σ H → t D σ H) : PSs X e t' := ⟨fun pins s σ H D I q => h.run pins s σ H D I (i _ _ _ q)⟩
def EV (X : Cx) (e : Expr) (f : Fe) : Prop := PE X e (tI X.K f)
/-- names -/
@[simp] def view (γ : En) (i : Nat) : Option D := match gt γ i with
  | some (.dat d) => some d
  | some (.own _ ds) => some (.list ds)
  | _ => none
theorem Ok.view {K : PySem.W.Frag} {σ : L2.St} {H Hk : Hp} {γ : En} (o : Ok K σ H Hk γ) {i : Nat} {d : D} (h : DN.view γ i = some d) : ∃ v, σ[i]? = some (some v) ∧ Vw K H Hk v d := by
  unfold DN.view at h
  split at h
  · rename_i d' e
    cases h
    obtain ⟨v, e1, r⟩ := o.dat i _ e
    exact ⟨v, e1, .inl r⟩
  · rename_i b ds e
    cases h
    obtain ⟨p, vs, e1, hp, _, r⟩ := o.own i _ _ e
    exact ⟨_, e1, .inr ⟨p, vs, ds, rfl, rfl, hp, r⟩⟩
  · cases h
@[simp] def fN (i : Nat) : Fe := fun γ => match gt γ i with
  | some (.dat d) => some (d, γ)
  | some (.own false ds) => some (.list ds, γ.set i (some (.dat (.list ds))))
  | _ => none
theorem Ok.release {K : PySem.W.Frag} {σ : L2.St} {H Hk : Hp} {γ : En} (o : Ok K σ H Hk γ) {i : Nat} {ds : List D} (h : gt γ i = some (.own false ds)) :
    ∃ p Hk2, σ[i]? = some (some (.ref p)) ∧ Go K σ H Hk γ σ H Hk2 (γ.set i (some (.dat (.list ds)))) ∧ Dp K Hk2 (.ref p) (.list ds) := by
  obtain ⟨p, vs, e1, hp, hn, r⟩ := o.own i _ _ h
  have hs : Same Hk (upd Hk p (.lst vs)) := same_upd hn
  have hd : Dp K (upd Hk p (.lst vs)) (.ref p) (.list ds) := .lst (SqL.of upd_same) (dps_mono hs r)
  have hi := gt_lt h
  refine ⟨p, upd Hk p (.lst vs), e1, ⟨⟨by rw [List.length_set]; exact o.len, fun b x e => ?_, fun j d e => ?_, fun j b es e => ?_, fun j es e => ?_, fun j k b c es fs q ej ek => ?_, fun j kvs e => ?_⟩, hs, fun a u e n => ?_, fun _ _ e _ => e, fun a e => ?_, fun j es e => ?_⟩, hd⟩
  · by_cases hb : b = p
    · subst hb; rw [upd_same] at e; cases e; exact hp
    · rw [upd_ne hb] at e; exact o.sub _ _ e
  · rw [gt_set] at e
    split at e
    · rename_i c; obtain ⟨rfl, _⟩ := c
      cases e
      exact ⟨_, e1, hd⟩
    · obtain ⟨v, e2, r2⟩ := o.dat j d e
      exact ⟨v, e2, dp_mono hs r2⟩
  · rw [gt_set] at e
    split at e
    · cases e
    · rename_i c
      obtain ⟨q, ws, e2, hq, hqn, r2⟩ := o.own j b es e
      refine ⟨q, ws, e2, hq, ?_, dps_mono hs r2⟩
      rw [upd_ne ?_]; exact hqn
      rintro rfl
      exact c ⟨o.sep _ _ _ _ _ _ _ h e e1 e2, hi⟩
  · rw [gt_set] at e
    split at e
    · cases e
    · exact o.pin _ _ e
  · rw [gt_set] at ej ek
    split at ej
    · cases ej
    · split at ek
      · cases ek
      · exact o.sep _ _ _ _ _ _ _ ej ek
  · rw [gt_set] at e
    split at e
    · cases e
    · obtain ⟨v, e2, r2⟩ := o.tab j kvs e
      exact ⟨v, e2, r2.mono hs⟩
  · by_cases ha : a = p
    · subst ha; exact .inr ⟨i, _, _, h, e1⟩
    · rw [upd_ne ha, n] at e; cases e
  · obtain ⟨j, b, es, e, ej⟩ := e
    rw [gt_set] at e
    split at e
    · cases e
    · exact .inl ⟨j, b, es, e, ej⟩
  · refine ⟨rfl, es, ?_⟩
    rw [gt_set, if_neg ?_]; exact e
    rintro ⟨rfl, _⟩
    rw [h] at e; cases e
theorem ev_name {X : Cx} (i : Nat) {x : Str} {pos : Pos} (hN : X.N[i]? = some x := by rfl) (hv : Vis X.env.scope x := by first | exact Or.inl rfl | exact Or.inr (Or.inl rfl) | exact Or.inr (Or.inr rfl))
    (hd : (x == ("__debug__" : Str)) = false := by decide) (hcd : (x == ("__classdict__" : Str)) = false := by decide) : EV X (.Name x pos) (fN i) := by
  refine PE.imp (pe_var hN hv hd hcd) fun σ H Q ⟨γ, Hk, d, γ2, o, e, q⟩ => ?_
  unfold fN at e
  split at e
  · rename_i d' e'
    cases e
    obtain ⟨v, e1, r⟩ := o.dat i _ e'
    exact ⟨v, e1, q v H Hk (Go.refl o) r⟩
  · rename_i ds e'
    cases e
    obtain ⟨p, Hk2, e1, g, r⟩ := o.release e'
    exact ⟨_, e1, q _ H Hk2 g r⟩
  · cases e
/-- constants -/
@[simp] def fC (d : D) : Fe := fun γ => some (d, γ)
theorem ev_int {X : Cx} {i j pos} : EV X (.Constant (.int i) j pos) (fC (.int i)) := PE.imp pe_int fun σ H Q ⟨γ, Hk, d, γ2, o, e, q⟩ => by
  cases e; exact q _ H Hk (Go.refl o) (.int i)
theorem ev_str {X : Cx} {x j pos} : EV X (.Constant (.str x) j pos) (fC (.str x)) := PE.imp pe_str fun σ H Q ⟨γ, Hk, d, γ2, o, e, q⟩ => by
  cases e; exact q _ H Hk (Go.refl o) (.str x)
theorem ev_bl {X : Cx} {b j pos} : EV X (.Constant (.bool b) j pos) (fC (.bool b)) := PE.imp pe_bl fun σ H Q ⟨γ, Hk, d, γ2, o, e, q⟩ => by
  cases e; exact q _ H Hk (Go.refl o) (.bl b)
theorem ev_non {X : Cx} {j pos} : EV X (.Constant .none j pos) (fC .none) := PE.imp pe_non fun σ H Q ⟨γ, Hk, d, γ2, o, e, q⟩ => by
  cases e; exact q _ H Hk (Go.refl o) .non
end DN
namespace DN
open PySem PySem.Spec PyProof.Rows L2
/-! ### two operands -/
/-- an operation by values, as data -/
def Op2 (K : PySem.W.Frag) (r : R2) (op : D → D → Option D) : Prop :=
  ∀ H Hk x y dx dy dz (Q : VK), Same Hk H → Vw K H Hk x dx → Vw K H Hk y dy → op dx dy = some dz → (∀ v H2 Hk2, Grow H Hk H2 Hk2 → Dp K Hk2 v dz → Q v H2) → r x y H Q
@[simp] def f2 (op : D → D → Option D) (f g : Fe) : Fe := fun γ => match f γ with
  | some (x, γ1) => match g γ1 with
    | some (y, γ2) => match op x y with
      | some z => some (z, γ2)
      | none => none
    | none => none
  | none => none
/-- the first a name -/
@[simp] def f2n (op : D → D → Option D) (i : Nat) (g : Fe) : Fe := fun γ => match view γ i with
  | some _ => match g γ with
    | some (y, γ2) => match view γ2 i with
      | some x => match op x y with
        | some z => some (z, γ2)
        | none => none
      | none => none
    | none => none
  | none => none
@[simp] def f2m (op : D → D → Option D) (f : Fe) (j : Nat) : Fe := fun γ => match f γ with
  | some (x, γ2) => match view γ2 j with
    | some y => match op x y with
      | some z => some (z, γ2)
      | none => none
    | none => none
  | none => none
@[simp] def f2nn (op : D → D → Option D) (i j : Nat) : Fe := fun γ => match view γ i with
  | some x => match view γ j with
    | some y => match op x y with
      | some z => some (z, γ)
      | none => none
    | none => none
  | none => none
section
variable {K : PySem.W.Frag} {r : R2} {op : D → D → Option D} {f g : Fe} {σ : L2.St} {H : Hp} {Q : VK}
theorem t2 (o : Op2 K r op) (h : tI K (f2 op f g) σ H Q) : tOp r (tI K f) (tI K g) σ H Q := by
  obtain ⟨γ, Hk, d, γ2, ok, e, q⟩ := h
  unfold f2 at e
  split at e
  · rename_i x γ1 ef
    split at e
    · rename_i y γ2' eg
      split at e
      · rename_i z eo
        cases e
        refine ⟨γ, Hk, x, γ1, ok, ef, fun v H1 Hk1 g1 r1 => ⟨γ1, Hk1, y, γ2, g1.ok, eg, fun u H2 Hk2 g2 r2 => ?_⟩⟩
        exact o H2 Hk2 v u x y d Q g2.ok.sub (.inl (dp_mono g2.kk r1)) (.inl r2) eo fun w H3 Hk3 g3 r3 => q w H3 Hk3 ((g1.trans g2).trans (g2.ok.go g3)) r3
      · cases e
    · cases e
  · cases e
theorem t2n {i : Nat} (o : Op2 K r op) (h : tI K (f2n op i g) σ H Q) : tOp r (tVar i) (tI K g) σ H Q := by
  obtain ⟨γ, Hk, d, γ2, ok, e, q⟩ := h
  unfold f2n at e
  split at e
  · rename_i x0 ev0
    split at e
    · rename_i y γ2' eg
      split at e
      · rename_i x ev
        split at e
        · rename_i z eo
          cases e
          obtain ⟨v, e1, _⟩ := ok.view ev0
          refine ⟨v, e1, γ, Hk, y, γ2, ok, eg, fun u H2 Hk2 g2 r2 => ?_⟩
          obtain ⟨v', e2, w⟩ := g2.ok.view ev
          rw [e1] at e2; cases e2
          exact o H2 Hk2 v u x y d Q g2.ok.sub w (.inl r2) eo fun w H3 Hk3 g3 r3 => q w H3 Hk3 (g2.trans (g2.ok.go g3)) r3
        · cases e
      · cases e
    · cases e
  · cases e
theorem t2m {j : Nat} (o : Op2 K r op) (h : tI K (f2m op f j) σ H Q) : tOp r (tI K f) (tVar j) σ H Q := by
  obtain ⟨γ, Hk, d, γ2, ok, e, q⟩ := h
  unfold f2m at e
  split at e
  · rename_i x γ2' ef
    split at e
    · rename_i y ev
      split at e
      · rename_i z eo
        cases e
        refine ⟨γ, Hk, x, γ2, ok, ef, fun v H1 Hk1 g1 r1 => ?_⟩
        obtain ⟨u, e2, w⟩ := g1.ok.view ev
        exact ⟨u, e2, o H1 Hk1 v u x y d Q g1.ok.sub (.inl r1) w eo fun w H3 Hk3 g3 r3 => q w H3 Hk3 (g1.trans (g1.ok.go g3)) r3⟩
      · cases e
    · cases e
  · cases e
theorem t2nn {i j : Nat} (o : Op2 K r op) (h : tI K (f2nn op i j) σ H Q) : tOp r (tVar i) (tVar j) σ H Q := by
  obtain ⟨γ, Hk, d, γ2, ok, e, q⟩ := h
  unfold f2nn at e
  split at e
  · rename_i x ex
    split at e
    · rename_i y ey
      split at e
      · rename_i z eo
        cases e
        obtain ⟨v, e1, w1⟩ := ok.view ex
        obtain ⟨u, e2, w2⟩ := ok.view ey
        exact ⟨v, e1, u, e2, o H Hk v u x y d Q ok.sub w1 w2 eo fun w H3 Hk3 g3 r3 => q w H3 Hk3 (ok.go g3) r3⟩
      · cases e
    · cases e
  · cases e
end

/-! ### the operations -/
@[simp] def okN (n : Nat) : Bool := decide (n ≤ 1000000)
theorem okN_line {n : Nat} (h : okN n = true) : n ≤ sizeLine := Nat.le_trans (of_decide_eq_true h) (by decide)
theorem okN_lt {n : Nat} (h : okN n = true) : n < sizeLine := Nat.lt_of_le_of_lt (of_decide_eq_true h) (by decide)
@[simp] def addD : D → D → Option D
  | .int i, .int j => some (.int (i + j))
  | .str a, .str b => if okN (a.length + b.length) then some (.str (a ++ b)) else none
  | .tuple a, .tuple b => if okN (a.length + b.length) then some (.tuple (a ++ b)) else none
  | .list a, .list b => if okN (a.length + b.length) then some (.list (a ++ b)) else none
  | _, _ => none
@[simp] def subD : D → D → Option D
  | .int i, .int j => some (.int (i - j))
  | _, _ => none
def mulD : D → D → Option D
  | .int i, .int j => if decide (i.natAbs < 2 ^ 64) || decide (j.natAbs < 2 ^ 64) || decide (i.natAbs.log2 + j.natAbs.log2 < 1000000) then some (.int (i * j)) else none
  | _, _ => none
@[simp] def fdivD : D → D → Option D
  | .int i, .int j => if decide (0 < j) && decide (j < 1073741824) then some (.int (i / j)) else none
  | _, _ => none
@[simp] def modD : D → D → Option D
  | .int i, .int j => if decide (0 < j) then some (.int (i % j)) else none
  | _, _ => none
@[simp] def powD : D → D → Option D
  | .int i, .int j => if decide (0 ≤ j) && decide (j ≤ 64) && decide (i.natAbs < 1000) then some (.int (i ^ j.toNat)) else none
  | _, _ => none
@[simp] def cmpI (p : Int → Int → Bool) (ps : Str → Str → Bool) : D → D → Option D
  | .int i, .int j => some (.bool (p i j))
  | .str a, .str b => some (.bool (ps a b))
  | _, _ => none
abbrev ltD := cmpI (fun i j => decide (i < j)) fun a b => decide (a.cps.toList < b.cps.toList)
abbrev leD := cmpI (fun i j => decide (i ≤ j)) fun a b => !decide (b.cps.toList < a.cps.toList)
abbrev gtD := cmpI (fun i j => decide (j < i)) fun a b => decide (b.cps.toList < a.cps.toList)
abbrev geD := cmpI (fun i j => decide (j ≤ i)) fun a b => !decide (a.cps.toList < b.cps.toList)
def eqD : D → D → Option D
  | .int i, .int j => some (.bool (decide (i = j)))
  | .str a, .str b => some (.bool (decide (a = b)))
  | .bool a, .bool b => some (.bool (decide (a = b)))
  | x, y => if SeqAt.shaped x && SeqAt.shaped y then some (.bool (PyData.eqv x y)) else none
def neD : D → D → Option D
  | .int i, .int j => some (.bool (!decide (i = j)))
  | .str a, .str b => some (.bool (!decide (a = b)))
  | .bool a, .bool b => some (.bool (!decide (a = b)))
  | x, y => if SeqAt.shaped x && SeqAt.shaped y then some (.bool (!PyData.eqv x y)) else none
def isNo : D → Bool
  | .none => true
  | _ => false
@[simp] def isNd : D → D → Option D
  | x, .none => some (.bool (isNo x))
  | _, _ => none
@[simp] def notNd : D → D → Option D
  | x, .none => some (.bool (!isNo x))
  | _, _ => none
@[simp] def ixD : D → D → Option D
  | .list xs, .int i => atI xs i
  | .tuple xs, .int i => atI xs i
  | .str z, .int i => if okN z.length then (atI z.cps.toList i).map fun c => .str ⟨#[c]⟩ else none
  | _, _ => none
def rCatL (K : PySem.W.Frag) : R2 := fun x y H Q => ∃ l b xs ys, x = .ref l ∧ y = .ref b ∧ SqL K H l xs ∧ SqL K H b ys ∧ xs.length + ys.length ≤ sizeLine ∧ ∀ p, H p = none → Q (.ref p) (upd H p (.lst (xs ++ ys)))
theorem op_catL {X : Cx} : OpR X (binaryOp .Add) (rCatL X.K) := by
  intro pins s σ H x y v u Q I rx ry h
  obtain ⟨l, b, xs, ys, rfl, rfl, hl, hb, hz, q⟩ := h
  cases rx
  cases ry
  obtain ⟨its, r1, p1, _⟩ := I.list hl
  obtain ⟨its2, r2, p2, _⟩ := I.list hb
  have l1 := r1.length
  have l2 := r2.length
  obtain ⟨⟨cls, dd, data, sl⟩, ho, hc, n, hd⟩ := id p1.isList
  obtain ⟨⟨cls2, dd2, data2, sl2⟩, ho2, hc2, n2, hd2⟩ := id p2.isList
  simp only at hc hd hc2 hd2
  subst hc hd hc2 hd2
  have e : its.toArray ++ its2.toArray = (its ++ its2).toArray := by simp
  refine concat_meets ⟨_, ho, rfl⟩ ⟨_, ho2, rfl⟩ noFill_list_add seq_list_add PySem.F.slot_list_add PySem.F.entry_list_add (PySem.F.args_list_add_2 _ _) (list_addW l b its.toArray its2.toArray n n2 dd dd2 sl sl2 (by simp; omega)) ⟨ho, ho2, ?_⟩
  rw [e]
  refine ⟨.ref _, _, I.laid (t' := s.toks) (o := .lst (xs ++ ys)) (fun b ob q => Heap.get?_push_of_some _ q) (Nat.le_refl _) ?_, rfl, q _ (I.hok.fresh (Nat.le_refl _))⟩
  exact ⟨by rw [List.length_append]; omega, _, 0, r1.append r2, Heap.get?_push_size _ rfl⟩
abbrev rAdd (K : PySem.W.Frag) : R2 := fun x y H Q => rI0 (fun i j => .int (i + j)) x y H Q ∨ (∃ i j, x = .str i ∧ y = .str j ∧ i.length + j.length ≤ sizeLine ∧ Q (.str (i ++ j)) H) ∨ rCatA K x y H Q ∨ rCatL K x y H Q
section
variable {K : PySem.W.Frag}
theorem nil_of {vs : List V} {ds : List D} {H : Hp} (h : DpAll K H vs ds) : vs = [] ↔ ds = [] := by
  cases h <;> simp
theorem o_add : Op2 K (rAdd K) addD := by
  intro H Hk x y dx dy dz Q s vx vy e q
  unfold addD at e
  split at e
  · cases e
    cases vx.int; cases vy.int
    exact .inl ⟨_, _, rfl, rfl, q _ H Hk (Grow.refl s) (.int _)⟩
  · split at e
    · rename_i c
      cases e
      cases vx.str; cases vy.str
      exact .inr (.inl ⟨_, _, rfl, rfl, okN_line c, q _ H Hk (Grow.refl s) (.str _)⟩)
    · cases e
  · rename_i as bs
    split at e
    · rename_i c
      cases e
      obtain ⟨p, vs, rfl, sp, ap⟩ := vx.tup s
      obtain ⟨u, ws, rfl, su, au⟩ := vy.tup s
      refine .inr (.inr (.inl ⟨p, u, vs, ws, rfl, rfl, sp, su, by rw [dps_len ap, dps_len au]; exact okN_line c, fun n => ?_, fun _ n => ?_, fun _ _ t ht => ?_⟩))
      · cases (nil_of ap).1 n
        rw [List.nil_append] at q
        rcases vy with vy | ⟨_, _, _, _, z, _⟩
        · exact q _ H Hk (Grow.refl s) vy
        · cases z
      · cases (nil_of au).1 n
        rw [List.append_nil] at q
        rcases vx with vx | ⟨_, _, _, _, z, _⟩
        · exact q _ H Hk (Grow.refl s) vx
        · cases z
      · have g : Grow H Hk (upd H t (.tup (vs ++ ws))) (upd Hk t (.tup (vs ++ ws))) := Grow.new s ht
        exact q _ _ _ g (.tup (SqT.of upd_same) (dps_mono g.kk (dps_app ap au)))
    · cases e
  · rename_i as bs
    split at e
    · rename_i c
      cases e
      obtain ⟨p, vs, rfl, sp, ap⟩ := vx.lst s
      obtain ⟨u, ws, rfl, su, au⟩ := vy.lst s
      refine .inr (.inr (.inr ⟨p, u, vs, ws, rfl, rfl, sp, su, by rw [dps_len ap, dps_len au]; exact okN_line c, fun t ht => ?_⟩))
      have g : Grow H Hk (upd H t (.lst (vs ++ ws))) (upd Hk t (.lst (vs ++ ws))) := Grow.new s ht
      exact q _ _ _ g (.lst (SqL.of upd_same) (dps_mono g.kk (dps_app ap au)))
    · cases e
  · cases e
theorem o_I0 {k : Int → Int → V} {op : D → D → Option D} (h : ∀ dx dy dz, op dx dy = some dz → ∃ i j, dx = .int i ∧ dy = .int j ∧ ∀ H, Dp K H (k i j) dz) : Op2 K (rI0 k) op := by
  intro H Hk x y dx dy dz Q s vx vy e q
  obtain ⟨i, j, rfl, rfl, hd⟩ := h _ _ _ e
  cases vx.int; cases vy.int
  exact ⟨i, j, rfl, rfl, q _ H Hk (Grow.refl s) (hd _)⟩
theorem o_I {C : Int → Int → Prop} {k : Int → Int → V} {op : D → D → Option D} (h : ∀ dx dy dz, op dx dy = some dz → ∃ i j, dx = .int i ∧ dy = .int j ∧ C i j ∧ ∀ H, Dp K H (k i j) dz) : Op2 K (rI C k) op := by
  intro H Hk x y dx dy dz Q s vx vy e q
  obtain ⟨i, j, rfl, rfl, hc, hd⟩ := h _ _ _ e
  cases vx.int; cases vy.int
  exact ⟨i, j, rfl, rfl, hc, q _ H Hk (Grow.refl s) (hd _)⟩
theorem o_sub : Op2 K (rI0 fun i j => .int (i - j)) subD := o_I0 fun dx dy dz e => by
  unfold subD at e
  split at e <;> cases e
  exact ⟨_, _, rfl, rfl, fun _ => .int _⟩
abbrev CMul2 (i j : Int) : Prop := CMul i j ∨ CMulW i j
theorem o_mul : Op2 K (rI CMul2 fun i j => .int (i * j)) mulD := o_I fun dx dy dz e => by
  unfold mulD at e
  split at e
  · split at e <;> cases e
    rename_i c
    simp only [Bool.or_eq_true, decide_eq_true_eq] at c
    refine ⟨_, _, rfl, rfl, ?_, fun _ => .int _⟩
    rcases c with (c | c) | c
    · exact .inl (.inl ⟨by omega, by omega⟩)
    · exact .inl (.inr ⟨by omega, by omega⟩)
    · exact .inr c
  · cases e
theorem o_fdiv : Op2 K (rI CDiv fun i j => .int (i / j)) fdivD := o_I fun dx dy dz e => by
  unfold fdivD at e
  split at e
  · split at e <;> cases e
    rename_i c
    simp only [Bool.and_eq_true, decide_eq_true_eq] at c
    exact ⟨_, _, rfl, rfl, c, fun _ => .int _⟩
  · cases e
theorem o_mod : Op2 K (rI (fun _ j => 0 < j) fun i j => .int (i % j)) modD := o_I fun dx dy dz e => by
  unfold modD at e
  split at e
  · split at e <;> cases e
    rename_i c
    exact ⟨_, _, rfl, rfl, of_decide_eq_true c, fun _ => .int _⟩
  · cases e
theorem o_pow : Op2 K (rI CPow fun i j => .int (i ^ j.toNat)) powD := o_I fun dx dy dz e => by
  unfold powD at e
  split at e
  · split at e <;> cases e
    rename_i c
    simp only [Bool.and_eq_true, decide_eq_true_eq] at c
    exact ⟨_, _, rfl, rfl, ⟨c.1.1, by omega, by have := c.2; omega⟩, fun _ => .int _⟩
  · cases e
abbrev rCm (p : Int → Int → Bool) (ps : Str → Str → Bool) : R2 := fun x y H Q => rI0 (fun i j => .bl (p i j)) x y H Q ∨ ∃ i j, x = .str i ∧ y = .str j ∧ Q (.bl (ps i j)) H
theorem o_cmp {p : Int → Int → Bool} {ps : Str → Str → Bool} : Op2 K (rCm p ps) (cmpI p ps) := by
  intro H Hk x y dx dy dz Q s vx vy e q
  unfold cmpI at e
  split at e
  · cases e
    cases vx.int; cases vy.int
    exact .inl ⟨_, _, rfl, rfl, q _ H Hk (Grow.refl s) (.bl _)⟩
  · cases e
    cases vx.str; cases vy.str
    exact .inr ⟨_, _, rfl, rfl, q _ H Hk (Grow.refl s) (.bl _)⟩
  · cases e
theorem Vw.dp {H Hk : Hp} {v : V} {d : D} (s : Same Hk H) (h : Vw K H Hk v d) : Dp K H v d := by
  rcases h with h | ⟨p, vs, ds, rfl, rfl, hp, a⟩
  · exact dp_mono s h
  · exact .lst (SqL.of hp) (dps_mono s a)
abbrev rEq2 (K : PySem.W.Frag) : R2 := fun x y H Q => rEq x y H Q ∨ rEqD K x y H Q
abbrev rNe2 (K : PySem.W.Frag) : R2 := fun x y H Q => rNe x y H Q ∨ rNeD K x y H Q
theorem o_eq : Op2 K (rEq2 K) eqD := by
  intro H Hk x y dx dy dz Q s vx vy e q
  unfold eqD at e
  split at e
  · cases e; cases vx.int; cases vy.int
    exact .inl ⟨rfl, by simpa using q _ H Hk (Grow.refl s) (.bl _)⟩
  · cases e; cases vx.str; cases vy.str
    exact .inl ⟨rfl, by simpa using q _ H Hk (Grow.refl s) (.bl _)⟩
  · cases e; cases vx.bl; cases vy.bl
    exact .inl ⟨rfl, by simpa using q _ H Hk (Grow.refl s) (.bl _)⟩
  · split at e <;> cases e
    rename_i c
    rw [Bool.and_eq_true] at c
    exact .inr ⟨_, _, vx.dp s, vy.dp s, c.1, c.2, q _ H Hk (Grow.refl s) (.bl _)⟩
theorem o_ne : Op2 K (rNe2 K) neD := by
  intro H Hk x y dx dy dz Q s vx vy e q
  unfold neD at e
  split at e
  · cases e; cases vx.int; cases vy.int
    exact .inl ⟨rfl, by simpa using q _ H Hk (Grow.refl s) (.bl _)⟩
  · cases e; cases vx.str; cases vy.str
    exact .inl ⟨rfl, by simpa using q _ H Hk (Grow.refl s) (.bl _)⟩
  · cases e; cases vx.bl; cases vy.bl
    exact .inl ⟨rfl, by simpa using q _ H Hk (Grow.refl s) (.bl _)⟩
  · split at e <;> cases e
    rename_i c
    rw [Bool.and_eq_true] at c
    exact .inr ⟨_, _, vx.dp s, vy.dp s, c.1, c.2, q _ H Hk (Grow.refl s) (.bl _)⟩
theorem Vw.isNo {H Hk : Hp} {v : V} {d : D} (h : Vw K H Hk v d) : decide (v = .non) = isNo d := by
  rcases h with h | ⟨p, vs, ds, rfl, rfl, hp, a⟩
  · cases h <;> first | rfl | (simp <;> rfl)
  · simp <;> rfl
theorem o_isN : Op2 K (fun x y H Q => y = .non ∧ Q (.bl (decide (x = .non))) H) isNd := by
  intro H Hk x y dx dy dz Q s vx vy e q
  unfold isNd at e
  split at e <;> cases e
  refine ⟨vy.non, ?_⟩
  rw [vx.isNo]
  exact q _ H Hk (Grow.refl s) (.bl _)
theorem o_notN : Op2 K (fun x y H Q => y = .non ∧ Q (.bl (!decide (x = .non))) H) notNd := by
  intro H Hk x y dx dy dz Q s vx vy e q
  unfold notNd at e
  split at e <;> cases e
  refine ⟨vy.non, ?_⟩
  rw [vx.isNo]
  exact q _ H Hk (Grow.refl s) (.bl _)
theorem atI_dps {H : Hp} {vs : List V} {ds : List D} {i : Int} {d : D} (a : DpAll K H vs ds) (e : atI ds i = some d) : ∃ v, atI vs i = some v ∧ Dp K H v d := by
  unfold atI at e ⊢
  rw [dps_len a]
  cases h : ixN ds.length i with
  | none => rw [h] at e; cases e
  | some j =>
    rw [h] at e
    exact dps_at a e
theorem o_ix : Op2 K (rIx K) ixD := by
  intro H Hk x y dx dy dz Q s vx vy e q
  unfold ixD at e
  split at e
  · cases vy.int
    obtain ⟨p, vs, rfl, sp, ap⟩ := vx.lst s
    obtain ⟨v, ev, r⟩ := atI_dps ap e
    exact .inl ⟨p, vs, _, v, rfl, rfl, sp, ev, q _ H Hk (Grow.refl s) r⟩
  · cases vy.int
    obtain ⟨p, vs, rfl, sp, ap⟩ := vx.tup s
    obtain ⟨v, ev, r⟩ := atI_dps ap e
    exact .inr (.inl ⟨p, vs, _, v, rfl, rfl, sp, ev, q _ H Hk (Grow.refl s) r⟩)
  · cases vy.int; cases vx.str
    split at e
    · rename_i c
      obtain ⟨ch, e1, e2⟩ := Option.map_eq_some_iff.mp e
      cases e2
      exact .inr (.inr ⟨_, _, ch, rfl, rfl, okN_line c, e1, q _ H Hk (Grow.refl s) (.str _)⟩)
    · cases e
  · cases e
end
/-! ### for simp -/
@[simp] theorem simp_ix1 {α : Type} (xs : List α) (i : Int) : atI xs i = (ixN xs.length i).bind fun j => xs[j]? := rfl
@[simp] theorem simp_ix2 (n : Nat) (i : Int) : ixN n i = if 0 ≤ i then (if i < n then some i.toNat else none) else if -(n : Int) ≤ i then some (i + n).toNat else none := rfl
@[simp] theorem mulD_l (i j : Int) (h : i.natAbs < 2 ^ 64) : mulD (.int i) (.int j) = some (.int (i * j)) := by
  simp [mulD, h]
@[simp] theorem mulD_r (i j : Int) (h : j.natAbs < 2 ^ 64) : mulD (.int i) (.int j) = some (.int (i * j)) := by
  simp [mulD, h]
end DN
namespace DN
open PySem PySem.Spec PyProof.Rows L2
/-! ### expressions of two operands -/
section
variable {X : Cx} {a b : Expr} {f g : Fe} {r : R2} {fop : D → D → Option D} {pos : Pos}
theorem ev2 {op : Operator} (o : OpR X (binaryOp op) r) (s : Op2 X.K r fop) (ha : EV X a f) (hb : EV X b g) : EV X (.BinOp a op b pos) (f2 fop f g) := PE.imp (pe_op o ha hb) fun _ _ _ h => t2 s h
theorem ev2n {op : Operator} {i : Nat} (o : OpR X (binaryOp op) r) (s : Op2 X.K r fop) (ha : PE X a (tVar i)) (hb : EV X b g) : EV X (.BinOp a op b pos) (f2n fop i g) := PE.imp (pe_op o ha hb) fun _ _ _ h => t2n s h
theorem ev2m {op : Operator} {j : Nat} (o : OpR X (binaryOp op) r) (s : Op2 X.K r fop) (ha : EV X a f) (hb : PE X b (tVar j)) : EV X (.BinOp a op b pos) (f2m fop f j) := PE.imp (pe_op o ha hb) fun _ _ _ h => t2m s h
theorem ev2nn {op : Operator} {i j : Nat} (o : OpR X (binaryOp op) r) (s : Op2 X.K r fop) (ha : PE X a (tVar i)) (hb : PE X b (tVar j)) : EV X (.BinOp a op b pos) (f2nn fop i j) := PE.imp (pe_op o ha hb) fun _ _ _ h => t2nn s h
theorem ec2 {op : CmpOp} (o : OpR X (compareOp op) r) (s : Op2 X.K r fop) (hm : behindInMarks op b = false) (ha : EV X a f) (hb : EV X b g) : EV X (.Compare a [op] [b] pos) (f2 fop f g) := PE.imp (pe_cmpR o ha hb hm) fun _ _ _ h => t2 s h
theorem ec2n {op : CmpOp} {i : Nat} (o : OpR X (compareOp op) r) (s : Op2 X.K r fop) (hm : behindInMarks op b = false) (ha : PE X a (tVar i)) (hb : EV X b g) : EV X (.Compare a [op] [b] pos) (f2n fop i g) := PE.imp (pe_cmpR o ha hb hm) fun _ _ _ h => t2n s h
theorem ec2m {op : CmpOp} {j : Nat} (o : OpR X (compareOp op) r) (s : Op2 X.K r fop) (hm : behindInMarks op b = false) (ha : EV X a f) (hb : PE X b (tVar j)) : EV X (.Compare a [op] [b] pos) (f2m fop f j) := PE.imp (pe_cmpR o ha hb hm) fun _ _ _ h => t2m s h
theorem ec2nn {op : CmpOp} {i j : Nat} (o : OpR X (compareOp op) r) (s : Op2 X.K r fop) (hm : behindInMarks op b = false) (ha : PE X a (tVar i)) (hb : PE X b (tVar j)) : EV X (.Compare a [op] [b] pos) (f2nn fop i j) := PE.imp (pe_cmpR o ha hb hm) fun _ _ _ h => t2nn s h
theorem eix (ha : EV X a f) (hb : EV X b g) (hs : PlainIx b) : EV X (.Subscript a b pos) (f2 ixD f g) := PE.imp (pe_ix ix_seq ha hb hs) fun _ _ _ h => t2 o_ix h
theorem eixn {i : Nat} (ha : PE X a (tVar i)) (hb : EV X b g) (hs : PlainIx b) : EV X (.Subscript a b pos) (f2n ixD i g) := PE.imp (pe_ix ix_seq ha hb hs) fun _ _ _ h => t2n o_ix h
theorem eixm {j : Nat} (ha : EV X a f) (hb : PE X b (tVar j)) (hs : PlainIx b) : EV X (.Subscript a b pos) (f2m ixD f j) := PE.imp (pe_ix ix_seq ha hb hs) fun _ _ _ h => t2m o_ix h
theorem eixnn {i j : Nat} (ha : PE X a (tVar i)) (hb : PE X b (tVar j)) (hs : PlainIx b) : EV X (.Subscript a b pos) (f2nn ixD i j) := PE.imp (pe_ix ix_seq ha hb hs) fun _ _ _ h => t2nn o_ix h
end
theorem x_add {X : Cx} : OpR X (binaryOp .Add) (rAdd X.K) := op_add.or (op_add_str.or (op_catA.or op_catL))
theorem x_mul {X : Cx} : OpR X (binaryOp .Mult) (rI CMul2 fun i j => .int (i * j)) := by
  intro pins s σ H x y v u Q I rx ry h
  obtain ⟨i, j, e1, e2, c | c, q⟩ := h
  · exact op_mul pins s σ H x y v u Q I rx ry ⟨i, j, e1, e2, c, q⟩
  · exact op_mulW pins s σ H x y v u Q I rx ry ⟨i, j, e1, e2, c, q⟩
theorem x_eq {X : Cx} (hu : X.A.units + 64 < cLine) : OpR X (compareOp .Eq) (rEq2 X.K) := op_eq.or (op_eqD hu)
theorem x_ne {X : Cx} (hu : X.A.units + 64 < cLine) : OpR X (compareOp .NotEq) (rNe2 X.K) := op_ne.or (op_neD hu)
theorem x_lt {X : Cx} : OpR X (compareOp .Lt) (rCm (fun i j => decide (i < j)) fun a b => decide (a.cps.toList < b.cps.toList)) := op_lt.or op_lt_str
theorem x_le {X : Cx} : OpR X (compareOp .LtE) (rCm (fun i j => decide (i ≤ j)) fun a b => !decide (b.cps.toList < a.cps.toList)) := op_le.or op_le_str
theorem x_gt {X : Cx} : OpR X (compareOp .Gt) (rCm (fun i j => decide (j < i)) fun a b => decide (b.cps.toList < a.cps.toList)) := op_gt.or op_gt_str
theorem x_ge {X : Cx} : OpR X (compareOp .GtE) (rCm (fun i j => decide (j ≤ i)) fun a b => !decide (a.cps.toList < b.cps.toList)) := op_ge.or op_ge_str

/-! ### tests -/
abbrev Ft := En → Option (Bool × En)
def tT (K : PySem.W.Frag) (c : Ft) : TT := fun σ H Q => ∃ γ Hk b γ2, Ok K σ H Hk γ ∧ c γ = some (b, γ2) ∧ ∀ H2 Hk2, Go K σ H Hk γ σ H2 Hk2 γ2 → Q b H2
def ET (X : Cx) (e : Expr) (c : Ft) : Prop := PT X e (tT X.K c)
def EW (X : Cx) (e : Expr) (c : Ft) : Prop := PW X e (tT X.K c)
@[simp] def ofB (f : Fe) : Ft := fun γ => match f γ with
  | some (.bool b, γ2) => some (b, γ2)
  | _ => none
theorem ofB_I {K : PySem.W.Frag} {f : Fe} {σ : L2.St} {H : Hp} {Q : Bool → Hp → Prop} (h : tT K (ofB f) σ H Q) : tI K f σ H fun x H' => ∃ k, x = .bl k ∧ Q k H' := by
  obtain ⟨γ, Hk, b, γ2, o, e, q⟩ := h
  unfold ofB at e
  split at e <;> cases e
  rename_i ef
  refine ⟨γ, Hk, _, γ2, o, ef, fun v H2 Hk2 g r => ?_⟩
  cases r
  exact ⟨_, rfl, q H2 Hk2 g⟩
section
variable {X : Cx} {a b c : Expr} {rest : List Expr} {f g : Fe} {u v : Ft} {r : R2} {fop : D → D → Option D} {pos : Pos}
theorem et2 {op : CmpOp} (o : OpR X (compareOp op) r) (s : Op2 X.K r fop) (hm : behindInMarks op b = false) (ha : EV X a f) (hb : EV X b g) : ET X (.Compare a [op] [b] pos) (ofB (f2 fop f g)) := PT.imp (pt_cmpR o ha hb hm) fun _ _ _ h => t2 s (ofB_I h)
theorem et2n {op : CmpOp} {i : Nat} (o : OpR X (compareOp op) r) (s : Op2 X.K r fop) (hm : behindInMarks op b = false) (ha : PE X a (tVar i)) (hb : EV X b g) : ET X (.Compare a [op] [b] pos) (ofB (f2n fop i g)) := PT.imp (pt_cmpR o ha hb hm) fun _ _ _ h => t2n s (ofB_I h)
theorem et2m {op : CmpOp} {j : Nat} (o : OpR X (compareOp op) r) (s : Op2 X.K r fop) (hm : behindInMarks op b = false) (ha : EV X a f) (hb : PE X b (tVar j)) : ET X (.Compare a [op] [b] pos) (ofB (f2m fop f j)) := PT.imp (pt_cmpR o ha hb hm) fun _ _ _ h => t2m s (ofB_I h)
theorem et2nn {op : CmpOp} {i j : Nat} (o : OpR X (compareOp op) r) (s : Op2 X.K r fop) (hm : behindInMarks op b = false) (ha : PE X a (tVar i)) (hb : PE X b (tVar j)) : ET X (.Compare a [op] [b] pos) (ofB (f2nn fop i j)) := PT.imp (pt_cmpR o ha hb hm) fun _ _ _ h => t2nn s (ofB_I h)
/-- a value that is a bool, as a test -/
theorem et_val (h : EV X c f) (he : ∀ whole, isTrue c X.env whole = (do let v ← whole; standAt c.pos; holding [v] (truthy v)) := by intro _; rfl) : ET X c (ofB f) := PT.imp (pt_val h he) fun _ _ _ h => ofB_I h
@[simp] def cNot (u : Ft) : Ft := fun γ => match u γ with
  | some (b, γ2) => some (!b, γ2)
  | none => none
@[simp] def cAnd (u v : Ft) : Ft := fun γ => match u γ with
  | some (true, γ1) => v γ1
  | some (false, γ1) => some (false, γ1)
  | none => none
@[simp] def cOr (u v : Ft) : Ft := fun γ => match u γ with
  | some (false, γ1) => v γ1
  | some (true, γ1) => some (true, γ1)
  | none => none
theorem et_not (h : ET X a u) : ET X (.UnaryOp .Not a pos) (cNot u) := PT.imp (pt_not h) fun σ H Q ⟨γ, Hk, b, γ2, o, e, q⟩ => by
  unfold cNot at e
  split at e <;> cases e
  rename_i eu
  exact ⟨γ, Hk, _, γ2, o, eu, q⟩
theorem PW.imp {e : Expr} {t t' : TT} (h : PW X e t) (i : ∀ σ H Q, t' σ H Q → t σ H Q) : PW X e t' := ⟨fun w pins s σ H Q I q => h.run w pins s σ H Q I (i _ _ _ q)⟩
theorem and_imp' {K : PySem.W.Frag} {σ : L2.St} {H : Hp} {Q : Bool → Hp → Prop} (h : tT K (cAnd u v) σ H Q) : tAnd (tT K u) (tT K v) σ H Q := by
  obtain ⟨γ, Hk, b, γ2, o, e, q⟩ := h
  unfold cAnd at e
  split at e
  · rename_i γ1 eu
    exact ⟨γ, Hk, true, γ1, o, eu, fun H1 Hk1 g1 => iteT ⟨γ1, Hk1, b, γ2, g1.ok, e, fun H2 Hk2 g2 => q H2 Hk2 (g1.trans g2)⟩⟩
  · rename_i γ1 eu
    cases e
    exact ⟨γ, Hk, false, _, o, eu, fun H1 Hk1 g1 => iteF (q H1 Hk1 g1)⟩
  · cases e
theorem or_imp' {K : PySem.W.Frag} {σ : L2.St} {H : Hp} {Q : Bool → Hp → Prop} (h : tT K (cOr u v) σ H Q) : tOr (tT K u) (tT K v) σ H Q := by
  obtain ⟨γ, Hk, b, γ2, o, e, q⟩ := h
  unfold cOr at e
  split at e
  · rename_i γ1 eu
    exact ⟨γ, Hk, false, γ1, o, eu, fun H1 Hk1 g1 => iteF ⟨γ1, Hk1, b, γ2, g1.ok, e, fun H2 Hk2 g2 => q H2 Hk2 (g1.trans g2)⟩⟩
  · rename_i γ1 eu
    cases e
    exact ⟨γ, Hk, true, _, o, eu, fun H1 Hk1 g1 => iteT (q H1 Hk1 g1)⟩
  · cases e
theorem ew_and1 (h : ET X a u) : EW X (.BoolOp .And [a] pos) u := pw_and1 h
theorem ew_or1 (h : ET X a u) : EW X (.BoolOp .Or [a] pos) u := pw_or1 h
theorem ew_and (h : ET X a u) (hr : EW X (.BoolOp .And (b :: rest) pos) v) : EW X (.BoolOp .And (a :: b :: rest) pos) (cAnd u v) := PW.imp (pw_and h hr) fun _ _ _ h => and_imp' h
theorem ew_or (h : ET X a u) (hr : EW X (.BoolOp .Or (b :: rest) pos) v) : EW X (.BoolOp .Or (a :: b :: rest) pos) (cOr u v) := PW.imp (pw_or h hr) fun _ _ _ h => or_imp' h
theorem et_w (h : EW X c u) : ET X c u := h.pt
/-- and, or, not as values -/
@[simp] def fAnd (f g : Fe) : Fe := fun γ => match f γ with
  | some (.bool true, γ1) => g γ1
  | some (.bool false, γ1) => some (.bool false, γ1)
  | _ => none
@[simp] def fOr (f g : Fe) : Fe := fun γ => match f γ with
  | some (.bool false, γ1) => g γ1
  | some (.bool true, γ1) => some (.bool true, γ1)
  | _ => none
@[simp] def fNot (f : Fe) : Fe := fun γ => match f γ with
  | some (.bool b, γ1) => some (.bool (!b), γ1)
  | _ => none
theorem ev_one {op} (h : EV X a f) : EV X (.BoolOp op [a] pos) f := pe_one h
theorem ev_and (h : EV X a f) (hr : EV X (.BoolOp .And (b :: rest) pos) g) : EV X (.BoolOp .And (a :: b :: rest) pos) (fAnd f g) := PE.imp (pe_and h hr) fun σ H Q ⟨γ, Hk, d, γ2, o, e, q⟩ => by
  unfold fAnd at e
  split at e
  · rename_i γ1 ef
    exact ⟨γ, Hk, _, γ1, o, ef, fun w H1 Hk1 g1 r1 => by cases r1; exact ⟨true, rfl, iteT ⟨γ1, Hk1, d, γ2, g1.ok, e, fun z H2 Hk2 g2 r2 => q z H2 Hk2 (g1.trans g2) r2⟩⟩⟩
  · rename_i γ1 ef
    cases e
    exact ⟨γ, Hk, _, _, o, ef, fun w H1 Hk1 g1 r1 => by cases r1; exact ⟨false, rfl, iteF (q _ H1 Hk1 g1 (.bl _))⟩⟩
  · cases e
theorem ev_or (h : EV X a f) (hr : EV X (.BoolOp .Or (b :: rest) pos) g) : EV X (.BoolOp .Or (a :: b :: rest) pos) (fOr f g) := PE.imp (pe_or h hr) fun σ H Q ⟨γ, Hk, d, γ2, o, e, q⟩ => by
  unfold fOr at e
  split at e
  · rename_i γ1 ef
    exact ⟨γ, Hk, _, γ1, o, ef, fun w H1 Hk1 g1 r1 => by cases r1; exact ⟨false, rfl, iteF ⟨γ1, Hk1, d, γ2, g1.ok, e, fun z H2 Hk2 g2 r2 => q z H2 Hk2 (g1.trans g2) r2⟩⟩⟩
  · rename_i γ1 ef
    cases e
    exact ⟨γ, Hk, _, _, o, ef, fun w H1 Hk1 g1 r1 => by cases r1; exact ⟨true, rfl, iteT (q _ H1 Hk1 g1 (.bl _))⟩⟩
  · cases e
theorem ev_not (h : EV X a f) : EV X (.UnaryOp .Not a pos) (fNot f) := PE.imp (pe_not h) fun σ H Q ⟨γ, Hk, d, γ2, o, e, q⟩ => by
  unfold fNot at e
  split at e <;> cases e
  rename_i ef
  exact ⟨γ, Hk, _, _, o, ef, fun w H1 Hk1 g1 r1 => by cases r1; exact ⟨_, rfl, q _ H1 Hk1 g1 (.bl _)⟩⟩
@[simp] def fNeg (f : Fe) : Fe := fun γ => match f γ with
  | some (.int i, γ1) => some (.int (-i), γ1)
  | _ => none
theorem ev_neg (h : EV X a f) : EV X (.UnaryOp .USub a pos) (fNeg f) := PE.imp (pe_un un_neg h) fun σ H Q ⟨γ, Hk, d, γ2, o, e, q⟩ => by
  unfold fNeg at e
  split at e <;> cases e
  rename_i ef
  exact ⟨γ, Hk, _, _, o, ef, fun w H1 Hk1 g1 r1 => by cases r1; exact ⟨_, rfl, q _ H1 Hk1 g1 (.int _)⟩⟩
@[simp] def fIf (c : Ft) (f g : Fe) : Fe := fun γ => match c γ with
  | some (true, γ1) => f γ1
  | some (false, γ1) => g γ1
  | none => none
theorem ev_if (hc : ET X c u) (ha : EV X a f) (hb : EV X b g) : EV X (.IfExp c a b pos) (fIf u f g) := PE.imp (pe_ifExp hc ha hb) fun σ H Q ⟨γ, Hk, d, γ2, o, e, q⟩ => by
  unfold fIf at e
  split at e
  · rename_i γ1 eu
    exact ⟨γ, Hk, true, γ1, o, eu, fun H1 Hk1 g1 => iteT ⟨γ1, Hk1, d, γ2, g1.ok, e, fun z H2 Hk2 g2 r2 => q z H2 Hk2 (g1.trans g2) r2⟩⟩
  · rename_i γ1 eu
    exact ⟨γ, Hk, false, γ1, o, eu, fun H1 Hk1 g1 => iteF ⟨γ1, Hk1, d, γ2, g1.ok, e, fun z H2 Hk2 g2 r2 => q z H2 Hk2 (g1.trans g2) r2⟩⟩
  · cases e
end

/-! ### several values -/
abbrev Fa := En → Option (List D × En)
def tAd (K : PySem.W.Frag) (fa : Fa) : TA := fun σ H Q => ∃ γ Hk ds γ2, Ok K σ H Hk γ ∧ fa γ = some (ds, γ2) ∧ ∀ vs H2 Hk2, Go K σ H Hk γ σ H2 Hk2 γ2 → DpAll K Hk2 vs ds → Q vs H2
def EA (X : Cx) (es : List Expr) (fa : Fa) : Prop := PA X es (tAd X.K fa)
@[simp] def aNil : Fa := fun γ => some ([], γ)
@[simp] def aCons (f : Fe) (fa : Fa) : Fa := fun γ => match f γ with
  | some (d, γ1) => match fa γ1 with
    | some (ds, γ2) => some (d :: ds, γ2)
    | none => none
  | none => none
section
variable {X : Cx} {e a : Expr} {es : List Expr} {f : Fe} {fa : Fa} {pos : Pos}
theorem ea_nil : EA X [] aNil := PA.imp pa_nil fun σ H Q ⟨γ, Hk, ds, γ2, o, e, q⟩ => by
  cases e
  exact q [] H Hk (Go.refl o) .nil
theorem ea_cons (h : EV X e f) (hr : EA X es fa) (hs : starEach (e :: es) X.env = (false, eval e X.env) :: starEach es X.env := by rfl) : EA X (e :: es) (aCons f fa) := PA.imp (pa_cons h hr hs) fun σ H Q ⟨γ, Hk, ds, γ2, o, ee, q⟩ => by
  unfold aCons at ee
  split at ee
  · rename_i d γ1 ef
    split at ee <;> cases ee
    rename_i ds' efa
    exact ⟨γ, Hk, d, γ1, o, ef, fun v H1 Hk1 g1 r1 => ⟨γ1, Hk1, ds', γ2, g1.ok, efa, fun vs H2 Hk2 g2 r2 => q _ H2 Hk2 (g1.trans g2) (.cons (dp_mono g2.kk r1) r2)⟩⟩
  · cases ee
@[simp] def fTup (fa : Fa) : Fe := fun γ => match fa γ with
  | some (ds, γ2) => if okN ds.length then some (.tuple ds, γ2) else none
  | none => none
theorem ev_tup {x1} (h : EA X es fa) : EV X (.Tuple es x1 pos) (fTup fa) := PE.imp (pe_tup h) fun σ H Q ⟨γ, Hk, d, γ2, o, ee, q⟩ => by
  unfold fTup at ee
  split at ee
  · rename_i ds γ1 efa
    split at ee <;> cases ee
    rename_i c
    refine ⟨γ, Hk, ds, γ2, o, efa, fun vs H1 Hk1 g1 r1 => ⟨by rw [dps_len r1]; exact okN_line c, fun p hp => ?_⟩⟩
    have g2 : Grow H1 Hk1 (upd H1 p (.tup vs)) (upd Hk1 p (.tup vs)) := Grow.new g1.ok.sub hp
    exact q _ _ _ (g1.trans (g1.ok.go g2)) (.tup (SqT.of upd_same) (dps_mono g2.kk r1))
  · cases ee
/-- a new list -/
def tL (K : PySem.W.Frag) (fl : Fa) : TE := fun σ H Q => ∃ γ Hk ds γ2, Ok K σ H Hk γ ∧ fl γ = some (ds, γ2) ∧ ∀ p vs H2 Hk2, Go K σ H Hk γ σ H2 Hk2 γ2 → H2 p = none → DpAll K Hk2 vs ds → Q (.ref p) (upd H2 p (.lst vs))
def EL (X : Cx) (e : Expr) (fl : Fa) : Prop := PE X e (tL X.K fl)
@[simp] def fL (fl : Fa) : Fe := fun γ => match fl γ with
  | some (ds, γ2) => some (.list ds, γ2)
  | none => none
theorem ev_L (h : EL X e fa) : EV X e (fL fa) := PE.imp h fun σ H Q ⟨γ, Hk, d, γ2, o, ee, q⟩ => by
  unfold fL at ee
  split at ee <;> cases ee
  rename_i ds efa
  refine ⟨γ, Hk, ds, γ2, o, efa, fun p vs H2 Hk2 g hp r => ?_⟩
  have g2 : Grow H2 Hk2 (upd H2 p (.lst vs)) (upd Hk2 p (.lst vs)) := Grow.new g.ok.sub hp
  exact q _ _ _ (g.trans (g.ok.go g2)) (.lst (SqL.of upd_same) (dps_mono g2.kk r))
@[simp] def lDisp (fa : Fa) : Fa := fun γ => match fa γ with
  | some (ds, γ2) => if okN ds.length then some (ds, γ2) else none
  | none => none
theorem el_disp (h : EA X es fa) : EL X (.List es pos) (lDisp fa) := PE.imp (pe_lst h) fun σ H Q ⟨γ, Hk, d, γ2, o, ee, q⟩ => by
  unfold lDisp at ee
  split at ee
  · rename_i ds γ1 efa
    split at ee <;> cases ee
    rename_i c
    exact ⟨γ, Hk, _, γ2, o, efa, fun vs H1 Hk1 g1 r1 => ⟨by rw [dps_len r1]; exact okN_line c, fun p hp => q p vs H1 Hk1 g1 hp r1⟩⟩
  · cases ee

/-! ### built-in functions of one value -/
def Op1 (K : PySem.W.Frag) (r : V → Hp → VK → Prop) (op : D → Option D) : Prop :=
  ∀ H Hk x dx dz (Q : VK), Same Hk H → Vw K H Hk x dx → op dx = some dz → (∀ v H2 Hk2, Grow H Hk H2 Hk2 → Dp K Hk2 v dz → Q v H2) → r x H Q
@[simp] def f1 (op : D → Option D) (f : Fe) : Fe := fun γ => match f γ with
  | some (x, γ1) => match op x with
    | some z => some (z, γ1)
    | none => none
  | none => none
@[simp] def f1n (op : D → Option D) (i : Nat) : Fe := fun γ => match view γ i with
  | some x => match op x with
    | some z => some (z, γ)
    | none => none
  | none => none
theorem t1 {K : PySem.W.Frag} {r : List V → Hp → VK → Prop} {op : D → Option D} {σ : L2.St} {H : Hp} {Q : VK} (o : Op1 K (fun x => r [x]) op) (h : tI K (f1 op f) σ H Q) : tCB r (tCons (tI K f) tNil) σ H Q := by
  obtain ⟨γ, Hk, d, γ2, ok, e, q⟩ := h
  unfold f1 at e
  split at e
  · rename_i x γ1 ef
    split at e <;> cases e
    rename_i eo
    exact ⟨γ, Hk, x, _, ok, ef, fun v H1 Hk1 g1 r1 => o H1 Hk1 v x d Q g1.ok.sub (.inl r1) eo fun w H3 Hk3 g3 r3 => q w H3 Hk3 (g1.trans (g1.ok.go g3)) r3⟩
  · cases e
theorem t1n {K : PySem.W.Frag} {r : List V → Hp → VK → Prop} {op : D → Option D} {σ : L2.St} {H : Hp} {Q : VK} {i : Nat} (o : Op1 K (fun x => r [x]) op) (h : tI K (f1n op i) σ H Q) : tCB r (tCons (tVar i) tNil) σ H Q := by
  obtain ⟨γ, Hk, d, γ2, ok, e, q⟩ := h
  unfold f1n at e
  split at e
  · rename_i x ev
    split at e <;> cases e
    rename_i eo
    obtain ⟨v, e1, w⟩ := ok.view ev
    exact ⟨v, e1, o H Hk v x d Q ok.sub w eo fun w H3 Hk3 g3 r3 => q w H3 Hk3 (ok.go g3) r3⟩
  · cases e
@[simp] def lenD : D → Option D
  | .list ds => some (.int ds.length)
  | .tuple ds => some (.int ds.length)
  | .str z => if okN z.length then some (.int z.length) else none
  | _ => none
@[simp] def intD : D → Option D
  | .int i => some (.int i)
  | .bool b => some (.int (if b then 1 else 0))
  | _ => none
@[simp] def absD : D → Option D
  | .int i => some (.int (if i < 0 then -i else i))
  | _ => none
@[simp] def tupleD : D → Option D
  | .list ds => some (.tuple ds)
  | .tuple ds => some (.tuple ds)
  | _ => none
variable {K : PySem.W.Frag}
abbrev rLen (K : PySem.W.Frag) : List V → Hp → VK → Prop := fun xs H Q => (∃ p ys, xs = [.ref p] ∧ (SqL K H p ys ∨ SqT K H p ys) ∧ Q (.int ys.length) H) ∨ ∃ x n, xs = [x] ∧ LenV K x H n ∧ Q (.int n) H
theorem o_len : Op1 K (fun x => rLen K [x]) lenD := by
  intro H Hk x dx dz Q s vx e q
  unfold lenD at e
  split at e
  · cases e
    obtain ⟨p, vs, rfl, sp, ap⟩ := vx.lst s
    exact .inl ⟨p, vs, rfl, .inl sp, by rw [dps_len ap]; exact q _ H Hk (Grow.refl s) (.int _)⟩
  · cases e
    obtain ⟨p, vs, rfl, sp, ap⟩ := vx.tup s
    exact .inl ⟨p, vs, rfl, .inr sp, by rw [dps_len ap]; exact q _ H Hk (Grow.refl s) (.int _)⟩
  · split at e <;> cases e
    rename_i c
    cases vx.str
    exact .inr ⟨_, _, rfl, ⟨okN_line c, rfl⟩, q _ H Hk (Grow.refl s) (.int _)⟩
  · cases e
theorem o_int : Op1 K (fun x H Q => (fun xs H Q => (∃ i, xs = [V.int i] ∧ Q (.int i) H) ∨ ∃ k, xs = [V.bl k] ∧ Q (.int (if k then 1 else 0)) H) [x] H Q) intD := by
  intro H Hk x dx dz Q s vx e q
  unfold intD at e
  split at e <;> cases e
  · cases vx.int
    exact .inl ⟨_, rfl, q _ H Hk (Grow.refl s) (.int _)⟩
  · cases vx.bl
    exact .inr ⟨_, rfl, q _ H Hk (Grow.refl s) (.int _)⟩
theorem o_abs : Op1 K (fun x H Q => (fun xs H Q => ∃ i, xs = [V.int i] ∧ Q (.int (if i < 0 then -i else i)) H) [x] H Q) absD := by
  intro H Hk x dx dz Q s vx e q
  unfold absD at e
  split at e <;> cases e
  cases vx.int
  exact ⟨_, rfl, q _ H Hk (Grow.refl s) (.int _)⟩
theorem o_tuple : Op1 K (fun x H Q => (fun xs H Q => ∃ p ys, xs = [V.ref p] ∧ ((SqL K H p ys ∧ ∀ l, H l = none → Q (.ref l) (upd H l (.tup ys))) ∨ (SqT K H p ys ∧ Q (.ref p) H))) [x] H Q) tupleD := by
  intro H Hk x dx dz Q s vx e q
  unfold tupleD at e
  split at e <;> cases e
  · obtain ⟨p, vs, rfl, sp, ap⟩ := vx.lst s
    refine ⟨p, vs, rfl, .inl ⟨sp, fun l hl => ?_⟩⟩
    have g : Grow H Hk (upd H l (.tup vs)) (upd Hk l (.tup vs)) := Grow.new s hl
    exact q _ _ _ g (.tup (SqT.of upd_same) (dps_mono g.kk ap))
  · rcases vx with vx | ⟨_, _, _, _, z, _⟩
    · cases vx with
      | tup h ap => exact ⟨_, _, rfl, .inr ⟨sqt_mono s h, q _ H Hk (Grow.refl s) (.tup h ap)⟩⟩
    · cases z
/-- f(e), f a built-in function, a built-in type -/
theorem ev_callB {x : Str} {id : String} {p : Pos} {r : List V → Hp → VK → Prop} {op : D → Option D} (o : Op1 X.K (fun x => r [x]) op) (hc : CallR X (.builtin id) r) (hm : X.mg x = none) (hg : Gl X x) (hv : bootBuiltins x = some (.builtin id)) (ha : EV X a f)
    (hn : x ≠ "__name__" := by decide) (hdb : (x == ("__debug__" : Str)) = false := by decide) (he : starEach [a] X.env = (false, eval a X.env) :: starEach [] X.env := by rfl) (hpl : (backTo pos (starEach [] X.env)).any (·.1) = false := by rfl) :
    EV X (.Call (.Name x p) [a] [] pos) (f1 op f) := PE.imp (pe_callB hc hg hm hv (pa_cons ha pa_nil he) hn hdb he hpl) fun _ _ _ h => t1 o h
theorem ev_callBn {x : Str} {id : String} {p : Pos} {i : Nat} {r : List V → Hp → VK → Prop} {op : D → Option D} (o : Op1 X.K (fun x => r [x]) op) (hc : CallR X (.builtin id) r) (hm : X.mg x = none) (hg : Gl X x) (hv : bootBuiltins x = some (.builtin id)) (ha : PE X a (tVar i))
    (hn : x ≠ "__name__" := by decide) (hdb : (x == ("__debug__" : Str)) = false := by decide) (he : starEach [a] X.env = (false, eval a X.env) :: starEach [] X.env := by rfl) (hpl : (backTo pos (starEach [] X.env)).any (·.1) = false := by rfl) :
    EV X (.Call (.Name x p) [a] [] pos) (f1n op i) := PE.imp (pe_callB hc hg hm hv (pa_cons ha pa_nil he) hn hdb he hpl) fun _ _ _ h => t1n o h
theorem ev_callT {x : Str} {id : String} {p : Pos} {r : List V → Hp → VK → Prop} {op : D → Option D} (o : Op1 X.K (fun x => r [x]) op) (hc : CallR X (.type id) r) (hm : X.mg x = none) (hg : Gl X x) (hv : bootBuiltins x = some (.type id)) (ha : EV X a f)
    (hn : x ≠ "__name__" := by decide) (hdb : (x == ("__debug__" : Str)) = false := by decide) (he : starEach [a] X.env = (false, eval a X.env) :: starEach [] X.env := by rfl) (hpl : (backTo pos (starEach [] X.env)).any (·.1) = false := by rfl) :
    EV X (.Call (.Name x p) [a] [] pos) (f1 op f) := PE.imp (pe_callTy hc hg hm hv (pa_cons ha pa_nil he) hn hdb he hpl) fun _ _ _ h => t1 o h
theorem ev_callTn {x : Str} {id : String} {p : Pos} {i : Nat} {r : List V → Hp → VK → Prop} {op : D → Option D} (o : Op1 X.K (fun x => r [x]) op) (hc : CallR X (.type id) r) (hm : X.mg x = none) (hg : Gl X x) (hv : bootBuiltins x = some (.type id)) (ha : PE X a (tVar i))
    (hn : x ≠ "__name__" := by decide) (hdb : (x == ("__debug__" : Str)) = false := by decide) (he : starEach [a] X.env = (false, eval a X.env) :: starEach [] X.env := by rfl) (hpl : (backTo pos (starEach [] X.env)).any (·.1) = false := by rfl) :
    EV X (.Call (.Name x p) [a] [] pos) (f1n op i) := PE.imp (pe_callTy hc hg hm hv (pa_cons ha pa_nil he) hn hdb he hpl) fun _ _ _ h => t1n o h
theorem x_len : CallR X (.builtin "len") (rLen X.K) := call_len_seq.or call_len
/-- list(e) -/
@[simp] def listD : D → Option (List D)
  | .list ds => some ds
  | .tuple ds => some ds
  | _ => none
@[simp] def lOf (f : Fe) : Fa := fun γ => match f γ with
  | some (x, γ1) => match listD x with
    | some z => some (z, γ1)
    | none => none
  | none => none
@[simp] def lOfn (i : Nat) : Fa := fun γ => match view γ i with
  | some x => match listD x with
    | some z => some (z, γ)
    | none => none
  | none => none
theorem listD_vw {H Hk : Hp} {v : V} {d : D} {ds : List D} (s : Same Hk H) (h : Vw K H Hk v d) (e : listD d = some ds) : ∃ p vs, v = .ref p ∧ (SqL K H p vs ∨ SqT K H p vs) ∧ DpAll K Hk vs ds := by
  unfold listD at e
  split at e <;> cases e
  · obtain ⟨p, vs, h1, h2, h3⟩ := h.lst s
    exact ⟨p, vs, h1, .inl h2, h3⟩
  · obtain ⟨p, vs, h1, h2, h3⟩ := h.tup s
    exact ⟨p, vs, h1, .inr h2, h3⟩
theorem el_list {p : Pos} (hm : X.mg "list" = none) (hg : Gl X "list") (ha : EV X a f) (he : starEach [a] X.env = (false, eval a X.env) :: starEach [] X.env := by rfl) (hpl : (backTo pos (starEach [] X.env)).any (·.1) = false := by rfl) :
    EL X (.Call (.Name "list" p) [a] [] pos) (lOf f) := PE.imp (pe_callTy call_list_of hg hm (by decide +kernel) (pa_cons ha pa_nil he) (he := he) (hpl := hpl)) fun σ H Q ⟨γ, Hk, d, γ2, o, ee, q⟩ => by
  unfold lOf at ee
  split at ee
  · rename_i x γ1 ef
    split at ee <;> cases ee
    rename_i el
    refine ⟨γ, Hk, x, γ2, o, ef, fun v H1 Hk1 g1 r1 => ?_⟩
    obtain ⟨t, vs, rfl, h1, h2⟩ := listD_vw g1.ok.sub (.inl r1) el
    exact ⟨t, vs, rfl, h1, fun l hl => q l vs H1 Hk1 g1 hl h2⟩
  · cases ee
theorem el_listn {p : Pos} {i : Nat} (hm : X.mg "list" = none) (hg : Gl X "list") (ha : PE X a (tVar i)) (he : starEach [a] X.env = (false, eval a X.env) :: starEach [] X.env := by rfl) (hpl : (backTo pos (starEach [] X.env)).any (·.1) = false := by rfl) :
    EL X (.Call (.Name "list" p) [a] [] pos) (lOfn i) := PE.imp (pe_callTy call_list_of hg hm (by decide +kernel) (pa_cons ha pa_nil he) (he := he) (hpl := hpl)) fun σ H Q ⟨γ, Hk, d, γ2, o, ee, q⟩ => by
  unfold lOfn at ee
  split at ee
  · rename_i x ev
    split at ee <;> cases ee
    rename_i el
    obtain ⟨v, e1, w⟩ := o.view ev
    obtain ⟨t, vs, rfl, h1, h2⟩ := listD_vw o.sub w el
    exact ⟨_, e1, t, vs, rfl, h1, fun l hl => q l vs H Hk (Go.refl o) hl h2⟩
  · cases ee
end

/-! ### slices -/
def cutD {α : Type} (xs : List α) (lo hi : Option Int) : List α := (xs.drop (HT.sIx xs.length 0 lo)).take (HT.sIx xs.length xs.length hi - HT.sIx xs.length 0 lo)
theorem cutD_whole {α : Type} {xs : List α} {lo hi : Option Int} (h : HT.sIx xs.length 0 lo = 0 ∧ HT.sIx xs.length xs.length hi = xs.length) : cutD xs lo hi = xs := by
  unfold cutD
  rw [h.1, h.2]
  simp
abbrev Fp := En → Option (Option Int × En)
def tPp (K : PySem.W.Frag) (fp : Fp) : TO := fun σ H Q => ∃ γ Hk o γ2, Ok K σ H Hk γ ∧ fp γ = some (o, γ2) ∧ ∀ H2 Hk2, Go K σ H Hk γ σ H2 Hk2 γ2 → Q o H2
def EP' (X : Cx) (e : Option Expr) (fp : Fp) : Prop := PO X e (tPp X.K fp)
@[simp] def pNo : Fp := fun γ => some (none, γ)
@[simp] def pOf (f : Fe) : Fp := fun γ => match f γ with
  | some (.int i, γ1) => some (some i, γ1)
  | _ => none
section
variable {X : Cx} {e : Expr} {es : List Expr} {f : Fe} {lo hi : Option Expr} {fl fh : Fp} {pos p2 : Pos} {K : PySem.W.Frag}
theorem PO.imp {e : Option Expr} {t t' : TO} (h : PO X e t) (i : ∀ σ H Q, t' σ H Q → t σ H Q) : PO X e t' := ⟨fun pins s σ H Q I q => h.run pins s σ H Q I (i _ _ _ q)⟩
theorem ep_no : EP' X none pNo := PO.imp po_none fun σ H Q ⟨γ, Hk, d, γ2, o, ee, q⟩ => by
  cases ee
  exact q H Hk (Go.refl o)
theorem ep_of (h : EV X e f) : EP' X (some e) (pOf f) := PO.imp (po_some h) fun σ H Q ⟨γ, Hk, d, γ2, o, ee, q⟩ => by
  unfold pOf at ee
  split at ee <;> cases ee
  rename_i ef
  exact ⟨γ, Hk, _, _, o, ef, fun v H1 Hk1 g1 r1 => by cases r1; exact ⟨_, rfl, q H1 Hk1 g1⟩⟩
@[simp] def slD : D → Option Int → Option Int → Option D
  | .tuple ds, lo, hi => some (.tuple (cutD ds lo hi))
  | .list ds, lo, hi => some (.list (cutD ds lo hi))
  | .str z, lo, hi => if okN z.length then some (.str (cutS z lo hi)) else none
  | _, _, _ => none
@[simp] def fSl (f : Fe) (fl fh : Fp) : Fe := fun γ => match f γ with
  | some (x, γ1) => match fl γ1 with
    | some (lo, γ2) => match fh γ2 with
      | some (hi, γ3) => match slD x lo hi with
        | some z => some (z, γ3)
        | none => none
      | none => none
    | none => none
  | none => none
@[simp] def fSln (i : Nat) (fl fh : Fp) : Fe := fun γ => match view γ i with
  | some _ => match fl γ with
    | some (lo, γ2) => match fh γ2 with
      | some (hi, γ3) => match view γ3 i with
        | some x => match slD x lo hi with
          | some z => some (z, γ3)
          | none => none
        | none => none
      | none => none
    | none => none
  | none => none
abbrev rSl (K : PySem.W.Frag) : V → Option Int → Option Int → Hp → VK → Prop := fun x lo hi H Q => rSlA K x lo hi H Q ∨ rSlL K x lo hi H Q ∨ rSlS x lo hi H Q
theorem o_sl {H Hk : Hp} {x : V} {dx dz : D} {a b : Option Int} {Q : VK} (s : Same Hk H) (vx : Vw K H Hk x dx) (e : slD dx a b = some dz) (q : ∀ v H2 Hk2, Grow H Hk H2 Hk2 → Dp K Hk2 v dz → Q v H2) : rSl K x a b H Q := by
  unfold slD at e
  split at e
  · cases e
    obtain ⟨p, vs, rfl, sp, ap⟩ := vx.tup s
    have hl := dps_len ap
    refine .inl ⟨p, vs, rfl, sp, fun hw => ?_, fun hw l hl' => ?_⟩
    · rw [hl] at hw
      rw [cutD_whole hw] at q
      rcases vx with vx | ⟨_, _, _, _, z, _⟩
      · exact q _ H Hk (Grow.refl s) vx
      · cases z
    · have g : Grow H Hk (upd H l (.tup (cutV vs a b))) (upd Hk l (.tup (cutV vs a b))) := Grow.new s hl'
      refine q _ _ _ g (.tup (SqT.of upd_same) (dps_mono g.kk ?_))
      unfold cutV cutD
      rw [hl]
      exact dps_take _ (dps_drop _ ap)
  · cases e
    obtain ⟨p, vs, rfl, sp, ap⟩ := vx.lst s
    have hl := dps_len ap
    refine .inr (.inl ⟨p, vs, rfl, sp, fun l hl' => ?_⟩)
    have g : Grow H Hk (upd H l (.lst (cutV vs a b))) (upd Hk l (.lst (cutV vs a b))) := Grow.new s hl'
    refine q _ _ _ g (.lst (SqL.of upd_same) (dps_mono g.kk ?_))
    unfold cutV cutD
    rw [hl]
    exact dps_take _ (dps_drop _ ap)
  · split at e <;> cases e
    rename_i c
    cases vx.str
    exact .inr (.inr ⟨_, rfl, okN_line c, q _ H Hk (Grow.refl s) (.str _)⟩)
  · cases e
theorem x_sl : SlR X (rSl X.K) := sl_tupA.or (sl_list.or sl_str)
theorem ev_sl (he : EV X e f) (hl : EP' X lo fl) (hh : EP' X hi fh) : EV X (.Subscript e (.Slice lo hi none p2) pos) (fSl f fl fh) := PE.imp (pe_slice x_sl he hl hh) fun σ H Q ⟨γ, Hk, d, γ2, o, ee, q⟩ => by
  unfold fSl at ee
  split at ee
  · rename_i x γ1 ef
    split at ee
    · rename_i a γa ea
      split at ee
      · rename_i b γb eb
        split at ee <;> cases ee
        rename_i es
        exact ⟨γ, Hk, x, γ1, o, ef, fun v H1 Hk1 g1 r1 => ⟨γ1, Hk1, a, γa, g1.ok, ea, fun H2 Hk2 g2 => ⟨γa, Hk2, b, _, g2.ok, eb, fun H3 Hk3 g3 =>
          o_sl g3.ok.sub (.inl (dp_mono (g2.kk.trans g3.kk) r1)) es fun w H4 Hk4 g4 r4 => q w H4 Hk4 (((g1.trans g2).trans g3).trans (g3.ok.go g4)) r4⟩⟩⟩
      · cases ee
    · cases ee
  · cases ee
theorem ev_sln {i : Nat} (he : PE X e (tVar i)) (hl : EP' X lo fl) (hh : EP' X hi fh) : EV X (.Subscript e (.Slice lo hi none p2) pos) (fSln i fl fh) := PE.imp (pe_slice x_sl he hl hh) fun σ H Q ⟨γ, Hk, d, γ2, o, ee, q⟩ => by
  unfold fSln at ee
  split at ee
  · rename_i x0 ev0
    split at ee
    · rename_i a γa ea
      split at ee
      · rename_i b γb eb
        split at ee
        · rename_i x ev
          split at ee <;> cases ee
          rename_i es
          obtain ⟨v, e1, _⟩ := o.view ev0
          refine ⟨v, e1, γ, Hk, a, γa, o, ea, fun H2 Hk2 g2 => ⟨γa, Hk2, b, _, g2.ok, eb, fun H3 Hk3 g3 => ?_⟩⟩
          obtain ⟨v', e2, w⟩ := g3.ok.view ev
          rw [e1] at e2; cases e2
          exact o_sl g3.ok.sub w es fun w H4 Hk4 g4 r4 => q w H4 Hk4 ((g2.trans g3).trans (g3.ok.go g4)) r4
        · cases ee
      · cases ee
    · cases ee
  · cases ee
end
end DN
namespace DN
open PySem PySem.Spec PyProof.Rows L2
/-! ### storing -/
def NoPin (γ : En) (i : Nat) : Prop := ∀ ds, gt γ i ≠ some (.own true ds)
/-- only the first slot can be pinned -/
@[simp] def pinB (γ : En) : Nat → Bool
  | 0 => match gt γ 0 with
    | some (.own true _) => true
    | _ => false
  | _ + 1 => false
theorem noPin_of {K : PySem.W.Frag} {σ : L2.St} {H Hk : Hp} {γ : En} (o : Ok K σ H Hk γ) {i : Nat} (h : pinB γ i = false) : NoPin γ i := fun ds e => by
  obtain rfl := o.pin i ds e
  unfold pinB at h
  rw [e] at h
  cases h
theorem set_here {σ : L2.St} {γ : En} {i : Nat} (l : σ.length = γ.length) (h : i < γ.length) (x : Option V) : (σ.set i x)[i]? = some x := by
  rw [List.getElem?_set_self (by rw [l]; exact h)]
theorem set_there {σ : L2.St} {i j : Nat} (h : i ≠ j) (x : Option V) : (σ.set i x)[j]? = σ[j]? := List.getElem?_set_ne h
section
variable {K : PySem.W.Frag} {σ : L2.St} {H Hk : Hp} {γ : En} {i : Nat}
theorem Ok.setDat {v : V} {d : D} (o : Ok K σ H Hk γ) (r : Dp K Hk v d) (np : NoPin γ i) : Go K σ H Hk γ (σ.set i (some v)) H Hk (γ.set i (some (.dat d))) := by
  have ne : ∀ {j : Nat} {e : Ent}, gt γ j = some e → ¬ (i = j ∧ i < γ.length) → i ≠ j := fun h n z => n ⟨z, by rw [z]; exact gt_lt h⟩
  refine ⟨⟨by rw [List.length_set, List.length_set]; exact o.len, o.sub, fun j d' e => ?_, fun j b ds e => ?_, fun j ds e => ?_, fun j k b c ds es p ej ek => ?_, fun j kvs e => ?_⟩, Same.refl _, fun a u h n => (by rw [h] at n; cases n), fun _ _ h _ => h, fun a h => ?_, fun j ds h => ?_⟩
  · rw [gt_set] at e
    split at e
    · rename_i c
      cases e
      refine ⟨v, ?_, r⟩
      rw [← c.1]
      exact set_here o.len c.2 _
    · rename_i c
      obtain ⟨v', e', r'⟩ := o.dat j d' e
      exact ⟨v', by rw [set_there (ne e c)]; exact e', r'⟩
  · rw [gt_set] at e
    split at e
    · cases e
    · rename_i c
      obtain ⟨p, vs, e', q⟩ := o.own j b ds e
      exact ⟨p, vs, by rw [set_there (ne e c)]; exact e', q⟩
  · rw [gt_set] at e
    split at e
    · cases e
    · exact o.pin _ _ e
  · rw [gt_set] at ej ek
    split at ej
    · cases ej
    · rename_i cj
      split at ek
      · cases ek
      · rename_i ck
        intro h1 h2
        rw [set_there (ne ej cj)] at h1
        rw [set_there (ne ek ck)] at h2
        exact o.sep _ _ _ _ _ _ _ ej ek h1 h2
  · rw [gt_set] at e
    split at e
    · cases e
    · rename_i c
      obtain ⟨v', e', r'⟩ := o.tab j kvs e
      exact ⟨v', by rw [set_there (ne e c)]; exact e', r'⟩
  · obtain ⟨j, b, ds, e, h1⟩ := h
    rw [gt_set] at e
    split at e
    · cases e
    · rename_i c
      rw [set_there (ne e c)] at h1
      exact .inl ⟨j, b, ds, e, h1⟩
  · have hij : i ≠ j := fun z => np ds (by rw [z]; exact h)
    refine ⟨set_there hij _, ds, ?_⟩
    rw [gt_set, if_neg (fun c => hij c.1)]
    exact h
theorem Ok.setOwn {p : Addr} {vs : List V} {ds : List D} (o : Ok K σ H Hk γ) (hp : H p = none) (r : DpAll K Hk vs ds) (np : NoPin γ i) :
    Go K σ H Hk γ (σ.set i (some (.ref p))) (upd H p (.lst vs)) Hk (γ.set i (some (.own false ds))) := by
  have ne : ∀ {j : Nat} {e : Ent}, gt γ j = some e → ¬ (i = j ∧ i < γ.length) → i ≠ j := fun h n z => n ⟨z, by rw [z]; exact gt_lt h⟩
  have hk : Hk p = none := o.sub.free hp
  refine ⟨⟨by rw [List.length_set, List.length_set]; exact o.len, o.sub.trans (same_upd hp), fun j d' e => ?_, fun j b es e => ?_, fun j es e => ?_, fun j k b c es fs q ej ek h1 h2 => ?_, fun j kvs e => ?_⟩, Same.refl _, fun a u h n => (by rw [h] at n; cases n), fun _ _ h _ => same_upd hp _ _ h, fun a h => ?_, fun j es h => ?_⟩
  · rw [gt_set] at e
    split at e
    · cases e
    · rename_i c
      obtain ⟨v', e', r'⟩ := o.dat j d' e
      exact ⟨v', by rw [set_there (ne e c)]; exact e', r'⟩
  · rw [gt_set] at e
    split at e
    · rename_i c
      cases e
      exact ⟨p, vs, by rw [← c.1]; exact set_here o.len c.2 _, upd_same, hk, r⟩
    · rename_i c
      obtain ⟨q, ws, e', hq, hqn, ra⟩ := o.own j b es e
      refine ⟨q, ws, by rw [set_there (ne e c)]; exact e', ?_, hqn, ra⟩
      exact same_upd hp _ _ hq
  · rw [gt_set] at e
    split at e
    · cases e
    · exact o.pin _ _ e
  · have old : ∀ {j : Nat} {b : Bool} {es : List D}, gt γ j = some (.own b es) → σ[j]? = some (some (.ref p)) → False := fun {j b es} e h => by
      obtain ⟨q, ws, e', hq, _⟩ := o.own j b es e
      rw [h] at e'; cases e'
      rw [hp] at hq; cases hq
    rw [gt_set] at ej ek
    split at ej
    · rename_i cj
      rw [← cj.1, set_here o.len cj.2] at h1
      cases h1
      split at ek
      · rename_i ck; rw [← cj.1, ← ck.1]
      · rename_i ck
        rw [set_there (ne ek ck)] at h2
        exact (old ek h2).elim
    · rename_i cj
      rw [set_there (ne ej cj)] at h1
      split at ek
      · rename_i ck
        rw [← ck.1, set_here o.len ck.2] at h2
        cases h2
        exact (old ej h1).elim
      · rename_i ck
        rw [set_there (ne ek ck)] at h2
        exact o.sep _ _ _ _ _ _ _ ej ek h1 h2
  · rw [gt_set] at e
    split at e
    · cases e
    · rename_i c
      obtain ⟨v', e', r'⟩ := o.tab j kvs e
      exact ⟨v', by rw [set_there (ne e c)]; exact e', r'⟩
  · obtain ⟨j, b, es, e, h1⟩ := h
    rw [gt_set] at e
    split at e
    · rename_i c
      rw [← c.1, set_here o.len c.2] at h1
      cases h1
      exact .inr hp
    · rename_i c
      rw [set_there (ne e c)] at h1
      exact .inl ⟨j, b, es, e, h1⟩
  · have hij : i ≠ j := fun z => np es (by rw [z]; exact h)
    refine ⟨set_there hij _, es, ?_⟩
    rw [gt_set, if_neg (fun c => hij c.1)]
    exact h
theorem Ok.write {b : Bool} {p : Addr} {vs : List V} {ds es : List D} (o : Ok K σ H Hk γ) (h : gt γ i = some (.own b ds)) (hs : σ[i]? = some (some (.ref p))) (r : DpAll K Hk vs es) :
    Go K σ H Hk γ σ (upd H p (.lst vs)) Hk (γ.set i (some (.own b es))) := by
  have hi := gt_lt h
  obtain ⟨p', ws, e1, hp, hkp, _⟩ := o.own i b ds h
  rw [hs] at e1; cases e1
  have oa : OwnA σ γ p := ⟨i, b, ds, h, hs⟩
  have sub : Same Hk (upd H p (.lst vs)) := fun a u e => by
    rw [upd_ne (ne_of_none e hkp)]
    exact o.sub _ _ e
  refine ⟨⟨by rw [List.length_set]; exact o.len, sub, fun j d' e => ?_, fun j c fs e => ?_, fun j fs e => ?_, fun j k c c' fs gs q ej ek h1 h2 => ?_, fun j kvs e => ?_⟩, Same.refl _, fun a u h n => (by rw [h] at n; cases n), fun a u e n => ?_, fun a e => ?_, fun j fs e => ?_⟩
  · rw [gt_set] at e
    split at e
    · cases e
    · exact o.dat j d' e
  · rw [gt_set] at e
    split at e
    · rename_i cc
      cases e
      exact ⟨p, vs, by rw [← cc.1]; exact hs, upd_same, hkp, r⟩
    · rename_i cc
      obtain ⟨q, us, e2, hq, hqn, ra⟩ := o.own j c fs e
      refine ⟨q, us, e2, ?_, hqn, ra⟩
      rw [upd_ne ?_]; exact hq
      rintro rfl
      exact cc ⟨o.sep _ _ _ _ _ _ _ h e hs e2, hi⟩
  · rw [gt_set] at e
    split at e
    · rename_i cc
      cases e
      rw [← cc.1]
      exact o.pin _ _ h
    · exact o.pin _ _ e
  · have get : ∀ {j : Nat} {c : Bool} {fs : List D}, gt (γ.set i (some (.own b es))) j = some (.own c fs) → ∃ c' fs', gt γ j = some (.own c' fs') := fun {j c fs} e => by
      rw [gt_set] at e
      split at e
      · rename_i cc; rw [← cc.1]; exact ⟨_, _, h⟩
      · exact ⟨_, _, e⟩
    obtain ⟨_, _, e1⟩ := get ej
    obtain ⟨_, _, e2⟩ := get ek
    exact o.sep _ _ _ _ _ _ _ e1 e2 h1 h2
  · rw [gt_set] at e
    split at e
    · cases e
    · exact o.tab j kvs e
  · rw [upd_ne (fun z => n (by rw [z]; exact oa))]
    exact e
  · obtain ⟨j, c, fs, e, h1⟩ := e
    rw [gt_set] at e
    split at e
    · rename_i cc
      exact .inl ⟨i, b, ds, h, by rw [cc.1]; exact h1⟩
    · exact .inl ⟨j, c, fs, e, h1⟩
  · refine ⟨rfl, ?_⟩
    by_cases hij : i = j
    · subst hij
      rw [h] at e; cases e
      exact ⟨es, by rw [gt_set, if_pos ⟨rfl, hi⟩]⟩
    · exact ⟨fs, by rw [gt_set, if_neg (fun c => hij c.1)]; exact e⟩
/-- a slot is forgotten -/
theorem Ok.drop (o : Ok K σ H Hk γ) (no : ∀ b ds, gt γ i ≠ some (.own b ds)) : Go K σ H Hk γ (σ.set i none) H Hk (γ.set i none) := by
  have ne : ∀ {j : Nat} {e : Ent}, gt γ j = some e → ¬ (i = j ∧ i < γ.length) → i ≠ j := fun h n z => n ⟨z, by rw [z]; exact gt_lt h⟩
  refine ⟨⟨by rw [List.length_set, List.length_set]; exact o.len, o.sub, fun j d' e => ?_, fun j b ds e => ?_, fun j ds e => ?_, fun j k b c ds es p ej ek => ?_, fun j kvs e => ?_⟩, Same.refl _, fun a u h n => (by rw [h] at n; cases n), fun _ _ h _ => h, fun a h => ?_, fun j ds h => ?_⟩
  · rw [gt_set] at e
    split at e
    · cases e
    · rename_i c
      obtain ⟨v', e', r'⟩ := o.dat j d' e
      exact ⟨v', by rw [set_there (ne e c)]; exact e', r'⟩
  · rw [gt_set] at e
    split at e
    · cases e
    · rename_i c
      obtain ⟨p, vs, e', q⟩ := o.own j b ds e
      exact ⟨p, vs, by rw [set_there (ne e c)]; exact e', q⟩
  · rw [gt_set] at e
    split at e
    · cases e
    · exact o.pin _ _ e
  · rw [gt_set] at ej ek
    split at ej
    · cases ej
    · rename_i cj
      split at ek
      · cases ek
      · rename_i ck
        intro h1 h2
        rw [set_there (ne ej cj)] at h1
        rw [set_there (ne ek ck)] at h2
        exact o.sep _ _ _ _ _ _ _ ej ek h1 h2
  · rw [gt_set] at e
    split at e
    · cases e
    · rename_i c
      obtain ⟨v', e', r'⟩ := o.tab j kvs e
      exact ⟨v', by rw [set_there (ne e c)]; exact e', r'⟩
  · obtain ⟨j, b, ds, e, h1⟩ := h
    rw [gt_set] at e
    split at e
    · cases e
    · rename_i c
      rw [set_there (ne e c)] at h1
      exact .inl ⟨j, b, ds, e, h1⟩
  · have hij : i ≠ j := fun z => no _ ds (by rw [z]; exact h)
    refine ⟨set_there hij _, ds, ?_⟩
    rw [gt_set, if_neg (fun c => hij c.1)]
    exact h
end

/-! ### targets -/
abbrev Fg := D → En → Option En
def tGt (K : PySem.W.Frag) (tg : Fg) : TG := fun v σ H Q => ∃ γ Hk d γ2, Ok K σ H Hk γ ∧ Dp K Hk v d ∧ tg d γ = some γ2 ∧ ∀ σ2, Go K σ H Hk γ σ2 H Hk γ2 → Q σ2 H
def EG (X : Cx) (e : Expr) (tg : Fg) : Prop := PG X e (tGt X.K tg)
abbrev Fgs := List D → En → Option En
def tGts (K : PySem.W.Frag) (tg : Fgs) : TGs := fun vs σ H Q => ∃ γ Hk ds γ2, Ok K σ H Hk γ ∧ DpAll K Hk vs ds ∧ tg ds γ = some γ2 ∧ ∀ σ2, Go K σ H Hk γ σ2 H Hk γ2 → Q σ2 H
def EGs (X : Cx) (es : List Expr) (tg : Fgs) : Prop := PGs X es (tGts X.K tg)
@[simp] def gDat (i : Nat) : Fg := fun d γ => if pinB γ i then none else some (γ.set i (some (.dat d)))
@[simp] def gsNo : Fgs := fun ds γ => match ds with
  | [] => some γ
  | _ => none
@[simp] def gsCons (tg : Fg) (tgs : Fgs) : Fgs := fun ds γ => match ds with
  | d :: r => match tg d γ with
    | some γ1 => tgs r γ1
    | none => none
  | [] => none
@[simp] def gTp (n : Nat) (tgs : Fgs) : Fg := fun d γ => match d with
  | .tuple ds => if ds.length = n then tgs ds γ else none
  | _ => none
section
variable {X : Cx} {e : Expr} {es : List Expr} {tg : Fg} {tgs : Fgs} {pos : Pos}
theorem PG.imp {e : Expr} {t t' : TG} (h : PG X e t) (i : ∀ v σ H Q, t' v σ H Q → t v σ H Q) : PG X e t' := ⟨fun pins s σ H v u Q I r q => h.run pins s σ H v u Q I r (i _ _ _ _ q)⟩
theorem PGs.imp {e : List Expr} {t t' : TGs} (h : PGs X e t) (i : ∀ v σ H Q, t' v σ H Q → t v σ H Q) : PGs X e t' := ⟨fun pins s σ H v u Q I r q => h.run pins s σ H v u Q I r (i _ _ _ _ q)⟩
theorem gDat_imp {K : PySem.W.Frag} {i : Nat} {v : V} {σ : L2.St} {H : Hp} {Q : L2.St → Hp → Prop} (h : tGt K (gDat i) v σ H Q) : gName i v σ H Q := by
  obtain ⟨γ, Hk, d, γ2, o, r, e, q⟩ := h
  unfold gDat at e
  split at e <;> cases e
  rename_i c
  exact q _ (o.setDat r (noPin_of o (by simpa using c)))
theorem eg_name (i : Nat) {x : Str} (hN : X.N.Nodup) (hi : X.N[i]? = some x) (hx : Loc X.env.scope x) (hf : X.fn x = true ∨ X.env.scope.names.lookup x = some .local := by first | exact .inl rfl | exact .inr rfl | assumption) : EG X (.Name x pos) (gDat i) :=
  PG.imp (pg_name hN hi hx hf) fun _ _ _ _ h => gDat_imp h
theorem egs_nil : EGs X [] gsNo := PGs.imp pgs_nil fun v σ H Q ⟨γ, Hk, ds, γ2, o, r, e, q⟩ => by
  unfold gsNo at e
  split at e <;> cases e
  cases r
  exact ⟨rfl, q σ (Go.refl o)⟩
theorem egs_cons (h1 : EG X e tg) (h2 : EGs X es tgs) (hs : (assignEach (e :: es) X.env).map (·.2) = assign e X.env :: (assignEach es X.env).map (·.2) := by rfl) : EGs X (e :: es) (gsCons tg tgs) :=
  PGs.imp (pgs_cons h1 h2 hs) fun v σ H Q ⟨γ, Hk, ds, γ2, o, r, e, q⟩ => by
  unfold gsCons at e
  split at e
  · rename_i d r'
    split at e
    · rename_i γ1 e1
      cases r with
      | cons ra rb => exact ⟨_, _, rfl, γ, Hk, d, γ1, o, ra, e1, fun σ1 g1 => ⟨γ1, Hk, r', γ2, g1.ok, rb, e, fun σ2 g2 => q σ2 (g1.trans g2)⟩⟩
    · cases e
  · cases e
theorem eg_tup (n : Nat) {k : Nat} (hc : X.calm = true) (h : EGs X es tgs) (hn : (assignEach es X.env).length = n := by rfl) (hst : (assignEach es X.env).findIdx? (·.1) = none := by rfl) : EG X (.Tuple es k pos) (gTp n tgs) :=
  PG.imp (pg_tup hc h hn hst) fun v σ H Q ⟨γ, Hk, d, γ2, o, r, e, q⟩ => by
  unfold gTp at e
  split at e
  · rename_i ds
    split at e
    · rename_i hl
      cases r with
      | tup hs ra => exact ⟨_, _, rfl, sqt_mono o.sub hs, by rw [dps_len ra]; exact hl, γ, Hk, ds, γ2, o, ra, e, q⟩
    · cases e
  · cases e
end

/-! ### statements -/
inductive Out where
  | nx (γ : En)
  | rt (d : D) (γ : En)
  | bk (γ : En)
  | ct (γ : En)
abbrev Fs := En → Option Out
def Fin (K : PySem.W.Frag) (Z : Ends) (σ : L2.St) (H Hk : Hp) (γ : En) : Out → Prop
  | .nx γ2 => ∀ σ2 H2 Hk2, Go K σ H Hk γ σ2 H2 Hk2 γ2 → Z.nx σ2 H2
  | .rt d γ2 => ∀ v σ2 H2 Hk2, Go K σ H Hk γ σ2 H2 Hk2 γ2 → Dp K Hk2 v d → Z.rt v H2
  | .bk γ2 => ∀ σ2 H2 Hk2, Go K σ H Hk γ σ2 H2 Hk2 γ2 → Z.bk σ2 H2
  | .ct γ2 => ∀ σ2 H2 Hk2, Go K σ H Hk γ σ2 H2 Hk2 γ2 → Z.ct σ2 H2
def tS (K : PySem.W.Frag) (F : Fs) : TS := fun Z σ H => ∃ γ Hk o, Ok K σ H Hk γ ∧ F γ = some o ∧ Fin K Z σ H Hk γ o
def ES (X : Cx) (s : Stmt) (F : Fs) : Prop := PS X s (tS X.K F)
def ESs (X : Cx) (s : List Stmt) (F : Fs) : Prop := PSs X s (tS X.K F)
theorem Fin.back {K : PySem.W.Frag} {Z : Ends} {σ σ1 : L2.St} {H Hk H1 Hk1 : Hp} {γ γ1 : En} (g : Go K σ H Hk γ σ1 H1 Hk1 γ1) : ∀ {o : Out}, Fin K Z σ H Hk γ o → Fin K Z σ1 H1 Hk1 γ1 o
  | .nx _, h => fun σ2 H2 Hk2 g2 => h σ2 H2 Hk2 (g.trans g2)
  | .rt _ _, h => fun v σ2 H2 Hk2 g2 => h v σ2 H2 Hk2 (g.trans g2)
  | .bk _, h => fun σ2 H2 Hk2 g2 => h σ2 H2 Hk2 (g.trans g2)
  | .ct _, h => fun σ2 H2 Hk2 g2 => h σ2 H2 Hk2 (g.trans g2)
@[simp] def sNil : Fs := fun γ => some (.nx γ)
@[simp] def sSeq (F G : Fs) : Fs := fun γ => match F γ with
  | some (.nx γ1) => G γ1
  | o => o
theorem seq_nx {F G : Fs} {γ γ1 : En} (h : F γ = some (.nx γ1)) : sSeq F G γ = G γ1 := by
  unfold sSeq
  rw [h]
theorem seq_rt {F G : Fs} {γ γ1 : En} {d : D} (h : F γ = some (.rt d γ1)) : sSeq F G γ = some (.rt d γ1) := by
  unfold sSeq
  rw [h]
@[simp] def sAsg (f : Fe) (tg : Fg) : Fs := fun γ => match f γ with
  | some (d, γ1) => match tg d γ1 with
    | some γ2 => some (.nx γ2)
    | none => none
  | none => none
@[simp] def sOwn (i : Nat) (fl : Fa) : Fs := fun γ => match fl γ with
  | some (ds, γ1) => if pinB γ1 i then none else some (.nx (γ1.set i (some (.own false ds))))
  | none => none
@[simp] def sSet (i : Nat) (f g : Fe) : Fs := fun γ => match f γ with
  | some (d, γ1) => match gt γ1 i with
    | some (.own _ _) => match g γ1 with
      | some (.int k, γ2) => match gt γ2 i with
        | some (.own b ds) => match ixN ds.length k with
          | some j => some (.nx (γ2.set i (some (.own b (ds.set j d)))))
          | none => none
        | _ => none
      | _ => none
    | _ => none
  | none => none
@[simp] def sApp (i : Nat) (f : Fe) : Fs := fun γ => match gt γ i with
  | some (.own _ _) => match f γ with
    | some (d, γ1) => match gt γ1 i with
      | some (.own b ds) => if okN ds.length then some (.nx (γ1.set i (some (.own b (ds ++ [d]))))) else none
      | _ => none
    | none => none
  | _ => none
@[simp] def sDrop (f : Fe) : Fs := fun γ => match f γ with
  | some (_, γ1) => some (.nx γ1)
  | none => none
@[simp] def sRet (f : Fe) : Fs := fun γ => match f γ with
  | some (d, γ1) => some (.rt d γ1)
  | none => none
@[simp] def sRetN : Fs := fun γ => some (.rt .none γ)
@[simp] def sBk : Fs := fun γ => some (.bk γ)
@[simp] def sCt : Fs := fun γ => some (.ct γ)
@[simp] def sIf (c : Ft) (F G : Fs) : Fs := fun γ => match c γ with
  | some (true, γ1) => F γ1
  | some (false, γ1) => G γ1
  | none => none
section
variable {X : Cx} {e a i' : Expr} {s : Stmt} {ss : List Stmt} {f g : Fe} {fl : Fa} {tg : Fg} {F G : Fs} {pos : Pos}
theorem ess_nil : ESs X [] sNil := PSs.imp pss_nil fun Z σ H ⟨γ, Hk, o, k, e, q⟩ => by
  cases e
  exact q σ H Hk (Go.refl k)
theorem ess_cons (h : ES X s F) (hs : ESs X ss G) : ESs X (s :: ss) (sSeq F G) := PSs.imp (pss_cons h hs) fun Z σ H ⟨γ, Hk, o, k, e, q⟩ => by
  unfold sSeq at e
  split at e
  · rename_i γ1 eF
    exact ⟨γ, Hk, _, k, eF, fun σ2 H2 Hk2 g2 => ⟨γ1, Hk2, o, g2.ok, e, q.back g2⟩⟩
  · rename_i o' hn
    refine ⟨γ, Hk, o, k, e, ?_⟩
    cases o with
    | nx γ1 => exact absurd e (hn γ1)
    | rt d γ1 => exact q
    | bk γ1 => exact q
    | ct γ1 => exact q
theorem ess_one (h : ES X s F) : ESs X [s] F := pss_one h
theorem es_pass : ES X (.Pass pos) sNil := PS.imp ps_pass fun Z σ H ⟨γ, Hk, o, k, e, q⟩ => by
  cases e
  exact q σ H Hk (Go.refl k)
theorem es_break : ES X (.Break pos) sBk := PS.imp ps_break fun Z σ H ⟨γ, Hk, o, k, e, q⟩ => by
  cases e
  exact q σ H Hk (Go.refl k)
theorem es_continue : ES X (.Continue pos) sCt := PS.imp ps_continue fun Z σ H ⟨γ, Hk, o, k, e, q⟩ => by
  cases e
  exact q σ H Hk (Go.refl k)
theorem asg_imp {K : PySem.W.Frag} {Z : Ends} {σ : L2.St} {H : Hp} (h : tS K (sAsg f tg) Z σ H) : tAsg (tI K f) (tGt K tg) Z σ H := by
  obtain ⟨γ, Hk, o, k, e, q⟩ := h
  unfold sAsg at e
  split at e
  · rename_i d γ1 ef
    split at e <;> cases e
    rename_i γ2 et
    exact ⟨γ, Hk, d, γ1, k, ef, fun v H1 Hk1 g1 r1 => ⟨γ1, Hk1, d, γ2, g1.ok, r1, et, fun σ2 g2 => q σ2 H1 Hk1 (g1.trans g2)⟩⟩
  · cases e
theorem es_asg (he : EV X e f) (hg : EG X a tg) (hs : swapsWithSole [a] e pos.line X.env = pure false := by rfl) (hw : swappedStores [a] e X.env = pure none := by rfl)
    (h1 : (assignEach [a] X.env).map (·.2) = [assign a X.env] := by rfl) : ES X (.Assign [a] e pos) (sAsg f tg) := PS.imp (ps_asg he hg hs hw h1) fun _ _ _ h => asg_imp h
theorem es_set (i : Nat) {x : Str} {p' : Pos} (hN : X.N.Nodup) (hi : X.N[i]? = some x) (hx : Loc X.env.scope x) (he : EV X e f) (hs : swapsWith e (some (.Name x p')) pos.line X.env = pure false := by rfl) (hf : X.fn x = true ∨ X.env.scope.names.lookup x = some .local := by first | exact .inl rfl | exact .inr rfl | assumption) :
    ES X (.Assign [.Name x p'] e pos) (sAsg f (gDat i)) := PS.imp (ps_set hN hi hx he hs hf) fun Z σ H h => by
  obtain ⟨γ, Hk, d, γ2, k, ef, q⟩ := asg_imp h
  exact ⟨γ, Hk, d, γ2, k, ef, fun v H1 Hk1 g1 r1 => gDat_imp (q v H1 Hk1 g1 r1)⟩
theorem own_imp {K : PySem.W.Frag} {i : Nat} {Z : Ends} {σ : L2.St} {H : Hp} (h : tS K (sOwn i fl) Z σ H) : tAsg (tL K fl) (gName i) Z σ H := by
  obtain ⟨γ, Hk, o, k, e, q⟩ := h
  unfold sOwn at e
  split at e
  · rename_i ds γ1 ef
    split at e <;> cases e
    rename_i c
    exact ⟨γ, Hk, ds, γ1, k, ef, fun p vs H1 Hk1 g1 hp r1 => q _ _ _ (g1.trans (g1.ok.setOwn hp r1 (noPin_of g1.ok (by simpa using c))))⟩
  · cases e
theorem es_own (i : Nat) {x : Str} {p' : Pos} (hN : X.N.Nodup) (hi : X.N[i]? = some x) (hx : Loc X.env.scope x) (he : EL X e fl) (hs : swapsWith e (some (.Name x p')) pos.line X.env = pure false := by rfl) (hf : X.fn x = true ∨ X.env.scope.names.lookup x = some .local := by first | exact .inl rfl | exact .inr rfl | assumption) :
    ES X (.Assign [.Name x p'] e pos) (sOwn i fl) := PS.imp (ps_set hN hi hx he hs hf) fun _ _ _ h => own_imp h
theorem es_item (i : Nat) {p' : Pos} (he : EV X e f) (ho : PE X a (tVar i)) (hi : EV X i' g)
    (ha : ∀ v, assign (.Subscript a i' p') X.env v = (do
      let ov ← holding [v] (eval a X.env)
      let iv ← holding [v, ov] (eval i' X.env)
      standAt p'
      holding [v, ov, iv] (setItem ov iv v)
      release [v, ov, iv] []) := by intro _; rfl)
    (hs : swapsWithSole [.Subscript a i' p'] e pos.line X.env = pure false := by rfl) (hw : swappedStores [.Subscript a i' p'] e X.env = pure none := by rfl)
    (h1 : (assignEach [.Subscript a i' p'] X.env).map (·.2) = [assign (.Subscript a i' p') X.env] := by rfl) : ES X (.Assign [.Subscript a i' p'] e pos) (sSet i f g) :=
  PS.imp (ps_asg he (pg_sub ho hi set_list ha) hs hw h1) fun Z σ H ⟨γ, Hk, o, k, e, q⟩ => by
  unfold sSet at e
  split at e
  · rename_i d γ1 ef
    split at e
    · rename_i b0 ds0 e0
      split at e
      · rename_i kk γ2 eg
        split at e
        · rename_i b ds eo
          split at e <;> cases e
          rename_i j ej
          refine ⟨γ, Hk, d, γ1, k, ef, fun v H1 Hk1 g1 r1 => ?_⟩
          obtain ⟨p, vs0, e1, _⟩ := g1.ok.own i _ _ e0
          refine ⟨_, e1, γ1, Hk1, _, γ2, g1.ok, eg, fun w H2 Hk2 g2 r2 => ?_⟩
          cases r2
          obtain ⟨p', vs, e2, hp, _, ra⟩ := g2.ok.own i _ _ eo
          rw [e1] at e2; cases e2
          refine ⟨p, vs, kk, j, rfl, rfl, hp, by rw [dps_len ra]; exact ej, ?_⟩
          exact q _ _ _ ((g1.trans g2).trans (g2.ok.write eo e1 (dps_set j ra (dp_mono g2.kk r1))))
        · cases e
      · cases e
    · cases e
  · cases e
theorem es_app (i : Nat) {apos cpos : Pos} (ho : PE X a (tVar i)) (he : EV X e f)
    (hbase : attributeBase a "append" X.env (eval a X.env) = eval a X.env := by rfl)
    (hfew : ((backTo cpos (starEach [e] X.env)).all (fun x => !x.1) && (backToKw cpos (keywordEach [] X.env)).all (fun x => x.1.isSome)
      && decide ([e].length + ([] : List Keyword).length + (if ([] : List Keyword).isEmpty then 0 else 1) < 30)) = true := by rfl)
    (hline : (apos.endLine == cpos.line) = true := by rfl) (hs : starEach [e] X.env = (false, eval e X.env) :: starEach [] X.env := by rfl) (hplain : (backTo cpos (starEach [] X.env)).any (·.1) = false := by rfl)
    (hsw : swapsWith (.Call (.Attribute a "append" apos) [e] [] cpos) none pos.line X.env = pure false := by rfl) :
    ES X (.Expr (.Call (.Attribute a "append" apos) [e] [] cpos) pos) (sApp i f) :=
  PS.imp (ps_expr (pe_bm PySem.F.plainAttrs_list PySem.F.slot_list_append PySem.F.type_list_append mt_append ho (pa_cons he pa_nil hs) hbase hfew hline hs hplain) hsw) fun Z σ H ⟨γ, Hk, o, k, e, q⟩ => by
  unfold sApp at e
  split at e
  · rename_i b0 ds0 e0
    split at e
    · rename_i d γ1 ef
      split at e
      · rename_i b ds eo
        split at e <;> cases e
        rename_i c
        obtain ⟨p, vs0, e1, hp0, _⟩ := k.own i _ _ e0
        refine ⟨_, e1, .inl ⟨rfl, _, SqL.of hp0⟩, γ, Hk, d, γ1, k, ef, fun v H1 Hk1 g1 r1 => ?_⟩
        obtain ⟨p', vs, e2, hp, _, ra⟩ := g1.ok.own i _ _ eo
        rw [e1] at e2; cases e2
        exact ⟨p, vs, v, rfl, rfl, hp, by rw [dps_len ra]; exact okN_lt c, q _ _ _ (g1.trans (g1.ok.write eo e1 (dps_app ra (.cons r1 .nil))))⟩
      · cases e
    · cases e
  · cases e
theorem es_expr (he : EV X e f) (hs : swapsWith e none pos.line X.env = pure false := by rfl) : ES X (.Expr e pos) (sDrop f) := PS.imp (ps_expr he hs) fun Z σ H ⟨γ, Hk, o, k, e, q⟩ => by
  unfold sDrop at e
  split at e <;> cases e
  rename_i d γ1 ef
  exact ⟨γ, Hk, d, γ1, k, ef, fun v H1 Hk1 g1 r1 => q _ _ _ g1⟩
theorem es_ret (he : EV X e f) : ES X (.Return (some e) pos) (sRet f) := PS.imp (ps_ret he) fun Z σ H ⟨γ, Hk, o, k, e, q⟩ => by
  unfold sRet at e
  split at e <;> cases e
  rename_i d γ1 ef
  exact ⟨γ, Hk, d, γ1, k, ef, fun v H1 Hk1 g1 r1 => q _ _ _ _ g1 r1⟩
theorem es_retN : ES X (.Return none pos) sRetN := PS.imp ps_retN fun Z σ H ⟨γ, Hk, o, k, e, q⟩ => by
  cases e
  exact q _ _ _ _ (Go.refl k) .non
theorem es_if {c : Expr} {A B : List Stmt} {u : Ft} (hc : ET X c u) (ha : ESs X A F) (hb : ESs X B G) : ES X (.If c A B pos) (sIf u F G) := PS.imp (ps_if hc ha hb) fun Z σ H ⟨γ, Hk, o, k, e, q⟩ => by
  unfold sIf at e
  split at e
  · rename_i γ1 ec
    exact ⟨γ, Hk, true, γ1, k, ec, fun H1 Hk1 g1 => iteT ⟨γ1, Hk1, o, g1.ok, e, q.back g1⟩⟩
  · rename_i γ1 ec
    exact ⟨γ, Hk, false, γ1, k, ec, fun H1 Hk1 g1 => iteF ⟨γ1, Hk1, o, g1.ok, e, q.back g1⟩⟩
  · cases e
end
end DN
namespace DN
open PySem PySem.Spec PyProof.Rows L2
/-! ### what is walked -/
/-- J hands on the data ds, one by one, as long as what lasts (Hk) lasts; what it makes on the way lasts -/
def Walks (K : PySem.W.Frag) (J : It) (ds : List D) (Hk : Hp) : Prop := ∀ H Hc, Same Hk Hc → Same Hc H → (∀ (i : Nat) (h : i < ds.length), J.go i H ∧ ∀ x H', J.yld i H x H' → ∃ Hc', Grow H Hc H' Hc' ∧ Dp K Hc' x ds[i]) ∧ ∀ (i : Nat), ds.length ≤ i → J.stop i H
def tIt (K : PySem.W.Frag) (src : Fa) : TI := fun σ H R => ∃ γ Hk ds γ2, Ok K σ H Hk γ ∧ src γ = some (ds, γ2) ∧ ∀ J H2 Hk2, Go K σ H Hk γ σ H2 Hk2 γ2 → Walks K J ds Hk2 → R J H2
def EI (X : Cx) (tg it : Expr) (src : Fa) : Prop := PI X tg it (tIt X.K src)
theorem PI.imp {X : Cx} {tg e : Expr} {t t' : TI} (h : PI X tg e t) (i : ∀ σ H Q, t' σ H Q → t σ H Q) : PI X tg e t' := ⟨fun pins s σ H Q I q => h.run pins s σ H Q I (i _ _ _ q)⟩
@[simp] def wOf (f : Fe) : Fa := fun γ => match f γ with
  | some (.list ds, γ1) => some (ds, γ1)
  | some (.tuple ds, γ1) => some (ds, γ1)
  | some (.str z, γ1) => some (z.cps.toList.map fun c => .str ⟨#[c]⟩, γ1)
  | _ => none
def rngD (lo : Int) (n : Nat) : List D := (List.range n).map fun (k : Nat) => .int (lo + (k : Int))
@[simp] def small62 (j : Int) : Bool := decide (-(2 ^ 62) ≤ j) && decide (j < 2 ^ 62)
@[simp] def wR1 (f : Fe) : Fa := fun γ => match f γ with
  | some (.int n, γ1) => if small62 n then some (rngD 0 n.toNat, γ1) else none
  | _ => none
@[simp] def wR2 (fa : Fa) : Fa := fun γ => match fa γ with
  | some ([.int m, .int n], γ1) => if small62 m && small62 n then some (rngD m (n - m).toNat, γ1) else none
  | _ => none
section
variable {X : Cx} {tg e a b : Expr} {f : Fe} {fa : Fa} {pos p : Pos} {K : PySem.W.Frag}
theorem walks_l {Hk : Hp} {q : Addr} {vs : List V} {ds : List D} (h : SqL K Hk q vs) (r : DpAll K Hk vs ds) : Walks K (Itl K q) ds Hk := fun H Hc s1 s2 => by
  have hh := sql_mono (s1.trans s2) h
  have hl := dps_len r
  refine ⟨fun i hi => ?_, fun i hi => ⟨vs, hh, by omega⟩⟩
  obtain ⟨v, ev, rv⟩ := dps_at r (List.getElem?_eq_getElem hi)
  refine ⟨⟨vs, v, hh, ev⟩, fun x H' y => ?_⟩
  obtain ⟨rfl, y⟩ := y
  have := y vs hh
  rw [ev] at this; cases this
  exact ⟨Hc, Grow.refl s2, dp_mono s1 rv⟩
theorem walks_t {Hk : Hp} {q : Addr} {vs : List V} {ds : List D} (h : SqT K Hk q vs) (r : DpAll K Hk vs ds) : Walks K (Itt K q) ds Hk := fun H Hc s1 s2 => by
  have hh := sqt_mono (s1.trans s2) h
  have hl := dps_len r
  refine ⟨fun i hi => ?_, fun i hi => ⟨vs, hh, by omega⟩⟩
  obtain ⟨v, ev, rv⟩ := dps_at r (List.getElem?_eq_getElem hi)
  refine ⟨⟨vs, v, hh, ev⟩, fun x H' y => ?_⟩
  obtain ⟨rfl, y⟩ := y
  have := y vs hh
  rw [ev] at this; cases this
  exact ⟨Hc, Grow.refl s2, dp_mono s1 rv⟩
theorem walks_r {Hk : Hp} {lo : Int} {n : Nat} : Walks K (Itr lo n) (rngD lo n) Hk := fun H Hc s1 s2 => by
  have hl : (rngD lo n).length = n := by simp [rngD]
  refine ⟨fun i hi => ?_, fun i hi => ?_⟩
  · rw [hl] at hi
    refine ⟨hi, fun x H' y => ?_⟩
    obtain ⟨rfl, rfl⟩ := y
    refine ⟨Hc, Grow.refl s2, ?_⟩
    have e : (rngD lo n)[i]'(by rw [hl]; exact hi) = .int (lo + (i : Int)) := by simp [rngD]
    rw [e]
    exact .int _
  · rw [hl] at hi
    exact hi
theorem dps_map {α : Type} {Hk : Hp} (g : α → V) (k : α → D) (h : ∀ a, Dp K Hk (g a) (k a)) : ∀ l : List α, DpAll K Hk (l.map g) (l.map k)
  | [] => .nil
  | a :: r => .cons (h a) (dps_map g k h r)
theorem walks_s {Hk : Hp} {z : Str} : Walks K (Its z) (z.cps.toList.map fun c => .str ⟨#[c]⟩) Hk := fun H Hc s1 s2 => by
  have hl : (z.cps.toList.map fun c => PyData.str ⟨#[c]⟩).length = z.cps.size := by simp
  refine ⟨fun i hi => ?_, fun i hi => ?_⟩
  · rw [hl] at hi
    refine ⟨hi, fun x H' y => ?_⟩
    obtain ⟨rfl, c, hc, rfl⟩ := y
    refine ⟨Hc, Grow.refl s2, ?_⟩
    have e1 : z.cps[i] = c := by
      rw [Array.getElem?_eq_getElem hi] at hc
      exact Option.some.inj hc
    rw [List.getElem_map, Array.getElem_toList, e1]
    exact .str _
  · rw [hl] at hi
    exact hi
theorem ei_seq (h : EV X e f) : EI X tg e (wOf f) := PI.imp (t := fun σ H R => iStr (tI X.K f) σ H R ∨ iList X.K (tI X.K f) σ H R ∨ iTup X.K (tI X.K f) σ H R)
    ⟨fun pins s σ H R I q => q.elim ((pi_str h).run pins s σ H R I) fun q => q.elim ((pi_list h).run pins s σ H R I) ((pi_tup h).run pins s σ H R I)⟩ fun σ H R ⟨γ, Hk, ds, γ2, o, ee, q⟩ => by
  unfold wOf at ee
  split at ee <;> cases ee
  · rename_i ef
    refine .inr <| .inl ⟨γ, Hk, _, _, o, ef, fun v H1 Hk1 g1 r1 => ?_⟩
    cases r1 with
    | lst hs ra => exact ⟨_, rfl, ⟨_, sql_mono g1.ok.sub hs⟩, q _ H1 Hk1 g1 (walks_l hs ra)⟩
  · rename_i ef
    refine .inr <| .inr ⟨γ, Hk, _, _, o, ef, fun v H1 Hk1 g1 r1 => ?_⟩
    cases r1 with
    | tup hs ra => exact ⟨_, rfl, ⟨_, sqt_mono g1.ok.sub hs⟩, q _ H1 Hk1 g1 (walks_t hs ra)⟩
  · rename_i ef
    refine .inl ⟨γ, Hk, _, _, o, ef, fun v H1 Hk1 g1 r1 => ?_⟩
    cases r1
    exact ⟨_, rfl, q _ H1 Hk1 g1 walks_s⟩
def zipD : D → D → Option (List D)
  | .list a, .list b => some (List.zipWith (fun x y => .tuple [x, y]) a b)
  | .tuple a, .tuple b => some (List.zipWith (fun x y => .tuple [x, y]) a b)
  | _, _ => none
@[simp] def wZip (fa : Fa) : Fa := fun γ => match fa γ with
  | some ([a, b], γ1) => match zipD a b with
    | some ds => some (ds, γ1)
    | none => none
  | _ => none
theorem zip_turn {xs ys : List V} {as bs : List D} {Hk H Hc : Hp} (ra : DpAll K Hk xs as) (rb : DpAll K Hk ys bs) (s1 : Same Hk Hc) (s2 : Same Hc H) {i : Nat} (hi : i < (List.zipWith (fun x y => PyData.tuple [x, y]) as bs).length) :
    ∃ x y, xs[i]? = some x ∧ ys[i]? = some y ∧ ∀ T, H T = none → ∃ Hc', Grow H Hc (upd H T (.tup [x, y])) Hc' ∧ Dp K Hc' (.ref T) ((List.zipWith (fun x y => PyData.tuple [x, y]) as bs)[i]) := by
  have hi' : i < as.length ∧ i < bs.length := by
    rw [List.length_zipWith] at hi
    omega
  obtain ⟨x, ex, rx⟩ := dps_at ra (List.getElem?_eq_getElem hi'.1)
  obtain ⟨y, ey, ry⟩ := dps_at rb (List.getElem?_eq_getElem hi'.2)
  refine ⟨x, y, ex, ey, fun T hT => ⟨upd Hc T (.tup [x, y]), Grow.new s2 hT, ?_⟩⟩
  have sm : Same Hc (upd Hc T (.tup [x, y])) := same_upd (s2.free hT)
  rw [List.getElem_zipWith]
  exact .tup (SqT.of upd_same) (.cons (dp_mono (s1.trans sm) rx) (.cons (dp_mono (s1.trans sm) ry) .nil))
theorem walks_zl {Hk : Hp} {p q : Addr} {xs ys : List V} {as bs : List D} (hx : SqL K Hk p xs) (hy : SqL K Hk q ys) (ra : DpAll K Hk xs as) (rb : DpAll K Hk ys bs) : Walks K (Itz K p q) (List.zipWith (fun x y => .tuple [x, y]) as bs) Hk := fun H Hc s1 s2 => by
  have h1 := sql_mono (s1.trans s2) hx
  have h2 := sql_mono (s1.trans s2) hy
  refine ⟨fun i hi => ?_, fun i hi => ?_⟩
  · obtain ⟨x, y, ex, ey, mk⟩ := zip_turn ra rb s1 s2 hi
    refine ⟨⟨xs, ys, x, y, h1, h2, ex, ey⟩, fun v H' yl => ?_⟩
    obtain ⟨T, x', y', rfl, hT, rfl, fx, fy⟩ := yl
    have e1 := fx xs h1
    have e2 := fy ys h2
    rw [ex] at e1; cases e1
    rw [ey] at e2; cases e2
    exact mk T hT
  · rw [List.length_zipWith, ← dps_len ra, ← dps_len rb] at hi
    exact ⟨xs, ys, h1, h2, by omega⟩
theorem walks_zt {Hk : Hp} {p q : Addr} {xs ys : List V} {as bs : List D} (hx : SqT K Hk p xs) (hy : SqT K Hk q ys) (ra : DpAll K Hk xs as) (rb : DpAll K Hk ys bs) : Walks K (RZ.ItzT K p q) (List.zipWith (fun x y => .tuple [x, y]) as bs) Hk := fun H Hc s1 s2 => by
  have h1 := sqt_mono (s1.trans s2) hx
  have h2 := sqt_mono (s1.trans s2) hy
  refine ⟨fun i hi => ?_, fun i hi => ?_⟩
  · obtain ⟨x, y, ex, ey, mk⟩ := zip_turn ra rb s1 s2 hi
    refine ⟨⟨xs, ys, x, y, h1, h2, ex, ey⟩, fun v H' yl => ?_⟩
    obtain ⟨T, x', y', rfl, hT, rfl, fx, fy⟩ := yl
    have e1 := fx xs h1
    have e2 := fy ys h2
    rw [ex] at e1; cases e1
    rw [ey] at e2; cases e2
    exact mk T hT
  · rw [List.length_zipWith, ← dps_len ra, ← dps_len rb] at hi
    exact ⟨xs, ys, h1, h2, by omega⟩
theorem ei_zip {es : List Expr} {kk : Nat} {tp : Pos} (hm : X.mg "zip" = none) (hg : Gl X "zip") (h : EA X [a, b] fa) (hs : starEach [a, b] X.env = (false, eval a X.env) :: starEach [b] X.env := by rfl) (hpl : (backTo pos (starEach [b] X.env)).any (·.1) = false := by rfl) :
    EI X (.Tuple es kk tp) (.Call (.Name "zip" p) [a, b] [] pos) (wZip fa) :=
  PI.imp (RZ.pi_zipA hg hm h hs hpl) fun σ H R ⟨γ, Hk, ds, γ2, o, ee, q⟩ => by
  unfold wZip at ee
  split at ee
  · rename_i da db γ1 ea
    split at ee <;> cases ee
    rename_i ez
    refine ⟨γ, Hk, [da, db], _, o, ea, fun vs H1 Hk1 g1 r1 => ?_⟩
    cases r1 with
    | cons ra rb =>
      cases rb with
      | cons rb rn =>
        cases rn
        unfold zipD at ez
        split at ez <;> cases ez
        · cases ra with
          | lst hx ra =>
            cases rb with
            | lst hy rb => exact ⟨_, _, _, _, rfl, .inl ⟨sql_mono g1.ok.sub hx, sql_mono g1.ok.sub hy, q _ H1 Hk1 g1 (walks_zl hx hy ra rb)⟩⟩
        · cases ra with
          | tup hx ra =>
            cases rb with
            | tup hy rb => exact ⟨_, _, _, _, rfl, .inr ⟨sqt_mono g1.ok.sub hx, sqt_mono g1.ok.sub hy, q _ H1 Hk1 g1 (walks_zt hx hy ra rb)⟩⟩
  · cases ee
theorem small_of {j : Int} (h : small62 j = true) : -(2 ^ 62) ≤ j ∧ j < 2 ^ 62 := by
  unfold small62 at h
  simpa using h
theorem ei_r1 (hm : X.mg "range" = none) (hg : Gl X "range") (h : EV X a f) (hs : starEach [a] X.env = [(false, eval a X.env)] := by rfl) : EI X tg (.Call (.Name "range" p) [a] [] pos) (wR1 f) :=
  PI.imp (pi_range1 hg hm (pa_cons h pa_nil hs) hs) fun σ H R ⟨γ, Hk, ds, γ2, o, ee, q⟩ => by
  unfold wR1 at ee
  split at ee
  · split at ee <;> cases ee
    rename_i c ef
    obtain ⟨c1, c2⟩ := small_of c
    refine ⟨γ, Hk, _, _, o, ef, fun v H1 Hk1 g1 r1 => ?_⟩
    cases r1
    exact ⟨_, rfl, c1, c2, q _ H1 Hk1 g1 walks_r⟩
  · cases ee
theorem ei_r2 (hm : X.mg "range" = none) (hg : Gl X "range") (h : EA X [a, b] fa) (hs : starEach [a, b] X.env = [(false, eval a X.env), (false, eval b X.env)] := by rfl) (hs2 : starEach [b] X.env = [(false, eval b X.env)] := by rfl) :
    EI X tg (.Call (.Name "range" p) [a, b] [] pos) (wR2 fa) :=
  PI.imp (pi_range2 hg hm h hs hs2) fun σ H R ⟨γ, Hk, ds, γ2, o, ee, q⟩ => by
  unfold wR2 at ee
  split at ee
  · split at ee <;> cases ee
    rename_i c ef
    rw [Bool.and_eq_true] at c
    obtain ⟨c1, c2⟩ := small_of c.1
    obtain ⟨c3, c4⟩ := small_of c.2
    refine ⟨γ, Hk, _, _, o, ef, fun v H1 Hk1 g1 r1 => ?_⟩
    cases r1 with
    | cons ra rb =>
      cases ra
      cases rb with
      | cons rc rd =>
        cases rc
        cases rd
        exact ⟨_, _, rfl, ⟨c1, c2, c3, c4⟩, q _ H1 Hk1 g1 walks_r⟩
  · cases ee
end
/-! ### for -/
def forF (tg : Fg) (body : Fs) : List D → En → Option Out
  | [], γ => some (.nx γ)
  | d :: ds, γ => match tg d γ with
    | some γ1 => match body γ1 with
      | some (.nx γ2) => forF tg body ds γ2
      | some (.ct γ2) => forF tg body ds γ2
      | some (.bk γ2) => some (.nx γ2)
      | some (.rt v γ2) => some (.rt v γ2)
      | none => none
    | none => none
theorem forF_nx {tg : Fg} {body : Fs} {d : D} {ds : List D} {γ γ1 γ2 : En} (h1 : tg d γ = some γ1) (h2 : body γ1 = some (.nx γ2)) : forF tg body (d :: ds) γ = forF tg body ds γ2 := by
  simp only [forF, h1, h2]
theorem forF_rt {tg : Fg} {body : Fs} {d v : D} {ds : List D} {γ γ1 γ2 : En} (h1 : tg d γ = some γ1) (h2 : body γ1 = some (.rt v γ2)) : forF tg body (d :: ds) γ = some (.rt v γ2) := by
  simp only [forF, h1, h2]
@[simp] def sFor (src : Fa) (tg : Fg) (body : Fs) : Fs := fun γ => match src γ with
  | some (ds, γ1) => forF tg body ds γ1
  | none => none
theorem es_for {X : Cx} {t it : Expr} {ss : List Stmt} {src : Fa} {tg : Fg} {body : Fs} {pos : Pos} (hp : PassesOwn (model X.prog X.w) X.A X.env X.xe) (hc : X.calm = true) (hi : EI X t it src) (hg : EG X t tg) (hb : ESs X ss body)
    (hs : ∀ x, foldedSetIterable it X.env x = pure x := by intro _; rfl) : ES X (.For t it ss [] pos) (sFor src tg body) := PS.imp (ps_for hp hc hi hg hb hs) fun Z σ H ⟨γ, Hk, out, k, e, q⟩ => by
  unfold sFor at e
  split at e
  · rename_i ds γ1 es
    refine ⟨γ, Hk, ds, γ1, k, es, fun J H1 Hk1 g1 wk => ?_⟩
    let W : Nat → Nat → L2.St → Hp → Prop := fun i m σ' H' => m = ds.length - i ∧ i ≤ ds.length ∧ ∃ γ' Hk', Go X.K σ H Hk γ σ' H' Hk' γ' ∧ Same Hk1 Hk' ∧ forF tg body (ds.drop i) γ' = some out
    refine ⟨W, ⟨ds.length, by simp, Nat.zero_le _, γ1, Hk1, g1, Same.refl _, by simpa using e⟩, ?_⟩
    rintro i m σ' H' ⟨rfl, hi, γ', Hk', g, sk, ef⟩
    obtain ⟨w1, w2⟩ := wk H' Hk' sk g.ok.sub
    by_cases hlt : i < ds.length
    · obtain ⟨go, yl⟩ := w1 i hlt
      rw [List.drop_eq_getElem_cons hlt] at ef
      unfold forF at ef
      split at ef
      · rename_i γ2 et
        have next : ∀ {γ3 : En} {σ3 : L2.St} {H3 Hk3 : Hp}, Go X.K σ' H' Hk' γ' σ3 H3 Hk3 γ3 → forF tg body (ds.drop (i + 1)) γ3 = some out → W (i + 1) (ds.length - (i + 1)) σ3 H3 := fun g3 e3 => ⟨rfl, hlt, _, _, g.trans g3, sk.trans g3.kk, e3⟩
        refine .inr ⟨go, W (i + 1) (ds.length - (i + 1)), fun σ3 H3 w => ⟨_, by omega, w⟩, fun x H'' y => ?_⟩
        obtain ⟨Hc, gr, rv⟩ := yl x H'' y
        have gy := g.ok.go gr
        refine ⟨γ', Hc, ds[i], γ2, gy.ok, rv, et, fun σ2 g2' => ?_⟩
        have g2 := gy.trans g2'
        split at ef
        · rename_i γ3 eb
          exact ⟨γ2, Hc, _, g2.ok, eb, fun σ3 H3 Hk3 g3 => next (g2.trans g3) ef⟩
        · rename_i γ3 eb
          exact ⟨γ2, Hc, _, g2.ok, eb, fun σ3 H3 Hk3 g3 => next (g2.trans g3) ef⟩
        · rename_i γ3 eb
          cases ef
          exact ⟨γ2, Hc, _, g2.ok, eb, fun σ3 H3 Hk3 g3 => q _ _ _ ((g.trans g2).trans g3)⟩
        · rename_i v γ3 eb
          cases ef
          exact ⟨γ2, Hc, _, g2.ok, eb, fun w σ3 H3 Hk3 g3 r3 => q _ _ _ _ ((g.trans g2).trans g3) r3⟩
        · cases ef
      · cases ef
    · have e0 : i = ds.length := by omega
      subst e0
      rw [List.drop_length] at ef
      cases ef
      exact .inl ⟨w2 _ (Nat.le_refl _), q _ _ _ g⟩
  · cases e
/-! ### while -/
def whileF (c : Ft) (body : Fs) : Nat → En → Option Out
  | 0, _ => none
  | n + 1, γ => match c γ with
    | some (true, γ1) => match body γ1 with
      | some (.nx γ2) => whileF c body n γ2
      | some (.ct γ2) => whileF c body n γ2
      | some (.bk γ2) => some (.nx γ2)
      | some (.rt v γ2) => some (.rt v γ2)
      | none => none
    | some (false, γ1) => some (.nx γ1)
    | none => none
theorem es_while (n : Nat) {X : Cx} {c : Expr} {ss : List Stmt} {u : Ft} {body : Fs} {pos : Pos} (hp : PassesOwn (model X.prog X.w) X.A X.env X.xe) (hc : ET X c u) (hb : ESs X ss body) : ES X (.While c ss [] pos) (whileF u body n) := PS.imp (ps_while hp hc hb) fun Z σ H ⟨γ, Hk, out, k, e, q⟩ => by
  let W : Nat → L2.St → Hp → Prop := fun m σ' H' => ∃ γ' Hk', Go X.K σ H Hk γ σ' H' Hk' γ' ∧ whileF u body m γ' = some out
  refine ⟨W, ⟨n, γ, Hk, Go.refl k, e⟩, ?_⟩
  rintro m σ' H' ⟨γ', Hk', g, ef⟩
  cases m with
  | zero => cases ef
  | succ m =>
    unfold whileF at ef
    split at ef
    · rename_i γ1 ec
      refine ⟨γ', Hk', true, γ1, g.ok, ec, fun H1 Hk1 g1 => iteT ⟨W m, fun σ3 H3 w => ⟨m, Nat.lt_succ_self _, w⟩, ?_⟩⟩
      split at ef
      · rename_i γ3 eb
        exact ⟨γ1, Hk1, _, g1.ok, eb, fun σ3 H3 Hk3 g3 => ⟨γ3, Hk3, (g.trans g1).trans g3, ef⟩⟩
      · rename_i γ3 eb
        exact ⟨γ1, Hk1, _, g1.ok, eb, fun σ3 H3 Hk3 g3 => ⟨γ3, Hk3, (g.trans g1).trans g3, ef⟩⟩
      · rename_i γ3 eb
        cases ef
        exact ⟨γ1, Hk1, _, g1.ok, eb, fun σ3 H3 Hk3 g3 => q _ _ _ ((g.trans g1).trans g3)⟩
      · rename_i v γ3 eb
        cases ef
        exact ⟨γ1, Hk1, _, g1.ok, eb, fun w σ3 H3 Hk3 g3 r3 => q _ _ _ _ ((g.trans g1).trans g3) r3⟩
      · cases ef
    · rename_i γ1 ec
      cases ef
      exact ⟨γ', Hk', false, γ1, g.ok, ec, fun H1 Hk1 g1 => iteF (q _ _ _ (g.trans g1))⟩
    · cases ef

/-! ### list comprehensions -/
@[simp] def ownB (γ : En) (i : Nat) : Bool := match gt γ i with
  | some (.own _ _) => true
  | _ => false
theorem noOwn_of {γ : En} {i : Nat} (h : ownB γ i = false) : ∀ b ds, gt γ i ≠ some (.own b ds) := fun b ds e => by
  unfold ownB at h
  rw [e] at h
  cases h
@[simp] def wipeE (γ : En) : List Nat → En
  | [] => γ
  | v :: vs => (wipeE γ vs).set v none
@[simp] def noOwns (γ : En) : List Nat → Bool
  | [] => true
  | v :: vs => !ownB γ v && noOwns γ vs
@[simp] def putBack (γ0 γ : En) : List Nat → En
  | [] => γ
  | v :: vs => putBack γ0 (γ.set v (gt (wipeE γ0 vs) v)) vs
def lcF (js : List Nat) (tg : Fg) (tt : Ft) (elt : Fe) : List D → En → List D → Option (List D × En)
  | [], γ, acc => some (acc, γ)
  | d :: ds, γ, acc => match tg d γ with
    | some γ0 => match tt γ0 with
      | some (true, γ1) => match elt γ1 with
        | some (y, γ2) => if okN acc.length && noOwns γ2 js then lcF js tg tt elt ds (wipeE γ2 js) (acc ++ [y]) else none
        | none => none
      | some (false, γ1) => if noOwns γ1 js then lcF js tg tt elt ds (wipeE γ1 js) acc else none
      | none => none
    | none => none
@[simp] def lLc (js : List Nat) (tg : Fg) (src : Fa) (tt : Ft) (elt : Fe) : Fa := fun γ => match src γ with
  | some (ds, γ1) => if noOwns γ1 js then match lcF js tg tt elt ds (wipeE γ1 js) [] with
    | some (out, γ2) => some (out, putBack γ1 γ2 js)
    | none => none
    else none
  | none => none
@[simp] def tYe : Ft := fun γ => some (true, γ)
theorem ets_nil {X : Cx} : PTs X [] (tT X.K tYe) := ⟨fun pins s σ H Q I ⟨γ, Hk, b, γ2, o, e, q⟩ => pts_nil.run pins s σ H Q I (by cases e; exact q H Hk (Go.refl o))⟩
theorem ets_one {X : Cx} {c : Expr} {u : Ft} (h : ET X c u) : PTs X [c] (tT X.K u) := pts_one h
/-- what holds within and behind the block at the comprehension's own slot -/
theorem gt_none (γ : En) (j : Nat) : gt (γ.set j none) j = none := by
  rw [gt_set]
  split
  · rfl
  · rename_i c
    cases h : gt γ j with
    | none => rfl
    | some e => exact absurd ⟨rfl, gt_lt h⟩ c
theorem Ok.restore {K : PySem.W.Frag} {σ : L2.St} {H Hk H2 Hk2 : Hp} {γ γ2 : En} {j : Nat} (o : Ok K σ H Hk γ) (g : Go K (σ.set j none) H Hk (γ.set j none) (σ.set j none) H2 Hk2 γ2) (no : ownB γ j = false) (e2 : gt γ2 j = none) :
    Go K σ H Hk γ σ H2 Hk2 (γ2.set j (gt γ j)) := by
  have hlen : γ2.length = γ.length := by
    have := g.ok.len
    rw [List.length_set] at this
    exact this.symm.trans o.len
  have nj := noOwn_of no
  have ow : ∀ a, OwnA (σ.set j none) (γ.set j none) a → OwnA σ γ a := fun a ⟨i, b, ds, e, h⟩ => by
    rw [gt_set] at e
    split at e
    · cases e
    · rename_i c
      have hij : j ≠ i := fun z => c ⟨z, by rw [z]; exact gt_lt e⟩
      rw [set_there hij] at h
      exact ⟨i, b, ds, e, h⟩
  have wo : ∀ a, OwnA σ γ a → OwnA (σ.set j none) (γ.set j none) a := fun a ⟨i, b, ds, e, h⟩ => by
    have hij : j ≠ i := fun z => nj b ds (by rw [z]; exact e)
    exact ⟨i, b, ds, by rw [gt_set, if_neg (fun c => hij c.1)]; exact e, by rw [set_there hij]; exact h⟩
  have at2 : ∀ {i : Nat} {e : Ent}, gt (γ2.set j (gt γ j)) i = some e → (j = i ∧ gt γ j = some e) ∨ (j ≠ i ∧ gt γ2 i = some e) := fun {i e} h => by
    rw [gt_set] at h
    split at h
    · rename_i c; exact .inl ⟨c.1, h⟩
    · rename_i c
      refine .inr ⟨fun z => c ⟨z, by rw [z]; exact gt_lt h⟩, h⟩
  refine ⟨⟨by rw [List.length_set, hlen]; exact o.len, g.ok.sub, fun i d h => ?_, fun i b ds h => ?_, fun i ds h => ?_, fun i k b c ds es p hi hk h1 h2 => ?_, fun i kvs h => ?_⟩, g.kk, fun a u h n => ?_, fun a u h n => g.kp a u h fun z => n (ow a z), fun a h => ?_, fun i ds h => ?_⟩
  · rcases at2 h with ⟨rfl, e⟩ | ⟨hij, e⟩
    · obtain ⟨v, e1, r⟩ := o.dat _ d e
      exact ⟨v, e1, dp_mono g.kk r⟩
    · obtain ⟨v, e1, r⟩ := g.ok.dat i d e
      rw [set_there hij] at e1
      exact ⟨v, e1, r⟩
  · rcases at2 h with ⟨rfl, e⟩ | ⟨hij, e⟩
    · exact absurd e (nj b ds)
    · obtain ⟨p, vs, e1, r⟩ := g.ok.own i b ds e
      rw [set_there hij] at e1
      exact ⟨p, vs, e1, r⟩
  · rcases at2 h with ⟨rfl, e⟩ | ⟨hij, e⟩
    · exact absurd e (nj true ds)
    · exact g.ok.pin _ _ e
  · rcases at2 hi with ⟨rfl, e⟩ | ⟨hij, e⟩
    · exact absurd e (nj b ds)
    · rcases at2 hk with ⟨rfl, e'⟩ | ⟨hkj, e'⟩
      · exact absurd e' (nj c es)
      · exact g.ok.sep i k b c ds es p e e' (by rw [set_there hij]; exact h1) (by rw [set_there hkj]; exact h2)
  · rcases at2 h with ⟨rfl, e⟩ | ⟨hij, e⟩
    · obtain ⟨v, e1, r⟩ := o.tab _ kvs e
      exact ⟨v, e1, r.mono g.kk⟩
    · obtain ⟨v, e1, r⟩ := g.ok.tab i kvs e
      rw [set_there hij] at e1
      exact ⟨v, e1, r⟩
  · rcases g.nw a u h n with z | z
    · exact .inl z
    · exact .inr (ow a z)
  · obtain ⟨i, b, ds, e, h1⟩ := h
    rcases at2 e with ⟨rfl, e'⟩ | ⟨hij, e'⟩
    · exact absurd e' (nj b ds)
    · rcases g.sh a ⟨i, b, ds, e', by rw [set_there hij]; exact h1⟩ with z | z
      · exact .inl (ow a z)
      · exact .inr z
  · have hij : j ≠ i := fun z => nj true ds (by rw [z]; exact h)
    obtain ⟨_, es, e'⟩ := g.pn i ds (by rw [gt_set, if_neg (fun c => hij c.1)]; exact h)
    exact ⟨rfl, es, by rw [gt_set, if_neg (fun c => hij c.1)]; exact e'⟩
theorem gt_wipe (γ : En) : ∀ (js : List Nat) (j : Nat), gt (wipeE γ js) j = none ∨ gt (wipeE γ js) j = gt γ j
  | [], _ => .inr rfl
  | v :: vs, j => by
    show gt ((wipeE γ vs).set v none) j = none ∨ gt ((wipeE γ vs).set v none) j = gt γ j
    rw [gt_set]
    split
    · exact .inl rfl
    · exact gt_wipe γ vs j
theorem gt_wipe_in (γ : En) : ∀ {js : List Nat} {j : Nat}, j ∈ js → gt (wipeE γ js) j = none
  | v :: vs, j, h => by
    show gt ((wipeE γ vs).set v none) j = none
    rw [gt_set]
    split
    · rfl
    · rename_i c
      rcases List.mem_cons.mp h with e | h
      · subst e
        cases q : gt (wipeE γ vs) j with
        | none => rfl
        | some e => exact absurd ⟨rfl, gt_lt q⟩ c
      · exact gt_wipe_in γ h
theorem own_wipe {γ : En} {js : List Nat} {v : Nat} (h : ownB γ v = false) : ownB (wipeE γ js) v = false := by
  unfold ownB at h ⊢
  rcases gt_wipe γ js v with e | e
  · rw [e]
  · rw [e]; exact h
theorem dropAll {K : PySem.W.Frag} {σ : L2.St} {H Hk : Hp} {γ : En} (o : Ok K σ H Hk γ) : ∀ js : List Nat, noOwns γ js = true → Go K σ H Hk γ (wipe σ js) H Hk (wipeE γ js)
  | [], _ => Go.refl o
  | v :: vs, h => by
    simp only [noOwns, Bool.and_eq_true, Bool.not_eq_true'] at h
    have g := dropAll o vs h.2
    exact g.trans (g.ok.drop (noOwn_of (own_wipe h.1)))
theorem restoreAll {K : PySem.W.Frag} {σ : L2.St} {H Hk H2 Hk2 : Hp} {γ : En} (o : Ok K σ H Hk γ) : ∀ (js : List Nat) (γ2 : En), noOwns γ js = true → Go K (wipe σ js) H Hk (wipeE γ js) (wipe σ js) H2 Hk2 γ2 → (∀ j ∈ js, gt γ2 j = none) → Go K σ H Hk γ σ H2 Hk2 (putBack γ γ2 js)
  | [], _, _, g, _ => g
  | v :: vs, γ2, h, g, n => by
    simp only [noOwns, Bool.and_eq_true, Bool.not_eq_true'] at h
    have gd := dropAll o vs h.2
    have gr := gd.ok.restore g (own_wipe h.1) (n v (by simp))
    refine restoreAll o vs _ h.2 gr fun j hj => ?_
    rw [gt_set]
    split
    · rename_i c
      rw [c.1]
      exact gt_wipe_in γ hj
    · exact n j (by simp [hj])
theorem wipe_wipe (σ : L2.St) : ∀ js : List Nat, wipe (wipe σ js) js = wipe σ js := by
  have at1 : ∀ (τ : L2.St) (js : List Nat) (i : Nat), (wipe τ js)[i]? = if i ∈ js ∧ i < τ.length then some none else τ[i]? := by
    intro τ js
    induction js with
    | nil => intro i; simp [wipe]
    | cons v vs ih =>
      intro i
      show ((wipe τ vs).set v none)[i]? = _
      rw [List.getElem?_set, ih, wipe_length]
      by_cases e : v = i
      · subst e
        by_cases l : v < τ.length
        · simp [l]
        · simp [l]
      · have e' : ¬ i = v := fun z => e z.symm
        simp [e, e']
  intro js
  apply List.ext_getElem?
  intro i
  rw [at1, wipe_length, at1]
  split <;> rfl
/-- what a target does, by data, and that it stores at js alone -/
def TgOk (K : PySem.W.Frag) (g : TG) (tg : Fg) (js : List Nat) : Prop := ∀ v d σ H Hk γ γ2 (Q : L2.St → Hp → Prop), Ok K σ H Hk γ → Dp K Hk v d → tg d γ = some γ2 → (∀ σ2, Go K σ H Hk γ σ2 H Hk γ2 → wipe σ2 js = wipe σ js → Q σ2 H) → g v σ H Q
theorem tg_name {K : PySem.W.Frag} (j : Nat) : TgOk K (gName j) (gDat j) [j] := by
  intro v d σ H Hk γ γ2 Q o r e q
  unfold gDat at e
  split at e <;> cases e
  rename_i c
  refine q _ (o.setDat r (noPin_of o (by simpa using c))) ?_
  show (σ.set j (some v)).set j none = σ.set j none
  rw [List.set_set]
theorem tg_pair {K : PySem.W.Frag} (i j : Nat) : TgOk K (gTup K 2 (gCons (gName i) (gCons (gName j) gNil))) (gTp 2 (gsCons (gDat i) (gsCons (gDat j) gsNo))) [i, j] := by
  intro v d σ H Hk γ γ2 Q o r e q
  unfold gTp at e
  split at e
  · rename_i ds
    split at e
    · match ds, r, e with
      | [d1, d2], r, e =>
        cases r with
        | tup hs ra =>
          cases ra with
          | cons r1 ra =>
            cases ra with
            | cons r2 ra =>
              cases ra
              simp only [gsCons, gsNo] at e
              unfold gDat at e
              split at e
              · rename_i γa ea
                split at ea <;> cases ea
                rename_i c1
                split at e
                · rename_i γb eb
                  split at eb <;> cases eb
                  rename_i c2
                  cases e
                  have g1 := o.setDat r1 (noPin_of o (by simpa using c1))
                  have g2 := g1.ok.setDat r2 (noPin_of g1.ok (by simpa using c2))
                  refine ⟨_, _, rfl, sqt_mono o.sub hs, rfl, _, _, rfl, _, _, rfl, rfl, q _ (g1.trans g2) ?_⟩
                  show ((((σ.set i _).set j _).set j none).set i none) = (σ.set j none).set i none
                  apply List.ext_getElem?
                  intro k
                  simp only [List.getElem?_set, List.length_set]
                  by_cases h1 : i = k <;> by_cases h2 : j = k <;> simp [h1, h2]
                · cases e
              · cases e
    · cases e
  · cases e
/-- a new object beside the situation -/
theorem Go.beside {K : PySem.W.Frag} {σ σ2 : L2.St} {H Hk H2 Hk2 : Hp} {γ γ2 : En} {p : Addr} {o o2 : HO} (k : Ok K σ H Hk γ) (hp : H p = none) (g : Go K σ (upd H p o) Hk γ σ2 (upd H2 p o2) Hk2 γ2) (h2 : H2 p = none) (hk2 : Hk2 p = none) (no2 : ¬ OwnA σ2 γ2 p) : Go K σ H Hk γ σ2 H2 Hk2 γ2 := by
  have nown : ¬ OwnA σ γ p := fun ⟨i, b, ds, e, h⟩ => by
    obtain ⟨q, vs, e1, hq, _⟩ := k.own i b ds e
    rw [h] at e1; cases e1
    rw [hp] at hq; cases hq
  refine ⟨⟨g.ok.len, fun a u e => ?_, g.ok.dat, fun i b ds e => ?_, g.ok.pin, g.ok.sep, g.ok.tab⟩, g.kk, fun a u e n => ?_, fun a u e n => ?_, fun a e => ?_, g.pn⟩
  · have := g.ok.sub a u e
    by_cases ha : a = p
    · subst ha; rw [hk2] at e; cases e
    · rw [upd_ne ha] at this; exact this
  · obtain ⟨q, vs, e1, hq, r⟩ := g.ok.own i b ds e
    by_cases ha : q = p
    · subst ha; exact absurd ⟨i, b, ds, e, e1⟩ no2
    · rw [upd_ne ha] at hq; exact ⟨q, vs, e1, hq, r⟩
  · rcases g.nw a u e n with z | z
    · by_cases ha : a = p
      · subst ha; rw [upd_same] at z; cases z
      · rw [upd_ne ha] at z; exact .inl z
    · exact .inr z
  · have ha : a ≠ p := ne_of_none e hp
    have := g.kp a u (by rw [upd_ne ha]; exact e) n
    rw [upd_ne ha] at this; exact this
  · rcases g.sh a e with z | z
    · exact .inl z
    · by_cases ha : a = p
      · subst ha; exact absurd e no2
      · rw [upd_ne ha] at z; exact .inr z
end DN
namespace DN
open PySem PySem.Spec PyProof.Rows L2
section
variable {K : PySem.W.Frag}
/-- an evaluation beside an object that it does not know -/
theorem aside {σ2 σ3 : L2.St} {H0 Hk H4 Hk4 : Hp} {γb γ4 : En} {L : Addr} {o : HO} (k : Ok K σ2 H0 Hk γb) (hL : H0 L = none) (hk : Hk L = none) (g : Go K σ2 (upd H0 L o) Hk γb σ3 H4 Hk4 γ4) :
    ∃ H04, H4 = upd H04 L o ∧ H04 L = none ∧ Hk4 L = none ∧ Go K σ2 H0 Hk γb σ3 H04 Hk4 γ4 := by
  have nown : ¬ OwnA σ2 γb L := fun ⟨i, b, ds, e, h⟩ => by
    obtain ⟨q, vs, e1, hq, _⟩ := k.own i b ds e
    rw [h] at e1; cases e1
    rw [hL] at hq; cases hq
  have h4 : H4 L = some o := g.kp L o upd_same nown
  have hk4 : Hk4 L = none := by
    cases e : Hk4 L with
    | none => rfl
    | some u =>
      rcases g.nw L u e hk with z | z
      · rw [upd_same] at z; cases z
      · exact absurd z nown
  have no4 : ¬ OwnA σ3 γ4 L := fun z => by
    rcases g.sh L z with z | z
    · exact nown z
    · rw [upd_same] at z; cases z
  refine ⟨fun a => if a = L then none else H4 a, ?_, by simp, hk4, ?_⟩
  · funext a
    by_cases ha : a = L
    · subst ha; rw [upd_same]; exact h4
    · rw [upd_ne ha]; simp [ha]
  · refine Go.beside (o := o) (o2 := o) k hL ?_ (by simp) hk4 no4
    have e : upd (fun a => if a = L then none else H4 a) L o = H4 := by
      funext a
      by_cases ha : a = L
      · subst ha; rw [upd_same]; exact h4.symm
      · rw [upd_ne ha]; simp [ha]
    rw [e]
    exact g
theorem lc_imp {js : List Nat} {g : TG} {tg : Fg} {src : Fa} {tt : Ft} {elt : Fe} {σ : L2.St} {H : Hp} {Q : VK} (hg : TgOk K g tg js) (h : tL K (lLc js tg src tt elt) σ H Q) : tLc (tIt K src) g (tT K tt) (tI K elt) js σ H Q := by
  obtain ⟨γ, Hk, out, γr, k, e, q⟩ := h
  unfold lLc at e
  split at e
  · rename_i ds γ1 es
    split at e
    · rename_i no
      split at e <;> cases e
      rename_i γ2 el
      refine ⟨γ, Hk, ds, γ1, k, es, fun J H1 Hk1 g1 wk L hL => ?_⟩
      have gd := dropAll g1.ok js no
      have hk1L : Hk1 L = none := g1.ok.sub.free hL
      let W : Nat → Nat → Hp → Prop := fun i m H' => m = ds.length - i ∧ i ≤ ds.length ∧ ∃ γ' Hk' acc av H0, H' = upd H0 L (.lst av) ∧ H0 L = none ∧ Go K (wipe σ js) H1 Hk1 (wipeE γ1 js) (wipe σ js) H0 Hk' γ' ∧ (∀ j ∈ js, gt γ' j = none) ∧ Hk' L = none ∧ Same Hk1 Hk' ∧ DpAll K Hk' av acc ∧ lcF js tg tt elt (ds.drop i) γ' acc = some (out, γ2)
      refine ⟨W, ⟨ds.length, by simp, Nat.zero_le _, wipeE γ1 js, Hk1, [], [], H1, rfl, hL, Go.refl gd.ok, fun j hj => gt_wipe_in _ hj, hk1L, Same.refl _, .nil, by simpa using el⟩, ?_⟩
      rintro i m H' ⟨rfl, hi, γ', Hk', acc, av, H0, rfl, h0L, gg, gj, hkL, sk, ra, ef⟩
      obtain ⟨w1, w2⟩ := wk (upd H0 L (.lst av)) Hk' sk (gg.ok.sub.trans (same_upd h0L))
      by_cases hlt : i < ds.length
      · obtain ⟨go, yl⟩ := w1 i hlt
        rw [List.drop_eq_getElem_cons hlt] at ef
        unfold lcF at ef
        refine .inr ⟨go, W (i + 1) (ds.length - (i + 1)), fun H3 w => ⟨_, by omega, w⟩, fun x H'' y => ?_⟩
        obtain ⟨Hc, gr, rv⟩ := yl x H'' y
        have ok0 : Ok K (wipe σ js) (upd H0 L (.lst av)) Hk' γ' := gg.ok.grow (Grow.newH gg.ok.sub h0L)
        have gy := ok0.go gr
        split at ef
        · rename_i γ0 etg
          refine hg x ds[i] _ _ Hc γ' γ0 _ gy.ok rv etg fun σ2 gt2 hw => ?_
          rw [wipe_wipe] at hw
          have ga := gy.trans gt2
          -- back to the block's beginning
          have back : ∀ {H3 Hk3 : Hp} {γ3 : En}, Go K (wipe σ js) H0 Hk' γ' σ2 H3 Hk3 γ3 → noOwns γ3 js = true → Go K (wipe σ js) H1 Hk1 (wipeE γ1 js) (wipe σ js) H3 Hk3 (wipeE γ3 js) := fun {H3 Hk3 γ3} g3 n3 => by
            have := (gg.trans g3).trans (dropAll g3.ok js n3)
            rw [hw] at this
            exact this
          refine ⟨hw, ?_⟩
          split at ef
          · rename_i γ3 et
            refine ⟨γ0, Hc, true, γ3, gt2.ok, et, fun H3 Hk3 g3 => iteT ?_⟩
            split at ef
            · rename_i y γ4 ee
              split at ef
              · rename_i c
                rw [Bool.and_eq_true] at c
                refine ⟨γ3, Hk3, y, γ4, g3.ok, ee, fun u H4 Hk4 g4 r4 => ?_⟩
                obtain ⟨H04, rfl, h04, hk4, g5⟩ := aside gg.ok h0L hkL ((ga.trans g3).trans g4)
                have hla : av.length = acc.length := dps_len ra
                have kk4 : Same Hk' Hk4 := g5.kk
                refine ⟨av, upd_same, by rw [hla]; exact okN_lt c.1, rfl, hlt, _, Hk4, acc ++ [y], av ++ [u], H04, upd_upd, h04, back g5 c.2, fun j hj => gt_wipe_in _ hj, hk4, sk.trans kk4, ?_, ef⟩
                exact dps_app (dps_mono kk4 ra) (.cons r4 .nil)
              · cases ef
            · cases ef
          · rename_i γ3 et
            refine ⟨γ0, Hc, false, γ3, gt2.ok, et, fun H3 Hk3 g3 => iteF ?_⟩
            split at ef
            · rename_i c
              obtain ⟨H03, rfl, h03, hk3, g5⟩ := aside gg.ok h0L hkL (ga.trans g3)
              exact ⟨rfl, hlt, _, Hk3, acc, av, H03, rfl, h03, back g5 c, fun j hj => gt_wipe_in _ hj, hk3, sk.trans g5.kk, dps_mono g5.kk ra, ef⟩
            · cases ef
          · cases ef
        · cases ef
      · have e0 : i = ds.length := by omega
        subst e0
        rw [List.drop_length] at ef
        cases ef
        exact .inl ⟨w2 _ (Nat.le_refl _), q L av H0 Hk' (g1.trans (restoreAll g1.ok js _ no gg gj)) h0L ra⟩
    · cases e
  · cases e
end
end DN
namespace DN
open PySem PySem.Spec PyProof.Rows L2
/-! ### list comprehensions as rules -/
section
variable {X : Cx} {elt it tge : Expr} {ifs : List Expr} {scope : Scope} {own : List (Str × Nat)} {src : Fa} {g : TG} {tg : Fg} {tt : Ft} {ef : Fe} {pos : Pos} {js : List Nat} {y : Str}
theorem el_lc (hj : own.map (·.2) = js) (htg : TgOk X.K g tg js) (hc : X.calm = true) (hN : X.N.Nodup) (hi : EI X tge it src) (ok : BlkOk X.N X.env.scope scope own)
    (hg : ∀ (s : Shared) (H : Hp) (C : Addr) (cl : List (Str × Addr)) (fp : List Addr), PG (X.blk s H scope (compEnvC scope cl C X.env) fp) tge g)
    (ht : ∀ (s : Shared) (H : Hp) (C : Addr) (cl : List (Str × Addr)) (fp : List Addr), PTs (X.blk s H scope (compEnvC scope cl C X.env) fp) ifs (tT X.K tt))
    (he : ∀ (s : Shared) (H : Hp) (C : Addr) (cl : List (Str × Addr)) (fp : List Addr), EV (X.blk s H scope (compEnvC scope cl C X.env) fp) elt ef) (hs : ∀ x, foldedSetIterable it X.env x = pure x := by intro _; rfl) :
    EL X (.ListComp elt [⟨tge, it, ifs, 0⟩] scope pos) (lLc js tg src tt ef) := by
  subst hj
  exact PE.imp (pe_lc (te := tI X.K ef) hc hN hi ok hg ht he hs) fun _ _ _ h => lc_imp htg h
theorem es_lcOwn (i : Nat) {py spos : Pos} (hj : own.map (·.2) = js) (htg : TgOk X.K g tg js) (hc : X.calm = true) (hN : X.N.Nodup) (hy : X.N[i]? = some y) (hyl : X.env.scope.names.lookup y = some .local)
    (hsw : swapsWith (.ListComp elt [⟨tge, it, ifs, 0⟩] scope pos) (some (.Name y py)) spos.line X.env = pure true) (hi : EI X tge it src) (ok : BlkOk X.N X.env.scope scope own)
    (hg : ∀ (s : Shared) (H : Hp) (C : Addr) (cl : List (Str × Addr)) (fp : List Addr), PG (X.blk s H scope (compEnvC scope cl C X.env) fp) tge g)
    (ht : ∀ (s : Shared) (H : Hp) (C : Addr) (cl : List (Str × Addr)) (fp : List Addr), PTs (X.blk s H scope (compEnvC scope cl C X.env) fp) ifs (tT X.K tt))
    (he : ∀ (s : Shared) (H : Hp) (C : Addr) (cl : List (Str × Addr)) (fp : List Addr), EV (X.blk s H scope (compEnvC scope cl C X.env) fp) elt ef) (hs : ∀ x, foldedSetIterable it X.env x = pure x := by intro _; rfl) :
    ES X (.Assign [.Name y py] (.ListComp elt [⟨tge, it, ifs, 0⟩] scope pos) spos) (sOwn i (lLc js tg src tt ef)) := by
  subst hj
  refine PS.imp (ps_setLc (te := tI X.K ef) hc hN hy hyl hsw hi ok hg ht he hs) fun Z σ H h => ?_
  have h2 := own_imp h
  exact lc_imp htg h2
theorem es_lcDat (i : Nat) {py spos : Pos} (hj : own.map (·.2) = js) (htg : TgOk X.K g tg js) (hc : X.calm = true) (hN : X.N.Nodup) (hy : X.N[i]? = some y) (hyl : X.env.scope.names.lookup y = some .local)
    (hsw : swapsWith (.ListComp elt [⟨tge, it, ifs, 0⟩] scope pos) (some (.Name y py)) spos.line X.env = pure true) (hi : EI X tge it src) (ok : BlkOk X.N X.env.scope scope own)
    (hg : ∀ (s : Shared) (H : Hp) (C : Addr) (cl : List (Str × Addr)) (fp : List Addr), PG (X.blk s H scope (compEnvC scope cl C X.env) fp) tge g)
    (ht : ∀ (s : Shared) (H : Hp) (C : Addr) (cl : List (Str × Addr)) (fp : List Addr), PTs (X.blk s H scope (compEnvC scope cl C X.env) fp) ifs (tT X.K tt))
    (he : ∀ (s : Shared) (H : Hp) (C : Addr) (cl : List (Str × Addr)) (fp : List Addr), EV (X.blk s H scope (compEnvC scope cl C X.env) fp) elt ef) (hs : ∀ x, foldedSetIterable it X.env x = pure x := by intro _; rfl) :
    ES X (.Assign [.Name y py] (.ListComp elt [⟨tge, it, ifs, 0⟩] scope pos) spos) (sAsg (fL (lLc js tg src tt ef)) (gDat i)) := by
  subst hj
  refine PS.imp (ps_setLc (te := tI X.K ef) hc hN hy hyl hsw hi ok hg ht he hs) fun Z σ H h => ?_
  obtain ⟨γ, Hk, o, k, e, q⟩ := h
  unfold sAsg fL at e
  refine lc_imp (K := X.K) (tg := tg) (src := src) (tt := tt) (elt := ef) (Q := fun x H1 => gName i x σ H1 Z.nx) htg ?_
  cases el : lLc (own.map (·.2)) tg src tt ef γ with
  | none => rw [el] at e; cases e
  | some r =>
    obtain ⟨ds, γ1⟩ := r
    rw [el] at e
    simp only at e
    cases eg : gDat i (.list ds) γ1 with
    | none => rw [eg] at e; cases e
    | some γ2 =>
      rw [eg] at e; cases e
      refine ⟨γ, Hk, ds, γ1, k, el, fun p vs H2 Hk2 g hp r => ?_⟩
      have g2 : Grow H2 Hk2 (upd H2 p (.lst vs)) (upd Hk2 p (.lst vs)) := Grow.new g.ok.sub hp
      have g3 := g.trans (g.ok.go g2)
      exact gDat_imp ⟨γ1, _, .list ds, γ2, g3.ok, .lst (SqL.of upd_same) (dps_mono g2.kk r), eg, fun σ2 g4 => q σ2 _ _ (g3.trans g4)⟩
end

/-! ### a def's contract: a function of data; the first argument may be a list of the caller's that the def changes -/
def Args (K : PySem.W.Frag) (bor : Bool) (H Hk : Hp) (vs : List V) (ds : List D) : Prop := match bor with
  | false => DpAll K Hk vs ds
  | true => ∃ p ws bs vs' ds', vs = .ref p :: vs' ∧ ds = .list bs :: ds' ∧ H p = some (.lst ws) ∧ Hk p = none ∧ DpAll K Hk ws bs ∧ DpAll K Hk vs' ds'
abbrev Fun' := List D → Option (D × List D)
def spD (K : PySem.W.Frag) (bor : Bool) (n : Nat) (F : Fun') (vs : List V) (H : Hp) (Q : VK) : Prop := vs.length = n ∧ ∃ Hk ds d out, Same Hk H ∧ Args K bor H Hk vs ds ∧ F ds = some (d, out) ∧
  ∀ v H2 Hk2, Same Hk2 H2 → Same Hk Hk2 → (∀ a u, Hk2 a = some u → Hk a = none → H a = none) → (∀ a u, H a = some u → (bor = true → vs[0]? ≠ some (.ref a)) → H2 a = some u) → Dp K Hk2 v d →
    (bor = true → ∃ p ws, vs[0]? = some (.ref p) ∧ H2 p = some (.lst ws) ∧ Hk2 p = none ∧ DpAll K Hk2 ws out) → Q v H2
structure FnG (P : Program) (w : World) (K : PySem.W.Frag) (mg : Str → Option Value) (base : Heap) (k : Nat) (f : Addr) (fd : FuncData) (ps : List Str) (bor : Bool) (F : Fun') : Prop where
  run : ∀ (A : Around) (outer : List Env) (s : Shared) (H : Hp) (args : PySem.Args) (us : List Value) (vs : List V) (Q : VK), Room k A → A.guards = some [] → Env0 P w K mg base A outer s H → BindsTo s fd args (ps.zip us) → Vals vs us →
    spD K bor ps.length F vs H Q → codeAny (model P w) A (.call (.ref f) args) (CR CX0 outer P w H s Q E0) s
@[simp] def ini (bor : Bool) (m : Nat) (ds : List D) : En := (match bor, ds with
  | true, .list bs :: r => some (.own true bs) :: r.map fun d => some (.dat d)
  | _, ds => ds.map fun d => some (.dat d)) ++ List.replicate m none
/-- the body B does what F tells -/
def Does (bor : Bool) (m : Nat) (B : Fs) (F : Fun') : Prop := ∀ ds d out, F ds = some (d, out) → ∃ γ2, (B (ini bor m ds) = some (.rt d γ2) ∨ (d = .none ∧ B (ini bor m ds) = some (.nx γ2))) ∧ (bor = true → gt γ2 0 = some (.own true out))
theorem gt_map : ∀ (ds : List D) (r : En) (i : Nat), gt ((ds.map fun d => some (Ent.dat d)) ++ r) i = if h : i < ds.length then some (.dat ds[i]) else gt r (i - ds.length)
  | [], r, i => by simp
  | d :: ds, r, 0 => by simp [gt]
  | d :: ds, r, i + 1 => by
    have := gt_map ds r i
    simp only [List.map_cons, List.cons_append, gt, this, List.length_cons, Nat.add_lt_add_iff_right, Nat.add_sub_add_right, List.getElem_cons_succ]
theorem gt_rep : ∀ (m i : Nat), gt (List.replicate m none) i = none
  | 0, _ => rfl
  | m + 1, 0 => rfl
  | m + 1, i + 1 => gt_rep m i
theorem start_at {N : List Str} {vs : List V} {i : Nat} {v : V} (h : vs[i]? = some v) : (L2.start N vs)[i]? = some (some v) := by
  have hi := (List.getElem?_eq_some_iff.mp h).1
  unfold L2.start
  rw [List.getElem?_append_left (by simpa using hi), List.getElem?_map, h]
  rfl
theorem ini_dat {K : PySem.W.Frag} {N : List Str} {vs : List V} {ds : List D} {H Hk : Hp} {m : Nat} (s : Same Hk H) (a : DpAll K Hk vs ds) (hl : vs.length + m = N.length) : Ok K (L2.start N vs) H Hk ((ds.map fun d => some (Ent.dat d)) ++ List.replicate m none) := by
  have no : ∀ {i b es}, gt ((ds.map fun d => some (Ent.dat d)) ++ List.replicate m none) i = some (.own b es) → False := fun {i b es} e => by
    rw [gt_map] at e
    split at e
    · cases e
    · rw [gt_rep] at e; cases e
  have nt : ∀ {i kvs}, gt ((ds.map fun d => some (Ent.dat d)) ++ List.replicate m none) i = some (.tab kvs) → False := fun {i kvs} e => by
    rw [gt_map] at e
    split at e
    · cases e
    · rw [gt_rep] at e; cases e
  refine ⟨?_, s, fun i d e => ?_, fun i b es e => (no e).elim, fun i es e => (no e).elim, fun i _ b _ es _ _ e _ => (no e).elim, fun i kvs e => (nt e).elim⟩
  · unfold L2.start
    simp [← dps_len a]
    omega
  · rw [gt_map] at e
    split at e
    · rename_i h
      cases e
      obtain ⟨v, ev, r⟩ := dps_at a (List.getElem?_eq_getElem h)
      exact ⟨v, start_at ev, r⟩
    · rw [gt_rep] at e; cases e
theorem ini_ok {K : PySem.W.Frag} {N : List Str} {bor : Bool} {vs : List V} {ds : List D} {H Hk : Hp} {m : Nat} (s : Same Hk H) (a : Args K bor H Hk vs ds) (hl : vs.length + m = N.length) : Ok K (L2.start N vs) H Hk (ini bor m ds) := by
  cases bor with
  | false => exact ini_dat s a hl
  | true =>
    obtain ⟨p, ws, bs, vs', ds', rfl, rfl, hp, hk, aw, a'⟩ := a
    have hs : L2.start N (.ref p :: vs') = some (.ref p) :: L2.start (N.drop 1) vs' := by
      unfold L2.start
      simp only [List.map_cons, List.cons_append, List.length_cons, List.length_drop]
      rw [show N.length - (vs'.length + 1) = N.length - 1 - vs'.length by omega]
    have hi : ini true m (.list bs :: ds') = some (.own true bs) :: ((ds'.map fun d => some (Ent.dat d)) ++ List.replicate m none) := rfl
    have k := ini_dat (N := N.drop 1) (m := m) s a' (by rw [List.length_drop]; simp only [List.length_cons] at hl; omega)
    rw [hs, hi]
    have no : ∀ {i b es}, gt ((ds'.map fun d => some (Ent.dat d)) ++ List.replicate m none) i = some (.own b es) → False := fun {i b es} e => by
      rw [gt_map] at e
      split at e
      · cases e
      · rw [gt_rep] at e; cases e
    refine ⟨by simp only [List.length_cons]; rw [k.len], s, fun i d e => ?_, fun i b es e => ?_, fun i es e => ?_, fun i j b c es fs q ei ej => ?_, fun i kvs e => ?_⟩
    · cases i with
      | zero => cases e
      | succ i =>
        obtain ⟨v, ev, r⟩ := k.dat i d e
        exact ⟨v, by simpa using ev, r⟩
    · cases i with
      | zero => cases e; exact ⟨p, ws, rfl, hp, hk, aw⟩
      | succ i => exact (no e).elim
    · cases i with
      | zero => rfl
      | succ i => exact (no e).elim
    · cases i with
      | zero =>
        cases j with
        | zero => intros; rfl
        | succ j => exact (no ej).elim
      | succ i => exact (no ei).elim
    · cases i with
      | zero => cases e
      | succ i =>
        obtain ⟨v, ev, r⟩ := k.tab i kvs e
        exact ⟨v, by simpa using ev, r⟩
@[simp] def runF (bor : Bool) (m : Nat) (B : Fs) : Fun' := fun ds => match B (ini bor m ds) with
  | some (.rt d γ2) => if bor then match gt γ2 0 with
    | some (.own true out) => some (d, out)
    | _ => none
    else some (d, [])
  | some (.nx γ2) => if bor then match gt γ2 0 with
    | some (.own true out) => some (.none, out)
    | _ => none
    else some (.none, [])
  | _ => none
theorem does_run (bor : Bool) (m : Nat) (B : Fs) : Does bor m B (runF bor m B) := by
  intro ds d out e
  unfold runF at e
  split at e
  · rename_i d' γ2 eB
    refine ⟨γ2, ?_⟩
    split at e
    · split at e <;> cases e
      rename_i eo
      exact ⟨.inl eB, fun _ => eo⟩
    · rename_i c
      cases e
      exact ⟨.inl eB, fun z => absurd z c⟩
  · rename_i γ2 eB
    refine ⟨γ2, ?_⟩
    split at e
    · split at e <;> cases e
      rename_i eo
      exact ⟨.inr ⟨rfl, eB⟩, fun _ => eo⟩
    · rename_i c
      cases e
      exact ⟨.inr ⟨rfl, eB⟩, fun z => absurd z c⟩
  · cases e
/-- a def by its body's function -/
theorem fnG_of {P : Program} {w : World} {K : PySem.W.Frag} {mg : Str → Option Value} {base : Heap} {x qual : Str} {st : Stmt} {f : Addr} {fd : FuncData} {N ps : List Str} {k m : Nat} {bor : Bool} {F : Fun'} {B : Fs} (Fu : Fun K x qual st f fd) (S : FnScope N ps (defScope st))
    (hm : ps.length + m = N.length) (hF : Does bor m B F)
    (hb : ∀ (cdv : Value) (A : Around) (outer : List Env) (s : Shared) (H : Hp), (A.deeper (envOfC qual (defScope st) s.heap.objs.size f cdv)).guards = some [] → Room k (A.deeper (envOfC qual (defScope st) s.heap.objs.size f cdv)) →
      ESs (cxOf CX0 P w K mg base N qual (defScope st) f cdv A outer s H E0).nox (defBody st) B) :
    FnG P w K mg base (k + 1) f fd ps bor F := by
  obtain ⟨oc, od, kV, doc, pm, an, cdv, ct, osl, rfl, lk, hcd⟩ := Fu.ex
  refine ⟨fun A outer s H args us vs Q hr hG e0 bd rv sp => ?_⟩
  obtain ⟨hlen, Hk, ds, d, out, hsub, ha, eF, post⟩ := sp
  have inK : K.In s.heap := e0.mod.kin.keeps fun b o e => (e0.bs b o e).1
  have noLim : s.heap.NoLimit := e0.mod.nolimit.keeps fun b o e => (e0.bs b o e).1
  have kinds : ∀ y ∈ ps.zip us, (defScope st).names.lookup y.1 = some .local ∨ ((defScope st).names.lookup y.1 = some .cell ∧ ((cellsFrom (s.heap.objs.size + 1) (defScope st).names []).lookup y.1).isSome = true) := by
    rintro ⟨nm, vl⟩ hy
    rcases S.par nm (List.of_mem_zip hy).1 with z | z
    · exact .inl z
    · exact .inr ⟨z, PySem.W.cellsFrom_some _ _ _ (.inl z)⟩
  refine codeAny_call_function hr.depth (inK _ _ lk) rfl S.co S.gen rfl (PySem.W.codeRec_of inK hcd) (bd _ _ _ _ ?_)
  refine wpAny_newFunctionEnv_cells S.kind kinds fun env henv s1 ic => ?_
  subst henv
  refine ⟨noLim.keeps ic.toInCall.keep, codeAny_func ?_⟩
  have J0 : Inv (cxOf CX0 P w K mg base N qual (defScope st) f cdv A outer s H E0) [] (L2.start N vs) H s1 := inv_start S hr.hd e0 hlen rv ic
  have body := hb cdv A outer s H (by simpa [Around.deeper] using hG) (hr.deeper _)
  obtain ⟨γ2, eB, eO⟩ := hF ds d out eF
  have ok0 : Ok K (L2.start N vs) H Hk (ini bor m ds) := ini_ok hsub ha (by rw [hlen]; exact hm)
  -- what the caller is told
  have tell : ∀ {v : V} {σ2 : L2.St} {H2 Hk2 : Hp}, Go K (L2.start N vs) H Hk (ini bor m ds) σ2 H2 Hk2 γ2 → Dp K Hk2 v d → Q v H2 := by
    intro v σ2 H2 Hk2 g r
    have own0 : ∀ a, OwnA (L2.start N vs) (ini bor m ds) a → bor = true ∧ vs[0]? = some (.ref a) ∧ Hk2 a = none := by
      rintro a ⟨i, b, es, e, h1⟩
      cases bor with
      | false =>
        exfalso
        have e : gt ((ds.map fun d => some (Ent.dat d)) ++ List.replicate m none) i = some (.own b es) := e
        rw [gt_map] at e
        split at e
        · cases e
        · rw [gt_rep] at e; cases e
      | true =>
        obtain ⟨p, ws, bs, vs', ds', rfl, rfl, hp, hk, aw, a'⟩ := ha
        cases i with
        | zero =>
          have h1 : some (some (V.ref p)) = some (some (V.ref a)) := h1
          cases h1
          refine ⟨rfl, rfl, ?_⟩
          obtain ⟨e2, es2, h2⟩ := g.pn 0 bs rfl
          obtain ⟨q, us2, e3, _, e4, _⟩ := g.ok.own 0 _ _ h2
          rw [e2] at e3
          have e3 : some (some (V.ref a)) = some (some (V.ref q)) := e3
          cases e3
          exact e4
        | succ i =>
          exfalso
          have e : gt ((ds'.map fun d => some (Ent.dat d)) ++ List.replicate m none) i = some (.own b es) := e
          rw [gt_map] at e
          split at e
          · cases e
          · rw [gt_rep] at e; cases e
    refine post v H2 Hk2 g.ok.sub g.kk (fun a u h n => ?_) (fun a u h n => g.kp a u h fun z => ?_) r (fun hbor => ?_)
    · rcases g.nw a u h n with z | z
      · exact z
      · have := (own0 a z).2.2
        rw [h] at this; cases this
    · obtain ⟨z1, z2, _⟩ := own0 a z
      exact n z1 z2
    · subst hbor
      obtain ⟨p, ws, bs, vs', ds', rfl, rfl, hp, hk, aw, a'⟩ := ha
      obtain ⟨e2, _⟩ := g.pn 0 bs rfl
      obtain ⟨q, us2, e3, e4, e5, e6⟩ := g.ok.own 0 _ _ (eO rfl)
      rw [e2] at e3
      have e3 : some (some (V.ref p)) = some (some (V.ref q)) := e3
      cases e3
      exact ⟨p, us2, rfl, e4, e5, e6⟩
  have run : wpAny (model P w) (A.deeper (envOfC qual (defScope st) s.heap.objs.size f cdv)) (execs (defBody st) (envOfC qual (defScope st) s.heap.objs.size f cdv))
      (SP (cxOf CX0 P w K mg base N qual (defScope st) f cdv A outer s H E0) [] { nx := fun _ H' => Q .non H', rt := Q }) (cxOf CX0 P w K mg base N qual (defScope st) f cdv A outer s H E0).xe s1 := by
    refine body.nox.run [] s1 (L2.start N vs) H { nx := fun _ H' => Q .non H', rt := Q } J0 ?_
    rcases eB with eB | ⟨rfl, eB⟩
    · exact ⟨_, Hk, _, ok0, eB, fun v σ2 H2 Hk2 g r => tell g r⟩
    · exact ⟨_, Hk, _, ok0, eB, fun σ2 H2 Hk2 g => tell g .non⟩
  refine wpAny_mono run (fun fl s' hs => ?_) fun e s' hs => hs
  have done : ∀ {σ' : L2.St} {H' : Hp} {v : V} {u : Value}, Inv (cxOf CX0 P w K mg base N qual (defScope st) f cdv A outer s H E0) [] σ' H' s' → RelV v u → Q v H' → CE outer P w H s Q u s' := by
    intro σ' H' v u J r q
    exact ⟨v, H', J.os, J.bare, J.base, J.hok, r, q⟩
  cases fl with
  | ret u =>
    obtain ⟨v, σ', H', J, r, q⟩ := hs
    exact done J r q
  | next =>
    obtain ⟨σ', H', J, q⟩ := hs
    exact done (v := V.non) (u := Value.none) J rfl q
  | brk =>
    obtain ⟨_, _, _, q⟩ := hs
    exact q.elim
  | cont =>
    obtain ⟨_, _, _, q⟩ := hs
    exact q.elim
end DN
namespace DN
open PySem PySem.Spec PyProof.Rows L2
/-! ### calls of the text's own defs -/
def Cal (P : Program) (w : World) (K : PySem.W.Frag) (mg : Str → Option Value) (base : Heap) (x : Str) (k : Nat) (ps : List Str) (bor : Bool) (F : Fun') : Prop :=
  ∃ f fd, FnG P w K mg base k f fd ps bor F ∧ mg x = some (.ref f) ∧ PySem.W.keepIn K (.ref f) = true ∧ Binds K fd ps []
@[simp] def fCall (n : Nat) (F : Fun') (fa : Fa) : Fe := fun γ => match fa γ with
  | some (ds, γ1) => if ds.length = n then match F ds with
    | some (d, _) => some (d, γ1)
    | none => none
    else none
  | none => none
@[simp] def fCallB (n : Nat) (F : Fun') (i : Nat) (fa : Fa) : Fe := fun γ => match gt γ i with
  | some (.own _ _) => match fa γ with
    | some (ds, γ1) => match gt γ1 i with
      | some (.own b bs) => if ds.length + 1 = n then match F (.list bs :: ds) with
        | some (d, out) => some (d, γ1.set i (some (.own b out)))
        | none => none
        else none
      | _ => none
    | none => none
  | _ => none
theorem Ok.borrow {K : PySem.W.Frag} {σ : L2.St} {H Hk H2 Hk2 : Hp} {γ : En} {i : Nat} {b : Bool} {ds out : List D} {p : Addr} {ws : List V} (o : Ok K σ H Hk γ) (h : gt γ i = some (.own b ds)) (hs : σ[i]? = some (some (.ref p))) (sub : Same Hk2 H2) (kk : Same Hk Hk2)
    (nw : ∀ a u, Hk2 a = some u → Hk a = none → H a = none) (kp : ∀ a u, H a = some u → a ≠ p → H2 a = some u) (hp : H2 p = some (.lst ws)) (hk : Hk2 p = none) (r : DpAll K Hk2 ws out) : Go K σ H Hk γ σ H2 Hk2 (γ.set i (some (.own b out))) := by
  obtain ⟨p', vs, e1, hp1, _⟩ := o.own i b ds h
  rw [hs] at e1; cases e1
  have g : Grow H Hk (upd H2 p (.lst vs)) Hk2 := by
    refine ⟨fun a u e => ?_, kk, fun a u e => ?_, nw⟩
    · by_cases ha : a = p
      · subst ha; rw [upd_same]; rw [hp1] at e; exact e
      · rw [upd_ne ha]; exact kp a u e ha
    · rw [upd_ne (ne_of_none e hk)]
      exact sub a u e
  have g1 := o.go g
  have g2 := g1.ok.write h hs r
  have e : upd (upd H2 p (.lst vs)) p (.lst ws) = H2 := by
    rw [upd_upd]
    funext a
    by_cases ha : a = p
    · subst ha; rw [upd_same, hp]
    · rw [upd_ne ha]
  rw [e] at g2
  exact g1.trans g2
section
variable {X : Cx} {x : Str} {k n : Nat} {ps : List Str} {F : Fun'} {e : Expr} {es : List Expr} {fa : Fa} {p pos : Pos}
theorem runG {f : Addr} {fd : FuncData} {bor : Bool} {pins : List (Addr × Obj)} {σ : L2.St} {H : Hp} {s : Shared} {Q : VK} {us : List Value} {vs : List V} (G : FnG X.prog X.w X.K X.mg X.base k f fd ps bor F) (hr : Room k X.A) (hG : X.A.guards = some []) (hb : Binds X.K fd ps [])
    (I : Inv X pins σ H s) (r : Vals vs us) (h : spD X.K bor ps.length F vs H Q) : wpAny (model X.prog X.w) X.A (call (.ref f) us) (EP X pins σ Q) X.xe s := by
  have hl : us.length = ps.length := by rw [← r.length]; exact h.1
  have bd := hb s us I.kIn (by rw [List.append_nil]; exact hl)
  rw [List.append_nil] at bd
  refine wpAny_call (codeAny_mono (G.run X.A X.stack s H ⟨us, []⟩ us vs Q hr hG I.env0 bd r h) fun res s' hq => ?_)
  cases res with
  | error ex => exact hq.elim
  | ok fl =>
    cases fl with
    | ret u => exact I.after hq
    | next => exact hq.elim
    | brk => exact hq.elim
    | cont => exact hq.elim
theorem ev_call (C : Cal X.prog X.w X.K X.mg X.base x k ps false F) (hr : Room k X.A) (hG : X.A.guards = some []) (hg : Gl X x) (ha : EA X (e :: es) fa) (hn : ps.length = n := by rfl)
    (hdb : (x == ("__debug__" : Str)) = false := by decide) (he : starEach (e :: es) X.env = (false, eval e X.env) :: starEach es X.env := by rfl) (hpl : (backTo pos (starEach es X.env)).any (·.1) = false := by rfl) :
    EV X (.Call (.Name x p) (e :: es) [] pos) (fCall n F fa) := by
  subst hn
  obtain ⟨f, fd, G, hm, hk, hb⟩ := C
  refine ⟨fun pins s σ H Q I h => ?_⟩
  obtain ⟨γ, Hk, d, γ2, ok, ee, q⟩ := h
  unfold fCall at ee
  split at ee
  · rename_i ds γ1 ea
    split at ee
    · rename_i hl
      split at ee <;> cases ee
      rename_i out eF
      refine wpAny_Call_Name_kw (ld_glob I hg hm ?_ hdb)
      refine PySem.W.callWith_K (h₀ := X.base) I.ok.mod.kin hk (thn (ha.run pos pins s σ H (fun vs H1 => spD X.K false ps.length F vs H1 Q) I ⟨γ, Hk, ds, _, ok, ea, fun vs H1 Hk1 g1 r1 => ?_⟩) fun us s1 ⟨vs, H1, I1, r, q1⟩ => ⟨I1.kIn, ?_⟩) he hpl
      · refine ⟨by rw [dps_len r1]; exact hl, Hk1, ds, d, out, g1.ok.sub, r1, eF, fun v H2 Hk2 s2 k2 nw kp r2 _ => ?_⟩
        exact q v H2 Hk2 (g1.trans (g1.ok.go ⟨fun a u h => kp a u h fun z => absurd z Bool.false_ne_true, k2, s2, nw⟩)) r2
      · exact runG G hr hG hb I1 r q1
    · cases ee
  · cases ee
theorem ev_call0 (C : Cal X.prog X.w X.K X.mg X.base x k ps false F) (hr : Room k X.A) (hG : X.A.guards = some []) (hg : Gl X x) (hn : ps.length = n := by rfl)
    (hdb : (x == ("__debug__" : Str)) = false := by decide) : EV X (.Call (.Name x p) [] [] pos) (fCall n F aNil) := by
  subst hn
  obtain ⟨f, fd, G, hm, hk, hb⟩ := C
  refine ⟨fun pins s σ H Q I h => ?_⟩
  obtain ⟨γ, Hk, d, γ2, ok, ee, q⟩ := h
  unfold fCall aNil at ee
  simp only at ee
  split at ee
  · rename_i hl
    split at ee <;> cases ee
    rename_i out eF
    refine wpAny_Call_Name_kw (ld_glob I hg hm ?_ hdb)
    refine PySem.W.callWith_K0 I.kIn hk (runG (us := []) (vs := []) G hr hG hb I .nil ?_)
    exact ⟨hl, Hk, [], d, out, ok.sub, .nil, eF, fun v H2 Hk2 s2 k2 nw kp r2 _ => q v H2 Hk2 (ok.go ⟨fun a u h => kp a u h fun z => absurd z Bool.false_ne_true, k2, s2, nw⟩) r2⟩
  · cases ee
theorem ev_callO (i : Nat) (C : Cal X.prog X.w X.K X.mg X.base x k ps true F) (hr : Room k X.A) (hG : X.A.guards = some []) (hg : Gl X x) (hv : PE X e (tVar i)) (ha : EA X es fa) (hn : ps.length = n := by rfl)
    (hdb : (x == ("__debug__" : Str)) = false := by decide) (he : starEach (e :: es) X.env = (false, eval e X.env) :: starEach es X.env := by rfl) (hpl : (backTo pos (starEach es X.env)).any (·.1) = false := by rfl) :
    EV X (.Call (.Name x p) (e :: es) [] pos) (fCallB n F i fa) := by
  subst hn
  obtain ⟨f, fd, G, hm, hk, hb⟩ := C
  refine ⟨fun pins s σ H Q I h => ?_⟩
  obtain ⟨γ, Hk, d, γ2, ok, ee, q⟩ := h
  unfold fCallB at ee
  split at ee
  · rename_i b0 bs0 e0
    split at ee
    · rename_i ds γ1 ea
      split at ee
      · rename_i b bs eo
        split at ee
        · rename_i hl
          split at ee <;> cases ee
          rename_i out eF
          obtain ⟨p0, vs0, e1, _⟩ := ok.own i _ _ e0
          refine wpAny_Call_Name_kw (ld_glob I hg hm ?_ hdb)
          refine PySem.W.callWith_K (h₀ := X.base) I.ok.mod.kin hk (thn ((pa_cons hv ha he).run pos pins s σ H (fun vs H1 => spD X.K true ps.length F vs H1 Q) I ⟨_, e1, γ, Hk, ds, γ1, ok, ea, fun vs H1 Hk1 g1 r1 => ?_⟩) fun us s1 ⟨vs, H1, I1, r, q1⟩ => ⟨I1.kIn, ?_⟩) he hpl
          · obtain ⟨p1, ws, e2, hp, hkp, rw'⟩ := g1.ok.own i _ _ eo
            rw [e1] at e2; cases e2
            refine ⟨by rw [List.length_cons, dps_len r1]; exact hl, Hk1, .list bs :: ds, d, out, g1.ok.sub, ⟨p0, ws, bs, vs, ds, rfl, rfl, hp, hkp, rw', r1⟩, eF, fun v H2 Hk2 s2 k2 nw kp r2 ho => ?_⟩
            obtain ⟨p2, us, e3, h3, h4, h5⟩ := ho rfl
            cases e3
            exact q v H2 Hk2 (g1.trans (g1.ok.borrow eo e1 s2 k2 nw (fun a u h n => kp a u h fun _ z => n (by cases z; rfl)) h3 h4 h5)) r2
          · exact runG G hr hG hb I1 r q1
        · cases ee
      · cases ee
    · cases ee
  · cases ee
end
/-! ### repr -/
def reprD (d : D) : Option D := if d.showable && !d.hasDict && okN d.shown.length && decide (d.depth ≤ 60) then some (.str d.shown) else none
def rRepr (K : PySem.W.Frag) : List V → Hp → VK → Prop := fun xs H Q => ∃ x d, xs = [x] ∧ Dp K H x d ∧ d.showable = true ∧ d.hasDict = false ∧ d.shown.length ≤ sizeLine ∧ d.depth ≤ 60 ∧ Q (.str d.shown) H
theorem x_repr {X : Cx} (hG : X.A.guards = some []) (hu : X.A.units + 64 < cLine) : CallR X (.builtin "repr") (rRepr X.K) := by
  intro pins s σ H xs us Q I r h
  obtain ⟨x, d, rfl, hd, h1, h2, h3, h4, q⟩ := h
  cases r with
  | cons r rr =>
    cases rr
    have fin : ∀ (h' : Heap) (u tk : Tok), (∀ b o, s.heap.get? b = some o → h'.get? b = some o) → EP X pins σ Q (.str d.shown u) { s with heap := h', toks := tk } := fun h' u tk hk => ⟨V.str d.shown, H, I.kept hk, ⟨u, rfl⟩, q⟩
    cases hd with
    | non => cases r; exact PySem.P.repr_of_none (fin s.heap _ _ fun _ _ e => e)
    | bl b => cases r; exact PySem.P.repr_of_bool (by have := fin s.heap s.toks (s.toks + 1) fun _ _ e => e; cases b <;> exact this)
    | int i => obtain ⟨t, rfl⟩ := r; exact PySem.P.repr_of_int (by simpa [PyData.showable] using h1) (fin s.heap _ _ fun _ _ e => e)
    | str z => obtain ⟨t, rfl⟩ := r; exact PySem.P.repr_of_str (fin s.heap _ _ fun _ _ e => e) (by simpa only [PyData.shown] using h3)
    | @lst a vs ds hs ha =>
      cases r
      obtain ⟨as, hr⟩ := Dp.reads I (.list ds) (.ref a) (.ref a) (.lst hs ha) rfl
      exact repr_of_reads' hr h1 (PyData.noDict_hsm h2) hG (by omega) (fun _ _ e => e) (fun h' u tk hk => fin h' u tk hk) h3
    | @tup a vs ds hs ha =>
      cases r
      obtain ⟨as, hr⟩ := Dp.reads I (.tuple ds) (.ref a) (.ref a) (.tup hs ha) rfl
      exact repr_of_reads' hr h1 (PyData.noDict_hsm h2) hG (by omega) (fun _ _ e => e) (fun h' u tk hk => fin h' u tk hk) h3
theorem o_repr {K : PySem.W.Frag} : Op1 K (fun x => rRepr K [x]) reprD := by
  intro H Hk x dx dz Q s vx e q
  unfold reprD at e
  split at e <;> cases e
  rename_i c
  simp only [Bool.and_eq_true, Bool.not_eq_true', decide_eq_true_eq] at c
  exact ⟨x, dx, rfl, vx.dp s, c.1.1.1, c.1.1.2, okN_line c.1.2, c.2, q _ H Hk (Grow.refl s) (.str _)⟩
end DN
namespace DN
open PySem PySem.Spec PyProof.Rows L2
/-! ### the law's own call -/
@[simp] def scriptD (ns : List Int) : D := .list (ns.map .int)
theorem lawG {P : Program} {w : World} {K : PySem.W.Frag} {mg mb : Str → Option Value} {k : Nat} {fa a : Addr} {fd : FuncData} {x : Str} {F : Fun'} {s₁ : Shared} {vs : List Value} {ns : List Int} {out : List D}
    (inK : K.In s₁.heap) (gl : s₁.heap.Ns mainGlobals mg) (bl : s₁.heap.Ns builtinsNs mb) (bb : ∀ x : Str, x ≠ "__name__" → mb x = bootBuiltins x) (nl : s₁.heap.NoLimit) (gn : s₁.gens = #[])
    (oa : s₁.heap.get? a = some { cls := .type "list", data := .seq vs.toArray }) (ia : IntsAre vs ns) (sz : ns.length ≤ sizeLine) (rm : Room k callerA)
    (G : ∀ base : Heap, K.In base → base.Ns mainGlobals mg → FnG P w K mg base k fa fd [x] false F) (bd : ∀ (s : Shared) (u : Value), BindsTo s fd ⟨[u], []⟩ [(x, u)])
    (hF : F [scriptD ns] = some (.bool true, out)) :
    codeAny (model P w) callerA (.call (.ref fa) ⟨[.ref a], []⟩) (fun r s' => r = .ok (.ret (.bool true)) ∧ OldK s₁.heap s'.heap ∧ s'.os = s₁.os ∧ AllBare s'.gens) s₁ := by
  have vi := vals_ints ia
  -- the script's object, tracked as known where it is none of the module's own
  let T : HO := .frz { cls := .type "list", data := .seq vs.toArray } (.lst (ns.map V.int))
  let H : Hp := fun b => if b = a ∧ K.lookup a = none then some T else none
  have Hone : ∀ {b : Addr} {u : HO}, H b = some u → b = a ∧ K.lookup a = none ∧ u = T := by
    intro b u e
    by_cases c : b = a ∧ K.lookup a = none
    · have e' : (if b = a ∧ K.lookup a = none then some T else none) = some u := e
      rw [if_pos c] at e'
      cases e'
      exact ⟨c.1, c.2, rfl⟩
    · have e' : (if b = a ∧ K.lookup a = none then some T else none) = some u := e
      rw [if_neg c] at e'
      cases e'
  have seen : SqL K H a (ns.map V.int) := by
    cases ek : K.lookup a with
    | none => exact .inl (.inr ⟨_, if_pos ⟨rfl, ek⟩⟩)
    | some o =>
      have eo := inK a o ek
      rw [oa] at eo
      cases eo
      refine .inr ⟨_, vs.toArray, _, ek, rfl, rfl, rfl, ?_, by simpa using vi⟩
      rw [List.size_toArray, ia.length]
      exact sz
  have held : HOk P w H s₁.heap := by
    intro b u e
    obtain ⟨rfl, _, rfl⟩ := Hone e
    refine ⟨oa, ?_, vs, _, vi, oa⟩
    rw [List.length_map]
    exact sz
  have bare : ∀ {b : Addr} {o : Obj}, s₁.heap.get? b = some o → H b = none → (hidT s₁.heap H).get? b = some o := fun e n => hidT_get e n
  have free : ∀ {b : Addr} {o : Obj} {es : Array DictEntry} {ep : Nat}, s₁.heap.get? b = some o → o.data = .dict es ep → H b = none := by
    intro b o es ep e d
    cases q : H b with
    | none => rfl
    | some u =>
      obtain ⟨rfl, _, _⟩ := Hone q
      rw [oa] at e
      cases e
      have d' : Data.seq vs.toArray _ = Data.dict es ep := d
      cases d'
  have names : ∀ {b : Addr} {m : Str → Option Value}, s₁.heap.Ns b m → (hidT s₁.heap H).Ns b m := by
    rintro b m ⟨o, es, ep, e, d, r⟩
    exact ⟨o, es, ep, bare e (free e d), d, r⟩
  have kb : K.In (hidT s₁.heap H) := by
    intro b o e
    refine bare (inK b o e) ?_
    cases q : H b with
    | none => rfl
    | some u =>
      obtain ⟨rfl, z, _⟩ := Hone q
      rw [z] at e
      cases e
  have md : Mod K mg (hidT s₁.heap H) := by
    obtain ⟨mc, h1, h2⟩ := nl
    exact ⟨kb, names gl, ⟨mb, names bl, bb⟩, ⟨mc, names h1, h2⟩⟩
  have e0 : Env0 P w K mg (hidT s₁.heap H) callerA [] s₁ H := by
    refine ⟨rfl, md, fun b o e => of_hidT e, Nat.le_of_eq (hidT_size _ _), trivial, fun b hb => ?_, held, .of_eq gn⟩
    exact absurd (show b ∈ ([] : List Addr) from hb) (by simp)
  have want : spD K false [x].length F [.ref a] H (fun v _ => v = .bl true) := by
    refine ⟨rfl, H, [scriptD ns], .bool true, out, Same.refl _, .cons (.lst seen (dps_map _ _ (fun n => .int n) _)) .nil, hF, fun v H2 Hk2 _ _ _ _ r _ => ?_⟩
    cases r
    rfl
  refine codeAny_mono ((G _ kb (names gl)).run callerA [] s₁ H ⟨[.ref a], []⟩ [.ref a] [.ref a] _ rm rfl e0 (bd s₁ (.ref a)) (.cons rfl .nil) want) fun r s' hq => ?_
  cases r with
  | error e => exact hq.elim
  | ok fl =>
    cases fl with
    | next => exact hq.elim
    | brk => exact hq.elim
    | cont => exact hq.elim
    | ret u =>
      obtain ⟨v, H', eos, ebare, un, hok', rv, q⟩ := hq
      have q : v = .bl true := q
      subst q
      obtain rfl : u = Value.bool true := rv
      refine ⟨rfl, OldK.of_keep fun b o e => ?_, eos, ebare⟩
      cases z : H b with
      | none => exact un.keep b o e z (by intro z; exact absurd (show b ∈ ([] : List Addr) from z) (by simp)) (by simp)
      | some u =>
        obtain ⟨rfl, _, rfl⟩ := Hone z
        obtain ⟨e2, _⟩ := hok' b _ (un.frzs b _ _ z)
        rw [oa] at e
        cases e
        exact e2
theorem walkG {l : PySem.W.OpenLaw} {n k : Nat} {q : Program} {loose : List Str} {XP : (Str → Option Value) → Heap → Prop} {YP : World → Heap → Prop} {d : DefRec} {K : Params → PySem.W.Frag} {x : Str} {F : Fun'}
    (hn : l.most = some n) (hn2 : n ≤ sizeLine) (hdf : d.params.defaults = []) (hr : Room k callerA)
    (hY : ∀ (w : World) (h : Heap), YP w h → (K w.params).In h)
    (G : ∀ (w : World) (mg : Str → Option Value) (fa : Addr) (h : Heap), (K w.params).In h → h.Ns mainGlobals mg → mg d.name = some (.ref fa) →
      ∃ fd : FuncData, (∀ (s : Shared) (u : Value), BindsTo s fd ⟨[u], []⟩ [(x, u)]) ∧ ∀ base : Heap, (K w.params).In base → base.Ns mainGlobals mg → FnG l.prog w (K w.params) mg base k fa fd [x] false F)
    (hF : ∀ ns : List Int, ns.length ≤ n → ∃ out, F [scriptD ns] = some (.bool true, out)) :
    PySem.W.WalkO q loose XP YP l.row.toRowW d [] (fun f vs => PySem.call f vs) := by
  refine Att.attach_call hn hdf fun w s₀ s₁ mg mb fa o pm cd doc a vs ns Gr Y ho hd hcd hmg hobj hints hlen hg => ?_
  have kx := hY w _ Y
  obtain ⟨fd, hb, hG⟩ := G w mg fa _ kx Gr.T.g hmg
  obtain ⟨out, e⟩ := hF ns hlen
  exact lawG kx Gr.T.g Gr.T.b Gr.T.builtins Gr.T.nolimit hg hobj hints (Nat.le_trans hlen hn2) hr hG hb e
end DN
namespace DN
open PySem PySem.Spec PyProof.Rows L2
/-! ### what the module's names hold -/
/-- the value u stands for the data d, lastingly -/
def VD (K : PySem.W.Frag) (u : Value) (d : D) : Prop := ∃ v, RelV v u ∧ ∀ H, Dp K H v d
def VDs (K : PySem.W.Frag) (us : List Value) (ds : List D) : Prop := ∃ vs, Vals vs us ∧ ∀ H, DpAll K H vs ds
section
variable {K : PySem.W.Frag}
theorem vd_int {i : Int} {t : Tok} : VD K (.int i t) (.int i) := ⟨.int i, ⟨t, rfl⟩, fun _ => .int i⟩
theorem vd_str {z : Str} {t : Tok} : VD K (.str z t) (.str z) := ⟨.str z, ⟨t, rfl⟩, fun _ => .str z⟩
theorem vds_nil : VDs K [] [] := ⟨[], .nil, fun _ => .nil⟩
theorem vds_cons {u : Value} {d : D} {us : List Value} {ds : List D} (h : VD K u d) (t : VDs K us ds) : VDs K (u :: us) (d :: ds) := by
  obtain ⟨v, r, a⟩ := h
  obtain ⟨vs, rs, b⟩ := t
  exact ⟨v :: vs, .cons r rs, fun H => .cons (a H) (b H)⟩
theorem vd_tup {a : Addr} {od : Option Addr} {its : Array Value} {n : Nat} {sl : Array (Option Value)} {ds : List D} (l : K.lookup a = some ⟨.type "tuple", od, .seq its n, sl⟩) (hz : its.size ≤ sizeLine) (h : VDs K its.toList ds) : VD K (.ref a) (.tuple ds) := by
  obtain ⟨vs, rs, b⟩ := h
  exact ⟨.ref a, rfl, fun H => .tup (.inr ⟨_, its, n, l, rfl, rfl, hz, rs⟩) (b H)⟩
theorem ev_glob {X : Cx} {x : Str} {u : Value} {d : D} {pos : Pos} (V : VD X.K u d) (hm : X.mg x = some u) (hg : Gl X x) (hd : (x == ("__debug__" : Str)) = false := by decide) : EV X (.Name x pos) (fC d) := by
  obtain ⟨v, r, a⟩ := V
  exact PE.imp (pe_glob hg hm r hd) fun σ H Q ⟨γ, Hk, d', γ2, o, e, q⟩ => by
    cases e
    exact q v H Hk (Go.refl o) (a Hk)
/-- a table of the module with text keys -/
def TabK (K : PySem.W.Frag) (d : Addr) : List (Str × D) → Prop
  | [] => True
  | p :: r => (∃ u, PySem.W.nsIn K d p.1 = some (some u) ∧ VD K u p.2) ∧ TabK K d r
theorem tabk_nil {K : PySem.W.Frag} {d : Addr} : TabK K d [] := True.intro
theorem tabk_cons {d : Addr} {k : Str} {x : D} {r : List (Str × D)} {u : Value} (h : PySem.W.nsIn K d k = some (some u)) (v : VD K u x) (t : TabK K d r) : TabK K d ((k, x) :: r) := ⟨⟨u, h, v⟩, t⟩
def tabOf : List (Str × D) → Str → Option D
  | [], _ => none
  | p :: r, z => if p.1 = z then some p.2 else tabOf r z
theorem TabK.get {d : Addr} : ∀ {kvs : List (Str × D)} {z : Str} {x : D}, TabK K d kvs → tabOf kvs z = some x → ∃ u, PySem.W.nsIn K d z = some (some u) ∧ VD K u x
  | [], _, _, _, e => by cases e
  | p :: r, z, x, ⟨h, t⟩, e => by
    unfold tabOf at e
    split at e
    · rename_i c; subst c; cases e; exact h
    · exact TabK.get t e
@[simp] def tabD (kvs : List (Str × D)) : D → Option D
  | .str z => tabOf kvs z
  | _ => none
structure Tab (K : PySem.W.Frag) (w : World) (u : Value) (kvs : List (Str × D)) : Prop where
  h : ∃ d es n, u = .ref d ∧ KDict K w d es n ∧ TabK K d kvs
theorem tab_of {w : World} {d : Addr} {es : Array DictEntry} {n : Nat} {kvs : List (Str × D)} (l : K.lookup d = some ⟨.type "dict", none, .dict es n, #[]⟩) (k : PySem.W.KeysLit w.params es.toList) (lo : (d == sysModules) = false) (t : TabK K d kvs) : Tab K w (.ref d) kvs :=
  ⟨d, es, n, rfl, ⟨l, k, lo⟩, t⟩
end
section
variable {X : Cx} {e : Expr} {f g : Fe} {x : Str} {kvs : List (Str × D)} {u : Value} {p pos : Pos}
theorem ix_kd {d : Addr} {es : Array DictEntry} {n : Nat} (T : KDict X.K X.w d es n) : IxR X (fun x y H Q => ∃ (z : Str) (u0 : Value) (v0 : V), x = .ref d ∧ y = .str z ∧ PySem.W.nsIn X.K d z = some (some u0) ∧ RelV v0 u0 ∧ Q v0 H) := by
  intro value slice pins s σ H x y v u Q I rx ry h hs
  have h' := h
  obtain ⟨z, u0, v0, rfl, rfl, en, r, q⟩ := h
  cases (show v = Value.ref d from rx)
  exact tail_any (ops := [.ref d, u]) (kd_type T I) PySem.slot_dict_getitem.lookup (op_item_kd T pins s σ H (.ref d) (.str z) (.ref d) u Q I rfl ry h') hs
theorem ev_tab (T : Tab X.K X.w u kvs) (hm : X.mg x = some u) (hg : Gl X x) (he : EV X e f) (hs : PlainIx e) (hd : (x == ("__debug__" : Str)) = false := by decide) : EV X (.Subscript (.Name x p) e pos) (f1 (tabD kvs) f) := by
  obtain ⟨d, es, n, rfl, T1, T2⟩ := T.h
  refine PE.imp (pe_ix (ix_kd T1) (pe_glob (v := .ref d) hg hm rfl hd) he hs) fun σ H Q ⟨γ, Hk, dd, γ2, ok, ee, q⟩ => ?_
  unfold f1 at ee
  split at ee
  · rename_i dx γ1 ef
    split at ee
    · rename_i z eo
      cases ee
      refine ⟨γ, Hk, dx, _, ok, ef, fun v2 H2 Hk2 g2 r2 => ?_⟩
      unfold tabD at eo
      split at eo
      · cases r2
        obtain ⟨u0, en, v0, rv, hv⟩ := T2.get eo
        exact ⟨_, u0, v0, rfl, rfl, en, rv, q v0 H2 Hk2 g2 (hv Hk2)⟩
      · cases eo
    · cases ee
  · cases ee
/-! ### texts: join, count, turned round -/
def strsD : List D → Option (List Str)
  | [] => some []
  | .str z :: r => (strsD r).map (z :: ·)
  | _ => none
theorem strsD_dps {K : PySem.W.Frag} {H : Hp} : ∀ {vs : List V} {ds : List D} {ys : List Str}, DpAll K H vs ds → strsD ds = some ys → vs = ys.map V.str
  | _, _, ys, .nil, e => by cases e; rfl
  | _, _, ys, .cons h t, e => by
    unfold strsD at e
    split at e
    · rename_i e2; cases e2
    · rename_i e2; cases e2
      obtain ⟨zs, e3, e4⟩ := Option.map_eq_some_iff.mp e
      subst e4
      cases h
      rw [strsD_dps t e3]; rfl
    · cases e
@[simp] def joinL (a : Str) (ds : List D) : Option D := match strsD ds with
  | some ys => if okN ((ys.map (·.length)).sum + ys.length * a.length) then some (.str (Txt.join a ys)) else none
  | none => none
@[simp] def joinD (a : Str) : D → Option D
  | .list ds => joinL a ds
  | .tuple ds => joinL a ds
  | _ => none
theorem joinL_eq {a : Str} {ds : List D} {z : D} (e : joinL a ds = some z) : ∃ ys, strsD ds = some ys ∧ (ys.map (·.length)).sum + ys.length * a.length ≤ 16777216 ∧ z = .str (Txt.join a ys) := by
  unfold joinL at e
  split at e
  · split at e <;> cases e
    rename_i ys es c
    exact ⟨ys, es, Nat.le_trans (of_decide_eq_true c) (by decide), rfl⟩
  · cases e
theorem ev_join {a : Str} {j p0 apos} (he : EV X e f) (hs : starEach [e] X.env = [(false, eval e X.env)] := by rfl) (hbase : attributeBase (.Constant (.str a) j p0) "join" X.env (eval (.Constant (.str a) j p0) X.env) = eval (.Constant (.str a) j p0) X.env := by rfl) (hline : (apos.endLine == pos.line) = true := by rfl) :
    EV X (.Call (.Attribute (.Constant (.str a) j p0) "join" apos) [e] [] pos) (f1 (joinD a) f) := PE.imp (pe_join pe_str he hs hbase hline) fun σ H Q ⟨γ, Hk, dd, γ2, ok, ee, q⟩ => by
  unfold f1 at ee
  split at ee
  · rename_i dx γ1 ef
    split at ee
    · rename_i z eo
      cases ee
      refine ⟨⟨a, rfl⟩, γ, Hk, dx, _, ok, ef, fun v2 H2 Hk2 g2 r2 => ?_⟩
      unfold joinD at eo
      split at eo
      · obtain ⟨ys, e1, e2, rfl⟩ := joinL_eq eo
        cases r2 with
        | lst h t =>
          cases strsD_dps t e1
          exact ⟨a, _, ys, rfl, rfl, .inl (sql_mono g2.ok.sub h), e2, q _ H2 Hk2 g2 (.str _)⟩
      · obtain ⟨ys, e1, e2, rfl⟩ := joinL_eq eo
        cases r2 with
        | tup h t =>
          cases strsD_dps t e1
          exact ⟨a, _, ys, rfl, rfl, .inr (sqt_mono g2.ok.sub h), e2, q _ H2 Hk2 g2 (.str _)⟩
      · cases eo
    · cases ee
  · cases ee
@[simp] def countD : D → D → Option D
  | .str a, .str b => some (.int (Txt.count a b))
  | _, _ => none
theorem ev_count {o : Expr} {apos} (ho : EV X o f) (he : EV X e g) (hs : starEach [e] X.env = [(false, eval e X.env)] := by rfl) (hbase : attributeBase o "count" X.env (eval o X.env) = eval o X.env := by rfl) (hline : (apos.endLine == pos.line) = true := by rfl) :
    EV X (.Call (.Attribute o "count" apos) [e] [] pos) (f2 countD f g) := PE.imp (pe_m1 F.slot_str_count F.type_str_count mt_count ho he hs hbase hline) fun σ H Q ⟨γ, Hk, dd, γ2, ok, ee, q⟩ => by
  unfold f2 at ee
  split at ee
  · rename_i dx γ1 ef
    split at ee
    · rename_i dy γ2' eg
      split at ee
      · rename_i z eo
        cases ee
        unfold countD at eo
        split at eo
        · cases eo
          refine ⟨γ, Hk, _, γ1, ok, ef, fun v1 H1 Hk1 g1 r1 => ?_⟩
          cases r1
          refine ⟨⟨_, rfl⟩, γ1, Hk1, _, _, g1.ok, eg, fun v2 H2 Hk2 g2 r2 => ?_⟩
          cases r2
          exact ⟨_, _, rfl, rfl, q _ H2 Hk2 (g1.trans g2) (.int _)⟩
        · cases eo
      · cases ee
    · cases ee
  · cases ee
def revS (z : Str) : Str := ⟨z.cps.toList.reverse.toArray⟩
@[simp] def revD : D → Option D
  | .str z => if okN z.length then some (.str (revS z)) else none
  | _ => none
theorem rev_pick (z : Str) : (⟨((Builtin.Str.strSliceIndices none none (-1) z.length).filterMap (z.cps[·]?)).toArray⟩ : Str) = revS z := by
  have e1 : Builtin.Str.strSliceIndices none none (-1) z.length = sliceRange ((z.length : Int) - 1) (-1) (-1) := by
    simp only [Builtin.Str.strSliceIndices]
    rfl
  have e2 : sliceRange ((z.length : Int) - 1) (-1) (-1) = (List.range z.length).reverse := by
    rw [PySem.W.krv_sliceRange, PySem.W.krv_range]
  have e3 : (List.range z.length).filterMap (z.cps[·]?) = z.cps.toList := PySem.W.krv_all z.cps
  rw [e1, e2, List.filterMap_reverse, e3]
  rfl
theorem ev_rev {k : Nat} {p1 p2 p3 : Pos} (he : EV X e f) : EV X (.Subscript e (.Slice none none (some (.UnaryOp .USub (.Constant (.int 1) k p1) p2)) p3) pos) (f1 revD f) := by
  refine ⟨fun pins s σ H Q I h => ?_⟩
  obtain ⟨γ, Hk, dd, γ2, ok, ee, q⟩ := h
  unfold f1 at ee
  split at ee
  · rename_i dx γ1 ef
    split at ee
    · rename_i z eo
      cases ee
      unfold revD at eo
      split at eo
      · rename_i str
        split at eo <;> cases eo
        rename_i c
        refine Subscript_ (thn (he.run pins s σ H (fun v2 H2 => v2 = .str str ∧ ∃ Hk2, Go X.K σ H Hk γ σ H2 Hk2 γ2) I ⟨γ, Hk, _, _, ok, ef, fun v2 H2 Hk2 g2 r2 => ⟨by cases r2; rfl, Hk2, g2⟩⟩) fun v s1 ⟨x, H1, I1, r1, ex, Hk2, g2⟩ => ?_)
        subst ex
        obtain ⟨t, rfl⟩ := r1
        have hst : PO X (some (.UnaryOp .USub (.Constant (.int 1) k p1) p2)) (tPart (tUn (rU fun i => .int (-i)) (tC (.int 1)))) := po_some (pe_un un_neg pe_int)
        refine wpAny_Slice (thn (po_none.run pins s1 σ H1 (fun o H2 => o = none ∧ H2 = H1) I1 ⟨rfl, rfl⟩) fun vl s2 ⟨l, H2, I2, pl, el, e2⟩ => ?_)
        subst el e2
        refine thn (po_none.run pins s2 σ H2 (fun o H3 => o = none ∧ H3 = H2) I2 ⟨rfl, rfl⟩) fun vu s3 ⟨u, H3, I3, pu, eu, e3⟩ => ?_
        subst eu e3
        refine thn (hst.run pins s3 σ H3 (fun o H4 => o = some (-1) ∧ H4 = H3) I3 ⟨1, rfl, -1, rfl, rfl, rfl⟩) fun vs s4 ⟨o, H4, I4, ps, eo, e4⟩ => ?_
        subst eo e4
        have I5 : Inv X pins σ H4 { s4 with heap := s4.heap.push { cls := .type "slice", data := .fields #[vl, vu, vs] } } := I4.kept (t' := s4.toks) fun b ob q => Heap.get?_push_of_some _ q
        show wpAny (model X.prog X.w) X.A (subscriptTail e (.Slice none none (some (.UnaryOp .USub (.Constant (.int 1) k p1) p2)) p3) (.str str t) (.ref s4.heap.objs.size)) (EP X pins σ Q) X.xe { s4 with heap := s4.heap.push { cls := .type "slice", data := .fields #[vl, vu, vs] } }
        refine tail_any (ops := [.ref s4.heap.objs.size, .str str t]) (typeIs_str _ _ _) F.slot_str_getitem.lookup ?_ (by with_unfolding_all rfl)
        obtain ⟨l, rfl, hl1⟩ := IsPart.raw pl
        obtain ⟨u, rfl, hu1⟩ := IsPart.raw pu
        obtain ⟨st, rfl, hs1⟩ := IsPart.raw ps
        refine wpAny_getItem_str_slice (l := l) (u := u) (st := st) ⟨_, Heap.get?_push_size _ rfl, rfl, rfl⟩ (by rw [hs1]; rfl) ?_
        have ep : slicePicked str l u st = Builtin.Str.strSliceIndices none none (-1) str.length := by
          unfold slicePicked
          rw [hl1, hu1, hs1]
          rfl
        unfold sliceMade
        rw [hs1, ep, rev_pick]
        have hlen : (revS str).length ≤ sizeLine := by
          have : (revS str).length = str.length := by simp [revS, Str.length]
          rw [this]
          exact okN_line c
        exact ⟨hlen, .str _, H4, I5.tok _, ⟨_, rfl⟩, q _ H4 Hk2 g2 (.str _)⟩
      · cases eo
    · cases ee
  · cases ee
@[simp] def isBd : D → D → Option D
  | .bool a, .bool b => some (.bool (decide (a = b)))
  | _, _ => none
@[simp] def notBd : D → D → Option D
  | .bool a, .bool b => some (.bool (!decide (a = b)))
  | _, _ => none
theorem o_isB {K : PySem.W.Frag} : Op2 K rIsB isBd := by
  intro H Hk x y dx dy dz Q s vx vy e q
  unfold isBd at e
  split at e <;> cases e
  exact ⟨_, _, vx.bl, vy.bl, q _ H Hk (Grow.refl s) (.bl _)⟩
theorem o_notB {K : PySem.W.Frag} : Op2 K rNotB notBd := by
  intro H Hk x y dx dy dz Q s vx vy e q
  unfold notBd at e
  split at e <;> cases e
  exact ⟨_, _, vx.bl, vy.bl, q _ H Hk (Grow.refl s) (.bl _)⟩
/-! ### {"a": "b", ..}.get(k, x) -/
def prK (kvs : List (Str × Str)) : List (TE × TE) := kvs.map fun p => (tC (.str p.1), tC (.str p.2))
def kvK (kvs : List (Str × Str)) : List (Key × V) := kvs.map fun p => (Sum.inr p.1, V.str p.2)
theorem tPairs_prK {σ : L2.St} {H : Hp} : ∀ {kvs : List (Str × Str)} {Q : List (V × V) → Hp → Prop}, Q ((kvK kvs).map fun kv => (kV kv.1, kv.2)) H → tPairs (prK kvs) σ H Q
  | [], _, q => q
  | p :: r, Q, q => by
    show tPairs (prK r) σ H fun ps H3 => Q ((V.str p.1, V.str p.2) :: ps) H3
    exact tPairs_prK q
/-- the last of the pairs with the key -/
def lastOf (kvs : List (Str × Str)) (z : Str) : Option Str := tabOf (kvs.reverse.map fun p => (p.1, PyData.str p.2)) z |>.bind fun | .str y => some y | _ => none
@[simp] def getD2 (get : Str → Option Str) : D → D → Option D
  | .str z, y => match get z with
    | some x => some (.str x)
    | none => some y
  | _, _ => none
theorem ev_dget2 {keys : List (Option Expr)} {values : List Expr} {kvs : List (Str × Str)} {get : Str → Option Str} {apos dpos} {e2 : Expr} (hu : X.A.units + 64 < cLine) (h : PPs X dpos keys values (prK kvs)) (hall : keys.all (·.isSome) = true) (hl : keys.length = values.length) (h0 : keys ≠ []) (h15 : keys.length ≤ 15) (hk : kvs.length ≤ 15)
    (hg : ∀ z, valV (mergeK [] (kvK kvs)) (Sum.inr z) = (get z).map V.str) (he : EV X e f) (hf : EV X e2 g) (m : M2 X (.Dict keys values dpos) "get" apos e e2 pos) :
    EV X (.Call (.Attribute (.Dict keys values dpos) "get" apos) [e, e2] [] pos) (f2 (getD2 get) f g) := PE.imp (pe_dget2 (by omega) (pe_disp h hall hl h0 h15) he hf m) fun σ H Q ⟨γ, Hk, dd, γ2, ok, ee, q⟩ => by
  unfold f2 at ee
  split at ee
  · rename_i dx γ1 ef
    split at ee
    · rename_i dy γ2' eg
      split at ee
      · rename_i z eo
        cases ee
        obtain ⟨z0, rfl⟩ : ∃ z0, dx = .str z0 := by
          cases dx with
          | str z0 => exact ⟨z0, rfl⟩
          | _ => cases eo
        · intro p hp
          refine tPairs_prK ⟨upd_same, kvK kvs, rfl, by simpa [kvK] using hk, ?_⟩
          have gr : Grow H Hk (upd (upd H p (.dK [])) p (.dK (mergeK [] (kvK kvs)))) Hk := by
            have e1 : upd (upd H p (.dK [])) p (.dK (mergeK [] (kvK kvs))) = upd H p (.dK (mergeK [] (kvK kvs))) := by
              funext a
              by_cases ha : a = p
              · subst ha; rw [upd_same, upd_same]
              · rw [upd_ne ha, upd_ne ha, upd_ne ha]
            rw [e1]
            exact Grow.newH ok.sub hp
          have ok1 := ok.grow gr
          refine ⟨p, rfl, .inl ⟨_, .inl upd_same⟩, γ, Hk, _, γ1, ok1, ef, fun v1 H1 Hk1 g1 r1 => ?_⟩
          cases r1
          refine ⟨γ1, Hk1, _, _, g1.ok, eg, fun v2 H2 Hk2 g2 r2 => ?_⟩
          have no : ∀ {σ0 : L2.St} {γ0 : En} {H0 Hk0 : Hp}, Ok X.K σ0 H0 Hk0 γ0 → H0 p = some (.dK (mergeK [] (kvK kvs))) → ¬ OwnA σ0 γ0 p := fun o e ⟨i, b, ds, ei, es⟩ => by
            obtain ⟨q', vs, e1, hq, _⟩ := o.own i b ds ei
            rw [es] at e1; cases e1
            rw [e] at hq; cases hq
          have h1 : H1 p = some (.dK (mergeK [] (kvK kvs))) := g1.kp _ _ upd_same (no ok1 upd_same)
          have h2 : H2 p = some (.dK (mergeK [] (kvK kvs))) := g2.kp _ _ h1 (no g1.ok h1)
          refine ⟨valV (mergeK [] (kvK kvs)) (Sum.inr z0), DGet.k (k := Sum.inr z0) h2, ?_⟩
          rw [hg]
          have gg := ((ok.go gr).trans g1).trans g2
          cases ex : get z0 with
          | some x0 =>
            simp only [getD2, ex] at eo
            cases eo
            exact q _ H2 Hk2 gg (.str _)
          | none =>
            simp only [getD2, ex] at eo
            cases eo
            exact q _ H2 Hk2 gg r2
      · cases ee
    · cases ee
  · cases ee
end
/-! ### a dict kept in a local name -/
section
variable {K : PySem.W.Frag} {σ : L2.St} {H Hk : Hp} {γ : En} {i : Nat}
theorem Ok.setTab {v : V} {kvs : Tabs} (o : Ok K σ H Hk γ) (r : Tb K Hk v kvs) (np : NoPin γ i) : Go K σ H Hk γ (σ.set i (some v)) H Hk (γ.set i (some (.tab kvs))) := by
  have ne : ∀ {j : Nat} {e : Ent}, gt γ j = some e → ¬ (i = j ∧ i < γ.length) → i ≠ j := fun h n z => n ⟨z, by rw [z]; exact gt_lt h⟩
  refine ⟨⟨by rw [List.length_set, List.length_set]; exact o.len, o.sub, fun j d' e => ?_, fun j b ds e => ?_, fun j ds e => ?_, fun j k b c ds es p ej ek => ?_, fun j d' e => ?_⟩, Same.refl _, fun a u h n => (by rw [h] at n; cases n), fun _ _ h _ => h, fun a h => ?_, fun j ds h => ?_⟩
  · rw [gt_set] at e
    split at e
    · cases e
    · rename_i c
      obtain ⟨v', e', r'⟩ := o.dat j d' e
      exact ⟨v', by rw [set_there (ne e c)]; exact e', r'⟩
  · rw [gt_set] at e
    split at e
    · cases e
    · rename_i c
      obtain ⟨p, vs, e', q⟩ := o.own j b ds e
      exact ⟨p, vs, by rw [set_there (ne e c)]; exact e', q⟩
  · rw [gt_set] at e
    split at e
    · cases e
    · exact o.pin _ _ e
  · rw [gt_set] at ej ek
    split at ej
    · cases ej
    · rename_i cj
      split at ek
      · cases ek
      · rename_i ck
        intro h1 h2
        rw [set_there (ne ej cj)] at h1
        rw [set_there (ne ek ck)] at h2
        exact o.sep _ _ _ _ _ _ _ ej ek h1 h2
  · rw [gt_set] at e
    split at e
    · rename_i c
      cases e
      refine ⟨v, ?_, r⟩
      rw [← c.1]
      exact set_here o.len c.2 _
    · rename_i c
      obtain ⟨v', e', r'⟩ := o.tab j d' e
      exact ⟨v', by rw [set_there (ne e c)]; exact e', r'⟩
  · obtain ⟨j, b, ds, e, h1⟩ := h
    rw [gt_set] at e
    split at e
    · cases e
    · rename_i c
      rw [set_there (ne e c)] at h1
      exact .inl ⟨j, b, ds, e, h1⟩
  · have hij : i ≠ j := fun z => np ds (by rw [z]; exact h)
    refine ⟨set_there hij _, ds, ?_⟩
    rw [gt_set, if_neg (fun c => hij c.1)]
    exact h
/-- a new dict, filled when all its values are there -/
theorem Go.fill {H2 Hk2 : Hp} {γ2 : En} {p : Addr} (k : Ok K σ H Hk γ) (hp : H p = none) (g : Go K σ (upd H p (.dK [])) Hk γ σ H2 Hk2 γ2) :
    H2 p = some (.dK []) ∧ Hk2 p = none ∧ ∀ kvs : List (Key × V), Go K σ H Hk γ σ (upd H2 p (.dK kvs)) (upd Hk2 p (.dK kvs)) γ2 := by
  have no : ∀ {σ0 : L2.St} {γ0 : En} {H0 Hk0 : Hp}, Ok K σ0 H0 Hk0 γ0 → (∀ vs, H0 p ≠ some (.lst vs)) → ¬ OwnA σ0 γ0 p := fun o e ⟨i, b, ds, ei, es⟩ => by
    obtain ⟨q', vs, e1, hq, _⟩ := o.own i b ds ei
    rw [es] at e1; cases e1
    exact e vs hq
  have no1 : ¬ OwnA σ γ p := no k (fun vs z => by rw [hp] at z; cases z)
  have h2 : H2 p = some (.dK []) := g.kp _ _ upd_same no1
  have hk2 : Hk2 p = none := by
    cases e : Hk2 p with
    | none => rfl
    | some u =>
      rcases g.nw p u e (k.sub.free hp) with z | z
      · rw [upd_same] at z; cases z
      · exact absurd z no1
  refine ⟨h2, hk2, fun kvs => ?_⟩
  have sm : Same Hk2 (upd Hk2 p (.dK kvs)) := same_upd hk2
  refine ⟨⟨g.ok.len, fun a u e => ?_, fun i d e => ?_, fun i b ds e => ?_, g.ok.pin, g.ok.sep, fun i t e => ?_⟩, g.kk.trans sm, fun a u e n => ?_, fun a u e n => ?_, fun a e => ?_, g.pn⟩
  · by_cases ha : a = p
    · subst ha; rw [upd_same] at e ⊢; exact e
    · rw [upd_ne ha] at e ⊢; exact g.ok.sub _ _ e
  · obtain ⟨v, e1, r⟩ := g.ok.dat i d e
    exact ⟨v, e1, dp_mono sm r⟩
  · obtain ⟨q, vs, e1, hq, hn, r⟩ := g.ok.own i b ds e
    have hqp : q ≠ p := fun z => by subst z; rw [h2] at hq; cases hq
    exact ⟨q, vs, e1, by rw [upd_ne hqp]; exact hq, by rw [upd_ne hqp]; exact hn, dps_mono sm r⟩
  · obtain ⟨v, e1, r⟩ := g.ok.tab i t e
    exact ⟨v, e1, r.mono sm⟩
  · by_cases ha : a = p
    · subst ha; exact .inl hp
    · rw [upd_ne ha] at e
      rcases g.nw a u e n with z | z
      · rw [upd_ne ha] at z; exact .inl z
      · exact .inr z
  · have ha : a ≠ p := ne_of_none e hp
    rw [upd_ne ha]
    exact g.kp a u (by rw [upd_ne ha]; exact e) n
  · rcases g.sh a e with z | z
    · exact .inl z
    · by_cases ha : a = p
      · subst ha; exact .inr hp
      · rw [upd_ne ha] at z; exact .inr z
end
def pairsF : List (Str × Fe) → En → Option (List (Str × D) × En)
  | [], γ => some ([], γ)
  | p :: r, γ => match p.2 γ with
    | some (d, γ1) => match pairsF r γ1 with
      | some (ds, γ2) => some ((p.1, d) :: ds, γ2)
      | none => none
    | none => none
@[simp] def sTab (i : Nat) (fs : List (Str × Fe)) : Fs := fun γ => match pairsF fs γ with
  | some (kvs, γ1) => if decide (kvs.length ≤ 15) && !pinB γ1 i then some (.nx (γ1.set i (some (.tab (.txt kvs))))) else none
  | none => none
def PR (K : PySem.W.Frag) (Hk : Hp) : List (Key × V) → List (Str × D) → Prop
  | [], [] => True
  | p :: r, q :: s => p.1 = Sum.inr q.1 ∧ Dp K Hk p.2 q.2 ∧ PR K Hk r s
  | _, _ => False
section
variable {K : PySem.W.Frag} {σ : L2.St}
theorem PR.mono {H H' : Hp} (s : Same H H') : ∀ {a : List (Key × V)} {b : List (Str × D)}, PR K H a b → PR K H' a b
  | [], [], _ => True.intro
  | _ :: _, _ :: _, ⟨h, d, t⟩ => ⟨h, dp_mono s d, PR.mono s t⟩
theorem PR.len {H : Hp} : ∀ {a : List (Key × V)} {b : List (Str × D)}, PR K H a b → a.length = b.length
  | [], [], _ => rfl
  | _ :: _, _ :: _, ⟨_, _, t⟩ => congrArg (· + 1) (PR.len t)
theorem PR.get {H : Hp} (z : Str) : ∀ {a : List (Key × V)} {b : List (Str × D)} {acc : List (Key × V)} {o : Option D}, PR K H a b → (∀ x, o = some x → ∃ u, valV acc (Sum.inr z) = some u ∧ Dp K H u x) →
    ∀ x, tabM b z o = some x → ∃ u, valV (mergeK acc a) (Sum.inr z) = some u ∧ Dp K H u x
  | [], [], acc, o, _, h, x, e => h x e
  | p :: r, q :: s, acc, o, ⟨hk, d, t⟩, h, x, e => by
    refine PR.get z (acc := putK acc p.1 p.2) (o := if q.1 = z then some q.2 else o) t (fun y ey => ?_) x e
    rw [valV_put, hk]
    by_cases c : q.1 = z
    · rw [if_pos c] at ey
      cases ey
      exact ⟨p.2, by rw [if_pos (by rw [c])], d⟩
    · rw [if_neg c] at ey
      obtain ⟨u, e1, r1⟩ := h y ey
      exact ⟨u, by rw [if_neg (fun w => c (by cases w; rfl))]; exact e1, r1⟩
def trsF (K : PySem.W.Frag) (fs : List (Str × Fe)) : List (TE × TE) := fs.map fun p => (tC (.str p.1), tI K p.2)
theorem tPairs_F : ∀ {fs : List (Str × Fe)} {γ γ2 : En} {H Hk : Hp} {kvs : List (Str × D)} {Q : List (V × V) → Hp → Prop}, Ok K σ H Hk γ → pairsF fs γ = some (kvs, γ2) →
    (∀ (ks : List (Key × V)) (H2 Hk2 : Hp), Go K σ H Hk γ σ H2 Hk2 γ2 → PR K Hk2 ks kvs → Q (ks.map fun kv => (kV kv.1, kv.2)) H2) → tPairs (trsF K fs) σ H Q
  | [], γ, γ2, H, Hk, kvs, Q, o, e, q => by
    cases e
    exact q [] H Hk (Go.refl o) True.intro
  | p :: r, γ, γ2, H, Hk, kvs, Q, o, e, q => by
    unfold pairsF at e
    split at e
    · rename_i d γ1 ef
      split at e
      · rename_i ds γ2' er
        cases e
        refine ⟨γ, Hk, d, γ1, o, ef, fun v H1 Hk1 g1 r1 => ?_⟩
        refine tPairs_F (γ := γ1) g1.ok er fun ks H2 Hk2 g2 pr => ?_
        exact q ((Sum.inr p.1, v) :: ks) H2 Hk2 (g1.trans g2) ⟨rfl, dp_mono g2.kk r1, pr⟩
      · cases e
    · cases e
end
section
variable {X : Cx} {e : Expr} {f : Fe} {pos p : Pos}
theorem es_tab (i : Nat) {x : Str} {p' dpos : Pos} {keys : List (Option Expr)} {values : List Expr} {fs : List (Str × Fe)} (hN : X.N.Nodup) (hi : X.N[i]? = some x) (hx : Loc X.env.scope x) (h : PPs X dpos keys values (trsF X.K fs)) (hall : keys.all (·.isSome) = true) (hl : keys.length = values.length) (h0 : keys ≠ []) (h15 : keys.length ≤ 15)
    (hs : swapsWith (.Dict keys values dpos) (some (.Name x p')) pos.line X.env = pure false := by rfl) (hf : X.fn x = true ∨ X.env.scope.names.lookup x = some .local := by first | exact .inl rfl | exact .inr rfl | assumption) :
    ES X (.Assign [.Name x p'] (.Dict keys values dpos) pos) (sTab i fs) := PS.imp (ps_set hN hi hx (pe_disp h hall hl h0 h15) hs hf) fun Z σ H ⟨γ, Hk, o, k, ee, q⟩ => by
  unfold sTab at ee
  split at ee
  · rename_i kvs γ1 ef
    split at ee <;> cases ee
    rename_i c
    rw [Bool.and_eq_true] at c
    intro p hp
    have gr : Grow H Hk (upd H p (.dK [])) Hk := Grow.newH k.sub hp
    refine tPairs_F (k.grow gr) ef fun ks H2 Hk2 g pr => ?_
    obtain ⟨h2, hk2, fill⟩ := Go.fill k hp g
    have gg := fill (mergeK [] ks)
    refine ⟨h2, ks, rfl, by rw [pr.len]; exact of_decide_eq_true c.1, ?_⟩
    have t : Tb X.K (upd Hk2 p (.dK (mergeK [] ks))) (.ref p) (.txt kvs) := ⟨p, mergeK [] ks, rfl, upd_same, fun z x ez => PR.get z (pr.mono (same_upd hk2)) (fun y ey => by cases ey) x ez⟩
    exact q _ _ _ (gg.trans (gg.ok.setTab t (noPin_of gg.ok (by simpa using c.2))))
  · cases ee
@[simp] def fTabL (i : Nat) (f : Fe) : Fe := fun γ => match gt γ i with
  | some (.tab _) => match f γ with
    | some (.str z, γ1) => match gt γ1 i with
      | some (.tab (.txt kvs)) => match tabM kvs z none with
        | some x => some (x, γ1)
        | none => none
      | _ => none
    | _ => none
  | _ => none
theorem ev_tabL {o : Expr} {i : Nat} (hu : X.A.units + 64 < cLine) (ho : PE X o (tVar i)) (he : EV X e f) (hs : NoSl e) : EV X (.Subscript o e pos) (fTabL i f) := PE.imp (pe_dget (by omega) ho he hs) fun σ H Q ⟨γ, Hk, d, γ2, k, ee, q⟩ => by
  unfold fTabL at ee
  split at ee
  · rename_i kv0 e0
    split at ee
    · rename_i z γ1 ef
      split at ee
      · rename_i kvs ei
        split at ee <;> cases ee
        rename_i x ex
        obtain ⟨v0, ev0, _⟩ := k.tab i kv0 e0
        refine ⟨v0, ev0, γ, Hk, _, γ2, k, ef, fun v H1 Hk1 g1 r1 => ?_⟩
        obtain ⟨v1, ev1, p, kvs', rfl, hp, t⟩ := g1.ok.tab i (.txt kvs) ei
        rw [ev0] at ev1
        cases ev1
        obtain ⟨u, eu, ru⟩ := t z d ex
        cases r1
        exact ⟨p, u, rfl, .inl ⟨kvs', Sum.inr z, .inl (g1.ok.sub _ _ hp), rfl, eu.symm⟩, q u H1 Hk1 g1 ru⟩
      · cases ee
    · cases ee
  · cases ee
/-! ### sorted of whole numbers -/
def insI (x : Int) : List Int → List Int
  | [] => [x]
  | y :: r => if x ≤ y then x :: y :: r else y :: insI x r
def sortI : List Int → List Int
  | [] => []
  | x :: r => insI x (sortI r)
theorem insI_perm (x : Int) : ∀ l : List Int, (insI x l).Perm (x :: l)
  | [] => .refl _
  | y :: r => by
    unfold insI
    split
    · exact .refl _
    · exact ((insI_perm x r).cons y).trans (.swap x y r)
theorem sortI_perm : ∀ l : List Int, (sortI l).Perm l
  | [] => .refl _
  | x :: r => (insI_perm x _).trans ((sortI_perm r).cons x)
theorem insI_sorted (x : Int) : ∀ l : List Int, l.Pairwise (· ≤ ·) → (insI x l).Pairwise (· ≤ ·)
  | [], _ => by simp [insI]
  | y :: r, h => by
    rw [List.pairwise_cons] at h
    unfold insI
    split
    · rename_i c
      rw [List.pairwise_cons]
      refine ⟨fun z hz => ?_, List.pairwise_cons.mpr h⟩
      rcases List.mem_cons.mp hz with rfl | hz
      · exact c
      · exact Int.le_trans c (h.1 z hz)
    · rename_i c
      rw [List.pairwise_cons]
      refine ⟨fun z hz => ?_, insI_sorted x r h.2⟩
      rcases List.mem_cons.mp ((insI_perm x r).mem_iff.mp hz) with rfl | hz
      · omega
      · exact h.1 z hz
theorem sortI_sorted : ∀ l : List Int, (sortI l).Pairwise (· ≤ ·)
  | [] => .nil
  | x :: r => insI_sorted x _ (sortI_sorted r)
theorem sorted_eq : ∀ {a b : List Int}, a.Perm b → a.Pairwise (· ≤ ·) → b.Pairwise (· ≤ ·) → a = b
  | [], b, h, _, _ => (List.Perm.eq_nil h.symm).symm
  | x :: a, [], h, _, _ => List.Perm.eq_nil h
  | x :: a, y :: b, h, ha, hb => by
    rw [List.pairwise_cons] at ha hb
    have h1 : x ≤ y := by
      rcases List.mem_cons.mp (h.mem_iff.mpr List.mem_cons_self) with e | m
      · omega
      · exact ha.1 y m
    have h2 : y ≤ x := by
      rcases List.mem_cons.mp (h.mem_iff.mp List.mem_cons_self) with e | m
      · omega
      · exact hb.1 x m
    obtain rfl : x = y := by omega
    rw [sorted_eq h.cons_inv ha.2 hb.2]
def intsD : List D → Option (List Int)
  | [] => some []
  | .int i :: r => (intsD r).map (i :: ·)
  | _ => none
theorem intsD_dps {K : PySem.W.Frag} {H : Hp} : ∀ {vs : List V} {ds : List D} {ns : List Int}, DpAll K H vs ds → intsD ds = some ns → vs = ns.map V.int
  | _, _, ys, .nil, e => by cases e; rfl
  | _, _, ys, .cons h t, e => by
    unfold intsD at e
    split at e
    · rename_i e2; cases e2
    · rename_i e2; cases e2
      obtain ⟨zs, e3, e4⟩ := Option.map_eq_some_iff.mp e
      subst e4
      cases h
      rw [intsD_dps t e3]; rfl
    · cases e
theorem intsD_map : ∀ ns : List Int, intsD (ns.map .int) = some ns
  | [] => rfl
  | n :: r => by
    show (intsD (r.map .int)).map (n :: ·) = _
    rw [intsD_map r]; rfl
@[simp] def lSort (f : Fe) : Fa := fun γ => match f γ with
  | some (.list ds, γ1) => match intsD ds with
    | some ns => some ((sortI ns).map .int, γ1)
    | none => none
  | _ => none
theorem el_sorted {a : Expr} (hm : X.mg "sorted" = none) (hg : Gl X "sorted") (ha : EV X a f) (he : starEach [a] X.env = (false, eval a X.env) :: starEach [] X.env := by rfl) (hpl : (backTo pos (starEach [] X.env)).any (·.1) = false := by rfl) :
    EL X (.Call (.Name "sorted" p) [a] [] pos) (lSort f) := PE.imp (pe_callB cr_sortedI hg hm (by decide +kernel) (pa_cons ha pa_nil he) (he := he) (hpl := hpl)) fun σ H Q ⟨γ, Hk, d, γ2, o, ee, q⟩ => by
  unfold lSort at ee
  split at ee
  · rename_i ds γ1 ef
    split at ee <;> cases ee
    rename_i ns en
    refine ⟨γ, Hk, _, γ2, o, ef, fun v H1 Hk1 g1 r1 => ?_⟩
    cases r1 with
    | lst h t =>
      cases intsD_dps t en
      refine ⟨_, ns, rfl, sql_mono g1.ok.sub h, fun ns' p hp hs hn => ?_⟩
      cases sorted_eq (hp.trans (sortI_perm ns).symm) hs (sortI_sorted ns)
      exact q p _ H1 Hk1 g1 hn (dps_map (K := X.K) V.int PyData.int (fun i => .int i) _)
  · cases ee
end
end DN
namespace DN
open PySem PySem.Spec PyProof.Rows L2
/-! ### a text in a text; max, min of two ints; str of an int -/
def inS (a b : Str) : Bool := !(Builtin.Str.occurrences b a 0 b.length 1).isEmpty
@[simp] def inSD : D → D → Option D
  | .str a, .str b => some (.bool (inS a b))
  | _, _ => none
@[simp] def notInSD : D → D → Option D
  | .str a, .str b => some (.bool (!inS a b))
  | _, _ => none
section
variable {K : PySem.W.Frag}
theorem o_inS : Op2 K (fun x y H Q => ∃ i j, x = .str i ∧ y = .str j ∧ Q (.bl (!(Builtin.Str.occurrences j i 0 j.length 1).isEmpty)) H) inSD := by
  intro H Hk x y dx dy dz Q s vx vy e q
  unfold inSD at e
  split at e <;> cases e
  exact ⟨_, _, vx.str, vy.str, q _ H Hk (Grow.refl s) (.bl _)⟩
theorem o_notInS : Op2 K (fun x y H Q => ∃ i j, x = .str i ∧ y = .str j ∧ Q (.bl (!(!(Builtin.Str.occurrences j i 0 j.length 1).isEmpty))) H) notInSD := by
  intro H Hk x y dx dy dz Q s vx vy e q
  unfold notInSD at e
  split at e <;> cases e
  exact ⟨_, _, vx.str, vy.str, q _ H Hk (Grow.refl s) (.bl _)⟩
@[simp] def maxD : D → D → Option D
  | .int i, .int j => some (.int (if j > i then j else i))
  | _, _ => none
@[simp] def minD : D → D → Option D
  | .int i, .int j => some (.int (if j < i then j else i))
  | _, _ => none
theorem o_max : Op2 K (fun x y H Q => (fun xs H Q => ∃ i j, xs = [V.int i, V.int j] ∧ Q (.int (if j > i then j else i)) H) [x, y] H Q) maxD := by
  intro H Hk x y dx dy dz Q s vx vy e q
  unfold maxD at e
  split at e <;> cases e
  cases vx.int; cases vy.int
  exact ⟨_, _, rfl, q _ H Hk (Grow.refl s) (.int _)⟩
theorem o_min : Op2 K (fun x y H Q => (fun xs H Q => ∃ i j, xs = [V.int i, V.int j] ∧ Q (.int (if j < i then j else i)) H) [x, y] H Q) minD := by
  intro H Hk x y dx dy dz Q s vx vy e q
  unfold minD at e
  split at e <;> cases e
  cases vx.int; cases vy.int
  exact ⟨_, _, rfl, q _ H Hk (Grow.refl s) (.int _)⟩
@[simp] def strD : D → Option D
  | .int i => if decide (i.natAbs < 2 ^ 1900) then some (.str (toString i)) else none
  | _ => none
theorem o_str : Op1 K (fun x H Q => (fun xs H Q => ∃ i, xs = [V.int i] ∧ i.natAbs.log2 < 1920 ∧ Q (.str (toString i)) H) [x] H Q) strD := by
  intro H Hk x dx dz Q s vx e q
  unfold strD at e
  split at e
  · rename_i i
    split at e <;> cases e
    rename_i c
    cases vx.int
    refine ⟨_, rfl, ?_, q _ H Hk (Grow.refl s) (.str _)⟩
    have := of_decide_eq_true c
    by_cases h : i.natAbs = 0
    · rw [h]; decide
    · exact Nat.lt_trans ((Nat.log2_lt h).mpr this) (by decide)
  · cases e
end
section
variable {X : Cx} {a b : Expr} {f g : Fe} {pos : Pos}
theorem ev_callB2 {x : Str} {id : String} {p : Pos} {r : List V → Hp → VK → Prop} {op : D → D → Option D} (o : Op2 X.K (fun x y => r [x, y]) op) (hc : CallR X (.builtin id) r) (hm : X.mg x = none) (hg : Gl X x) (hv : bootBuiltins x = some (.builtin id)) (ha : EV X a f) (hb : EV X b g)
    (hn : x ≠ "__name__" := by decide) (hdb : (x == ("__debug__" : Str)) = false := by decide) (he : starEach [a, b] X.env = (false, eval a X.env) :: starEach [b] X.env := by rfl) (he2 : starEach [b] X.env = (false, eval b X.env) :: starEach [] X.env := by rfl) (hpl : (backTo pos (starEach [b] X.env)).any (·.1) = false := by rfl) :
    EV X (.Call (.Name x p) [a, b] [] pos) (f2 op f g) := PE.imp (pe_callB hc hg hm hv (pa_cons ha (pa_cons hb pa_nil he2) he) hn hdb he hpl) fun _ _ _ h => t2 o h
end
/-! ### x += e, x -= e, whole numbers -/
@[simp] def sAug (op : Int → Int → Int) (i : Nat) (f : Fe) : Fs := fun γ => match gt γ i with
  | some (.dat (.int a)) => match f γ with
    | some (.int b, γ1) => if pinB γ1 i then none else some (.nx (γ1.set i (some (.dat (.int (op a b))))))
    | _ => none
  | _ => none
section
variable {X : Cx} {e : Expr} {f : Fe} {pos : Pos}
theorem es_aug {op : Operator} {o : Int → Int → Int} (ho : PIp X op (ipI o)) (i : Nat) {x : Str} {p' : Pos} (hN : X.N.Nodup) (hi : X.N[i]? = some x) (hx : Loc X.env.scope x) (he : EV X e f) (hf : X.fn x = true ∨ X.env.scope.names.lookup x = some .local := by first | exact .inl rfl | exact .inr rfl | assumption) :
    ES X (.AugAssign (.Name x p') op e pos) (sAug o i f) := PS.imp (ps_aug hN hi hx he ho hf) fun Z σ H ⟨γ, Hk, oo, k, ee, q⟩ => by
  unfold sAug at ee
  split at ee
  · rename_i a ea
    split at ee
    · rename_i b γ1 ef
      split at ee <;> cases ee
      rename_i c
      obtain ⟨v, ev, rv⟩ := k.dat i _ ea
      cases rv
      refine ⟨_, ev, γ, Hk, _, γ1, k, ef, fun v H1 Hk1 g1 r1 => ?_⟩
      cases r1
      exact ⟨a, b, rfl, rfl, q _ _ _ (g1.trans (g1.ok.setDat (.int _) (noPin_of g1.ok (by simpa using c))))⟩
    · cases ee
  · cases ee
end
end DN
namespace DN
open PySem PySem.Spec PyProof.Rows L2
/-! ### enumerate of a tuple -/
section
open AutoSeq1 (wpAny_loadPart')
theorem meets_enumT (l : Addr) (items : Array Value) (n : Nat) (dct : Option Addr) (sl : Array (Option Value)) :
    Meets (Builtin.«enumerate.__new__» ⟨[.type "enumerate", .ref l], []⟩) (fun _ R s => s.heap.get? l = some { cls := .type "tuple", dict := dct, data := .seq items n, slots := sl } ∧
      R (.ok (.ret (.ref (s.heap.push { cls := .type "tuple_iterator", data := .fields #[.ref l, .int 0 0] }).objs.size)))
        { s with heap := (s.heap.push { cls := .type "tuple_iterator", data := .fields #[.ref l, .int 0 0] }).push { cls := .type "enumerate", data := .fields #[.none, .bool false, .ref s.heap.objs.size, rawInt 0, .none, .none] } }) :=
  .of_wp fun prog w A R s h => by
    obtain ⟨hp, g, d, tk, os⟩ := s; obtain ⟨hl, h⟩ := h
    have hsub := sub_enumerate
    have hL : Heap.IsTuple (Shared.heap ⟨hp, g, d, tk, os⟩) l items := ⟨_, hl, rfl, n, rfl⟩
    wp_walk using wpAny_loadPart' hl
    refine wpAny_stack_any fun st => wpAny_pure ?_
    split
    · rename_i c _ _ _ _ _
      cases (c == Value.type "enumerate")
      · wp_walk using wpAny_loadPart' hl, wpAny_pyIter_tuple hL
        exact ⟨_, rfl, h⟩
      · wp_walk using wpAny_loadPart' hl, wpAny_pyIter_tuple hL
        exact ⟨_, rfl, h⟩
    · wp_walk using wpAny_loadPart' hl, wpAny_pyIter_tuple hL
      exact ⟨_, rfl, h⟩
end
section
variable {prog : Program} {w : World} {A : Around} {E : Value → Shared → Prop} {s : Shared}
theorem call_enumT {l : Addr} {items : Array Value} {Q : Value → Shared → Prop} (hL : s.heap.IsTuple l items)
    (h : ∀ h', IsEnum h' (s.heap.objs.size + 1) s.heap.objs.size 0 .none → h'.IsTupleIter s.heap.objs.size l 0 → h'.objs.size = s.heap.objs.size + 2 →
      (∀ b o, s.heap.get? b = some o → h'.get? b = some o) → Q (.ref (s.heap.objs.size + 1)) { s with heap := h' }) :
    wpAny (model prog w) A (call (.type "enumerate") [.ref l]) Q E s := by
  obtain ⟨⟨c, dct, dt, sl⟩, hl, hc, n, hd⟩ := hL
  replace hc : c = .type "tuple" := hc
  replace hd : dt = .seq items n := hd
  subst hc hd
  refine callType_new F.called_enumerate (by decide) (F.typeCall_enumerate_1 _) (F.newCall_enumerate_1 _) (fun obj => F.args_object_init_2 obj _) F.entry_enumerate_new
    (meets_enumT l items n dct sl) ⟨hl, ?_⟩
  have hz : (s.heap.push { cls := .type "tuple_iterator", data := .fields #[.ref l, .int 0 0] }).objs.size = s.heap.objs.size + 1 := Heap.size_push ..
  show _ ∧ _
  rw [hz]
  have he : IsEnum ((s.heap.push { cls := .type "tuple_iterator", data := .fields #[.ref l, .int 0 0] }).push
      { cls := .type "enumerate", data := .fields #[.none, .bool false, .ref s.heap.objs.size, rawInt 0, .none, .none] }) (s.heap.objs.size + 1) s.heap.objs.size 0 .none := by
    have := Heap.get?_push_size (s.heap.push { cls := .type "tuple_iterator", data := .fields #[.ref l, .int 0 0] })
      (o := { cls := .type "enumerate", data := .fields #[.none, .bool false, .ref s.heap.objs.size, rawInt 0, .none, .none] }) rfl
    rw [hz] at this; exact this
  refine ⟨⟨_, he, rfl⟩, h _ he ⟨_, Heap.get?_push_of_some _ (Heap.get?_push_size _ rfl), rfl, rfl⟩ (by rw [Heap.size_push, hz]) fun b o x => Heap.get?_push_of_some _ (Heap.get?_push_of_some _ x)⟩
theorem enumT_end {e it t : Addr} {i : Nat} {k : Int} {items : Array Value} {old : Value} {Q : Option Value → Shared → Prop} (hh : A.handled = none)
    (he : IsEnum s.heap e it k old) (hit : s.heap.IsTupleIter it t i) (hl : s.heap.IsTuple t items) (hx : items[i]? = none)
    (hQ : ∀ h', Heap.ExtBut it s.heap h' → Q none { s with heap := h' }) : wpAny (model prog w) A (pyNext (.ref e)) Q E s := by
  have hT : s.TypeIs (.ref e) "enumerate" := ⟨_, he, rfl⟩
  unfold pyNext
  refine wpAny_bind (wpAny_attempt (wpAny_callSpecial?_slot (name := Str.ofString "__next__") hT F.slot_enumerate_next
    (wpAny_call_entry F.slot_enumerate_next hT F.entry_enumerate_next ?_ (F.args_enumerate_next_1 _))))
  show wpAny _ _ (field (.ref e) 2 >>= _) _ _ _
  refine wpAny_bind (wpAny_field he rfl (x := .ref it) rfl ?_)
  refine wpAny_bind (wpAny_nextOf_tuple_end hh hit hl hx fun h' x he' hx' => ?_)
  obtain ⟨o, ho, hc⟩ := hx'
  refine wpAny_bind (wpAny_isInstance (T := "StopIteration") (b := true) ⟨o, ho, hc⟩ isSubtype_stop ?_)
  exact wpAny_pure (hQ _ he')
end
/-- the tuple at a, each item in a new pair -/
def IteT (K : PySem.W.Frag) (a : Addr) : It :=
  ⟨fun i H => ∃ (xs : List V) (x : V), SqT K H a xs ∧ xs[i]? = some x, fun i H v H' => ∃ T x, v = .ref T ∧ H T = none ∧ H' = upd H T (.tup [.int (i : Nat), x]) ∧ ∀ xs, SqT K H a xs → xs[i]? = some x, fun i H => ∃ xs : List V, SqT K H a xs ∧ xs.length ≤ i⟩
theorem turn_enumT {P : Program} {w : World} {K : PySem.W.Frag} {elts : List Expr} {kk : Nat} {tpos : Pos} (a e it : Addr) :
    Turn P w K (.Tuple elts kk tpos) (IteT K a) [e, it] e (fun i h => (∃ old, IsEnum h e it ((i : Nat) : Int) old) ∧ h.IsTupleIter it a i ∧ e ≠ it) where
  mem := by simp
  obj := fun i h st b hb => by
    obtain ⟨⟨old, he⟩, ⟨o, ho, hc, hd⟩, _⟩ := st
    have e' : b = e ∨ b = it := by simpa using hb
    rcases e' with z | z
    · rw [z]; exact ⟨_, he, fun v q => nomatch q⟩
    · rw [z]; exact ⟨o, ho, fun v q => by rw [hd] at q; cases q⟩
  keep := fun i h h' st k => let ⟨⟨old, he⟩, hi, hne⟩ := st; ⟨⟨old, k e (by simp) _ he⟩, hi.at fun o q => k it (by simp) o q, hne⟩
  item := by
    intro X hP hw hK hc i pins s σ H E I hf st hg
    subst hP hw hK
    obtain ⟨⟨old, he⟩, hit, hne⟩ := st
    obtain ⟨xs, x, hq, hx⟩ := hg
    obtain ⟨its, rv, p, hz⟩ := I.tuple hq
    obtain ⟨u, hu, ru⟩ := rv.get hx
    have hel : e < s.heap.objs.size := Heap.lt_size he
    have hil : it < s.heap.objs.size := by obtain ⟨_, q, _⟩ := hit; exact Heap.lt_size q
    have ht : s.heap.IsTuple a its.toArray := p
    have hai : a ≠ it := by
      rintro rfl
      obtain ⟨o1, e1, c1, _⟩ := hit
      obtain ⟨o2, e2, c2, _⟩ := ht
      rw [e1] at e2; cases e2
      rw [c1] at c2; injection c2 with z; exact absurd z (by decide)
    have hae : a ≠ e := by
      rintro rfl
      obtain ⟨o2, e2, c2, _⟩ := ht
      rw [he] at e2; cases e2
      injection c2 with z; exact absurd z (by decide)
    have hlt : i < its.toArray.size := by
      have := rv.length
      have := (List.getElem?_eq_some_iff.mp hx).1
      simp; omega
    refine wpAny_pyNext_enum_itemD (Draws.tuple (show X.A.in1.handled = none from I.ok.hd hc) it a hai its.toArray) he ⟨hit, ht⟩ hlt hne (by simp [hne, Ne.symm hae]) fun x' h' tk hx' ho hit' hT hsz hk => ?_
    obtain rfl : u = x' := by
      have : its.toArray[i]? = some u := by simpa using hu
      rw [this] at hx'; exact Option.some.inj hx'
    refine ⟨_, rfl, wpAny_letOwnedTupleGo_enum (s := { s with heap := h', toks := tk + 1 }) ho fun h'' he' sb => ?_⟩
    have hT2 : h''.get? s.heap.objs.size = some { cls := .type "tuple", data := .seq #[.int i tk, u] } := (sb.2 _ (Nat.ne_of_gt hel)).trans hT
    have new : ObjOk X.prog X.w (upd H s.heap.objs.size (.tup [.int (i : Nat), x])) h'' s.heap.objs.size (.tup [.int (i : Nat), x]) :=
      ⟨by show 2 ≤ sizeLine; decide, [.int i tk, u], .cons ⟨_, rfl⟩ (.cons ru .nil), ⟨_, hT2, rfl, _, rfl⟩⟩
    have I1 : Inv X pins σ (upd H s.heap.objs.size (.tup [.int (i : Nat), x])) { s with heap := h'', toks := tk + 1 } :=
      I.turnedNew (ch := [e, it]) (fun b ob hb q => (sb.2 b (fun z => hb (by simp [z]))).trans (hk b ob (fun z => hb (by simp [z])) (fun z => hb (by simp [z])) q)) hf (Nat.le_refl _) new
    refine ⟨.ref s.heap.objs.size, _, I1, rfl, ⟨_, x, rfl, I.hok.fresh (Nat.le_refl _), rfl, fun ys hy => by rw [I.tuple_inj hy hq]; exact hx⟩, ⟨⟨u, ?_⟩, hit'.1.at fun o q => (sb.2 it (Ne.symm hne)).trans q, hne⟩, fun b hb => ?_⟩
    · have e1 : ((i + 1 : Nat) : Int) = (i : Int) + 1 := by omega
      rw [e1]; exact he'
    · have hb' : b < s.heap.objs.size := by
        have e' : b = e ∨ b = it := by simpa using hb
        rcases e' with z | z
        · rw [z]; exact hel
        · rw [z]; exact hil
      rw [upd_ne (Nat.ne_of_lt hb')]
      exact (hf b hb).1
  done := by
    intro X hP hw hK hc i pins s σ H E I hf st hg
    subst hP hw hK
    obtain ⟨⟨old, he⟩, hit, hne⟩ := st
    obtain ⟨xs, hq, hx⟩ := hg
    obtain ⟨its, rv, p, hz⟩ := I.tuple hq
    obtain ⟨f0, f1, f2, f3, f4, f5⟩ := hf it (by simp)
    have hl := rv.length
    exact enumT_end (I.ok.hd hc) he hit (show s.heap.IsTuple a its.toArray from p) (by simp; omega) fun h' eb => ⟨rfl, I.turned (t' := s.toks) (fun b o hb q => eb b o hb q) f0 f1 f3 f4 f5⟩
  self := fun A i s Q E st h => let ⟨⟨_, he⟩, _⟩ := st; wpAny_pyIter_enum he h
def iEnumA (K : PySem.W.Frag) (ta : TA) : TI := fun σ H R => ta σ H fun vs H1 => ∃ a xs, vs = [.ref a] ∧ ((SqL K H1 a xs ∧ R (Ite K a) H1) ∨ (SqT K H1 a xs ∧ R (IteT K a) H1))
theorem pi_enumA {X : Cx} {e : Expr} {ta : TA} {p pos tpos : Pos} {elts : List Expr} {kk : Nat} (hg : Gl X "enumerate") (hm : X.mg "enumerate" = none) (ha : PA X [e] ta) (hs : starEach [e] X.env = [(false, eval e X.env)] := by rfl) :
    PI X (.Tuple elts kk tpos) (.Call (.Name "enumerate" p) [e] [] pos) (iEnumA X.K ta) := by
  refine ⟨fun pins s σ H R I h => ?_⟩
  refine Call_ (ld_blt I hg hm boot_enumerate (PyProof.Rows.callWith_type1 (thn (ha.run pos pins s σ H _ I h) fun us s1 ⟨vs, H1, I1, r1, q1⟩ => ?_) hs rfl))
  obtain ⟨a, xs, ex, q⟩ := q1
  subst ex
  have hfp : ∀ b, b ∈ [s1.heap.objs.size + 1, s1.heap.objs.size] → FpOk X pins H1 b := fun b hb => by
    have e' : b = s1.heap.objs.size + 1 ∨ b = s1.heap.objs.size := by simpa using hb
    have hle : s1.heap.objs.size ≤ b := by
      rcases e' with z | z
      · rw [z]; exact Nat.le_add_right _ _
      · rw [z]; exact Nat.le_refl _
    exact I1.fpOk hle (I1.hok.fresh hle)
  cases r1 with
  | cons r rr =>
    cases rr
    cases r
    rcases q with ⟨hq, q⟩ | ⟨hq, q⟩
    · obtain ⟨its, rv, p', hz⟩ := I1.list hq
      refine call_enumerate_list p'.isList fun h' he hit hsz hk => wpAny_pyIter_enum he ?_
      have I2 : Inv X pins σ H1 { s1 with heap := h' } := I1.kept (t' := s1.toks) hk
      exact ⟨s1.heap.objs.size + 1, [s1.heap.objs.size + 1, s1.heap.objs.size], _, _, H1, rfl, I2, turn_enum a (s1.heap.objs.size + 1) s1.heap.objs.size, ⟨⟨.none, he⟩, hit, Nat.succ_ne_self _⟩, hfp, q⟩
    · obtain ⟨its, rv, p', hz⟩ := I1.tuple hq
      refine call_enumT (show s1.heap.IsTuple a its.toArray from p') fun h' he hit hsz hk => wpAny_pyIter_enum he ?_
      have I2 : Inv X pins σ H1 { s1 with heap := h' } := I1.kept (t' := s1.toks) hk
      exact ⟨s1.heap.objs.size + 1, [s1.heap.objs.size + 1, s1.heap.objs.size], _, _, H1, rfl, I2, turn_enumT a (s1.heap.objs.size + 1) s1.heap.objs.size, ⟨⟨.none, he⟩, hit, Nat.succ_ne_self _⟩, hfp, q⟩
def enumL (i : Nat) : List D → List D
  | [] => []
  | d :: r => .tuple [.int (i : Int), d] :: enumL (i + 1) r
theorem enumL_len : ∀ (ds : List D) (i : Nat), (enumL i ds).length = ds.length
  | [], _ => rfl
  | _ :: r, i => congrArg (· + 1) (enumL_len r (i + 1))
theorem enumL_at : ∀ (ds : List D) (i j : Nat) (h : j < ds.length), (enumL i ds)[j]? = some (.tuple [.int ((i + j : Nat) : Int), ds[j]])
  | d :: r, i, 0, _ => rfl
  | d :: r, i, j + 1, h => by
    have := enumL_at r (i + 1) j (by simpa using h)
    simp only [enumL, List.getElem?_cons_succ, List.getElem_cons_succ]
    rw [this, show i + 1 + j = i + (j + 1) by omega]
@[simp] def wEnum (f : Fe) : Fa := fun γ => match f γ with
  | some (.list ds, γ1) => some (enumL 0 ds, γ1)
  | some (.tuple ds, γ1) => some (enumL 0 ds, γ1)
  | _ => none
section
variable {X : Cx} {e : Expr} {f : Fe} {p pos tpos : Pos} {elts : List Expr} {kk : Nat} {K : PySem.W.Frag}
theorem enum_turn {xs : List V} {ds : List D} {Hk H Hc : Hp} (ra : DpAll K Hk xs ds) (s1 : Same Hk Hc) (s2 : Same Hc H) {i : Nat} (hi : i < (enumL 0 ds).length) :
    ∃ x, xs[i]? = some x ∧ ∀ T, H T = none → ∃ Hc', Grow H Hc (upd H T (.tup [.int (i : Nat), x])) Hc' ∧ Dp K Hc' (.ref T) ((enumL 0 ds)[i]) := by
  have hi' : i < ds.length := by rw [enumL_len] at hi; exact hi
  obtain ⟨x, ex, rx⟩ := dps_at ra (List.getElem?_eq_getElem hi')
  refine ⟨x, ex, fun T hT => ⟨upd Hc T (.tup [.int (i : Nat), x]), Grow.new s2 hT, ?_⟩⟩
  have sm : Same Hc (upd Hc T (.tup [.int (i : Nat), x])) := same_upd (s2.free hT)
  have e1 : (enumL 0 ds)[i] = .tuple [.int ((i : Nat) : Int), ds[i]] := by
    have := enumL_at ds 0 i hi'
    rw [List.getElem?_eq_getElem hi] at this
    have := Option.some.inj this
    rw [this, Nat.zero_add]
  rw [e1]
  exact .tup (SqT.of upd_same) (.cons (.int _) (.cons (dp_mono (s1.trans sm) rx) .nil))
theorem walks_el {Hk : Hp} {q : Addr} {xs : List V} {ds : List D} (hx : SqL K Hk q xs) (ra : DpAll K Hk xs ds) : Walks K (Ite K q) (enumL 0 ds) Hk := fun H Hc s1 s2 => by
  have h1 := sql_mono (s1.trans s2) hx
  refine ⟨fun i hi => ?_, fun i hi => ?_⟩
  · obtain ⟨x, ex, mk⟩ := enum_turn ra s1 s2 hi
    refine ⟨⟨xs, x, h1, ex⟩, fun v H' yl => ?_⟩
    obtain ⟨T, x', rfl, hT, rfl, fx⟩ := yl
    have e1 := fx xs h1
    rw [ex] at e1; cases e1
    exact mk T hT
  · rw [enumL_len, ← dps_len ra] at hi
    exact ⟨xs, h1, hi⟩
theorem walks_et {Hk : Hp} {q : Addr} {xs : List V} {ds : List D} (hx : SqT K Hk q xs) (ra : DpAll K Hk xs ds) : Walks K (IteT K q) (enumL 0 ds) Hk := fun H Hc s1 s2 => by
  have h1 := sqt_mono (s1.trans s2) hx
  refine ⟨fun i hi => ?_, fun i hi => ?_⟩
  · obtain ⟨x, ex, mk⟩ := enum_turn ra s1 s2 hi
    refine ⟨⟨xs, x, h1, ex⟩, fun v H' yl => ?_⟩
    obtain ⟨T, x', rfl, hT, rfl, fx⟩ := yl
    have e1 := fx xs h1
    rw [ex] at e1; cases e1
    exact mk T hT
  · rw [enumL_len, ← dps_len ra] at hi
    exact ⟨xs, h1, hi⟩
theorem ei_enum (hm : X.mg "enumerate" = none) (hg : Gl X "enumerate") (h : EV X e f) (hs : starEach [e] X.env = [(false, eval e X.env)] := by rfl) :
    EI X (.Tuple elts kk tpos) (.Call (.Name "enumerate" p) [e] [] pos) (wEnum f) :=
  PI.imp (pi_enumA hg hm (pa_cons h pa_nil hs) hs) fun σ H R ⟨γ, Hk, ds, γ2, o, ee, q⟩ => by
  unfold wEnum at ee
  split at ee <;> cases ee
  · rename_i ds' ef
    refine ⟨γ, Hk, _, _, o, ef, fun v H1 Hk1 g1 r1 => ?_⟩
    cases r1 with
    | lst hx ra => exact ⟨_, _, rfl, .inl ⟨sql_mono g1.ok.sub hx, q _ H1 Hk1 g1 (walks_el hx ra)⟩⟩
  · rename_i ds' ef
    refine ⟨γ, Hk, _, _, o, ef, fun v H1 Hk1 g1 r1 => ?_⟩
    cases r1 with
    | tup hx ra => exact ⟨_, _, rfl, .inr ⟨sqt_mono g1.ok.sub hx, q _ H1 Hk1 g1 (walks_et hx ra)⟩⟩
end
/-! ### targets of comprehensions: tuples of names -/
def TgsOk (K : PySem.W.Frag) (g : TGs) (tg : Fgs) (js : List Nat) : Prop := ∀ vs ds σ H Hk γ γ2 (Q : L2.St → Hp → Prop), Ok K σ H Hk γ → DpAll K Hk vs ds → tg ds γ = some γ2 → (∀ σ2, Go K σ H Hk γ σ2 H Hk γ2 → wipe σ2 js = wipe σ js → Q σ2 H) → g vs σ H Q
theorem wipe_at (τ : L2.St) (js : List Nat) (i : Nat) : (wipe τ js)[i]? = if i ∈ js ∧ i < τ.length then some none else τ[i]? := by
  induction js with
  | nil => simp [wipe]
  | cons v vs ih =>
    show ((wipe τ vs).set v none)[i]? = _
    rw [List.getElem?_set, ih, wipe_length]
    by_cases e : v = i
    · subst e
      by_cases l : v < τ.length
      · simp [l]
      · simp [l]
    · have e' : ¬ i = v := fun z => e z.symm
      simp [e, e']
theorem wipe_set {σ : L2.St} {js : List Nat} {j : Nat} {x : Option V} (h : j ∈ js) : wipe (σ.set j x) js = wipe σ js := by
  apply List.ext_getElem?
  intro i
  rw [wipe_at, wipe_at, List.length_set]
  by_cases c : i ∈ js ∧ i < σ.length
  · rw [if_pos c, if_pos c]
  · rw [if_neg c, if_neg c, List.getElem?_set]
    by_cases e : j = i
    · subst e
      have : ¬ j < σ.length := fun z => c ⟨h, z⟩
      simp [this]
    · simp [e]
theorem wipe_sub {σ : L2.St} {js js1 : List Nat} (h : ∀ j ∈ js1, j ∈ js) : wipe (wipe σ js1) js = wipe σ js := by
  apply List.ext_getElem?
  intro i
  rw [wipe_at, wipe_at, wipe_length, wipe_at]
  by_cases c : i ∈ js ∧ i < σ.length
  · rw [if_pos c, if_pos c]
  · rw [if_neg c, if_neg c, if_neg fun z => c ⟨h i z.1, z.2⟩]
section
variable {K : PySem.W.Frag} {js : List Nat}
theorem tg_n (j : Nat) (h : j ∈ js) : TgOk K (gName j) (gDat j) js := by
  intro v d σ H Hk γ γ2 Q o r e q
  unfold gDat at e
  split at e <;> cases e
  rename_i c
  exact q _ (o.setDat r (noPin_of o (by simpa using c))) (wipe_set h)
theorem tgs_nil : TgsOk K gNil gsNo js := by
  intro vs ds σ H Hk γ γ2 Q o r e q
  unfold gsNo at e
  split at e <;> cases e
  cases r
  exact ⟨rfl, q σ (Go.refl o) rfl⟩
theorem tgs_cons {g : TG} {gs : TGs} {tg : Fg} {tgs : Fgs} (h1 : TgOk K g tg js) (h2 : TgsOk K gs tgs js) : TgsOk K (gCons g gs) (gsCons tg tgs) js := by
  intro vs ds σ H Hk γ γ2 Q o r e q
  unfold gsCons at e
  split at e
  · rename_i d r'
    split at e
    · rename_i γ1 e1
      cases r with
      | cons ra rb => exact ⟨_, _, rfl, h1 _ _ _ _ _ _ _ _ o ra e1 fun σ1 g1 w1 => h2 _ _ _ _ _ _ _ _ g1.ok rb e fun σ2 g2 w2 => q σ2 (g1.trans g2) (w2.trans w1)⟩
    · cases e
  · cases e
theorem tg_t {n : Nat} {gs : TGs} {tgs : Fgs} (h : TgsOk K gs tgs js) : TgOk K (gTup K n gs) (gTp n tgs) js := by
  intro v d σ H Hk γ γ2 Q o r e q
  unfold gTp at e
  split at e
  · rename_i ds
    split at e
    · rename_i hl
      cases r with
      | tup hs ra => exact ⟨_, _, rfl, sqt_mono o.sub hs, by rw [dps_len ra]; exact hl, h _ _ _ _ _ _ _ _ o ra e q⟩
    · cases e
  · cases e
end
/-! ### comprehensions with two clauses -/
def lcF2 (js : List Nat) (tg : Fg) (tt : Ft) (src1 : Fa) (js1 : List Nat) (tg1 : Fg) (tt1 : Ft) (elt : Fe) : List D → En → List D → Option (List D × En)
  | [], γ, acc => some (acc, γ)
  | d :: ds, γ, acc => match tg d γ with
    | some γ0 => match tt γ0 with
      | some (true, γ1) => match src1 γ1 with
        | some (es, γ2) => if noOwns γ2 js1 then match lcF js1 tg1 tt1 elt es (wipeE γ2 js1) acc with
          | some (acc', γ3) => if noOwns γ3 js then lcF2 js tg tt src1 js1 tg1 tt1 elt ds (wipeE γ3 js) acc' else none
          | none => none
          else none
        | none => none
      | some (false, γ1) => if noOwns γ1 js then lcF2 js tg tt src1 js1 tg1 tt1 elt ds (wipeE γ1 js) acc else none
      | none => none
    | none => none
@[simp] def lLc2 (js : List Nat) (tg : Fg) (src : Fa) (tt : Ft) (src1 : Fa) (js1 : List Nat) (tg1 : Fg) (tt1 : Ft) (elt : Fe) : Fa := fun γ => match src γ with
  | some (ds, γ1) => if noOwns γ1 js then match lcF2 js tg tt src1 js1 tg1 tt1 elt ds (wipeE γ1 js) [] with
    | some (out, γ2) => some (out, putBack γ1 γ2 js)
    | none => none
    else none
  | none => none
section
variable {K : PySem.W.Frag}
theorem lc2_imp {js js1 : List Nat} {g g1 : TG} {tg tg1 : Fg} {src src1 : Fa} {tt tt1 : Ft} {elt : Fe} {σ : L2.St} {H : Hp} {Q : VK} (hjs : ∀ j ∈ js1, j ∈ js) (hg : TgOk K g tg js) (hg1 : TgOk K g1 tg1 js1)
    (h : tL K (lLc2 js tg src tt src1 js1 tg1 tt1 elt) σ H Q) : tLc2 (tIt K src) g (tT K tt) (tIt K src1) g1 (tT K tt1) (tI K elt) js js1 σ H Q := by
  obtain ⟨γ, Hk, out, γr, k, e, q⟩ := h
  unfold lLc2 at e
  split at e
  · rename_i ds γ1 es
    split at e
    · rename_i no
      split at e <;> cases e
      rename_i γ2 el
      refine ⟨γ, Hk, ds, γ1, k, es, fun J H1 Hk1 g1' wk L hL => ?_⟩
      have gd := dropAll g1'.ok js no
      have hk1L : Hk1 L = none := g1'.ok.sub.free hL
      let W : Nat → Nat → Hp → Prop := fun i m H' => m = ds.length - i ∧ i ≤ ds.length ∧ ∃ γ' Hk' acc av H0, H' = upd H0 L (.lst av) ∧ H0 L = none ∧ Go K (wipe σ js) H1 Hk1 (wipeE γ1 js) (wipe σ js) H0 Hk' γ' ∧ (∀ j ∈ js, gt γ' j = none) ∧ Hk' L = none ∧ Same Hk1 Hk' ∧ DpAll K Hk' av acc ∧ lcF2 js tg tt src1 js1 tg1 tt1 elt (ds.drop i) γ' acc = some (out, γ2)
      refine ⟨W, ⟨ds.length, by simp, Nat.zero_le _, wipeE γ1 js, Hk1, [], [], H1, rfl, hL, Go.refl gd.ok, fun j hj => gt_wipe_in _ hj, hk1L, Same.refl _, .nil, by simpa using el⟩, ?_⟩
      rintro i m H' ⟨rfl, hi, γ', Hk', acc, av, H0, rfl, h0L, gg, gj, hkL, sk, ra, ef⟩
      obtain ⟨w1, w2⟩ := wk (upd H0 L (.lst av)) Hk' sk (gg.ok.sub.trans (same_upd h0L))
      by_cases hlt : i < ds.length
      · obtain ⟨go, yl⟩ := w1 i hlt
        rw [List.drop_eq_getElem_cons hlt] at ef
        unfold lcF2 at ef
        refine .inr ⟨go, W (i + 1) (ds.length - (i + 1)), fun H3 w => ⟨_, by omega, w⟩, fun x H'' y => ?_⟩
        obtain ⟨Hc, gr, rv⟩ := yl x H'' y
        have ok0 : Ok K (wipe σ js) (upd H0 L (.lst av)) Hk' γ' := gg.ok.grow (Grow.newH gg.ok.sub h0L)
        have gy := ok0.go gr
        split at ef
        · rename_i γ0 etg
          refine hg x ds[i] _ _ Hc γ' γ0 _ gy.ok rv etg fun σ2 gt2 hw => ?_
          rw [wipe_wipe] at hw
          have ga := gy.trans gt2
          refine ⟨hw, ?_⟩
          split at ef
          · rename_i γ3 et
            refine ⟨γ0, Hc, true, γ3, gt2.ok, et, fun H3 Hk3 g3 => iteT ?_⟩
            split at ef
            · rename_i es1 γ4 esrc
              refine ⟨γ3, Hk3, es1, γ4, g3.ok, esrc, fun J1 H4 Hk4 g4 wk1 => ?_⟩
              split at ef
              · rename_i no1
                split at ef
                · rename_i acc' γ6 el1
                  split at ef
                  · rename_i no6
                    obtain ⟨H04, rfl, h04, hk4, g5⟩ := aside gg.ok h0L hkL ((ga.trans g3).trans g4)
                    have gd1 := dropAll g5.ok js1 no1
                    have gB := gg.trans (g5.trans gd1)
                    let W1 : Nat → Nat → Hp → Prop := fun j k H' => k = es1.length - j ∧ j ≤ es1.length ∧ ∃ γ5 Hk5 acc5 av5 H05, H' = upd H05 L (.lst av5) ∧ H05 L = none ∧ Go K (wipe σ js) H1 Hk1 (wipeE γ1 js) (wipe σ2 js1) H05 Hk5 γ5 ∧ (∀ j ∈ js1, gt γ5 j = none) ∧ Hk5 L = none ∧ Same Hk4 Hk5 ∧ DpAll K Hk5 av5 acc5 ∧ lcF js1 tg1 tt1 elt (es1.drop j) γ5 acc5 = some (acc', γ6)
                    have kk4 : Same Hk1 Hk4 := sk.trans g5.kk
                    refine ⟨W1, ⟨es1.length, by simp, Nat.zero_le _, wipeE γ4 js1, Hk4, acc, av, H04, rfl, h04, gB, fun j hj => gt_wipe_in _ hj, hk4, Same.refl _, dps_mono g5.kk ra, by simpa using el1⟩, ?_⟩
                    rintro j k H' ⟨rfl, hj, γ5, Hk5, acc5, av5, H05, rfl, h05L, gg5, gj5, hk5L, sk5, ra5, ef5⟩
                    obtain ⟨v1, v2⟩ := wk1 (upd H05 L (.lst av5)) Hk5 sk5 (gg5.ok.sub.trans (same_upd h05L))
                    by_cases hlt1 : j < es1.length
                    · obtain ⟨go1, yl1⟩ := v1 j hlt1
                      rw [List.drop_eq_getElem_cons hlt1] at ef5
                      unfold lcF at ef5
                      refine .inr ⟨go1, W1 (j + 1) (es1.length - (j + 1)), fun H6 w => ⟨_, by omega, w⟩, fun x1 H6 y1 => ?_⟩
                      obtain ⟨Hc1, gr1, rv1⟩ := yl1 x1 H6 y1
                      have ok5 : Ok K (wipe σ2 js1) (upd H05 L (.lst av5)) Hk5 γ5 := gg5.ok.grow (Grow.newH gg5.ok.sub h05L)
                      have gy1 := ok5.go gr1
                      split at ef5
                      · rename_i γ7 etg1
                        refine hg1 x1 es1[j] _ _ Hc1 γ5 γ7 _ gy1.ok rv1 etg1 fun σ3 gt3 hw1 => ?_
                        rw [wipe_wipe] at hw1
                        have ga1 := gy1.trans gt3
                        have back : ∀ {H8 Hk8 : Hp} {γ8 : En}, Go K (wipe σ2 js1) H05 Hk5 γ5 σ3 H8 Hk8 γ8 → noOwns γ8 js1 = true → Go K (wipe σ js) H1 Hk1 (wipeE γ1 js) (wipe σ2 js1) H8 Hk8 (wipeE γ8 js1) := fun {H8 Hk8 γ8} g8 n8 => by
                          have := (gg5.trans g8).trans (dropAll g8.ok js1 n8)
                          rw [hw1] at this
                          exact this
                        refine ⟨hw1, ?_⟩
                        split at ef5
                        · rename_i γ8 et1
                          refine ⟨γ7, Hc1, true, γ8, gt3.ok, et1, fun H8 Hk8 g8 => iteT ?_⟩
                          split at ef5
                          · rename_i y γ9 ee
                            split at ef5
                            · rename_i c
                              rw [Bool.and_eq_true] at c
                              refine ⟨γ8, Hk8, y, γ9, g8.ok, ee, fun u H9 Hk9 g9 r9 => ?_⟩
                              obtain ⟨H09, rfl, h09, hk9, g10⟩ := aside gg5.ok h05L hk5L ((ga1.trans g8).trans g9)
                              have hla : av5.length = acc5.length := dps_len ra5
                              have kk9 : Same Hk5 Hk9 := g10.kk
                              refine ⟨av5, upd_same, by rw [hla]; exact okN_lt c.1, rfl, hlt1, _, Hk9, acc5 ++ [y], av5 ++ [u], H09, upd_upd, h09, back g10 c.2, fun j hj => gt_wipe_in _ hj, hk9, sk5.trans kk9, ?_, ef5⟩
                              exact dps_app (dps_mono kk9 ra5) (.cons r9 .nil)
                            · cases ef5
                          · cases ef5
                        · rename_i γ8 et1
                          refine ⟨γ7, Hc1, false, γ8, gt3.ok, et1, fun H8 Hk8 g8 => iteF ?_⟩
                          split at ef5
                          · rename_i c
                            obtain ⟨H03, rfl, h03, hk3, g10⟩ := aside gg5.ok h05L hk5L (ga1.trans g8)
                            exact ⟨rfl, hlt1, _, Hk8, acc5, av5, H03, rfl, h03, back g10 c, fun j hj => gt_wipe_in _ hj, hk3, sk5.trans g10.kk, dps_mono g10.kk ra5, ef5⟩
                          · cases ef5
                        · cases ef5
                      · cases ef5
                    · have e0 : j = es1.length := by omega
                      subst e0
                      rw [List.drop_length] at ef5
                      cases ef5
                      refine .inl ⟨v2 _ (Nat.le_refl _), rfl, hlt, wipeE γ6 js, Hk5, acc', av5, H05, rfl, h05L, ?_, fun j hj => gt_wipe_in _ hj, hk5L, kk4.trans sk5, ra5, ef⟩
                      have := gg5.trans (dropAll gg5.ok js no6)
                      rw [wipe_sub hjs, hw] at this
                      exact this
                  · cases ef
                · cases ef
              · cases ef
            · cases ef
          · rename_i γ3 et
            refine ⟨γ0, Hc, false, γ3, gt2.ok, et, fun H3 Hk3 g3 => iteF ?_⟩
            split at ef
            · rename_i c
              obtain ⟨H03, rfl, h03, hk3, g5⟩ := aside gg.ok h0L hkL (ga.trans g3)
              have := (gg.trans g5).trans (dropAll g5.ok js c)
              rw [hw] at this
              exact ⟨rfl, hlt, _, Hk3, acc, av, H03, rfl, h03, this, fun j hj => gt_wipe_in _ hj, hk3, sk.trans g5.kk, dps_mono g5.kk ra, ef⟩
            · cases ef
          · cases ef
        · cases ef
      · have e0 : i = ds.length := by omega
        subst e0
        rw [List.drop_length] at ef
        cases ef
        exact .inl ⟨w2 _ (Nat.le_refl _), q L av H0 Hk' (g1'.trans (restoreAll g1'.ok js _ no gg gj)) h0L ra⟩
    · cases e
  · cases e
end
end DN
namespace DN
open PySem PySem.Spec PyProof.Rows L2
/-! ### comprehensions with two clauses, as rules -/
section
variable {X : Cx} {elt it tge it1 tge1 : Expr} {ifs ifs1 : List Expr} {scope : Scope} {own : List (Str × Nat)} {src src1 : Fa} {g g1 : TG} {tg tg1 : Fg} {tt tt1 : Ft} {ef : Fe} {pos : Pos} {js js1 : List Nat} {y : Str}
theorem el_lc2 (hj : own.map (·.2) = js) (hjs : ∀ j ∈ js1, j ∈ js) (htg : TgOk X.K g tg js) (htg1 : TgOk X.K g1 tg1 js1) (hc : X.calm = true) (hN : X.N.Nodup) (hi : EI X tge it src) (ok : BlkOk X.N X.env.scope scope own)
    (hg : ∀ (s : Shared) (H : Hp) (C : Addr) (cl : List (Str × Addr)) (fp : List Addr), PG (X.blk s H scope (compEnvC scope cl C X.env) fp) tge g)
    (ht : ∀ (s : Shared) (H : Hp) (C : Addr) (cl : List (Str × Addr)) (fp : List Addr), PTs (X.blk s H scope (compEnvC scope cl C X.env) fp) ifs (tT X.K tt))
    (hi1 : ∀ (s : Shared) (H : Hp) (C : Addr) (cl : List (Str × Addr)) (fp : List Addr), EI (X.blk s H scope (compEnvC scope cl C X.env) fp) tge1 it1 src1)
    (hg1 : ∀ (s : Shared) (H : Hp) (C : Addr) (cl : List (Str × Addr)) (fp : List Addr), PG (X.blk s H scope (compEnvC scope cl C X.env) fp) tge1 g1)
    (ht1 : ∀ (s : Shared) (H : Hp) (C : Addr) (cl : List (Str × Addr)) (fp : List Addr), PTs (X.blk s H scope (compEnvC scope cl C X.env) fp) ifs1 (tT X.K tt1))
    (he : ∀ (s : Shared) (H : Hp) (C : Addr) (cl : List (Str × Addr)) (fp : List Addr), EV (X.blk s H scope (compEnvC scope cl C X.env) fp) elt ef) (hs : ∀ x, foldedSetIterable it X.env x = pure x := by intro _; rfl) (hs1 : ∀ env x, foldedSetIterable it1 env x = pure x := by intro _ _; rfl) :
    EL X (.ListComp elt [⟨tge, it, ifs, 0⟩, ⟨tge1, it1, ifs1, 0⟩] scope pos) (lLc2 js tg src tt src1 js1 tg1 tt1 ef) := by
  subst hj
  exact PE.imp (pe_lc2 (te := tI X.K ef) (wi1 := tIt X.K src1) (tt1 := tT X.K tt1) hc hN hi ok hjs hg ht hi1 hg1 ht1 he hs hs1) fun _ _ _ h => lc2_imp hjs htg htg1 h
theorem es_lc2Own (i : Nat) {py spos : Pos} (hj : own.map (·.2) = js) (hjs : ∀ j ∈ js1, j ∈ js) (htg : TgOk X.K g tg js) (htg1 : TgOk X.K g1 tg1 js1) (hc : X.calm = true) (hN : X.N.Nodup) (hy : X.N[i]? = some y) (hyl : X.env.scope.names.lookup y = some .local)
    (hsw : swapsWith (.ListComp elt [⟨tge, it, ifs, 0⟩, ⟨tge1, it1, ifs1, 0⟩] scope pos) (some (.Name y py)) spos.line X.env = pure true) (hi : EI X tge it src) (ok : BlkOk X.N X.env.scope scope own)
    (hg : ∀ (s : Shared) (H : Hp) (C : Addr) (cl : List (Str × Addr)) (fp : List Addr), PG (X.blk s H scope (compEnvC scope cl C X.env) fp) tge g)
    (ht : ∀ (s : Shared) (H : Hp) (C : Addr) (cl : List (Str × Addr)) (fp : List Addr), PTs (X.blk s H scope (compEnvC scope cl C X.env) fp) ifs (tT X.K tt))
    (hi1 : ∀ (s : Shared) (H : Hp) (C : Addr) (cl : List (Str × Addr)) (fp : List Addr), EI (X.blk s H scope (compEnvC scope cl C X.env) fp) tge1 it1 src1)
    (hg1 : ∀ (s : Shared) (H : Hp) (C : Addr) (cl : List (Str × Addr)) (fp : List Addr), PG (X.blk s H scope (compEnvC scope cl C X.env) fp) tge1 g1)
    (ht1 : ∀ (s : Shared) (H : Hp) (C : Addr) (cl : List (Str × Addr)) (fp : List Addr), PTs (X.blk s H scope (compEnvC scope cl C X.env) fp) ifs1 (tT X.K tt1))
    (he : ∀ (s : Shared) (H : Hp) (C : Addr) (cl : List (Str × Addr)) (fp : List Addr), EV (X.blk s H scope (compEnvC scope cl C X.env) fp) elt ef) (hs : ∀ x, foldedSetIterable it X.env x = pure x := by intro _; rfl) (hs1 : ∀ env x, foldedSetIterable it1 env x = pure x := by intro _ _; rfl) :
    ES X (.Assign [.Name y py] (.ListComp elt [⟨tge, it, ifs, 0⟩, ⟨tge1, it1, ifs1, 0⟩] scope pos) spos) (sOwn i (lLc2 js tg src tt src1 js1 tg1 tt1 ef)) := by
  subst hj
  refine PS.imp (ps_setLc2 (te := tI X.K ef) (wi1 := tIt X.K src1) (tt1 := tT X.K tt1) hc hN hy hyl hsw hi ok hjs hg ht hi1 hg1 ht1 he hs hs1) fun Z σ H h => ?_
  exact lc2_imp hjs htg htg1 (own_imp h)
theorem es_lc2Dat (i : Nat) {py spos : Pos} (hj : own.map (·.2) = js) (hjs : ∀ j ∈ js1, j ∈ js) (htg : TgOk X.K g tg js) (htg1 : TgOk X.K g1 tg1 js1) (hc : X.calm = true) (hN : X.N.Nodup) (hy : X.N[i]? = some y) (hyl : X.env.scope.names.lookup y = some .local)
    (hsw : swapsWith (.ListComp elt [⟨tge, it, ifs, 0⟩, ⟨tge1, it1, ifs1, 0⟩] scope pos) (some (.Name y py)) spos.line X.env = pure true) (hi : EI X tge it src) (ok : BlkOk X.N X.env.scope scope own)
    (hg : ∀ (s : Shared) (H : Hp) (C : Addr) (cl : List (Str × Addr)) (fp : List Addr), PG (X.blk s H scope (compEnvC scope cl C X.env) fp) tge g)
    (ht : ∀ (s : Shared) (H : Hp) (C : Addr) (cl : List (Str × Addr)) (fp : List Addr), PTs (X.blk s H scope (compEnvC scope cl C X.env) fp) ifs (tT X.K tt))
    (hi1 : ∀ (s : Shared) (H : Hp) (C : Addr) (cl : List (Str × Addr)) (fp : List Addr), EI (X.blk s H scope (compEnvC scope cl C X.env) fp) tge1 it1 src1)
    (hg1 : ∀ (s : Shared) (H : Hp) (C : Addr) (cl : List (Str × Addr)) (fp : List Addr), PG (X.blk s H scope (compEnvC scope cl C X.env) fp) tge1 g1)
    (ht1 : ∀ (s : Shared) (H : Hp) (C : Addr) (cl : List (Str × Addr)) (fp : List Addr), PTs (X.blk s H scope (compEnvC scope cl C X.env) fp) ifs1 (tT X.K tt1))
    (he : ∀ (s : Shared) (H : Hp) (C : Addr) (cl : List (Str × Addr)) (fp : List Addr), EV (X.blk s H scope (compEnvC scope cl C X.env) fp) elt ef) (hs : ∀ x, foldedSetIterable it X.env x = pure x := by intro _; rfl) (hs1 : ∀ env x, foldedSetIterable it1 env x = pure x := by intro _ _; rfl) :
    ES X (.Assign [.Name y py] (.ListComp elt [⟨tge, it, ifs, 0⟩, ⟨tge1, it1, ifs1, 0⟩] scope pos) spos) (sAsg (fL (lLc2 js tg src tt src1 js1 tg1 tt1 ef)) (gDat i)) := by
  subst hj
  refine PS.imp (ps_setLc2 (te := tI X.K ef) (wi1 := tIt X.K src1) (tt1 := tT X.K tt1) hc hN hy hyl hsw hi ok hjs hg ht hi1 hg1 ht1 he hs hs1) fun Z σ H h => ?_
  obtain ⟨γ, Hk, o, k, e, q⟩ := h
  unfold sAsg fL at e
  refine lc2_imp (K := X.K) (tg := tg) (src := src) (tt := tt) (src1 := src1) (tg1 := tg1) (tt1 := tt1) (elt := ef) (Q := fun x H1 => gName i x σ H1 Z.nx) hjs htg htg1 ?_
  cases el : lLc2 (own.map (·.2)) tg src tt src1 js1 tg1 tt1 ef γ with
  | none => rw [el] at e; cases e
  | some r =>
    obtain ⟨ds, γ1⟩ := r
    rw [el] at e
    simp only at e
    cases eg : gDat i (.list ds) γ1 with
    | none => rw [eg] at e; cases e
    | some γ2 =>
      rw [eg] at e; cases e
      refine ⟨γ, Hk, ds, γ1, k, el, fun p vs H2 Hk2 g hp r => ?_⟩
      have g2 : Grow H2 Hk2 (upd H2 p (.lst vs)) (upd Hk2 p (.lst vs)) := Grow.new g.ok.sub hp
      have g3 := g.trans (g.ok.go g2)
      exact gDat_imp ⟨γ1, _, .list ds, γ2, g3.ok, .lst (SqL.of upd_same) (dps_mono g2.kk r), eg, fun σ2 g4 => q σ2 _ _ (g3.trans g4)⟩
end
/-! ### in: texts in texts, data in lists -/
def flatD : D → Bool
  | .none => true
  | .bool _ => true
  | .int _ => true
  | .str _ => true
  | _ => false
def eqF : D → D → Bool
  | .none, .none => true
  | .bool a, .bool b => a == b
  | .int i, .int j => i == j
  | .str a, .str b => a == b
  | .bool a, .int j => (if a then 1 else 0) == j
  | .int i, .bool b => i == (if b then 1 else 0)
  | _, _ => false
def inD : D → D → Option D
  | .str a, .str b => some (.bool (inS a b))
  | x, .list ds => if SeqAt.shaped x && SeqAt.shaped (.list ds) then some (.bool (ds.any fun z => PyData.eqv z x)) else none
  | _, _ => none
def notInD : D → D → Option D
  | .str a, .str b => some (.bool (!inS a b))
  | x, .list ds => if SeqAt.shaped x && SeqAt.shaped (.list ds) then some (.bool (!ds.any fun z => PyData.eqv z x)) else none
  | _, _ => none
section
variable {K : PySem.W.Frag}
theorem o_in : Op2 K (fun x y H Q => (∃ i j, x = .str i ∧ y = .str j ∧ Q (.bl (!(Builtin.Str.occurrences j i 0 j.length 1).isEmpty)) H) ∨ rInD K x y H Q) inD := by
  intro H Hk x y dx dy dz Q s vx vy e q
  unfold inD at e
  split at e
  · cases e
    exact .inl ⟨_, _, vx.str, vy.str, q _ H Hk (Grow.refl s) (.bl _)⟩
  · split at e <;> cases e
    rename_i c
    rw [Bool.and_eq_true] at c
    exact .inr ⟨_, _, vx.dp s, vy.dp s, c.1, c.2, q _ H Hk (Grow.refl s) (.bl _)⟩
  · cases e
theorem o_notIn : Op2 K (fun x y H Q => (∃ i j, x = .str i ∧ y = .str j ∧ Q (.bl (!(!(Builtin.Str.occurrences j i 0 j.length 1).isEmpty))) H) ∨ rNotInD K x y H Q) notInD := by
  intro H Hk x y dx dy dz Q s vx vy e q
  unfold notInD at e
  split at e
  · cases e
    exact .inl ⟨_, _, vx.str, vy.str, q _ H Hk (Grow.refl s) (.bl _)⟩
  · split at e <;> cases e
    rename_i c
    rw [Bool.and_eq_true] at c
    exact .inr ⟨_, _, vx.dp s, vy.dp s, c.1, c.2, q _ H Hk (Grow.refl s) (.bl _)⟩
  · cases e
theorem x_in {X : Cx} (hr : X.A.units + 65 < cLine) : OpR X (compareOp .In) (fun x y H Q => (∃ i j, x = .str i ∧ y = .str j ∧ Q (.bl (!(Builtin.Str.occurrences j i 0 j.length 1).isEmpty)) H) ∨ rInD X.K x y H Q) := op_in_str.or (op_inD hr)
theorem x_notIn {X : Cx} (hr : X.A.units + 65 < cLine) : OpR X (compareOp .NotIn) (fun x y H Q => (∃ i j, x = .str i ∧ y = .str j ∧ Q (.bl (!(!(Builtin.Str.occurrences j i 0 j.length 1).isEmpty))) H) ∨ rNotInD X.K x y H Q) := op_notIn_str.or (op_notInD hr)
/-! ### all, any, sum -/
def boolsD : List D → Option (List Bool)
  | [] => some []
  | .bool i :: r => (boolsD r).map (i :: ·)
  | _ => none
theorem boolsD_dps {H : Hp} : ∀ {vs : List V} {ds : List D} {ns : List Bool}, DpAll K H vs ds → boolsD ds = some ns → vs = ns.map V.bl
  | _, _, ys, .nil, e => by cases e; rfl
  | _, _, ys, .cons h t, e => by
    unfold boolsD at e
    split at e
    · rename_i e2; cases e2
    · rename_i e2; cases e2
      obtain ⟨zs, e3, e4⟩ := Option.map_eq_some_iff.mp e
      subst e4
      cases h
      rw [boolsD_dps t e3]; rfl
    · cases e
theorem boolsD_map : ∀ ns : List Bool, boolsD (ns.map .bool) = some ns
  | [] => rfl
  | n :: r => by
    show (boolsD (r.map .bool)).map (n :: ·) = _
    rw [boolsD_map r]; rfl
@[simp] def allD : D → Option D
  | .list ds => match boolsD ds with
    | some bs => some (.bool (bs.all id))
    | none => none
  | _ => none
@[simp] def anyD : D → Option D
  | .list ds => match boolsD ds with
    | some bs => some (.bool (bs.any id))
    | none => none
  | _ => none
@[simp] def sumD : D → Option D
  | .list ds => match intsD ds with
    | some ns => some (.int ns.sum)
    | none => none
  | _ => none
theorem o_all : Op1 K (fun x => rAll K [x]) allD := by
  intro H Hk x dx dz Q s vx e q
  unfold allD at e
  split at e
  · split at e <;> cases e
    rename_i en
    obtain ⟨p, vs, rfl, sp, ap⟩ := vx.lst s
    cases boolsD_dps ap en
    exact ⟨p, _, rfl, sp, q _ H Hk (Grow.refl s) (.bl _)⟩
  · cases e
theorem o_any : Op1 K (fun x => rAny K [x]) anyD := by
  intro H Hk x dx dz Q s vx e q
  unfold anyD at e
  split at e
  · split at e <;> cases e
    rename_i en
    obtain ⟨p, vs, rfl, sp, ap⟩ := vx.lst s
    cases boolsD_dps ap en
    exact ⟨p, _, rfl, sp, q _ H Hk (Grow.refl s) (.bl _)⟩
  · cases e
theorem o_sum : Op1 K (fun x => rSum K [x]) sumD := by
  intro H Hk x dx dz Q s vx e q
  unfold sumD at e
  split at e
  · split at e <;> cases e
    rename_i en
    obtain ⟨p, vs, rfl, sp, ap⟩ := vx.lst s
    cases intsD_dps ap en
    exact ⟨p, _, rfl, sp, q _ H Hk (Grow.refl s) (.int _)⟩
  · cases e
end
/-! ### [e] * n -/
@[simp] def lRep (fl : Fa) (g : Fe) : Fa := fun γ => match fl γ with
  | some (ds, γ1) => match g γ1 with
    | some (.int k, γ2) => if decide (ds.length * k.toNat ≤ 1000000) && small62 k then some ((List.replicate k.toNat ds).flatten, γ2) else none
    | _ => none
  | none => none
theorem dps_rep {K : PySem.W.Frag} {H : Hp} {vs : List V} {ds : List D} (h : DpAll K H vs ds) : ∀ n, DpAll K H (List.replicate n vs).flatten (List.replicate n ds).flatten
  | 0 => .nil
  | n + 1 => by
    simp only [List.replicate_succ, List.flatten_cons]
    exact dps_app h (dps_rep h n)
section
variable {X : Cx} {a b e : Expr} {f g : Fe} {fl : Fa} {pos : Pos} {s : Stmt}
theorem el_rep (ha : EL X a fl) (hb : EV X b g) : EL X (.BinOp a .Mult b pos) (lRep fl g) := PE.imp (pe_op op_rep ha hb) fun σ H Q ⟨γ, Hk, ds, γ2, o, ee, q⟩ => by
  unfold lRep at ee
  split at ee
  · rename_i ds0 γ1 ef
    split at ee
    · rename_i k γ2' eg
      split at ee <;> cases ee
      rename_i c
      rw [Bool.and_eq_true] at c
      obtain ⟨c2, c3⟩ := small_of c.2
      refine ⟨γ, Hk, ds0, γ1, o, ef, fun p vs H2 Hk2 g1 hp r => ?_⟩
      have gr : Grow H2 Hk2 (upd H2 p (.lst vs)) Hk2 := Grow.newH g1.ok.sub hp
      have g2 := g1.ok.go gr
      have nown : ¬ OwnA σ γ1 p := fun ⟨i, b, es, e, h⟩ => by
        obtain ⟨q', ws, e1, hq, _⟩ := g1.ok.own i b es e
        rw [h] at e1; cases e1
        rw [hp] at hq; cases hq
      refine ⟨γ1, Hk2, _, _, g2.ok, eg, fun v H3 Hk3 g3 r3 => ?_⟩
      cases r3
      have hp3 := g3.kp p _ upd_same nown
      refine ⟨p, k, vs, rfl, rfl, hp3, by omega, by omega, ?_, fun p2 hp2 => q p2 _ H3 Hk3 ((g1.trans g2).trans g3) hp2 (dps_rep (dps_mono g3.kk r) _)⟩
      rw [dps_len r]
      exact Nat.le_trans (of_decide_eq_true c.1) (by decide)
    · cases ee
  · cases ee
/-! ### raise: what is not asked here -/
@[simp] def sNone : Fs := fun _ => none
theorem es_raise : ES X s sNone := ⟨fun pins s σ H D I ⟨γ, Hk, o, k, e, q⟩ => by cases e⟩
/-! ### a = b = e -/
@[simp] def sAsg2 (f : Fe) (i j : Nat) : Fs := fun γ => match f γ with
  | some (d, γ1) => if pinB γ1 i || pinB γ1 j then none else some (.nx ((γ1.set i (some (.dat d))).set j (some (.dat d))))
  | none => none
theorem pin_set {γ : En} {i : Nat} {d : D} : ∀ {j : Nat}, pinB γ j = false → pinB (γ.set i (some (.dat d))) j = false
  | j + 1, _ => rfl
  | 0, h => by
    unfold pinB at h ⊢
    simp only at h ⊢
    rw [gt_set]
    by_cases c : i = 0 ∧ i < γ.length
    · rw [if_pos c]
    · rw [if_neg c]; exact h
theorem es_asg2 {t1 t2 : Expr} (i j : Nat) (he : EV X e f) (h1 : PG X t1 (gName i)) (h2 : PG X t2 (gName j)) (ha : (assignEach [t1, t2] X.env).map (·.2) = [assign t1 X.env, assign t2 X.env] := by rfl) (hw : swappedStores [t1, t2] e X.env = pure none := by rfl) :
    ES X (.Assign [t1, t2] e pos) (sAsg2 f i j) := PS.imp (ps_asg2 he h1 h2 ha hw) fun Z σ H ⟨γ, Hk, o, k, ee, q⟩ => by
  unfold sAsg2 at ee
  split at ee
  · rename_i d γ1 ef
    split at ee <;> cases ee
    rename_i c
    simp only [Bool.or_eq_true, not_or, Bool.not_eq_true] at c
    refine ⟨γ, Hk, d, γ1, k, ef, fun v H1 Hk1 g1 r1 => ?_⟩
    have g2 := g1.ok.setDat r1 (noPin_of g1.ok c.1)
    have g3 := g2.ok.setDat r1 (noPin_of g2.ok (pin_set c.2))
    exact q _ _ _ ((g1.trans g2).trans g3)
  · cases ee
/-! ### own lists lent to a def that tells a number, a truth, a text, or nothing -/
def atomD : D → Bool
  | .none => true
  | .bool _ => true
  | .int _ => true
  | .str _ => true
  | _ => false
inductive VwAll (K : PySem.W.Frag) (H Hk : Hp) : List V → List D → Prop where
  | nil : VwAll K H Hk [] []
  | cons {v : V} {d : D} {vs : List V} {ds : List D} : Vw K H Hk v d → VwAll K H Hk vs ds → VwAll K H Hk (v :: vs) (d :: ds)
theorem VwAll.dps {K : PySem.W.Frag} {H Hk : Hp} (s : Same Hk H) : ∀ {vs : List V} {ds : List D}, VwAll K H Hk vs ds → DpAll K H vs ds
  | _, _, .nil => .nil
  | _, _, .cons h t => .cons (h.dp s) (VwAll.dps s t)
def tAL (K : PySem.W.Frag) (fa : Fa) : TA := fun σ H Q => ∃ γ Hk ds γ2, Ok K σ H Hk γ ∧ fa γ = some (ds, γ2) ∧ ∀ vs H2 Hk2, Go K σ H Hk γ σ H2 Hk2 γ2 → VwAll K H2 Hk2 vs ds → Q vs H2
def EAL (X : Cx) (es : List Expr) (fa : Fa) : Prop := PA X es (tAL X.K fa)
theorem eal_nil : EAL X [] aNil := PA.imp pa_nil fun σ H Q ⟨γ, Hk, ds, γ2, o, e, q⟩ => by
  cases e
  exact q [] H Hk (Go.refl o) .nil
@[simp] def aLend (i : Nat) (fa : Fa) : Fa := fun γ => match view γ i with
  | some _ => match fa γ with
    | some (ds, γ1) => match view γ1 i with
      | some d => some (d :: ds, γ1)
      | none => none
    | none => none
  | none => none
variable {es : List Expr} {fa : Fa}
theorem eal_lend {i : Nat} (h : PE X e (tVar i)) (hr : EAL X es fa) (hs : starEach (e :: es) X.env = (false, eval e X.env) :: starEach es X.env := by rfl) : EAL X (e :: es) (aLend i fa) := PA.imp (pa_cons h hr hs) fun σ H Q ⟨γ, Hk, ds, γ2, o, ee, q⟩ => by
  unfold aLend at ee
  split at ee
  · rename_i d0 e0
    split at ee
    · rename_i ds' γ1 efa
      split at ee <;> cases ee
      rename_i d e1
      obtain ⟨v, ev, _⟩ := o.view e0
      refine ⟨v, ev, γ, Hk, ds', _, o, efa, fun vs H2 Hk2 g2 r2 => ?_⟩
      obtain ⟨v', ev', w⟩ := g2.ok.view e1
      rw [ev] at ev'; cases ev'
      exact q _ H2 Hk2 g2 (.cons w r2)
    · cases ee
  · cases ee
theorem vw_later {K : PySem.W.Frag} {Hk H2 Hk2 : Hp} {v : V} {d : D} (h : Dp K Hk v d) (k : Same Hk Hk2) : Vw K H2 Hk2 v d := .inl (dp_mono k h)
theorem eal_cons (h : EV X e f) (hr : EAL X es fa) (hs : starEach (e :: es) X.env = (false, eval e X.env) :: starEach es X.env := by rfl) : EAL X (e :: es) (aCons f fa) := PA.imp (pa_cons h hr hs) fun σ H Q ⟨γ, Hk, ds, γ2, o, ee, q⟩ => by
  unfold aCons at ee
  split at ee
  · rename_i d γ1 ef
    split at ee <;> cases ee
    rename_i ds' efa
    exact ⟨γ, Hk, d, γ1, o, ef, fun v H1 Hk1 g1 r1 => ⟨γ1, Hk1, ds', γ2, g1.ok, efa, fun vs H2 Hk2 g2 r2 => q _ H2 Hk2 (g1.trans g2) (.cons (vw_later r1 g2.kk) r2)⟩⟩
  · cases ee
@[simp] def fCallL (n : Nat) (F : Fun') (fa : Fa) : Fe := fun γ => match fa γ with
  | some (ds, γ1) => if ds.length = n then match F ds with
    | some (d, _) => if atomD d then some (d, γ1) else none
    | none => none
    else none
  | none => none
theorem atom_dp {K : PySem.W.Frag} {H H' : Hp} {v : V} {d : D} (h : Dp K H v d) (a : atomD d = true) : Dp K H' v d := by
  cases h with
  | non => exact .non
  | bl b => exact .bl b
  | int i => exact .int i
  | str x => exact .str x
  | lst _ _ => cases a
  | tup _ _ => cases a
theorem ev_callL {x : Str} {k n : Nat} {ps : List Str} {F : Fun'} {p : Pos} (C : Cal X.prog X.w X.K X.mg X.base x k ps false F) (hr : Room k X.A) (hG : X.A.guards = some []) (hg : Gl X x) (ha : EAL X (e :: es) fa) (hn : ps.length = n := by rfl)
    (hdb : (x == ("__debug__" : Str)) = false := by decide) (he : starEach (e :: es) X.env = (false, eval e X.env) :: starEach es X.env := by rfl) (hpl : (backTo pos (starEach es X.env)).any (·.1) = false := by rfl) :
    EV X (.Call (.Name x p) (e :: es) [] pos) (fCallL n F fa) := by
  subst hn
  obtain ⟨f, fd, G, hm, hk, hb⟩ := C
  refine ⟨fun pins s σ H Q I h => ?_⟩
  obtain ⟨γ, Hk, d, γ2, ok, ee, q⟩ := h
  unfold fCallL at ee
  split at ee
  · rename_i ds γ1 ea
    split at ee
    · rename_i hl
      split at ee
      · rename_i d' out eF
        split at ee <;> cases ee
        rename_i at'
        refine wpAny_Call_Name_kw (ld_glob I hg hm ?_ hdb)
        refine PySem.W.callWith_K (h₀ := X.base) I.ok.mod.kin hk (thn (ha.run pos pins s σ H (fun vs H1 => spD X.K false ps.length F vs H1 Q) I ⟨γ, Hk, ds, _, ok, ea, fun vs H1 Hk1 g1 r1 => ?_⟩) fun us s1 ⟨vs, H1, I1, r, q1⟩ => ⟨I1.kIn, ?_⟩) he hpl
        · have rd := r1.dps g1.ok.sub
          refine ⟨by rw [dps_len rd]; exact hl, H1, ds, d, out, Same.refl _, rd, eF, fun v H2 Hk2 s2 k2 nw kp r2 _ => ?_⟩
          have hh : Same H1 H2 := fun a u h => kp a u h fun z => absurd z Bool.false_ne_true
          exact q v H2 Hk1 (g1.trans (g1.ok.go ⟨hh, Same.refl _, g1.ok.sub.trans hh, fun a u h n => by rw [h] at n; cases n⟩)) (atom_dp r2 at')
        · exact runG G hr hG hb I1 r q1
      · cases ee
    · cases ee
  · cases ee
end
/-! ### t[::-1], t a tuple (a text: ev_rev) -/
section
variable {prog : Program} {w : World} {A : Around} {E : Value → Shared → Prop} {s : Shared}
theorem adjust_rev (n : Nat) : Builtin.Slice.sliceAdjust none none (-1) (n : Int) = ((n : Int) - 1, -1) := by
  unfold Builtin.Slice.sliceAdjust
  simp
theorem places_rev (n : Nat) : Builtin.Slice.slicePlaces ((n : Int) - 1) (-1) (-1) = n := by
  unfold Builtin.Slice.slicePlaces
  have h1 : ¬ ((-1 : Int) > 0) := by omega
  simp only [h1, if_false]
  split
  · have : ((n : Int) - 1 - -1 - 1) / - -1 + 1 = n := by
      rw [show - -1 = (1 : Int) from rfl, Int.ediv_one]; omega
    omega
  · omega
theorem fm_congr {α β : Type} {f g : α → Option β} : ∀ {l : List α}, (∀ m ∈ l, f m = g m) → l.filterMap f = l.filterMap g
  | [], _ => rfl
  | a :: r, h => by
    rw [List.filterMap_cons, List.filterMap_cons, h a (by simp), fm_congr fun m hm => h m (by simp [hm])]
theorem pick_rev (xs : Array Value) : ((List.range xs.size).filterMap fun (m : Nat) => xs[((xs.size : Int) - 1 + (m : Int) * (-1)).toNat]?).toArray = xs.toList.reverse.toArray := by
  have e : ((List.range xs.size).filterMap fun (m : Nat) => xs[((xs.size : Int) - 1 + (m : Int) * (-1)).toNat]?) = ((List.range xs.size).map fun k => xs.size - 1 - k).filterMap (xs[·]?) := by
    rw [List.filterMap_map]
    refine fm_congr fun m hm => ?_
    rw [List.mem_range] at hm
    have : ((xs.size : Int) - 1 + (m : Int) * (-1)).toNat = xs.size - 1 - m := by omega
    rw [this]; rfl
  rw [e, PySem.W.krv_range, List.filterMap_reverse, PySem.W.krv_all]
theorem getItem_tuple_rev {t sl : Addr} {items : Array Value} {vl vu : Value} {tk : Tok} {Q : Value → Shared → Prop} (ht : IsTup s.heap t items) (hs : s.heap.IsSliceOf sl vl vu (.int (-1) tk)) (pl : IsPart vl none) (pu : IsPart vu none)
    (h : Q (.ref s.heap.objs.size) { s with heap := s.heap.push { cls := .type "tuple", data := .seq items.toList.reverse.toArray } })
    (hsz : items.size ≤ sizeLine) : wpAny (model prog w) A (getItem (.ref t) (.ref sl)) Q E s := by
  have htake : sizeOk (.seq items.toList.reverse.toArray) := by
    show items.toList.reverse.toArray.size ≤ sizeLine
    simpa using hsz
  obtain ⟨os, hos, hcs, hds⟩ := id hs
  have hTs : s.TypeIs (.ref sl) "slice" := ⟨os, hos, hcs⟩
  unfold getItem
  try with_reducible refine wpAny_holding ?_
  first | refine wpAny_bind (wpAny_pure ?_) | skip
  refine wpAny_bind (wpAny_sequenceKey ht.typeIs (by decide) ?_)
  refine wpAny_bind (wpAny_callSpecial?_slot (name := Str.ofString "__getitem__") ht.typeIs PyProof.Rows.slot_tuple_getitem
    (wpAny_call_entry PyProof.Rows.slot_tuple_getitem ht.typeIs PyProof.Rows.entry_tuple_getitem ?_ (PyProof.Rows.args_tuple_getitem _ _)))
  show wpAny _ _ (Builtin.Tuple.tupleItemsOf (.ref t) >>= _) _ _ s
  refine wpAny_bind (tupleItemsOf_ ht ?_)
  refine wpAny_bind (wpAny_typeOf hTs ?_)
  rw [if_pos (by decide)]
  have ap : ∀ {Q : Int × Int × Nat → Shared → Prop}, Q ((items.size : Int) - 1, -1, items.size) s → wpAny (model prog w) A.in1 (Builtin.Slice.sliceApplied (.ref sl) (pure ((items.size : Nat) : Int))) Q E s := fun {Q} h => by
    unfold Builtin.Slice.sliceApplied Builtin.Slice.sliceFields
    refine wpAny_bind (wpAny_bind (wpAny_field hos hds (x := vl) rfl (wpAny_bind (wpAny_field hos hds (x := vu) rfl (wpAny_bind (wpAny_field hos hds (x := .int (-1) tk) rfl (wpAny_pure ?_)))))))
    refine wpAny_bind (HT.slicePart_ (.int _ _) ?_)
    show wpAny _ _ (if ((-1 : Int) == 0) = true then _ else _) _ _ s
    rw [if_neg (by decide)]
    refine wpAny_bind (HT.slicePart_ pl (wpAny_bind (HT.slicePart_ pu (wpAny_bind (wpAny_pure ?_)))))
    show wpAny _ _ (match Builtin.Slice.sliceAdjust none none (-1) ((items.size : Nat) : Int) with | (lo, hi) => pure (lo, (-1 : Int), Builtin.Slice.slicePlaces lo hi (-1))) _ _ s
    rw [adjust_rev]
    show wpAny _ _ (pure (((items.size : Int) - 1), (-1 : Int), Builtin.Slice.slicePlaces ((items.size : Int) - 1) (-1) (-1))) _ _ s
    rw [places_rev]
    exact wpAny_pure h
  refine wpAny_bind (ap ?_)
  have hno : ¬ (((((items.size : Nat) : Int) - 1) == 0 && (-1 : Int) == 1 && items.size == items.size) = true) := by
    intro q
    rw [Bool.and_eq_true, Bool.and_eq_true] at q
    exact absurd q.1.2 (by decide)
  show wpAny _ _ (if ((((items.size : Nat) : Int) - 1) == 0 && (-1 : Int) == 1 && items.size == items.size) = true then _ else _) _ _ s
  rw [if_neg hno, pick_rev]
  first
    | exact wpAny_bind (m := Builtin.Tuple.tupleExact _) (wpAny_newObj_type (wpAny_pure ⟨_, rfl, wpAny_pure h⟩) htake)
    | exact wpAny_bind (m := Builtin.Tuple.tupleExact _) (wpAny_newObj_type (wpAny_bind (wpAny_pure (wpAny_pure ⟨_, rfl, wpAny_pure h⟩))) htake)
    | exact wpAny_bind (wpAny_bind (m := Builtin.Tuple.tupleExact _) (wpAny_newObj_type (wpAny_pure (wpAny_pure ⟨_, rfl, wpAny_pure h⟩)) htake))
    | exact wpAny_bind (wpAny_bind (m := Builtin.Tuple.tupleExact _) (wpAny_newObj_type (wpAny_pure ⟨_, rfl, wpAny_pure h⟩) htake))
end
@[simp] def revTD : D → Option D
  | .tuple ds => some (.tuple ds.reverse)
  | _ => none
theorem dps_rev {K : PySem.W.Frag} {H : Hp} : ∀ {vs : List V} {ds : List D}, DpAll K H vs ds → DpAll K H vs.reverse ds.reverse
  | _, _, .nil => .nil
  | _, _, .cons h t => by
    simp only [List.reverse_cons]
    exact dps_app (dps_rev t) (.cons h .nil)
section
variable {X : Cx} {e : Expr} {f : Fe} {pos : Pos}
theorem ev_revT {k : Nat} {p1 p2 p3 : Pos} (he : EV X e f) : EV X (.Subscript e (.Slice none none (some (.UnaryOp .USub (.Constant (.int 1) k p1) p2)) p3) pos) (f1 revTD f) := by
  refine ⟨fun pins s σ H Q I h => ?_⟩
  obtain ⟨γ, Hk, dd, γ2, ok, ee, q⟩ := h
  unfold f1 at ee
  split at ee
  · rename_i dx γ1 ef
    split at ee
    · rename_i z eo
      cases ee
      unfold revTD at eo
      split at eo <;> cases eo
      rename_i ds
      refine Subscript_ (thn (he.run pins s σ H (fun v2 H2 => ∃ a xs Hk2, v2 = .ref a ∧ SqT X.K H2 a xs ∧ DpAll X.K Hk2 xs ds ∧ Go X.K σ H Hk γ σ H2 Hk2 γ2) I ⟨γ, Hk, _, _, ok, ef, fun v2 H2 Hk2 g2 r2 => by
        cases r2 with
        | tup hs ra => exact ⟨_, _, Hk2, rfl, sqt_mono g2.ok.sub hs, ra, g2⟩⟩) fun v s1 ⟨x, H1, I1, r1, a, xs, Hk2, ex, hx, ra, g2⟩ => ?_)
      subst ex
      cases r1
      have hst : PO X (some (.UnaryOp .USub (.Constant (.int 1) k p1) p2)) (tPart (tUn (rU fun i => .int (-i)) (tC (.int 1)))) := po_some (pe_un un_neg pe_int)
      refine wpAny_Slice (thn (po_none.run pins s1 σ H1 (fun o H2 => o = none ∧ H2 = H1) I1 ⟨rfl, rfl⟩) fun vl s2 ⟨l, H2, I2, pl, el, e2⟩ => ?_)
      subst el e2
      refine thn (po_none.run pins s2 σ H2 (fun o H3 => o = none ∧ H3 = H2) I2 ⟨rfl, rfl⟩) fun vu s3 ⟨u, H3, I3, pu, eu, e3⟩ => ?_
      subst eu e3
      refine thn (hst.run pins s3 σ H3 (fun o H4 => o = some (-1) ∧ H4 = H3) I3 ⟨1, rfl, -1, rfl, rfl, rfl⟩) fun vs s4 ⟨o, H4, I4, ps, eo, e4⟩ => ?_
      subst eo e4
      have I5 : Inv X pins σ H4 { s4 with heap := s4.heap.push { cls := .type "slice", data := .fields #[vl, vu, vs] } } := I4.kept (t' := s4.toks) fun b ob q => Heap.get?_push_of_some _ q
      obtain ⟨its, r, ht, hz⟩ := I5.tuple hx
      have hlen := r.length
      cases ps
      show wpAny (model X.prog X.w) X.A (subscriptTail e (.Slice none none (some (.UnaryOp .USub (.Constant (.int 1) k p1) p2)) p3) (.ref a) (.ref s4.heap.objs.size)) (EP X pins σ Q) X.xe _
      refine tail_any (ops := [.ref a, .ref s4.heap.objs.size]) ht.typeIs (PyProof.Rows.slot_tuple_getitem.lookup) ?_ (by with_unfolding_all rfl)
      refine getItem_tuple_rev ht (Heap.IsSliceOf.new _ vl vu _) pl pu ?_ (by rw [List.size_toArray]; omega)
      have fr := I5.hok.fresh (Nat.le_refl _)
      have gr : Grow H4 Hk2 (upd H4 _ (.tup xs.reverse)) (upd Hk2 _ (.tup xs.reverse)) := Grow.new g2.ok.sub fr
      refine ⟨.ref _, _, I5.laid (t' := s4.toks) (o := .tup xs.reverse) (fun b ob q => Heap.get?_push_of_some _ q) (Nat.le_refl _) ?_, rfl, q _ _ _ (g2.trans (g2.ok.go gr)) (.tup (SqT.of upd_same) (dps_mono gr.kk (dps_rev ra)))⟩
      exact ⟨by rw [List.length_reverse]; exact hz, _, r.reverse, IsTup.new _ _⟩
    · cases ee
  · cases ee
end
end DN
namespace DN
open PySem PySem.Spec PyProof.Rows L2
theorem u65 {k : Nat} {A : Around} (r : Room k A) : A.units + 65 < cLine := by have := r.un; omega
/-! ### truth of any data -/
@[simp] def truD : D → Option Bool
  | .none => some false
  | .bool b => some b
  | .int i => some (i != 0)
  | .str y => if okN y.length then some ((y.length : Int) != 0) else none
  | .list ds => some (!ds.isEmpty)
  | .tuple ds => some (!ds.isEmpty)
  | _ => none
theorem dps_emp {K : PySem.W.Frag} {H : Hp} {vs : List V} {ds : List D} (h : DpAll K H vs ds) : ds.isEmpty = vs.isEmpty := by
  cases h <;> rfl
theorem tru_of {K : PySem.W.Frag} {H Hk : Hp} {v : V} {d : D} {k : Bool} (s : Same Hk H) (w : Vw K H Hk v d) (e : truD d = some k) : TruV K v H k := by
  unfold truD at e
  split at e
  · cases e; cases w.non; rfl
  · cases e; cases w.bl; rfl
  · cases e; cases w.int; rfl
  · split at e <;> cases e
    rename_i c
    cases w.str
    exact ⟨okN_line c, rfl⟩
  · cases e
    obtain ⟨p, vs, rfl, sp, ap⟩ := w.lst s
    exact .inl ⟨vs, sp, by rw [dps_emp ap]⟩
  · cases e
    obtain ⟨p, vs, rfl, sp, ap⟩ := w.tup s
    exact .inr (.inl ⟨vs, sp, by rw [dps_emp ap]⟩)
  · cases e
@[simp] def cTru (f : Fe) : Ft := fun γ => match f γ with
  | some (d, γ2) => match truD d with
    | some b => some (b, γ2)
    | none => none
  | none => none
@[simp] def cTrun (i : Nat) : Ft := fun γ => match view γ i with
  | some d => match truD d with
    | some b => some (b, γ)
    | none => none
  | none => none
section
variable {X : Cx} {c : Expr} {f : Fe}
theorem et_tru (h : EV X c f) (he : ∀ whole, isTrue c X.env whole = (do let v ← whole; standAt c.pos; holding [v] (truthy v)) := by intro _; rfl) : ET X c (cTru f) := PT.imp (pt_truth h he) fun σ H Q ⟨γ, Hk, b, γ2, o, e, q⟩ => by
  unfold cTru at e
  split at e
  · rename_i d γ1 ef
    split at e <;> cases e
    rename_i eb
    exact ⟨γ, Hk, d, _, o, ef, fun v H2 Hk2 g r => ⟨b, tru_of g.ok.sub (.inl r) eb, q H2 Hk2 g⟩⟩
  · cases e
theorem et_trun {i : Nat} (h : PE X c (tVar i)) (he : ∀ whole, isTrue c X.env whole = (do let v ← whole; standAt c.pos; holding [v] (truthy v)) := by intro _; rfl) : ET X c (cTrun i) := PT.imp (pt_truth h he) fun σ H Q ⟨γ, Hk, b, γ2, o, e, q⟩ => by
  unfold cTrun at e
  split at e
  · rename_i d ev
    split at e <;> cases e
    rename_i eb
    obtain ⟨v, e1, w⟩ := o.view ev
    exact ⟨v, e1, b, tru_of o.sub w eb, q H Hk (Go.refl o)⟩
  · cases e
end
/-! ### a list unpacked into names -/
@[simp] def gLp (n : Nat) (tgs : Fgs) : Fg := fun d γ => match d with
  | .list ds => if ds.length = n then tgs ds γ else none
  | _ => none
section
variable {X : Cx} {es : List Expr} {tgs : Fgs} {pos : Pos}
theorem eg_lst (n : Nat) {k : Nat} (hc : X.calm = true) (h : EGs X es tgs) (hn : (assignEach es X.env).length = n := by rfl) (hst : (assignEach es X.env).findIdx? (·.1) = none := by rfl) : EG X (.Tuple es k pos) (gLp n tgs) :=
  PG.imp (pg_unl hc h hn hst) fun v σ H Q ⟨γ, Hk, d, γ2, o, r, e, q⟩ => by
  unfold gLp at e
  split at e
  · rename_i ds
    split at e
    · rename_i hl
      cases r with
      | lst hs ra => exact ⟨_, _, rfl, sql_mono o.sub hs, by rw [dps_len ra]; exact hl, γ, Hk, ds, γ2, o, ra, e, q⟩
    · cases e
  · cases e
end
end DN
namespace DN
open PySem PySem.Spec PyProof.Rows L2
/-! ### sorted of any data that are alike -/
def alikeB (ds : List D) : Bool := ds.all fun d => ds.all fun d' => PySem.W.alike d d'
theorem alikeB_of {ds : List D} (h : alikeB ds = true) : PySem.W.AllAlike ds := fun d hd d' hd' => by
  unfold alikeB at h
  rw [List.all_eq_true] at h
  have := h d hd
  rw [List.all_eq_true] at this
  exact this d' hd'
def tupB : D → Bool
  | .tuple (_ :: _) => true
  | _ => false
def othB : D → Bool
  | .tuple _ => false
  | .none => false
  | _ => true
def sortB (ds : List D) : Bool := ds.all tupB || ds.all othB
theorem sortB_of {ds : List D} (h : sortB ds = true) : PySem.W.Sortable ds := by
  unfold sortB at h
  rw [Bool.or_eq_true, List.all_eq_true, List.all_eq_true] at h
  rcases h with h | h
  · refine .inl fun d hd => ?_
    have := h d hd
    unfold tupB at this
    split at this
    · exact ⟨_, _, rfl⟩
    · cases this
  · refine .inr fun d hd => ?_
    have := h d hd
    unfold othB at this
    split at this
    · cases this
    · cases this
    · rename_i h1 h2
      exact ⟨h2, h1⟩
def deepB (ds : List D) : Bool := ds.all fun d => decide (d.depth ≤ 20)
abbrev leD0 (a b : D) : Bool := PySem.W.dataLe false (fun x : D => x) a b
def srtD (ds : List D) : List D := ds.mergeSort leD0
def rSortD (K : PySem.W.Frag) : List V → Hp → VK → Prop := fun vs H Q => ∃ (Hk : Hp) (a : Addr) (xs : List V) (ds : List D), Same Hk H ∧ vs = [V.ref a] ∧ SqL K H a xs ∧ DpAll K Hk xs ds ∧ alikeB ds = true ∧ sortB ds = true ∧ deepB ds = true ∧
  ∀ (ys : List V) (p : Addr), DpAll K Hk ys (srtD ds) → H p = none → Q (.ref p) (upd H p (.lst ys))
section
variable {X : Cx}
theorem each_of {K : PySem.W.Frag} {H : Hp} : ∀ {us : List Value} {xs : List V} {ds : List D}, Vals xs us → DpAll K H xs ds → PySem.W.EachIs (fun u (b : V × D) => RelV b.1 u ∧ Dp K H b.1 b.2) us (xs.zip ds)
  | _, _, _, .nil, .nil => .nil
  | _, _, _, .cons r rr, .cons d dd => .cons ⟨r, d⟩ (each_of rr dd)
theorem each_out {K : PySem.W.Frag} {H : Hp} : ∀ {us : List Value} {bs : List (V × D)}, PySem.W.EachIs (fun u (b : V × D) => RelV b.1 u ∧ Dp K H b.1 b.2) us bs → Vals (bs.map (·.1)) us ∧ DpAll K H (bs.map (·.1)) (bs.map (·.2))
  | _, _, .nil => ⟨.nil, .nil⟩
  | _, _, .cons h t => ⟨.cons h.1 (each_out t).1, .cons h.2 (each_out t).2⟩
theorem zip_snd {α β : Type} : ∀ {xs : List α} {ys : List β}, xs.length = ys.length → (xs.zip ys).map (·.2) = ys
  | [], [], _ => rfl
  | _ :: xs, _ :: ys, h => by
    simp only [List.zip_cons_cons, List.map_cons]
    rw [zip_snd (by simpa using h)]
theorem cr_sortD {k : Nat} (hr : Room k X.A) : CallR X (.builtin "sorted") (rSortD X.K) := by
  intro pins s σ H vs us Q I r h
  obtain ⟨Hk, a, xs, ds, sub, rfl, hs, hd, h1, h2, h3, q⟩ := h
  obtain ⟨its, rv, hl, hz⟩ := I.list hs
  rw [Vals.ref1 r]
  have hlen := dps_len hd
  have e1 := each_of rv hd
  have er : PySem.W.EachIs (fun v (b : V × D) => ∃ as, Reads s.heap v b.2 as) its (xs.zip ds) := e1.mono fun u b ⟨ru, du⟩ => Dp.reads I b.2 b.1 u (dp_mono sub du) ru
  have em : (xs.zip ds).map (fun b : V × D => b.2) = ds := zip_snd hlen
  have un := hr.un
  refine PySem.W.sorted_data (enc := fun b : V × D => b.2) hl.isList e1 er (by rw [em]; exact alikeB_of h1) (by rw [em]; exact sortB_of h2) (by rw [List.length_zip, hlen, Nat.min_self, ← hlen]; exact hz) (fun b hb => ?_) fun out ho he => ?_
  · have : b.2 ∈ ds := by rw [← em]; exact List.mem_map_of_mem hb
    unfold deepB at h3
    rw [List.all_eq_true] at h3
    have := of_decide_eq_true (h3 b.2 this)
    omega
  · obtain ⟨v1, d1⟩ := each_out he
    have es : ((xs.zip ds).mergeSort (PySem.W.dataLe false fun b : V × D => b.2)).map (fun b : V × D => b.2) = srtD ds := by
      have := PySem.W.sort_maps (r := PySem.W.dataLe false fun b : V × D => b.2) (s := leD0) (l := xs.zip ds) (fun b : V × D => b.2) (fun a _ b _ => rfl)
      rw [em] at this
      exact this
    rw [es] at d1
    obtain ⟨ep, he'⟩ := PyProof.Rows.sortedAll_at s.heap its out.toArray
    have hl2 : (((xs.zip ds).mergeSort (PySem.W.dataLe false fun b : V × D => b.2)).map (fun b : V × D => b.1)).length ≤ sizeLine := by
      rw [List.length_map, List.length_mergeSort, List.length_zip, hlen, Nat.min_self, ← hlen]
      exact hz
    exact ⟨.ref _, upd H (s.heap.objs.size + 1) (.lst _), I.laid (t' := s.toks) (fun _ _ => PyProof.Rows.sortedAll_old) (Nat.le_succ _) ⟨hl2, out, ep, v1, he'⟩, rfl, q _ _ d1 (I.hok.fresh (Nat.le_succ _))⟩
@[simp] def lSrt (f : Fe) : Fa := fun γ => match f γ with
  | some (.list ds, γ1) => if alikeB ds && sortB ds && deepB ds then some (srtD ds, γ1) else none
  | _ => none
theorem el_sortD {a : Expr} {f : Fe} {k : Nat} {pos p : Pos} (hr : Room k X.A) (hm : X.mg "sorted" = none) (hg : Gl X "sorted") (ha : EV X a f) (he : starEach [a] X.env = (false, eval a X.env) :: starEach [] X.env := by rfl) (hpl : (backTo pos (starEach [] X.env)).any (·.1) = false := by rfl) :
    EL X (.Call (.Name "sorted" p) [a] [] pos) (lSrt f) := PE.imp (pe_callB (cr_sortD hr) hg hm (by decide +kernel) (pa_cons ha pa_nil he) (he := he) (hpl := hpl)) fun σ H Q ⟨γ, Hk, d, γ2, o, ee, q⟩ => by
  unfold lSrt at ee
  split at ee
  · rename_i ds γ1 ef
    split at ee <;> cases ee
    rename_i c
    rw [Bool.and_eq_true, Bool.and_eq_true] at c
    refine ⟨γ, Hk, _, γ2, o, ef, fun v H1 Hk1 g1 r1 => ?_⟩
    cases r1 with
    | lst h t => exact ⟨Hk1, _, _, ds, g1.ok.sub, rfl, sql_mono g1.ok.sub h, t, c.1.1, c.1.2, c.2, fun ys p dy hn => q p _ H1 Hk1 g1 hn dy⟩
  · cases ee
/-! ### min(xs, default = e) -/
def minL (ds : List D) (z : D) : D := match ds with
  | [] => z
  | y :: ys => PySem.W.minD y ys
def nonB (ds : List D) : Bool := ds.all fun d => match d with
  | .none => false
  | _ => true
def rMinD (K : PySem.W.Frag) : List V → List V → Hp → VK → Prop := fun vs zs H Q => ∃ (Hk : Hp) (a : Addr) (xs : List V) (ds : List D) (z : V) (zd : D), Same Hk H ∧ vs = [V.ref a] ∧ zs = [z] ∧ Dp K Hk z zd ∧ SqL K H a xs ∧ DpAll K Hk xs ds ∧ alikeB ds = true ∧ nonB ds = true ∧ decide (PyData.depthAll ds ≤ 20) = true ∧
  ∀ y : V, Dp K Hk y (minL ds zd) → Q y H
theorem readsAll_of {K : PySem.W.Frag} {pins : List (Addr × Obj)} {σ : L2.St} {H Hk : Hp} {s : Shared} (I : Inv X pins σ H s) (sub : Same Hk H) : ∀ {us : List Value} {xs : List V} {ds : List D}, Vals xs us → DpAll X.K Hk xs ds → ∃ as, ReadsAll s.heap us ds as
  | _, _, _, .nil, .nil => ⟨[], .nil⟩
  | _, _, _, .cons r rr, .cons d dd => by
    obtain ⟨a1, r1⟩ := Dp.reads I _ _ _ (dp_mono sub d) r
    obtain ⟨a2, r2⟩ := readsAll_of (K := K) I sub rr dd
    exact ⟨_, .cons r1 r2⟩
theorem minD_mem : ∀ (ys : List D) (y : D), PySem.W.minD y ys ∈ y :: ys
  | [], y => by simp [PySem.W.minD]
  | z :: ys, y => by
    unfold PySem.W.minD
    rw [List.foldl_cons]
    by_cases h : PySem.W.dataLt z y = true
    · rw [if_pos h]
      have := minD_mem ys z
      unfold PySem.W.minD at this
      rcases List.mem_cons.mp this with e | e
      · rw [e]; simp
      · simp [e]
    · rw [if_neg h]
      have := minD_mem ys y
      unfold PySem.W.minD at this
      rcases List.mem_cons.mp this with e | e
      · rw [e]; simp
      · simp [e]
theorem cr_minD {k : Nat} (hc : X.calm = true) (hr : Room k X.A) : CallRK X (.builtin "min") [Str.ofString "default"] (rMinD X.K) := by
  intro pins s σ H vs zs us ws Q I r rz h
  obtain ⟨Hk, a, xs, ds, z, zd, sub, rfl, rfl, hz, hs, hd, h1, h2, h3, q⟩ := h
  obtain ⟨its, rv, hl, hzz⟩ := I.list hs
  rw [Vals.ref1 r]
  cases rz with
  | cons r0 rr =>
    cases rr
    rename_i w0
    show wpAny _ _ (call (.builtin "min") [.ref a] [(Str.ofString "default", w0)]) _ _ _
    obtain ⟨as, ra⟩ := readsAll_of (K := X.K) I sub rv hd
    have un := hr.un
    have hal : PySem.W.AlikeAll ds := ⟨alikeB_of h1, fun x hx e => by
      subst e
      unfold nonB at h2
      rw [List.all_eq_true] at h2
      exact absurd (h2 _ hx) (by simp)⟩
    refine PySem.W.min_list_default (hh := I.ok.hd hc) hl.isList (by simpa using ra) hal (by have := of_decide_eq_true h3; omega) (fun e h' tk hk => ?_) fun y ys i v h' tk bs e hi rr hk => ?_
    · subst e
      exact ⟨z, H, I.kept (t' := tk) hk, r0, q z hz⟩
    · subst e
      have hi' : its[i]? = some v := by simpa using hi
      have hlt : i < xs.length := by
        have := (List.getElem?_eq_some_iff.mp hi').1
        rw [rv.length]; exact this
      obtain ⟨x, ex⟩ : ∃ x, xs[i]? = some x := ⟨_, List.getElem?_eq_getElem hlt⟩
      obtain ⟨u, eu, ru⟩ := rv.get ex
      rw [hi'] at eu
      cases eu
      have hlt2 : i < (y :: ys).length := by rw [← dps_len hd]; exact hlt
      obtain ⟨x2, ex2, dx⟩ := dps_at hd (List.getElem?_eq_getElem hlt2)
      rw [ex] at ex2
      cases ex2
      have I2 : Inv X pins σ H { s with heap := h', toks := tk } := I.kept (t' := tk) hk
      obtain ⟨cs, r3⟩ := Dp.reads I2 _ _ _ (dp_mono sub dx) ru
      have em : (y :: ys)[i] = PySem.W.minD y ys := PySem.W.alike_unique _ _ _ _ _ (hal.1 _ (List.getElem_mem _) _ (minD_mem ys y)) r3 rr
      rw [em] at dx
      exact ⟨x, H, I2, ru, q x dx⟩
@[simp] def fMinD (f g : Fe) : Fe := fun γ => match f γ with
  | some (.list ds, γ1) => match g γ1 with
    | some (z, γ2) => if alikeB ds && nonB ds && decide (PyData.depthAll ds ≤ 20) then some (minL ds z, γ2) else none
    | none => none
  | _ => none
theorem ev_minD {a b : Expr} {f g : Fe} {k : Nat} {pos p kpos : Pos} (hc : X.calm = true) (hr : Room k X.A) (hm : X.mg "min" = none) (hg : Gl X "min") (ha : EV X a f) (hb : EV X b g)
    (hs : starEach [a] X.env = (false, eval a X.env) :: starEach [] X.env := by rfl)
    (he : backTo pos (starEach [a] X.env) = (false, eval a X.env) :: backTo pos (starEach [] X.env) := by rfl) (hpl : (backTo pos (starEach [a] X.env)).any (·.1) = false := by rfl)
    (hall : (backToKw pos (keywordEach [⟨some "default", b, kpos⟩] X.env)).all (·.1.isSome) = true := by rfl) (hnone : (backToKw pos (keywordEach [⟨some "default", b, kpos⟩] X.env)).any (·.1.isNone) = false := by rfl) (hks : (backToKw pos (keywordEach [⟨some "default", b, kpos⟩] X.env)).filterMap (·.1) = [Str.ofString "default"] := by rfl) :
    EV X (.Call (.Name "min" p) [a] [⟨some "default", b, kpos⟩] pos) (fMinD f g) := PE.imp (pe_callBK (cr_minD hc hr) hg hm (by decide +kernel) (pa_cons ha pa_nil hs) (pk_cons hb pk_nil) (he := he) (hpl := hpl) (hall := hall) (hnone := hnone) (hks := hks)) fun σ H Q ⟨γ, Hk, d, γ2, o, ee, q⟩ => by
  unfold fMinD at ee
  split at ee
  · rename_i ds γ1 ef
    split at ee
    · rename_i z γ2' eg
      split at ee <;> cases ee
      rename_i c
      rw [Bool.and_eq_true, Bool.and_eq_true] at c
      refine ⟨γ, Hk, _, γ1, o, ef, fun v H1 Hk1 g1 r1 => ?_⟩
      cases r1 with
      | lst h t => exact ⟨γ1, Hk1, z, _, g1.ok, eg, fun u H2 Hk2 g2 r2 => ⟨Hk2, _, _, ds, u, z, g2.ok.sub, rfl, rfl, r2, sql_mono g2.ok.sub (sql_mono g2.kk h), dps_mono g2.kk t, c.1.1, c.1.2, c.2, fun y dy => q y H2 Hk2 (g1.trans g2) dy⟩⟩
    · cases ee
  · cases ee
theorem dpall_mono {K : PySem.W.Frag} {H Hk : Hp} (s : Same Hk H) {vs : List V} {ds : List D} (h : DpAll K Hk vs ds) : DpAll K H vs ds := dps_mono s h
/-- a permutation of lasting data lasts -/
theorem dps_mem {K : PySem.W.Frag} {H : Hp} : ∀ {vs : List V} {ds : List D}, DpAll K H vs ds → ∀ d ∈ ds, ∃ v ∈ vs, Dp K H v d
  | _, _, .nil, d, h => by cases h
  | _, _, .cons a t, d, h => by
    rcases List.mem_cons.mp h with rfl | h
    · exact ⟨_, by simp, a⟩
    · obtain ⟨v, hv, r⟩ := dps_mem t d h
      exact ⟨v, by simp [hv], r⟩
end
/-! ### t[::-1], t a list -/
@[simp] def revLD : D → Option D
  | .list ds => some (.list ds.reverse)
  | _ => none
section
variable {X : Cx} {e : Expr} {f : Fe} {pos : Pos}
theorem ev_revL {k : Nat} {p1 p2 p3 : Pos} (he : EV X e f) : EV X (.Subscript e (.Slice none none (some (.UnaryOp .USub (.Constant (.int 1) k p1) p2)) p3) pos) (f1 revLD f) := by
  refine ⟨fun pins s σ H Q I h => ?_⟩
  obtain ⟨γ, Hk, dd, γ2, ok, ee, q⟩ := h
  unfold f1 at ee
  split at ee
  · rename_i dx γ1 ef
    split at ee
    · rename_i z eo
      cases ee
      unfold revLD at eo
      split at eo <;> cases eo
      rename_i ds
      refine Subscript_ (thn (he.run pins s σ H (fun v2 H2 => ∃ a xs Hk2, v2 = .ref a ∧ SqL X.K H2 a xs ∧ DpAll X.K Hk2 xs ds ∧ Go X.K σ H Hk γ σ H2 Hk2 γ2) I ⟨γ, Hk, _, _, ok, ef, fun v2 H2 Hk2 g2 r2 => by
        cases r2 with
        | lst hs ra => exact ⟨_, _, Hk2, rfl, sql_mono g2.ok.sub hs, ra, g2⟩⟩) fun v s1 ⟨x, H1, I1, r1, a, xs, Hk2, ex, hx, ra, g2⟩ => ?_)
      subst ex
      cases r1
      have hst : PO X (some (.UnaryOp .USub (.Constant (.int 1) k p1) p2)) (tPart (tUn (rU fun i => .int (-i)) (tC (.int 1)))) := po_some (pe_un un_neg pe_int)
      refine wpAny_Slice (thn (po_none.run pins s1 σ H1 (fun o H2 => o = none ∧ H2 = H1) I1 ⟨rfl, rfl⟩) fun vl s2 ⟨l, H2, I2, pl, el, e2⟩ => ?_)
      subst el e2
      refine thn (po_none.run pins s2 σ H2 (fun o H3 => o = none ∧ H3 = H2) I2 ⟨rfl, rfl⟩) fun vu s3 ⟨u, H3, I3, pu, eu, e3⟩ => ?_
      subst eu e3
      refine thn (hst.run pins s3 σ H3 (fun o H4 => o = some (-1) ∧ H4 = H3) I3 ⟨1, rfl, -1, rfl, rfl, rfl⟩) fun vs s4 ⟨o, H4, I4, ps, eo, e4⟩ => ?_
      subst eo e4
      have I5 : Inv X pins σ H4 { s4 with heap := s4.heap.push { cls := .type "slice", data := .fields #[vl, vu, vs] } } := I4.kept (t' := s4.toks) fun b ob q => Heap.get?_push_of_some _ q
      obtain ⟨its, r, ht, hz⟩ := I5.list hx
      have hlen := r.length
      show wpAny (model X.prog X.w) X.A (subscriptTail e (.Slice none none (some (.UnaryOp .USub (.Constant (.int 1) k p1) p2)) p3) (.ref a) (.ref s4.heap.objs.size)) (EP X pins σ Q) X.xe _
      refine tail_any (ops := [.ref a, .ref s4.heap.objs.size]) ht.isList.typeIs list_getitem_lookup ?_ (by with_unfolding_all rfl)
      refine wpAny_getItem_list_slice ht.isList (Heap.IsSliceOf.new _ vl vu _) pl pu ps (by simp) ?_ (by rw [List.size_toArray]; omega)
      rw [PySem.W.krv_pick]
      have fr := I5.hok.fresh (Nat.le_refl _)
      have gr : Grow H4 Hk2 (upd H4 _ (.lst xs.reverse)) (upd Hk2 _ (.lst xs.reverse)) := Grow.new g2.ok.sub fr
      refine ⟨.ref _, _, I5.laid (t' := s4.toks) (o := .lst xs.reverse) (fun b ob q => Heap.get?_push_of_some _ q) (Nat.le_refl _) ?_, rfl, q _ _ _ (g2.trans (g2.ok.go gr)) (.lst (SqL.of upd_same) (dps_mono gr.kk (dps_rev ra)))⟩
      exact ⟨by rw [List.length_reverse]; exact hz, _, 0, r.reverse, Heap.get?_push_size _ rfl⟩
    · cases ee
  · cases ee
end
end DN
namespace DN
open PySem PySem.Spec PyProof.Rows L2
/-! ### tuples of whole numbers as keys -/
section
variable {X : Cx} {pins : List (Addr × Obj)} {σ : L2.St} {H : Hp} {s : Shared}
theorem ints_are : ∀ {ks : List Int} {vs : List V} {us : List Value}, DpAll X.K H vs (ks.map .int) → Vals vs us → ItemsAre (intKind X.prog X.w) ks us
  | [], _, _, h, r => by
    cases h
    cases r
    exact .nil
  | k :: ks, _, _, h, r => by
    cases h with
    | cons a t =>
      cases a
      cases r with
      | cons ru rr =>
        obtain ⟨tk, rfl⟩ := ru
        exact .cons (show Value.isInt k (.int k tk) = true by simp [Value.isInt]) (ints_are t rr)
theorem key_at (I : Inv X pins σ H s) {a : Addr} {ks : List Int} (h : Dp X.K H (.ref a) (.tuple (ks.map .int))) : (tupleKind (intKind X.prog X.w)).is s.heap ks a := by
  cases h with
  | tup hs ra =>
    obtain ⟨its, r, ⟨o, ho, hc, n, hd⟩, _⟩ := I.tuple hs
    exact ⟨o, its.toArray, n, ho, hc, hd, by simpa using ints_are ra r⟩
/-- the keys of the entries are there -/
def KeysAt (K : PySem.W.Frag) (H : Hp) (xs : List (List Int × Addr × Value)) : Prop := ∀ x ∈ xs, Dp K H (.ref x.2.1) (.tuple (x.1.map .int))
theorem dict_at (I : Inv X pins σ H s) {P : Program} {w : World} {p : Addr} {xs : List (List Int × Addr × Value)} (hp : H p = some (dnt P w p xs)) (hk : KeysAt X.K H xs) (hn : (xs.map (·.1)).Nodup) : s.heap.DictOfH (tupleKind (intKind X.prog X.w)) p xs := by
  obtain ⟨⟨o, es, ep, h1, h2, h3, h4⟩, _, _⟩ := I.hok p _ hp
  exact ⟨o, es, ep, h1, h2, h3, h4, fun x hx => key_at I (hk x hx), hn⟩
theorem dnt_ok {P : Program} {w : World} {H' : Hp} {h' : Heap} {p : Addr} {xs : List (List Int × Addr × Value)} (h : h'.DictOfH (tupleKind (intKind P w)) p xs) : ObjOk P w H' h' p (dnt P w p xs) := by
  obtain ⟨o, es, ep, h1, h2, h3, h4, _, _⟩ := h
  exact ⟨⟨o, es, ep, h1, h2, h3, h4⟩, ⟨o, h1⟩, fun g g' ⟨o', es', ep', q1, q⟩ k => ⟨o', es', ep', k o' q1, q⟩⟩
/-- {}, to be a dict with such keys -/
def tDNew (P : Program) (w : World) : TE := fun _ H Q => ∀ p, H p = none → (p == sysModules) = false → Q (.ref p) (upd H p (dnt P w p []))
theorem pe_dnew {pos : Pos} : PE X (.Dict [] [] pos) (tDNew X.prog X.w) := by
  constructor
  intro pins s σ H Q I h
  have big := I.big
  have made := Heap.DictOfH.new (knd := tupleKind (intKind X.prog X.w)) s.heap
  refine wpAny_Dict_empty ?_
  exact ⟨.ref s.heap.objs.size, _, I.laid (t' := s.toks) (fun _ _ q => Heap.get?_push_of_some _ q) (Nat.le_refl _) (dnt_ok made), rfl, h _ (I.hok.fresh (Nat.le_refl _)) (beq_eq_false_iff_ne.mpr (Nat.ne_of_gt big))⟩
/-- what a method asks of its object: its type is known and it has no dict of its own -/
def TyAt (X : Cx) (T : String) (x : V) (H : Hp) : Prop := ∀ (pins : List (Addr × Obj)) (s : Shared) (σ : L2.St) (v : Value), Inv X pins σ H s → RelV x v → s.TypeIs v T ∧ ∀ a, v = .ref a → ∃ ob, s.heap.get? a = some ob ∧ ob.dict = none
theorem dnt_ty {P : Program} {w : World} {p : Addr} {xs : List (List Int × Addr × Value)} (hp : H p = some (dnt P w p xs)) : TyAt X "dict" (.ref p) H := by
  intro pins s σ v I r
  cases r
  obtain ⟨⟨o, es, ep, h1, h2, h3, h4⟩, _, _⟩ := I.hok p _ hp
  exact ⟨⟨o, h1, h2.1⟩, fun a e => by cases e; exact ⟨o, h1, h2.2.1⟩⟩
theorem pe_meth {o e : Expr} {es : List Expr} {to : TE} {t : TA} {name : Str} {apos cpos : Pos} {T id : String} {r : V → List V → Hp → VK → Prop}
    (pl : PlainAttrs T) (sl : Slot T name id) (ty : typeOf (.builtin id) = pure (.type "method_descriptor")) (mt : MtR X id r) (ho : PE X o to) (ha : PA X (e :: es) t)
    (base : attributeBase o name X.env (eval o X.env) = eval o X.env := by rfl)
    (few : ((backTo cpos (starEach (e :: es) X.env)).all (fun x => !x.1) && (backToKw cpos (keywordEach [] X.env)).all (fun x => x.1.isSome) && decide ((e :: es).length + ([] : List Keyword).length + (if ([] : List Keyword).isEmpty then 0 else 1) < 30)) = true := by rfl)
    (line : (apos.endLine == cpos.line) = true := by rfl) (hst : starEach (e :: es) X.env = (false, eval e X.env) :: starEach es X.env := by rfl) (hpl : (backTo cpos (starEach es X.env)).any (·.1) = false := by rfl) :
    PE X (.Call (.Attribute o name apos) (e :: es) [] cpos) (fun σ H Q => to σ H fun x H1 => TyAt X T x H1 ∧ t σ H1 fun xs H2 => r x xs H2 Q) := by
  constructor
  intro pins s σ H Q I h
  refine wpAny_Call_method_late base few line rfl ?_
  refine thn (ho.run pins s σ H _ I h) ?_
  rintro v s1 ⟨x, H1, I1, r1, tx, q1⟩
  obtain ⟨g1, g2⟩ := tx _ _ _ _ I1 r1
  refine ⟨T, id, pl, sl, ty, g1, g2, ?_⟩
  have later := ha.run cpos pins s1 σ H1 _ I1 q1
  rw [hst] at later ⊢
  have none_starred : ((false, eval e X.env) :: backTo cpos (starEach es X.env)).any (·.1) = false := by
    show (false || (backTo cpos (starEach es X.env)).any (·.1)) = false
    rw [hpl]
    rfl
  refine Calls.callWith_builtin none_starred (Calls.evalArgs_plain ?_)
  refine thn later ?_
  rintro us s2 ⟨vs, H2, I2, r2, q2⟩
  exact mt pins s2 σ H2 x vs v us Q I2 r1 r2 q2
/-- d.setdefault(k, v) -/
def rSetG (X : Cx) : V → List V → Hp → VK → Prop := fun x vs H Q => ∃ (p a l : Addr) (xs : List (List Int × Addr × Value)) (ks : List Int), x = .ref p ∧ vs = [.ref a, .ref l] ∧ H p = some (dnt X.prog X.w p xs) ∧ KeysAt X.K H xs ∧ (xs.map (·.1)).Nodup ∧ (p == sysModules) = false ∧ xs.length ≤ 1000000 ∧
  Dp X.K H (.ref a) (.tuple (ks.map .int)) ∧ (∀ q, atKey xs ks = some q → ∃ v, RelV v q.2 ∧ Q v H) ∧ (atKey xs ks = none → Q (.ref l) (upd H p (dnt X.prog X.w p (xs ++ [(ks, a, .ref l)]))))
theorem mt_setG {k : Nat} (hr : Room k X.A) : MtR X "dict.setdefault" (rSetG X) := by
  intro pins s σ H x vs v us Q I rx rv h
  obtain ⟨p, a, l, xs, ks, rfl, rfl, hp, hk, hn, hs, hz, ka, q1, q2⟩ := h
  cases rx
  cases rv with
  | cons r1 rr =>
    cases r1
    cases rr with
    | cons r2 rr2 =>
      cases r2
      cases rr2
      have un := hr.un
      refine call_setdefault_heap (hsz := Nat.le_trans hz (by decide)) (tupleKind_room_in1 (by omega)) (key_at I ka) hs (dict_at I hp hk hn) ?_ ?_
      · intro q hq
        obtain ⟨v, rv, z⟩ := q1 q hq
        exact ⟨v, H, I.tok _, rv, z⟩
      · intro hno h' hd hb
        rw [storedH_new hno] at hd
        have ex := hd
        obtain ⟨o, _, _, ho, _⟩ := ex
        exact ⟨.ref l, _, I.write (x := p) (e := p) (by rw [hp]; exact True.intro) (.inl rfl) (fun b u hne z => (hb.2 b hne).trans z) ⟨o, ho⟩ (dnt_ok hd), rfl, q2 hno⟩
/-- d.get(k, v) -/
def rGetG (X : Cx) : V → List V → Hp → VK → Prop := fun x vs H Q => ∃ (p a : Addr) (y : V) (P : Program) (w : World) (xs : List (List Int × Addr × Value)) (ks : List Int), x = .ref p ∧ vs = [.ref a, y] ∧ H p = some (dnt P w p xs) ∧ KeysAt X.K H xs ∧ (xs.map (·.1)).Nodup ∧ (p == sysModules) = false ∧
  Dp X.K H (.ref a) (.tuple (ks.map .int)) ∧ (∀ q, atKey xs ks = some q → ∃ v, RelV v q.2 ∧ Q v H) ∧ (atKey xs ks = none → Q y H)
theorem mt_getG {k : Nat} (hr : Room k X.A) : MtR X "dict.get" (rGetG X) := by
  intro pins s σ H x vs v us Q I rx rv h
  obtain ⟨p, a, y, P, w, xs, ks, rfl, rfl, hp, hk, hn, hs, ka, q1, q2⟩ := h
  cases rx
  cases rv with
  | cons r1 rr =>
    cases r1
    cases rr with
    | cons r2 rr2 =>
      cases rr2
      have un := hr.un
      refine getOr_keyed (kvs := pairsH xs) (tupleKind_room_in1 (by omega)) (key_at I ka) hs ⟨xs, dict_at I hp hk hn, rfl⟩ ?_
      rw [valueAt_pairsH]
      cases hq : atKey xs ks with
      | none => exact ⟨y, H, I.tok _, r2, q2 hq⟩
      | some q =>
        obtain ⟨v, rv, z⟩ := q1 q hq
        exact ⟨v, H, I.tok _, rv, z⟩
end
end DN
namespace DN
open PySem PySem.Spec PyProof.Rows L2
/-! ### d = {}; for x in ..: d.setdefault(key, []).append(x) -/
section
variable {K : PySem.W.Frag} {σ σ0 σ2 : L2.St} {H Hk H0 Hk0 H2 Hk2 : Hp} {γ γ0 γ2 : En} {i : Nat} {a : Addr} {x : HO}
theorem Ok.bare {v : Option V} (o : Ok K σ H Hk γ) (n : gt γ i = none) : Ok K (σ.set i v) H Hk γ := by
  have ne : ∀ {j : Nat} {e : Ent}, gt γ j = some e → i ≠ j := fun h z => by rw [← z, n] at h; cases h
  refine ⟨by rw [List.length_set]; exact o.len, o.sub, fun j d e => ?_, fun j b ds e => ?_, o.pin, fun j k b c ds es p ej ek h1 h2 => ?_, fun j t e => ?_⟩
  · obtain ⟨v', e', r⟩ := o.dat j d e
    exact ⟨v', by rw [set_there (ne e)]; exact e', r⟩
  · obtain ⟨p, vs, e', r⟩ := o.own j b ds e
    exact ⟨p, vs, by rw [set_there (ne e)]; exact e', r⟩
  · rw [set_there (ne ej)] at h1
    rw [set_there (ne ek)] at h2
    exact o.sep _ _ _ _ _ _ _ ej ek h1 h2
  · obtain ⟨v', e', r⟩ := o.tab j t e
    exact ⟨v', by rw [set_there (ne e)]; exact e', r⟩
theorem own_bare {v : Option V} (n : gt γ i = none) {b : Addr} : OwnA (σ.set i v) γ b ↔ OwnA σ γ b := by
  constructor
  · rintro ⟨j, c, ds, e, h⟩
    have : i ≠ j := fun z => by rw [← z, n] at e; cases e
    rw [set_there this] at h
    exact ⟨j, c, ds, e, h⟩
  · rintro ⟨j, c, ds, e, h⟩
    have : i ≠ j := fun z => by rw [← z, n] at e; cases e
    exact ⟨j, c, ds, e, by rw [set_there this]; exact h⟩
theorem Go.bare {v : Option V} (o : Ok K σ H Hk γ) (n : gt γ i = none) : Go K σ H Hk γ (σ.set i v) H Hk γ :=
  ⟨o.bare n, Same.refl _, fun b u h q => (by rw [h] at q; cases q), fun _ _ h _ => h, fun b h => .inl ((own_bare n).mp h), fun j ds h => ⟨set_there (fun z => by rw [← z, n] at h; cases h) _, ds, h⟩⟩
theorem Ok.foreign (o : Ok K σ H Hk γ) (hk : Hk a = none) (no : ¬ OwnA σ γ a) : Ok K σ (upd H a x) Hk γ := by
  refine ⟨o.len, fun b u e => ?_, o.dat, fun j b ds e => ?_, o.pin, o.sep, o.tab⟩
  · have : b ≠ a := fun z => by rw [z, hk] at e; cases e
    rw [upd_ne this]
    exact o.sub b u e
  · obtain ⟨p, vs, e1, hp, r⟩ := o.own j b ds e
    have : p ≠ a := fun z => no ⟨j, b, ds, e, by rw [← z]; exact e1⟩
    exact ⟨p, vs, e1, by rw [upd_ne this]; exact hp, r⟩
theorem Go.foreign (g : Go K σ0 H0 Hk0 γ0 σ H Hk γ) (h0 : H0 a = none ∨ OwnA σ0 γ0 a) (hk : Hk a = none) (no : ¬ OwnA σ γ a) : Go K σ0 H0 Hk0 γ0 σ (upd H a x) Hk γ :=
  ⟨g.ok.foreign hk no, g.kk, g.nw, fun b u e n => (by
    have : b ≠ a := fun z => by
      rcases h0 with h0 | h0
      · rw [z, h0] at e; cases e
      · exact n (by rw [z]; exact h0)
    rw [upd_ne this]
    exact g.kp b u e n), g.sh, g.pn⟩
end
theorem inj_nd {α β : Type} {f : α → β} : ∀ {l : List α} {x y : α}, (l.map f).Nodup → x ∈ l → y ∈ l → f x = f y → x = y
  | a :: r, x, y, nd, hx, hy, e => by
    rw [List.map_cons, List.nodup_cons] at nd
    rcases List.mem_cons.mp hx with ex | mx
    · rcases List.mem_cons.mp hy with ey | my
      · rw [ex, ey]
      · exact absurd (by rw [← ex, e]; exact List.mem_map_of_mem my) nd.1
    · rcases List.mem_cons.mp hy with ey | my
      · exact absurd (by rw [← ey, ← e]; exact List.mem_map_of_mem mx) nd.1
      · exact inj_nd nd.2 mx my e
/-- an entry of a dict of lists that is being built -/
structure GE where
  k : List Int
  ka : Addr
  va : Addr
  vs : List V
def GE.en (g : GE) : List Int × Addr × Value := (g.k, g.ka, .ref g.va)
/-- the addresses of the dict and its lists -/
def Fo (p : Addr) (gs : List GE) (a : Addr) : Prop := a = p ∨ ∃ g ∈ gs, g.va = a
structure Gr (P : Program) (w : World) (K : PySem.W.Frag) (H Hk : Hp) (p : Addr) (gs : List GE) (kvs : List (List Int × List D)) : Prop where
  hp : H p = some (dnt P w p (gs.map GE.en))
  hn : Hk p = none
  hs : (p == sysModules) = false
  nd : (gs.map GE.k).Nodup
  nv : (gs.map GE.va).Nodup
  el : ∀ g ∈ gs, g.va ≠ p ∧ H g.va = some (.lst g.vs) ∧ Hk g.va = none ∧ Dp K Hk (.ref g.ka) (.tuple (g.k.map .int))
  rl : PySem.W.EachIs (fun (g : GE) (kv : List Int × List D) => g.k = kv.1 ∧ DpAll K Hk g.vs kv.2) gs kvs
section
variable {P : Program} {w : World} {K : PySem.W.Frag} {σ σ0 σ2 : L2.St} {H Hk H0 Hk0 H2 Hk2 : Hp} {γ γ0 γ2 : En} {p : Addr} {gs : List GE} {kvs : List (List Int × List D)}
theorem Gr.got (g : Gr P w K H Hk p gs kvs) {a : Addr} (h : Fo p gs a) : ∃ u, H a = some u := by
  rcases h with rfl | ⟨e, he, rfl⟩
  · exact ⟨_, g.hp⟩
  · exact ⟨_, (g.el e he).2.1⟩
theorem Gr.go (g : Gr P w K H Hk p gs kvs) (no : ∀ a, Fo p gs a → ¬ OwnA σ γ a) (G : Go K σ H Hk γ σ2 H2 Hk2 γ2) : Gr P w K H2 Hk2 p gs kvs ∧ ∀ a, Fo p gs a → ¬ OwnA σ2 γ2 a := by
  have free : ∀ a, Fo p gs a → Hk a = none → Hk2 a = none := fun a fa ha => by
    cases e : Hk2 a with
    | none => rfl
    | some u =>
      obtain ⟨v, hv⟩ := g.got fa
      rcases G.nw a u e ha with z | z
      · rw [hv] at z; cases z
      · exact absurd z (no a fa)
  refine ⟨⟨G.kp _ _ g.hp (no p (.inl rfl)), free p (.inl rfl) g.hn, g.hs, g.nd, g.nv, fun e he => ?_, g.rl.mono fun e kv ⟨h1, h2⟩ => ⟨h1, dps_mono G.kk h2⟩⟩, fun a fa h => ?_⟩
  · obtain ⟨h1, h2, h3, h4⟩ := g.el e he
    exact ⟨h1, G.kp _ _ h2 (no _ (.inr ⟨e, he, rfl⟩)), free _ (.inr ⟨e, he, rfl⟩) h3, dp_mono G.kk h4⟩
  · rcases G.sh a h with z | z
    · exact no a fa z
    · obtain ⟨v, hv⟩ := g.got fa
      rw [hv] at z; cases z
/-- a new thing that lasts not -/
theorem Gr.more (g : Gr P w K H Hk p gs kvs) {l : Addr} {o : HO} (hl : H l = none) : Gr P w K (upd H l o) Hk p gs kvs := by
  refine ⟨(by rw [upd_ne (ne_of_none g.hp hl)]; exact g.hp), g.hn, g.hs, g.nd, g.nv, fun e he => ?_, g.rl⟩
  obtain ⟨h1, h2, h3, h4⟩ := g.el e he
  exact ⟨h1, by rw [upd_ne (ne_of_none h2 hl)]; exact h2, h3, h4⟩
/-- put into the list at the key -/
def putG : List (List Int × List D) → List Int → D → List (List Int × List D)
  | [], k, x => [(k, [x])]
  | q :: r, k, x => if q.1 = k then (q.1, q.2 ++ [x]) :: r else q :: putG r k x
theorem put_new : ∀ {kvs : List (List Int × List D)} {k : List Int} {x : D}, k ∉ kvs.map (·.1) → putG kvs k x = kvs ++ [(k, [x])]
  | [], _, _, _ => rfl
  | q :: r, k, x, h => by
    rw [List.map_cons, List.mem_cons, not_or] at h
    rw [putG, if_neg (fun z => h.1 z.symm), put_new h.2]
    rfl
theorem each_snoc {α β : Type} {R : α → β → Prop} {x : α} {y : β} : ∀ {as : List α} {bs : List β}, PySem.W.EachIs R as bs → R x y → PySem.W.EachIs R (as ++ [x]) (bs ++ [y])
  | _, _, .nil, h => .cons h .nil
  | _, _, .cons a t, h => .cons a (each_snoc t h)
theorem rl_keys : ∀ {gs : List GE} {kvs : List (List Int × List D)}, PySem.W.EachIs (fun (g : GE) (kv : List Int × List D) => g.k = kv.1 ∧ DpAll K Hk g.vs kv.2) gs kvs → gs.map GE.k = kvs.map (·.1)
  | _, _, .nil => rfl
  | _, _, .cons h t => by rw [List.map_cons, List.map_cons, h.1, rl_keys t]
/-- the entry's list has one more -/
def addE (k : List Int) (v : V) (g : GE) : GE := if g.k = k then { g with vs := g.vs ++ [v] } else g
theorem addE_k (k : List Int) (v : V) (g : GE) : (addE k v g).k = g.k := by unfold addE; split <;> rfl
theorem addE_va (k : List Int) (v : V) (g : GE) : (addE k v g).va = g.va := by unfold addE; split <;> rfl
theorem addE_en (k : List Int) (v : V) (g : GE) : (addE k v g).en = g.en := by unfold addE; split <;> rfl
theorem addE_ka (k : List Int) (v : V) (g : GE) : (addE k v g).ka = g.ka := by unfold addE; split <;> rfl
theorem map_no {k : List Int} {v : V} : ∀ {gs : List GE}, k ∉ gs.map GE.k → gs.map (addE k v) = gs
  | [], _ => rfl
  | g :: r, h => by
    rw [List.map_cons, List.mem_cons, not_or] at h
    rw [List.map_cons, map_no h.2]
    congr 1
    unfold addE
    rw [if_neg (fun z => h.1 z.symm)]
theorem put_old {k : List Int} {v : V} {x : D} (hx : Dp K Hk v x) : ∀ {gs : List GE} {kvs : List (List Int × List D)}, PySem.W.EachIs (fun (g : GE) (kv : List Int × List D) => g.k = kv.1 ∧ DpAll K Hk g.vs kv.2) gs kvs → (gs.map GE.k).Nodup → k ∈ gs.map GE.k →
    PySem.W.EachIs (fun (g : GE) (kv : List Int × List D) => g.k = kv.1 ∧ DpAll K Hk g.vs kv.2) (gs.map (addE k v)) (putG kvs k x)
  | _, _, .nil, _, h => by cases h
  | _, _, .cons (a := g) (b := kv) h t, nd, hk => by
    rw [List.map_cons, List.nodup_cons] at nd
    by_cases c : g.k = k
    · have e1 : addE k v g = { g with vs := g.vs ++ [v] } := by unfold addE; rw [if_pos c]
      rw [List.map_cons, e1, map_no (by rw [← c]; exact nd.1), putG, if_pos (by rw [← h.1]; exact c)]
      exact .cons ⟨h.1, dps_app h.2 (.cons hx .nil)⟩ t
    · have e1 : addE k v g = g := by unfold addE; rw [if_neg c]
      rw [List.map_cons, e1, putG, if_neg (fun z => c (by rw [h.1]; exact z))]
      rw [List.map_cons, List.mem_cons] at hk
      exact .cons h (put_old hx t nd.2 (hk.resolve_left fun z => c z.symm))
theorem Gr.addNew (g : Gr P w K H Hk p gs kvs) {k : List Int} {a l : Addr} {v : V} {x : D} (hk : k ∉ gs.map GE.k) (ka : Dp K Hk (.ref a) (.tuple (k.map .int))) (hl : H l = some (.lst [])) (lp : l ≠ p) (lf : ∀ e ∈ gs, e.va ≠ l) (ln : Hk l = none) (hx : Dp K Hk v x) :
    Gr P w K (upd (upd H p (dnt P w p (gs.map GE.en ++ [(k, a, .ref l)]))) l (.lst [v])) Hk p (gs ++ [⟨k, a, l, [v]⟩]) (putG kvs k x) := by
  refine ⟨?_, g.hn, g.hs, ?_, ?_, fun e he => ?_, ?_⟩
  · rw [upd_ne lp.symm, upd_same, List.map_append]
    rfl
  · rw [List.map_append, List.nodup_append]
    exact ⟨g.nd, by simp, fun y hy z hz e => hk (by
      have : z = k := by simpa using hz
      rw [← this, ← e]; exact hy)⟩
  · rw [List.map_append, List.nodup_append]
    exact ⟨g.nv, by simp, fun y hy z hz e => by
      have hz : z = l := by simpa using hz
      obtain ⟨e', he', q⟩ := List.mem_map.mp hy
      exact lf e' he' (by rw [q, e, hz])⟩
  · rcases List.mem_append.mp he with he | he
    · obtain ⟨h1, h2, h3, h4⟩ := g.el e he
      exact ⟨h1, by rw [upd_ne (lf e he), upd_ne h1]; exact h2, h3, h4⟩
    · have : e = ⟨k, a, l, [v]⟩ := by simpa using he
      subst this
      exact ⟨lp, upd_same, ln, ka⟩
  · rw [put_new (by rw [← rl_keys g.rl]; exact hk)]
    exact each_snoc g.rl ⟨rfl, .cons hx .nil⟩
theorem Gr.addOld (g : Gr P w K H Hk p gs kvs) {e : GE} (he : e ∈ gs) {v : V} {x : D} (hx : Dp K Hk v x) : Gr P w K (upd H e.va (.lst (e.vs ++ [v]))) Hk p (gs.map (addE e.k v)) (putG kvs e.k x) := by
  have h0 := g.el e he
  have one : ∀ f ∈ gs, f.k = e.k → f = e := fun f hf c => by
    have := g.nd
    exact inj_nd this hf he c
  have onev : ∀ f ∈ gs, f.va = e.va → f = e := fun f hf c => inj_nd g.nv hf he c
  have ek : (gs.map (addE e.k v)).map GE.k = gs.map GE.k := by rw [List.map_map]; exact List.map_congr_left fun f _ => addE_k _ _ f
  have ev : (gs.map (addE e.k v)).map GE.va = gs.map GE.va := by rw [List.map_map]; exact List.map_congr_left fun f _ => addE_va _ _ f
  have ee : (gs.map (addE e.k v)).map GE.en = gs.map GE.en := by rw [List.map_map]; exact List.map_congr_left fun f _ => addE_en _ _ f
  refine ⟨?_, g.hn, g.hs, by rw [ek]; exact g.nd, by rw [ev]; exact g.nv, fun f' hf' => ?_, put_old hx g.rl g.nd (List.mem_map_of_mem he)⟩
  · rw [ee, upd_ne h0.1.symm]
    exact g.hp
  · obtain ⟨f, hf, rfl⟩ := List.mem_map.mp hf'
    obtain ⟨h1, h2, h3, h4⟩ := g.el f hf
    rw [addE_va, addE_ka, addE_k]
    refine ⟨h1, ?_, h3, h4⟩
    by_cases c : f.k = e.k
    · obtain rfl := one f hf c
      unfold addE
      rw [if_pos rfl, upd_same]
    · have : f.va ≠ e.va := fun z => c (by rw [onev f hf z])
      rw [upd_ne this]
      unfold addE
      rw [if_neg c]
      exact h2
end
end DN
namespace DN
open PySem PySem.Spec PyProof.Rows L2
def intsZ : List D → Option (List Int)
  | [] => some []
  | .int i :: r => (intsZ r).map (i :: ·)
  | _ => none
theorem intsZ_eq : ∀ {ds : List D} {ks : List Int}, intsZ ds = some ks → ds = ks.map .int
  | [], ks, h => by
    cases h
    rfl
  | d :: r, ks, h => by
    unfold intsZ at h
    split at h
    · rename_i e
      cases e
    · rename_i i r' e
      obtain ⟨rfl, rfl⟩ := List.cons.inj e
      obtain ⟨ks', e', rfl⟩ := Option.map_eq_some_iff.mp h
      rw [intsZ_eq e']
      rfl
    · cases h
/-- a key: a tuple of whole numbers -/
def keyI : D → Option (List Int)
  | .tuple ds => intsZ ds
  | _ => none
theorem keyI_eq {d : D} {ks : List Int} (h : keyI d = some ks) : d = .tuple (ks.map .int) := by
  unfold keyI at h
  split at h
  · rw [intsZ_eq h]
  · cases h
def grpF (j : Nat) (kf : Fe) : List D → En → List (List Int × List D) → Option (List (List Int × List D) × En)
  | [], γ, kvs => some (kvs, γ)
  | d :: ds, γ, kvs => match gDat j d γ with
    | some γ1 => match kf γ1 with
      | some (kd, γ2) => match keyI kd with
        | some ks => if okN kvs.length && kvs.all (fun kv => okN kv.2.length) then grpF j kf ds γ2 (putG kvs ks d) else none
        | none => none
      | none => none
    | none => none
def frozen (kvs : List (List Int × List D)) : List (List Int × D) := kvs.map fun kv => (kv.1, .list kv.2)
def sGrp (i j : Nat) (src : Fa) (kf : Fe) : Fs := fun γ => if (gt γ i).isNone && decide (i < γ.length) && decide (j < γ.length) then
  match src γ with
  | some (ds, γ1) => match grpF j kf ds γ1 [] with
    | some (kvs, γ2) => if !pinB γ2 i && okN kvs.length then some (.nx (γ2.set i (some (.tab (.key (frozen kvs)))))) else none
    | none => none
  | none => none
  else none
section
variable {P : Program} {w : World} {K : PySem.W.Frag} {σ σ0 : L2.St} {H Hk H0 Hk0 : Hp} {γ γ0 : En} {p : Addr} {gs : List GE} {kvs : List (List Int × List D)}
theorem Gr.freeze (G : Go K σ0 H0 Hk0 γ0 σ H Hk γ) (g : Gr P w K H Hk p gs kvs) (no : ∀ a, Fo p gs a → ¬ OwnA σ γ a ∧ (H0 a = none ∨ OwnA σ0 γ0 a)) (hz : kvs.length ≤ sizeLine) : ∃ Hk2, Go K σ0 H0 Hk0 γ0 σ H Hk2 γ ∧ Tb K Hk2 (.ref p) (.key (frozen kvs)) := by
  classical
  let Hk2 : Hp := fun a => if Fo p gs a then H a else Hk a
  have off : ∀ a, Fo p gs a → Hk a = none := fun a fa => by
    rcases fa with rfl | ⟨e, he, rfl⟩
    · exact g.hn
    · exact (g.el e he).2.2.1
  have s1 : Same Hk Hk2 := fun a u e => by
    have : ¬ Fo p gs a := fun fa => by rw [off a fa] at e; cases e
    show (if Fo p gs a then H a else Hk a) = some u
    rw [if_neg this]
    exact e
  have s2 : Same Hk2 H := fun a u e => by
    have e : (if Fo p gs a then H a else Hk a) = some u := e
    split at e
    · exact e
    · exact G.ok.sub a u e
  have at' : ∀ a, Fo p gs a → Hk2 a = H a := fun a fa => if_pos fa
  refine ⟨Hk2, ⟨⟨G.ok.len, s2, fun j d e => ?_, fun j b ds e => ?_, G.ok.pin, G.ok.sep, fun j t e => ?_⟩, G.kk.trans s1, fun a u e n => ?_, G.kp, G.sh, G.pn⟩, P, w, p, gs.map GE.en, rfl, ?_, ?_, ?_, g.hs, ?_⟩
  · obtain ⟨v, e1, r⟩ := G.ok.dat j d e
    exact ⟨v, e1, dp_mono s1 r⟩
  · obtain ⟨q, vs, e1, hq, hn, r⟩ := G.ok.own j b ds e
    refine ⟨q, vs, e1, hq, ?_, dps_mono s1 r⟩
    have : ¬ Fo p gs q := fun fa => (no q fa).1 ⟨j, b, ds, e, e1⟩
    show (if Fo p gs q then H q else Hk q) = none
    rw [if_neg this]
    exact hn
  · obtain ⟨v, e1, r⟩ := G.ok.tab j t e
    exact ⟨v, e1, r.mono s1⟩
  · have e : (if Fo p gs a then H a else Hk a) = some u := e
    split at e
    · rename_i fa
      exact (no a fa).2
    · exact G.nw a u e n
  · rw [at' p (.inl rfl)]
    exact g.hp
  · have all : ∀ {l : List GE} {ks : List (List Int × List D)}, (∀ e ∈ l, e ∈ gs) → PySem.W.EachIs (fun (g : GE) (kv : List Int × List D) => g.k = kv.1 ∧ DpAll K Hk g.vs kv.2) l ks → PySem.W.EachIs (EntK K Hk2) (l.map GE.en) (frozen ks) := by
      intro l ks hl r
      induction r with
      | nil => exact .nil
      | @cons e kv es ks' h t ih =>
        have he := hl e (by simp)
        obtain ⟨h1, h2, h3, h4⟩ := g.el e he
        refine .cons ⟨h.1, ?_, .ref e.va, rfl, .lst (SqL.of (by rw [at' _ (.inr ⟨e, he, rfl⟩)]; exact h2)) (dps_mono s1 h.2)⟩ (ih fun e' he' => hl e' (by simp [he']))
        show Dp K Hk2 (.ref e.ka) (.tuple (kv.1.map .int))
        rw [← h.1]
        exact dp_mono s1 h4
    exact all (fun e he => he) g.rl
  · rw [List.map_map]
    exact g.nd
  · rw [List.length_map, g.rl.length]
    exact hz
theorem len_each : ∀ {gs : List GE} {kvs : List (List Int × List D)}, PySem.W.EachIs (fun (g : GE) (kv : List Int × List D) => g.k = kv.1 ∧ DpAll K Hk g.vs kv.2) gs kvs → kvs.all (fun kv => okN kv.2.length) = true → ∀ e ∈ gs, okN e.vs.length = true
  | _, _, .cons (a := g) h t, ha, e, he => by
    rw [List.all_cons, Bool.and_eq_true] at ha
    rcases List.mem_cons.mp he with rfl | he
    · rw [dps_len h.2]; exact ha.1
    · exact len_each t ha.2 e he
theorem at_none {ks : List Int} : ∀ {gs : List GE}, atKey (gs.map GE.en) ks = none → ks ∉ gs.map GE.k
  | [], _ => by simp
  | g :: r, h => by
    unfold atKey at h
    rw [List.map_cons, List.find?_cons] at h
    rw [List.map_cons, List.mem_cons, not_or]
    by_cases c : g.en.1 = ks
    · rw [decide_eq_true c] at h
      cases h
    · rw [decide_eq_false c] at h
      exact ⟨fun z => c z.symm, at_none (gs := r) h⟩
theorem at_some {ks : List Int} {q : Addr × Value} : ∀ {gs : List GE}, atKey (gs.map GE.en) ks = some q → ∃ e ∈ gs, e.k = ks ∧ q = (e.ka, .ref e.va)
  | [], h => by cases h
  | g :: r, h => by
    unfold atKey at h
    rw [List.map_cons, List.find?_cons] at h
    by_cases c : g.en.1 = ks
    · rw [decide_eq_true c] at h
      cases h
      exact ⟨g, by simp, c, rfl⟩
    · rw [decide_eq_false c] at h
      obtain ⟨e, he, z⟩ := at_some (gs := r) h
      exact ⟨e, by simp [he], z⟩
end
/-- what the loop's body asks -/
def tPutG (X : Cx) (i j : Nat) (kf : Fe) : TE := fun σ H Q => (fun σ H Q => tVar i σ H fun x H1 => TyAt X "dict" x H1 ∧ tCons (tI X.K kf) (tCons (tL X.K (lDisp aNil)) tNil) σ H1 fun vs H2 => rSetG X x vs H2 Q) σ H fun x H1 => TyAt X "list" x H1 ∧ tCons (tVar j) tNil σ H1 fun vs H2 => rAppend x vs H2 Q
theorem lst_ty {X : Cx} {H : Hp} {l : Addr} {xs : List V} (h : H l = some (.lst xs)) : TyAt X "list" (.ref l) H := fun pins s σ v I r => tyV_is I r (.inl ⟨rfl, xs, SqL.of h⟩)
theorem put_step {X : Cx} {i j : Nat} {kf : Fe} {σ σ0 : L2.St} {H Hk H0 Hk0 : Hp} {γ γ0 γ2 : En} {p : Addr} {gs : List GE} {kvs : List (List Int × List D)} {x : V} {d kd : D} {ks : List Int} {Q : VK}
    (G : Go X.K σ0 H0 Hk0 γ0 σ H Hk γ) (g : Gr X.prog X.w X.K H Hk p gs kvs) (no : ∀ a, Fo p gs a → ¬ OwnA σ γ a ∧ (H0 a = none ∨ OwnA σ0 γ0 a)) (hi : σ[i]? = some (some (.ref p))) (hj : σ[j]? = some (some x)) (hx : Dp X.K Hk x d)
    (ek : kf γ = some (kd, γ2)) (ei : keyI kd = some ks) (z1 : okN kvs.length = true) (z2 : kvs.all (fun kv => okN kv.2.length) = true)
    (q : ∀ v H2 Hk2 gs2, Go X.K σ0 H0 Hk0 γ0 σ H2 Hk2 γ2 → Same Hk Hk2 → Gr X.prog X.w X.K H2 Hk2 p gs2 (putG kvs ks d) → (∀ a, Fo p gs2 a → ¬ OwnA σ γ2 a ∧ (H0 a = none ∨ OwnA σ0 γ0 a)) → Q v H2) : tPutG X i j kf σ H Q := by
  refine ⟨.ref p, hi, dnt_ty g.hp, γ, Hk, kd, γ2, G.ok, ek, fun v1 H1 Hk1 g1 r1 => ?_⟩
  obtain rfl := keyI_eq ei
  obtain ⟨a, rfl⟩ : ∃ a, v1 = .ref a := by cases r1; exact ⟨_, rfl⟩
  obtain ⟨gr1, no1⟩ := g.go (fun b fb => (no b fb).1) g1
  refine ⟨γ2, Hk1, [], γ2, g1.ok, rfl, fun l vs H2 Hk2 g2 hl rl => ?_⟩
  cases rl
  obtain ⟨gr2, no2⟩ := gr1.go no1 g2
  have G2 : Go X.K σ0 H0 Hk0 γ0 σ H2 Hk2 γ2 := (G.trans g1).trans g2
  have fl : ¬ Fo p gs l := fun f => by obtain ⟨u, hu⟩ := gr2.got f; rw [hl] at hu; cases hu
  have lk : Hk2 l = none := g2.ok.sub.free hl
  have lo : ¬ OwnA σ γ2 l := fun ⟨j', b, ds, e, h⟩ => by
    obtain ⟨q', vs, e1, hq, _⟩ := g2.ok.own j' b ds e
    rw [h] at e1; cases e1
    rw [hl] at hq; cases hq
  have l0 : H0 l = none ∨ OwnA σ0 γ0 l := by
    cases e : H0 l with
    | none => exact .inl rfl
    | some u =>
      by_cases ho : OwnA σ0 γ0 l
      · exact .inr ho
      · have := G2.kp l u e ho
        rw [hl] at this
        cases this
  have S02 : Same Hk Hk2 := g1.kk.trans g2.kk
  have gr3 : Gr X.prog X.w X.K (upd H2 l (.lst [])) Hk2 p gs kvs := gr2.more hl
  have s2 : Same Hk2 (upd H2 l (.lst [])) := g2.ok.sub.trans (same_upd hl)
  have keys : KeysAt X.K (upd H2 l (.lst [])) (gs.map GE.en) := fun y hy => by
    obtain ⟨e, he, rfl⟩ := List.mem_map.mp hy
    exact dp_mono s2 (gr3.el e he).2.2.2
  have kd2 : Dp X.K Hk2 (.ref a) (.tuple (ks.map .int)) := dp_mono g2.kk r1
  have hx2 : Dp X.K Hk2 x d := dp_mono S02 hx
  have len : gs.length ≤ 1000000 := by rw [g.rl.length]; exact of_decide_eq_true z1
  have G3 : Go X.K σ0 H0 Hk0 γ0 σ (upd H2 l (.lst [])) Hk2 γ2 := G2.foreign l0 lk lo
  refine ⟨p, a, l, gs.map GE.en, ks, rfl, rfl, gr3.hp, keys, by rw [List.map_map]; exact gr3.nd, gr3.hs, by rw [List.length_map]; exact len, dp_mono s2 kd2, fun qq hq => ?_, fun hq => ?_⟩
  · obtain ⟨e, he, rfl, rfl⟩ := at_some hq
    have ve := (gr3.el e he).2.1
    refine ⟨.ref e.va, rfl, lst_ty ve, x, hj, e.va, e.vs, x, rfl, rfl, ve, okN_lt (len_each g.rl z2 e he), ?_⟩
    have fe : Fo p gs e.va := .inr ⟨e, he, rfl⟩
    refine q _ _ Hk2 (gs.map (addE e.k x)) (G3.foreign (no _ fe).2 (gr3.el e he).2.2.1 (no2 _ fe)) S02 (gr3.addOld he hx2) fun b fb => ?_
    have fb' : Fo p gs b := by
      rcases fb with rfl | ⟨f', hf', rfl⟩
      · exact .inl rfl
      · obtain ⟨f, hf, rfl⟩ := List.mem_map.mp hf'
        exact .inr ⟨f, hf, (addE_va _ _ f).symm⟩
    exact ⟨no2 b fb', (no b fb').2⟩
  · have lp : l ≠ p := fun z => fl (.inl z)
    have hl5 : (upd (upd H2 l (.lst [])) p (dnt X.prog X.w p (gs.map GE.en ++ [(ks, a, .ref l)]))) l = some (.lst []) := by rw [upd_ne lp, upd_same]
    refine ⟨lst_ty hl5, x, hj, l, [], x, rfl, rfl, hl5, by decide, ?_⟩
    have fp : Fo p gs p := .inl rfl
    show Q .non (upd (upd (upd H2 l (.lst [])) p (dnt X.prog X.w p (gs.map GE.en ++ [(ks, a, .ref l)]))) l (.lst [x]))
    refine q _ _ Hk2 (gs ++ [⟨ks, a, l, [x]⟩]) ((G3.foreign (no p fp).2 gr3.hn (no2 p fp)).foreign l0 lk lo) S02 (gr3.addNew (at_none hq) kd2 upd_same lp (fun e he z => fl (.inr ⟨e, he, z⟩)) lk hx2) fun b fb => ?_
    rcases fb with rfl | ⟨f, hf, rfl⟩
    · exact ⟨no2 _ fp, (no _ fp).2⟩
    · rcases List.mem_append.mp hf with hf | hf
      · exact ⟨no2 _ (.inr ⟨f, hf, rfl⟩), (no _ (.inr ⟨f, hf, rfl⟩)).2⟩
      · have : f = ⟨ks, a, l, [x]⟩ := by simpa using hf
        subst this
        exact ⟨lo, l0⟩
end DN
namespace DN
open PySem PySem.Spec PyProof.Rows L2
theorem grp_nx {i j : Nat} {src : Fa} {kf : Fe} {γ : En} {o : Out} (e : sGrp i j src kf γ = some o) : ∃ γf, o = .nx γf := by
  unfold sGrp at e
  split at e
  · split at e
    · split at e
      · split at e
        · cases e
          exact ⟨_, rfl⟩
        · cases e
      · cases e
    · cases e
  · cases e
theorem es_grp {X : Cx} {i j : Nat} {t it : Expr} {body ss : List Stmt} {s2 : Stmt} {src : Fa} {kf : Fe} {G : Fs} {pos : Pos} (hp : PassesOwn (model X.prog X.w) X.A X.env X.xe) (hc : X.calm = true) (hij : i ≠ j)
    (h2 : PS X s2 (tAsg (tDNew X.prog X.w) (gName i))) (hi : EI X t it src) (hg : PG X t (gName j)) (hb : PSs X body (tDrop (tPutG X i j kf))) (rest : ESs X ss G)
    (hs : ∀ x, foldedSetIterable it X.env x = pure x := by intro _; rfl) : ESs X (s2 :: .For t it body [] pos :: ss) (sSeq (sGrp i j src kf) G) :=
  PSs.imp (pss_cons h2 (pss_cons (ps_for hp hc hi hg hb hs) rest)) fun Z σ H ⟨γ, Hk, o, k, e, q⟩ => by
  unfold sSeq at e
  split at e
  · rename_i γf ef
    unfold sGrp at ef
    split at ef
    · rename_i cc
      rw [Bool.and_eq_true, Bool.and_eq_true] at cc
      obtain ⟨⟨c0, c1⟩, c2⟩ := cc
      have ni : gt γ i = none := Option.isNone_iff_eq_none.mp c0
      have li : i < σ.length := by rw [k.len]; exact of_decide_eq_true c1
      have lj : j < σ.length := by rw [k.len]; exact of_decide_eq_true c2
      split at ef
      · rename_i ds γ1 es
        split at ef
        · rename_i kvsE γE eg
          split at ef <;> cases ef
          rename_i ce
          rw [Bool.and_eq_true] at ce
          unfold tSeq tAsg tDNew gName
          intro p hpn hps
          have nown : ∀ {σ' : L2.St}, Ok X.K σ' H Hk γ → ¬ OwnA σ' γ p := fun ok ⟨j', b, ds', e', h'⟩ => by
            obtain ⟨q', vs, e1, hq, _⟩ := ok.own j' b ds' e'
            rw [h'] at e1; cases e1
            rw [hpn] at hq; cases hq
          have gb : Go X.K σ H Hk γ (σ.set i (some (.ref p))) H Hk γ := Go.bare k ni
          have G0 : Go X.K σ H Hk γ (σ.set i (some (.ref p))) (upd H p (dnt X.prog X.w p [])) Hk γ := gb.foreign (.inl hpn) (k.sub.free hpn) (nown gb.ok)
          have at0 : (σ.set i (some (.ref p)))[i]? = some (some (V.ref p)) := List.getElem?_set_self li
          have gr0 : Gr X.prog X.w X.K (upd H p (dnt X.prog X.w p [])) Hk p [] [] := ⟨upd_same, k.sub.free hpn, hps, List.nodup_nil, List.nodup_nil, (fun _ h => by cases h), .nil⟩
          have no0 : ∀ a, Fo p [] a → ¬ OwnA (σ.set i (some (.ref p))) γ a := fun a fa => by
            rcases fa with rfl | ⟨_, h, _⟩
            · exact nown gb.ok
            · cases h
          refine ⟨γ, Hk, ds, γ1, G0.ok, es, fun J H1 Hk1 g1 wk => ?_⟩
          obtain ⟨gr1, no1⟩ := gr0.go no0 g1
          let W : Nat → Nat → L2.St → Hp → Prop := fun n m σ' H' => m = ds.length - n ∧ n ≤ ds.length ∧ ∃ γ' Hk' gs kvs, Go X.K σ H Hk γ σ' H' Hk' γ' ∧ Same Hk1 Hk' ∧ σ'.length = σ.length ∧ σ'[i]? = some (some (V.ref p)) ∧ Gr X.prog X.w X.K H' Hk' p gs kvs ∧
            (∀ a, Fo p gs a → ¬ OwnA σ' γ' a ∧ (H a = none ∨ OwnA σ γ a)) ∧ grpF j kf (ds.drop n) γ' kvs = some (kvsE, γE)
          refine ⟨W, ⟨ds.length, by simp, Nat.zero_le _, γ1, Hk1, [], [], G0.trans g1, Same.refl _, List.length_set, at0, gr1, fun a fa => ⟨no1 a fa, ?_⟩, by simpa using eg⟩, ?_⟩
          · rcases fa with rfl | ⟨_, h, _⟩
            · exact .inl hpn
            · cases h
          rintro n m σ' H' ⟨rfl, hn, γ', Hk', gs, kvs, g, sk, hl, hi', gr, no, ef⟩
          obtain ⟨w1, w2⟩ := wk H' Hk' sk g.ok.sub
          by_cases hlt : n < ds.length
          · obtain ⟨go, yl⟩ := w1 n hlt
            rw [List.drop_eq_getElem_cons hlt] at ef
            unfold grpF at ef
            refine .inr ⟨go, W (n + 1) (ds.length - (n + 1)), fun σ3 H3 w => ⟨_, by omega, w⟩, fun x H'' y => ?_⟩
            obtain ⟨Hc, gw, rv⟩ := yl x H'' y
            have gy := g.ok.go gw
            obtain ⟨gr2, no2⟩ := gr.go (fun a fa => (no a fa).1) gy
            split at ef
            · rename_i γ2 et
              unfold gDat at et
              split at et <;> cases et
              rename_i cp
              have gs3 : Go X.K σ' H'' Hc γ' (σ'.set j (some x)) H'' Hc (γ'.set j (some (.dat ds[n]))) := gy.ok.setDat rv (noPin_of gy.ok (by simpa using cp))
              obtain ⟨gr3, no3⟩ := gr2.go no2 gs3
              have hi3 : (σ'.set j (some x))[i]? = some (some (V.ref p)) := by rw [set_there hij.symm]; exact hi'
              have hj3 : (σ'.set j (some x))[j]? = some (some x) := List.getElem?_set_self (by rw [hl]; exact lj)
              split at ef
              · rename_i kd γ3 ek
                split at ef
                · rename_i ks eks
                  split at ef
                  · rename_i cz
                    rw [Bool.and_eq_true] at cz
                    refine put_step ((g.trans gy).trans gs3) gr3 (fun a fa => ⟨no3 a fa, (no a fa).2⟩) hi3 hj3 rv ek eks cz.1 cz.2 fun v H2 Hk2 gs2 G2 S2 gr4 no4 => ?_
                    exact ⟨rfl, hlt, γ3, Hk2, gs2, putG kvs ks ds[n], G2, sk.trans ((gy.kk.trans gs3.kk).trans S2), by rw [List.length_set]; exact hl, hi3, gr4, no4, ef⟩
                  · cases ef
                · cases ef
              · cases ef
            · cases ef
          · have e0 : n = ds.length := by omega
            subst e0
            rw [List.drop_length] at ef
            cases ef
            refine .inl ⟨w2 _ (Nat.le_refl _), ?_⟩
            obtain ⟨Hf, gf, tb⟩ := gr.freeze g no (okN_line ce.2)
            have gt' := gf.ok.setTab (i := i) tb (noPin_of gf.ok (by simpa using ce.1))
            have same : σ'.set i (some (V.ref p)) = σ' := by
              apply List.ext_getElem?
              intro n'
              by_cases hn' : i = n'
              · subst hn'
                rw [List.getElem?_set_self (by rw [hl]; exact li), hi']
              · rw [List.getElem?_set_ne hn']
            rw [same] at gt'
            exact ⟨_, Hf, o, gt'.ok, e, q.back (gf.trans gt')⟩
        · cases ef
      · cases ef
    · cases ef
  · rename_i o' hn
    obtain ⟨γf, rfl⟩ := grp_nx e
    exact absurd e (hn γf)
end DN
namespace DN
open PySem PySem.Spec PyProof.Rows L2
section
variable {X : Cx} {i j : Nat}
theorem ps_putG {k : Nat} (hr : Room k X.A) {d ke x : Expr} {kf : Fe} {a1 a2 c1 c2 lp pos : Pos} (hd : PE X d (tVar i)) (hk : EV X ke kf) (hx : PE X x (tVar j))
    (b1 : attributeBase d "setdefault" X.env (eval d X.env) = eval d X.env := by rfl)
    (f1' : ((backTo c1 (starEach [ke, .List [] lp] X.env)).all (fun x => !x.1) && (backToKw c1 (keywordEach [] X.env)).all (fun x => x.1.isSome) && decide ([ke, .List [] lp].length + ([] : List Keyword).length + (if ([] : List Keyword).isEmpty then 0 else 1) < 30)) = true := by rfl)
    (l1 : (a1.endLine == c1.line) = true := by rfl) (s1 : starEach [ke, .List [] lp] X.env = (false, eval ke X.env) :: starEach [.List [] lp] X.env := by rfl) (p1 : (backTo c1 (starEach [.List [] lp] X.env)).any (·.1) = false := by rfl)
    (s1' : starEach [.List [] lp] X.env = (false, eval (.List [] lp) X.env) :: starEach [] X.env := by rfl)
    (b2 : attributeBase (.Call (.Attribute d "setdefault" a1) [ke, .List [] lp] [] c1) "append" X.env (eval (.Call (.Attribute d "setdefault" a1) [ke, .List [] lp] [] c1) X.env) = eval (.Call (.Attribute d "setdefault" a1) [ke, .List [] lp] [] c1) X.env := by rfl)
    (f2' : ((backTo c2 (starEach [x] X.env)).all (fun x => !x.1) && (backToKw c2 (keywordEach [] X.env)).all (fun x => x.1.isSome) && decide ([x].length + ([] : List Keyword).length + (if ([] : List Keyword).isEmpty then 0 else 1) < 30)) = true := by rfl)
    (l2 : (a2.endLine == c2.line) = true := by rfl) (s2 : starEach [x] X.env = (false, eval x X.env) :: starEach [] X.env := by rfl) (p2 : (backTo c2 (starEach [] X.env)).any (·.1) = false := by rfl)
    (sw : swapsWith (.Call (.Attribute (.Call (.Attribute d "setdefault" a1) [ke, .List [] lp] [] c1) "append" a2) [x] [] c2) none pos.line X.env = pure false := by rfl) :
    PSs X [.Expr (.Call (.Attribute (.Call (.Attribute d "setdefault" a1) [ke, .List [] lp] [] c1) "append" a2) [x] [] c2) pos] (tDrop (tPutG X i j kf)) :=
  pss_one (ps_expr (pe_meth PySem.F.plainAttrs_list PySem.F.slot_list_append PySem.F.type_list_append mt_append
    (pe_meth PySem.F.plainAttrs_dict PySem.F.slot_dict_setdefault PySem.F.type_dict_setdefault (mt_setG hr) hd (pa_cons hk (pa_cons (el_disp ea_nil) pa_nil s1') s1) b1 f1' l1 s1 p1)
    (pa_cons hx pa_nil s2) b2 f2' l2 s2 p2) sw)
theorem ps_dnew (i : Nat) {x : Str} {p' dp pos : Pos} (hN : X.N.Nodup) (hi : X.N[i]? = some x) (hx : Loc X.env.scope x) (hs : swapsWith (.Dict [] [] dp) (some (.Name x p')) pos.line X.env = pure false := by rfl)
    (hf : X.fn x = true ∨ X.env.scope.names.lookup x = some .local := by first | exact .inl rfl | exact .inr rfl | assumption) : PS X (.Assign [.Name x p'] (.Dict [] [] dp) pos) (tAsg (tDNew X.prog X.w) (gName i)) := ps_set hN hi hx pe_dnew hs hf
/-! ### d.get(k, v) of a dict that lasts -/
def lookG (kvs : List (List Int × D)) (ks : List Int) : Option D := (kvs.find? fun q => decide (q.1 = ks)).map (·.2)
theorem look_at {K : PySem.W.Frag} {Hk : Hp} {ks : List Int} : ∀ {xs : List (List Int × Addr × Value)} {kvs : List (List Int × D)}, PySem.W.EachIs (EntK K Hk) xs kvs →
    (∀ q, atKey xs ks = some q → ∃ v d, lookG kvs ks = some d ∧ RelV v q.2 ∧ Dp K Hk v d) ∧ (atKey xs ks = none → lookG kvs ks = none)
  | _, _, .nil => ⟨fun q h => (by cases h), fun _ => rfl⟩
  | _, _, .cons (a := x) (b := kv) (as := xs) (bs := kvs) h t => by
    obtain ⟨ih1, ih2⟩ := look_at (ks := ks) t
    obtain ⟨h1, h2, v, h3, h4⟩ := h
    unfold atKey lookG at *
    rw [List.find?_cons, List.find?_cons]
    by_cases c : x.1 = ks
    · rw [decide_eq_true c, decide_eq_true (by rw [← h1]; exact c)]
      exact ⟨fun q e => by cases e; exact ⟨v, kv.2, rfl, h3, h4⟩, fun e => by cases e⟩
    · rw [decide_eq_false c, decide_eq_false (fun z => c (by rw [h1]; exact z))]
      exact ⟨ih1, ih2⟩
theorem ent_keys {K : PySem.W.Frag} {H Hk : Hp} (s : Same Hk H) : ∀ {xs : List (List Int × Addr × Value)} {kvs : List (List Int × D)}, PySem.W.EachIs (EntK K Hk) xs kvs → KeysAt K H xs
  | _, _, .nil => fun x h => by cases h
  | _, _, .cons h t => fun x hx => by
    rcases List.mem_cons.mp hx with rfl | hx
    · rw [h.1]
      exact dp_mono s h.2.1
    · exact ent_keys s t x hx
def fGetG (i : Nat) (f g : Fe) : Fe := fun γ => match gt γ i with
  | some (.tab (.key kvs)) => match f γ with
    | some (kd, γ1) => match keyI kd with
      | some ks => match g γ1 with
        | some (z, γ2) => some ((lookG kvs ks).getD z, γ2)
        | none => none
      | none => none
    | none => none
  | _ => none
theorem ev_getG {k : Nat} (hr : Room k X.A) {d ke y : Expr} {f g : Fe} {a1 c1 : Pos} (hd : PE X d (tVar i)) (hk : EV X ke f) (hy : EV X y g)
    (b1 : attributeBase d "get" X.env (eval d X.env) = eval d X.env := by rfl)
    (f1' : ((backTo c1 (starEach [ke, y] X.env)).all (fun x => !x.1) && (backToKw c1 (keywordEach [] X.env)).all (fun x => x.1.isSome) && decide ([ke, y].length + ([] : List Keyword).length + (if ([] : List Keyword).isEmpty then 0 else 1) < 30)) = true := by rfl)
    (l1 : (a1.endLine == c1.line) = true := by rfl) (s1 : starEach [ke, y] X.env = (false, eval ke X.env) :: starEach [y] X.env := by rfl) (p1 : (backTo c1 (starEach [y] X.env)).any (·.1) = false := by rfl)
    (s1' : starEach [y] X.env = (false, eval y X.env) :: starEach [] X.env := by rfl) : EV X (.Call (.Attribute d "get" a1) [ke, y] [] c1) (fGetG i f g) :=
  PE.imp (pe_meth PySem.F.plainAttrs_dict PySem.F.slot_dict_get PySem.F.type_dict_get (mt_getG hr) hd (pa_cons hk (pa_cons hy pa_nil s1') s1) b1 f1' l1 s1 p1) fun σ H Q ⟨γ, Hk, dd, γ2, o, ee, q⟩ => by
  unfold fGetG at ee
  split at ee
  · rename_i kv0 e0
    split at ee
    · rename_i kd γ1 ef
      split at ee
      · rename_i ks ek
        split at ee
        · rename_i z γ3 eg
          cases ee
          obtain ⟨v, ev, P, w, p, xs, rfl, hp, rl, nd, hs, hz⟩ := o.tab i _ e0
          obtain rfl := keyI_eq ek
          refine ⟨.ref p, ev, dnt_ty (o.sub _ _ hp), γ, Hk, _, γ1, o, ef, fun v1 H1 Hk1 g1 r1 => ⟨γ1, Hk1, z, _, g1.ok, eg, fun y2 H2 Hk2 g2 r2 => ?_⟩⟩
          have S : Same Hk Hk2 := g1.kk.trans g2.kk
          have rl2 : PySem.W.EachIs (EntK X.K Hk2) xs kv0 := rl.mono fun x kv ⟨a, b, v, c, d⟩ => ⟨a, dp_mono S b, v, c, dp_mono S d⟩
          obtain ⟨a, rfl⟩ : ∃ a, v1 = .ref a := by cases r1; exact ⟨_, rfl⟩
          obtain ⟨la, lb⟩ := look_at (ks := ks) rl2
          refine ⟨p, a, y2, P, w, xs, ks, rfl, rfl, g2.ok.sub _ _ (S _ _ hp), ent_keys g2.ok.sub rl2, nd, hs, dp_mono (g2.kk.trans g2.ok.sub) r1, fun qq hq => ?_, fun hq => ?_⟩
          · obtain ⟨v, d, e1, rv, dv⟩ := la qq hq
            exact ⟨v, rv, q v H2 Hk2 (g1.trans g2) (by rw [e1]; exact dv)⟩
          · exact q y2 H2 Hk2 (g1.trans g2) (by rw [lb hq]; exact r2)
        · cases ee
      · cases ee
    · cases ee
  · cases ee
/-! ### xs.extend(a new list) -/
def sExt (i : Nat) (fl : Fa) : Fs := fun γ => match gt γ i with
  | some (.own _ _) => match fl γ with
    | some (ds, γ1) => match gt γ1 i with
      | some (.own b es) => if okN (es.length + ds.length) then some (.nx (γ1.set i (some (.own b (es ++ ds))))) else none
      | _ => none
    | none => none
  | _ => none
theorem es_ext (i : Nat) {a e : Expr} {fl : Fa} {apos cpos pos : Pos} (ho : PE X a (tVar i)) (he : EL X e fl)
    (b1 : attributeBase a "extend" X.env (eval a X.env) = eval a X.env := by rfl)
    (f1' : ((backTo cpos (starEach [e] X.env)).all (fun x => !x.1) && (backToKw cpos (keywordEach [] X.env)).all (fun x => x.1.isSome) && decide ([e].length + ([] : List Keyword).length + (if ([] : List Keyword).isEmpty then 0 else 1) < 30)) = true := by rfl)
    (l1 : (apos.endLine == cpos.line) = true := by rfl) (s1 : starEach [e] X.env = (false, eval e X.env) :: starEach [] X.env := by rfl) (p1 : (backTo cpos (starEach [] X.env)).any (·.1) = false := by rfl)
    (sw : swapsWith (.Call (.Attribute a "extend" apos) [e] [] cpos) none pos.line X.env = pure false := by rfl) :
    ES X (.Expr (.Call (.Attribute a "extend" apos) [e] [] cpos) pos) (sExt i fl) :=
  PS.imp (ps_expr (pe_meth PySem.F.plainAttrs_list PySem.F.slot_list_extend PySem.F.type_list_extend mt_extend ho (pa_cons he pa_nil s1) b1 f1' l1 s1 p1) sw) fun Z σ H ⟨γ, Hk, o, k, e, q⟩ => by
  unfold sExt at e
  split at e
  · rename_i b0 ds0 e0
    split at e
    · rename_i ds γ1 ef
      split at e
      · rename_i b es eo
        split at e <;> cases e
        rename_i c
        obtain ⟨p, vs0, e1, hp0, _⟩ := k.own i _ _ e0
        refine ⟨_, e1, lst_ty hp0, γ, Hk, ds, γ1, k, ef, fun l vs H1 Hk1 g1 hl rl => ?_⟩
        obtain ⟨p', ws, e2, hp, _, ra⟩ := g1.ok.own i _ _ eo
        rw [e1] at e2
        cases e2
        have lp : p ≠ l := ne_of_none hp hl
        have g2 : Go X.K σ H1 Hk1 γ1 σ (upd H1 l (.lst vs)) Hk1 γ1 := g1.ok.go (Grow.newH g1.ok.sub hl)
        refine ⟨p, l, ws, vs, rfl, rfl, by rw [upd_ne lp]; exact hp, upd_same, by rw [dps_len ra, dps_len rl]; exact okN_line c, ?_⟩
        exact q _ _ _ ((g1.trans g2).trans (g2.ok.write eo e1 (dps_app ra rl)))
      · cases e
    · cases e
  · cases e
end
end DN
namespace DN
open PySem PySem.Spec PyProof.Rows L2
/-! ### text * number -/
def repS (x : Str) (n : Int) : Str := if n < 1 then Str.empty else if (n == 1 || x.length == 0) = true then x else ⟨(List.replicate n.toNat x.cps).foldl (· ++ ·) #[]⟩
def mulTD : D → D → Option D
  | .str x, .int n => if decide (-1000 < n) && (decide (n < 1000) && decide (x.length ≤ 1000)) then some (.str (repS x n)) else none
  | _, _ => none
theorem fold_size (a : Array Nat) : ∀ (k : Nat) (b : Array Nat), ((List.replicate k a).foldl (· ++ ·) b).size = b.size + k * a.size
  | 0, b => by simp
  | k + 1, b => by
    rw [List.replicate_succ, List.foldl_cons, fold_size a k, Array.size_append, Nat.succ_mul]
    omega
def rMulT : R2 := fun a b H Q => ∃ (x : Str) (n : Int), a = .str x ∧ b = .int n ∧ -1000 < n ∧ n < 1000 ∧ x.length ≤ 1000 ∧ Q (.str (repS x n)) H
theorem x_mulT {X : Cx} : OpR X (binaryOp .Mult) rMulT := by
  intro pins s σ H a b v u Q I ra rb h
  obtain ⟨x, n, rfl, rfl, h1, h2, h3, q⟩ := h
  obtain ⟨t, rfl⟩ := ra
  obtain ⟨k, rfl⟩ := rb
  have prod : (x.length : Int) * n ≤ 1000 * 1000 := by
    by_cases hn : 0 ≤ n
    · exact Int.mul_le_mul (by omega) (by omega) hn (by omega)
    · have : (x.length : Int) * n ≤ 0 := Int.mul_nonpos_of_nonneg_of_nonpos (by omega) (by omega)
      omega
  refine PySem.P.mul_str (by rw [decide_eq_false (by omega), decide_eq_false (by omega)]; rfl) (fun p _ => ?_) (fun p _ => ?_) ?_
  · have : (x.length : Int) ≤ (2 ^ 63 - 1) / n := Int.le_ediv_of_mul_le (by omega) (by omega)
    omega
  · have e : ((x.length * n.toNat : Nat) : Int) = (x.length : Int) * n := by rw [Int.natCast_mul, show ((n.toNat : Nat) : Int) = n by omega]
    have small : x.length * n.toNat ≤ 1000 * 1000 := by omega
    have : (1000 * 1000 : Nat) ≤ sizeLine := by decide
    unfold PySem.Builtin.Str.tooLong
    exact decide_eq_false (by omega)
  · unfold repS at q
    by_cases c : n < 1
    · rw [if_pos c] at q ⊢
      exact ⟨by decide, .str Str.empty, H, I.tok _, ⟨_, rfl⟩, q⟩
    · rw [if_neg c] at q ⊢
      by_cases c2 : (n == 1 || x.length == 0) = true
      · rw [if_pos c2] at q ⊢
        exact ⟨.str x, H, I, ⟨_, rfl⟩, q⟩
      · rw [if_neg c2] at q ⊢
        refine ⟨?_, .str _, H, I.tok _, ⟨_, rfl⟩, q⟩
        have e : ((x.length * n.toNat : Nat) : Int) = (x.length : Int) * n := by rw [Int.natCast_mul, show ((n.toNat : Nat) : Int) = n by omega]
        have : (1000 * 1000 : Nat) ≤ sizeLine := by decide
        show ((List.replicate n.toNat x.cps).foldl (· ++ ·) #[]).size ≤ sizeLine
        rw [fold_size, Nat.mul_comm]
        have : x.cps.size = x.length := rfl
        rw [this]
        simp only [List.size_toArray, List.length_nil]
        omega
theorem o_mulT {K : PySem.W.Frag} : Op2 K rMulT mulTD := by
  intro H Hk x y dx dy dz Q s vx vy e q
  unfold mulTD at e
  split at e
  · split at e <;> cases e
    rename_i c
    rw [Bool.and_eq_true, Bool.and_eq_true] at c
    cases vx.str
    cases vy.int
    exact ⟨_, _, rfl, rfl, of_decide_eq_true c.1, of_decide_eq_true c.2.1, of_decide_eq_true c.2.2, q _ H Hk (Grow.refl s) (.str _)⟩
  · cases e
end DN
namespace DN
open PySem PySem.Spec PyProof.Rows L2
/-! ### sum of a tuple of whole numbers -/
theorem pre_sum (ns : List Int) : ∀ n, n ≤ ns.length → preSum (fun i => ns.getD i 0) n = (ns.take n).sum
  | 0, _ => by simp [preSum]
  | n + 1, h => by
    have ih := pre_sum ns n (by omega)
    have e : ns.take (n + 1) = ns.take n ++ [ns.getD n 0] := by
      rw [List.take_add_one]
      congr 1
      have hn : n < ns.length := by omega
      simp [List.getElem?_eq_getElem hn]
    rw [e, List.sum_append, ← ih]
    simp [preSum]
def rSumT (K : PySem.W.Frag) : List V → Hp → VK → Prop := fun vs H Q => ∃ (a : Addr) (ns : List Int), vs = [V.ref a] ∧ SqT K H a (ns.map V.int) ∧ Q (.int ns.sum) H
theorem cr_sumT {X : Cx} (hc : X.calm = true) : CallR X (.builtin "sum") (rSumT X.K) := by
  intro pins s σ H vs us Q I r h
  obtain ⟨a, ns, rfl, hs, q⟩ := h
  obtain ⟨its, rv, hl, _⟩ := I.tuple hs
  rw [Vals.ref1 r]
  have len : its.length = ns.length := by have := rv.length; simpa using this.symm
  have each : ∀ (i : Nat) (v : Value), its.toArray[i]? = some v → ∃ t, v = .int (ns.getD i 0) t := by
    intro i v hv
    have hv' : its[i]? = some v := by simpa using hv
    have hi : i < ns.length := by
      have := (List.getElem?_eq_some_iff.mp hv').1
      omega
    obtain ⟨u, eu, ru⟩ := rv.get (i := i) (x := V.int (ns[i])) (by simp [List.getElem?_map, List.getElem?_eq_getElem hi])
    rw [hv'] at eu
    cases eu
    obtain ⟨t, rfl⟩ := ru
    exact ⟨t, by simp [List.getElem?_eq_getElem hi]⟩
  have tup : s.heap.IsTuple a its.toArray := by
    obtain ⟨o, ho, hc', n, hd⟩ := hl
    exact ⟨o, ho, hc', n, hd⟩
  refine call_sum_walkAnyS (PySem.W.iter_tupleW (I.ok.hd hc) tup fun s2 e2 W st fp hwr keep => ?_)
  refine ⟨_, _, _, _, its.toArray.size, _, _, fun i => ns.getD i 0, rfl, W, st, fp, each, fun s' t' m => ?_⟩
  obtain ⟨h', tk, rfl, hk⟩ := PySem.W.moved_old e2 rfl m
  have e : preSum (fun i => ns.getD i 0) its.toArray.size = ns.sum := by
    rw [List.size_toArray, len, pre_sum ns _ (Nat.le_refl _), List.take_length]
  rw [e]
  exact ⟨.int _, H, I.kept hk, ⟨_, rfl⟩, q⟩
@[simp] def sumTD : D → Option D
  | .tuple ds => match intsD ds with
    | some ns => some (.int ns.sum)
    | none => none
  | _ => none
theorem o_sumT {K : PySem.W.Frag} : Op1 K (fun x => rSumT K [x]) sumTD := by
  intro H Hk x dx dz Q s vx e q
  unfold sumTD at e
  split at e
  · split at e <;> cases e
    rename_i en
    obtain ⟨p, vs, rfl, sp, ap⟩ := vx.tup s
    cases intsD_dps ap en
    exact ⟨p, _, rfl, sp, q _ H Hk (Grow.refl s) (.int _)⟩
  · cases e
end DN
namespace DN
open PySem PySem.Spec PyProof.Rows L2
def topS (i : Nat) : Stmt := PySem.Challenge.pw_railshut_k06_ends_exact.main.body.getD i (.Pass ⟨0, 0, 0, 0⟩)
/-! ### _law_cell -/
abbrev s__law_cell : Stmt := topS 10
abbrev N__law_cell : List Str := ["script", "k"]
theorem sc__law_cell : FnScope N__law_cell ["script", "k"] (defScope s__law_cell) := ⟨rfl, rfl, rfl, by decide +kernel, rfl, by decide +kernel, by decide +kernel⟩
def B__law_cell : Fs := (sSeq (sIf (ofB (f2n ltD 1 (f1n lenD 0))) (sRet (f2nn ixD 0 1)) sNil)
    (sRet (fC (.int 0))))
def F__law_cell : Fun' := runF false 0 B__law_cell
theorem fn__law_cell {P : Program} {w : World} {K : PySem.W.Frag} {mg : Str → Option Value} {base : Heap} {f : Addr} {fd : FuncData} (Fu : Fun K "_law_cell" "_law_cell" s__law_cell f fd) (z_len : mg "len" = none)  :
    FnG P w K mg base 1 f fd ["script", "k"] false F__law_cell :=
  fnG_of Fu sc__law_cell rfl (does_run _ _ _) fun cdv A outer s H hG hr =>
    (ess_cons (es_if (et2n x_lt o_cmp (nomark _) (pv 1) (ev_callBn o_len x_len z_len (by rfl) (by decide +kernel) (pv 0))) (ess_one (es_ret (eixnn (pv 0) (pv 1) (fun _ _ => rfl)))) ess_nil)
    (ess_one (es_ret ev_int)))
/-! ### _law_digits -/
abbrev s__law_digits : Stmt := topS 13
abbrev N__law_digits : List Str := ["script", "first", "last", "digits", "k", "cell", "turn", "seed"]
theorem sc__law_digits : FnScope N__law_digits ["script", "first", "last"] (defScope s__law_digits) := ⟨rfl, rfl, rfl, by decide +kernel, rfl, by decide +kernel, by decide +kernel⟩
def L1__law_digits : Fs := (sIf (ofB (f2n gtD 5 (fC (.int 0)))) (sSeq (sApp 3 (f2 modD (f1n intD 5) (fC (.int 1000))))
    (sAsg (f2n fdivD 5 (fC (.int 1000))) (gDat 5))) sNil)
def L2__law_digits : Fs := (sSeq (sAsg (f2 modD (f1 intD (f2 addD (f2 addD (f2n mulD 7 (fC (.int 16807))) (f2m mulD (fC (.int 7)) 6)) (fC (.int 1)))) (fC (.int 2147483647))) (gDat 7))
    (sApp 3 (f2 modD (f1 intD (f2n fdivD 7 (fC (.int 997)))) (fC (.int 1000)))))
def L3__law_digits : Fs := (sSeq (sAsg (fCall 2 F__law_cell (aCons (fN 0) (aCons (fN 4) aNil))) (gDat 5))
    (sSeq (sIf (ofB (f2n ltD 5 (fC (.int 0)))) (sAsg (f2 subD (fC (.int 1)) (f2m mulD (fC (.int 2)) 5)) (gDat 5)) sNil)
    (sIf (ofB (f2n geD 5 (f2 powD (fC (.int 10)) (fC (.int 18))))) (sFor (wR1 (fC (.int 60))) (gDat 6) L1__law_digits) (sSeq (sAsg (f2 modD (f1 intD (f2 addD (f2 addD (f2n mulD 5 (fC (.int 48271))) (f2n mulD 4 (fC (.int 69621)))) (fC (.int 11)))) (fC (.int 2147483647))) (gDat 7))
    (sFor (wR1 (fC (.int 12))) (gDat 6) L2__law_digits)))))
def B__law_digits : Fs := (sSeq (sOwn 3 (lDisp aNil))
    (sSeq (sFor (wR2 (aCons (fN 1) (aCons (fN 2) aNil))) (gDat 4) L3__law_digits)
    (sRet (fN 3))))
def F__law_digits : Fun' := runF false 5 B__law_digits
theorem fn__law_digits {P : Program} {w : World} {K : PySem.W.Frag} {mg : Str → Option Value} {base : Heap} {f : Addr} {fd : FuncData} (Fu : Fun K "_law_digits" "_law_digits" s__law_digits f fd) (z_int : mg "int" = none) (z_range : mg "range" = none) (C__law_cell : Cal P w K mg base "_law_cell" 1 ["script", "k"] false F__law_cell) :
    FnG P w K mg base 2 f fd ["script", "first", "last"] false F__law_digits :=
  fnG_of Fu sc__law_digits rfl (does_run _ _ _) fun cdv A outer s H hG hr =>
    (ess_cons (es_own 3 sc__law_digits.nd rfl (by first | exact Or.inl rfl | exact Or.inr rfl) (el_disp ea_nil))
    (ess_cons (es_for PassesOwn.never rfl (ei_r2 z_range (by rfl) (ea_cons (ev_name 1) (ea_cons (ev_name 2) ea_nil))) (eg_name 4 sc__law_digits.nd rfl (by first | exact Or.inl rfl | exact Or.inr rfl)) (ess_cons (es_set 5 sc__law_digits.nd rfl (by first | exact Or.inl rfl | exact Or.inr rfl) (ev_call C__law_cell (hr.mono (by decide)) hG (by rfl) (ea_cons (ev_name 0) (ea_cons (ev_name 4) ea_nil))))
    (ess_cons (es_if (et2n x_lt o_cmp (nomark _) (pv 5) ev_int) (ess_one (es_set 5 sc__law_digits.nd rfl (by first | exact Or.inl rfl | exact Or.inr rfl) (ev2 op_sub o_sub ev_int (ev2m x_mul o_mul ev_int (pv 5))))) ess_nil)
    (ess_one (es_if (et2n x_ge o_cmp (nomark _) (pv 5) (ev2 op_pow o_pow ev_int ev_int)) (ess_one (es_for PassesOwn.never rfl (ei_r1 z_range (by rfl) ev_int) (eg_name 6 sc__law_digits.nd rfl (by first | exact Or.inl rfl | exact Or.inr rfl)) (ess_one (es_if (et2n x_gt o_cmp (nomark _) (pv 5) ev_int) (ess_cons (es_app 3 (pv 3) (ev2 op_mod o_mod (ev_callTn o_int call_int1 z_int (by rfl) (by decide +kernel) (pv 5)) ev_int))
    (ess_one (es_set 5 sc__law_digits.nd rfl (by first | exact Or.inl rfl | exact Or.inr rfl) (ev2n op_fdiv o_fdiv (pv 5) ev_int)))) ess_nil)))) (ess_cons (es_set 7 sc__law_digits.nd rfl (by first | exact Or.inl rfl | exact Or.inr rfl) (ev2 op_mod o_mod (ev_callT o_int call_int1 z_int (by rfl) (by decide +kernel) (ev2 x_add o_add (ev2 x_add o_add (ev2n x_mul o_mul (pv 5) ev_int) (ev2n x_mul o_mul (pv 4) ev_int)) ev_int)) ev_int))
    (ess_one (es_for PassesOwn.never rfl (ei_r1 z_range (by rfl) ev_int) (eg_name 6 sc__law_digits.nd rfl (by first | exact Or.inl rfl | exact Or.inr rfl)) (ess_cons (es_set 7 sc__law_digits.nd rfl (by first | exact Or.inl rfl | exact Or.inr rfl) (ev2 op_mod o_mod (ev_callT o_int call_int1 z_int (by rfl) (by decide +kernel) (ev2 x_add o_add (ev2 x_add o_add (ev2n x_mul o_mul (pv 7) ev_int) (ev2m x_mul o_mul ev_int (pv 6))) ev_int)) ev_int))
    (ess_one (es_app 3 (pv 3) (ev2 op_mod o_mod (ev_callT o_int call_int1 z_int (by rfl) (by decide +kernel) (ev2n op_fdiv o_fdiv (pv 7) ev_int)) ev_int))))))))))))
    (ess_one (es_ret (ev_name 3)))))
/-! ### _law_draw -/
abbrev s__law_draw : Stmt := topS 14
abbrev N__law_draw : List Str := ["box", "many", "at"]
theorem sc__law_draw : FnScope N__law_draw ["box", "many"] (defScope s__law_draw) := ⟨rfl, rfl, rfl, by decide +kernel, rfl, by decide +kernel, by decide +kernel⟩
def B__law_draw : Fs := (sSeq (sAsg (f2n ixD 0 (fC (.int 1))) (gDat 2))
    (sSeq (sSet 0 (f2n addD 2 (fC (.int 1))) (fC (.int 1)))
    (sSeq (sIf (ofB (f2n ltD 2 (f1 lenD (f2n ixD 0 (fC (.int 0)))))) (sRet (f2m modD (f1 intD (f2m ixD (f2n ixD 0 (fC (.int 0))) 2)) 1)) sNil)
    (sRet (f2m modD (f1 intD (f2 addD (f2n mulD 2 (fC (.int 7))) (fC (.int 3)))) 1)))))
def F__law_draw : Fun' := runF true 1 B__law_draw
theorem fn__law_draw {P : Program} {w : World} {K : PySem.W.Frag} {mg : Str → Option Value} {base : Heap} {f : Addr} {fd : FuncData} (Fu : Fun K "_law_draw" "_law_draw" s__law_draw f fd) (z_int : mg "int" = none) (z_len : mg "len" = none)  :
    FnG P w K mg base 1 f fd ["box", "many"] true F__law_draw :=
  fnG_of Fu sc__law_draw rfl (does_run _ _ _) fun cdv A outer s H hG hr =>
    (ess_cons (es_set 2 sc__law_draw.nd rfl (by first | exact Or.inl rfl | exact Or.inr rfl) (eixn (pv 0) ev_int (fun _ _ => rfl)))
    (ess_cons (es_item 0 (ev2n x_add o_add (pv 2) ev_int) (pv 0) ev_int)
    (ess_cons (es_if (et2n x_lt o_cmp (nomark _) (pv 2) (ev_callB o_len x_len z_len (by rfl) (by decide +kernel) (eixn (pv 0) ev_int (fun _ _ => rfl)))) (ess_one (es_ret (ev2m op_mod o_mod (ev_callT o_int call_int1 z_int (by rfl) (by decide +kernel) (eixm (eixn (pv 0) ev_int (fun _ _ => rfl)) (pv 2) (fun _ _ => rfl))) (pv 1)))) ess_nil)
    (ess_one (es_ret (ev2m op_mod o_mod (ev_callT o_int call_int1 z_int (by rfl) (by decide +kernel) (ev2 x_add o_add (ev2n x_mul o_mul (pv 2) ev_int) ev_int)) (pv 1)))))))
/-! ### _law_pose -/
abbrev s__law_pose : Stmt := topS 22
abbrev N__law_pose : List Str := ["box", "k"]
theorem sc__law_pose : FnScope N__law_pose ["box"] (defScope s__law_pose) := ⟨rfl, rfl, rfl, by decide +kernel, rfl, by decide +kernel, by decide +kernel⟩
def E1__law_pose : Fe := (f2 ixD (fL (lDisp (aCons (fC (.int 0)) (aCons (f2 subD (fCallB 2 F__law_draw 0 (aCons (fC (.int 7)) aNil)) (fC (.int 3))) (aCons (f2 subD (fCallB 2 F__law_draw 0 (aCons (fC (.int 900)) aNil)) (fC (.int 450))) aNil))))) (fCallB 2 F__law_draw 0 (aCons (fC (.int 3)) aNil)))
def B__law_pose : Fs := (sRet (f2 addD (f1 tupleD (fL (lLc [1] (gDat 1) (wR1 (fC (.int 4))) tYe E1__law_pose))) (fTup (aCons (fCallB 2 F__law_draw 0 (aCons (fC (.int 8)) aNil)) aNil))))
def F__law_pose : Fun' := runF true 1 B__law_pose
theorem fn__law_pose {P : Program} {w : World} {K : PySem.W.Frag} {mg : Str → Option Value} {base : Heap} {f : Addr} {fd : FuncData} (Fu : Fun K "_law_pose" "_law_pose" s__law_pose f fd) (z_range : mg "range" = none) (z_tuple : mg "tuple" = none) (C__law_draw : Cal P w K mg base "_law_draw" 1 ["box", "many"] true F__law_draw) :
    FnG P w K mg base 2 f fd ["box"] true F__law_pose :=
  fnG_of Fu sc__law_pose rfl (does_run _ _ _) fun cdv A outer s H hG hr =>
    (ess_one (es_ret (ev2 x_add o_add (ev_callT o_tuple call_tuple_of z_tuple (by rfl) (by decide +kernel) (ev_L (el_lc (js := [1]) rfl (tg_name 1) rfl sc__law_pose.nd (ei_r1 z_range (by rfl) ev_int) (blkOk_by (own := [("k", 1)]) (N := N__law_pose) (sc := defScope s__law_pose) (by decide +kernel)) (fun _ _ _ _ _ => pg_name (i := 1) sc__law_pose.nd rfl (Or.inl rfl)) (fun _ _ _ _ _ => ets_nil) (fun _ _ _ _ _ => (eix (ev_L (el_disp (ea_cons ev_int (ea_cons (ev2 op_sub o_sub (ev_callO 0 C__law_draw (hr.mono (by decide)) hG (by rfl) (pv 0) (ea_cons ev_int ea_nil)) ev_int) (ea_cons (ev2 op_sub o_sub (ev_callO 0 C__law_draw (hr.mono (by decide)) hG (by rfl) (pv 0) (ea_cons ev_int ea_nil)) ev_int) ea_nil))))) (ev_callO 0 C__law_draw (hr.mono (by decide)) hG (by rfl) (pv 0) (ea_cons ev_int ea_nil)) (fun _ _ => rfl)))))) (ev_tup (ea_cons (ev_callO 0 C__law_draw (hr.mono (by decide)) hG (by rfl) (pv 0) (ea_cons ev_int ea_nil)) ea_nil)))))
/-! ### back -/
abbrev s_back : Stmt := topS 4
abbrev N_back : List Str := ["pose"]
theorem sc_back : FnScope N_back ["pose"] (defScope s_back) := ⟨rfl, rfl, rfl, by decide +kernel, rfl, by decide +kernel, by decide +kernel⟩
def B_back : Fs := (sRet (f2 addD (fSln 0 pNo (pOf (fC (.int 4)))) (fTup (aCons (f2 modD (f2 addD (f2n ixD 0 (fC (.int 4))) (fC (.int 4))) (fC (.int 8))) aNil))))
def F_back : Fun' := runF false 0 B_back
theorem fn_back {P : Program} {w : World} {K : PySem.W.Frag} {mg : Str → Option Value} {base : Heap} {f : Addr} {fd : FuncData} (Fu : Fun K "back" "back" s_back f fd)   :
    FnG P w K mg base 1 f fd ["pose"] false F_back :=
  fnG_of Fu sc_back rfl (does_run _ _ _) fun cdv A outer s H hG hr =>
    (ess_one (es_ret (ev2 x_add o_add (ev_sln (pv 0) ep_no (ep_of ev_int)) (ev_tup (ea_cons (ev2 op_mod o_mod (ev2 x_add o_add (eixn (pv 0) ev_int (fun _ _ => rfl)) ev_int) ev_int) ea_nil)))))
/-! ### moved -/
abbrev s_moved : Stmt := topS 1
abbrev N_moved : List Str := ["position", "other", "one", "more"]
theorem sc_moved : FnScope N_moved ["position", "other"] (defScope s_moved) := ⟨rfl, rfl, rfl, by decide +kernel, rfl, by decide +kernel, by decide +kernel⟩
def E1_moved : Fe := (f2nn addD 2 3)
def B_moved : Fs := (sRet (f1 tupleD (fL (lLc [2, 3] (gTp 2 (gsCons (gDat 2) (gsCons (gDat 3) gsNo))) (wZip (aCons (fN 0) (aCons (fN 1) aNil))) tYe E1_moved))))
def F_moved : Fun' := runF false 2 B_moved
theorem fn_moved {P : Program} {w : World} {K : PySem.W.Frag} {mg : Str → Option Value} {base : Heap} {f : Addr} {fd : FuncData} (Fu : Fun K "moved" "moved" s_moved f fd) (z_tuple : mg "tuple" = none) (z_zip : mg "zip" = none)  :
    FnG P w K mg base 1 f fd ["position", "other"] false F_moved :=
  fnG_of Fu sc_moved rfl (does_run _ _ _) fun cdv A outer s H hG hr =>
    (ess_one (es_ret (ev_callT o_tuple call_tuple_of z_tuple (by rfl) (by decide +kernel) (ev_L (el_lc (js := [2, 3]) rfl (tg_pair 2 3) rfl sc_moved.nd (ei_zip z_zip (by rfl) (ea_cons (ev_name 0) (ea_cons (ev_name 1) ea_nil))) (blkOk_by (own := [("one", 2), ("more", 3)]) (N := N_moved) (sc := defScope s_moved) (by decide +kernel)) (fun _ _ _ _ _ => pg_tup rfl (pgs_cons (pg_name (i := 2) sc_moved.nd rfl (Or.inl rfl)) (pgs_cons (pg_name (i := 3) sc_moved.nd rfl (Or.inl rfl)) pgs_nil))) (fun _ _ _ _ _ => ets_nil) (fun _ _ _ _ _ => (ev2nn x_add o_add (pv 2) (pv 3))))))))
/-! ### turned -/
abbrev s_turned : Stmt := topS 2
abbrev N_turned : List Str := ["position", "eighths", "a", "b", "c", "d", "steps", "direction"]
theorem sc_turned : FnScope N_turned ["position", "eighths"] (defScope s_turned) := ⟨rfl, rfl, rfl, by decide +kernel, rfl, by decide +kernel, by decide +kernel⟩
def E1_turned : Fe := (f2n ixD 6 (f2 modD (f2nn subD 7 1) (fC (.int 8))))
def B_turned : Fs := (sSeq (sAsg (fN 0) (gTp 4 (gsCons (gDat 2) (gsCons (gDat 3) (gsCons (gDat 4) (gsCons (gDat 5) gsNo))))))
    (sSeq (sAsg (fTup (aCons (fN 2) (aCons (fN 3) (aCons (fN 4) (aCons (fN 5) (aCons (fNeg (fN 2)) (aCons (fNeg (fN 3)) (aCons (fNeg (fN 4)) (aCons (fNeg (fN 5)) aNil))))))))) (gDat 6))
    (sRet (f1 tupleD (fL (lLc [7] (gDat 7) (wR1 (fC (.int 4))) tYe E1_turned))))))
def F_turned : Fun' := runF false 6 B_turned
theorem fn_turned {P : Program} {w : World} {K : PySem.W.Frag} {mg : Str → Option Value} {base : Heap} {f : Addr} {fd : FuncData} (Fu : Fun K "turned" "turned" s_turned f fd) (z_range : mg "range" = none) (z_tuple : mg "tuple" = none)  :
    FnG P w K mg base 1 f fd ["position", "eighths"] false F_turned :=
  fnG_of Fu sc_turned rfl (does_run _ _ _) fun cdv A outer s H hG hr =>
    (ess_cons (es_asg (ev_name 0) (eg_tup 4 rfl (egs_cons (eg_name 2 sc_turned.nd rfl (by first | exact Or.inl rfl | exact Or.inr rfl)) (egs_cons (eg_name 3 sc_turned.nd rfl (by first | exact Or.inl rfl | exact Or.inr rfl)) (egs_cons (eg_name 4 sc_turned.nd rfl (by first | exact Or.inl rfl | exact Or.inr rfl)) (egs_cons (eg_name 5 sc_turned.nd rfl (by first | exact Or.inl rfl | exact Or.inr rfl)) egs_nil))))))
    (ess_cons (es_set 6 sc_turned.nd rfl (by first | exact Or.inl rfl | exact Or.inr rfl) (ev_tup (ea_cons (ev_name 2) (ea_cons (ev_name 3) (ea_cons (ev_name 4) (ea_cons (ev_name 5) (ea_cons (ev_neg (ev_name 2)) (ea_cons (ev_neg (ev_name 3)) (ea_cons (ev_neg (ev_name 4)) (ea_cons (ev_neg (ev_name 5)) ea_nil))))))))))
    (ess_one (es_ret (ev_callT o_tuple call_tuple_of z_tuple (by rfl) (by decide +kernel) (ev_L (el_lc (js := [7]) rfl (tg_name 7) rfl sc_turned.nd (ei_r1 z_range (by rfl) ev_int) (blkOk_by (own := [("direction", 7)]) (N := N_turned) (sc := defScope s_turned) (by decide +kernel)) (fun _ _ _ _ _ => pg_name (i := 7) sc_turned.nd rfl (Or.inl rfl)) (fun _ _ _ _ _ => ets_nil) (fun _ _ _ _ _ => (eixn (pv 6) (ev2 op_mod o_mod (ev2nn op_sub o_sub (pv 7) (pv 1)) ev_int) (fun _ _ => rfl))))))))))
/-! ### laid -/
abbrev s_laid : Stmt := topS 3
abbrev N_laid : List Str := ["pose", "other"]
theorem sc_laid : FnScope N_laid ["pose", "other"] (defScope s_laid) := ⟨rfl, rfl, rfl, by decide +kernel, rfl, by decide +kernel, by decide +kernel⟩
def B_laid : Fs := (sRet (f2 addD (fCall 2 F_moved (aCons (fCall 2 F_turned (aCons (fSln 1 pNo (pOf (fC (.int 4)))) (aCons (f2n ixD 0 (fC (.int 4))) aNil))) (aCons (fSln 0 pNo (pOf (fC (.int 4)))) aNil))) (fTup (aCons (f2 modD (f2 addD (f2n ixD 1 (fC (.int 4))) (f2n ixD 0 (fC (.int 4)))) (fC (.int 8))) aNil))))
def F_laid : Fun' := runF false 0 B_laid
theorem fn_laid {P : Program} {w : World} {K : PySem.W.Frag} {mg : Str → Option Value} {base : Heap} {f : Addr} {fd : FuncData} (Fu : Fun K "laid" "laid" s_laid f fd)  (C_moved : Cal P w K mg base "moved" 1 ["position", "other"] false F_moved) (C_turned : Cal P w K mg base "turned" 1 ["position", "eighths"] false F_turned) :
    FnG P w K mg base 2 f fd ["pose", "other"] false F_laid :=
  fnG_of Fu sc_laid rfl (does_run _ _ _) fun cdv A outer s H hG hr =>
    (ess_one (es_ret (ev2 x_add o_add (ev_call C_moved (hr.mono (by decide)) hG (by rfl) (ea_cons (ev_call C_turned (hr.mono (by decide)) hG (by rfl) (ea_cons (ev_sln (pv 1) ep_no (ep_of ev_int)) (ea_cons (eixn (pv 0) ev_int (fun _ _ => rfl)) ea_nil))) (ea_cons (ev_sln (pv 0) ep_no (ep_of ev_int)) ea_nil))) (ev_tup (ea_cons (ev2 op_mod o_mod (ev2 x_add o_add (eixn (pv 1) ev_int (fun _ _ => rfl)) (eixn (pv 0) ev_int (fun _ _ => rfl))) ev_int) ea_nil)))))
def c_ENDS_AHEAD : List (Str × D) := [("S", (.tuple [(.tuple [.int 2, .int 0, .int 0, .int 0, .int 0])])), ("H", (.tuple [(.tuple [.int 1, .int 0, .int 0, .int 0, .int 0])])), ("C", (.tuple [(.tuple [.int 0, .int 0, .int 2, .int (-2), .int 1])])), ("P", (.tuple [(.tuple [.int 2, .int 0, .int 0, .int 0, .int 0]), (.tuple [.int 0, .int 0, .int 2, .int (-2), .int 1])])), ("Q", (.tuple [(.tuple [.int 2, .int 0, .int 0, .int 0, .int 0]), (.tuple [.int 0, .int 2, .int (-2), .int 0, .int 7])])), ("X", (.tuple [(.tuple [.int 2, .int 0, .int 0, .int 0, .int 0]), (.tuple [.int 1, .int 0, .int 1, .int 0, .int 2]), (.tuple [.int 1, .int 0, .int (-1), .int 0, .int 6])]))]
/-! ### ends_of -/
abbrev s_ends_of : Stmt := topS 7
abbrev N_ends_of : List Str := ["kind", "pose", "end"]
theorem sc_ends_of : FnScope N_ends_of ["kind", "pose"] (defScope s_ends_of) := ⟨rfl, rfl, rfl, by decide +kernel, rfl, by decide +kernel, by decide +kernel⟩
def E1_ends_of : Fe := (fCall 2 F_laid (aCons (fN 1) (aCons (fN 2) aNil)))
def B_ends_of : Fs := (sRet (f1 tupleD (f2 addD (fL (lDisp (aCons (fCall 1 F_back (aCons (fN 1) aNil)) aNil))) (fL (lLc [2] (gDat 2) (wOf (f1 (tabD c_ENDS_AHEAD) (fN 0))) tYe E1_ends_of)))))
def F_ends_of : Fun' := runF false 1 B_ends_of
theorem fn_ends_of {P : Program} {w : World} {K : PySem.W.Frag} {mg : Str → Option Value} {base : Heap} {f : Addr} {fd : FuncData} (Fu : Fun K "ends_of" "ends_of" s_ends_of f fd) (z_tuple : mg "tuple" = none) {u_ENDS_AHEAD : Value} (V_ENDS_AHEAD : Tab K w u_ENDS_AHEAD c_ENDS_AHEAD) (g_ENDS_AHEAD : mg "ENDS_AHEAD" = some u_ENDS_AHEAD) (C_back : Cal P w K mg base "back" 1 ["pose"] false F_back) (C_laid : Cal P w K mg base "laid" 2 ["pose", "other"] false F_laid) :
    FnG P w K mg base 3 f fd ["kind", "pose"] false F_ends_of :=
  fnG_of Fu sc_ends_of rfl (does_run _ _ _) fun cdv A outer s H hG hr =>
    (ess_one (es_ret (ev_callT o_tuple call_tuple_of z_tuple (by rfl) (by decide +kernel) (ev2 x_add o_add (ev_L (el_disp (ea_cons (ev_call C_back (hr.mono (by decide)) hG (by rfl) (ea_cons (ev_name 1) ea_nil)) ea_nil))) (ev_L (el_lc (js := [2]) rfl (tg_name 2) rfl sc_ends_of.nd (ei_seq (ev_tab V_ENDS_AHEAD g_ENDS_AHEAD (by rfl) (ev_name 0) (fun _ _ => rfl))) (blkOk_by (own := [("end", 2)]) (N := N_ends_of) (sc := defScope s_ends_of) (by decide +kernel)) (fun _ _ _ _ _ => pg_name (i := 2) sc_ends_of.nd rfl (Or.inl rfl)) (fun _ _ _ _ _ => ets_nil) (fun _ _ _ _ _ => (ev_call C_laid (hr.mono (by decide)) hG (by rfl) (ea_cons (ev_name 1) (ea_cons (ev_name 2) ea_nil))))))))))
/-! ### _law_same -/
abbrev s__law_same : Stmt := topS 12
abbrev N__law_same : List Str := ["actual", "due"]
theorem sc__law_same : FnScope N__law_same ["actual", "due"] (defScope s__law_same) := ⟨rfl, rfl, rfl, by decide +kernel, rfl, by decide +kernel, by decide +kernel⟩
def B__law_same : Fs := (sRet (f2 eqD (f1n reprD 0) (f1n reprD 1)))
def F__law_same : Fun' := runF false 0 B__law_same
theorem fn__law_same {P : Program} {w : World} {K : PySem.W.Frag} {mg : Str → Option Value} {base : Heap} {f : Addr} {fd : FuncData} (Fu : Fun K "_law_same" "_law_same" s__law_same f fd) (z_repr : mg "repr" = none)  :
    FnG P w K mg base 1 f fd ["actual", "due"] false F__law_same :=
  fnG_of Fu sc__law_same rfl (does_run _ _ _) fun cdv A outer s H hG hr =>
    (ess_one (es_ret (ec2 (x_eq hr.units) o_eq (nomark _) (ev_callBn o_repr (x_repr hG hr.units) z_repr (by rfl) (by decide +kernel) (pv 0)) (ev_callBn o_repr (x_repr hG hr.units) z_repr (by rfl) (by decide +kernel) (pv 1)))))
/-! ### _law_back -/
abbrev s__law_back : Stmt := topS 20
abbrev N__law_back : List Str := ["pose"]
theorem sc__law_back : FnScope N__law_back ["pose"] (defScope s__law_back) := ⟨rfl, rfl, rfl, by decide +kernel, rfl, by decide +kernel, by decide +kernel⟩
def B__law_back : Fs := (sRet (f2 addD (fSln 0 pNo (pOf (fC (.int 4)))) (fTup (aCons (f2 modD (f1 intD (f2 addD (f2n ixD 0 (fC (.int 4))) (fC (.int 4)))) (fC (.int 8))) aNil))))
def F__law_back : Fun' := runF false 0 B__law_back
theorem fn__law_back {P : Program} {w : World} {K : PySem.W.Frag} {mg : Str → Option Value} {base : Heap} {f : Addr} {fd : FuncData} (Fu : Fun K "_law_back" "_law_back" s__law_back f fd) (z_int : mg "int" = none)  :
    FnG P w K mg base 1 f fd ["pose"] false F__law_back :=
  fnG_of Fu sc__law_back rfl (does_run _ _ _) fun cdv A outer s H hG hr =>
    (ess_one (es_ret (ev2 x_add o_add (ev_sln (pv 0) ep_no (ep_of ev_int)) (ev_tup (ea_cons (ev2 op_mod o_mod (ev_callT o_int call_int1 z_int (by rfl) (by decide +kernel) (ev2 x_add o_add (eixn (pv 0) ev_int (fun _ _ => rfl)) ev_int)) ev_int) ea_nil)))))
/-! ### _law_move -/
abbrev s__law_move : Stmt := topS 16
abbrev N__law_move : List Str := ["position", "direction", "many", "at", "row"]
theorem sc__law_move : FnScope N__law_move ["position", "direction", "many"] (defScope s__law_move) := ⟨rfl, rfl, rfl, by decide +kernel, rfl, by decide +kernel, by decide +kernel⟩
def B__law_move : Fs := (sSeq (sAsg (f2 modD (f1n intD 1) (fC (.int 8))) (gDat 3))
    (sSeq (sOwn 4 (lOfn 0))
    (sSeq (sSet 4 (f2 addD (f2n ixD 4 (f2 modD (f1n intD 3) (fC (.int 4)))) (f2n mulD 2 (f2 subD (fC (.int 1)) (f2 mulD (fC (.int 2)) (f1 intD (f2n gtD 3 (fC (.int 3)))))))) (f2 modD (f1n intD 3) (fC (.int 4))))
    (sRet (fN 4)))))
def F__law_move : Fun' := runF false 2 B__law_move
theorem fn__law_move {P : Program} {w : World} {K : PySem.W.Frag} {mg : Str → Option Value} {base : Heap} {f : Addr} {fd : FuncData} (Fu : Fun K "_law_move" "_law_move" s__law_move f fd) (z_int : mg "int" = none) (z_list : mg "list" = none)  :
    FnG P w K mg base 1 f fd ["position", "direction", "many"] false F__law_move :=
  fnG_of Fu sc__law_move rfl (does_run _ _ _) fun cdv A outer s H hG hr =>
    (ess_cons (es_set 3 sc__law_move.nd rfl (by first | exact Or.inl rfl | exact Or.inr rfl) (ev2 op_mod o_mod (ev_callTn o_int call_int1 z_int (by rfl) (by decide +kernel) (pv 1)) ev_int))
    (ess_cons (es_own 4 sc__law_move.nd rfl (by first | exact Or.inl rfl | exact Or.inr rfl) (el_listn z_list (by rfl) (pv 0)))
    (ess_cons (es_item 4 (ev2 x_add o_add (eixn (pv 4) (ev2 op_mod o_mod (ev_callTn o_int call_int1 z_int (by rfl) (by decide +kernel) (pv 3)) ev_int) (fun _ _ => rfl)) (ev2n x_mul o_mul (pv 2) (ev2 op_sub o_sub ev_int (ev2 x_mul o_mul ev_int (ev_callT o_int call_int1 z_int (by rfl) (by decide +kernel) (ec2n x_gt o_cmp (nomark _) (pv 3) ev_int)))))) (pv 4) (ev2 op_mod o_mod (ev_callTn o_int call_int1 z_int (by rfl) (by decide +kernel) (pv 3)) ev_int))
    (ess_one (es_ret (ev_name 4))))))
/-! ### _law_turned -/
abbrev s__law_turned : Stmt := topS 17
abbrev N__law_turned : List Str := ["position", "eighths", "found", "k"]
theorem sc__law_turned : FnScope N__law_turned ["position", "eighths"] (defScope s__law_turned) := ⟨rfl, rfl, rfl, by decide +kernel, rfl, by decide +kernel, by decide +kernel⟩
def L1__law_turned : Fs := (sAsg (fCall 3 F__law_move (aCons (fN 2) (aCons (f2nn addD 3 1) (aCons (f2nn ixD 0 3) aNil)))) (gDat 2))
def B__law_turned : Fs := (sSeq (sAsg (fL (lDisp (aCons (fC (.int 0)) (aCons (fC (.int 0)) (aCons (fC (.int 0)) (aCons (fC (.int 0)) aNil)))))) (gDat 2))
    (sSeq (sFor (wR1 (fC (.int 4))) (gDat 3) L1__law_turned)
    (sRet (fN 2))))
def F__law_turned : Fun' := runF false 2 B__law_turned
theorem fn__law_turned {P : Program} {w : World} {K : PySem.W.Frag} {mg : Str → Option Value} {base : Heap} {f : Addr} {fd : FuncData} (Fu : Fun K "_law_turned" "_law_turned" s__law_turned f fd) (z_range : mg "range" = none) (C__law_move : Cal P w K mg base "_law_move" 1 ["position", "direction", "many"] false F__law_move) :
    FnG P w K mg base 2 f fd ["position", "eighths"] false F__law_turned :=
  fnG_of Fu sc__law_turned rfl (does_run _ _ _) fun cdv A outer s H hG hr =>
    (ess_cons (es_set 2 sc__law_turned.nd rfl (by first | exact Or.inl rfl | exact Or.inr rfl) (ev_L (el_disp (ea_cons ev_int (ea_cons ev_int (ea_cons ev_int (ea_cons ev_int ea_nil)))))))
    (ess_cons (es_for PassesOwn.never rfl (ei_r1 z_range (by rfl) ev_int) (eg_name 3 sc__law_turned.nd rfl (by first | exact Or.inl rfl | exact Or.inr rfl)) (ess_one (es_set 2 sc__law_turned.nd rfl (by first | exact Or.inl rfl | exact Or.inr rfl) (ev_call C__law_move (hr.mono (by decide)) hG (by rfl) (ea_cons (ev_name 2) (ea_cons (ev2nn x_add o_add (pv 3) (pv 1)) (ea_cons (eixnn (pv 0) (pv 3) (fun _ _ => rfl)) ea_nil)))))))
    (ess_one (es_ret (ev_name 2)))))
/-! ### _law_laid -/
abbrev s__law_laid : Stmt := topS 18
abbrev N__law_laid : List Str := ["pose", "other", "place", "k"]
theorem sc__law_laid : FnScope N__law_laid ["pose", "other"] (defScope s__law_laid) := ⟨rfl, rfl, rfl, by decide +kernel, rfl, by decide +kernel, by decide +kernel⟩
def E1__law_laid : Fe := (f2 addD (f2nn ixD 0 3) (f2nn ixD 2 3))
def B__law_laid : Fs := (sSeq (sAsg (fCall 2 F__law_turned (aCons (fSln 1 pNo (pOf (fC (.int 4)))) (aCons (f2n ixD 0 (fC (.int 4))) aNil))) (gDat 2))
    (sRet (f2 addD (f1 tupleD (fL (lLc [3] (gDat 3) (wR1 (fC (.int 4))) tYe E1__law_laid))) (fTup (aCons (f2 modD (f1 intD (f2 addD (f2n ixD 0 (fC (.int 4))) (f2n ixD 1 (fC (.int 4))))) (fC (.int 8))) aNil)))))
def F__law_laid : Fun' := runF false 2 B__law_laid
theorem fn__law_laid {P : Program} {w : World} {K : PySem.W.Frag} {mg : Str → Option Value} {base : Heap} {f : Addr} {fd : FuncData} (Fu : Fun K "_law_laid" "_law_laid" s__law_laid f fd) (z_int : mg "int" = none) (z_range : mg "range" = none) (z_tuple : mg "tuple" = none) (C__law_turned : Cal P w K mg base "_law_turned" 2 ["position", "eighths"] false F__law_turned) :
    FnG P w K mg base 3 f fd ["pose", "other"] false F__law_laid :=
  fnG_of Fu sc__law_laid rfl (does_run _ _ _) fun cdv A outer s H hG hr =>
    (ess_cons (es_set 2 sc__law_laid.nd rfl (by first | exact Or.inl rfl | exact Or.inr rfl) (ev_call C__law_turned (hr.mono (by decide)) hG (by rfl) (ea_cons (ev_sln (pv 1) ep_no (ep_of ev_int)) (ea_cons (eixn (pv 0) ev_int (fun _ _ => rfl)) ea_nil))))
    (ess_one (es_ret (ev2 x_add o_add (ev_callT o_tuple call_tuple_of z_tuple (by rfl) (by decide +kernel) (ev_L (el_lc (js := [3]) rfl (tg_name 3) rfl sc__law_laid.nd (ei_r1 z_range (by rfl) ev_int) (blkOk_by (own := [("k", 3)]) (N := N__law_laid) (sc := defScope s__law_laid) (by decide +kernel)) (fun _ _ _ _ _ => pg_name (i := 3) sc__law_laid.nd rfl (Or.inl rfl)) (fun _ _ _ _ _ => ets_nil) (fun _ _ _ _ _ => (ev2 x_add o_add (eixnn (pv 0) (pv 3) (fun _ _ => rfl)) (eixnn (pv 2) (pv 3) (fun _ _ => rfl))))))) (ev_tup (ea_cons (ev2 op_mod o_mod (ev_callT o_int call_int1 z_int (by rfl) (by decide +kernel) (ev2 x_add o_add (eixn (pv 0) ev_int (fun _ _ => rfl)) (eixn (pv 1) ev_int (fun _ _ => rfl)))) ev_int) ea_nil))))))
/-! ### _law_led -/
abbrev s__law_led : Stmt := topS 21
abbrev N__law_led : List Str := ["pose", "row", "found", "letter", "place", "h"]
theorem sc__law_led : FnScope N__law_led ["pose", "row"] (defScope s__law_led) := ⟨rfl, rfl, rfl, by decide +kernel, rfl, by decide +kernel, by decide +kernel⟩
def L1__law_led : Fs := (sSeq (sAsg (fL (lOf (fSl (f2n ixD 2 (fNeg (fC (.int 1)))) pNo (pOf (fC (.int 4)))))) (gDat 4))
    (sSeq (sAsg (f2 ixD (f2n ixD 2 (fNeg (fC (.int 1)))) (fC (.int 4))) (gDat 5))
    (sSeq (sIf (cOr (ofB (f2n eqD 3 (fC (.str "S")))) (ofB (f2n eqD 3 (fC (.str "H"))))) (sAsg (fCall 3 F__law_move (aCons (fN 4) (aCons (fN 5) (aCons (f2 addD (fC (.int 1)) (f1 intD (f2n eqD 3 (fC (.str "S"))))) aNil)))) (gDat 4)) (sIf (ofB (f2n eqD 3 (fC (.str "L")))) (sSeq (sAsg (fCall 3 F__law_move (aCons (fCall 3 F__law_move (aCons (fN 4) (aCons (f2n addD 5 (fC (.int 2))) (aCons (fC (.int 2)) aNil)))) (aCons (f2n addD 5 (fC (.int 7))) (aCons (fC (.int 2)) aNil)))) (gDat 4))
    (sAsg (f2n addD 5 (fC (.int 1))) (gDat 5))) (sSeq (sAsg (fCall 3 F__law_move (aCons (fCall 3 F__law_move (aCons (fN 4) (aCons (f2n addD 5 (fC (.int 1))) (aCons (fC (.int 2)) aNil)))) (aCons (f2n addD 5 (fC (.int 6))) (aCons (fC (.int 2)) aNil)))) (gDat 4))
    (sAsg (f2n addD 5 (fC (.int 7))) (gDat 5)))))
    (sApp 2 (f2 addD (f1n tupleD 4) (fTup (aCons (f2 modD (f1n intD 5) (fC (.int 8))) aNil)))))))
def B__law_led : Fs := (sSeq (sOwn 2 (lDisp (aCons (fN 0) aNil)))
    (sSeq (sFor (wOf (fN 1)) (gDat 3) L1__law_led)
    (sRet (fN 2))))
def F__law_led : Fun' := runF false 4 B__law_led
theorem fn__law_led {P : Program} {w : World} {K : PySem.W.Frag} {mg : Str → Option Value} {base : Heap} {f : Addr} {fd : FuncData} (Fu : Fun K "_law_led" "_law_led" s__law_led f fd) (z_int : mg "int" = none) (z_list : mg "list" = none) (z_tuple : mg "tuple" = none) (C__law_move : Cal P w K mg base "_law_move" 1 ["position", "direction", "many"] false F__law_move) :
    FnG P w K mg base 2 f fd ["pose", "row"] false F__law_led :=
  fnG_of Fu sc__law_led rfl (does_run _ _ _) fun cdv A outer s H hG hr =>
    (ess_cons (es_own 2 sc__law_led.nd rfl (by first | exact Or.inl rfl | exact Or.inr rfl) (el_disp (ea_cons (ev_name 0) ea_nil)))
    (ess_cons (es_for PassesOwn.never rfl (ei_seq (ev_name 1)) (eg_name 3 sc__law_led.nd rfl (by first | exact Or.inl rfl | exact Or.inr rfl)) (ess_cons (es_set 4 sc__law_led.nd rfl (by first | exact Or.inl rfl | exact Or.inr rfl) (ev_L (el_list z_list (by rfl) (ev_sl (eixn (pv 2) (ev_neg ev_int) (fun _ _ => rfl)) ep_no (ep_of ev_int)))))
    (ess_cons (es_set 5 sc__law_led.nd rfl (by first | exact Or.inl rfl | exact Or.inr rfl) (eix (eixn (pv 2) (ev_neg ev_int) (fun _ _ => rfl)) ev_int (fun _ _ => rfl)))
    (ess_cons (es_if (et_w (ew_or (et2n (x_eq hr.units) o_eq (nomark _) (pv 3) ev_str) (ew_or1 (et2n (x_eq hr.units) o_eq (nomark _) (pv 3) ev_str)))) (ess_one (es_set 4 sc__law_led.nd rfl (by first | exact Or.inl rfl | exact Or.inr rfl) (ev_call C__law_move (hr.mono (by decide)) hG (by rfl) (ea_cons (ev_name 4) (ea_cons (ev_name 5) (ea_cons (ev2 x_add o_add ev_int (ev_callT o_int call_int1 z_int (by rfl) (by decide +kernel) (ec2n (x_eq hr.units) o_eq (nomark _) (pv 3) ev_str))) ea_nil)))))) (ess_one (es_if (et2n (x_eq hr.units) o_eq (nomark _) (pv 3) ev_str) (ess_cons (es_set 4 sc__law_led.nd rfl (by first | exact Or.inl rfl | exact Or.inr rfl) (ev_call C__law_move (hr.mono (by decide)) hG (by rfl) (ea_cons (ev_call C__law_move (hr.mono (by decide)) hG (by rfl) (ea_cons (ev_name 4) (ea_cons (ev2n x_add o_add (pv 5) ev_int) (ea_cons ev_int ea_nil)))) (ea_cons (ev2n x_add o_add (pv 5) ev_int) (ea_cons ev_int ea_nil)))))
    (ess_one (es_set 5 sc__law_led.nd rfl (by first | exact Or.inl rfl | exact Or.inr rfl) (ev2n x_add o_add (pv 5) ev_int)))) (ess_cons (es_set 4 sc__law_led.nd rfl (by first | exact Or.inl rfl | exact Or.inr rfl) (ev_call C__law_move (hr.mono (by decide)) hG (by rfl) (ea_cons (ev_call C__law_move (hr.mono (by decide)) hG (by rfl) (ea_cons (ev_name 4) (ea_cons (ev2n x_add o_add (pv 5) ev_int) (ea_cons ev_int ea_nil)))) (ea_cons (ev2n x_add o_add (pv 5) ev_int) (ea_cons ev_int ea_nil)))))
    (ess_one (es_set 5 sc__law_led.nd rfl (by first | exact Or.inl rfl | exact Or.inr rfl) (ev2n x_add o_add (pv 5) ev_int)))))))
    (ess_one (es_app 2 (pv 2) (ev2 x_add o_add (ev_callTn o_tuple call_tuple_of z_tuple (by rfl) (by decide +kernel) (pv 4)) (ev_tup (ea_cons (ev2 op_mod o_mod (ev_callTn o_int call_int1 z_int (by rfl) (by decide +kernel) (pv 5)) ev_int) ea_nil)))))))))
    (ess_one (es_ret (ev_name 2)))))
/-! ### _law_ends -/
abbrev s__law_ends : Stmt := topS 28
abbrev N__law_ends : List Str := ["kind", "pose", "rows", "found", "places", "place", "row"]
theorem sc__law_ends : FnScope N__law_ends ["kind", "pose"] (defScope s__law_ends) := ⟨rfl, rfl, rfl, by decide +kernel, rfl, by decide +kernel, by decide +kernel⟩
def E1__law_ends : Fe := (fCall 2 F__law_laid (aCons (fN 1) (aCons (fN 5) aNil)))
def E2__law_ends : Fe := (f2 ixD (fCall 2 F__law_led (aCons (fN 1) (aCons (fN 6) aNil))) (fNeg (fC (.int 1))))
def B__law_ends : Fs := (sSeq (sTab 2 [("S", (fL (lDisp (aCons (fC (.str "S")) aNil)))), ("H", (fL (lDisp (aCons (fC (.str "H")) aNil)))), ("C", (fL (lDisp (aCons (fC (.str "L")) aNil)))), ("P", (fL (lDisp (aCons (fC (.str "S")) (aCons (fC (.str "L")) aNil))))), ("Q", (fL (lDisp (aCons (fC (.str "S")) (aCons (fC (.str "R")) aNil)))))])
    (sSeq (sAsg (fL (lDisp (aCons (fCall 1 F__law_back (aCons (fN 1) aNil)) aNil))) (gDat 3))
    (sSeq (sIf (ofB (f2n eqD 0 (fC (.str "X")))) (sSeq (sAsg (fL (lDisp (aCons (fTup (aCons (fC (.int 2)) (aCons (fC (.int 0)) (aCons (fC (.int 0)) (aCons (fC (.int 0)) (aCons (fC (.int 0)) aNil)))))) (aCons (fTup (aCons (fC (.int 1)) (aCons (fC (.int 0)) (aCons (fC (.int 1)) (aCons (fC (.int 0)) (aCons (fC (.int 2)) aNil)))))) (aCons (fTup (aCons (fC (.int 1)) (aCons (fC (.int 0)) (aCons (fNeg (fC (.int 1))) (aCons (fC (.int 0)) (aCons (fC (.int 6)) aNil)))))) aNil))))) (gDat 4))
    (sRet (f1 tupleD (f2n addD 3 (fL (lLc [5] (gDat 5) (wOf (fN 4)) tYe E1__law_ends)))))) sNil)
    (sRet (f1 tupleD (f2n addD 3 (fL (lLc [6] (gDat 6) (wOf (fTabL 2 (fN 0))) tYe E2__law_ends))))))))
def F__law_ends : Fun' := runF false 5 B__law_ends
theorem fn__law_ends {P : Program} {w : World} {K : PySem.W.Frag} {mg : Str → Option Value} {base : Heap} {f : Addr} {fd : FuncData} (Fu : Fun K "_law_ends" "_law_ends" s__law_ends f fd) (z_tuple : mg "tuple" = none) (C__law_back : Cal P w K mg base "_law_back" 1 ["pose"] false F__law_back) (C__law_laid : Cal P w K mg base "_law_laid" 3 ["pose", "other"] false F__law_laid) (C__law_led : Cal P w K mg base "_law_led" 2 ["pose", "row"] false F__law_led) :
    FnG P w K mg base 4 f fd ["kind", "pose"] false F__law_ends :=
  fnG_of Fu sc__law_ends rfl (does_run _ _ _) fun cdv A outer s H hG hr =>
    (ess_cons (es_tab 2 (fs := [("S", (fL (lDisp (aCons (fC (.str "S")) aNil)))), ("H", (fL (lDisp (aCons (fC (.str "H")) aNil)))), ("C", (fL (lDisp (aCons (fC (.str "L")) aNil)))), ("P", (fL (lDisp (aCons (fC (.str "S")) (aCons (fC (.str "L")) aNil))))), ("Q", (fL (lDisp (aCons (fC (.str "S")) (aCons (fC (.str "R")) aNil)))))]) sc__law_ends.nd rfl (by first | exact Or.inl rfl | exact Or.inr rfl) (pps_cons pe_str (ev_L (el_disp (ea_cons ev_str ea_nil))) (pps_cons pe_str (ev_L (el_disp (ea_cons ev_str ea_nil))) (pps_cons pe_str (ev_L (el_disp (ea_cons ev_str ea_nil))) (pps_cons pe_str (ev_L (el_disp (ea_cons ev_str (ea_cons ev_str ea_nil)))) (pps_cons pe_str (ev_L (el_disp (ea_cons ev_str (ea_cons ev_str ea_nil)))) pps_nil))))) rfl rfl (by decide) (by decide))
    (ess_cons (es_set 3 sc__law_ends.nd rfl (by first | exact Or.inl rfl | exact Or.inr rfl) (ev_L (el_disp (ea_cons (ev_call C__law_back (hr.mono (by decide)) hG (by rfl) (ea_cons (ev_name 1) ea_nil)) ea_nil))))
    (ess_cons (es_if (et2n (x_eq hr.units) o_eq (nomark _) (pv 0) ev_str) (ess_cons (es_set 4 sc__law_ends.nd rfl (by first | exact Or.inl rfl | exact Or.inr rfl) (ev_L (el_disp (ea_cons (ev_tup (ea_cons ev_int (ea_cons ev_int (ea_cons ev_int (ea_cons ev_int (ea_cons ev_int ea_nil)))))) (ea_cons (ev_tup (ea_cons ev_int (ea_cons ev_int (ea_cons ev_int (ea_cons ev_int (ea_cons ev_int ea_nil)))))) (ea_cons (ev_tup (ea_cons ev_int (ea_cons ev_int (ea_cons (ev_neg ev_int) (ea_cons ev_int (ea_cons ev_int ea_nil)))))) ea_nil))))))
    (ess_one (es_ret (ev_callT o_tuple call_tuple_of z_tuple (by rfl) (by decide +kernel) (ev2n x_add o_add (pv 3) (ev_L (el_lc (js := [5]) rfl (tg_name 5) rfl sc__law_ends.nd (ei_seq (ev_name 4)) (blkOk_by (own := [("place", 5)]) (N := N__law_ends) (sc := defScope s__law_ends) (by decide +kernel)) (fun _ _ _ _ _ => pg_name (i := 5) sc__law_ends.nd rfl (Or.inl rfl)) (fun _ _ _ _ _ => ets_nil) (fun _ _ _ _ _ => (ev_call C__law_laid (hr.mono (by decide)) hG (by rfl) (ea_cons (ev_name 1) (ea_cons (ev_name 5) ea_nil))))))))))) ess_nil)
    (ess_one (es_ret (ev_callT o_tuple call_tuple_of z_tuple (by rfl) (by decide +kernel) (ev2n x_add o_add (pv 3) (ev_L (el_lc (js := [6]) rfl (tg_name 6) rfl sc__law_ends.nd (ei_seq (ev_tabL hr.units (pv 2) (ev_name 0) (fun _ _ => rfl))) (blkOk_by (own := [("row", 6)]) (N := N__law_ends) (sc := defScope s__law_ends) (by decide +kernel)) (fun _ _ _ _ _ => pg_name (i := 6) sc__law_ends.nd rfl (Or.inl rfl)) (fun _ _ _ _ _ => ets_nil) (fun _ _ _ _ _ => (eix (ev_call C__law_led (hr.mono (by decide)) hG (by rfl) (ea_cons (ev_name 1) (ea_cons (ev_name 6) ea_nil))) (ev_neg ev_int) (fun _ _ => rfl))))))))))))
/-! ### law -/
abbrev s_law : Stmt := topS 29
abbrev N_law : List Str := ["script", "box", "kind", "pose", "told", "sums", "k", "end"]
theorem sc_law : FnScope N_law ["script"] (defScope s_law) := ⟨rfl, rfl, rfl, by decide +kernel, rfl, by decide +kernel, by decide +kernel⟩
def E1_law : Fe := (f2 addD (f2m ixD (f2n ixD 4 (fC (.int 2))) 6) (f2m ixD (f2n ixD 4 (fC (.int 3))) 6))
def E2_law : Fe := (f2 addD (f2m ixD (f2n ixD 4 (fC (.int 0))) 6) (f2m ixD (f2n ixD 4 (fC (.int 1))) 6))
def E3_law : Fe := (f2n ixD 7 (fC (.int 4)))
def E4_law : Fe := (f2 modD (f1 intD (f2m addD (f2n ixD 3 (fC (.int 4))) 6)) (fC (.int 8)))
def L5_law : Fs := (sSeq (sAsg (fCallB 1 F__law_pose 1 aNil) (gDat 3))
    (sSeq (sAsg (fCall 2 F_ends_of (aCons (fN 2) (aCons (fN 3) aNil))) (gDat 4))
    (sSeq (sIf (cNot (ofB (fCall 2 F__law_same (aCons (fN 4) (aCons (fCall 2 F__law_ends (aCons (fN 2) (aCons (fN 3) aNil))) aNil))))) (sRet (fC (.bool false))) sNil)
    (sIf (ofB (f2n eqD 2 (fC (.str "X")))) (sSeq (sAsg (fL (lDisp (aCons (fL (lLc [6] (gDat 6) (wR1 (fC (.int 4))) tYe E2_law)) (aCons (fL (lLc [6] (gDat 6) (wR1 (fC (.int 4))) tYe E1_law)) aNil)))) (gDat 5))
    (sIf (cOr (ofB (f2 neD (f2n ixD 5 (fC (.int 0))) (f2n ixD 5 (fC (.int 1))))) (ofB (f2 neD (fL (lSort (fL (lLc [7] (gDat 7) (wOf (fN 4)) tYe E3_law)))) (fL (lSort (fL (lLc [6] (gDat 6) (wOf (fL (lDisp (aCons (fC (.int 0)) (aCons (fC (.int 2)) (aCons (fC (.int 4)) (aCons (fC (.int 6)) aNil))))))) tYe E4_law))))))) (sRet (fC (.bool false))) sNil)) sNil))))
def B_law : Fs := (sSeq (sOwn 1 (lDisp (aCons (fCall 3 F__law_digits (aCons (fN 0) (aCons (fC (.int 0)) (aCons (fC (.int 40)) aNil)))) (aCons (fC (.int 0)) aNil))))
    (sSeq (sFor (wOf (fL (lDisp (aCons (fC (.str "S")) (aCons (fC (.str "H")) (aCons (fC (.str "C")) (aCons (fC (.str "P")) (aCons (fC (.str "Q")) (aCons (fC (.str "X")) aNil))))))))) (gDat 2) L5_law)
    (sRet (fC (.bool true)))))
def F_law : Fun' := runF false 7 B_law
theorem fn_law {P : Program} {w : World} {K : PySem.W.Frag} {mg : Str → Option Value} {base : Heap} {f : Addr} {fd : FuncData} (Fu : Fun K "law" "law" s_law f fd) (z_int : mg "int" = none) (z_range : mg "range" = none) (z_sorted : mg "sorted" = none) (C__law_digits : Cal P w K mg base "_law_digits" 2 ["script", "first", "last"] false F__law_digits) (C__law_pose : Cal P w K mg base "_law_pose" 2 ["box"] true F__law_pose) (C_ends_of : Cal P w K mg base "ends_of" 3 ["kind", "pose"] false F_ends_of) (C__law_same : Cal P w K mg base "_law_same" 1 ["actual", "due"] false F__law_same) (C__law_ends : Cal P w K mg base "_law_ends" 4 ["kind", "pose"] false F__law_ends) :
    FnG P w K mg base 5 f fd ["script"] false F_law :=
  fnG_of Fu sc_law rfl (does_run _ _ _) fun cdv A outer s H hG hr =>
    (ess_cons (es_own 1 sc_law.nd rfl (by first | exact Or.inl rfl | exact Or.inr rfl) (el_disp (ea_cons (ev_call C__law_digits (hr.mono (by decide)) hG (by rfl) (ea_cons (ev_name 0) (ea_cons ev_int (ea_cons ev_int ea_nil)))) (ea_cons ev_int ea_nil))))
    (ess_cons (es_for PassesOwn.never rfl (ei_seq (ev_L (el_disp (ea_cons ev_str (ea_cons ev_str (ea_cons ev_str (ea_cons ev_str (ea_cons ev_str (ea_cons ev_str ea_nil))))))))) (eg_name 2 sc_law.nd rfl (by first | exact Or.inl rfl | exact Or.inr rfl)) (ess_cons (es_set 3 sc_law.nd rfl (by first | exact Or.inl rfl | exact Or.inr rfl) (ev_callO 1 C__law_pose (hr.mono (by decide)) hG (by rfl) (pv 1) ea_nil))
    (ess_cons (es_set 4 sc_law.nd rfl (by first | exact Or.inl rfl | exact Or.inr rfl) (ev_call C_ends_of (hr.mono (by decide)) hG (by rfl) (ea_cons (ev_name 2) (ea_cons (ev_name 3) ea_nil))))
    (ess_cons (es_if (et_not (et_val (ev_call C__law_same (hr.mono (by decide)) hG (by rfl) (ea_cons (ev_name 4) (ea_cons (ev_call C__law_ends (hr.mono (by decide)) hG (by rfl) (ea_cons (ev_name 2) (ea_cons (ev_name 3) ea_nil))) ea_nil))))) (ess_one (es_ret ev_bl)) ess_nil)
    (ess_one (es_if (et2n (x_eq hr.units) o_eq (nomark _) (pv 2) ev_str) (ess_cons (es_set 5 sc_law.nd rfl (by first | exact Or.inl rfl | exact Or.inr rfl) (ev_L (el_disp (ea_cons (ev_L (el_lc (js := [6]) rfl (tg_name 6) rfl sc_law.nd (ei_r1 z_range (by rfl) ev_int) (blkOk_by (own := [("k", 6)]) (N := N_law) (sc := defScope s_law) (by decide +kernel)) (fun _ _ _ _ _ => pg_name (i := 6) sc_law.nd rfl (Or.inl rfl)) (fun _ _ _ _ _ => ets_nil) (fun _ _ _ _ _ => (ev2 x_add o_add (eixm (eixn (pv 4) ev_int (fun _ _ => rfl)) (pv 6) (fun _ _ => rfl)) (eixm (eixn (pv 4) ev_int (fun _ _ => rfl)) (pv 6) (fun _ _ => rfl)))))) (ea_cons (ev_L (el_lc (js := [6]) rfl (tg_name 6) rfl sc_law.nd (ei_r1 z_range (by rfl) ev_int) (blkOk_by (own := [("k", 6)]) (N := N_law) (sc := defScope s_law) (by decide +kernel)) (fun _ _ _ _ _ => pg_name (i := 6) sc_law.nd rfl (Or.inl rfl)) (fun _ _ _ _ _ => ets_nil) (fun _ _ _ _ _ => (ev2 x_add o_add (eixm (eixn (pv 4) ev_int (fun _ _ => rfl)) (pv 6) (fun _ _ => rfl)) (eixm (eixn (pv 4) ev_int (fun _ _ => rfl)) (pv 6) (fun _ _ => rfl)))))) ea_nil)))))
    (ess_one (es_if (et_w (ew_or (et2 (x_ne hr.units) o_ne (nomark _) (eixn (pv 5) ev_int (fun _ _ => rfl)) (eixn (pv 5) ev_int (fun _ _ => rfl))) (ew_or1 (et2 (x_ne hr.units) o_ne (nomark _) (ev_L (el_sorted z_sorted (by rfl) (ev_L (el_lc (js := [7]) rfl (tg_name 7) rfl sc_law.nd (ei_seq (ev_name 4)) (blkOk_by (own := [("end", 7)]) (N := N_law) (sc := defScope s_law) (by decide +kernel)) (fun _ _ _ _ _ => pg_name (i := 7) sc_law.nd rfl (Or.inl rfl)) (fun _ _ _ _ _ => ets_nil) (fun _ _ _ _ _ => (eixn (pv 7) ev_int (fun _ _ => rfl))))))) (ev_L (el_sorted z_sorted (by rfl) (ev_L (el_lc (js := [6]) rfl (tg_name 6) rfl sc_law.nd (ei_seq (ev_L (el_disp (ea_cons ev_int (ea_cons ev_int (ea_cons ev_int (ea_cons ev_int ea_nil))))))) (blkOk_by (own := [("k", 6)]) (N := N_law) (sc := defScope s_law) (by decide +kernel)) (fun _ _ _ _ _ => pg_name (i := 6) sc_law.nd rfl (Or.inl rfl)) (fun _ _ _ _ _ => ets_nil) (fun _ _ _ _ _ => (ev2 op_mod o_mod (ev_callT o_int call_int1 z_int (by rfl) (by decide +kernel) (ev2m x_add o_add (eixn (pv 3) ev_int (fun _ _ => rfl)) (pv 6))) ev_int)))))))))) (ess_one (es_ret ev_bl)) ess_nil))) ess_nil))))))
    (ess_one (es_ret ev_bl))))
set_option maxHeartbeats 4000000
/-! ### what the law draws -/
def bx (ds : List Int) (i : Int) : List D := [.list (ds.map .int), .int i]
theorem draw_ok (ds : List Int) (i m : Int) (h0 : 0 ≤ i) (hm : 0 < m) : ∃ d, F__law_draw [.list (bx ds i), .int m] = some (.int d, bx ds (i + 1)) ∧ 0 ≤ d ∧ d < m := by
  have pos : ∀ x : Int, 0 ≤ x % m ∧ x % m < m := fun x => ⟨Int.emod_nonneg x (by omega), Int.emod_lt_of_pos x hm⟩
  by_cases h : i < ds.length
  · refine ⟨ds[i.toNat]'(by omega) % m, ?_, pos _⟩
    simp [F__law_draw, B__law_draw, bx, h0, h, hm]
  · refine ⟨(i * 7 + 3) % m, ?_, pos _⟩
    simp [F__law_draw, B__law_draw, bx, h0, h, hm]
theorem cell_ok (ns : List Int) (k : Int) (h0 : 0 ≤ k) : ∃ c, F__law_cell [scriptD ns, .int k] = some (.int c, []) := by
  by_cases h : k < ns.length
  · refine ⟨ns[k.toNat]'(by omega), ?_⟩
    simp [F__law_cell, B__law_cell, h0, h]
  · refine ⟨0, ?_⟩
    simp [F__law_cell, B__law_cell, h0, h]
theorem digits_1 (a b c d e : Option Ent) : ∀ (ks : List D) (f : Option Ent) (ds : List Int) (cell : Int), ds.length + ks.length ≤ 1000000 → ∃ (ds' : List Int) (cell' : Int) (f' : Option Ent), forF (gDat 6) L1__law_digits ks [a, b, c, some (.own false (ds.map .int)), d, some (.dat (.int cell)), f, e] =
    some (.nx [a, b, c, some (.own false (ds'.map .int)), d, some (.dat (.int cell')), f', e]) ∧ ds'.length ≤ ds.length + ks.length
  | [], f, ds, cell, _ => ⟨ds, cell, f, rfl, Nat.le_refl _⟩
  | k :: ks, f, ds, cell, h => by
    simp only [List.length_cons] at h
    by_cases hc : 0 < cell
    · obtain ⟨ds', c', f', e1, e2⟩ := digits_1 a b c d e ks (some (.dat k)) (ds ++ [cell % 1000]) (cell / 1000) (by simp; omega)
      refine ⟨ds', c', f', ?_, by simp at e2 ⊢; omega⟩
      rw [← e1]
      have h1 : ds.length ≤ 1000000 := by omega
      simp [forF, L1__law_digits, hc, h1]
    · obtain ⟨ds', c', f', e1, e2⟩ := digits_1 a b c d e ks (some (.dat k)) ds cell (by omega)
      refine ⟨ds', c', f', ?_, by simp at e2 ⊢; omega⟩
      rw [← e1]
      simp [forF, L1__law_digits, hc]
theorem digits_2 (a b c d e : Option Ent) : ∀ (ks : List Int) (f : Option Ent) (ds : List Int) (seed : Int), ds.length + ks.length ≤ 1000000 → ∃ (ds' : List Int) (seed' : Int) (f' : Option Ent), forF (gDat 6) L2__law_digits (ks.map .int) [a, b, c, some (.own false (ds.map .int)), d, e, f, some (.dat (.int seed))] =
    some (.nx [a, b, c, some (.own false (ds'.map .int)), d, e, f', some (.dat (.int seed'))]) ∧ ds'.length ≤ ds.length + ks.length
  | [], f, ds, seed, _ => ⟨ds, seed, f, rfl, Nat.le_refl _⟩
  | k :: ks, f, ds, seed, h => by
    simp only [List.length_cons] at h
    obtain ⟨ds', c', f', e1, e2⟩ := digits_2 a b c d e ks (some (.dat (.int k))) (ds ++ [(seed * 16807 + 7 * k + 1) % 2147483647 / 997 % 1000]) ((seed * 16807 + 7 * k + 1) % 2147483647) (by simp; omega)
    refine ⟨ds', c', f', ?_, by simp at e2 ⊢; omega⟩
    rw [← e1]
    have h1 : ds.length ≤ 1000000 := by omega
    simp [forF, L2__law_digits, h1]
theorem rngD_map (lo : Int) (n : Nat) : rngD lo n = ((List.range n).map fun (k : Nat) => lo + (k : Int)).map PyData.int := by
  unfold rngD
  rw [List.map_map]
  rfl
theorem digits_3 (ns : List Int) (b c : Option Ent) : ∀ (ks : List Int) (e4 e5 e6 e7 : Option Ent) (ds : List Int), (∀ k ∈ ks, 0 ≤ k) → ds.length + 60 * ks.length ≤ 1000000 → ∃ (ds' : List Int) (f4 f5 f6 f7 : Option Ent), forF (gDat 4) L3__law_digits (ks.map .int) [some (.dat (scriptD ns)), b, c, some (.own false (ds.map .int)), e4, e5, e6, e7] =
    some (.nx [some (.dat (scriptD ns)), b, c, some (.own false (ds'.map .int)), f4, f5, f6, f7])
  | [], e4, e5, e6, e7, ds, _, _ => ⟨ds, e4, e5, e6, e7, rfl⟩
  | k :: ks, e4, e5, e6, e7, ds, hk, h => by
    simp only [List.length_cons] at h
    obtain ⟨cell, ec⟩ := cell_ok ns k (hk k (by simp))
    have step : ∃ (ds1 : List Int) (f5 f6 f7 : Option Ent), L3__law_digits [some (.dat (scriptD ns)), b, c, some (.own false (ds.map .int)), some (.dat (.int k)), e5, e6, e7] =
        some (.nx [some (.dat (scriptD ns)), b, c, some (.own false (ds1.map .int)), some (.dat (.int k)), f5, f6, f7]) ∧ ds1.length ≤ ds.length + 60 := by
      by_cases hn : cell < 0
      · by_cases hb : (1000000000000000000 : Int) ≤ 1 - 2 * cell
        · obtain ⟨ds1, cell1, f1, e1, l1⟩ := digits_1 (some (.dat (scriptD ns))) b c (some (.dat (.int k))) e7 (rngD 0 60) e6 ds (1 - 2 * cell) (by simp [rngD]; omega)
          refine ⟨ds1, some (.dat (.int cell1)), f1, e7, ?_, by simpa [rngD] using l1⟩
          simp only [scriptD] at e1 ec ⊢
          simp [L3__law_digits, ec, hn, e1, powD, hb]
        · obtain ⟨ds1, seed1, f1, e1, l1⟩ := digits_2 (some (.dat (scriptD ns))) b c (some (.dat (.int k))) (some (.dat (.int (1 - 2 * cell)))) ((List.range 12).map fun (k : Nat) => 0 + (k : Int)) e6 ds (((1 - 2 * cell) * 48271 + k * 69621 + 11) % 2147483647) (by simp; omega)
          rw [← rngD_map] at e1
          refine ⟨ds1, some (.dat (.int (1 - 2 * cell))), f1, some (.dat (.int seed1)), ?_, by simp at l1; omega⟩
          simp only [scriptD] at e1 ec ⊢
          simp [L3__law_digits, ec, hn, e1, powD, hb]
      · by_cases hb : (1000000000000000000 : Int) ≤ cell
        · obtain ⟨ds1, cell1, f1, e1, l1⟩ := digits_1 (some (.dat (scriptD ns))) b c (some (.dat (.int k))) e7 (rngD 0 60) e6 ds cell (by simp [rngD]; omega)
          refine ⟨ds1, some (.dat (.int cell1)), f1, e7, ?_, by simpa [rngD] using l1⟩
          simp only [scriptD] at e1 ec ⊢
          simp [L3__law_digits, ec, hn, e1, powD, hb]
        · obtain ⟨ds1, seed1, f1, e1, l1⟩ := digits_2 (some (.dat (scriptD ns))) b c (some (.dat (.int k))) (some (.dat (.int cell))) ((List.range 12).map fun (k : Nat) => 0 + (k : Int)) e6 ds ((cell * 48271 + k * 69621 + 11) % 2147483647) (by simp; omega)
          rw [← rngD_map] at e1
          refine ⟨ds1, some (.dat (.int cell)), f1, some (.dat (.int seed1)), ?_, by simp at l1; omega⟩
          simp only [scriptD] at e1 ec ⊢
          simp [L3__law_digits, ec, hn, e1, powD, hb]
    obtain ⟨ds1, g5, g6, g7, e1, l1⟩ := step
    obtain ⟨ds', f4, f5, f6, f7, e2⟩ := digits_3 ns b c ks (some (.dat (.int k))) g5 g6 g7 ds1 (fun x hx => hk x (by simp [hx])) (by omega)
    exact ⟨ds', f4, f5, f6, f7, (forF_nx rfl e1).trans e2⟩
theorem digits_ok (ns : List Int) : ∃ ds : List Int, F__law_digits [scriptD ns, .int 0, .int 40] = some (.list (ds.map .int), []) := by
  obtain ⟨ds', f4, f5, f6, f7, e⟩ := digits_3 ns (some (.dat (.int 0))) (some (.dat (.int 40))) ((List.range 40).map fun (k : Nat) => 0 + (k : Int)) none none none none [] (by simp) (by simp)
  rw [← rngD_map] at e
  refine ⟨ds', ?_⟩
  simp only [scriptD, List.map_nil] at e ⊢
  simp [F__law_digits, B__law_digits, e]
/-! ### repr(a) == repr(a) -/
mutual
def Sm : D → Prop
  | .int i => i.natAbs < 10 ^ 12
  | .bool _ => True
  | .none => True
  | .str x => (x.cps.toList.all fun c => decide (c < 16 ^ 8)) = true
  | .list xs => SmAll xs
  | .tuple xs => SmAll xs
  | .dict _ => False
def SmAll : List D → Prop
  | [] => True
  | x :: xs => Sm x ∧ SmAll xs
end
mutual
theorem sm_short : ∀ d : D, Sm d → d.leavesShort 13 = true
  | .none, _ => by simp [PyData.leavesShort]
  | .bool _, _ => by simp [PyData.leavesShort]
  | .int i, h => by
    have h : i.natAbs < 10 ^ 12 := by simpa [Sm] using h
    have := int_text_length_le10 (k := 12) (by omega) h
    have e : (PyData.shown (.int i)).length ≤ 13 := by
      show (Str.ofString (toString i)).length ≤ 13
      rw [PySem.ofString_length]
      exact this
    simp only [PyData.leavesShort]
    exact decide_eq_true e
  | .str x, h => by simpa [PyData.leavesShort, Sm] using h
  | .list xs, h => by simpa [PyData.leavesShort] using sm_shorts xs (by simpa [Sm] using h)
  | .tuple xs, h => by simpa [PyData.leavesShort] using sm_shorts xs (by simpa [Sm] using h)
  | .dict _, h => by simp [Sm] at h
theorem sm_shorts : ∀ ds : List D, SmAll ds → PyData.leavesShortAll 13 ds = true
  | [], _ => by simp [PyData.leavesShortAll]
  | d :: ds, h => by
    have h : Sm d ∧ SmAll ds := by simpa [SmAll] using h
    simp [PyData.leavesShortAll, sm_short d h.1, sm_shorts ds h.2]
end
mutual
theorem sm_show : ∀ d : D, Sm d → d.showable = true ∧ d.hasDict = false
  | .none, _ => by simp [PyData.showable, PyData.hasDict]
  | .bool _, _ => by simp [PyData.showable, PyData.hasDict]
  | .int i, h => by
    have h : i.natAbs < 10 ^ 12 := by simpa [Sm] using h
    have h2 : i.natAbs.log2 < 40 := by
      by_cases h0 : i.natAbs = 0
      · rw [h0]; decide
      · exact (Nat.log2_lt h0).mpr (Nat.lt_trans h (by decide))
    simp [PyData.showable, PyData.hasDict]
    omega
  | .str x, h => by simp [PyData.showable, PyData.hasDict]
  | .list xs, h => by simpa [PyData.showable, PyData.hasDict] using sm_shows xs (by simpa [Sm] using h)
  | .tuple xs, h => by simpa [PyData.showable, PyData.hasDict] using sm_shows xs (by simpa [Sm] using h)
  | .dict _, h => by simp [Sm] at h
theorem sm_shows : ∀ ds : List D, SmAll ds → PyData.showableAll ds = true ∧ PyData.hasDictAll ds = false
  | [], _ => by simp [PyData.showableAll, PyData.hasDictAll]
  | d :: ds, h => by
    have h : Sm d ∧ SmAll ds := by simpa [SmAll] using h
    simp [PyData.showableAll, PyData.hasDictAll, sm_show d h.1, sm_shows ds h.2]
end
mutual
/-- how many places a datum has -/
def nod : D → Nat
  | .list xs => nods xs + 1
  | .tuple xs => nods xs + 1
  | .str x => x.length + 1
  | _ => 1
def nods : List D → Nat
  | [] => 0
  | x :: xs => nod x + nods xs
end
mutual
theorem sm_weight : ∀ d : D, Sm d → d.weight + 1 ≤ 42 * nod d
  | .none, _ => by simp [PyData.weight, nod]
  | .bool b, _ => by simp [PyData.weight, nod]
  | .int i, h => by
    have h : i.natAbs < 10 ^ 12 := by simpa [Sm] using h
    have h2 : i.natAbs.log2 < 40 := by
      by_cases h0 : i.natAbs = 0
      · rw [h0]; decide
      · exact (Nat.log2_lt h0).mpr (Nat.lt_trans h (by decide))
    simp only [PyData.weight, nod]
    split <;> omega
  | .str x, h => by simp [PyData.weight, nod, Str.length]; omega
  | .list xs, h => by
    have := sm_weights xs (by simpa [Sm] using h)
    simp [PyData.weight, nod]
    omega
  | .tuple xs, h => by
    have := sm_weights xs (by simpa [Sm] using h)
    simp [PyData.weight, nod]
    omega
  | .dict _, h => by simp [Sm] at h
theorem sm_weights : ∀ ds : List D, SmAll ds → PyData.weightAll ds ≤ 42 * nods ds
  | [], _ => by simp [PyData.weightAll]
  | d :: ds, h => by
    have h : Sm d ∧ SmAll ds := by simpa [SmAll] using h
    have h1 := sm_weight d h.1
    have h2 := sm_weights ds h.2
    simp [PyData.weightAll, nods]
    omega
end
theorem repr_ok {d : D} (h : Sm d) (hw : nod d ≤ 1500) (hd : d.depth ≤ 60) : reprD d = some (.str d.shown) := by
  have h1 := sm_show d h
  have h2 := PyData.shown_le 13 (by omega) d (sm_short d h)
  have h4 := sm_weight d h
  have h3 : d.shown.length ≤ 1000000 := by omega
  simp [reprD, h1, hd, h3]
theorem same_ok {d : D} (h : Sm d) (hw : nod d ≤ 1500) (hd : d.depth ≤ 60) : F__law_same [d, d] = some (.bool true, []) := by
  simp [F__law_same, B__law_same, repr_ok h hw hd, eqD]
theorem same_of {d e : D} (he : d = e) (h : Sm d) (hw : nod d ≤ 1500) (hd : d.depth ≤ 60) : F__law_same [d, e] = some (.bool true, []) := by
  subst he
  exact same_ok h hw hd
/-! ### positions and poses as four and five ints -/
abbrev I4 := Int × Int × Int × Int
abbrev Q4 (x : I4) : D := .tuple [.int x.1, .int x.2.1, .int x.2.2.1, .int x.2.2.2]
abbrev L4 (x : I4) : D := .list [.int x.1, .int x.2.1, .int x.2.2.1, .int x.2.2.2]
abbrev P5 (x : I4) (h : Int) : D := .tuple [.int x.1, .int x.2.1, .int x.2.2.1, .int x.2.2.2, .int h]
def add4 (x y : I4) : I4 := (x.1 + y.1, x.2.1 + y.2.1, x.2.2.1 + y.2.2.1, x.2.2.2 + y.2.2.2)
def sub4 (x y : I4) : I4 := (x.1 - y.1, x.2.1 - y.2.1, x.2.2.1 - y.2.2.1, x.2.2.2 - y.2.2.2)
/-- turned by e eighths -/
def tn (e : Int) (x : I4) : I4 :=
  if e % 8 = 0 then x
  else if e % 8 = 1 then (-x.2.2.2, x.1, x.2.1, x.2.2.1)
  else if e % 8 = 2 then (-x.2.2.1, -x.2.2.2, x.1, x.2.1)
  else if e % 8 = 3 then (-x.2.1, -x.2.2.1, -x.2.2.2, x.1)
  else if e % 8 = 4 then (-x.1, -x.2.1, -x.2.2.1, -x.2.2.2)
  else if e % 8 = 5 then (x.2.2.2, -x.1, -x.2.1, -x.2.2.1)
  else if e % 8 = 6 then (x.2.2.1, x.2.2.2, -x.1, -x.2.1)
  else (x.2.1, x.2.2.1, x.2.2.2, -x.1)
theorem mod8 (e : Int) : e % 8 = 0 ∨ e % 8 = 1 ∨ e % 8 = 2 ∨ e % 8 = 3 ∨ e % 8 = 4 ∨ e % 8 = 5 ∨ e % 8 = 6 ∨ e % 8 = 7 := by omega
theorem neg_h (e : Int) : (-e) % 8 = if e % 8 = 0 then 0 else 8 - e % 8 := by
  split <;> omega
theorem tn_mod {e f : Int} (h : e % 8 = f % 8) (x : I4) : tn e x = tn f x := by
  unfold tn
  rw [h]
theorem tn_back (e : Int) (x : I4) : tn e (tn (-e) x) = x := by
  obtain ⟨a, b, c, d⟩ := x
  unfold tn
  rw [neg_h]
  rcases mod8 e with h | h | h | h | h | h | h | h <;> simp [h]
theorem tn_there (e : Int) (x : I4) : tn (-e) (tn e x) = x := by
  have := tn_back (-e) x
  rw [Int.neg_neg] at this
  exact this
theorem tn_add (e : Int) (x y : I4) : tn e (add4 x y) = add4 (tn e x) (tn e y) := by
  obtain ⟨a, b, c, d⟩ := x
  obtain ⟨a', b', c', d'⟩ := y
  unfold tn add4
  rcases mod8 e with h | h | h | h | h | h | h | h <;> simp [h] <;> omega
theorem tn_sum (e f : Int) (x : I4) : tn e (tn f x) = tn (e + f) x := by
  obtain ⟨a, b, c, d⟩ := x
  unfold tn
  have k : (e + f) % 8 = (e % 8 + f % 8) % 8 := by omega
  rw [k]
  rcases mod8 e with h | h | h | h | h | h | h | h <;> rcases mod8 f with h' | h' | h' | h' | h' | h' | h' | h' <;> simp [h, h']
theorem sub_add (x y : I4) : add4 (sub4 x y) y = x := by
  obtain ⟨a, b, c, d⟩ := x
  obtain ⟨a', b', c', d'⟩ := y
  unfold add4 sub4
  simp
theorem add_sub (x y : I4) : sub4 (add4 x y) y = x := by
  obtain ⟨a, b, c, d⟩ := x
  obtain ⟨a', b', c', d'⟩ := y
  unfold add4 sub4
  simp

/-! ### the program's poses -/
theorem turned_eq (x : I4) (e : Int) : F_turned [Q4 x, .int e] = some (Q4 (tn e x), []) := by
  obtain ⟨a, b, c, d⟩ := x
  unfold tn
  rcases mod8 e with h | h | h | h | h | h | h | h
  · have h0 : (0 - e) % 8 = 0 := by omega
    have h1 : (1 - e) % 8 = 1 := by omega
    have h2 : (2 - e) % 8 = 2 := by omega
    have h3 : (3 - e) % 8 = 3 := by omega
    have h0' : (-e) % 8 = 0 := by omega
    simp [F_turned, B_turned, E1_turned, rngD, List.range, List.range.loop, lcF, h, h0, h1, h2, h3, h0']
  · have h0 : (0 - e) % 8 = 7 := by omega
    have h1 : (1 - e) % 8 = 0 := by omega
    have h2 : (2 - e) % 8 = 1 := by omega
    have h3 : (3 - e) % 8 = 2 := by omega
    have h0' : (-e) % 8 = 7 := by omega
    simp [F_turned, B_turned, E1_turned, rngD, List.range, List.range.loop, lcF, h, h0, h1, h2, h3, h0']
  · have h0 : (0 - e) % 8 = 6 := by omega
    have h1 : (1 - e) % 8 = 7 := by omega
    have h2 : (2 - e) % 8 = 0 := by omega
    have h3 : (3 - e) % 8 = 1 := by omega
    have h0' : (-e) % 8 = 6 := by omega
    simp [F_turned, B_turned, E1_turned, rngD, List.range, List.range.loop, lcF, h, h0, h1, h2, h3, h0']
  · have h0 : (0 - e) % 8 = 5 := by omega
    have h1 : (1 - e) % 8 = 6 := by omega
    have h2 : (2 - e) % 8 = 7 := by omega
    have h3 : (3 - e) % 8 = 0 := by omega
    have h0' : (-e) % 8 = 5 := by omega
    simp [F_turned, B_turned, E1_turned, rngD, List.range, List.range.loop, lcF, h, h0, h1, h2, h3, h0']
  · have h0 : (0 - e) % 8 = 4 := by omega
    have h1 : (1 - e) % 8 = 5 := by omega
    have h2 : (2 - e) % 8 = 6 := by omega
    have h3 : (3 - e) % 8 = 7 := by omega
    have h0' : (-e) % 8 = 4 := by omega
    simp [F_turned, B_turned, E1_turned, rngD, List.range, List.range.loop, lcF, h, h0, h1, h2, h3, h0']
  · have h0 : (0 - e) % 8 = 3 := by omega
    have h1 : (1 - e) % 8 = 4 := by omega
    have h2 : (2 - e) % 8 = 5 := by omega
    have h3 : (3 - e) % 8 = 6 := by omega
    have h0' : (-e) % 8 = 3 := by omega
    simp [F_turned, B_turned, E1_turned, rngD, List.range, List.range.loop, lcF, h, h0, h1, h2, h3, h0']
  · have h0 : (0 - e) % 8 = 2 := by omega
    have h1 : (1 - e) % 8 = 3 := by omega
    have h2 : (2 - e) % 8 = 4 := by omega
    have h3 : (3 - e) % 8 = 5 := by omega
    have h0' : (-e) % 8 = 2 := by omega
    simp [F_turned, B_turned, E1_turned, rngD, List.range, List.range.loop, lcF, h, h0, h1, h2, h3, h0']
  · have h0 : (0 - e) % 8 = 1 := by omega
    have h1 : (1 - e) % 8 = 2 := by omega
    have h2 : (2 - e) % 8 = 3 := by omega
    have h3 : (3 - e) % 8 = 4 := by omega
    have h0' : (-e) % 8 = 1 := by omega
    simp [F_turned, B_turned, E1_turned, rngD, List.range, List.range.loop, lcF, h, h0, h1, h2, h3, h0']
theorem moved_eq (x y : I4) : F_moved [Q4 x, Q4 y] = some (Q4 (add4 x y), []) := by
  obtain ⟨a, b, c, d⟩ := x
  obtain ⟨a', b', c', d'⟩ := y
  simp [F_moved, B_moved, E1_moved, lcF, zipD, add4]
theorem cut4 (x : I4) (h : Int) : cutD [PyData.int x.1, .int x.2.1, .int x.2.2.1, .int x.2.2.2, .int h] none (some 4) = [.int x.1, .int x.2.1, .int x.2.2.1, .int x.2.2.2] := rfl
theorem laid_eq (x y : I4) (h k : Int) : F_laid [P5 x h, P5 y k] = some (P5 (add4 (tn h y) x) ((k + h) % 8), []) := by
  have e := turned_eq y h
  have e2 := moved_eq (tn h y) x
  have c1 := cut4 x h
  have c2 := cut4 y k
  simp [F_laid, B_laid, e, e2, c1, c2]
/-! ### the law's own -/
def mv (at' m : Int) (x : I4) : I4 :=
  if at' = 0 then (x.1 + m, x.2.1, x.2.2.1, x.2.2.2)
  else if at' = 1 then (x.1, x.2.1 + m, x.2.2.1, x.2.2.2)
  else if at' = 2 then (x.1, x.2.1, x.2.2.1 + m, x.2.2.2)
  else if at' = 3 then (x.1, x.2.1, x.2.2.1, x.2.2.2 + m)
  else if at' = 4 then (x.1 + -m, x.2.1, x.2.2.1, x.2.2.2)
  else if at' = 5 then (x.1, x.2.1 + -m, x.2.2.1, x.2.2.2)
  else if at' = 6 then (x.1, x.2.1, x.2.2.1 + -m, x.2.2.2)
  else (x.1, x.2.1, x.2.2.1, x.2.2.2 + -m)
theorem move_eq (x : I4) (d m : Int) : F__law_move [L4 x, .int d, .int m] = some (L4 (mv (d % 8) m x), []) := by
  unfold mv
  rcases mod8 d with h | h | h | h | h | h | h | h <;> simp [F__law_move, B__law_move, h]
theorem turn_all (x : I4) (e : Int) : mv ((3 + e) % 8) x.2.2.2 (mv ((2 + e) % 8) x.2.2.1 (mv ((1 + e) % 8) x.2.1 (mv ((0 + e) % 8) x.1 (0, 0, 0, 0)))) = tn e x := by
  obtain ⟨a, b, c, d⟩ := x
  have k0 : (0 + e) % 8 = e % 8 := by omega
  have k1 : (1 + e) % 8 = (1 + e % 8) % 8 := by omega
  have k2 : (2 + e) % 8 = (2 + e % 8) % 8 := by omega
  have k3 : (3 + e) % 8 = (3 + e % 8) % 8 := by omega
  rw [k0, k1, k2, k3]
  unfold mv tn
  rcases mod8 e with h | h | h | h | h | h | h | h <;> simp [h]
theorem lturned_eq (x : I4) (e : Int) : F__law_turned [Q4 x, .int e] = some (L4 (tn e x), []) := by
  have m0 := move_eq (0, 0, 0, 0) (0 + e) x.1
  have m1 := move_eq (mv ((0 + e) % 8) x.1 (0, 0, 0, 0)) (1 + e) x.2.1
  have m2 := move_eq (mv ((1 + e) % 8) x.2.1 (mv ((0 + e) % 8) x.1 (0, 0, 0, 0))) (2 + e) x.2.2.1
  have m3 := move_eq (mv ((2 + e) % 8) x.2.2.1 (mv ((1 + e) % 8) x.2.1 (mv ((0 + e) % 8) x.1 (0, 0, 0, 0)))) (3 + e) x.2.2.2
  rw [turn_all] at m3
  have k0 : (0 + e) = e := by omega
  rw [k0] at m0 m1 m2 m3
  simp [F__law_turned, B__law_turned, L1__law_turned, rngD, List.range, List.range.loop, forF, m0, m1, m2, m3]
theorem lturnedL_eq (x : I4) (e : Int) : F__law_turned [L4 x, .int e] = some (L4 (tn e x), []) := by
  have m0 := move_eq (0, 0, 0, 0) (0 + e) x.1
  have m1 := move_eq (mv ((0 + e) % 8) x.1 (0, 0, 0, 0)) (1 + e) x.2.1
  have m2 := move_eq (mv ((1 + e) % 8) x.2.1 (mv ((0 + e) % 8) x.1 (0, 0, 0, 0))) (2 + e) x.2.2.1
  have m3 := move_eq (mv ((2 + e) % 8) x.2.2.1 (mv ((1 + e) % 8) x.2.1 (mv ((0 + e) % 8) x.1 (0, 0, 0, 0)))) (3 + e) x.2.2.2
  rw [turn_all] at m3
  have k0 : (0 + e) = e := by omega
  rw [k0] at m0 m1 m2 m3
  simp [F__law_turned, B__law_turned, L1__law_turned, rngD, List.range, List.range.loop, forF, m0, m1, m2, m3]
/-! ### rows of letters -/
inductive Ltr where
  | h | l | r | s
def one : Ltr → Str
  | .h => "H"
  | .l => "L"
  | .r => "R"
  | .s => "S"
def cd : Ltr → Nat
  | .h => 72
  | .l => 76
  | .r => 82
  | .s => 83
theorem one_cd (x : Ltr) : one x = ⟨#[cd x]⟩ := by cases x <;> decide +kernel
theorem one_inj {x y : Ltr} : one x = one y ↔ cd x = cd y := by
  rw [one_cd, one_cd]
  simp
abbrev O (x : Ltr) : D := .str (one x)
def txt (r : List Ltr) : Str := ⟨(r.map cd).toArray⟩
theorem txt_len (r : List Ltr) : (txt r).length = r.length := by simp [txt, Str.length]
theorem txt_walk (r : List Ltr) : (txt r).cps.toList.map (fun c => PyData.str ⟨#[c]⟩) = r.map O := by
  simp only [txt, List.map_map]
  exact List.map_congr_left fun x _ => by simp [one_cd]
theorem txt_app (a b : List Ltr) : txt (a ++ b) = txt a ++ txt b := by
  show _ = Str.append _ _
  simp [txt, Str.append]
theorem txt_rev (r : List Ltr) : revS (txt r) = txt r.reverse := by simp [revS, txt]
theorem glue_all : ∀ (r : List Ltr) (acc : Array Nat), (r.map one).foldl (fun acc p => acc ++ (("" : Str)).cps ++ p.cps) acc = acc ++ (r.map cd).toArray
  | [], acc => by simp
  | x :: r, acc => by
    have e : (("" : Str)).cps = #[] := by decide +kernel
    rw [List.map_cons, List.foldl_cons, glue_all r, e, one_cd]
    simp
theorem txt_join : ∀ r : List Ltr, Txt.join "" (r.map one) = txt r
  | [] => by decide +kernel
  | x :: r => by
    show (⟨(((x :: r).map one).drop 1).foldl _ (((x :: r).map one).headD Str.empty).cps⟩ : Str) = _
    rw [List.map_cons, List.drop_one, List.tail_cons, glue_all, List.headD_cons, one_cd]
    simp [txt]
theorem strs_one : ∀ r : List Ltr, strsD (r.map O) = some (r.map one)
  | [] => rfl
  | x :: r => by
    show (strsD (r.map O)).map (one x :: ·) = _
    rw [strs_one r]
    rfl
theorem sum_one : ∀ r : List Ltr, ((r.map one).map (·.length)).sum = r.length
  | [] => rfl
  | x :: r => by
    rw [List.map_cons, List.map_cons, List.sum_cons, sum_one r, List.length_cons, one_cd]
    show 1 + r.length = _
    omega
theorem join_ok (r : List Ltr) (h : r.length ≤ 100000) : joinL "" (r.map O) = some (.str (txt r)) := by
  have e : (("" : Str)).length = 0 := by decide +kernel
  have hl : r.length ≤ 1000000 := by omega
  have sm : ((r.map one).map (·.length)).sum + (r.map one).length * (("" : Str)).length = r.length := by rw [sum_one, e]; omega
  simp only [joinL, strs_one, txt_join, sm, okN, hl, decide_true, if_true]
abbrev Ps := I4 × Int
abbrev F5 (p : Ps) : D := P5 p.1 p.2
def vl : Ltr → I4
  | .h => (1, 0, 0, 0)
  | .l => (0, 0, 2, -2)
  | .r => (0, 2, -2, 0)
  | .s => (2, 0, 0, 0)
def tl : Ltr → Int
  | .h => 0
  | .l => 1
  | .r => 7
  | .s => 0
def stp (p : Ps) (x : Ltr) : Ps := (add4 (tn p.2 (vl x)) p.1, (tl x + p.2) % 8)
def walk (p : Ps) (r : List Ltr) : Ps := r.foldl stp p
def trail (p : Ps) : List Ltr → List Ps
  | [] => [p]
  | x :: r => p :: trail (stp p x) r
theorem trail_len (p : Ps) (r : List Ltr) : (trail p r).length = r.length + 1 := by
  induction r generalizing p with
  | nil => rfl
  | cons x r ih => simp [trail, ih]
theorem trail_last (p : Ps) (r : List Ltr) : ∃ q, trail p r = q ++ [walk p r] := by
  induction r generalizing p with
  | nil => exact ⟨[], rfl⟩
  | cons x r ih =>
    obtain ⟨q, e⟩ := ih (stp p x)
    exact ⟨p :: q, by simp [trail, e, walk]⟩
theorem last_ix (xs : List D) (d : D) (h : xs.length ≤ 1000000) : ixD (.list (xs ++ [d])) (.int (-1)) = some d := by
  have h1 : ¬ ((0 : Int) ≤ -1) := by omega
  have h2 : (-1 + ((xs ++ [d]).length : Int)).toNat = xs.length := by simp; omega
  have h3 : -((xs ++ [d]).length : Int) ≤ -1 := by simp; omega
  simp only [ixD, simp_ix1, simp_ix2, h1, h2, h3, if_true, if_false, Option.bind_some]
  simp
theorem trail_ix (p : Ps) (r : List Ltr) (h : r.length ≤ 100000) : ixD (.list ((trail p r).map F5)) (.int (-1)) = some (F5 (walk p r)) := by
  obtain ⟨q, e⟩ := trail_last p r
  have l := trail_len p r
  rw [e] at l ⊢
  rw [List.map_append, List.map_cons, List.map_nil]
  refine last_ix _ _ ?_
  simp at l ⊢
  omega
theorem m88 (h : Int) : h % 8 % 8 = h % 8 := by omega
theorem mv_s (h m : Int) (x : I4) : mv (h % 8) m x = add4 (tn h (m, 0, 0, 0)) x := by
  obtain ⟨a, b, c, d⟩ := x
  unfold mv tn add4
  rcases mod8 h with k | k | k | k | k | k | k | k <;> simp [k] <;> omega
theorem mv_l (h : Int) (x : I4) : mv ((h + 7) % 8) 2 (mv ((h + 2) % 8) 2 x) = add4 (tn h (vl .l)) x := by
  obtain ⟨a, b, c, d⟩ := x
  have e1 : (h + 7) % 8 = (h % 8 + 7) % 8 := by omega
  have e2 : (h + 2) % 8 = (h % 8 + 2) % 8 := by omega
  rw [e1, e2]
  unfold mv tn add4 vl
  rcases mod8 h with k | k | k | k | k | k | k | k <;> simp [k] <;> omega
theorem mv_r (h : Int) (x : I4) : mv ((h + 6) % 8) 2 (mv ((h + 1) % 8) 2 x) = add4 (tn h (vl .r)) x := by
  obtain ⟨a, b, c, d⟩ := x
  have e1 : (h + 6) % 8 = (h % 8 + 6) % 8 := by omega
  have e2 : (h + 1) % 8 = (h % 8 + 1) % 8 := by omega
  rw [e1, e2]
  unfold mv tn add4 vl
  rcases mod8 h with k | k | k | k | k | k | k | k <;> simp [k] <;> omega
theorem oeq (x y : Ltr) : eqD (O x) (O y) = some (.bool (decide (cd x = cd y))) := by
  simp only [eqD, one_inj]
/-- what the law adds -/
theorem led_step (a b e4 e5 e3 : Option Ent) (qs : List D) (p : Ps) (x : Ltr) (hl : qs.length ≤ 100000) : ∃ f4 f5, L1__law_led [a, b, some (.own false (qs ++ [F5 p])), some (.dat (O x)), e4, e5] =
    some (.nx [a, b, some (.own false (qs ++ [F5 p] ++ [F5 (stp p x)])), some (.dat (O x)), f4, f5]) := by
  have ix := last_ix qs (F5 p) (by omega)
  have c4 := cut4 p.1 p.2
  have m1 := move_eq p.1 p.2 2
  have m2 := move_eq p.1 p.2 1
  have m3 := move_eq p.1 (p.2 + 2) 2
  have m4 := move_eq (mv ((p.2 + 2) % 8) 2 p.1) (p.2 + 7) 2
  have m5 := move_eq p.1 (p.2 + 1) 2
  have m6 := move_eq (mv ((p.2 + 1) % 8) 2 p.1) (p.2 + 6) 2
  rw [mv_s] at m1 m2
  rw [mv_l] at m4
  rw [mv_r] at m6
  have qS : ∀ y, eqD (O y) (.str "S") = some (.bool (decide (cd y = 83))) := fun y => oeq y .s
  have qH : ∀ y, eqD (O y) (.str "H") = some (.bool (decide (cd y = 72))) := fun y => oeq y .h
  have qL : ∀ y, eqD (O y) (.str "L") = some (.bool (decide (cd y = 76))) := fun y => oeq y .l
  have t1 : (0 + p.2) % 8 = p.2 % 8 := by omega
  have t2 : (1 + p.2) % 8 = (p.2 + 1) % 8 := by omega
  have t3 : (7 + p.2) % 8 = (p.2 + 7) % 8 := by omega
  have hl2 : (qs ++ [F5 p]).length ≤ 1000000 := by simp; omega
  have hl3 : qs.length + 1 ≤ 1000000 := by omega
  cases x
  · exact ⟨some (.dat (L4 (add4 (tn p.2 (1, 0, 0, 0)) p.1))), some (.dat (.int p.2)), by simp [↓ix, L1__law_led, c4, qS, qH, qL, cd, m2, hl3, stp, vl, tl, t1]⟩
  · exact ⟨some (.dat (L4 (add4 (tn p.2 (0, 0, 2, -2)) p.1))), some (.dat (.int (p.2 + 1))), by simp [↓ix, L1__law_led, c4, qS, qH, qL, cd, m3, m4, hl3, stp, vl, tl, t2]⟩
  · exact ⟨some (.dat (L4 (add4 (tn p.2 (0, 2, -2, 0)) p.1))), some (.dat (.int (p.2 + 7))), by simp [↓ix, L1__law_led, c4, qS, qH, qL, cd, m5, m6, hl3, stp, vl, tl, t3]⟩
  · exact ⟨some (.dat (L4 (add4 (tn p.2 (2, 0, 0, 0)) p.1))), some (.dat (.int p.2)), by simp [↓ix, L1__law_led, c4, qS, qH, qL, cd, m1, hl3, stp, vl, tl, t1]⟩
theorem led_loop (a b : Option Ent) : ∀ (r : List Ltr) (p : Ps) (qs : List D) (e3 e4 e5 : Option Ent), qs.length + r.length ≤ 100000 → ∃ f3 f4 f5, forF (gDat 3) L1__law_led (r.map O) [a, b, some (.own false (qs ++ [F5 p])), e3, e4, e5] =
    some (.nx [a, b, some (.own false (qs ++ (trail p r).map F5)), f3, f4, f5])
  | [], p, qs, e3, e4, e5, _ => ⟨e3, e4, e5, rfl⟩
  | x :: r, p, qs, e3, e4, e5, hl => by
    rw [List.length_cons] at hl
    obtain ⟨f4, f5, h⟩ := led_step a b e4 e5 (some (.dat (O x))) qs p x (by omega)
    obtain ⟨g3, g4, g5, k⟩ := led_loop a b r (stp p x) (qs ++ [F5 p]) (some (.dat (O x))) f4 f5 (by simp; omega)
    refine ⟨g3, g4, g5, (forF_nx rfl h).trans (k.trans ?_)⟩
    simp [trail]
theorem led_eq (p : Ps) (r : List Ltr) (h : r.length ≤ 100000) : F__law_led [F5 p, .str (txt r)] = some (.list ((trail p r).map F5), []) := by
  obtain ⟨f3, f4, f5, e⟩ := led_loop (some (.dat (F5 p))) (some (.dat (.str (txt r)))) r p [] none none none (by simpa using h)
  simp only [List.nil_append] at e
  simp only [F__law_led, B__law_led, runF, ini, gt, view, fN, fC, f2, f2n, f2m, f2nn, okN, addD, subD, fdivD, modD, cmpI, isNo, isNd, notNd, ixD, tYe, ofB, cNot, cAnd, cOr, fAnd, fOr, fNot, fNeg, fIf, aNil, aCons, fTup, fL, lDisp, DN.f1, f1n, lenD, intD, absD, tupleD, listD, lOf, lOfn, pNo, pOf, slD, fSl, fSln, pinB, gDat, gsNo, gsCons, gTp, sNil, sSeq, sAsg, sOwn, sSet, sApp, sDrop, sRet, sRetN, sBk, sCt, sIf, wOf, wR1, wR2, small62, sFor, fCall, fCallB, ownB, lLc, simp_ix1, simp_ix2, List.set, List.length_cons, List.length_nil, List.map_cons, List.map_nil, List.cons_append, List.nil_append, List.replicate, Option.bind_some, Option.map_some, if_true, if_false, Bool.false_eq_true, Bool.not_true, Bool.not_false, decide_true, decide_false, reduceIte, Nat.reduceAdd, Nat.reduceLeDiff, Nat.reduceEqDiff, Int.reduceLE, Int.reduceLT, Int.reduceToNat, List.getElem?_cons_zero, List.getElem?_cons_succ, Int.cast_ofNat_Int, Nat.zero_add, Int.zero_le_ofNat, txt_walk, e]
/-! ### drawn poses -/
theorem E1_pose (ds : List Int) (i : Int) (k : D) (h0 : 0 ≤ i) : ∃ x : Int, E1__law_pose [some (.own true (bx ds i)), some (.dat k)] = some (.int x, [some (.own true (bx ds (i + 3))), some (.dat k)]) ∧ x.natAbs ≤ 450 := by
  obtain ⟨d1, e1, a1, b1⟩ := draw_ok ds i 7 h0 (by omega)
  obtain ⟨d2, e2, a2, b2⟩ := draw_ok ds (i + 1) 900 (by omega) (by omega)
  obtain ⟨d3, e3, a3, b3⟩ := draw_ok ds (i + 1 + 1) 3 (by omega) (by omega)
  have e : i + 1 + 1 + 1 = i + 3 := by omega
  rw [e] at e3
  have c3 : d3 = 0 ∨ d3 = 1 ∨ d3 = 2 := by omega
  rcases c3 with rfl | rfl | rfl
  · exact ⟨0, by simp [E1__law_pose, e1, e2, e3], by omega⟩
  · exact ⟨d1 - 3, by simp [E1__law_pose, e1, e2, e3], by omega⟩
  · exact ⟨d2 - 450, by simp [E1__law_pose, e1, e2, e3], by omega⟩
theorem pose_lc (ds : List Int) : ∀ (ks : List D) (i : Int) (acc : List Int), 0 ≤ i → acc.length + ks.length ≤ 1000 → (∀ x ∈ acc, x.natAbs ≤ 450) → ∃ (xs : List Int), lcF [1] (gDat 1) tYe E1__law_pose ks [some (.own true (bx ds i)), none] (acc.map .int) =
    some (xs.map .int, [some (.own true (bx ds (i + 3 * ks.length))), none]) ∧ xs.length = acc.length + ks.length ∧ ∀ x ∈ xs, x.natAbs ≤ 450
  | [], i, acc, _, _, ha => ⟨acc, by simp [lcF], rfl, ha⟩
  | k :: ks, i, acc, h0, hl, ha => by
    simp only [List.length_cons] at hl
    obtain ⟨x, e, hx⟩ := E1_pose ds i k h0
    obtain ⟨xs, e2, l2, h2⟩ := pose_lc ds ks (i + 3) (acc ++ [x]) (by omega) (by simp; omega) (by
      intro y hy
      rcases List.mem_append.mp hy with h | h
      · exact ha y h
      · have : y = x := by simpa using h
        rw [this]; exact hx)
    refine ⟨xs, ?_, by simp at l2 ⊢; omega, h2⟩
    have e3 : i + 3 + 3 * (ks.length : Int) = i + 3 * ((ks.length + 1 : Nat) : Int) := by omega
    rw [e3] at e2
    have hz : acc.length ≤ 1000000 := by omega
    simp only [List.map_append, List.map_cons, List.map_nil] at e2
    simp [lcF, e, hz, e2]
theorem pose_ok (ds : List Int) (i : Int) (h0 : 0 ≤ i) : ∃ a b c d h j : Int, F__law_pose [.list (bx ds i)] = some (.tuple [.int a, .int b, .int c, .int d, .int h], bx ds j) ∧ 0 ≤ j ∧ a.natAbs ≤ 450 ∧ b.natAbs ≤ 450 ∧ c.natAbs ≤ 450 ∧ d.natAbs ≤ 450 ∧ 0 ≤ h ∧ h < 8 := by
  obtain ⟨xs, e, l, hx⟩ := pose_lc ds (rngD 0 4) i [] h0 (by simp [rngD]) (by simp)
  have l4 : xs.length = 4 := by simpa [rngD] using l
  obtain ⟨a, b, c, d, rfl⟩ : ∃ a b c d, xs = [a, b, c, d] := by
    match xs, l4 with
    | [a, b, c, d], _ => exact ⟨a, b, c, d, rfl⟩
  have n4 : ((rngD 0 4).length : Int) = 4 := by simp [rngD]
  rw [n4, show i + 3 * 4 = i + 12 by omega] at e
  obtain ⟨h, e2, a2, b2⟩ := draw_ok ds (i + 12) 8 (by omega) (by omega)
  simp only [List.map_nil] at e
  refine ⟨a, b, c, d, h, i + 12 + 1, ?_, by omega, hx a (by simp), hx b (by simp), hx c (by simp), hx d (by simp), a2, b2⟩
  simp [F__law_pose, B__law_pose, e, e2]
theorem llaid_eq (x y : I4) (h k : Int) : F__law_laid [P5 x h, P5 y k] = some (P5 (add4 x (tn h y)) ((h + k) % 8), []) := by
  have e := lturned_eq y h
  have c2 := cut4 y k
  simp [F__law_laid, B__law_laid, E1__law_laid, rngD, List.range, List.range.loop, lcF, e, c2, add4]
theorem lback_eq (x : I4) (h : Int) : F__law_back [P5 x h] = some (P5 x ((h + 4) % 8), []) := by
  have c1 := cut4 x h
  simp [F__law_back, B__law_back, c1]
/-! ### small numbers -/
def Lt4 (n : Nat) (x : I4) : Prop := x.1.natAbs ≤ n ∧ x.2.1.natAbs ≤ n ∧ x.2.2.1.natAbs ≤ n ∧ x.2.2.2.natAbs ≤ n
theorem lt_tn {n : Nat} {x : I4} (e : Int) (h : Lt4 n x) : Lt4 n (tn e x) := by
  obtain ⟨a, b, c, d⟩ := x
  unfold Lt4 tn at *
  simp only at h
  rcases mod8 e with k | k | k | k | k | k | k | k <;> simp [k] <;> omega
theorem lt_add {n m : Nat} {x y : I4} (h : Lt4 n x) (k : Lt4 m y) : Lt4 (n + m) (add4 x y) := by
  unfold Lt4 add4 at *
  simp only at h k ⊢
  omega
theorem lt_sub {n m : Nat} {x y : I4} (h : Lt4 n x) (k : Lt4 m y) : Lt4 (n + m) (sub4 x y) := by
  unfold Lt4 sub4 at *
  simp only at h k ⊢
  omega
theorem smQ {n : Nat} {x : I4} (h : Lt4 n x) (hn : n ≤ 100000) : Sm (Q4 x) := by
  unfold Lt4 at h
  simp only [Sm, SmAll, and_true]
  omega
theorem smP {n : Nat} {x : I4} {k : Int} (h : Lt4 n x) (hn : n ≤ 100000) (hk : 0 ≤ k ∧ k < 8) : Sm (P5 x k) := by
  unfold Lt4 at h
  simp only [Sm, SmAll, and_true]
  omega
theorem add_comm4 (x y : I4) : add4 x y = add4 y x := by
  unfold add4
  rw [Int.add_comm x.1, Int.add_comm x.2.1, Int.add_comm x.2.2.1, Int.add_comm x.2.2.2]
theorem m8 (k : Int) : 0 ≤ k % 8 ∧ k % 8 < 8 := by omega
theorem nodQ (x : I4) : nod (Q4 x) ≤ 1500 ∧ (Q4 x).depth ≤ 60 := by
  simp [nod, nods, PyData.depth, PyData.depthAll]
/-! ### the group of poses -/
def comp (p q : Ps) : Ps := (add4 (tn p.2 q.1) p.1, (q.2 + p.2) % 8)
theorem stp_is (p : Ps) (x : Ltr) : stp p x = comp p (vl x, tl x) := rfl
def In8 (p : Ps) : Prop := 0 ≤ p.2 ∧ p.2 < 8
theorem stp_in (p : Ps) (x : Ltr) : In8 (stp p x) := by
  unfold In8 stp
  simp only
  omega
theorem walk_in {p : Ps} (h : In8 p) (r : List Ltr) : In8 (walk p r) := by
  induction r generalizing p with
  | nil => exact h
  | cons x r ih => exact ih (stp_in p x)
def bk (p : Ps) : Ps := (p.1, (p.2 + 4) % 8)
theorem eight {h : Int} (a : 0 ≤ h) (b : h < 8) : h = 0 ∨ h = 1 ∨ h = 2 ∨ h = 3 ∨ h = 4 ∨ h = 5 ∨ h = 6 ∨ h = 7 := by omega
/-! ### sizes -/
theorem stp_lt {n : Nat} {p : Ps} (h : Lt4 n p.1) (x : Ltr) : Lt4 (n + 2) (stp p x).1 := by
  have k : Lt4 2 (vl x) := by cases x <;> simp [Lt4, vl]
  have := lt_add (lt_tn p.2 k) h
  rwa [Nat.add_comm] at this
theorem walk_lt {n : Nat} {p : Ps} (h : Lt4 n p.1) (r : List Ltr) : Lt4 (n + 2 * r.length) (walk p r).1 := by
  induction r generalizing p n with
  | nil => exact h
  | cons x r ih =>
    have := ih (stp_lt h x)
    rw [List.length_cons, show n + 2 * (r.length + 1) = n + 2 + 2 * r.length by omega]
    exact this
theorem lt_mono {n m : Nat} {x : I4} (h : Lt4 n x) (k : n ≤ m) : Lt4 m x := by
  unfold Lt4 at *
  omega
theorem bk_in (p : Ps) : In8 (bk p) := by
  unfold In8 bk
  simp only
  omega
theorem comp_in (p q : Ps) : In8 (comp p q) := by
  unfold In8 comp
  simp only
  omega
/-! ### law_k06 -/
theorem back_eq (x : I4) (h : Int) : F_back [P5 x h] = some (P5 x ((h + 4) % 8), []) := by
  have c1 := cut4 x h
  simp [F_back, B_back, c1]
theorem if_t {c : Ft} {a b : Fs} {γ γ1 : En} {o : Option Out} (h : c γ = some (true, γ1)) (k : a γ1 = o) : sIf c a b γ = o := by
  unfold sIf
  rw [h]
  exact k
theorem plaid (p q : Ps) : F_laid [F5 p, F5 q] = some (F5 (comp p q), []) := laid_eq p.1 q.1 p.2 q.2
theorem lplaid (p q : Ps) : F__law_laid [F5 p, F5 q] = some (F5 (comp p q), []) := by
  rw [llaid_eq p.1 q.1 p.2 q.2]
  unfold comp
  rw [add_comm4, Int.add_comm p.2]
theorem pback (p : Ps) : F_back [F5 p] = some (F5 (bk p), []) := back_eq p.1 p.2
theorem lpback (p : Ps) : F__law_back [F5 p] = some (F5 (bk p), []) := lback_eq p.1 p.2
theorem ends_lc (a : Option Ent) (p : Ps) : ∀ (es : List Ps) (acc : List Ps), acc.length + es.length ≤ 1000 → lcF [2] (gDat 2) tYe E1_ends_of (es.map F5) [a, some (.dat (F5 p)), none] (acc.map F5) = some ((acc ++ es.map (comp p)).map F5, [a, some (.dat (F5 p)), none])
  | [], acc, _ => by simp [lcF]
  | q :: es, acc, hl => by
    rw [List.length_cons] at hl
    have k := ends_lc a p es (acc ++ [comp p q]) (by simp; omega)
    have hz : acc.length ≤ 1000000 := by omega
    have l := plaid p q
    have ee : E1_ends_of [a, some (.dat (F5 p)), some (.dat (F5 q))] = some (F5 (comp p q), [a, some (.dat (F5 p)), some (.dat (F5 q))]) := by simp only [E1_ends_of, runF, ini, gt, view, fN, fC, f2, f2n, f2m, f2nn, okN, addD, subD, fdivD, modD, cmpI, isNo, isNd, notNd, ixD, tYe, ofB, cNot, cAnd, cOr, fAnd, fOr, fNot, fNeg, fIf, aNil, aCons, fTup, fL, lDisp, DN.f1, f1n, lenD, intD, absD, tupleD, listD, lOf, lOfn, pNo, pOf, slD, fSl, fSln, pinB, gDat, gsNo, gsCons, gTp, sNil, sSeq, sAsg, sOwn, sSet, sApp, sDrop, sRet, sRetN, sBk, sCt, sIf, wOf, wR1, wR2, small62, sFor, fCall, fCallB, ownB, lLc, simp_ix1, simp_ix2, List.set, List.length_cons, List.length_nil, List.map_cons, List.map_nil, List.cons_append, List.nil_append, List.replicate, Option.bind_some, Option.map_some, if_true, if_false, Bool.false_eq_true, Bool.not_true, Bool.not_false, decide_true, decide_false, reduceIte, Nat.reduceAdd, Nat.reduceLeDiff, Nat.reduceEqDiff, Int.reduceLE, Int.reduceLT, Int.reduceToNat, List.getElem?_cons_zero, List.getElem?_cons_succ, Int.cast_ofNat_Int, Nat.zero_add, Int.zero_le_ofNat, l]
    rw [List.map_append, List.map_cons, List.map_nil, List.append_assoc] at k
    simp [lcF, ee, hz, k]
theorem ends_ok (key : Str) (p : Ps) (es : List Ps) (h : tabD c_ENDS_AHEAD (.str key) = some (.tuple (es.map F5))) (hl : es.length ≤ 100) : F_ends_of [.str key, F5 p] = some (.tuple (F5 (bk p) :: (es.map (comp p)).map F5), []) := by
  have e := ends_lc (some (.dat (.str key))) p es [] (by simp; omega)
  have b := pback p
  simp only [List.map_nil, List.nil_append] at e
  have hz : (([F5 (bk p)] : List D).length + ((es.map (comp p)).map F5).length ≤ 1000000) := by simp; omega
  have ad : addD (.list [F5 (bk p)]) (.list ((es.map (comp p)).map F5)) = some (.list (F5 (bk p) :: (es.map (comp p)).map F5)) := by
    simp only [addD, okN, hz, decide_true, if_true, List.cons_append, List.nil_append]
  simp only [↓ad, ↓h, F_ends_of, B_ends_of, runF, ini, gt, view, fN, fC, f2, f2n, f2m, f2nn, okN, addD, subD, fdivD, modD, cmpI, isNo, isNd, notNd, ixD, tYe, ofB, cNot, cAnd, cOr, fAnd, fOr, fNot, fNeg, fIf, aNil, aCons, fTup, fL, lDisp, DN.f1, f1n, lenD, intD, absD, tupleD, listD, lOf, lOfn, pNo, pOf, slD, fSl, fSln, pinB, gDat, gsNo, gsCons, gTp, sNil, sSeq, sAsg, sOwn, sSet, sApp, sDrop, sRet, sRetN, sBk, sCt, sIf, wOf, wR1, wR2, small62, sFor, fCall, fCallB, ownB, lLc, simp_ix1, simp_ix2, List.set, List.length_cons, List.length_nil, List.map_cons, List.map_nil, List.cons_append, List.nil_append, List.replicate, Option.bind_some, Option.map_some, if_true, if_false, Bool.false_eq_true, Bool.not_true, Bool.not_false, decide_true, decide_false, reduceIte, Nat.reduceAdd, Nat.reduceLeDiff, Nat.reduceEqDiff, Int.reduceLE, Int.reduceLT, Int.reduceToNat, List.getElem?_cons_zero, List.getElem?_cons_succ, Int.cast_ofNat_Int, Nat.zero_add, Int.zero_le_ofNat, noOwns, wipeE, putBack, Bool.and_self, b, e]
theorem lends_lc1 (a b2 b3 b4 b6 : Option Ent) (p : Ps) : ∀ (es : List Ps) (acc : List Ps), acc.length + es.length ≤ 1000 → lcF [5] (gDat 5) tYe E1__law_ends (es.map F5) [a, some (.dat (F5 p)), b2, b3, b4, none, b6] (acc.map F5) = some ((acc ++ es.map (comp p)).map F5, [a, some (.dat (F5 p)), b2, b3, b4, none, b6])
  | [], acc, _ => by simp [lcF]
  | q :: es, acc, hl => by
    rw [List.length_cons] at hl
    have k := lends_lc1 a b2 b3 b4 b6 p es (acc ++ [comp p q]) (by simp; omega)
    have hz : acc.length ≤ 1000000 := by omega
    have l := lplaid p q
    have ee : E1__law_ends [a, some (.dat (F5 p)), b2, b3, b4, some (.dat (F5 q)), b6] = some (F5 (comp p q), [a, some (.dat (F5 p)), b2, b3, b4, some (.dat (F5 q)), b6]) := by simp only [E1__law_ends, runF, ini, gt, view, fN, fC, f2, f2n, f2m, f2nn, okN, addD, subD, fdivD, modD, cmpI, isNo, isNd, notNd, ixD, tYe, ofB, cNot, cAnd, cOr, fAnd, fOr, fNot, fNeg, fIf, aNil, aCons, fTup, fL, lDisp, DN.f1, f1n, lenD, intD, absD, tupleD, listD, lOf, lOfn, pNo, pOf, slD, fSl, fSln, pinB, gDat, gsNo, gsCons, gTp, sNil, sSeq, sAsg, sOwn, sSet, sApp, sDrop, sRet, sRetN, sBk, sCt, sIf, wOf, wR1, wR2, small62, sFor, fCall, fCallB, ownB, lLc, simp_ix1, simp_ix2, List.set, List.length_cons, List.length_nil, List.map_cons, List.map_nil, List.cons_append, List.nil_append, List.replicate, Option.bind_some, Option.map_some, if_true, if_false, Bool.false_eq_true, Bool.not_true, Bool.not_false, decide_true, decide_false, reduceIte, Nat.reduceAdd, Nat.reduceLeDiff, Nat.reduceEqDiff, Int.reduceLE, Int.reduceLT, Int.reduceToNat, List.getElem?_cons_zero, List.getElem?_cons_succ, Int.cast_ofNat_Int, Nat.zero_add, Int.zero_le_ofNat, l]
    rw [List.map_append, List.map_cons, List.map_nil, List.append_assoc] at k
    simp [lcF, ee, hz, k]
theorem lends_lc2 (a b2 b3 b4 b5 : Option Ent) (p : Ps) : ∀ (rs : List (List Ltr)) (acc : List Ps), (∀ r ∈ rs, r.length ≤ 100) → acc.length + rs.length ≤ 1000 → lcF [6] (gDat 6) tYe E2__law_ends (rs.map fun r => .str (txt r)) [a, some (.dat (F5 p)), b2, b3, b4, b5, none] (acc.map F5) = some ((acc ++ rs.map (walk p)).map F5, [a, some (.dat (F5 p)), b2, b3, b4, b5, none])
  | [], acc, _, _ => by simp [lcF]
  | r :: rs, acc, hr, hl => by
    rw [List.length_cons] at hl
    have k := lends_lc2 a b2 b3 b4 b5 p rs (acc ++ [walk p r]) (fun x hx => hr x (List.mem_cons_of_mem _ hx)) (by simp; omega)
    have hz : acc.length ≤ 1000000 := by omega
    have lr := hr r List.mem_cons_self
    have l := led_eq p r (by omega)
    have x := trail_ix p r (by omega)
    have ee : E2__law_ends [a, some (.dat (F5 p)), b2, b3, b4, b5, some (.dat (.str (txt r)))] = some (F5 (walk p r), [a, some (.dat (F5 p)), b2, b3, b4, b5, some (.dat (.str (txt r)))]) := by simp only [↓x, E2__law_ends, runF, ini, gt, view, fN, fC, f2, f2n, f2m, f2nn, okN, addD, subD, fdivD, modD, cmpI, isNo, isNd, notNd, ixD, tYe, ofB, cNot, cAnd, cOr, fAnd, fOr, fNot, fNeg, fIf, aNil, aCons, fTup, fL, lDisp, DN.f1, f1n, lenD, intD, absD, tupleD, listD, lOf, lOfn, pNo, pOf, slD, fSl, fSln, pinB, gDat, gsNo, gsCons, gTp, sNil, sSeq, sAsg, sOwn, sSet, sApp, sDrop, sRet, sRetN, sBk, sCt, sIf, wOf, wR1, wR2, small62, sFor, fCall, fCallB, ownB, lLc, simp_ix1, simp_ix2, List.set, List.length_cons, List.length_nil, List.map_cons, List.map_nil, List.cons_append, List.nil_append, List.replicate, Option.bind_some, Option.map_some, if_true, if_false, Bool.false_eq_true, Bool.not_true, Bool.not_false, decide_true, decide_false, reduceIte, Nat.reduceAdd, Nat.reduceLeDiff, Nat.reduceEqDiff, Int.reduceLE, Int.reduceLT, Int.reduceToNat, List.getElem?_cons_zero, List.getElem?_cons_succ, Int.cast_ofNat_Int, Nat.zero_add, Int.zero_le_ofNat, l]
    rw [List.map_append, List.map_cons, List.map_nil, List.append_assoc] at k
    simp [lcF, ee, hz, k]
def tabL : List (Str × D) := [("S", .list [.str "S"]), ("H", .list [.str "H"]), ("C", .list [.str "L"]), ("P", .list [.str "S", .str "L"]), ("Q", .list [.str "S", .str "R"])]
theorem lends_tab (a : Option Ent) (p : Ps) (key : Str) : sTab 2 [("S", (fL (lDisp (aCons (fC (.str "S")) aNil)))), ("H", (fL (lDisp (aCons (fC (.str "H")) aNil)))), ("C", (fL (lDisp (aCons (fC (.str "L")) aNil)))), ("P", (fL (lDisp (aCons (fC (.str "S")) (aCons (fC (.str "L")) aNil))))), ("Q", (fL (lDisp (aCons (fC (.str "S")) (aCons (fC (.str "R")) aNil)))))] [some (.dat (.str key)), some (.dat (F5 p)), none, none, none, none, none] =
    some (.nx [some (.dat (.str key)), some (.dat (F5 p)), some (.tab tabL), none, none, none, none]) := by
  simp only [sTab, pairsF, runF, ini, gt, view, fN, fC, f2, f2n, f2m, f2nn, okN, addD, subD, fdivD, modD, cmpI, isNo, isNd, notNd, ixD, tYe, ofB, cNot, cAnd, cOr, fAnd, fOr, fNot, fNeg, fIf, aNil, aCons, fTup, fL, lDisp, DN.f1, f1n, lenD, intD, absD, tupleD, listD, lOf, lOfn, pNo, pOf, slD, fSl, fSln, pinB, gDat, gsNo, gsCons, gTp, sNil, sSeq, sAsg, sOwn, sSet, sApp, sDrop, sRet, sRetN, sBk, sCt, sIf, wOf, wR1, wR2, small62, sFor, fCall, fCallB, ownB, lLc, simp_ix1, simp_ix2, List.set, List.length_cons, List.length_nil, List.map_cons, List.map_nil, List.cons_append, List.nil_append, List.replicate, Option.bind_some, Option.map_some, if_true, if_false, Bool.false_eq_true, Bool.not_true, Bool.not_false, decide_true, decide_false, reduceIte, Nat.reduceAdd, Nat.reduceLeDiff, Nat.reduceEqDiff, Int.reduceLE, Int.reduceLT, Int.reduceToNat, List.getElem?_cons_zero, List.getElem?_cons_succ, Int.cast_ofNat_Int, Nat.zero_add, Int.zero_le_ofNat, tabL, Bool.and_self]
theorem lends_ok (key : Str) (p : Ps) (rs : List (List Ltr)) (h : tabM tabL key none = some (.list (rs.map fun r => .str (txt r)))) (hx : eqD (.str key) (.str "X") = some (.bool false)) (hr : ∀ r ∈ rs, r.length ≤ 100) (hl : rs.length ≤ 100) : F__law_ends [.str key, F5 p] = some (.tuple (F5 (bk p) :: (rs.map (walk p)).map F5), []) := by
  have t := lends_tab none p key
  have b := lpback p
  have e := lends_lc2 (some (.dat (.str key))) (some (.tab tabL)) (some (.dat (.list [F5 (bk p)]))) none none p rs [] hr (by simp; omega)
  simp only [List.map_nil, List.nil_append] at e
  have hz : (([F5 (bk p)] : List D).length + ((rs.map (walk p)).map F5).length ≤ 1000000) := by simp; omega
  have ad : addD (.list [F5 (bk p)]) (.list ((rs.map (walk p)).map F5)) = some (.list (F5 (bk p) :: (rs.map (walk p)).map F5)) := by
    simp only [addD, okN, hz, decide_true, if_true, List.cons_append, List.nil_append]
  let S : Option Ent → En := fun g => [some (.dat (.str key)), some (.dat (F5 p)), some (.tab tabL), g, none, none, none]
  have main : B__law_ends [some (.dat (.str key)), some (.dat (F5 p)), none, none, none, none, none] = some (.rt (.tuple (F5 (bk p) :: (rs.map (walk p)).map F5)) (S (some (.dat (.list [F5 (bk p)]))))) := by
    unfold B__law_ends
    refine (seq_nx t).trans ?_
    refine (seq_nx (γ1 := S (some (.dat (.list [F5 (bk p)])))) (by simp only [runF, ini, gt, view, fN, fC, f2, f2n, f2m, f2nn, okN, addD, subD, fdivD, modD, cmpI, isNo, isNd, notNd, ixD, tYe, ofB, cNot, cAnd, cOr, fAnd, fOr, fNot, fNeg, fIf, aNil, aCons, fTup, fL, lDisp, DN.f1, f1n, lenD, intD, absD, tupleD, listD, lOf, lOfn, pNo, pOf, slD, fSl, fSln, pinB, gDat, gsNo, gsCons, gTp, sNil, sSeq, sAsg, sOwn, sSet, sApp, sDrop, sRet, sRetN, sBk, sCt, sIf, wOf, wR1, wR2, small62, sFor, fCall, fCallB, ownB, lLc, simp_ix1, simp_ix2, List.set, List.length_cons, List.length_nil, List.map_cons, List.map_nil, List.cons_append, List.nil_append, List.replicate, Option.bind_some, Option.map_some, if_true, if_false, Bool.false_eq_true, Bool.not_true, Bool.not_false, decide_true, decide_false, reduceIte, Nat.reduceAdd, Nat.reduceLeDiff, Nat.reduceEqDiff, Int.reduceLE, Int.reduceLT, Int.reduceToNat, List.getElem?_cons_zero, List.getElem?_cons_succ, Int.cast_ofNat_Int, Nat.zero_add, Int.zero_le_ofNat, b, S])).trans ?_
    refine (seq_nx (γ1 := S (some (.dat (.list [F5 (bk p)])))) (by simp only [↓hx, runF, ini, gt, view, fN, fC, f2, f2n, f2m, f2nn, okN, addD, subD, fdivD, modD, cmpI, isNo, isNd, notNd, ixD, tYe, ofB, cNot, cAnd, cOr, fAnd, fOr, fNot, fNeg, fIf, aNil, aCons, fTup, fL, lDisp, DN.f1, f1n, lenD, intD, absD, tupleD, listD, lOf, lOfn, pNo, pOf, slD, fSl, fSln, pinB, gDat, gsNo, gsCons, gTp, sNil, sSeq, sAsg, sOwn, sSet, sApp, sDrop, sRet, sRetN, sBk, sCt, sIf, wOf, wR1, wR2, small62, sFor, fCall, fCallB, ownB, lLc, simp_ix1, simp_ix2, List.set, List.length_cons, List.length_nil, List.map_cons, List.map_nil, List.cons_append, List.nil_append, List.replicate, Option.bind_some, Option.map_some, if_true, if_false, Bool.false_eq_true, Bool.not_true, Bool.not_false, decide_true, decide_false, reduceIte, Nat.reduceAdd, Nat.reduceLeDiff, Nat.reduceEqDiff, Int.reduceLE, Int.reduceLT, Int.reduceToNat, List.getElem?_cons_zero, List.getElem?_cons_succ, Int.cast_ofNat_Int, Nat.zero_add, Int.zero_le_ofNat, S])).trans ?_
    simp only [↓ad, runF, ini, gt, view, fN, fC, f2, f2n, f2m, f2nn, okN, addD, subD, fdivD, modD, cmpI, isNo, isNd, notNd, ixD, tYe, ofB, cNot, cAnd, cOr, fAnd, fOr, fNot, fNeg, fIf, aNil, aCons, fTup, fL, lDisp, DN.f1, f1n, lenD, intD, absD, tupleD, listD, lOf, lOfn, pNo, pOf, slD, fSl, fSln, pinB, gDat, gsNo, gsCons, gTp, sNil, sSeq, sAsg, sOwn, sSet, sApp, sDrop, sRet, sRetN, sBk, sCt, sIf, wOf, wR1, wR2, small62, sFor, fCall, fCallB, ownB, lLc, simp_ix1, simp_ix2, List.set, List.length_cons, List.length_nil, List.map_cons, List.map_nil, List.cons_append, List.nil_append, List.replicate, Option.bind_some, Option.map_some, if_true, if_false, Bool.false_eq_true, Bool.not_true, Bool.not_false, decide_true, decide_false, reduceIte, Nat.reduceAdd, Nat.reduceLeDiff, Nat.reduceEqDiff, Int.reduceLE, Int.reduceLT, Int.reduceToNat, List.getElem?_cons_zero, List.getElem?_cons_succ, Int.cast_ofNat_Int, Nat.zero_add, Int.zero_le_ofNat, fTabL, noOwns, wipeE, putBack, Bool.and_self, h, e, S]
  simp only [F__law_ends, runF, ini, gt, view, fN, fC, f2, f2n, f2m, f2nn, okN, addD, subD, fdivD, modD, cmpI, isNo, isNd, notNd, ixD, tYe, ofB, cNot, cAnd, cOr, fAnd, fOr, fNot, fNeg, fIf, aNil, aCons, fTup, fL, lDisp, DN.f1, f1n, lenD, intD, absD, tupleD, listD, lOf, lOfn, pNo, pOf, slD, fSl, fSln, pinB, gDat, gsNo, gsCons, gTp, sNil, sSeq, sAsg, sOwn, sSet, sApp, sDrop, sRet, sRetN, sBk, sCt, sIf, wOf, wR1, wR2, small62, sFor, fCall, fCallB, ownB, lLc, simp_ix1, simp_ix2, List.set, List.length_cons, List.length_nil, List.map_cons, List.map_nil, List.cons_append, List.nil_append, List.replicate, Option.bind_some, Option.map_some, if_true, if_false, Bool.false_eq_true, Bool.not_true, Bool.not_false, decide_true, decide_false, reduceIte, Nat.reduceAdd, Nat.reduceLeDiff, Nat.reduceEqDiff, Int.reduceLE, Int.reduceLT, Int.reduceToNat, List.getElem?_cons_zero, List.getElem?_cons_succ, Int.cast_ofNat_Int, Nat.zero_add, Int.zero_le_ofNat, main]
def crossing : List Ps := [((2, 0, 0, 0), 0), ((1, 0, 1, 0), 2), ((1, 0, -1, 0), 6)]
theorem lends_X (p : Ps) : F__law_ends [.str "X", F5 p] = some (.tuple (F5 (bk p) :: (crossing.map (comp p)).map F5), []) := by
  have t := lends_tab none p "X"
  have b := lpback p
  have hx : eqD (.str "X") (.str "X") = some (.bool true) := by simp [eqD]
  have e := lends_lc1 (some (.dat (.str "X"))) (some (.tab tabL)) (some (.dat (.list [F5 (bk p)]))) (some (.dat (.list (crossing.map F5)))) none p crossing [] (by simp [crossing])
  simp only [List.map_nil, List.nil_append] at e
  have hz : (([F5 (bk p)] : List D).length + ((crossing.map (comp p)).map F5).length ≤ 1000000) := by simp [crossing]
  have ad : addD (.list [F5 (bk p)]) (.list ((crossing.map (comp p)).map F5)) = some (.list (F5 (bk p) :: (crossing.map (comp p)).map F5)) := by
    simp only [addD, okN, hz, decide_true, if_true, List.cons_append, List.nil_append]
  have pl : (.list (crossing.map F5) : D) = .list [.tuple [.int 2, .int 0, .int 0, .int 0, .int 0], .tuple [.int 1, .int 0, .int 1, .int 0, .int 2], .tuple [.int 1, .int 0, .int (-1), .int 0, .int 6]] := rfl
  let S : Option Ent → Option Ent → En := fun g4 g => [some (.dat (.str "X")), some (.dat (F5 p)), some (.tab tabL), g, g4, none, none]
  have main : B__law_ends [some (.dat (.str "X")), some (.dat (F5 p)), none, none, none, none, none] = some (.rt (.tuple (F5 (bk p) :: (crossing.map (comp p)).map F5)) (S (some (.dat (.list (crossing.map F5)))) (some (.dat (.list [F5 (bk p)]))))) := by
    unfold B__law_ends
    refine (seq_nx t).trans ?_
    refine (seq_nx (γ1 := S none (some (.dat (.list [F5 (bk p)])))) (by simp only [runF, ini, gt, view, fN, fC, f2, f2n, f2m, f2nn, okN, addD, subD, fdivD, modD, cmpI, isNo, isNd, notNd, ixD, tYe, ofB, cNot, cAnd, cOr, fAnd, fOr, fNot, fNeg, fIf, aNil, aCons, fTup, fL, lDisp, DN.f1, f1n, lenD, intD, absD, tupleD, listD, lOf, lOfn, pNo, pOf, slD, fSl, fSln, pinB, gDat, gsNo, gsCons, gTp, sNil, sSeq, sAsg, sOwn, sSet, sApp, sDrop, sRet, sRetN, sBk, sCt, sIf, wOf, wR1, wR2, small62, sFor, fCall, fCallB, ownB, lLc, simp_ix1, simp_ix2, List.set, List.length_cons, List.length_nil, List.map_cons, List.map_nil, List.cons_append, List.nil_append, List.replicate, Option.bind_some, Option.map_some, if_true, if_false, Bool.false_eq_true, Bool.not_true, Bool.not_false, decide_true, decide_false, reduceIte, Nat.reduceAdd, Nat.reduceLeDiff, Nat.reduceEqDiff, Int.reduceLE, Int.reduceLT, Int.reduceToNat, List.getElem?_cons_zero, List.getElem?_cons_succ, Int.cast_ofNat_Int, Nat.zero_add, Int.zero_le_ofNat, b, S])).trans ?_
    have inner : (sSeq (sAsg (fL (lDisp (aCons (fTup (aCons (fC (.int 2)) (aCons (fC (.int 0)) (aCons (fC (.int 0)) (aCons (fC (.int 0)) (aCons (fC (.int 0)) aNil)))))) (aCons (fTup (aCons (fC (.int 1)) (aCons (fC (.int 0)) (aCons (fC (.int 1)) (aCons (fC (.int 0)) (aCons (fC (.int 2)) aNil)))))) (aCons (fTup (aCons (fC (.int 1)) (aCons (fC (.int 0)) (aCons (fNeg (fC (.int 1))) (aCons (fC (.int 0)) (aCons (fC (.int 6)) aNil)))))) aNil))))) (gDat 4))
    (sRet (DN.f1 tupleD (f2n addD 3 (fL (lLc [5] (gDat 5) (wOf (fN 4)) tYe E1__law_ends)))))) (S none (some (.dat (.list [F5 (bk p)])))) = some (.rt (.tuple (F5 (bk p) :: (crossing.map (comp p)).map F5)) (S (some (.dat (.list (crossing.map F5)))) (some (.dat (.list [F5 (bk p)]))))) := by
      refine (seq_nx (γ1 := S (some (.dat (.list (crossing.map F5)))) (some (.dat (.list [F5 (bk p)])))) (by
        rw [pl]
        simp only [runF, ini, gt, view, fN, fC, f2, f2n, f2m, f2nn, okN, addD, subD, fdivD, modD, cmpI, isNo, isNd, notNd, ixD, tYe, ofB, cNot, cAnd, cOr, fAnd, fOr, fNot, fNeg, fIf, aNil, aCons, fTup, fL, lDisp, DN.f1, f1n, lenD, intD, absD, tupleD, listD, lOf, lOfn, pNo, pOf, slD, fSl, fSln, pinB, gDat, gsNo, gsCons, gTp, sNil, sSeq, sAsg, sOwn, sSet, sApp, sDrop, sRet, sRetN, sBk, sCt, sIf, wOf, wR1, wR2, small62, sFor, fCall, fCallB, ownB, lLc, simp_ix1, simp_ix2, List.set, List.length_cons, List.length_nil, List.map_cons, List.map_nil, List.cons_append, List.nil_append, List.replicate, Option.bind_some, Option.map_some, if_true, if_false, Bool.false_eq_true, Bool.not_true, Bool.not_false, decide_true, decide_false, reduceIte, Nat.reduceAdd, Nat.reduceLeDiff, Nat.reduceEqDiff, Int.reduceLE, Int.reduceLT, Int.reduceToNat, List.getElem?_cons_zero, List.getElem?_cons_succ, Int.cast_ofNat_Int, Nat.zero_add, Int.zero_le_ofNat, S])).trans ?_
      simp only [↓ad, runF, ini, gt, view, fN, fC, f2, f2n, f2m, f2nn, okN, addD, subD, fdivD, modD, cmpI, isNo, isNd, notNd, ixD, tYe, ofB, cNot, cAnd, cOr, fAnd, fOr, fNot, fNeg, fIf, aNil, aCons, fTup, fL, lDisp, DN.f1, f1n, lenD, intD, absD, tupleD, listD, lOf, lOfn, pNo, pOf, slD, fSl, fSln, pinB, gDat, gsNo, gsCons, gTp, sNil, sSeq, sAsg, sOwn, sSet, sApp, sDrop, sRet, sRetN, sBk, sCt, sIf, wOf, wR1, wR2, small62, sFor, fCall, fCallB, ownB, lLc, simp_ix1, simp_ix2, List.set, List.length_cons, List.length_nil, List.map_cons, List.map_nil, List.cons_append, List.nil_append, List.replicate, Option.bind_some, Option.map_some, if_true, if_false, Bool.false_eq_true, Bool.not_true, Bool.not_false, decide_true, decide_false, reduceIte, Nat.reduceAdd, Nat.reduceLeDiff, Nat.reduceEqDiff, Int.reduceLE, Int.reduceLT, Int.reduceToNat, List.getElem?_cons_zero, List.getElem?_cons_succ, Int.cast_ofNat_Int, Nat.zero_add, Int.zero_le_ofNat, noOwns, wipeE, putBack, Bool.and_self, e, S]
    exact seq_rt (if_t (γ1 := S none (some (.dat (.list [F5 (bk p)])))) (by simp only [↓hx, runF, ini, gt, view, fN, fC, f2, f2n, f2m, f2nn, okN, addD, subD, fdivD, modD, cmpI, isNo, isNd, notNd, ixD, tYe, ofB, cNot, cAnd, cOr, fAnd, fOr, fNot, fNeg, fIf, aNil, aCons, fTup, fL, lDisp, DN.f1, f1n, lenD, intD, absD, tupleD, listD, lOf, lOfn, pNo, pOf, slD, fSl, fSln, pinB, gDat, gsNo, gsCons, gTp, sNil, sSeq, sAsg, sOwn, sSet, sApp, sDrop, sRet, sRetN, sBk, sCt, sIf, wOf, wR1, wR2, small62, sFor, fCall, fCallB, ownB, lLc, simp_ix1, simp_ix2, List.set, List.length_cons, List.length_nil, List.map_cons, List.map_nil, List.cons_append, List.nil_append, List.replicate, Option.bind_some, Option.map_some, if_true, if_false, Bool.false_eq_true, Bool.not_true, Bool.not_false, decide_true, decide_false, reduceIte, Nat.reduceAdd, Nat.reduceLeDiff, Nat.reduceEqDiff, Int.reduceLE, Int.reduceLT, Int.reduceToNat, List.getElem?_cons_zero, List.getElem?_cons_succ, Int.cast_ofNat_Int, Nat.zero_add, Int.zero_le_ofNat, S]) inner)
  simp only [F__law_ends, runF, ini, gt, view, fN, fC, f2, f2n, f2m, f2nn, okN, addD, subD, fdivD, modD, cmpI, isNo, isNd, notNd, ixD, tYe, ofB, cNot, cAnd, cOr, fAnd, fOr, fNot, fNeg, fIf, aNil, aCons, fTup, fL, lDisp, DN.f1, f1n, lenD, intD, absD, tupleD, listD, lOf, lOfn, pNo, pOf, slD, fSl, fSln, pinB, gDat, gsNo, gsCons, gTp, sNil, sSeq, sAsg, sOwn, sSet, sApp, sDrop, sRet, sRetN, sBk, sCt, sIf, wOf, wR1, wR2, small62, sFor, fCall, fCallB, ownB, lLc, simp_ix1, simp_ix2, List.set, List.length_cons, List.length_nil, List.map_cons, List.map_nil, List.cons_append, List.nil_append, List.replicate, Option.bind_some, Option.map_some, if_true, if_false, Bool.false_eq_true, Bool.not_true, Bool.not_false, decide_true, decide_false, reduceIte, Nat.reduceAdd, Nat.reduceLeDiff, Nat.reduceEqDiff, Int.reduceLE, Int.reduceLT, Int.reduceToNat, List.getElem?_cons_zero, List.getElem?_cons_succ, Int.cast_ofNat_Int, Nat.zero_add, Int.zero_le_ofNat, main]

theorem ints_shaped : ∀ l : List Int, PyData.canLayAll0 (l.map .int) = true ∧ PyData.depthAll (l.map .int) ≤ 1
  | [] => by simp [PyData.canLayAll0, PyData.depthAll]
  | x :: r => by
    obtain ⟨h1, h2⟩ := ints_shaped r
    simp only [List.map_cons, PyData.canLayAll0, PyData.depthAll, PyData.canLay0, PyData.depth, h1, Bool.and_self, true_and]
    omega
theorem ints_eqv : ∀ l : List Int, PyData.eqvAll (l.map .int) (l.map .int) = true
  | [] => rfl
  | x :: r => by simp only [List.map_cons, PyData.eqvAll, PyData.eqv, ints_eqv r, beq_self_eq_true, Bool.and_self]
theorem ne_ints (l : List Int) : neD (.list (l.map .int)) (.list (l.map .int)) = some (.bool false) := by
  obtain ⟨h1, h2⟩ := ints_shaped l
  have s : SeqAt.shaped (.list (l.map .int)) = true := by
    unfold SeqAt.shaped
    rw [Bool.and_eq_true, decide_eq_true_eq]
    exact ⟨by simpa only [PyData.canLay0] using h1, by simp only [PyData.depth]; omega⟩
  have e : PyData.eqv (.list (l.map .int)) (.list (l.map .int)) = true := by
    simp only [PyData.eqv, ints_eqv l]
  show (if (SeqAt.shaped (.list (l.map .int)) && SeqAt.shaped (.list (l.map .int))) = true then some (PyData.bool (!PyData.eqv (.list (l.map .int)) (.list (l.map .int)))) else none) = _
  rw [s, e]
  rfl
theorem nods_F5 (l : List Ps) : nods (l.map F5) ≤ 20 * l.length := by
  induction l with
  | nil => simp [nods]
  | cons x r ih =>
    simp only [List.map_cons, nods, nod, List.length_cons]
    omega
theorem depths_F5 (l : List Ps) : PyData.depthAll (l.map F5) ≤ 5 := by
  induction l with
  | nil => simp [PyData.depthAll]
  | cons x r ih =>
    simp only [List.map_cons, PyData.depthAll, PyData.depth]
    omega
theorem sm_poses (n : Nat) (hn : n ≤ 100000) : ∀ l : List Ps, (∀ q ∈ l, Lt4 n q.1 ∧ In8 q) → SmAll (l.map F5)
  | [], _ => True.intro
  | q :: r, h => ⟨smP (h q (by simp)).1 hn (h q (by simp)).2, sm_poses n hn r fun x hx => h x (List.mem_cons_of_mem _ hx)⟩
theorem same_poses (n : Nat) (hn : n ≤ 100000) (l : List Ps) (hl : l.length ≤ 50) (h : ∀ q ∈ l, Lt4 n q.1 ∧ In8 q) : F__law_same [.tuple (l.map F5), .tuple (l.map F5)] = some (.bool true, []) := by
  have a := sm_poses n hn l h
  have b := nods_F5 l
  have c := depths_F5 l
  exact same_ok (by simpa [Sm] using a) (by simp only [nod]; omega) (by simp only [PyData.depth]; omega)
/-- one kind: what is told is what the law tells -/
def Kind (key : Str) (es : List Ps) : Prop := tabD c_ENDS_AHEAD (.str key) = some (.tuple (es.map F5)) ∧ es.length ≤ 10 ∧ (∀ q ∈ es, Lt4 2 q.1) ∧ ∀ p : Ps, F__law_ends [.str key, F5 p] = some (.tuple (F5 (bk p) :: (es.map (comp p)).map F5), [])
theorem kind_row (key : Str) (xs : List Ltr) (he : tabD c_ENDS_AHEAD (.str key) = some (.tuple ((xs.map fun x => (vl x, tl x)).map F5))) (hl : xs.length ≤ 10)
    (h : tabM tabL key none = some (.list (xs.map O))) (hx : eqD (.str key) (.str "X") = some (.bool false)) : Kind key (xs.map fun x => (vl x, tl x)) := by
  refine ⟨he, by simpa using hl, fun q hq => ?_, fun p => ?_⟩
  · obtain ⟨x, _, rfl⟩ := List.mem_map.mp hq
    cases x <;> simp [Lt4, vl]
  · have ex : (xs.map O) = (xs.map fun x => [x]).map fun r => (PyData.str (txt r)) := by
      rw [List.map_map]
      exact List.map_congr_left fun x _ => by simp [txt, one_cd]
    rw [ex] at h
    have := lends_ok key p (xs.map fun x => [x]) h hx (fun r hr => by
      obtain ⟨x, _, rfl⟩ := List.mem_map.mp hr
      simp) (by simp; omega)
    rw [this]
    simp only [List.map_map]
    rfl
theorem kS : Kind "S" ([Ltr.s].map fun x => (vl x, tl x)) := kind_row "S" [.s] rfl (by simp) rfl rfl
theorem kH : Kind "H" ([Ltr.h].map fun x => (vl x, tl x)) := kind_row "H" [.h] rfl (by simp) rfl rfl
theorem kC : Kind "C" ([Ltr.l].map fun x => (vl x, tl x)) := kind_row "C" [.l] rfl (by simp) rfl rfl
theorem kP : Kind "P" ([Ltr.s, Ltr.l].map fun x => (vl x, tl x)) := kind_row "P" [.s, .l] rfl (by simp) rfl rfl
theorem kQ : Kind "Q" ([Ltr.s, Ltr.r].map fun x => (vl x, tl x)) := kind_row "Q" [.s, .r] rfl (by simp) rfl rfl
theorem kX : Kind "X" crossing := ⟨rfl, by simp [crossing], by simp [crossing, Lt4], lends_X⟩
theorem kind_same {key : Str} {es : List Ps} (k : Kind key es) {p : Ps} (lp : Lt4 450 p.1) : F__law_same [.tuple (F5 (bk p) :: (es.map (comp p)).map F5), .tuple (F5 (bk p) :: (es.map (comp p)).map F5)] = some (.bool true, []) := by
  obtain ⟨_, h2, h3, _⟩ := k
  have := same_poses 452 (by omega) (bk p :: es.map (comp p)) (by simp; omega) (by
    intro q hq
    rcases List.mem_cons.mp hq with rfl | hq
    · exact ⟨lt_mono (n := 450) lp (by omega), bk_in p⟩
    · obtain ⟨z, hz, rfl⟩ := List.mem_map.mp hq
      have := lt_add (lt_tn p.2 (h3 z hz)) lp
      exact ⟨lt_mono this (by omega), comp_in _ _⟩)
  exact this

/-! ### the law's laps -/
theorem sort_heads {h : Int} (h0 : 0 ≤ h) (h1 : h < 8) : sortI [(h + 4) % 8, (0 + h) % 8, (2 + h) % 8, (6 + h) % 8] = sortI [(h + 0) % 8, (h + 2) % 8, (h + 4) % 8, (h + 6) % 8] := by
  rcases (show h = 0 ∨ h = 1 ∨ h = 2 ∨ h = 3 ∨ h = 4 ∨ h = 5 ∨ h = 6 ∨ h = 7 by omega) with rfl | rfl | rfl | rfl | rfl | rfl | rfl | rfl <;> decide
theorem cross_mid (h : Int) (x : I4) : add4 x (add4 (tn h (2, 0, 0, 0)) x) = add4 (add4 (tn h (1, 0, 1, 0)) x) (add4 (tn h (1, 0, -1, 0)) x) := by
  obtain ⟨a, b, c, d⟩ := x
  unfold tn add4
  rcases mod8 h with k | k | k | k | k | k | k | k <;> simp [k] <;> omega
abbrev St (s : D) (ds : List Int) (i : Int) (g2 g3 g4 g5 g6 g7 : Option Ent) : En := [some (.dat s), some (.own false (bx ds i)), g2, g3, g4, g5, g6, g7]
theorem lap_row (s : D) (ds : List Int) (i : Int) (h0 : 0 ≤ i) (key : Str) (es : List Ps) (k : Kind key es) (hx : eqD (.str key) (.str "X") = some (.bool false)) (g3 g4 g5 g6 g7 : Option Ent) :
    ∃ (j : Int) (f3 f4 f5 : Option Ent), L5_law (St s ds i (some (.dat (.str key))) g3 g4 g5 g6 g7) = some (.nx (St s ds j (some (.dat (.str key))) f3 f4 f5 g6 g7)) ∧ 0 ≤ j := by
  obtain ⟨a, b, c, d, h, j, ep, j0, ha, hb, hc, hd, h1, h2⟩ := pose_ok ds i h0
  let p : Ps := ((a, b, c, d), h)
  have lp : Lt4 450 p.1 := ⟨ha, hb, hc, hd⟩
  have e1 := ends_ok key p es k.1 (by have := k.2.1; omega)
  have e2 := k.2.2.2 p
  have e3 := kind_same k lp
  let T : Option Ent := some (.dat (.tuple (F5 (bk p) :: (es.map (comp p)).map F5)))
  let Kk : Option Ent := some (.dat (.str key))
  let X : Option Ent := some (.dat (F5 p))
  refine ⟨j, X, T, g5, ?_, j0⟩
  unfold L5_law
  refine (seq_nx (γ1 := St s ds j Kk X g4 g5 g6 g7) (by simp only [runF, ini, gt, view, fN, fC, f2, f2n, f2m, f2nn, okN, addD, subD, fdivD, modD, cmpI, isNo, isNd, notNd, ixD, tYe, ofB, cNot, cAnd, cOr, fAnd, fOr, fNot, fNeg, fIf, aNil, aCons, fTup, fL, lDisp, DN.f1, f1n, lenD, intD, absD, tupleD, listD, lOf, lOfn, pNo, pOf, slD, fSl, fSln, pinB, gDat, gsNo, gsCons, gTp, sNil, sSeq, sAsg, sOwn, sSet, sApp, sDrop, sRet, sRetN, sBk, sCt, sIf, wOf, wR1, wR2, small62, sFor, fCall, fCallB, ownB, lLc, simp_ix1, simp_ix2, List.set, List.length_cons, List.length_nil, List.map_cons, List.map_nil, List.cons_append, List.nil_append, List.replicate, Option.bind_some, Option.map_some, if_true, if_false, Bool.false_eq_true, Bool.not_true, Bool.not_false, decide_true, decide_false, reduceIte, Nat.reduceAdd, Nat.reduceLeDiff, Nat.reduceEqDiff, Int.reduceLE, Int.reduceLT, Int.reduceToNat, List.getElem?_cons_zero, List.getElem?_cons_succ, Int.cast_ofNat_Int, Nat.zero_add, Int.zero_le_ofNat, ep, St, Kk, X, p])).trans ?_
  refine (seq_nx (γ1 := St s ds j Kk X T g5 g6 g7) (by simp only [runF, ini, gt, view, fN, fC, f2, f2n, f2m, f2nn, okN, addD, subD, fdivD, modD, cmpI, isNo, isNd, notNd, ixD, tYe, ofB, cNot, cAnd, cOr, fAnd, fOr, fNot, fNeg, fIf, aNil, aCons, fTup, fL, lDisp, DN.f1, f1n, lenD, intD, absD, tupleD, listD, lOf, lOfn, pNo, pOf, slD, fSl, fSln, pinB, gDat, gsNo, gsCons, gTp, sNil, sSeq, sAsg, sOwn, sSet, sApp, sDrop, sRet, sRetN, sBk, sCt, sIf, wOf, wR1, wR2, small62, sFor, fCall, fCallB, ownB, lLc, simp_ix1, simp_ix2, List.set, List.length_cons, List.length_nil, List.map_cons, List.map_nil, List.cons_append, List.nil_append, List.replicate, Option.bind_some, Option.map_some, if_true, if_false, Bool.false_eq_true, Bool.not_true, Bool.not_false, decide_true, decide_false, reduceIte, Nat.reduceAdd, Nat.reduceLeDiff, Nat.reduceEqDiff, Int.reduceLE, Int.reduceLT, Int.reduceToNat, List.getElem?_cons_zero, List.getElem?_cons_succ, Int.cast_ofNat_Int, Nat.zero_add, Int.zero_le_ofNat, e1, St, Kk, X, T])).trans ?_
  refine (seq_nx (γ1 := St s ds j Kk X T g5 g6 g7) (by simp only [runF, ini, gt, view, fN, fC, f2, f2n, f2m, f2nn, okN, addD, subD, fdivD, modD, cmpI, isNo, isNd, notNd, ixD, tYe, ofB, cNot, cAnd, cOr, fAnd, fOr, fNot, fNeg, fIf, aNil, aCons, fTup, fL, lDisp, DN.f1, f1n, lenD, intD, absD, tupleD, listD, lOf, lOfn, pNo, pOf, slD, fSl, fSln, pinB, gDat, gsNo, gsCons, gTp, sNil, sSeq, sAsg, sOwn, sSet, sApp, sDrop, sRet, sRetN, sBk, sCt, sIf, wOf, wR1, wR2, small62, sFor, fCall, fCallB, ownB, lLc, simp_ix1, simp_ix2, List.set, List.length_cons, List.length_nil, List.map_cons, List.map_nil, List.cons_append, List.nil_append, List.replicate, Option.bind_some, Option.map_some, if_true, if_false, Bool.false_eq_true, Bool.not_true, Bool.not_false, decide_true, decide_false, reduceIte, Nat.reduceAdd, Nat.reduceLeDiff, Nat.reduceEqDiff, Int.reduceLE, Int.reduceLT, Int.reduceToNat, List.getElem?_cons_zero, List.getElem?_cons_succ, Int.cast_ofNat_Int, Nat.zero_add, Int.zero_le_ofNat, e2, e3, St, Kk, X, T])).trans ?_
  simp only [↓hx, runF, ini, gt, view, fN, fC, f2, f2n, f2m, f2nn, okN, addD, subD, fdivD, modD, cmpI, isNo, isNd, notNd, ixD, tYe, ofB, cNot, cAnd, cOr, fAnd, fOr, fNot, fNeg, fIf, aNil, aCons, fTup, fL, lDisp, DN.f1, f1n, lenD, intD, absD, tupleD, listD, lOf, lOfn, pNo, pOf, slD, fSl, fSln, pinB, gDat, gsNo, gsCons, gTp, sNil, sSeq, sAsg, sOwn, sSet, sApp, sDrop, sRet, sRetN, sBk, sCt, sIf, wOf, wR1, wR2, small62, sFor, fCall, fCallB, ownB, lLc, simp_ix1, simp_ix2, List.set, List.length_cons, List.length_nil, List.map_cons, List.map_nil, List.cons_append, List.nil_append, List.replicate, Option.bind_some, Option.map_some, if_true, if_false, Bool.false_eq_true, Bool.not_true, Bool.not_false, decide_true, decide_false, reduceIte, Nat.reduceAdd, Nat.reduceLeDiff, Nat.reduceEqDiff, Int.reduceLE, Int.reduceLT, Int.reduceToNat, List.getElem?_cons_zero, List.getElem?_cons_succ, Int.cast_ofNat_Int, Nat.zero_add, Int.zero_le_ofNat, St, Kk]
theorem sum_1 (s : D) (ds : List Int) (j : Int) (g2 g3 g5 g7 : Option Ent) (u0 u1 u2 u3 : Ps) : lcF [6] (gDat 6) tYe E2_law (rngD 0 4) (St s ds j g2 g3 (some (.dat (.tuple [F5 u0, F5 u1, F5 u2, F5 u3]))) g5 none g7) [] =
    some ([.int (add4 u0.1 u1.1).1, .int (add4 u0.1 u1.1).2.1, .int (add4 u0.1 u1.1).2.2.1, .int (add4 u0.1 u1.1).2.2.2], St s ds j g2 g3 (some (.dat (.tuple [F5 u0, F5 u1, F5 u2, F5 u3]))) g5 none g7) := by
  simp [E2_law, rngD, List.range, List.range.loop, lcF, add4]
theorem sum_2 (s : D) (ds : List Int) (j : Int) (g2 g3 g5 g7 : Option Ent) (u0 u1 u2 u3 : Ps) : lcF [6] (gDat 6) tYe E1_law (rngD 0 4) (St s ds j g2 g3 (some (.dat (.tuple [F5 u0, F5 u1, F5 u2, F5 u3]))) g5 none g7) [] =
    some ([.int (add4 u2.1 u3.1).1, .int (add4 u2.1 u3.1).2.1, .int (add4 u2.1 u3.1).2.2.1, .int (add4 u2.1 u3.1).2.2.2], St s ds j g2 g3 (some (.dat (.tuple [F5 u0, F5 u1, F5 u2, F5 u3]))) g5 none g7) := by
  simp [E1_law, rngD, List.range, List.range.loop, lcF, add4]
theorem heads_1 (s : D) (ds : List Int) (j : Int) (g2 g3 g4 g5 g6 : Option Ent) (u0 u1 u2 u3 : Ps) : lcF [7] (gDat 7) tYe E3_law [F5 u0, F5 u1, F5 u2, F5 u3] (St s ds j g2 g3 g4 g5 g6 none) [] =
    some (([u0.2, u1.2, u2.2, u3.2] : List Int).map .int, St s ds j g2 g3 g4 g5 g6 none) := by
  simp [E3_law, lcF]
theorem heads_2 (s : D) (ds : List Int) (j : Int) (g2 g4 g5 g7 : Option Ent) (p : Ps) : lcF [6] (gDat 6) tYe E4_law [.int 0, .int 2, .int 4, .int 6] (St s ds j g2 (some (.dat (F5 p))) g4 g5 none g7) [] =
    some (([(p.2 + 0) % 8, (p.2 + 2) % 8, (p.2 + 4) % 8, (p.2 + 6) % 8] : List Int).map .int, St s ds j g2 (some (.dat (F5 p))) g4 g5 none g7) := by
  simp [E4_law, lcF]
theorem lap_X (s : D) (ds : List Int) (i : Int) (h0 : 0 ≤ i) (g3 g4 g5 : Option Ent) :
    ∃ (j : Int) (f3 f4 f5 : Option Ent), L5_law (St s ds i (some (.dat (.str "X"))) g3 g4 g5 none none) = some (.nx (St s ds j (some (.dat (.str "X"))) f3 f4 f5 none none)) := by
  obtain ⟨a, b, c, d, h, j, ep, j0, ha, hb, hc, hd, h1, h2⟩ := pose_ok ds i h0
  let p : Ps := ((a, b, c, d), h)
  have lp : Lt4 450 p.1 := ⟨ha, hb, hc, hd⟩
  have e1 := ends_ok "X" p crossing kX.1 (by simp [crossing])
  have e2 := lends_X p
  have e3 := kind_same kX lp
  have hx : eqD (.str "X") (.str "X") = some (.bool true) := by simp [eqD]
  let u1 : Ps := comp p ((2, 0, 0, 0), 0)
  let u2 : Ps := comp p ((1, 0, 1, 0), 2)
  let u3 : Ps := comp p ((1, 0, -1, 0), 6)
  have et : F5 (bk p) :: (crossing.map (comp p)).map F5 = [F5 (bk p), F5 u1, F5 u2, F5 u3] := rfl
  rw [et] at e1 e2 e3
  let T : Option Ent := some (.dat (.tuple [F5 (bk p), F5 u1, F5 u2, F5 u3]))
  let Kk : Option Ent := some (.dat (.str "X"))
  let X : Option Ent := some (.dat (F5 p))
  have mid : add4 (bk p).1 u1.1 = add4 u2.1 u3.1 := cross_mid p.2 p.1
  let z : I4 := add4 u2.1 u3.1
  let SS : D := .list [.list [.int z.1, .int z.2.1, .int z.2.2.1, .int z.2.2.2], .list [.int z.1, .int z.2.1, .int z.2.2.1, .int z.2.2.2]]
  have s1 := sum_1 s ds j Kk X g5 none (bk p) u1 u2 u3
  have s2 := sum_2 s ds j Kk X g5 none (bk p) u1 u2 u3
  rw [mid] at s1
  have n1 : neD (.list [.int z.1, .int z.2.1, .int z.2.2.1, .int z.2.2.2]) (.list [.int z.1, .int z.2.1, .int z.2.2.1, .int z.2.2.2]) = some (.bool false) := ne_ints [z.1, z.2.1, z.2.2.1, z.2.2.2]
  have t1 := heads_1 s ds j Kk X T (some (.dat SS)) none (bk p) u1 u2 u3
  have t2 := heads_2 s ds j Kk T (some (.dat SS)) none p
  have sq : sortI [(bk p).2, u1.2, u2.2, u3.2] = sortI [(p.2 + 0) % 8, (p.2 + 2) % 8, (p.2 + 4) % 8, (p.2 + 6) % 8] := sort_heads h1 h2
  have n2 := ne_ints (sortI [(p.2 + 0) % 8, (p.2 + 2) % 8, (p.2 + 4) % 8, (p.2 + 6) % 8])
  have i1 : intsD [.int (bk p).2, .int u1.2, .int u2.2, .int u3.2] = some [(bk p).2, u1.2, u2.2, u3.2] := intsD_map [(bk p).2, u1.2, u2.2, u3.2]
  have i2 : intsD [.int ((p.2 + 0) % 8), .int ((p.2 + 2) % 8), .int ((p.2 + 4) % 8), .int ((p.2 + 6) % 8)] = some [(p.2 + 0) % 8, (p.2 + 2) % 8, (p.2 + 4) % 8, (p.2 + 6) % 8] := intsD_map [(p.2 + 0) % 8, (p.2 + 2) % 8, (p.2 + 4) % 8, (p.2 + 6) % 8]
  have hs : (decide (-2 ^ 62 ≤ (4 : Int)) && decide ((4 : Int) < 2 ^ 62)) = true := by decide
  have ht : (4 : Int).toNat = 4 := rfl
  refine ⟨j, X, T, some (.dat SS), ?_⟩
  unfold L5_law
  refine (seq_nx (γ1 := St s ds j Kk X g4 g5 none none) (by simp only [runF, ini, gt, view, fN, fC, f2, f2n, f2m, f2nn, okN, addD, subD, fdivD, modD, cmpI, isNo, isNd, notNd, ixD, tYe, ofB, cNot, cAnd, cOr, fAnd, fOr, fNot, fNeg, fIf, aNil, aCons, fTup, fL, lDisp, DN.f1, f1n, lenD, intD, absD, tupleD, listD, lOf, lOfn, pNo, pOf, slD, fSl, fSln, pinB, gDat, gsNo, gsCons, gTp, sNil, sSeq, sAsg, sOwn, sSet, sApp, sDrop, sRet, sRetN, sBk, sCt, sIf, wOf, wR1, wR2, small62, sFor, fCall, fCallB, ownB, lLc, simp_ix1, simp_ix2, List.set, List.length_cons, List.length_nil, List.map_cons, List.map_nil, List.cons_append, List.nil_append, List.replicate, Option.bind_some, Option.map_some, if_true, if_false, Bool.false_eq_true, Bool.not_true, Bool.not_false, decide_true, decide_false, reduceIte, Nat.reduceAdd, Nat.reduceLeDiff, Nat.reduceEqDiff, Int.reduceLE, Int.reduceLT, Int.reduceToNat, List.getElem?_cons_zero, List.getElem?_cons_succ, Int.cast_ofNat_Int, Nat.zero_add, Int.zero_le_ofNat, ep, St, Kk, X, p])).trans ?_
  refine (seq_nx (γ1 := St s ds j Kk X T g5 none none) (by simp only [runF, ini, gt, view, fN, fC, f2, f2n, f2m, f2nn, okN, addD, subD, fdivD, modD, cmpI, isNo, isNd, notNd, ixD, tYe, ofB, cNot, cAnd, cOr, fAnd, fOr, fNot, fNeg, fIf, aNil, aCons, fTup, fL, lDisp, DN.f1, f1n, lenD, intD, absD, tupleD, listD, lOf, lOfn, pNo, pOf, slD, fSl, fSln, pinB, gDat, gsNo, gsCons, gTp, sNil, sSeq, sAsg, sOwn, sSet, sApp, sDrop, sRet, sRetN, sBk, sCt, sIf, wOf, wR1, wR2, small62, sFor, fCall, fCallB, ownB, lLc, simp_ix1, simp_ix2, List.set, List.length_cons, List.length_nil, List.map_cons, List.map_nil, List.cons_append, List.nil_append, List.replicate, Option.bind_some, Option.map_some, if_true, if_false, Bool.false_eq_true, Bool.not_true, Bool.not_false, decide_true, decide_false, reduceIte, Nat.reduceAdd, Nat.reduceLeDiff, Nat.reduceEqDiff, Int.reduceLE, Int.reduceLT, Int.reduceToNat, List.getElem?_cons_zero, List.getElem?_cons_succ, Int.cast_ofNat_Int, Nat.zero_add, Int.zero_le_ofNat, e1, St, Kk, X, T])).trans ?_
  refine (seq_nx (γ1 := St s ds j Kk X T g5 none none) (by simp only [runF, ini, gt, view, fN, fC, f2, f2n, f2m, f2nn, okN, addD, subD, fdivD, modD, cmpI, isNo, isNd, notNd, ixD, tYe, ofB, cNot, cAnd, cOr, fAnd, fOr, fNot, fNeg, fIf, aNil, aCons, fTup, fL, lDisp, DN.f1, f1n, lenD, intD, absD, tupleD, listD, lOf, lOfn, pNo, pOf, slD, fSl, fSln, pinB, gDat, gsNo, gsCons, gTp, sNil, sSeq, sAsg, sOwn, sSet, sApp, sDrop, sRet, sRetN, sBk, sCt, sIf, wOf, wR1, wR2, small62, sFor, fCall, fCallB, ownB, lLc, simp_ix1, simp_ix2, List.set, List.length_cons, List.length_nil, List.map_cons, List.map_nil, List.cons_append, List.nil_append, List.replicate, Option.bind_some, Option.map_some, if_true, if_false, Bool.false_eq_true, Bool.not_true, Bool.not_false, decide_true, decide_false, reduceIte, Nat.reduceAdd, Nat.reduceLeDiff, Nat.reduceEqDiff, Int.reduceLE, Int.reduceLT, Int.reduceToNat, List.getElem?_cons_zero, List.getElem?_cons_succ, Int.cast_ofNat_Int, Nat.zero_add, Int.zero_le_ofNat, e2, e3, St, Kk, X, T])).trans ?_
  refine if_t (γ1 := St s ds j Kk X T g5 none none) (by simp only [↓hx, runF, ini, gt, view, fN, fC, f2, f2n, f2m, f2nn, okN, addD, subD, fdivD, modD, cmpI, isNo, isNd, notNd, ixD, tYe, ofB, cNot, cAnd, cOr, fAnd, fOr, fNot, fNeg, fIf, aNil, aCons, fTup, fL, lDisp, DN.f1, f1n, lenD, intD, absD, tupleD, listD, lOf, lOfn, pNo, pOf, slD, fSl, fSln, pinB, gDat, gsNo, gsCons, gTp, sNil, sSeq, sAsg, sOwn, sSet, sApp, sDrop, sRet, sRetN, sBk, sCt, sIf, wOf, wR1, wR2, small62, sFor, fCall, fCallB, ownB, lLc, simp_ix1, simp_ix2, List.set, List.length_cons, List.length_nil, List.map_cons, List.map_nil, List.cons_append, List.nil_append, List.replicate, Option.bind_some, Option.map_some, if_true, if_false, Bool.false_eq_true, Bool.not_true, Bool.not_false, decide_true, decide_false, reduceIte, Nat.reduceAdd, Nat.reduceLeDiff, Nat.reduceEqDiff, Int.reduceLE, Int.reduceLT, Int.reduceToNat, List.getElem?_cons_zero, List.getElem?_cons_succ, Int.cast_ofNat_Int, Nat.zero_add, Int.zero_le_ofNat, St, Kk]) ?_
  refine (seq_nx (γ1 := St s ds j Kk X T (some (.dat SS)) none none) ?_).trans ?_
  · simp only [St, T, Kk, X] at s1 s2 ⊢
    simp only [runF, ini, gt, view, fN, fC, f2, f2n, f2m, f2nn, okN, addD, subD, fdivD, modD, cmpI, isNo, isNd, notNd, ixD, tYe, ofB, cNot, cAnd, cOr, fAnd, fOr, fNot, fNeg, fIf, aNil, aCons, fTup, fL, lDisp, DN.f1, f1n, lenD, intD, absD, tupleD, listD, lOf, lOfn, pNo, pOf, slD, fSl, fSln, pinB, gDat, gsNo, gsCons, gTp, sNil, sSeq, sAsg, sOwn, sSet, sApp, sDrop, sRet, sRetN, sBk, sCt, sIf, wOf, wR1, wR2, small62, sFor, fCall, fCallB, ownB, lLc, simp_ix1, simp_ix2, List.set, List.length_cons, List.length_nil, List.map_cons, List.map_nil, List.cons_append, List.nil_append, List.replicate, Option.bind_some, Option.map_some, if_true, if_false, Bool.false_eq_true, Bool.not_true, Bool.not_false, decide_true, decide_false, reduceIte, Nat.reduceAdd, Nat.reduceLeDiff, Nat.reduceEqDiff, Int.reduceLE, Int.reduceLT, Int.reduceToNat, List.getElem?_cons_zero, List.getElem?_cons_succ, Int.cast_ofNat_Int, Nat.zero_add, Int.zero_le_ofNat, noOwns, wipeE, putBack, Bool.and_self, hs, ht, s1, s2, SS, z]
  · simp only [St, T, Kk, X, SS] at t1 t2 ⊢
    simp only [runF, ini, gt, view, fN, fC, f2, f2n, f2m, f2nn, okN, addD, subD, fdivD, modD, cmpI, isNo, isNd, notNd, ixD, tYe, ofB, cNot, cAnd, cOr, fAnd, fOr, fNot, fNeg, fIf, aNil, aCons, fTup, fL, lDisp, DN.f1, f1n, lenD, intD, absD, tupleD, listD, lOf, lOfn, pNo, pOf, slD, fSl, fSln, pinB, gDat, gsNo, gsCons, gTp, sNil, sSeq, sAsg, sOwn, sSet, sApp, sDrop, sRet, sRetN, sBk, sCt, sIf, wOf, wR1, wR2, small62, sFor, fCall, fCallB, ownB, lLc, simp_ix1, simp_ix2, List.set, List.length_cons, List.length_nil, List.map_cons, List.map_nil, List.cons_append, List.nil_append, List.replicate, Option.bind_some, Option.map_some, if_true, if_false, Bool.false_eq_true, Bool.not_true, Bool.not_false, decide_true, decide_false, reduceIte, Nat.reduceAdd, Nat.reduceLeDiff, Nat.reduceEqDiff, Int.reduceLE, Int.reduceLT, Int.reduceToNat, List.getElem?_cons_zero, List.getElem?_cons_succ, Int.cast_ofNat_Int, Nat.zero_add, Int.zero_le_ofNat, noOwns, wipeE, putBack, Bool.and_self, n1, lSort, t1, t2, i1, i2, sq, n2]
theorem law_true (ns : List Int) (_ : ns.length ≤ 63) : ∃ out, F_law [scriptD ns] = some (.bool true, out) := by
  obtain ⟨ds, ed⟩ := digits_ok ns
  obtain ⟨j1, a1, b1, c1, e1, h1⟩ := lap_row (scriptD ns) ds 0 (by omega) "S" _ kS rfl none none none none none
  obtain ⟨j2, a2, b2, c2, e2, h2⟩ := lap_row (scriptD ns) ds j1 h1 "H" _ kH rfl a1 b1 c1 none none
  obtain ⟨j3, a3, b3, c3, e3, h3⟩ := lap_row (scriptD ns) ds j2 h2 "C" _ kC rfl a2 b2 c2 none none
  obtain ⟨j4, a4, b4, c4, e4, h4⟩ := lap_row (scriptD ns) ds j3 h3 "P" _ kP rfl a3 b3 c3 none none
  obtain ⟨j5, a5, b5, c5, e5, h5⟩ := lap_row (scriptD ns) ds j4 h4 "Q" _ kQ rfl a4 b4 c4 none none
  obtain ⟨j6, a6, b6, c6, e6⟩ := lap_X (scriptD ns) ds j5 h5 a5 b5 c5
  have laps : forF (gDat 2) L5_law [.str "S", .str "H", .str "C", .str "P", .str "Q", .str "X"] (St (scriptD ns) ds 0 none none none none none none) = some (.nx (St (scriptD ns) ds j6 (some (.dat (.str "X"))) a6 b6 c6 none none)) :=
    (forF_nx rfl e1).trans <| (forF_nx rfl e2).trans <| (forF_nx rfl e3).trans <| (forF_nx rfl e4).trans <| (forF_nx rfl e5).trans <| (forF_nx rfl e6).trans rfl
  have main : ∃ γ, B_law [some (.dat (scriptD ns)), none, none, none, none, none, none, none] = some (.rt (.bool true) γ) := by
    refine ⟨St (scriptD ns) ds j6 (some (.dat (.str "X"))) a6 b6 c6 none none, ?_⟩
    unfold B_law
    refine (seq_nx (γ1 := St (scriptD ns) ds 0 none none none none none none) (by simp only [runF, ini, gt, view, fN, fC, f2, f2n, f2m, f2nn, okN, addD, subD, fdivD, modD, cmpI, isNo, isNd, notNd, ixD, tYe, ofB, cNot, cAnd, cOr, fAnd, fOr, fNot, fNeg, fIf, aNil, aCons, fTup, fL, lDisp, DN.f1, f1n, lenD, intD, absD, tupleD, listD, lOf, lOfn, pNo, pOf, slD, fSl, fSln, pinB, gDat, gsNo, gsCons, gTp, sNil, sSeq, sAsg, sOwn, sSet, sApp, sDrop, sRet, sRetN, sBk, sCt, sIf, wOf, wR1, wR2, small62, sFor, fCall, fCallB, ownB, lLc, simp_ix1, simp_ix2, List.set, List.length_cons, List.length_nil, List.map_cons, List.map_nil, List.cons_append, List.nil_append, List.replicate, Option.bind_some, Option.map_some, if_true, if_false, Bool.false_eq_true, Bool.not_true, Bool.not_false, decide_true, decide_false, reduceIte, Nat.reduceAdd, Nat.reduceLeDiff, Nat.reduceEqDiff, Int.reduceLE, Int.reduceLT, Int.reduceToNat, List.getElem?_cons_zero, List.getElem?_cons_succ, Int.cast_ofNat_Int, Nat.zero_add, Int.zero_le_ofNat, ed, St, bx])).trans ?_
    refine (seq_nx (γ1 := St (scriptD ns) ds j6 (some (.dat (.str "X"))) a6 b6 c6 none none) (by
      simp only [St] at laps ⊢
      simp only [runF, ini, gt, view, fN, fC, f2, f2n, f2m, f2nn, okN, addD, subD, fdivD, modD, cmpI, isNo, isNd, notNd, ixD, tYe, ofB, cNot, cAnd, cOr, fAnd, fOr, fNot, fNeg, fIf, aNil, aCons, fTup, fL, lDisp, DN.f1, f1n, lenD, intD, absD, tupleD, listD, lOf, lOfn, pNo, pOf, slD, fSl, fSln, pinB, gDat, gsNo, gsCons, gTp, sNil, sSeq, sAsg, sOwn, sSet, sApp, sDrop, sRet, sRetN, sBk, sCt, sIf, wOf, wR1, wR2, small62, sFor, fCall, fCallB, ownB, lLc, simp_ix1, simp_ix2, List.set, List.length_cons, List.length_nil, List.map_cons, List.map_nil, List.cons_append, List.nil_append, List.replicate, Option.bind_some, Option.map_some, if_true, if_false, Bool.false_eq_true, Bool.not_true, Bool.not_false, decide_true, decide_false, reduceIte, Nat.reduceAdd, Nat.reduceLeDiff, Nat.reduceEqDiff, Int.reduceLE, Int.reduceLT, Int.reduceToNat, List.getElem?_cons_zero, List.getElem?_cons_succ, Int.cast_ofNat_Int, Nat.zero_add, Int.zero_le_ofNat, laps])).trans ?_
    simp only [runF, ini, gt, view, fN, fC, f2, f2n, f2m, f2nn, okN, addD, subD, fdivD, modD, cmpI, isNo, isNd, notNd, ixD, tYe, ofB, cNot, cAnd, cOr, fAnd, fOr, fNot, fNeg, fIf, aNil, aCons, fTup, fL, lDisp, DN.f1, f1n, lenD, intD, absD, tupleD, listD, lOf, lOfn, pNo, pOf, slD, fSl, fSln, pinB, gDat, gsNo, gsCons, gTp, sNil, sSeq, sAsg, sOwn, sSet, sApp, sDrop, sRet, sRetN, sBk, sCt, sIf, wOf, wR1, wR2, small62, sFor, fCall, fCallB, ownB, lLc, simp_ix1, simp_ix2, List.set, List.length_cons, List.length_nil, List.map_cons, List.map_nil, List.cons_append, List.nil_append, List.replicate, Option.bind_some, Option.map_some, if_true, if_false, Bool.false_eq_true, Bool.not_true, Bool.not_false, decide_true, decide_false, reduceIte, Nat.reduceAdd, Nat.reduceLeDiff, Nat.reduceEqDiff, Int.reduceLE, Int.reduceLT, Int.reduceToNat, List.getElem?_cons_zero, List.getElem?_cons_succ, Int.cast_ofNat_Int, Nat.zero_add, Int.zero_le_ofNat, St]
  obtain ⟨γ, e⟩ := main
  refine ⟨[], ?_⟩
  simp only [F_law, runF, ini, gt, view, fN, fC, f2, f2n, f2m, f2nn, okN, addD, subD, fdivD, modD, cmpI, isNo, isNd, notNd, ixD, tYe, ofB, cNot, cAnd, cOr, fAnd, fOr, fNot, fNeg, fIf, aNil, aCons, fTup, fL, lDisp, DN.f1, f1n, lenD, intD, absD, tupleD, listD, lOf, lOfn, pNo, pOf, slD, fSl, fSln, pinB, gDat, gsNo, gsCons, gTp, sNil, sSeq, sAsg, sOwn, sSet, sApp, sDrop, sRet, sRetN, sBk, sCt, sIf, wOf, wR1, wR2, small62, sFor, fCall, fCallB, ownB, lLc, simp_ix1, simp_ix2, List.set, List.length_cons, List.length_nil, List.map_cons, List.map_nil, List.cons_append, List.nil_append, List.replicate, Option.bind_some, Option.map_some, if_true, if_false, Bool.false_eq_true, Bool.not_true, Bool.not_false, decide_true, decide_false, reduceIte, Nat.reduceAdd, Nat.reduceLeDiff, Nat.reduceEqDiff, Int.reduceLE, Int.reduceLT, Int.reduceToNat, List.getElem?_cons_zero, List.getElem?_cons_succ, Int.cast_ofNat_Int, Nat.zero_add, Int.zero_le_ofNat, e]
/-! ### what the top has written -/
theorem all_mk {l : PySem.W.OpenLaw} {w : World} {K : PySem.W.Frag} {h : Heap} {mg : Str → Option Value} {fa : Addr} (KX : K.In h) (G : h.Ns mainGlobals mg) (hfa : mg "law" = some (.ref fa))
    {od__law_cell an__law_cell : Option Addr} {sl__law_cell : Array (Option Value)} {oc__law_cell kV__law_cell dc__law_cell pm__law_cell cd__law_cell ct__law_cell : Value} {f__law_cell : Addr} {od__law_digits an__law_digits : Option Addr} {sl__law_digits : Array (Option Value)} {oc__law_digits kV__law_digits dc__law_digits pm__law_digits cd__law_digits ct__law_digits : Value} {f__law_digits : Addr} {od__law_draw an__law_draw : Option Addr} {sl__law_draw : Array (Option Value)} {oc__law_draw kV__law_draw dc__law_draw pm__law_draw cd__law_draw ct__law_draw : Value} {f__law_draw : Addr} {od__law_pose an__law_pose : Option Addr} {sl__law_pose : Array (Option Value)} {oc__law_pose kV__law_pose dc__law_pose pm__law_pose cd__law_pose ct__law_pose : Value} {f__law_pose : Addr} {od_back an_back : Option Addr} {sl_back : Array (Option Value)} {oc_back kV_back dc_back pm_back cd_back ct_back : Value} {f_back : Addr} {od_moved an_moved : Option Addr} {sl_moved : Array (Option Value)} {oc_moved kV_moved dc_moved pm_moved cd_moved ct_moved : Value} {f_moved : Addr} {od_turned an_turned : Option Addr} {sl_turned : Array (Option Value)} {oc_turned kV_turned dc_turned pm_turned cd_turned ct_turned : Value} {f_turned : Addr} {od_laid an_laid : Option Addr} {sl_laid : Array (Option Value)} {oc_laid kV_laid dc_laid pm_laid cd_laid ct_laid : Value} {f_laid : Addr} {od_ends_of an_ends_of : Option Addr} {sl_ends_of : Array (Option Value)} {oc_ends_of kV_ends_of dc_ends_of pm_ends_of cd_ends_of ct_ends_of : Value} {f_ends_of : Addr} {od__law_same an__law_same : Option Addr} {sl__law_same : Array (Option Value)} {oc__law_same kV__law_same dc__law_same pm__law_same cd__law_same ct__law_same : Value} {f__law_same : Addr} {od__law_back an__law_back : Option Addr} {sl__law_back : Array (Option Value)} {oc__law_back kV__law_back dc__law_back pm__law_back cd__law_back ct__law_back : Value} {f__law_back : Addr} {od__law_move an__law_move : Option Addr} {sl__law_move : Array (Option Value)} {oc__law_move kV__law_move dc__law_move pm__law_move cd__law_move ct__law_move : Value} {f__law_move : Addr} {od__law_turned an__law_turned : Option Addr} {sl__law_turned : Array (Option Value)} {oc__law_turned kV__law_turned dc__law_turned pm__law_turned cd__law_turned ct__law_turned : Value} {f__law_turned : Addr} {od__law_laid an__law_laid : Option Addr} {sl__law_laid : Array (Option Value)} {oc__law_laid kV__law_laid dc__law_laid pm__law_laid cd__law_laid ct__law_laid : Value} {f__law_laid : Addr} {od__law_led an__law_led : Option Addr} {sl__law_led : Array (Option Value)} {oc__law_led kV__law_led dc__law_led pm__law_led cd__law_led ct__law_led : Value} {f__law_led : Addr} {od__law_ends an__law_ends : Option Addr} {sl__law_ends : Array (Option Value)} {oc__law_ends kV__law_ends dc__law_ends pm__law_ends cd__law_ends ct__law_ends : Value} {f__law_ends : Addr} {od_law an_law : Option Addr} {sl_law : Array (Option Value)} {oc_law kV_law dc_law pm_law cd_law ct_law : Value} {f_law : Addr} {u_ENDS_AHEAD : Value}
    (a__law_cell : PySem.W.nsIn K mainGlobals "_law_cell" = some (some (.ref f__law_cell))) (l__law_cell : K.lookup f__law_cell = some ⟨oc__law_cell, od__law_cell, .func (PySem.W.fnOf "_law_cell" "_law_cell" (defArgs s__law_cell) (defBody s__law_cell) (defScope s__law_cell) .none kV__law_cell dc__law_cell pm__law_cell an__law_cell cd__law_cell ct__law_cell), sl__law_cell⟩) (c__law_cell : PySem.W.codeIn K cd__law_cell "_law_cell" = true) (k__law_cell : PySem.W.keepIn K (.ref f__law_cell) = true)
    (a__law_digits : PySem.W.nsIn K mainGlobals "_law_digits" = some (some (.ref f__law_digits))) (l__law_digits : K.lookup f__law_digits = some ⟨oc__law_digits, od__law_digits, .func (PySem.W.fnOf "_law_digits" "_law_digits" (defArgs s__law_digits) (defBody s__law_digits) (defScope s__law_digits) .none kV__law_digits dc__law_digits pm__law_digits an__law_digits cd__law_digits ct__law_digits), sl__law_digits⟩) (c__law_digits : PySem.W.codeIn K cd__law_digits "_law_digits" = true) (k__law_digits : PySem.W.keepIn K (.ref f__law_digits) = true)
    (a__law_draw : PySem.W.nsIn K mainGlobals "_law_draw" = some (some (.ref f__law_draw))) (l__law_draw : K.lookup f__law_draw = some ⟨oc__law_draw, od__law_draw, .func (PySem.W.fnOf "_law_draw" "_law_draw" (defArgs s__law_draw) (defBody s__law_draw) (defScope s__law_draw) .none kV__law_draw dc__law_draw pm__law_draw an__law_draw cd__law_draw ct__law_draw), sl__law_draw⟩) (c__law_draw : PySem.W.codeIn K cd__law_draw "_law_draw" = true) (k__law_draw : PySem.W.keepIn K (.ref f__law_draw) = true)
    (a__law_pose : PySem.W.nsIn K mainGlobals "_law_pose" = some (some (.ref f__law_pose))) (l__law_pose : K.lookup f__law_pose = some ⟨oc__law_pose, od__law_pose, .func (PySem.W.fnOf "_law_pose" "_law_pose" (defArgs s__law_pose) (defBody s__law_pose) (defScope s__law_pose) .none kV__law_pose dc__law_pose pm__law_pose an__law_pose cd__law_pose ct__law_pose), sl__law_pose⟩) (c__law_pose : PySem.W.codeIn K cd__law_pose "_law_pose" = true) (k__law_pose : PySem.W.keepIn K (.ref f__law_pose) = true)
    (a_back : PySem.W.nsIn K mainGlobals "back" = some (some (.ref f_back))) (l_back : K.lookup f_back = some ⟨oc_back, od_back, .func (PySem.W.fnOf "back" "back" (defArgs s_back) (defBody s_back) (defScope s_back) .none kV_back dc_back pm_back an_back cd_back ct_back), sl_back⟩) (c_back : PySem.W.codeIn K cd_back "back" = true) (k_back : PySem.W.keepIn K (.ref f_back) = true)
    (a_moved : PySem.W.nsIn K mainGlobals "moved" = some (some (.ref f_moved))) (l_moved : K.lookup f_moved = some ⟨oc_moved, od_moved, .func (PySem.W.fnOf "moved" "moved" (defArgs s_moved) (defBody s_moved) (defScope s_moved) .none kV_moved dc_moved pm_moved an_moved cd_moved ct_moved), sl_moved⟩) (c_moved : PySem.W.codeIn K cd_moved "moved" = true) (k_moved : PySem.W.keepIn K (.ref f_moved) = true)
    (a_turned : PySem.W.nsIn K mainGlobals "turned" = some (some (.ref f_turned))) (l_turned : K.lookup f_turned = some ⟨oc_turned, od_turned, .func (PySem.W.fnOf "turned" "turned" (defArgs s_turned) (defBody s_turned) (defScope s_turned) .none kV_turned dc_turned pm_turned an_turned cd_turned ct_turned), sl_turned⟩) (c_turned : PySem.W.codeIn K cd_turned "turned" = true) (k_turned : PySem.W.keepIn K (.ref f_turned) = true)
    (a_laid : PySem.W.nsIn K mainGlobals "laid" = some (some (.ref f_laid))) (l_laid : K.lookup f_laid = some ⟨oc_laid, od_laid, .func (PySem.W.fnOf "laid" "laid" (defArgs s_laid) (defBody s_laid) (defScope s_laid) .none kV_laid dc_laid pm_laid an_laid cd_laid ct_laid), sl_laid⟩) (c_laid : PySem.W.codeIn K cd_laid "laid" = true) (k_laid : PySem.W.keepIn K (.ref f_laid) = true)
    (a_ends_of : PySem.W.nsIn K mainGlobals "ends_of" = some (some (.ref f_ends_of))) (l_ends_of : K.lookup f_ends_of = some ⟨oc_ends_of, od_ends_of, .func (PySem.W.fnOf "ends_of" "ends_of" (defArgs s_ends_of) (defBody s_ends_of) (defScope s_ends_of) .none kV_ends_of dc_ends_of pm_ends_of an_ends_of cd_ends_of ct_ends_of), sl_ends_of⟩) (c_ends_of : PySem.W.codeIn K cd_ends_of "ends_of" = true) (k_ends_of : PySem.W.keepIn K (.ref f_ends_of) = true)
    (a__law_same : PySem.W.nsIn K mainGlobals "_law_same" = some (some (.ref f__law_same))) (l__law_same : K.lookup f__law_same = some ⟨oc__law_same, od__law_same, .func (PySem.W.fnOf "_law_same" "_law_same" (defArgs s__law_same) (defBody s__law_same) (defScope s__law_same) .none kV__law_same dc__law_same pm__law_same an__law_same cd__law_same ct__law_same), sl__law_same⟩) (c__law_same : PySem.W.codeIn K cd__law_same "_law_same" = true) (k__law_same : PySem.W.keepIn K (.ref f__law_same) = true)
    (a__law_back : PySem.W.nsIn K mainGlobals "_law_back" = some (some (.ref f__law_back))) (l__law_back : K.lookup f__law_back = some ⟨oc__law_back, od__law_back, .func (PySem.W.fnOf "_law_back" "_law_back" (defArgs s__law_back) (defBody s__law_back) (defScope s__law_back) .none kV__law_back dc__law_back pm__law_back an__law_back cd__law_back ct__law_back), sl__law_back⟩) (c__law_back : PySem.W.codeIn K cd__law_back "_law_back" = true) (k__law_back : PySem.W.keepIn K (.ref f__law_back) = true)
    (a__law_move : PySem.W.nsIn K mainGlobals "_law_move" = some (some (.ref f__law_move))) (l__law_move : K.lookup f__law_move = some ⟨oc__law_move, od__law_move, .func (PySem.W.fnOf "_law_move" "_law_move" (defArgs s__law_move) (defBody s__law_move) (defScope s__law_move) .none kV__law_move dc__law_move pm__law_move an__law_move cd__law_move ct__law_move), sl__law_move⟩) (c__law_move : PySem.W.codeIn K cd__law_move "_law_move" = true) (k__law_move : PySem.W.keepIn K (.ref f__law_move) = true)
    (a__law_turned : PySem.W.nsIn K mainGlobals "_law_turned" = some (some (.ref f__law_turned))) (l__law_turned : K.lookup f__law_turned = some ⟨oc__law_turned, od__law_turned, .func (PySem.W.fnOf "_law_turned" "_law_turned" (defArgs s__law_turned) (defBody s__law_turned) (defScope s__law_turned) .none kV__law_turned dc__law_turned pm__law_turned an__law_turned cd__law_turned ct__law_turned), sl__law_turned⟩) (c__law_turned : PySem.W.codeIn K cd__law_turned "_law_turned" = true) (k__law_turned : PySem.W.keepIn K (.ref f__law_turned) = true)
    (a__law_laid : PySem.W.nsIn K mainGlobals "_law_laid" = some (some (.ref f__law_laid))) (l__law_laid : K.lookup f__law_laid = some ⟨oc__law_laid, od__law_laid, .func (PySem.W.fnOf "_law_laid" "_law_laid" (defArgs s__law_laid) (defBody s__law_laid) (defScope s__law_laid) .none kV__law_laid dc__law_laid pm__law_laid an__law_laid cd__law_laid ct__law_laid), sl__law_laid⟩) (c__law_laid : PySem.W.codeIn K cd__law_laid "_law_laid" = true) (k__law_laid : PySem.W.keepIn K (.ref f__law_laid) = true)
    (a__law_led : PySem.W.nsIn K mainGlobals "_law_led" = some (some (.ref f__law_led))) (l__law_led : K.lookup f__law_led = some ⟨oc__law_led, od__law_led, .func (PySem.W.fnOf "_law_led" "_law_led" (defArgs s__law_led) (defBody s__law_led) (defScope s__law_led) .none kV__law_led dc__law_led pm__law_led an__law_led cd__law_led ct__law_led), sl__law_led⟩) (c__law_led : PySem.W.codeIn K cd__law_led "_law_led" = true) (k__law_led : PySem.W.keepIn K (.ref f__law_led) = true)
    (a__law_ends : PySem.W.nsIn K mainGlobals "_law_ends" = some (some (.ref f__law_ends))) (l__law_ends : K.lookup f__law_ends = some ⟨oc__law_ends, od__law_ends, .func (PySem.W.fnOf "_law_ends" "_law_ends" (defArgs s__law_ends) (defBody s__law_ends) (defScope s__law_ends) .none kV__law_ends dc__law_ends pm__law_ends an__law_ends cd__law_ends ct__law_ends), sl__law_ends⟩) (c__law_ends : PySem.W.codeIn K cd__law_ends "_law_ends" = true) (k__law_ends : PySem.W.keepIn K (.ref f__law_ends) = true)
    (a_law : PySem.W.nsIn K mainGlobals "law" = some (some (.ref f_law))) (l_law : K.lookup f_law = some ⟨oc_law, od_law, .func (PySem.W.fnOf "law" "law" (defArgs s_law) (defBody s_law) (defScope s_law) .none kV_law dc_law pm_law an_law cd_law ct_law), sl_law⟩) (c_law : PySem.W.codeIn K cd_law "law" = true) (k_law : PySem.W.keepIn K (.ref f_law) = true)
    (z_int : PySem.W.nsIn K mainGlobals "int" = some none) (z_len : PySem.W.nsIn K mainGlobals "len" = some none) (z_list : PySem.W.nsIn K mainGlobals "list" = some none) (z_range : PySem.W.nsIn K mainGlobals "range" = some none) (z_repr : PySem.W.nsIn K mainGlobals "repr" = some none) (z_sorted : PySem.W.nsIn K mainGlobals "sorted" = some none) (z_tuple : PySem.W.nsIn K mainGlobals "tuple" = some none) (z_zip : PySem.W.nsIn K mainGlobals "zip" = some none)
    (a_ENDS_AHEAD : PySem.W.nsIn K mainGlobals "ENDS_AHEAD" = some (some u_ENDS_AHEAD)) (V_ENDS_AHEAD : Tab K w u_ENDS_AHEAD c_ENDS_AHEAD) :
    ∃ fd : FuncData, (∀ (s : Shared) (v : Value), BindsTo s fd ⟨[v], []⟩ [("script", v)]) ∧ ∀ base : Heap, K.In base → base.Ns mainGlobals mg → FnG l.prog w K mg base 5 fa fd ["script"] false F_law := by
  have e := hfa.symm.trans (PySem.W.mg_of KX G a_law)
  cases e
  have y_int := PySem.W.mg_none_of KX G z_int
  have y_len := PySem.W.mg_none_of KX G z_len
  have y_list := PySem.W.mg_none_of KX G z_list
  have y_range := PySem.W.mg_none_of KX G z_range
  have y_repr := PySem.W.mg_none_of KX G z_repr
  have y_sorted := PySem.W.mg_none_of KX G z_sorted
  have y_tuple := PySem.W.mg_none_of KX G z_tuple
  have y_zip := PySem.W.mg_none_of KX G z_zip
  refine ⟨PySem.W.fnOf "law" "law" (defArgs s_law) (defBody s_law) (defScope s_law) .none kV_law dc_law pm_law an_law cd_law ct_law, fun s v => .of_eq rfl, fun base _ _ => ?_⟩
  have Fu__law_cell := fun_mk (st := s__law_cell) l__law_cell c__law_cell k__law_cell
  have C__law_cell : Cal l.prog w K mg base "_law_cell" 1 ["script", "k"] false F__law_cell := ⟨_, _, fn__law_cell Fu__law_cell y_len  , PySem.W.mg_of KX G a__law_cell, k__law_cell, Fu__law_cell.binds (ps := ["script", "k"]) fun _ _ _ _ _ _ us hl => match us, hl with | [_, _], _ => rfl⟩
  have Fu__law_digits := fun_mk (st := s__law_digits) l__law_digits c__law_digits k__law_digits
  have C__law_digits : Cal l.prog w K mg base "_law_digits" 2 ["script", "first", "last"] false F__law_digits := ⟨_, _, fn__law_digits Fu__law_digits y_int y_range  C__law_cell, PySem.W.mg_of KX G a__law_digits, k__law_digits, Fu__law_digits.binds (ps := ["script", "first", "last"]) fun _ _ _ _ _ _ us hl => match us, hl with | [_, _, _], _ => rfl⟩
  have Fu__law_draw := fun_mk (st := s__law_draw) l__law_draw c__law_draw k__law_draw
  have C__law_draw : Cal l.prog w K mg base "_law_draw" 1 ["box", "many"] true F__law_draw := ⟨_, _, fn__law_draw Fu__law_draw y_int y_len  , PySem.W.mg_of KX G a__law_draw, k__law_draw, Fu__law_draw.binds (ps := ["box", "many"]) fun _ _ _ _ _ _ us hl => match us, hl with | [_, _], _ => rfl⟩
  have Fu__law_pose := fun_mk (st := s__law_pose) l__law_pose c__law_pose k__law_pose
  have C__law_pose : Cal l.prog w K mg base "_law_pose" 2 ["box"] true F__law_pose := ⟨_, _, fn__law_pose Fu__law_pose y_range y_tuple  C__law_draw, PySem.W.mg_of KX G a__law_pose, k__law_pose, Fu__law_pose.binds (ps := ["box"]) fun _ _ _ _ _ _ us hl => match us, hl with | [_], _ => rfl⟩
  have Fu_back := fun_mk (st := s_back) l_back c_back k_back
  have C_back : Cal l.prog w K mg base "back" 1 ["pose"] false F_back := ⟨_, _, fn_back Fu_back   , PySem.W.mg_of KX G a_back, k_back, Fu_back.binds (ps := ["pose"]) fun _ _ _ _ _ _ us hl => match us, hl with | [_], _ => rfl⟩
  have Fu_moved := fun_mk (st := s_moved) l_moved c_moved k_moved
  have C_moved : Cal l.prog w K mg base "moved" 1 ["position", "other"] false F_moved := ⟨_, _, fn_moved Fu_moved y_tuple y_zip  , PySem.W.mg_of KX G a_moved, k_moved, Fu_moved.binds (ps := ["position", "other"]) fun _ _ _ _ _ _ us hl => match us, hl with | [_, _], _ => rfl⟩
  have Fu_turned := fun_mk (st := s_turned) l_turned c_turned k_turned
  have C_turned : Cal l.prog w K mg base "turned" 1 ["position", "eighths"] false F_turned := ⟨_, _, fn_turned Fu_turned y_range y_tuple  , PySem.W.mg_of KX G a_turned, k_turned, Fu_turned.binds (ps := ["position", "eighths"]) fun _ _ _ _ _ _ us hl => match us, hl with | [_, _], _ => rfl⟩
  have Fu_laid := fun_mk (st := s_laid) l_laid c_laid k_laid
  have C_laid : Cal l.prog w K mg base "laid" 2 ["pose", "other"] false F_laid := ⟨_, _, fn_laid Fu_laid   C_moved C_turned, PySem.W.mg_of KX G a_laid, k_laid, Fu_laid.binds (ps := ["pose", "other"]) fun _ _ _ _ _ _ us hl => match us, hl with | [_, _], _ => rfl⟩
  have Fu_ends_of := fun_mk (st := s_ends_of) l_ends_of c_ends_of k_ends_of
  have C_ends_of : Cal l.prog w K mg base "ends_of" 3 ["kind", "pose"] false F_ends_of := ⟨_, _, fn_ends_of Fu_ends_of y_tuple V_ENDS_AHEAD (PySem.W.mg_of KX G a_ENDS_AHEAD) C_back C_laid, PySem.W.mg_of KX G a_ends_of, k_ends_of, Fu_ends_of.binds (ps := ["kind", "pose"]) fun _ _ _ _ _ _ us hl => match us, hl with | [_, _], _ => rfl⟩
  have Fu__law_same := fun_mk (st := s__law_same) l__law_same c__law_same k__law_same
  have C__law_same : Cal l.prog w K mg base "_law_same" 1 ["actual", "due"] false F__law_same := ⟨_, _, fn__law_same Fu__law_same y_repr  , PySem.W.mg_of KX G a__law_same, k__law_same, Fu__law_same.binds (ps := ["actual", "due"]) fun _ _ _ _ _ _ us hl => match us, hl with | [_, _], _ => rfl⟩
  have Fu__law_back := fun_mk (st := s__law_back) l__law_back c__law_back k__law_back
  have C__law_back : Cal l.prog w K mg base "_law_back" 1 ["pose"] false F__law_back := ⟨_, _, fn__law_back Fu__law_back y_int  , PySem.W.mg_of KX G a__law_back, k__law_back, Fu__law_back.binds (ps := ["pose"]) fun _ _ _ _ _ _ us hl => match us, hl with | [_], _ => rfl⟩
  have Fu__law_move := fun_mk (st := s__law_move) l__law_move c__law_move k__law_move
  have C__law_move : Cal l.prog w K mg base "_law_move" 1 ["position", "direction", "many"] false F__law_move := ⟨_, _, fn__law_move Fu__law_move y_int y_list  , PySem.W.mg_of KX G a__law_move, k__law_move, Fu__law_move.binds (ps := ["position", "direction", "many"]) fun _ _ _ _ _ _ us hl => match us, hl with | [_, _, _], _ => rfl⟩
  have Fu__law_turned := fun_mk (st := s__law_turned) l__law_turned c__law_turned k__law_turned
  have C__law_turned : Cal l.prog w K mg base "_law_turned" 2 ["position", "eighths"] false F__law_turned := ⟨_, _, fn__law_turned Fu__law_turned y_range  C__law_move, PySem.W.mg_of KX G a__law_turned, k__law_turned, Fu__law_turned.binds (ps := ["position", "eighths"]) fun _ _ _ _ _ _ us hl => match us, hl with | [_, _], _ => rfl⟩
  have Fu__law_laid := fun_mk (st := s__law_laid) l__law_laid c__law_laid k__law_laid
  have C__law_laid : Cal l.prog w K mg base "_law_laid" 3 ["pose", "other"] false F__law_laid := ⟨_, _, fn__law_laid Fu__law_laid y_int y_range y_tuple  C__law_turned, PySem.W.mg_of KX G a__law_laid, k__law_laid, Fu__law_laid.binds (ps := ["pose", "other"]) fun _ _ _ _ _ _ us hl => match us, hl with | [_, _], _ => rfl⟩
  have Fu__law_led := fun_mk (st := s__law_led) l__law_led c__law_led k__law_led
  have C__law_led : Cal l.prog w K mg base "_law_led" 2 ["pose", "row"] false F__law_led := ⟨_, _, fn__law_led Fu__law_led y_int y_list y_tuple  C__law_move, PySem.W.mg_of KX G a__law_led, k__law_led, Fu__law_led.binds (ps := ["pose", "row"]) fun _ _ _ _ _ _ us hl => match us, hl with | [_, _], _ => rfl⟩
  have Fu__law_ends := fun_mk (st := s__law_ends) l__law_ends c__law_ends k__law_ends
  have C__law_ends : Cal l.prog w K mg base "_law_ends" 4 ["kind", "pose"] false F__law_ends := ⟨_, _, fn__law_ends Fu__law_ends y_tuple  C__law_back C__law_laid C__law_led, PySem.W.mg_of KX G a__law_ends, k__law_ends, Fu__law_ends.binds (ps := ["kind", "pose"]) fun _ _ _ _ _ _ us hl => match us, hl with | [_, _], _ => rfl⟩
  exact fn_law (fun_mk (st := s_law) l_law c_law k_law) y_int y_range y_sorted  C__law_digits C__law_pose C_ends_of C__law_same C__law_ends
end DN
open PySem PySem.W PyProof.Rows
set_option maxRecDepth 100000 in
set_option maxHeartbeats 0 in
theorem PySem.Challenge.cw_railshut_k06_ends_exact_holds : PySem.Challenge.rw_railshut_k06_ends_exact.Holds := by
  w_on; o_law; k_head; (case hw => w_witness2)
  k_fill
  refine DN.walkG (l := PySem.Challenge.rw_railshut_k06_ends_exact) (n := 63) (k := 5) (x := "script") (F := DN.F_law) rfl (by decide) rfl ⟨rfl, by decide, by decide⟩ (fun w h Y => PySem.W.kIn_of Y) ?G DN.law_true
  case G =>
    intro w mg fa h KX Gm hmg
    refine' DN.all_mk KX Gm hmg ?a__law_cell ?l__law_cell ?c__law_cell ?k__law_cell ?a__law_digits ?l__law_digits ?c__law_digits ?k__law_digits ?a__law_draw ?l__law_draw ?c__law_draw ?k__law_draw ?a__law_pose ?l__law_pose ?c__law_pose ?k__law_pose ?a_back ?l_back ?c_back ?k_back ?a_moved ?l_moved ?c_moved ?k_moved ?a_turned ?l_turned ?c_turned ?k_turned ?a_laid ?l_laid ?c_laid ?k_laid ?a_ends_of ?l_ends_of ?c_ends_of ?k_ends_of ?a__law_same ?l__law_same ?c__law_same ?k__law_same ?a__law_back ?l__law_back ?c__law_back ?k__law_back ?a__law_move ?l__law_move ?c__law_move ?k__law_move ?a__law_turned ?l__law_turned ?c__law_turned ?k__law_turned ?a__law_laid ?l__law_laid ?c__law_laid ?k__law_laid ?a__law_led ?l__law_led ?c__law_led ?k__law_led ?a__law_ends ?l__law_ends ?c__law_ends ?k__law_ends ?a_law ?l_law ?c_law ?k_law ?z_int ?z_len ?z_list ?z_range ?z_repr ?z_sorted ?z_tuple ?z_zip ?a_ENDS_AHEAD ?V_ENDS_AHEAD
    (case a__law_cell => k_is); (case l__law_cell => k_is); (case c__law_cell => k_is); (case k__law_cell => k_is)
    (case a__law_digits => k_is); (case l__law_digits => k_is); (case c__law_digits => k_is); (case k__law_digits => k_is)
    (case a__law_draw => k_is); (case l__law_draw => k_is); (case c__law_draw => k_is); (case k__law_draw => k_is)
    (case a__law_pose => k_is); (case l__law_pose => k_is); (case c__law_pose => k_is); (case k__law_pose => k_is)
    (case a_back => k_is); (case l_back => k_is); (case c_back => k_is); (case k_back => k_is)
    (case a_moved => k_is); (case l_moved => k_is); (case c_moved => k_is); (case k_moved => k_is)
    (case a_turned => k_is); (case l_turned => k_is); (case c_turned => k_is); (case k_turned => k_is)
    (case a_laid => k_is); (case l_laid => k_is); (case c_laid => k_is); (case k_laid => k_is)
    (case a_ends_of => k_is); (case l_ends_of => k_is); (case c_ends_of => k_is); (case k_ends_of => k_is)
    (case a__law_same => k_is); (case l__law_same => k_is); (case c__law_same => k_is); (case k__law_same => k_is)
    (case a__law_back => k_is); (case l__law_back => k_is); (case c__law_back => k_is); (case k__law_back => k_is)
    (case a__law_move => k_is); (case l__law_move => k_is); (case c__law_move => k_is); (case k__law_move => k_is)
    (case a__law_turned => k_is); (case l__law_turned => k_is); (case c__law_turned => k_is); (case k__law_turned => k_is)
    (case a__law_laid => k_is); (case l__law_laid => k_is); (case c__law_laid => k_is); (case k__law_laid => k_is)
    (case a__law_led => k_is); (case l__law_led => k_is); (case c__law_led => k_is); (case k__law_led => k_is)
    (case a__law_ends => k_is); (case l__law_ends => k_is); (case c__law_ends => k_is); (case k__law_ends => k_is)
    (case a_law => k_is); (case l_law => k_is); (case c_law => k_is); (case k_law => k_is)
    (case z_int => k_is)
    (case z_len => k_is)
    (case z_list => k_is)
    (case z_range => k_is)
    (case z_repr => k_is)
    (case z_sorted => k_is)
    (case z_tuple => k_is)
    (case z_zip => k_is)
    (case a_ENDS_AHEAD => k_is)
    case V_ENDS_AHEAD =>
      refine' DN.tab_of ?l ?k ?lo ?t
      (case l => k_is)
      (case k => k_keys)
      (case lo => decide)
      case t =>
        refine' DN.tabk_cons ?n0 ?v0 (DN.tabk_cons ?n1 ?v1 (DN.tabk_cons ?n2 ?v2 (DN.tabk_cons ?n3 ?v3 (DN.tabk_cons ?n4 ?v4 (DN.tabk_cons ?n5 ?v5 (DN.tabk_nil))))))
        (case n0 => k_is)
        case v0 =>
          refine' DN.vd_tup ?l ?z ?v
          (case l => k_is)
          (case z => decide)
          case v =>
            refine' (DN.vds_cons ?q0 DN.vds_nil)
            case q0 =>
              refine' DN.vd_tup ?l ?z ?v
              (case l => k_is)
              (case z => decide)
              (case v => exact (DN.vds_cons DN.vd_int (DN.vds_cons DN.vd_int (DN.vds_cons DN.vd_int (DN.vds_cons DN.vd_int (DN.vds_cons DN.vd_int DN.vds_nil))))))
        (case n1 => k_is)
        case v1 =>
          refine' DN.vd_tup ?l ?z ?v
          (case l => k_is)
          (case z => decide)
          case v =>
            refine' (DN.vds_cons ?q0 DN.vds_nil)
            case q0 =>
              refine' DN.vd_tup ?l ?z ?v
              (case l => k_is)
              (case z => decide)
              (case v => exact (DN.vds_cons DN.vd_int (DN.vds_cons DN.vd_int (DN.vds_cons DN.vd_int (DN.vds_cons DN.vd_int (DN.vds_cons DN.vd_int DN.vds_nil))))))
        (case n2 => k_is)
        case v2 =>
          refine' DN.vd_tup ?l ?z ?v
          (case l => k_is)
          (case z => decide)
          case v =>
            refine' (DN.vds_cons ?q0 DN.vds_nil)
            case q0 =>
              refine' DN.vd_tup ?l ?z ?v
              (case l => k_is)
              (case z => decide)
              (case v => exact (DN.vds_cons DN.vd_int (DN.vds_cons DN.vd_int (DN.vds_cons DN.vd_int (DN.vds_cons DN.vd_int (DN.vds_cons DN.vd_int DN.vds_nil))))))
        (case n3 => k_is)
        case v3 =>
          refine' DN.vd_tup ?l ?z ?v
          (case l => k_is)
          (case z => decide)
          case v =>
            refine' (DN.vds_cons ?q0 (DN.vds_cons ?q1 DN.vds_nil))
            case q0 =>
              refine' DN.vd_tup ?l ?z ?v
              (case l => k_is)
              (case z => decide)
              (case v => exact (DN.vds_cons DN.vd_int (DN.vds_cons DN.vd_int (DN.vds_cons DN.vd_int (DN.vds_cons DN.vd_int (DN.vds_cons DN.vd_int DN.vds_nil))))))
            case q1 =>
              refine' DN.vd_tup ?l ?z ?v
              (case l => k_is)
              (case z => decide)
              (case v => exact (DN.vds_cons DN.vd_int (DN.vds_cons DN.vd_int (DN.vds_cons DN.vd_int (DN.vds_cons DN.vd_int (DN.vds_cons DN.vd_int DN.vds_nil))))))
        (case n4 => k_is)
        case v4 =>
          refine' DN.vd_tup ?l ?z ?v
          (case l => k_is)
          (case z => decide)
          case v =>
            refine' (DN.vds_cons ?q0 (DN.vds_cons ?q1 DN.vds_nil))
            case q0 =>
              refine' DN.vd_tup ?l ?z ?v
              (case l => k_is)
              (case z => decide)
              (case v => exact (DN.vds_cons DN.vd_int (DN.vds_cons DN.vd_int (DN.vds_cons DN.vd_int (DN.vds_cons DN.vd_int (DN.vds_cons DN.vd_int DN.vds_nil))))))
            case q1 =>
              refine' DN.vd_tup ?l ?z ?v
              (case l => k_is)
              (case z => decide)
              (case v => exact (DN.vds_cons DN.vd_int (DN.vds_cons DN.vd_int (DN.vds_cons DN.vd_int (DN.vds_cons DN.vd_int (DN.vds_cons DN.vd_int DN.vds_nil))))))
        (case n5 => k_is)
        case v5 =>
          refine' DN.vd_tup ?l ?z ?v
          (case l => k_is)
          (case z => decide)
          case v =>
            refine' (DN.vds_cons ?q0 (DN.vds_cons ?q1 (DN.vds_cons ?q2 DN.vds_nil)))
            case q0 =>
              refine' DN.vd_tup ?l ?z ?v
              (case l => k_is)
              (case z => decide)
              (case v => exact (DN.vds_cons DN.vd_int (DN.vds_cons DN.vd_int (DN.vds_cons DN.vd_int (DN.vds_cons DN.vd_int (DN.vds_cons DN.vd_int DN.vds_nil))))))
            case q1 =>
              refine' DN.vd_tup ?l ?z ?v
              (case l => k_is)
              (case z => decide)
              (case v => exact (DN.vds_cons DN.vd_int (DN.vds_cons DN.vd_int (DN.vds_cons DN.vd_int (DN.vds_cons DN.vd_int (DN.vds_cons DN.vd_int DN.vds_nil))))))
            case q2 =>
              refine' DN.vd_tup ?l ?z ?v
              (case l => k_is)
              (case z => decide)
              (case v => exact (DN.vds_cons DN.vd_int (DN.vds_cons DN.vd_int (DN.vds_cons DN.vd_int (DN.vds_cons DN.vd_int (DN.vds_cons DN.vd_int DN.vds_nil))))))
