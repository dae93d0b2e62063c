import PyProof.Rows.All
import Wide.All
import OpenK.AllK
import Wide.FinOn
import HandS.ForMost
import HandS.Wide
import HandS.TupAny
import HandS.Ends
import HandS.Zip
import HandS.Style
import HandS.Iter
import HandS.More
import HandS.SortInts
import HandS.Deep
import HandS.Flow
import HandS.NoneIn
import HandS.SortKw
import HandS.Exc
import HandS.ExcField
import HandS.ExcIs
import HandS.TryOnly
import HandS.DictComp
import HandS.WordsExc
import HandS.ExcOwn
import HandS.TupSets
import KE.KDictList
import PyProof.SeqIndex
import KE.KeyNested
import KE.SortData
import KE.DataMinMax
import KE.SortLaws
import KE.KDictKeyed
import PyProof.StrOps2
import PyProof.SumAny
import PyProof.FactsAll.dict_0
import PyProof.FactsAll.dict_3
import PyProof.Rows.StrCountLaw
import PyProof.ReprLen
import PyProof.ReprRoads
import PyProof.CallFns
import PyProof.Draws
import PyProof.EnumStmt
import PyProof.EnumMake
import KE.GoesMore
import PySem.Challenge.RW_railshut_k20_cycles_and_runs
set_option Elab.async false
set_option linter.all false
set_option maxRecDepth 100000
/-! A def's meaning as a plain function over data: the state of a frame is a list of data (or of lists that the frame owns and may change). -/
namespace DN
open PySem PySem.Spec PyProof.Rows L2

abbrev D := PyData
/-- a dict that lasts: with text keys; with keys that are tuples of whole numbers -/
inductive Tabs where
  | txt (kvs : List (Str × D))
  | key (kvs : List (List Int × D))
instance : Coe (List (Str × D)) Tabs := ⟨.txt⟩
/-- what a frame owns and may change: a list, a dict, an instance (with its fields) -/
inductive Pay where
  | dat (d : D)
  | lst (ds : List D)
  | dic (kvs : List (D × D))
  | txt (kvs : List (Str × D))
  | ins (c : Str) (fs : List (Str × Pay))
inductive Ent where
  | dat (d : D)
  | ow (pinned : Bool) (y : Pay)
  | tab (t : Tabs)
abbrev Ent.own (b : Bool) (ds : List D) : Ent := .ow b (.lst ds)
abbrev En := List (Option Ent)
@[simp] def gt : En → Nat → Option Ent
  | [], _ => none
  | e :: _, 0 => e
  | _ :: r, n + 1 => gt r n
theorem gt_eq : ∀ (γ : En) (i : Nat), gt γ i = (γ[i]?).join
  | [], i => by simp [gt]
  | e :: r, 0 => by simp [gt]
  | e :: r, n + 1 => by simpa [gt] using gt_eq r n
theorem gt_set (γ : En) (i j : Nat) (e : Option Ent) : gt (γ.set i e) j = if i = j ∧ i < γ.length then e else gt γ j := by
  rw [gt_eq, gt_eq, List.getElem?_set]
  by_cases h : i = j
  · subst h
    by_cases h2 : i < γ.length
    · simp [h2]
    · simp [h2]
  · simp [h]
theorem gt_lt {γ : En} {i : Nat} {e : Ent} (h : gt γ i = some e) : i < γ.length := by
  rw [gt_eq] at h
  by_cases h2 : i < γ.length
  · exact h2
  · have : γ[i]? = none := by simp; omega
    rw [this] at h; cases h

theorem rd_mono {H H' : Hp} {a : Addr} {u : HO} (s : Same H H') (h : Rd H a u) : Rd H' a u := by
  rcases h with h | ⟨o, h⟩
  · exact .inl (s _ _ h)
  · exact .inr ⟨o, s _ _ h⟩
theorem sql_mono {K : PySem.W.Frag} {H H' : Hp} {a : Addr} {xs : List V} (s : Same H H') (h : SqL K H a xs) : SqL K H' a xs := by
  rcases h with h | h
  · exact .inl (rd_mono s h)
  · exact .inr h
theorem sqt_mono {K : PySem.W.Frag} {H H' : Hp} {a : Addr} {xs : List V} (s : Same H H') (h : SqT K H a xs) : SqT K H' a xs := by
  rcases h with h | h
  · exact .inl (rd_mono s h)
  · exact .inr h

/-! ### keys: tuples of whole numbers, None and such tuples -/
mutual
def keyOf : D → Option NestedKey
  | .none => some .none
  | .int i => some (.num i)
  | .tuple ds => (keysOf ds).map .tup
  | .bool _ => none
  | .str _ => none
  | .list _ => none
  | .dict _ => none
def keysOf : List D → Option (List NestedKey)
  | [] => some []
  | d :: ds => match keyOf d, keysOf ds with
    | some k, some ks => some (k :: ks)
    | _, _ => none
end
mutual
def hashF : NestedKey → Int
  | .none => reduceHash 0xFCA86420
  | .num i => hashInt i
  | .text _ => 0
  | .tup ks => reduceHash (Builtin.Tuple.tupleHashOf (hashFs ks))
def hashFs : List NestedKey → List Int
  | [] => []
  | k :: ks => hashF k :: hashFs ks
end
mutual
theorem hash_eq (w : World) : ∀ {d : D} {k : NestedKey}, keyOf d = some k → k.hash w = hashF k
  | .none, k, h => by rw [keyOf] at h; cases h; rfl
  | .int i, k, h => by rw [keyOf] at h; cases h; rfl
  | .tuple ds, k, h => by
    rw [keyOf] at h
    obtain ⟨ks, e, rfl⟩ := Option.map_eq_some_iff.mp h
    rw [NestedKey.hash, hashF, hashes_eq w e]
  | .bool _, k, h => by rw [keyOf] at h; cases h
  | .str _, k, h => by rw [keyOf] at h; cases h
  | .list _, k, h => by rw [keyOf] at h; cases h
  | .dict _, k, h => by rw [keyOf] at h; cases h
theorem hashes_eq (w : World) : ∀ {ds : List D} {ks : List NestedKey}, keysOf ds = some ks → NestedKey.hashes w ks = hashFs ks
  | [], ks, h => by rw [keysOf] at h; cases h; rfl
  | d :: ds, ks, h => by
    rw [keysOf] at h
    split at h
    · rename_i k ks' e1 e2
      cases h
      rw [NestedKey.hashes, hashFs, hash_eq w e1, hashes_eq w e2]
    · cases h
end
mutual
theorem key_inj : ∀ {d e : D} {k : NestedKey}, keyOf d = some k → keyOf e = some k → d = e
  | .none, e, k, h, h' => by
    rw [keyOf] at h; cases h
    cases e <;> rw [keyOf] at h' <;> first | rfl | cases h' | (obtain ⟨_, _, q⟩ := Option.map_eq_some_iff.mp h'; cases q)
  | .int i, e, k, h, h' => by
    rw [keyOf] at h; cases h
    cases e <;> rw [keyOf] at h' <;> first | (cases h'; rfl) | cases h' | (obtain ⟨_, _, q⟩ := Option.map_eq_some_iff.mp h'; cases q)
  | .tuple ds, e, k, h, h' => by
    rw [keyOf] at h
    obtain ⟨ks, e1, rfl⟩ := Option.map_eq_some_iff.mp h
    cases e with
    | tuple es =>
      rw [keyOf] at h'
      obtain ⟨ks', e2, q⟩ := Option.map_eq_some_iff.mp h'
      cases q
      rw [keys_inj e1 e2]
    | none => rw [keyOf] at h'; cases h'
    | int _ => rw [keyOf] at h'; cases h'
    | bool _ => rw [keyOf] at h'; cases h'
    | str _ => rw [keyOf] at h'; cases h'
    | list _ => rw [keyOf] at h'; cases h'
    | dict _ => rw [keyOf] at h'; cases h'
  | .bool _, e, k, h, _ => by rw [keyOf] at h; cases h
  | .str _, e, k, h, _ => by rw [keyOf] at h; cases h
  | .list _, e, k, h, _ => by rw [keyOf] at h; cases h
  | .dict _, e, k, h, _ => by rw [keyOf] at h; cases h
theorem keys_inj : ∀ {ds es : List D} {ks : List NestedKey}, keysOf ds = some ks → keysOf es = some ks → ds = es
  | [], [], ks, _, _ => rfl
  | [], e :: es, ks, h, h' => by
    rw [keysOf] at h
    cases h
    rw [keysOf] at h'
    split at h' <;> cases h'
  | d :: ds, [], ks, h, h' => by
    rw [keysOf] at h'
    cases h'
    rw [keysOf] at h
    split at h <;> cases h
  | d :: ds, e :: es, ks, h, h' => by
    rw [keysOf] at h
    rw [keysOf] at h'
    split at h
    · rename_i k ks' e1 e2
      cases h
      split at h'
      · rename_i k2 ks2 f1 f2
        cases h'
        rw [key_inj e1 f1, keys_inj e2 f2]
      · cases h'
    · cases h
end
/-- a key as it stands in a dict: a tuple, not too deep -/
def keyD : D → Option NestedKey
  | .tuple ds => match keyOf (.tuple ds) with
    | some k => if k.depth ≤ 8 then some k else none
    | none => none
  | _ => none
theorem keyD_of {d : D} {k : NestedKey} (h : keyD d = some k) : (∃ ds, d = .tuple ds) ∧ keyOf d = some k ∧ k.depth ≤ 8 := by
  unfold keyD at h
  split at h
  · split at h
    · split at h <;> cases h
      rename_i e c
      exact ⟨⟨_, rfl⟩, e, c⟩
    · cases h
  · cases h
def entN (x : NestedKey × Addr × Value) : DictEntry := ⟨hashF x.1, .ref x.2.1, x.2.2⟩
/-- the thing at p is just this object -/
def dnO (p : Addr) (o : Obj) : HO := .ext fun h => h.get? p = some o
/-- the object is a dict with these entries (key, where the key's tuple stands, value) -/
def DictO (o : Obj) (xs : List (NestedKey × Addr × Value)) : Prop := o.ExactDict ∧ ∃ es ep, o.data = .dict es ep ∧ es.toList = xs.map entN
/-! ### values that are data and last -/
mutual
inductive Dp (K : PySem.W.Frag) (H : Hp) : V → PyData → Prop
  | non : Dp K H .non .none
  | bl (b : Bool) : Dp K H (.bl b) (.bool b)
  | int (i : Int) : Dp K H (.int i) (.int i)
  | str (x : Str) : Dp K H (.str x) (.str x)
  | lst {a : Addr} {xs : List V} {ds : List PyData} : SqL K H a xs → DpAll K H xs ds → Dp K H (.ref a) (.list ds)
  | tup {a : Addr} {xs : List V} {ds : List PyData} : SqT K H a xs → DpAll K H xs ds → Dp K H (.ref a) (.tuple ds)
  | dct {a : Addr} {o : Obj} {xs : List (NestedKey × Addr × Value)} {kvs : List (PyData × PyData)} : H a = some (dnO a o) → DictO o xs → DpEnts K H xs kvs → (xs.map (·.1)).Nodup → (a == sysModules) = false → xs.length ≤ sizeLine → Dp K H (.ref a) (.dict kvs)
inductive DpAll (K : PySem.W.Frag) (H : Hp) : List V → List PyData → Prop
  | nil : DpAll K H [] []
  | cons {v : V} {vs : List V} {d : PyData} {ds : List PyData} : Dp K H v d → DpAll K H vs ds → DpAll K H (v :: vs) (d :: ds)
inductive DpEnts (K : PySem.W.Frag) (H : Hp) : List (NestedKey × Addr × Value) → List (PyData × PyData) → Prop
  | nil : DpEnts K H [] []
  | cons {k : NestedKey} {a : Addr} {u : Value} {v : V} {kd d : PyData} {xs : List (NestedKey × Addr × Value)} {kvs : List (PyData × PyData)} : keyD kd = some k → Dp K H (.ref a) kd → RelV v u → Dp K H v d → DpEnts K H xs kvs → DpEnts K H ((k, a, u) :: xs) ((kd, d) :: kvs)
end
mutual
theorem dp_mono {K : PySem.W.Frag} {H H' : Hp} (s : Same H H') : ∀ {v : V} {d : D}, Dp K H v d → Dp K H' v d
  | _, _, .non => .non
  | _, _, .bl b => .bl b
  | _, _, .int i => .int i
  | _, _, .str x => .str x
  | _, _, .lst h a => .lst (sql_mono s h) (dps_mono s a)
  | _, _, .tup h a => .tup (sqt_mono s h) (dps_mono s a)
  | _, _, .dct h1 h2 h3 h4 h5 h6 => .dct (s _ _ h1) h2 (dpe_mono s h3) h4 h5 h6
theorem dps_mono {K : PySem.W.Frag} {H H' : Hp} (s : Same H H') : ∀ {vs : List V} {ds : List D}, DpAll K H vs ds → DpAll K H' vs ds
  | _, _, .nil => .nil
  | _, _, .cons h t => .cons (dp_mono s h) (dps_mono s t)
theorem dpe_mono {K : PySem.W.Frag} {H H' : Hp} (s : Same H H') : ∀ {xs : List (NestedKey × Addr × Value)} {kvs : List (D × D)}, DpEnts K H xs kvs → DpEnts K H' xs kvs
  | _, _, .nil => .nil
  | _, _, .cons h1 h2 h3 h4 t => .cons h1 (dp_mono s h2) h3 (dp_mono s h4) (dpe_mono s t)
end
section
variable {K : PySem.W.Frag} {H : Hp}
theorem dps_len : ∀ {vs : List V} {ds : List D}, DpAll K H vs ds → vs.length = ds.length
  | _, _, .nil => rfl
  | _, _, .cons _ t => congrArg (· + 1) (dps_len t)
theorem dps_app : ∀ {vs us : List V} {ds es : List D}, DpAll K H vs ds → DpAll K H us es → DpAll K H (vs ++ us) (ds ++ es)
  | _, _, _, _, .nil, h => h
  | _, _, _, _, .cons a t, h => .cons a (dps_app t h)
theorem dps_at : ∀ {vs : List V} {ds : List D} {i : Nat} {d : D}, DpAll K H vs ds → ds[i]? = some d → ∃ v, vs[i]? = some v ∧ Dp K H v d
  | _, _, _, _, .nil, e => by simp at e
  | _, _, 0, _, .cons h _, e => by simp at e; subst e; exact ⟨_, rfl, h⟩
  | _, _, i + 1, d, .cons _ t, e => by
    obtain ⟨v, h1, h2⟩ := dps_at (i := i) (d := d) t (by simpa using e)
    exact ⟨v, by simpa using h1, h2⟩
theorem dps_set : ∀ {vs : List V} {ds : List D} {v : V} {d : D} (i : Nat), DpAll K H vs ds → Dp K H v d → DpAll K H (vs.set i v) (ds.set i d)
  | _, _, _, _, _, .nil, _ => .nil
  | _, _, _, _, 0, .cons _ t, h => .cons h t
  | _, _, _, _, i + 1, .cons a t, h => .cons a (dps_set i t h)
theorem dps_take : ∀ {vs : List V} {ds : List D} (n : Nat), DpAll K H vs ds → DpAll K H (vs.take n) (ds.take n)
  | _, _, 0, _ => .nil
  | _, _, _ + 1, .nil => .nil
  | _, _, n + 1, .cons a t => .cons a (dps_take n t)
theorem dps_drop : ∀ {vs : List V} {ds : List D} (n : Nat), DpAll K H vs ds → DpAll K H (vs.drop n) (ds.drop n)
  | _, _, 0, h => h
  | _, _, _ + 1, .nil => .nil
  | _, _, n + 1, .cons _ t => dps_drop n t
end

/-- the last of the pairs with the key -/
@[simp] def tabM : List (Str × D) → Str → Option D → Option D
  | [], _, o => o
  | p :: r, z, o => tabM r z (if p.1 = z then some p.2 else o)
/-- the dict at p, with these entries (key, where the key's tuple stands, value) -/
def dnt (P : Program) (w : World) (p : Addr) (xs : List (List Int × Addr × Value)) : HO := .ext fun h => ∃ o es ep, h.get? p = some o ∧ o.ExactDict ∧ o.data = .dict es ep ∧ es.toList = xs.map (entryOfKey (tupleKind (intKind P w)))
theorem dnt_any {P P' : Program} {w w' : World} {p : Addr} {xs : List (List Int × Addr × Value)} : dnt P w p xs = dnt P' w' p xs := rfl
/-- an entry of a dict that lasts -/
def EntK (K : PySem.W.Frag) (Hk : Hp) (x : List Int × Addr × Value) (kv : List Int × D) : Prop := x.1 = kv.1 ∧ Dp K Hk (.ref x.2.1) (.tuple (kv.1.map .int)) ∧ ∃ v, RelV v x.2.2 ∧ Dp K Hk v kv.2
/-- v is a dict that lasts -/
def Tb (K : PySem.W.Frag) (Hk : Hp) (v : V) : Tabs → Prop
  | .txt kvs => ∃ p kvs', v = .ref p ∧ Hk p = some (.dK kvs') ∧ ∀ z x, tabM kvs z none = some x → ∃ u, valV kvs' (Sum.inr z) = some u ∧ Dp K Hk u x
  | .key kvs => ∃ P w p xs, v = .ref p ∧ Hk p = some (dnt P w p xs) ∧ PySem.W.EachIs (EntK K Hk) xs kvs ∧ (xs.map (·.1)).Nodup ∧ (p == sysModules) = false ∧ xs.length ≤ sizeLine
theorem Tb.mono {K : PySem.W.Frag} {H H' : Hp} {v : V} {t : Tabs} (s : Same H H') (h : Tb K H v t) : Tb K H' v t := by
  cases t with
  | txt kvs =>
    obtain ⟨p, kvs', e, hp, t⟩ := h
    refine ⟨p, kvs', e, s _ _ hp, fun z x q => ?_⟩
    obtain ⟨u, e1, r⟩ := t z x q
    exact ⟨u, e1, dp_mono s r⟩
  | key kvs =>
    obtain ⟨P, w, p, xs, e, hp, r, n, q, z⟩ := h
    exact ⟨P, w, p, xs, e, s _ _ hp, r.mono fun x kv ⟨a, b, v, c, d⟩ => ⟨a, dp_mono s b, v, c, dp_mono s d⟩, n, q, z⟩
/-- a dict with text keys, as it stands -/
def TxtIs (K : PySem.W.Frag) (Hk : Hp) (kvs' : List (Key × V)) (kvs : List (Str × D)) : Prop := kvs'.length ≤ kvs.length ∧ ∀ z, (∀ x, tabM kvs z none = some x → ∃ u, valV kvs' (Sum.inr z) = some u ∧ Dp K Hk u x) ∧ (tabM kvs z none = none → valV kvs' (Sum.inr z) = none)
theorem TxtIs.mono {K : PySem.W.Frag} {H H' : Hp} {kvs' : List (Key × V)} {kvs : List (Str × D)} (s : Same H H') (h : TxtIs K H kvs' kvs) : TxtIs K H' kvs' kvs :=
  ⟨h.1, fun z => ⟨fun x e => let ⟨u, e1, r⟩ := (h.2 z).1 x e; ⟨u, e1, dp_mono s r⟩, (h.2 z).2⟩⟩
/-- the class at C has the name c -/
def ClsIs (K : PySem.W.Frag) (c : Str) (C : Addr) : Prop := PySem.W.nsIn K mainGlobals c = some (some (.ref C))
/-! ### what is owned: v is the payload y; the addresses that belong to it -/
mutual
inductive OwnV (K : PySem.W.Frag) (H Hk : Hp) : V → Pay → List Addr → Prop
  | dat {v : V} {d : D} : Dp K Hk v d → OwnV K H Hk v (.dat d) []
  | lst {p : Addr} {vs : List V} {ds : List D} : H p = some (.lst vs) → Hk p = none → DpAll K Hk vs ds → OwnV K H Hk (.ref p) (.lst ds) [p]
  | dic {p : Addr} {o : Obj} {xs : List (NestedKey × Addr × Value)} {kvs : List (D × D)} : H p = some (dnO p o) → Hk p = none → DictO o xs → DpEnts K Hk xs kvs → (xs.map (·.1)).Nodup → (p == sysModules) = false → xs.length ≤ sizeLine → OwnV K H Hk (.ref p) (.dic kvs) [p]
  | txt {p : Addr} {kvs' : List (Key × V)} {kvs : List (Str × D)} : H p = some (.dK kvs') → Hk p = none → TxtIs K Hk kvs' kvs → OwnV K H Hk (.ref p) (.txt kvs) [p]
  | ins {p C dx : Addr} {fvs : List (Str × V)} {c : Str} {fs : List (Str × Pay)} {fp : List Addr} : H p = some (.ins C dx fvs) → H dx = some (.own p) → Hk p = none → Hk dx = none → ClsIs K c C → OwnFs K H Hk fvs fs fp → p ∉ fp → dx ∉ fp → p ≠ dx → OwnV K H Hk (.ref p) (.ins c fs) (p :: dx :: fp)
inductive OwnFs (K : PySem.W.Frag) (H Hk : Hp) : List (Str × V) → List (Str × Pay) → List Addr → Prop
  | nil : OwnFs K H Hk [] [] []
  | cons {f : Str} {v : V} {y : Pay} {fvs : List (Str × V)} {fs : List (Str × Pay)} {fp fq : List Addr} : OwnV K H Hk v y fp → OwnFs K H Hk fvs fs fq → (∀ a ∈ fp, a ∉ fq) → OwnFs K H Hk ((f, v) :: fvs) ((f, y) :: fs) (fp ++ fq)
end
section
variable {K : PySem.W.Frag} {H Hk H' Hk' : Hp}
mutual
theorem OwnV.det : ∀ {v : V} {y : Pay} {fp fq : List Addr}, OwnV K H Hk v y fp → OwnV K H Hk v y fq → fp = fq
  | _, _, _, _, .dat _, .dat _ => rfl
  | _, _, _, _, .lst _ _ _, .lst _ _ _ => rfl
  | _, _, _, _, .dic _ _ _ _ _ _ _, .dic _ _ _ _ _ _ _ => rfl
  | _, _, _, _, .txt _ _ _, .txt _ _ _ => rfl
  | _, _, _, _, .ins a1 _ _ _ _ a6 _ _ _, .ins b1 _ _ _ _ b6 _ _ _ => by
    rw [a1] at b1
    cases b1
    rw [OwnFs.det a6 b6]
theorem OwnFs.det : ∀ {vs : List (Str × V)} {fs : List (Str × Pay)} {fp fq : List Addr}, OwnFs K H Hk vs fs fp → OwnFs K H Hk vs fs fq → fp = fq
  | _, _, _, _, .nil, .nil => rfl
  | _, _, _, _, .cons a1 a2 _, .cons b1 b2 _ => by rw [OwnV.det a1 b1, OwnFs.det a2 b2]
end
mutual
theorem OwnV.at : ∀ {v : V} {y : Pay} {fp : List Addr}, OwnV K H Hk v y fp → ∀ a ∈ fp, (∃ u, H a = some u) ∧ Hk a = none
  | _, _, _, .dat _, a, h => by cases h
  | _, _, _, .lst h1 h2 _, a, h => by
    obtain rfl := List.mem_singleton.mp h
    exact ⟨⟨_, h1⟩, h2⟩
  | _, _, _, .dic h1 h2 _ _ _ _ _, a, h => by
    obtain rfl := List.mem_singleton.mp h
    exact ⟨⟨_, h1⟩, h2⟩
  | _, _, _, .txt h1 h2 _, a, h => by
    obtain rfl := List.mem_singleton.mp h
    exact ⟨⟨_, h1⟩, h2⟩
  | _, _, _, .ins h1 h2 h3 h4 _ h6 _ _ _, a, h => by
    rcases List.mem_cons.mp h with rfl | h
    · exact ⟨⟨_, h1⟩, h3⟩
    · rcases List.mem_cons.mp h with rfl | h
      · exact ⟨⟨_, h2⟩, h4⟩
      · exact OwnFs.at h6 a h
theorem OwnFs.at : ∀ {vs : List (Str × V)} {fs : List (Str × Pay)} {fp : List Addr}, OwnFs K H Hk vs fs fp → ∀ a ∈ fp, (∃ u, H a = some u) ∧ Hk a = none
  | _, _, _, .nil, a, h => by cases h
  | _, _, _, .cons h1 h2 _, a, h => by
    rcases List.mem_append.mp h with h | h
    · exact OwnV.at h1 a h
    · exact OwnFs.at h2 a h
end
mutual
theorem OwnV.to (s : Same Hk Hk') : ∀ {v : V} {y : Pay} {fp : List Addr}, OwnV K H Hk v y fp → (∀ a ∈ fp, ∀ u, H a = some u → H' a = some u) → (∀ a ∈ fp, Hk' a = none) → OwnV K H' Hk' v y fp
  | _, _, _, .dat h, _, _ => .dat (dp_mono s h)
  | _, _, _, .lst h1 h2 h3, k, n => .lst (k _ (by simp) _ h1) (n _ (by simp)) (dps_mono s h3)
  | _, _, _, .dic h1 h2 h3 h4 h5 h6 h7, k, n => .dic (k _ (by simp) _ h1) (n _ (by simp)) h3 (dpe_mono s h4) h5 h6 h7
  | _, _, _, .txt h1 h2 h3, k, n => .txt (k _ (by simp) _ h1) (n _ (by simp)) (h3.mono s)
  | _, _, _, .ins h1 h2 h3 h4 h5 h6 h7 h8 h9, k, n => .ins (k _ (by simp) _ h1) (k _ (by simp) _ h2) (n _ (by simp)) (n _ (by simp)) h5 (OwnFs.to s h6 (fun a ha => k a (by simp [ha])) (fun a ha => n a (by simp [ha]))) h7 h8 h9
theorem OwnFs.to (s : Same Hk Hk') : ∀ {vs : List (Str × V)} {fs : List (Str × Pay)} {fp : List Addr}, OwnFs K H Hk vs fs fp → (∀ a ∈ fp, ∀ u, H a = some u → H' a = some u) → (∀ a ∈ fp, Hk' a = none) → OwnFs K H' Hk' vs fs fp
  | _, _, _, .nil, _, _ => .nil
  | _, _, _, .cons h1 h2 h3, k, n => .cons (OwnV.to s h1 (fun a ha => k a (by simp [ha])) (fun a ha => n a (by simp [ha]))) (OwnFs.to s h2 (fun a ha => k a (by simp [ha])) (fun a ha => n a (by simp [ha]))) h3
end
end
/-- the frame's slots σ, the heap H and its lasting part Hk are as γ tells -/
structure Ok (K : PySem.W.Frag) (σ : L2.St) (H Hk : Hp) (γ : En) : Prop where
  len : σ.length = γ.length
  sub : Same Hk H
  dat : ∀ i d, gt γ i = some (.dat d) → ∃ v, σ[i]? = some (some v) ∧ Dp K Hk v d
  ow : ∀ i b y, gt γ i = some (.ow b y) → ∃ v fp, σ[i]? = some (some v) ∧ OwnV K H Hk v y fp
  pin : ∀ i y, gt γ i = some (.ow true y) → i = 0
  sep : ∀ i j b c y z v u fp fq, gt γ i = some (.ow b y) → gt γ j = some (.ow c z) → σ[i]? = some (some v) → σ[j]? = some (some u) → OwnV K H Hk v y fp → OwnV K H Hk u z fq → ∀ a, a ∈ fp → a ∈ fq → i = j
  tab : ∀ i kvs, gt γ i = some (.tab kvs) → ∃ v, σ[i]? = some (some v) ∧ Tb K Hk v kvs
theorem Ok.own {K : PySem.W.Frag} {σ : L2.St} {H Hk : Hp} {γ : En} (o : Ok K σ H Hk γ) (i : Nat) (b : Bool) (ds : List D) (h : gt γ i = some (.own b ds)) : ∃ p vs, σ[i]? = some (some (.ref p)) ∧ H p = some (.lst vs) ∧ Hk p = none ∧ DpAll K Hk vs ds := by
  obtain ⟨v, fp, e, r⟩ := o.ow i b _ h
  cases r with
  | lst h1 h2 h3 => exact ⟨_, _, e, h1, h2, h3⟩
/-- the addresses that the frame owns -/
def OwnA (K : PySem.W.Frag) (σ : L2.St) (H Hk : Hp) (γ : En) (a : Addr) : Prop := ∃ i b y v fp, gt γ i = some (.ow b y) ∧ σ[i]? = some (some v) ∧ OwnV K H Hk v y fp ∧ a ∈ fp
theorem OwnA.at {K : PySem.W.Frag} {σ : L2.St} {H Hk : Hp} {γ : En} {a : Addr} (h : OwnA K σ H Hk γ a) : (∃ u, H a = some u) ∧ Hk a = none := by
  obtain ⟨i, b, y, v, fp, _, _, r, m⟩ := h
  exact r.at a m
theorem own_mine {K : PySem.W.Frag} {σ : L2.St} {H Hk : Hp} {γ : En} {i : Nat} {b : Bool} {ds : List D} {p : Addr} (o : Ok K σ H Hk γ) (h : gt γ i = some (.own b ds)) (e : σ[i]? = some (some (.ref p))) : OwnA K σ H Hk γ p := by
  obtain ⟨v, fp, e', r⟩ := o.ow i b _ h
  rw [e] at e'; cases e'
  cases r with
  | lst h1 h2 h3 => exact ⟨i, b, _, _, _, h, e, .lst h1 h2 h3, by simp⟩
/-- from one situation to a later one -/
structure Go (K : PySem.W.Frag) (σ : L2.St) (H Hk : Hp) (γ : En) (σ2 : L2.St) (H2 Hk2 : Hp) (γ2 : En) : Prop where
  ok : Ok K σ2 H2 Hk2 γ2
  kk : Same Hk Hk2
  nw : ∀ a u, Hk2 a = some u → Hk a = none → H a = none ∨ OwnA K σ H Hk γ a
  kp : ∀ a u, H a = some u → ¬ OwnA K σ H Hk γ a → H2 a = some u
  sh : ∀ a, OwnA K σ2 H2 Hk2 γ2 a → OwnA K σ H Hk γ a ∨ H a = none
  pn : ∀ i y, gt γ i = some (.ow true y) → σ2[i]? = σ[i]? ∧ ∃ z, gt γ2 i = some (.ow true z)
theorem Go.refl {K : PySem.W.Frag} {σ : L2.St} {H Hk : Hp} {γ : En} (o : Ok K σ H Hk γ) : Go K σ H Hk γ σ H Hk γ :=
  ⟨o, Same.refl _, fun a u h n => (by rw [h] at n; cases n), fun _ _ h _ => h, fun _ h => .inl h, fun i y h => ⟨rfl, y, h⟩⟩
theorem Go.trans {K : PySem.W.Frag} {σ σ1 σ2 : L2.St} {H Hk H1 Hk1 H2 Hk2 : Hp} {γ γ1 γ2 : En} (a : Go K σ H Hk γ σ1 H1 Hk1 γ1) (b : Go K σ1 H1 Hk1 γ1 σ2 H2 Hk2 γ2) : Go K σ H Hk γ σ2 H2 Hk2 γ2 := by
  have back : ∀ x, H1 x = none → H x = none ∨ OwnA K σ H Hk γ x := fun x h => by
    by_cases ho : OwnA K σ H Hk γ x
    · exact .inr ho
    · cases e : H x with
      | none => exact .inl rfl
      | some u => have := a.kp x u e ho; rw [h] at this; cases this
  refine ⟨b.ok, a.kk.trans b.kk, fun x u h n => ?_, fun x u h no => ?_, fun x h => ?_, fun i ds h => ?_⟩
  · cases e : Hk1 x with
    | some u' => exact a.nw x u' e n
    | none =>
      rcases b.nw x u h e with z | z
      · exact back x z
      · rcases a.sh x z with z | z
        · exact .inr z
        · exact .inl z
  · refine b.kp x u (a.kp x u h no) fun z => ?_
    rcases a.sh x z with z | z
    · exact no z
    · rw [h] at z; cases z
  · rcases b.sh x h with z | z
    · exact a.sh x z
    · rcases back x z with z | z
      · exact .inr z
      · exact .inl z
  · obtain ⟨e1, es, h1⟩ := a.pn i ds h
    obtain ⟨e2, es2, h2⟩ := b.pn i es h1
    exact ⟨e2.trans e1, es2, h2⟩
/-- the heap grows, nothing is changed -/
structure Grow (H Hk H2 Hk2 : Hp) : Prop where
  hh : Same H H2
  kk : Same Hk Hk2
  sub : Same Hk2 H2
  nw : ∀ a u, Hk2 a = some u → Hk a = none → H a = none
theorem Grow.refl {H Hk : Hp} (s : Same Hk H) : Grow H Hk H Hk := ⟨Same.refl _, Same.refl _, s, fun a u h n => (by rw [h] at n; cases n)⟩
theorem same_upd {H : Hp} {p : Addr} {o : HO} (h : H p = none) : Same H (upd H p o) := fun b x e => by
  rw [upd_ne (ne_of_none e h)]; exact e
theorem Grow.new {H Hk : Hp} {p : Addr} {o : HO} (s : Same Hk H) (h : H p = none) : Grow H Hk (upd H p o) (upd Hk p o) := by
  have hk : Hk p = none := s.free h
  refine ⟨same_upd h, same_upd hk, fun b x e => ?_, fun a u e n => ?_⟩
  · by_cases hb : b = p
    · subst hb; rw [upd_same] at e ⊢; exact e
    · rw [upd_ne hb] at e ⊢; exact s _ _ e
  · by_cases hb : a = p
    · subst hb; exact h
    · rw [upd_ne hb, n] at e; cases e
theorem Grow.newH {H Hk : Hp} {p : Addr} {o : HO} (s : Same Hk H) (h : H p = none) : Grow H Hk (upd H p o) Hk :=
  ⟨same_upd h, Same.refl _, s.trans (same_upd h), fun a u e n => (by rw [e] at n; cases n)⟩
theorem Grow.trans {H Hk H1 Hk1 H2 Hk2 : Hp} (a : Grow H Hk H1 Hk1) (b : Grow H1 Hk1 H2 Hk2) : Grow H Hk H2 Hk2 :=
  ⟨a.hh.trans b.hh, a.kk.trans b.kk, b.sub, fun x u h n => (by
    cases e : Hk1 x with
    | some u' => exact a.nw x u' e n
    | none => exact a.hh.free (b.nw x u h e))⟩
theorem Grow.free {H Hk H2 Hk2 : Hp} (g : Grow H Hk H2 Hk2) {a : Addr} (h : ∃ u, H a = some u) (n : Hk a = none) : Hk2 a = none := by
  obtain ⟨u, h⟩ := h
  cases q : Hk2 a with
  | none => rfl
  | some u' => have := g.nw a u' q n; rw [h] at this; cases this
theorem OwnV.grow {K : PySem.W.Frag} {H Hk H2 Hk2 : Hp} (g : Grow H Hk H2 Hk2) {v : V} {y : Pay} {fp : List Addr} (h : OwnV K H Hk v y fp) : OwnV K H2 Hk2 v y fp :=
  h.to g.kk (fun a _ u e => g.hh a u e) fun a ha => g.free (h.at a ha).1 (h.at a ha).2
theorem Ok.grow {K : PySem.W.Frag} {σ : L2.St} {H Hk H2 Hk2 : Hp} {γ : En} (o : Ok K σ H Hk γ) (g : Grow H Hk H2 Hk2) : Ok K σ H2 Hk2 γ := by
  refine ⟨o.len, g.sub, fun i d h => ?_, fun i b y h => ?_, o.pin, fun i j b c y z v u fp fq ei ej vi vj ri rj a hi hj => ?_, fun i kvs h => (let ⟨v, e, r⟩ := o.tab i kvs h; ⟨v, e, r.mono g.kk⟩)⟩
  · obtain ⟨v, e, r⟩ := o.dat i d h
    exact ⟨v, e, dp_mono g.kk r⟩
  · obtain ⟨v, fp, e, r⟩ := o.ow i b y h
    exact ⟨v, fp, e, r.grow g⟩
  · obtain ⟨v', fp', e1, r1⟩ := o.ow i b y ei
    obtain ⟨u', fq', e2, r2⟩ := o.ow j c z ej
    rw [vi] at e1; cases e1
    rw [vj] at e2; cases e2
    rw [ri.det (r1.grow g)] at hi
    rw [rj.det (r2.grow g)] at hj
    exact o.sep _ _ _ _ _ _ _ _ _ _ ei ej vi vj r1 r2 a hi hj
theorem OwnA.grown {K : PySem.W.Frag} {σ : L2.St} {H Hk H2 Hk2 : Hp} {γ : En} (o : Ok K σ H Hk γ) (g : Grow H Hk H2 Hk2) {a : Addr} (h : OwnA K σ H2 Hk2 γ a) : OwnA K σ H Hk γ a := by
  obtain ⟨i, b, y, v, fp, e, ev, r, m⟩ := h
  obtain ⟨v', fp', e1, r1⟩ := o.ow i b y e
  rw [ev] at e1; cases e1
  exact ⟨i, b, y, v, fp', e, ev, r1, by rw [← r.det (r1.grow g)]; exact m⟩
theorem Ok.go {K : PySem.W.Frag} {σ : L2.St} {H Hk H2 Hk2 : Hp} {γ : En} (o : Ok K σ H Hk γ) (g : Grow H Hk H2 Hk2) : Go K σ H Hk γ σ H2 Hk2 γ :=
  ⟨o.grow g, g.kk, fun a u h n => .inl (g.nw a u h n), fun a u h _ => g.hh _ _ h, fun _ h => .inl (h.grown o g), fun i ds h => ⟨rfl, ds, h⟩⟩

/-- an owned dict, seen -/
def VwD (K : PySem.W.Frag) (H Hk : Hp) (v : V) (d : D) : Prop := ∃ p o xs kvs, v = .ref p ∧ d = .dict kvs ∧ H p = some (dnO p o) ∧ DictO o xs ∧ DpEnts K Hk xs kvs ∧ (xs.map (·.1)).Nodup ∧ (p == sysModules) = false ∧ xs.length ≤ sizeLine
/-- a value seen as data: lasting, or a list or a dict that is owned -/
def Vw (K : PySem.W.Frag) (H Hk : Hp) (v : V) (d : D) : Prop := Dp K Hk v d ∨ (∃ p vs ds, v = .ref p ∧ d = .list ds ∧ H p = some (.lst vs) ∧ DpAll K Hk vs ds) ∨ VwD K H Hk v d
section
variable {K : PySem.W.Frag} {H Hk : Hp} {v : V}
theorem Vw.own {p : Addr} {vs : List V} {ds : List D} (h : H p = some (.lst vs)) (r : DpAll K Hk vs ds) : Vw K H Hk (.ref p) (.list ds) := .inr (.inl ⟨p, vs, ds, rfl, rfl, h, r⟩)
theorem Vw.flat {d : D} (h : Vw K H Hk v d) (n1 : ∀ ds, d ≠ .list ds) (n2 : ∀ ds, d ≠ .dict ds) : Dp K Hk v d := by
  rcases h with h | ⟨p, vs, ds, _, e, _⟩ | ⟨p, o, xs, kvs, _, e, _⟩
  · exact h
  · exact absurd e (n1 _)
  · exact absurd e (n2 _)
theorem Vw.int {i : Int} (h : Vw K H Hk v (.int i)) : v = .int i := by
  have h := h.flat (fun _ => nofun) (fun _ => nofun)
  cases h; rfl
theorem Vw.str {i : Str} (h : Vw K H Hk v (.str i)) : v = .str i := by
  have h := h.flat (fun _ => nofun) (fun _ => nofun)
  cases h; rfl
theorem Vw.bl {i : Bool} (h : Vw K H Hk v (.bool i)) : v = .bl i := by
  have h := h.flat (fun _ => nofun) (fun _ => nofun)
  cases h; rfl
theorem Vw.non (h : Vw K H Hk v .none) : v = .non := by
  have h := h.flat (fun _ => nofun) (fun _ => nofun)
  cases h; rfl
theorem Vw.tup {ds : List D} (s : Same Hk H) (h : Vw K H Hk v (.tuple ds)) : ∃ p vs, v = .ref p ∧ SqT K H p vs ∧ DpAll K Hk vs ds := by
  have h := h.flat (fun _ => nofun) (fun _ => nofun)
  cases h with
  | tup k a => exact ⟨_, _, rfl, sqt_mono s k, a⟩
theorem Vw.lst {ds : List D} (s : Same Hk H) (h : Vw K H Hk v (.list ds)) : ∃ p vs, v = .ref p ∧ SqL K H p vs ∧ DpAll K Hk vs ds := by
  rcases h with h | ⟨p, vs, ds, e1, e, hp, a⟩ | ⟨p, o, xs, kvs, _, e, _⟩
  · cases h with
    | lst h a => exact ⟨_, _, rfl, sql_mono s h, a⟩
  · cases e; exact ⟨p, vs, e1, .inl (.inl hp), a⟩
  · cases e
theorem Vw.dct {kvs : List (D × D)} (s : Same Hk H) (h : Vw K H Hk v (.dict kvs)) : ∃ p o xs, v = .ref p ∧ H p = some (dnO p o) ∧ DictO o xs ∧ DpEnts K Hk xs kvs ∧ (xs.map (·.1)).Nodup ∧ (p == sysModules) = false ∧ xs.length ≤ sizeLine := by
  rcases h with h | ⟨p, vs, ds, e1, e, hp, a⟩ | ⟨p, o, xs, kvs, e1, e, r⟩
  · cases h with
    | dct h1 h2 h3 h4 h5 h6 => exact ⟨_, _, _, rfl, s _ _ h1, h2, h3, h4, h5, h6⟩
  · cases e
  · cases e; exact ⟨p, o, xs, e1, r⟩
theorem Vw.dp {d : D} (s : Same Hk H) (h : Vw K H Hk v d) : Dp K H v d := by
  rcases h with h | ⟨p, vs, ds, rfl, rfl, hp, a⟩ | ⟨p, o, xs, kvs, rfl, rfl, h1, h2, h3, h4, h5, h6⟩
  · exact dp_mono s h
  · exact .lst (SqL.of hp) (dps_mono s a)
  · exact .dct h1 h2 (dpe_mono s h3) h4 h5 h6
end
/-! ### readings by functions -/
abbrev Fe := En → Option (D × En)
def tI (K : PySem.W.Frag) (f : Fe) : TE := fun σ H Q => ∃ γ Hk d γ2, Ok K σ H Hk γ ∧ f γ = some (d, γ2) ∧ ∀ v H2 Hk2, Go K σ H Hk γ σ H2 Hk2 γ2 → Dp K Hk2 v d → Q v H2
theorem PE.imp {X : Cx} {e : Expr} {t t' : TE} (h : PE X e t) (i : ∀ σ H Q, t' σ H Q → t σ H Q) : PE X e t' := ⟨fun pins s σ H Q I q => h.run pins s σ H Q I (i _ _ _ q)⟩
theorem PT.imp {X : Cx} {e : Expr} {t t' : TT} (h : PT X e t) (i : ∀ σ H Q, t' σ H Q → t σ H Q) : PT X e t' := ⟨fun pins s σ H Q I q => h.run pins s σ H Q I (i _ _ _ q)⟩
theorem PA.imp {X : Cx} {e : List Expr} {t t' : TA} (h : PA X e t) (i : ∀ σ H Q, t' σ H Q → t σ H Q) : PA X e t' := ⟨fun pos pins s σ H Q I q => h.run pos pins s σ H Q I (i _ _ _ q)⟩
theorem PS.imp {X : Cx} {e : Stmt} {t t' : TS} (h : PS X e t) (i : ∀ D σ H, t' D σ H → t D σ H) : PS X e t' := ⟨fun pins s σ H D I q => h.run pins s σ H D I (i _ _ _ q)⟩
theorem PSs.imp {X : Cx} {e : List Stmt} {t t' : TS} (h : PSs X e t) (i : ∀ D σ H, t' D σ H → t D σ H) : PSs X e t' := ⟨fun pins s σ H D I q => h.run pins s σ H D I (i _ _ _ q)⟩
def EV (X : Cx) (e : Expr) (f : Fe) : Prop := PE X e (tI X.K f)
/-- names -/
@[simp] def view (γ : En) (i : Nat) : Option D := match gt γ i with
  | some (.dat d) => some d
  | some (.ow _ (.lst ds)) => some (.list ds)
  | some (.ow _ (.dic kvs)) => some (.dict kvs)
  | _ => none
theorem Ok.view {K : PySem.W.Frag} {σ : L2.St} {H Hk : Hp} {γ : En} (o : Ok K σ H Hk γ) {i : Nat} {d : D} (h : DN.view γ i = some d) : ∃ v, σ[i]? = some (some v) ∧ Vw K H Hk v d := by
  unfold DN.view at h
  split at h
  · rename_i d' e
    cases h
    obtain ⟨v, e1, r⟩ := o.dat i _ e
    exact ⟨v, e1, .inl r⟩
  · rename_i b ds e
    cases h
    obtain ⟨v, fp, e1, r⟩ := o.ow i _ _ e
    cases r with
    | lst h1 h2 h3 => exact ⟨_, e1, .own h1 h3⟩
  · rename_i b ds e
    cases h
    obtain ⟨v, fp, e1, r⟩ := o.ow i _ _ e
    cases r with
    | dic h1 h2 h3 h4 h5 h6 h7 => exact ⟨_, e1, .inr (.inr ⟨_, _, _, _, rfl, rfl, h1, h3, h4, h5, h6, h7⟩)⟩
  · cases h
@[simp] def fN (i : Nat) : Fe := fun γ => match gt γ i with
  | some (.dat d) => some (d, γ)
  | some (.ow false (.lst ds)) => some (.list ds, γ.set i (some (.dat (.list ds))))
  | some (.ow false (.dic kvs)) => some (.dict kvs, γ.set i (some (.dat (.dict kvs))))
  | _ => none
/-- what an owned thing is that is given away for good -/
def payD : Pay → Option D
  | .lst ds => some (.list ds)
  | .dic kvs => some (.dict kvs)
  | _ => none
theorem OwnV.give {K : PySem.W.Frag} {H Hk : Hp} {v : V} {y : Pay} {fp : List Addr} {d : D} (h : OwnV K H Hk v y fp) (e : payD y = some d) (s : Same Hk H) : ∃ p u, v = .ref p ∧ fp = [p] ∧ H p = some u ∧ Hk p = none ∧ Dp K (upd Hk p u) v d := by
  cases h with
  | dat _ => cases e
  | txt _ _ _ => cases e
  | ins _ _ _ _ _ _ _ _ _ => cases e
  | lst h1 h2 h3 => cases e; exact ⟨_, _, rfl, rfl, h1, h2, .lst (SqL.of upd_same) (dps_mono (same_upd h2) h3)⟩
  | dic h1 h2 h3 h4 h5 h6 h7 => cases e; exact ⟨_, _, rfl, rfl, h1, h2, .dct upd_same h3 (dpe_mono (same_upd h2) h4) h5 h6 h7⟩
theorem Ok.release {K : PySem.W.Frag} {σ : L2.St} {H Hk : Hp} {γ : En} (o : Ok K σ H Hk γ) {i : Nat} {y : Pay} {d : D} (h : gt γ i = some (.ow false y)) (ed : payD y = some d) :
    ∃ v Hk2, σ[i]? = some (some v) ∧ Go K σ H Hk γ σ H Hk2 (γ.set i (some (.dat d))) ∧ Dp K Hk2 v d := by
  obtain ⟨v, fp, e1, r⟩ := o.ow i _ _ h
  obtain ⟨p, u, rfl, rfl, hp, hn, hd⟩ := r.give ed o.sub
  have hs : Same Hk (upd Hk p u) := same_upd hn
  have hi := gt_lt h
  have old : ∀ {j b z w fq}, gt γ j = some (.ow b z) → ¬ (i = j ∧ i < γ.length) → σ[j]? = some (some w) → OwnV K H Hk w z fq → OwnV K H (upd Hk p u) w z fq := fun {j b z w fq} e c e2 r2 => by
    refine r2.to hs (fun _ _ _ q => q) fun a ha => ?_
    rw [upd_ne ?_]
    · exact (r2.at a ha).2
    · rintro rfl
      exact c ⟨o.sep _ _ _ _ _ _ _ _ _ _ h e e1 e2 r r2 _ (by simp) ha, hi⟩
  have get : ∀ {j b z}, gt (γ.set i (some (.dat d))) j = some (.ow b z) → gt γ j = some (.ow b z) ∧ ¬ (i = j ∧ i < γ.length) := fun {j b z} e => by
    rw [gt_set] at e
    split at e
    · cases e
    · rename_i c; exact ⟨e, c⟩
  have back : ∀ {j b z w fq}, gt (γ.set i (some (.dat d))) j = some (.ow b z) → σ[j]? = some (some w) → OwnV K H (upd Hk p u) w z fq → OwnV K H Hk w z fq := fun {j b z w fq} e e2 r2 => by
    obtain ⟨e, c⟩ := get e
    obtain ⟨w', fq', e3, r3⟩ := o.ow j b z e
    rw [e2] at e3; cases e3
    rw [r2.det (old e c e2 r3)]
    exact r3
  refine ⟨.ref p, upd Hk p u, e1, ⟨⟨by rw [List.length_set]; exact o.len, fun b x e => ?_, fun j d e => ?_, fun j b es e => ?_, fun j es e => ?_, fun j k b c y z w w' fq fr ej ek vj vk rj rk => ?_, fun j kvs e => ?_⟩, hs, fun a u e n => ?_, fun _ _ e _ => e, fun a e => ?_, fun j es e => ?_⟩, hd⟩
  · by_cases hb : b = p
    · subst hb; rw [upd_same] at e; cases e; exact hp
    · rw [upd_ne hb] at e; exact o.sub _ _ e
  · rw [gt_set] at e
    split at e
    · rename_i c; obtain ⟨rfl, _⟩ := c
      cases e
      exact ⟨_, e1, hd⟩
    · obtain ⟨v, e2, r2⟩ := o.dat j d e
      exact ⟨v, e2, dp_mono hs r2⟩
  · obtain ⟨e, c⟩ := get e
    obtain ⟨w, fq, e2, r2⟩ := o.ow j b es e
    exact ⟨w, fq, e2, old e c e2 r2⟩
  · exact o.pin _ _ (get e).1
  · exact o.sep _ _ _ _ _ _ _ _ _ _ (get ej).1 (get ek).1 vj vk (back ej vj rj) (back ek vk rk)
  · rw [gt_set] at e
    split at e
    · cases e
    · obtain ⟨v, e2, r2⟩ := o.tab j kvs e
      exact ⟨v, e2, r2.mono hs⟩
  · by_cases ha : a = p
    · subst ha; exact .inr ⟨i, _, _, _, _, h, e1, r, by simp⟩
    · rw [upd_ne ha, n] at e; cases e
  · obtain ⟨j, b, z, w, fq, e, ej, rj, m⟩ := e
    exact .inl ⟨j, b, z, w, fq, (get e).1, ej, back e ej rj, m⟩
  · refine ⟨rfl, es, ?_⟩
    rw [gt_set, if_neg ?_]; exact e
    rintro ⟨rfl, _⟩
    rw [h] at e; cases e
theorem ev_name {X : Cx} (i : Nat) {x : Str} {pos : Pos} (hN : X.N[i]? = some x := by rfl) (hv : Vis X.env.scope x := by first | exact Or.inl rfl | exact Or.inr (Or.inl rfl) | exact Or.inr (Or.inr rfl))
    (hd : (x == ("__debug__" : Str)) = false := by decide) (hcd : (x == ("__classdict__" : Str)) = false := by decide) : EV X (.Name x pos) (fN i) := by
  refine PE.imp (pe_var hN hv hd hcd) fun σ H Q ⟨γ, Hk, d, γ2, o, e, q⟩ => ?_
  unfold fN at e
  split at e
  · rename_i d' e'
    cases e
    obtain ⟨v, e1, r⟩ := o.dat i _ e'
    exact ⟨v, e1, q v H Hk (Go.refl o) r⟩
  · rename_i ds e'
    cases e
    obtain ⟨v, Hk2, e1, g, r⟩ := o.release e' rfl
    exact ⟨_, e1, q _ H Hk2 g r⟩
  · rename_i ds e'
    cases e
    obtain ⟨v, Hk2, e1, g, r⟩ := o.release e' rfl
    exact ⟨_, e1, q _ H Hk2 g r⟩
  · cases e
/-- constants -/
@[simp] def fC (d : D) : Fe := fun γ => some (d, γ)
theorem ev_int {X : Cx} {i j pos} : EV X (.Constant (.int i) j pos) (fC (.int i)) := PE.imp pe_int fun σ H Q ⟨γ, Hk, d, γ2, o, e, q⟩ => by
  cases e; exact q _ H Hk (Go.refl o) (.int i)
theorem ev_str {X : Cx} {x j pos} : EV X (.Constant (.str x) j pos) (fC (.str x)) := PE.imp pe_str fun σ H Q ⟨γ, Hk, d, γ2, o, e, q⟩ => by
  cases e; exact q _ H Hk (Go.refl o) (.str x)
theorem ev_bl {X : Cx} {b j pos} : EV X (.Constant (.bool b) j pos) (fC (.bool b)) := PE.imp pe_bl fun σ H Q ⟨γ, Hk, d, γ2, o, e, q⟩ => by
  cases e; exact q _ H Hk (Go.refl o) (.bl b)
theorem ev_non {X : Cx} {j pos} : EV X (.Constant .none j pos) (fC .none) := PE.imp pe_non fun σ H Q ⟨γ, Hk, d, γ2, o, e, q⟩ => by
  cases e; exact q _ H Hk (Go.refl o) .non
end DN
namespace DN
open PySem PySem.Spec PyProof.Rows L2
/-! ### two operands -/
/-- an operation by values, as data -/
def Op2 (K : PySem.W.Frag) (r : R2) (op : D → D → Option D) : Prop :=
  ∀ H Hk x y dx dy dz (Q : VK), Same Hk H → Vw K H Hk x dx → Vw K H Hk y dy → op dx dy = some dz → (∀ v H2 Hk2, Grow H Hk H2 Hk2 → Dp K Hk2 v dz → Q v H2) → r x y H Q
@[simp] def f2 (op : D → D → Option D) (f g : Fe) : Fe := fun γ => match f γ with
  | some (x, γ1) => match g γ1 with
    | some (y, γ2) => match op x y with
      | some z => some (z, γ2)
      | none => none
    | none => none
  | none => none
/-- the first a name -/
@[simp] def f2n (op : D → D → Option D) (i : Nat) (g : Fe) : Fe := fun γ => match view γ i with
  | some _ => match g γ with
    | some (y, γ2) => match view γ2 i with
      | some x => match op x y with
        | some z => some (z, γ2)
        | none => none
      | none => none
    | none => none
  | none => none
@[simp] def f2m (op : D → D → Option D) (f : Fe) (j : Nat) : Fe := fun γ => match f γ with
  | some (x, γ2) => match view γ2 j with
    | some y => match op x y with
      | some z => some (z, γ2)
      | none => none
    | none => none
  | none => none
@[simp] def f2nn (op : D → D → Option D) (i j : Nat) : Fe := fun γ => match view γ i with
  | some x => match view γ j with
    | some y => match op x y with
      | some z => some (z, γ)
      | none => none
    | none => none
  | none => none
section
variable {K : PySem.W.Frag} {r : R2} {op : D → D → Option D} {f g : Fe} {σ : L2.St} {H : Hp} {Q : VK}
theorem t2 (o : Op2 K r op) (h : tI K (f2 op f g) σ H Q) : tOp r (tI K f) (tI K g) σ H Q := by
  obtain ⟨γ, Hk, d, γ2, ok, e, q⟩ := h
  unfold f2 at e
  split at e
  · rename_i x γ1 ef
    split at e
    · rename_i y γ2' eg
      split at e
      · rename_i z eo
        cases e
        refine ⟨γ, Hk, x, γ1, ok, ef, fun v H1 Hk1 g1 r1 => ⟨γ1, Hk1, y, γ2, g1.ok, eg, fun u H2 Hk2 g2 r2 => ?_⟩⟩
        exact o H2 Hk2 v u x y d Q g2.ok.sub (.inl (dp_mono g2.kk r1)) (.inl r2) eo fun w H3 Hk3 g3 r3 => q w H3 Hk3 ((g1.trans g2).trans (g2.ok.go g3)) r3
      · cases e
    · cases e
  · cases e
theorem t2n {i : Nat} (o : Op2 K r op) (h : tI K (f2n op i g) σ H Q) : tOp r (tVar i) (tI K g) σ H Q := by
  obtain ⟨γ, Hk, d, γ2, ok, e, q⟩ := h
  unfold f2n at e
  split at e
  · rename_i x0 ev0
    split at e
    · rename_i y γ2' eg
      split at e
      · rename_i x ev
        split at e
        · rename_i z eo
          cases e
          obtain ⟨v, e1, _⟩ := ok.view ev0
          refine ⟨v, e1, γ, Hk, y, γ2, ok, eg, fun u H2 Hk2 g2 r2 => ?_⟩
          obtain ⟨v', e2, w⟩ := g2.ok.view ev
          rw [e1] at e2; cases e2
          exact o H2 Hk2 v u x y d Q g2.ok.sub w (.inl r2) eo fun w H3 Hk3 g3 r3 => q w H3 Hk3 (g2.trans (g2.ok.go g3)) r3
        · cases e
      · cases e
    · cases e
  · cases e
theorem t2m {j : Nat} (o : Op2 K r op) (h : tI K (f2m op f j) σ H Q) : tOp r (tI K f) (tVar j) σ H Q := by
  obtain ⟨γ, Hk, d, γ2, ok, e, q⟩ := h
  unfold f2m at e
  split at e
  · rename_i x γ2' ef
    split at e
    · rename_i y ev
      split at e
      · rename_i z eo
        cases e
        refine ⟨γ, Hk, x, γ2, ok, ef, fun v H1 Hk1 g1 r1 => ?_⟩
        obtain ⟨u, e2, w⟩ := g1.ok.view ev
        exact ⟨u, e2, o H1 Hk1 v u x y d Q g1.ok.sub (.inl r1) w eo fun w H3 Hk3 g3 r3 => q w H3 Hk3 (g1.trans (g1.ok.go g3)) r3⟩
      · cases e
    · cases e
  · cases e
theorem t2nn {i j : Nat} (o : Op2 K r op) (h : tI K (f2nn op i j) σ H Q) : tOp r (tVar i) (tVar j) σ H Q := by
  obtain ⟨γ, Hk, d, γ2, ok, e, q⟩ := h
  unfold f2nn at e
  split at e
  · rename_i x ex
    split at e
    · rename_i y ey
      split at e
      · rename_i z eo
        cases e
        obtain ⟨v, e1, w1⟩ := ok.view ex
        obtain ⟨u, e2, w2⟩ := ok.view ey
        exact ⟨v, e1, u, e2, o H Hk v u x y d Q ok.sub w1 w2 eo fun w H3 Hk3 g3 r3 => q w H3 Hk3 (ok.go g3) r3⟩
      · cases e
    · cases e
  · cases e
end

/-! ### what is read of values that are data -/
section
variable {X : Cx} {pins : List (Addr × Obj)} {σ : L2.St} {H : Hp} {s : Shared}
mutual
theorem Dp.reads (I : Inv X pins σ H s) : ∀ {d : D} {v : V} {u : Value}, Dp X.K H v d → RelV v u → ∃ as, Reads s.heap u d as
  | _, _, _, .non, r => by
    cases r
    exact ⟨_, Reads.none⟩
  | _, _, _, .bl b, r => by
    cases r
    exact ⟨_, Reads.bool b⟩
  | _, _, _, .int i, r => by
    obtain ⟨t, rfl⟩ := r
    exact ⟨_, Reads.int i t⟩
  | _, _, _, .str x, r => by
    obtain ⟨t, rfl⟩ := r
    exact ⟨_, Reads.str x t⟩
  | _, _, _, .lst hs ha, r => by
    cases r
    obtain ⟨its, rv, ⟨o, n, ho, hc, _, hd⟩, _⟩ := I.list hs
    obtain ⟨as, hr⟩ := Dp.readsAll I ha rv
    exact ⟨_, Reads.list ho hc hd hr⟩
  | _, _, _, .tup hs ha, r => by
    cases r
    obtain ⟨its, rv, ⟨o, ho, hc, n, hd⟩, _⟩ := I.tuple hs
    obtain ⟨as, hr⟩ := Dp.readsAll I ha rv
    exact ⟨_, Reads.tuple ho hc hd hr⟩
  | _, _, _, .dct h1 h2 h3 h4 h5 h6, r => by
    cases r
    obtain ⟨ho, _, _⟩ := I.hok _ _ h1
    obtain ⟨hx, es, ep, hd, he⟩ := h2
    obtain ⟨as, bs, r1, r2⟩ := Dp.readsEnts I h3
    exact ⟨_, Reads.dict ho hx.1 hd (by rw [he, List.map_map]; exact r1) (by rw [he, List.map_map]; exact r2)⟩
theorem Dp.readsAll (I : Inv X pins σ H s) : ∀ {ds : List D} {vs : List V} {us : List Value}, DpAll X.K H vs ds → Vals vs us → ∃ as, ReadsAll s.heap us ds as
  | _, _, _, .nil, r => by
    cases r
    exact ⟨_, ReadsAll.nil⟩
  | _, _, _, .cons h1 h2, r => by
    cases r with
    | cons r1 r2 =>
      obtain ⟨as, q1⟩ := Dp.reads I h1 r1
      obtain ⟨bs, q2⟩ := Dp.readsAll I h2 r2
      exact ⟨_, ReadsAll.cons q1 q2⟩
theorem Dp.readsEnts (I : Inv X pins σ H s) : ∀ {xs : List (NestedKey × Addr × Value)} {kvs : List (D × D)}, DpEnts X.K H xs kvs → ∃ as bs, ReadsAll s.heap (xs.map ((fun e : DictEntry => e.key) ∘ entN)) (kvs.map (·.1)) as ∧ ReadsAll s.heap (xs.map ((fun e : DictEntry => e.val) ∘ entN)) (kvs.map (·.2)) bs
  | _, _, .nil => ⟨_, _, ReadsAll.nil, ReadsAll.nil⟩
  | _, _, .cons (a := a) h1 h2 h3 h4 h5 => by
    obtain ⟨as, q1⟩ := Dp.reads I h2 (u := .ref a) rfl
    obtain ⟨bs, q2⟩ := Dp.reads I h4 h3
    obtain ⟨cs, ds, q3, q4⟩ := Dp.readsEnts I h5
    exact ⟨_, _, ReadsAll.cons q1 q3, ReadsAll.cons q2 q4⟩
end
end
section
variable {X : Cx}
def rEqN (K : PySem.W.Frag) : R2 := fun x y H Q => ∃ d e, Dp K H x d ∧ Dp K H y e ∧ SeqAt.shaped d = true ∧ SeqAt.shaped e = true ∧ Q (.bl (PyData.eqv d e)) H
def rNeN (K : PySem.W.Frag) : R2 := fun x y H Q => ∃ d e, Dp K H x d ∧ Dp K H y e ∧ SeqAt.shaped d = true ∧ SeqAt.shaped e = true ∧ Q (.bl (!PyData.eqv d e)) H
theorem op_eqN (hu : X.A.units + 64 < cLine) : OpR X (compareOp .Eq) (rEqN X.K) := by
  intro pins s σ H x y v u Q I rx ry h
  obtain ⟨d, e, hd, he, sd, se, q⟩ := h
  obtain ⟨as, r1⟩ := Dp.reads I hd rx
  obtain ⟨bs, r2⟩ := Dp.reads I he ry
  exact SeqAt.compareEq_shaped r1 r2 sd se hu ⟨.bl _, H, I, rfl, q⟩
theorem op_neN (hu : X.A.units + 64 < cLine) : OpR X (compareOp .NotEq) (rNeN X.K) := by
  intro pins s σ H x y v u Q I rx ry h
  obtain ⟨d, e, hd, he, sd, se, q⟩ := h
  obtain ⟨as, r1⟩ := Dp.reads I hd rx
  obtain ⟨bs, r2⟩ := Dp.reads I he ry
  exact SeqAt.compareNe_shaped r1 r2 sd se hu ⟨.bl _, H, I, rfl, q⟩
end
/-! ### the operations -/
@[simp] def okN (n : Nat) : Bool := decide (n ≤ 1000000)
theorem okN_line {n : Nat} (h : okN n = true) : n ≤ sizeLine := Nat.le_trans (of_decide_eq_true h) (by decide)
theorem okN_lt {n : Nat} (h : okN n = true) : n < sizeLine := Nat.lt_of_le_of_lt (of_decide_eq_true h) (by decide)
@[simp] def addD : D → D → Option D
  | .int i, .int j => some (.int (i + j))
  | .str a, .str b => if okN (a.length + b.length) then some (.str (a ++ b)) else none
  | .tuple a, .tuple b => if okN (a.length + b.length) then some (.tuple (a ++ b)) else none
  | .list a, .list b => if okN (a.length + b.length) then some (.list (a ++ b)) else none
  | _, _ => none
@[simp] def subD : D → D → Option D
  | .int i, .int j => some (.int (i - j))
  | _, _ => none
def mulD : D → D → Option D
  | .int i, .int j => if decide (i.natAbs < 2 ^ 64) || decide (j.natAbs < 2 ^ 64) || decide (i.natAbs.log2 + j.natAbs.log2 < 1000000) then some (.int (i * j)) else none
  | _, _ => none
@[simp] def fdivD : D → D → Option D
  | .int i, .int j => if decide (0 < j) && decide (j < 1073741824) then some (.int (i / j)) else none
  | _, _ => none
@[simp] def modD : D → D → Option D
  | .int i, .int j => if decide (0 < j) then some (.int (i % j)) else none
  | _, _ => none
@[simp] def powD : D → D → Option D
  | .int i, .int j => if decide (0 ≤ j) && decide (j ≤ 64) && decide (i.natAbs < 1000) then some (.int (i ^ j.toNat)) else none
  | _, _ => none
@[simp] def cmpI (p : Int → Int → Bool) (ps : Str → Str → Bool) : D → D → Option D
  | .int i, .int j => some (.bool (p i j))
  | .str a, .str b => some (.bool (ps a b))
  | _, _ => none
abbrev ltD := cmpI (fun i j => decide (i < j)) fun a b => decide (a.cps.toList < b.cps.toList)
abbrev leD := cmpI (fun i j => decide (i ≤ j)) fun a b => !decide (b.cps.toList < a.cps.toList)
abbrev gtD := cmpI (fun i j => decide (j < i)) fun a b => decide (b.cps.toList < a.cps.toList)
abbrev geD := cmpI (fun i j => decide (j ≤ i)) fun a b => !decide (a.cps.toList < b.cps.toList)
def eqD : D → D → Option D
  | .int i, .int j => some (.bool (decide (i = j)))
  | .str a, .str b => some (.bool (decide (a = b)))
  | .bool a, .bool b => some (.bool (decide (a = b)))
  | x, y => if SeqAt.shaped x && SeqAt.shaped y then some (.bool (PyData.eqv x y)) else none
def neD : D → D → Option D
  | .int i, .int j => some (.bool (!decide (i = j)))
  | .str a, .str b => some (.bool (!decide (a = b)))
  | .bool a, .bool b => some (.bool (!decide (a = b)))
  | x, y => if SeqAt.shaped x && SeqAt.shaped y then some (.bool (!PyData.eqv x y)) else none
def isNo : D → Bool
  | .none => true
  | _ => false
@[simp] def isNd : D → D → Option D
  | x, .none => some (.bool (isNo x))
  | _, _ => none
@[simp] def notNd : D → D → Option D
  | x, .none => some (.bool (!isNo x))
  | _, _ => none
@[simp] def ixD : D → D → Option D
  | .list xs, .int i => atI xs i
  | .tuple xs, .int i => atI xs i
  | .str z, .int i => if okN z.length then (atI z.cps.toList i).map fun c => .str ⟨#[c]⟩ else none
  | _, _ => none
def rCatL (K : PySem.W.Frag) : R2 := fun x y H Q => ∃ l b xs ys, x = .ref l ∧ y = .ref b ∧ SqL K H l xs ∧ SqL K H b ys ∧ xs.length + ys.length ≤ sizeLine ∧ ∀ p, H p = none → Q (.ref p) (upd H p (.lst (xs ++ ys)))
theorem op_catL {X : Cx} : OpR X (binaryOp .Add) (rCatL X.K) := by
  intro pins s σ H x y v u Q I rx ry h
  obtain ⟨l, b, xs, ys, rfl, rfl, hl, hb, hz, q⟩ := h
  cases rx
  cases ry
  obtain ⟨its, r1, p1, _⟩ := I.list hl
  obtain ⟨its2, r2, p2, _⟩ := I.list hb
  have l1 := r1.length
  have l2 := r2.length
  obtain ⟨⟨cls, dd, data, sl⟩, ho, hc, n, hd⟩ := id p1.isList
  obtain ⟨⟨cls2, dd2, data2, sl2⟩, ho2, hc2, n2, hd2⟩ := id p2.isList
  simp only at hc hd hc2 hd2
  subst hc hd hc2 hd2
  have e : its.toArray ++ its2.toArray = (its ++ its2).toArray := by simp
  refine concat_meets ⟨_, ho, rfl⟩ ⟨_, ho2, rfl⟩ noFill_list_add seq_list_add PySem.F.slot_list_add PySem.F.entry_list_add (PySem.F.args_list_add_2 _ _) (list_addW l b its.toArray its2.toArray n n2 dd dd2 sl sl2 (by simp; omega)) ⟨ho, ho2, ?_⟩
  rw [e]
  refine ⟨.ref _, _, I.laid (t' := s.toks) (o := .lst (xs ++ ys)) (fun b ob q => Heap.get?_push_of_some _ q) (Nat.le_refl _) ?_, rfl, q _ (I.hok.fresh (Nat.le_refl _))⟩
  exact ⟨by rw [List.length_append]; omega, _, 0, r1.append r2, Heap.get?_push_size _ rfl⟩
abbrev rAdd (K : PySem.W.Frag) : R2 := fun x y H Q => rI0 (fun i j => .int (i + j)) x y H Q ∨ (∃ i j, x = .str i ∧ y = .str j ∧ i.length + j.length ≤ sizeLine ∧ Q (.str (i ++ j)) H) ∨ rCatA K x y H Q ∨ rCatL K x y H Q
section
variable {K : PySem.W.Frag}
theorem nil_of {vs : List V} {ds : List D} {H : Hp} (h : DpAll K H vs ds) : vs = [] ↔ ds = [] := by
  cases h <;> simp
theorem o_add : Op2 K (rAdd K) addD := by
  intro H Hk x y dx dy dz Q s vx vy e q
  unfold addD at e
  split at e
  · cases e
    cases vx.int; cases vy.int
    exact .inl ⟨_, _, rfl, rfl, q _ H Hk (Grow.refl s) (.int _)⟩
  · split at e
    · rename_i c
      cases e
      cases vx.str; cases vy.str
      exact .inr (.inl ⟨_, _, rfl, rfl, okN_line c, q _ H Hk (Grow.refl s) (.str _)⟩)
    · cases e
  · rename_i as bs
    split at e
    · rename_i c
      cases e
      obtain ⟨p, vs, rfl, sp, ap⟩ := vx.tup s
      obtain ⟨u, ws, rfl, su, au⟩ := vy.tup s
      refine .inr (.inr (.inl ⟨p, u, vs, ws, rfl, rfl, sp, su, by rw [dps_len ap, dps_len au]; exact okN_line c, fun n => ?_, fun _ n => ?_, fun _ _ t ht => ?_⟩))
      · cases (nil_of ap).1 n
        rw [List.nil_append] at q
        exact q _ H Hk (Grow.refl s) (vy.flat (fun _ => nofun) (fun _ => nofun))
      · cases (nil_of au).1 n
        rw [List.append_nil] at q
        exact q _ H Hk (Grow.refl s) (vx.flat (fun _ => nofun) (fun _ => nofun))
      · have g : Grow H Hk (upd H t (.tup (vs ++ ws))) (upd Hk t (.tup (vs ++ ws))) := Grow.new s ht
        exact q _ _ _ g (.tup (SqT.of upd_same) (dps_mono g.kk (dps_app ap au)))
    · cases e
  · rename_i as bs
    split at e
    · rename_i c
      cases e
      obtain ⟨p, vs, rfl, sp, ap⟩ := vx.lst s
      obtain ⟨u, ws, rfl, su, au⟩ := vy.lst s
      refine .inr (.inr (.inr ⟨p, u, vs, ws, rfl, rfl, sp, su, by rw [dps_len ap, dps_len au]; exact okN_line c, fun t ht => ?_⟩))
      have g : Grow H Hk (upd H t (.lst (vs ++ ws))) (upd Hk t (.lst (vs ++ ws))) := Grow.new s ht
      exact q _ _ _ g (.lst (SqL.of upd_same) (dps_mono g.kk (dps_app ap au)))
    · cases e
  · cases e
theorem o_I0 {k : Int → Int → V} {op : D → D → Option D} (h : ∀ dx dy dz, op dx dy = some dz → ∃ i j, dx = .int i ∧ dy = .int j ∧ ∀ H, Dp K H (k i j) dz) : Op2 K (rI0 k) op := by
  intro H Hk x y dx dy dz Q s vx vy e q
  obtain ⟨i, j, rfl, rfl, hd⟩ := h _ _ _ e
  cases vx.int; cases vy.int
  exact ⟨i, j, rfl, rfl, q _ H Hk (Grow.refl s) (hd _)⟩
theorem o_I {C : Int → Int → Prop} {k : Int → Int → V} {op : D → D → Option D} (h : ∀ dx dy dz, op dx dy = some dz → ∃ i j, dx = .int i ∧ dy = .int j ∧ C i j ∧ ∀ H, Dp K H (k i j) dz) : Op2 K (rI C k) op := by
  intro H Hk x y dx dy dz Q s vx vy e q
  obtain ⟨i, j, rfl, rfl, hc, hd⟩ := h _ _ _ e
  cases vx.int; cases vy.int
  exact ⟨i, j, rfl, rfl, hc, q _ H Hk (Grow.refl s) (hd _)⟩
theorem o_sub : Op2 K (rI0 fun i j => .int (i - j)) subD := o_I0 fun dx dy dz e => by
  unfold subD at e
  split at e <;> cases e
  exact ⟨_, _, rfl, rfl, fun _ => .int _⟩
abbrev CMul2 (i j : Int) : Prop := CMul i j ∨ CMulW i j
theorem o_mul : Op2 K (rI CMul2 fun i j => .int (i * j)) mulD := o_I fun dx dy dz e => by
  unfold mulD at e
  split at e
  · split at e <;> cases e
    rename_i c
    simp only [Bool.or_eq_true, decide_eq_true_eq] at c
    refine ⟨_, _, rfl, rfl, ?_, fun _ => .int _⟩
    rcases c with (c | c) | c
    · exact .inl (.inl ⟨by omega, by omega⟩)
    · exact .inl (.inr ⟨by omega, by omega⟩)
    · exact .inr c
  · cases e
theorem o_fdiv : Op2 K (rI CDiv fun i j => .int (i / j)) fdivD := o_I fun dx dy dz e => by
  unfold fdivD at e
  split at e
  · split at e <;> cases e
    rename_i c
    simp only [Bool.and_eq_true, decide_eq_true_eq] at c
    exact ⟨_, _, rfl, rfl, c, fun _ => .int _⟩
  · cases e
theorem o_mod : Op2 K (rI (fun _ j => 0 < j) fun i j => .int (i % j)) modD := o_I fun dx dy dz e => by
  unfold modD at e
  split at e
  · split at e <;> cases e
    rename_i c
    exact ⟨_, _, rfl, rfl, of_decide_eq_true c, fun _ => .int _⟩
  · cases e
theorem o_pow : Op2 K (rI CPow fun i j => .int (i ^ j.toNat)) powD := o_I fun dx dy dz e => by
  unfold powD at e
  split at e
  · split at e <;> cases e
    rename_i c
    simp only [Bool.and_eq_true, decide_eq_true_eq] at c
    exact ⟨_, _, rfl, rfl, ⟨c.1.1, by omega, by have := c.2; omega⟩, fun _ => .int _⟩
  · cases e
abbrev rCm (p : Int → Int → Bool) (ps : Str → Str → Bool) : R2 := fun x y H Q => rI0 (fun i j => .bl (p i j)) x y H Q ∨ ∃ i j, x = .str i ∧ y = .str j ∧ Q (.bl (ps i j)) H
theorem o_cmp {p : Int → Int → Bool} {ps : Str → Str → Bool} : Op2 K (rCm p ps) (cmpI p ps) := by
  intro H Hk x y dx dy dz Q s vx vy e q
  unfold cmpI at e
  split at e
  · cases e
    cases vx.int; cases vy.int
    exact .inl ⟨_, _, rfl, rfl, q _ H Hk (Grow.refl s) (.bl _)⟩
  · cases e
    cases vx.str; cases vy.str
    exact .inr ⟨_, _, rfl, rfl, q _ H Hk (Grow.refl s) (.bl _)⟩
  · cases e
abbrev rEq2 (K : PySem.W.Frag) : R2 := fun x y H Q => rEq x y H Q ∨ rEqN K x y H Q
abbrev rNe2 (K : PySem.W.Frag) : R2 := fun x y H Q => rNe x y H Q ∨ rNeN K x y H Q
theorem o_eq : Op2 K (rEq2 K) eqD := by
  intro H Hk x y dx dy dz Q s vx vy e q
  unfold eqD at e
  split at e
  · cases e; cases vx.int; cases vy.int
    exact .inl ⟨rfl, by simpa using q _ H Hk (Grow.refl s) (.bl _)⟩
  · cases e; cases vx.str; cases vy.str
    exact .inl ⟨rfl, by simpa using q _ H Hk (Grow.refl s) (.bl _)⟩
  · cases e; cases vx.bl; cases vy.bl
    exact .inl ⟨rfl, by simpa using q _ H Hk (Grow.refl s) (.bl _)⟩
  · split at e <;> cases e
    rename_i c
    rw [Bool.and_eq_true] at c
    exact .inr ⟨_, _, vx.dp s, vy.dp s, c.1, c.2, q _ H Hk (Grow.refl s) (.bl _)⟩
theorem o_ne : Op2 K (rNe2 K) neD := by
  intro H Hk x y dx dy dz Q s vx vy e q
  unfold neD at e
  split at e
  · cases e; cases vx.int; cases vy.int
    exact .inl ⟨rfl, by simpa using q _ H Hk (Grow.refl s) (.bl _)⟩
  · cases e; cases vx.str; cases vy.str
    exact .inl ⟨rfl, by simpa using q _ H Hk (Grow.refl s) (.bl _)⟩
  · cases e; cases vx.bl; cases vy.bl
    exact .inl ⟨rfl, by simpa using q _ H Hk (Grow.refl s) (.bl _)⟩
  · split at e <;> cases e
    rename_i c
    rw [Bool.and_eq_true] at c
    exact .inr ⟨_, _, vx.dp s, vy.dp s, c.1, c.2, q _ H Hk (Grow.refl s) (.bl _)⟩
theorem Vw.isNo {H Hk : Hp} {v : V} {d : D} (h : Vw K H Hk v d) : decide (v = .non) = isNo d := by
  rcases h with h | ⟨p, vs, ds, rfl, rfl, hp, a⟩ | ⟨p, o, xs, kvs, rfl, rfl, _⟩
  · cases h <;> first | rfl | (simp <;> rfl)
  · simp <;> rfl
  · simp <;> rfl
theorem o_isN : Op2 K (fun x y H Q => y = .non ∧ Q (.bl (decide (x = .non))) H) isNd := by
  intro H Hk x y dx dy dz Q s vx vy e q
  unfold isNd at e
  split at e <;> cases e
  refine ⟨vy.non, ?_⟩
  rw [vx.isNo]
  exact q _ H Hk (Grow.refl s) (.bl _)
theorem o_notN : Op2 K (fun x y H Q => y = .non ∧ Q (.bl (!decide (x = .non))) H) notNd := by
  intro H Hk x y dx dy dz Q s vx vy e q
  unfold notNd at e
  split at e <;> cases e
  refine ⟨vy.non, ?_⟩
  rw [vx.isNo]
  exact q _ H Hk (Grow.refl s) (.bl _)
theorem atI_dps {H : Hp} {vs : List V} {ds : List D} {i : Int} {d : D} (a : DpAll K H vs ds) (e : atI ds i = some d) : ∃ v, atI vs i = some v ∧ Dp K H v d := by
  unfold atI at e ⊢
  rw [dps_len a]
  cases h : ixN ds.length i with
  | none => rw [h] at e; cases e
  | some j =>
    rw [h] at e
    exact dps_at a e
theorem o_ix : Op2 K (rIx K) ixD := by
  intro H Hk x y dx dy dz Q s vx vy e q
  unfold ixD at e
  split at e
  · cases vy.int
    obtain ⟨p, vs, rfl, sp, ap⟩ := vx.lst s
    obtain ⟨v, ev, r⟩ := atI_dps ap e
    exact .inl ⟨p, vs, _, v, rfl, rfl, sp, ev, q _ H Hk (Grow.refl s) r⟩
  · cases vy.int
    obtain ⟨p, vs, rfl, sp, ap⟩ := vx.tup s
    obtain ⟨v, ev, r⟩ := atI_dps ap e
    exact .inr (.inl ⟨p, vs, _, v, rfl, rfl, sp, ev, q _ H Hk (Grow.refl s) r⟩)
  · cases vy.int; cases vx.str
    split at e
    · rename_i c
      obtain ⟨ch, e1, e2⟩ := Option.map_eq_some_iff.mp e
      cases e2
      exact .inr (.inr ⟨_, _, ch, rfl, rfl, okN_line c, e1, q _ H Hk (Grow.refl s) (.str _)⟩)
    · cases e
  · cases e
end
/-! ### for simp -/
@[simp] theorem simp_ix1 {α : Type} (xs : List α) (i : Int) : atI xs i = (ixN xs.length i).bind fun j => xs[j]? := rfl
@[simp] theorem simp_ix2 (n : Nat) (i : Int) : ixN n i = if 0 ≤ i then (if i < n then some i.toNat else none) else if -(n : Int) ≤ i then some (i + n).toNat else none := rfl
@[simp] theorem mulD_l (i j : Int) (h : i.natAbs < 2 ^ 64) : mulD (.int i) (.int j) = some (.int (i * j)) := by
  simp [mulD, h]
@[simp] theorem mulD_r (i j : Int) (h : j.natAbs < 2 ^ 64) : mulD (.int i) (.int j) = some (.int (i * j)) := by
  simp [mulD, h]
end DN
namespace DN
open PySem PySem.Spec PyProof.Rows L2
/-! ### expressions of two operands -/
section
variable {X : Cx} {a b : Expr} {f g : Fe} {r : R2} {fop : D → D → Option D} {pos : Pos}
theorem ev2 {op : Operator} (o : OpR X (binaryOp op) r) (s : Op2 X.K r fop) (ha : EV X a f) (hb : EV X b g) : EV X (.BinOp a op b pos) (f2 fop f g) := PE.imp (pe_op o ha hb) fun _ _ _ h => t2 s h
theorem ev2n {op : Operator} {i : Nat} (o : OpR X (binaryOp op) r) (s : Op2 X.K r fop) (ha : PE X a (tVar i)) (hb : EV X b g) : EV X (.BinOp a op b pos) (f2n fop i g) := PE.imp (pe_op o ha hb) fun _ _ _ h => t2n s h
theorem ev2m {op : Operator} {j : Nat} (o : OpR X (binaryOp op) r) (s : Op2 X.K r fop) (ha : EV X a f) (hb : PE X b (tVar j)) : EV X (.BinOp a op b pos) (f2m fop f j) := PE.imp (pe_op o ha hb) fun _ _ _ h => t2m s h
theorem ev2nn {op : Operator} {i j : Nat} (o : OpR X (binaryOp op) r) (s : Op2 X.K r fop) (ha : PE X a (tVar i)) (hb : PE X b (tVar j)) : EV X (.BinOp a op b pos) (f2nn fop i j) := PE.imp (pe_op o ha hb) fun _ _ _ h => t2nn s h
theorem ec2 {op : CmpOp} (o : OpR X (compareOp op) r) (s : Op2 X.K r fop) (hm : behindInMarks op b = false) (ha : EV X a f) (hb : EV X b g) : EV X (.Compare a [op] [b] pos) (f2 fop f g) := PE.imp (pe_cmpR o ha hb hm) fun _ _ _ h => t2 s h
theorem ec2n {op : CmpOp} {i : Nat} (o : OpR X (compareOp op) r) (s : Op2 X.K r fop) (hm : behindInMarks op b = false) (ha : PE X a (tVar i)) (hb : EV X b g) : EV X (.Compare a [op] [b] pos) (f2n fop i g) := PE.imp (pe_cmpR o ha hb hm) fun _ _ _ h => t2n s h
theorem ec2m {op : CmpOp} {j : Nat} (o : OpR X (compareOp op) r) (s : Op2 X.K r fop) (hm : behindInMarks op b = false) (ha : EV X a f) (hb : PE X b (tVar j)) : EV X (.Compare a [op] [b] pos) (f2m fop f j) := PE.imp (pe_cmpR o ha hb hm) fun _ _ _ h => t2m s h
theorem ec2nn {op : CmpOp} {i j : Nat} (o : OpR X (compareOp op) r) (s : Op2 X.K r fop) (hm : behindInMarks op b = false) (ha : PE X a (tVar i)) (hb : PE X b (tVar j)) : EV X (.Compare a [op] [b] pos) (f2nn fop i j) := PE.imp (pe_cmpR o ha hb hm) fun _ _ _ h => t2nn s h
theorem eix (ha : EV X a f) (hb : EV X b g) (hs : PlainIx b) : EV X (.Subscript a b pos) (f2 ixD f g) := PE.imp (pe_ix ix_seq ha hb hs) fun _ _ _ h => t2 o_ix h
theorem eixn {i : Nat} (ha : PE X a (tVar i)) (hb : EV X b g) (hs : PlainIx b) : EV X (.Subscript a b pos) (f2n ixD i g) := PE.imp (pe_ix ix_seq ha hb hs) fun _ _ _ h => t2n o_ix h
theorem eixm {j : Nat} (ha : EV X a f) (hb : PE X b (tVar j)) (hs : PlainIx b) : EV X (.Subscript a b pos) (f2m ixD f j) := PE.imp (pe_ix ix_seq ha hb hs) fun _ _ _ h => t2m o_ix h
theorem eixnn {i j : Nat} (ha : PE X a (tVar i)) (hb : PE X b (tVar j)) (hs : PlainIx b) : EV X (.Subscript a b pos) (f2nn ixD i j) := PE.imp (pe_ix ix_seq ha hb hs) fun _ _ _ h => t2nn o_ix h
end
theorem x_add {X : Cx} : OpR X (binaryOp .Add) (rAdd X.K) := op_add.or (op_add_str.or (op_catA.or op_catL))
theorem x_mul {X : Cx} : OpR X (binaryOp .Mult) (rI CMul2 fun i j => .int (i * j)) := by
  intro pins s σ H x y v u Q I rx ry h
  obtain ⟨i, j, e1, e2, c | c, q⟩ := h
  · exact op_mul pins s σ H x y v u Q I rx ry ⟨i, j, e1, e2, c, q⟩
  · exact op_mulW pins s σ H x y v u Q I rx ry ⟨i, j, e1, e2, c, q⟩
theorem x_eq {X : Cx} (hu : X.A.units + 64 < cLine) : OpR X (compareOp .Eq) (rEq2 X.K) := op_eq.or (op_eqN hu)
theorem x_ne {X : Cx} (hu : X.A.units + 64 < cLine) : OpR X (compareOp .NotEq) (rNe2 X.K) := op_ne.or (op_neN hu)
theorem x_lt {X : Cx} : OpR X (compareOp .Lt) (rCm (fun i j => decide (i < j)) fun a b => decide (a.cps.toList < b.cps.toList)) := op_lt.or op_lt_str
theorem x_le {X : Cx} : OpR X (compareOp .LtE) (rCm (fun i j => decide (i ≤ j)) fun a b => !decide (b.cps.toList < a.cps.toList)) := op_le.or op_le_str
theorem x_gt {X : Cx} : OpR X (compareOp .Gt) (rCm (fun i j => decide (j < i)) fun a b => decide (b.cps.toList < a.cps.toList)) := op_gt.or op_gt_str
theorem x_ge {X : Cx} : OpR X (compareOp .GtE) (rCm (fun i j => decide (j ≤ i)) fun a b => !decide (a.cps.toList < b.cps.toList)) := op_ge.or op_ge_str

/-! ### tests -/
abbrev Ft := En → Option (Bool × En)
def tT (K : PySem.W.Frag) (c : Ft) : TT := fun σ H Q => ∃ γ Hk b γ2, Ok K σ H Hk γ ∧ c γ = some (b, γ2) ∧ ∀ H2 Hk2, Go K σ H Hk γ σ H2 Hk2 γ2 → Q b H2
def ET (X : Cx) (e : Expr) (c : Ft) : Prop := PT X e (tT X.K c)
def EW (X : Cx) (e : Expr) (c : Ft) : Prop := PW X e (tT X.K c)
@[simp] def ofB (f : Fe) : Ft := fun γ => match f γ with
  | some (.bool b, γ2) => some (b, γ2)
  | _ => none
theorem ofB_I {K : PySem.W.Frag} {f : Fe} {σ : L2.St} {H : Hp} {Q : Bool → Hp → Prop} (h : tT K (ofB f) σ H Q) : tI K f σ H fun x H' => ∃ k, x = .bl k ∧ Q k H' := by
  obtain ⟨γ, Hk, b, γ2, o, e, q⟩ := h
  unfold ofB at e
  split at e <;> cases e
  rename_i ef
  refine ⟨γ, Hk, _, γ2, o, ef, fun v H2 Hk2 g r => ?_⟩
  cases r
  exact ⟨_, rfl, q H2 Hk2 g⟩
section
variable {X : Cx} {a b c : Expr} {rest : List Expr} {f g : Fe} {u v : Ft} {r : R2} {fop : D → D → Option D} {pos : Pos}
theorem et2 {op : CmpOp} (o : OpR X (compareOp op) r) (s : Op2 X.K r fop) (hm : behindInMarks op b = false) (ha : EV X a f) (hb : EV X b g) : ET X (.Compare a [op] [b] pos) (ofB (f2 fop f g)) := PT.imp (pt_cmpR o ha hb hm) fun _ _ _ h => t2 s (ofB_I h)
theorem et2n {op : CmpOp} {i : Nat} (o : OpR X (compareOp op) r) (s : Op2 X.K r fop) (hm : behindInMarks op b = false) (ha : PE X a (tVar i)) (hb : EV X b g) : ET X (.Compare a [op] [b] pos) (ofB (f2n fop i g)) := PT.imp (pt_cmpR o ha hb hm) fun _ _ _ h => t2n s (ofB_I h)
theorem et2m {op : CmpOp} {j : Nat} (o : OpR X (compareOp op) r) (s : Op2 X.K r fop) (hm : behindInMarks op b = false) (ha : EV X a f) (hb : PE X b (tVar j)) : ET X (.Compare a [op] [b] pos) (ofB (f2m fop f j)) := PT.imp (pt_cmpR o ha hb hm) fun _ _ _ h => t2m s (ofB_I h)
theorem et2nn {op : CmpOp} {i j : Nat} (o : OpR X (compareOp op) r) (s : Op2 X.K r fop) (hm : behindInMarks op b = false) (ha : PE X a (tVar i)) (hb : PE X b (tVar j)) : ET X (.Compare a [op] [b] pos) (ofB (f2nn fop i j)) := PT.imp (pt_cmpR o ha hb hm) fun _ _ _ h => t2nn s (ofB_I h)
/-- a value that is a bool, as a test -/
theorem et_val (h : EV X c f) (he : ∀ whole, isTrue c X.env whole = (do let v ← whole; standAt c.pos; holding [v] (truthy v)) := by intro _; rfl) : ET X c (ofB f) := PT.imp (pt_val h he) fun _ _ _ h => ofB_I h
@[simp] def cNot (u : Ft) : Ft := fun γ => match u γ with
  | some (b, γ2) => some (!b, γ2)
  | none => none
@[simp] def cAnd (u v : Ft) : Ft := fun γ => match u γ with
  | some (true, γ1) => v γ1
  | some (false, γ1) => some (false, γ1)
  | none => none
@[simp] def cOr (u v : Ft) : Ft := fun γ => match u γ with
  | some (false, γ1) => v γ1
  | some (true, γ1) => some (true, γ1)
  | none => none
theorem et_not (h : ET X a u) : ET X (.UnaryOp .Not a pos) (cNot u) := PT.imp (pt_not h) fun σ H Q ⟨γ, Hk, b, γ2, o, e, q⟩ => by
  unfold cNot at e
  split at e <;> cases e
  rename_i eu
  exact ⟨γ, Hk, _, γ2, o, eu, q⟩
theorem PW.imp {e : Expr} {t t' : TT} (h : PW X e t) (i : ∀ σ H Q, t' σ H Q → t σ H Q) : PW X e t' := ⟨fun w pins s σ H Q I q => h.run w pins s σ H Q I (i _ _ _ q)⟩
theorem and_imp' {K : PySem.W.Frag} {σ : L2.St} {H : Hp} {Q : Bool → Hp → Prop} (h : tT K (cAnd u v) σ H Q) : tAnd (tT K u) (tT K v) σ H Q := by
  obtain ⟨γ, Hk, b, γ2, o, e, q⟩ := h
  unfold cAnd at e
  split at e
  · rename_i γ1 eu
    exact ⟨γ, Hk, true, γ1, o, eu, fun H1 Hk1 g1 => iteT ⟨γ1, Hk1, b, γ2, g1.ok, e, fun H2 Hk2 g2 => q H2 Hk2 (g1.trans g2)⟩⟩
  · rename_i γ1 eu
    cases e
    exact ⟨γ, Hk, false, _, o, eu, fun H1 Hk1 g1 => iteF (q H1 Hk1 g1)⟩
  · cases e
theorem or_imp' {K : PySem.W.Frag} {σ : L2.St} {H : Hp} {Q : Bool → Hp → Prop} (h : tT K (cOr u v) σ H Q) : tOr (tT K u) (tT K v) σ H Q := by
  obtain ⟨γ, Hk, b, γ2, o, e, q⟩ := h
  unfold cOr at e
  split at e
  · rename_i γ1 eu
    exact ⟨γ, Hk, false, γ1, o, eu, fun H1 Hk1 g1 => iteF ⟨γ1, Hk1, b, γ2, g1.ok, e, fun H2 Hk2 g2 => q H2 Hk2 (g1.trans g2)⟩⟩
  · rename_i γ1 eu
    cases e
    exact ⟨γ, Hk, true, _, o, eu, fun H1 Hk1 g1 => iteT (q H1 Hk1 g1)⟩
  · cases e
theorem ew_and1 (h : ET X a u) : EW X (.BoolOp .And [a] pos) u := pw_and1 h
theorem ew_or1 (h : ET X a u) : EW X (.BoolOp .Or [a] pos) u := pw_or1 h
theorem ew_and (h : ET X a u) (hr : EW X (.BoolOp .And (b :: rest) pos) v) : EW X (.BoolOp .And (a :: b :: rest) pos) (cAnd u v) := PW.imp (pw_and h hr) fun _ _ _ h => and_imp' h
theorem ew_or (h : ET X a u) (hr : EW X (.BoolOp .Or (b :: rest) pos) v) : EW X (.BoolOp .Or (a :: b :: rest) pos) (cOr u v) := PW.imp (pw_or h hr) fun _ _ _ h => or_imp' h
theorem et_w (h : EW X c u) : ET X c u := h.pt
/-- and, or, not as values -/
@[simp] def fAnd (f g : Fe) : Fe := fun γ => match f γ with
  | some (.bool true, γ1) => g γ1
  | some (.bool false, γ1) => some (.bool false, γ1)
  | _ => none
@[simp] def fOr (f g : Fe) : Fe := fun γ => match f γ with
  | some (.bool false, γ1) => g γ1
  | some (.bool true, γ1) => some (.bool true, γ1)
  | _ => none
@[simp] def fNot (f : Fe) : Fe := fun γ => match f γ with
  | some (.bool b, γ1) => some (.bool (!b), γ1)
  | _ => none
theorem ev_one {op} (h : EV X a f) : EV X (.BoolOp op [a] pos) f := pe_one h
theorem ev_and (h : EV X a f) (hr : EV X (.BoolOp .And (b :: rest) pos) g) : EV X (.BoolOp .And (a :: b :: rest) pos) (fAnd f g) := PE.imp (pe_and h hr) fun σ H Q ⟨γ, Hk, d, γ2, o, e, q⟩ => by
  unfold fAnd at e
  split at e
  · rename_i γ1 ef
    exact ⟨γ, Hk, _, γ1, o, ef, fun w H1 Hk1 g1 r1 => by cases r1; exact ⟨true, rfl, iteT ⟨γ1, Hk1, d, γ2, g1.ok, e, fun z H2 Hk2 g2 r2 => q z H2 Hk2 (g1.trans g2) r2⟩⟩⟩
  · rename_i γ1 ef
    cases e
    exact ⟨γ, Hk, _, _, o, ef, fun w H1 Hk1 g1 r1 => by cases r1; exact ⟨false, rfl, iteF (q _ H1 Hk1 g1 (.bl _))⟩⟩
  · cases e
theorem ev_or (h : EV X a f) (hr : EV X (.BoolOp .Or (b :: rest) pos) g) : EV X (.BoolOp .Or (a :: b :: rest) pos) (fOr f g) := PE.imp (pe_or h hr) fun σ H Q ⟨γ, Hk, d, γ2, o, e, q⟩ => by
  unfold fOr at e
  split at e
  · rename_i γ1 ef
    exact ⟨γ, Hk, _, γ1, o, ef, fun w H1 Hk1 g1 r1 => by cases r1; exact ⟨false, rfl, iteF ⟨γ1, Hk1, d, γ2, g1.ok, e, fun z H2 Hk2 g2 r2 => q z H2 Hk2 (g1.trans g2) r2⟩⟩⟩
  · rename_i γ1 ef
    cases e
    exact ⟨γ, Hk, _, _, o, ef, fun w H1 Hk1 g1 r1 => by cases r1; exact ⟨true, rfl, iteT (q _ H1 Hk1 g1 (.bl _))⟩⟩
  · cases e
theorem ev_not (h : EV X a f) : EV X (.UnaryOp .Not a pos) (fNot f) := PE.imp (pe_not h) fun σ H Q ⟨γ, Hk, d, γ2, o, e, q⟩ => by
  unfold fNot at e
  split at e <;> cases e
  rename_i ef
  exact ⟨γ, Hk, _, _, o, ef, fun w H1 Hk1 g1 r1 => by cases r1; exact ⟨_, rfl, q _ H1 Hk1 g1 (.bl _)⟩⟩
@[simp] def fNeg (f : Fe) : Fe := fun γ => match f γ with
  | some (.int i, γ1) => some (.int (-i), γ1)
  | _ => none
theorem ev_neg (h : EV X a f) : EV X (.UnaryOp .USub a pos) (fNeg f) := PE.imp (pe_un un_neg h) fun σ H Q ⟨γ, Hk, d, γ2, o, e, q⟩ => by
  unfold fNeg at e
  split at e <;> cases e
  rename_i ef
  exact ⟨γ, Hk, _, _, o, ef, fun w H1 Hk1 g1 r1 => by cases r1; exact ⟨_, rfl, q _ H1 Hk1 g1 (.int _)⟩⟩
@[simp] def fIf (c : Ft) (f g : Fe) : Fe := fun γ => match c γ with
  | some (true, γ1) => f γ1
  | some (false, γ1) => g γ1
  | none => none
theorem ev_if (hc : ET X c u) (ha : EV X a f) (hb : EV X b g) : EV X (.IfExp c a b pos) (fIf u f g) := PE.imp (pe_ifExp hc ha hb) fun σ H Q ⟨γ, Hk, d, γ2, o, e, q⟩ => by
  unfold fIf at e
  split at e
  · rename_i γ1 eu
    exact ⟨γ, Hk, true, γ1, o, eu, fun H1 Hk1 g1 => iteT ⟨γ1, Hk1, d, γ2, g1.ok, e, fun z H2 Hk2 g2 r2 => q z H2 Hk2 (g1.trans g2) r2⟩⟩
  · rename_i γ1 eu
    exact ⟨γ, Hk, false, γ1, o, eu, fun H1 Hk1 g1 => iteF ⟨γ1, Hk1, d, γ2, g1.ok, e, fun z H2 Hk2 g2 r2 => q z H2 Hk2 (g1.trans g2) r2⟩⟩
  · cases e
end

/-! ### several values -/
abbrev Fa := En → Option (List D × En)
def tAd (K : PySem.W.Frag) (fa : Fa) : TA := fun σ H Q => ∃ γ Hk ds γ2, Ok K σ H Hk γ ∧ fa γ = some (ds, γ2) ∧ ∀ vs H2 Hk2, Go K σ H Hk γ σ H2 Hk2 γ2 → DpAll K Hk2 vs ds → Q vs H2
def EA (X : Cx) (es : List Expr) (fa : Fa) : Prop := PA X es (tAd X.K fa)
@[simp] def aNil : Fa := fun γ => some ([], γ)
@[simp] def aCons (f : Fe) (fa : Fa) : Fa := fun γ => match f γ with
  | some (d, γ1) => match fa γ1 with
    | some (ds, γ2) => some (d :: ds, γ2)
    | none => none
  | none => none
section
variable {X : Cx} {e a : Expr} {es : List Expr} {f : Fe} {fa : Fa} {pos : Pos}
theorem ea_nil : EA X [] aNil := PA.imp pa_nil fun σ H Q ⟨γ, Hk, ds, γ2, o, e, q⟩ => by
  cases e
  exact q [] H Hk (Go.refl o) .nil
theorem ea_cons (h : EV X e f) (hr : EA X es fa) (hs : starEach (e :: es) X.env = (false, eval e X.env) :: starEach es X.env := by rfl) : EA X (e :: es) (aCons f fa) := PA.imp (pa_cons h hr hs) fun σ H Q ⟨γ, Hk, ds, γ2, o, ee, q⟩ => by
  unfold aCons at ee
  split at ee
  · rename_i d γ1 ef
    split at ee <;> cases ee
    rename_i ds' efa
    exact ⟨γ, Hk, d, γ1, o, ef, fun v H1 Hk1 g1 r1 => ⟨γ1, Hk1, ds', γ2, g1.ok, efa, fun vs H2 Hk2 g2 r2 => q _ H2 Hk2 (g1.trans g2) (.cons (dp_mono g2.kk r1) r2)⟩⟩
  · cases ee
@[simp] def fTup (fa : Fa) : Fe := fun γ => match fa γ with
  | some (ds, γ2) => if okN ds.length then some (.tuple ds, γ2) else none
  | none => none
theorem ev_tup {x1} (h : EA X es fa) : EV X (.Tuple es x1 pos) (fTup fa) := PE.imp (pe_tup h) fun σ H Q ⟨γ, Hk, d, γ2, o, ee, q⟩ => by
  unfold fTup at ee
  split at ee
  · rename_i ds γ1 efa
    split at ee <;> cases ee
    rename_i c
    refine ⟨γ, Hk, ds, γ2, o, efa, fun vs H1 Hk1 g1 r1 => ⟨by rw [dps_len r1]; exact okN_line c, fun p hp => ?_⟩⟩
    have g2 : Grow H1 Hk1 (upd H1 p (.tup vs)) (upd Hk1 p (.tup vs)) := Grow.new g1.ok.sub hp
    exact q _ _ _ (g1.trans (g1.ok.go g2)) (.tup (SqT.of upd_same) (dps_mono g2.kk r1))
  · cases ee
/-- a new list -/
def tL (K : PySem.W.Frag) (fl : Fa) : TE := fun σ H Q => ∃ γ Hk ds γ2, Ok K σ H Hk γ ∧ fl γ = some (ds, γ2) ∧ ∀ p vs H2 Hk2, Go K σ H Hk γ σ H2 Hk2 γ2 → H2 p = none → DpAll K Hk2 vs ds → Q (.ref p) (upd H2 p (.lst vs))
def EL (X : Cx) (e : Expr) (fl : Fa) : Prop := PE X e (tL X.K fl)
@[simp] def fL (fl : Fa) : Fe := fun γ => match fl γ with
  | some (ds, γ2) => some (.list ds, γ2)
  | none => none
theorem ev_L (h : EL X e fa) : EV X e (fL fa) := PE.imp h fun σ H Q ⟨γ, Hk, d, γ2, o, ee, q⟩ => by
  unfold fL at ee
  split at ee <;> cases ee
  rename_i ds efa
  refine ⟨γ, Hk, ds, γ2, o, efa, fun p vs H2 Hk2 g hp r => ?_⟩
  have g2 : Grow H2 Hk2 (upd H2 p (.lst vs)) (upd Hk2 p (.lst vs)) := Grow.new g.ok.sub hp
  exact q _ _ _ (g.trans (g.ok.go g2)) (.lst (SqL.of upd_same) (dps_mono g2.kk r))
@[simp] def lDisp (fa : Fa) : Fa := fun γ => match fa γ with
  | some (ds, γ2) => if okN ds.length then some (ds, γ2) else none
  | none => none
theorem el_disp (h : EA X es fa) : EL X (.List es pos) (lDisp fa) := PE.imp (pe_lst h) fun σ H Q ⟨γ, Hk, d, γ2, o, ee, q⟩ => by
  unfold lDisp at ee
  split at ee
  · rename_i ds γ1 efa
    split at ee <;> cases ee
    rename_i c
    exact ⟨γ, Hk, _, γ2, o, efa, fun vs H1 Hk1 g1 r1 => ⟨by rw [dps_len r1]; exact okN_line c, fun p hp => q p vs H1 Hk1 g1 hp r1⟩⟩
  · cases ee

/-! ### built-in functions of one value -/
def Op1 (K : PySem.W.Frag) (r : V → Hp → VK → Prop) (op : D → Option D) : Prop :=
  ∀ H Hk x dx dz (Q : VK), Same Hk H → Vw K H Hk x dx → op dx = some dz → (∀ v H2 Hk2, Grow H Hk H2 Hk2 → Dp K Hk2 v dz → Q v H2) → r x H Q
@[simp] def f1 (op : D → Option D) (f : Fe) : Fe := fun γ => match f γ with
  | some (x, γ1) => match op x with
    | some z => some (z, γ1)
    | none => none
  | none => none
@[simp] def f1n (op : D → Option D) (i : Nat) : Fe := fun γ => match view γ i with
  | some x => match op x with
    | some z => some (z, γ)
    | none => none
  | none => none
theorem t1 {K : PySem.W.Frag} {r : List V → Hp → VK → Prop} {op : D → Option D} {σ : L2.St} {H : Hp} {Q : VK} (o : Op1 K (fun x => r [x]) op) (h : tI K (f1 op f) σ H Q) : tCB r (tCons (tI K f) tNil) σ H Q := by
  obtain ⟨γ, Hk, d, γ2, ok, e, q⟩ := h
  unfold f1 at e
  split at e
  · rename_i x γ1 ef
    split at e <;> cases e
    rename_i eo
    exact ⟨γ, Hk, x, _, ok, ef, fun v H1 Hk1 g1 r1 => o H1 Hk1 v x d Q g1.ok.sub (.inl r1) eo fun w H3 Hk3 g3 r3 => q w H3 Hk3 (g1.trans (g1.ok.go g3)) r3⟩
  · cases e
theorem t1n {K : PySem.W.Frag} {r : List V → Hp → VK → Prop} {op : D → Option D} {σ : L2.St} {H : Hp} {Q : VK} {i : Nat} (o : Op1 K (fun x => r [x]) op) (h : tI K (f1n op i) σ H Q) : tCB r (tCons (tVar i) tNil) σ H Q := by
  obtain ⟨γ, Hk, d, γ2, ok, e, q⟩ := h
  unfold f1n at e
  split at e
  · rename_i x ev
    split at e <;> cases e
    rename_i eo
    obtain ⟨v, e1, w⟩ := ok.view ev
    exact ⟨v, e1, o H Hk v x d Q ok.sub w eo fun w H3 Hk3 g3 r3 => q w H3 Hk3 (ok.go g3) r3⟩
  · cases e
@[simp] def lenD : D → Option D
  | .list ds => some (.int ds.length)
  | .tuple ds => some (.int ds.length)
  | .str z => if okN z.length then some (.int z.length) else none
  | _ => none
@[simp] def intD : D → Option D
  | .int i => some (.int i)
  | .bool b => some (.int (if b then 1 else 0))
  | _ => none
@[simp] def absD : D → Option D
  | .int i => some (.int (if i < 0 then -i else i))
  | _ => none
@[simp] def tupleD : D → Option D
  | .list ds => some (.tuple ds)
  | .tuple ds => some (.tuple ds)
  | _ => none
variable {K : PySem.W.Frag}
abbrev rLen (K : PySem.W.Frag) : List V → Hp → VK → Prop := fun xs H Q => (∃ p ys, xs = [.ref p] ∧ (SqL K H p ys ∨ SqT K H p ys) ∧ Q (.int ys.length) H) ∨ ∃ x n, xs = [x] ∧ LenV K x H n ∧ Q (.int n) H
theorem o_len : Op1 K (fun x => rLen K [x]) lenD := by
  intro H Hk x dx dz Q s vx e q
  unfold lenD at e
  split at e
  · cases e
    obtain ⟨p, vs, rfl, sp, ap⟩ := vx.lst s
    exact .inl ⟨p, vs, rfl, .inl sp, by rw [dps_len ap]; exact q _ H Hk (Grow.refl s) (.int _)⟩
  · cases e
    obtain ⟨p, vs, rfl, sp, ap⟩ := vx.tup s
    exact .inl ⟨p, vs, rfl, .inr sp, by rw [dps_len ap]; exact q _ H Hk (Grow.refl s) (.int _)⟩
  · split at e <;> cases e
    rename_i c
    cases vx.str
    exact .inr ⟨_, _, rfl, ⟨okN_line c, rfl⟩, q _ H Hk (Grow.refl s) (.int _)⟩
  · cases e
theorem o_int : Op1 K (fun x H Q => (fun xs H Q => (∃ i, xs = [V.int i] ∧ Q (.int i) H) ∨ ∃ k, xs = [V.bl k] ∧ Q (.int (if k then 1 else 0)) H) [x] H Q) intD := by
  intro H Hk x dx dz Q s vx e q
  unfold intD at e
  split at e <;> cases e
  · cases vx.int
    exact .inl ⟨_, rfl, q _ H Hk (Grow.refl s) (.int _)⟩
  · cases vx.bl
    exact .inr ⟨_, rfl, q _ H Hk (Grow.refl s) (.int _)⟩
theorem o_abs : Op1 K (fun x H Q => (fun xs H Q => ∃ i, xs = [V.int i] ∧ Q (.int (if i < 0 then -i else i)) H) [x] H Q) absD := by
  intro H Hk x dx dz Q s vx e q
  unfold absD at e
  split at e <;> cases e
  cases vx.int
  exact ⟨_, rfl, q _ H Hk (Grow.refl s) (.int _)⟩
theorem o_tuple : Op1 K (fun x H Q => (fun xs H Q => ∃ p ys, xs = [V.ref p] ∧ ((SqL K H p ys ∧ ∀ l, H l = none → Q (.ref l) (upd H l (.tup ys))) ∨ (SqT K H p ys ∧ Q (.ref p) H))) [x] H Q) tupleD := by
  intro H Hk x dx dz Q s vx e q
  unfold tupleD at e
  split at e <;> cases e
  · obtain ⟨p, vs, rfl, sp, ap⟩ := vx.lst s
    refine ⟨p, vs, rfl, .inl ⟨sp, fun l hl => ?_⟩⟩
    have g : Grow H Hk (upd H l (.tup vs)) (upd Hk l (.tup vs)) := Grow.new s hl
    exact q _ _ _ g (.tup (SqT.of upd_same) (dps_mono g.kk ap))
  · have vx := vx.flat (fun _ => nofun) (fun _ => nofun)
    cases vx with
    | tup h ap => exact ⟨_, _, rfl, .inr ⟨sqt_mono s h, q _ H Hk (Grow.refl s) (.tup h ap)⟩⟩
/-- f(e), f a built-in function, a built-in type -/
theorem ev_callB {x : Str} {id : String} {p : Pos} {r : List V → Hp → VK → Prop} {op : D → Option D} (o : Op1 X.K (fun x => r [x]) op) (hc : CallR X (.builtin id) r) (hm : X.mg x = none) (hg : Gl X x) (hv : bootBuiltins x = some (.builtin id)) (ha : EV X a f)
    (hn : x ≠ "__name__" := by decide) (hdb : (x == ("__debug__" : Str)) = false := by decide) (he : starEach [a] X.env = (false, eval a X.env) :: starEach [] X.env := by rfl) (hpl : (backTo pos (starEach [] X.env)).any (·.1) = false := by rfl) :
    EV X (.Call (.Name x p) [a] [] pos) (f1 op f) := PE.imp (pe_callB hc hg hm hv (pa_cons ha pa_nil he) hn hdb he hpl) fun _ _ _ h => t1 o h
theorem ev_callBn {x : Str} {id : String} {p : Pos} {i : Nat} {r : List V → Hp → VK → Prop} {op : D → Option D} (o : Op1 X.K (fun x => r [x]) op) (hc : CallR X (.builtin id) r) (hm : X.mg x = none) (hg : Gl X x) (hv : bootBuiltins x = some (.builtin id)) (ha : PE X a (tVar i))
    (hn : x ≠ "__name__" := by decide) (hdb : (x == ("__debug__" : Str)) = false := by decide) (he : starEach [a] X.env = (false, eval a X.env) :: starEach [] X.env := by rfl) (hpl : (backTo pos (starEach [] X.env)).any (·.1) = false := by rfl) :
    EV X (.Call (.Name x p) [a] [] pos) (f1n op i) := PE.imp (pe_callB hc hg hm hv (pa_cons ha pa_nil he) hn hdb he hpl) fun _ _ _ h => t1n o h
theorem ev_callT {x : Str} {id : String} {p : Pos} {r : List V → Hp → VK → Prop} {op : D → Option D} (o : Op1 X.K (fun x => r [x]) op) (hc : CallR X (.type id) r) (hm : X.mg x = none) (hg : Gl X x) (hv : bootBuiltins x = some (.type id)) (ha : EV X a f)
    (hn : x ≠ "__name__" := by decide) (hdb : (x == ("__debug__" : Str)) = false := by decide) (he : starEach [a] X.env = (false, eval a X.env) :: starEach [] X.env := by rfl) (hpl : (backTo pos (starEach [] X.env)).any (·.1) = false := by rfl) :
    EV X (.Call (.Name x p) [a] [] pos) (f1 op f) := PE.imp (pe_callTy hc hg hm hv (pa_cons ha pa_nil he) hn hdb he hpl) fun _ _ _ h => t1 o h
theorem ev_callTn {x : Str} {id : String} {p : Pos} {i : Nat} {r : List V → Hp → VK → Prop} {op : D → Option D} (o : Op1 X.K (fun x => r [x]) op) (hc : CallR X (.type id) r) (hm : X.mg x = none) (hg : Gl X x) (hv : bootBuiltins x = some (.type id)) (ha : PE X a (tVar i))
    (hn : x ≠ "__name__" := by decide) (hdb : (x == ("__debug__" : Str)) = false := by decide) (he : starEach [a] X.env = (false, eval a X.env) :: starEach [] X.env := by rfl) (hpl : (backTo pos (starEach [] X.env)).any (·.1) = false := by rfl) :
    EV X (.Call (.Name x p) [a] [] pos) (f1n op i) := PE.imp (pe_callTy hc hg hm hv (pa_cons ha pa_nil he) hn hdb he hpl) fun _ _ _ h => t1n o h
theorem x_len : CallR X (.builtin "len") (rLen X.K) := call_len_seq.or call_len
/-- list(e) -/
@[simp] def listD : D → Option (List D)
  | .list ds => some ds
  | .tuple ds => some ds
  | _ => none
@[simp] def lOf (f : Fe) : Fa := fun γ => match f γ with
  | some (x, γ1) => match listD x with
    | some z => some (z, γ1)
    | none => none
  | none => none
@[simp] def lOfn (i : Nat) : Fa := fun γ => match view γ i with
  | some x => match listD x with
    | some z => some (z, γ)
    | none => none
  | none => none
theorem listD_vw {H Hk : Hp} {v : V} {d : D} {ds : List D} (s : Same Hk H) (h : Vw K H Hk v d) (e : listD d = some ds) : ∃ p vs, v = .ref p ∧ (SqL K H p vs ∨ SqT K H p vs) ∧ DpAll K Hk vs ds := by
  unfold listD at e
  split at e <;> cases e
  · obtain ⟨p, vs, h1, h2, h3⟩ := h.lst s
    exact ⟨p, vs, h1, .inl h2, h3⟩
  · obtain ⟨p, vs, h1, h2, h3⟩ := h.tup s
    exact ⟨p, vs, h1, .inr h2, h3⟩
theorem el_list {p : Pos} (hm : X.mg "list" = none) (hg : Gl X "list") (ha : EV X a f) (he : starEach [a] X.env = (false, eval a X.env) :: starEach [] X.env := by rfl) (hpl : (backTo pos (starEach [] X.env)).any (·.1) = false := by rfl) :
    EL X (.Call (.Name "list" p) [a] [] pos) (lOf f) := PE.imp (pe_callTy call_list_of hg hm (by decide +kernel) (pa_cons ha pa_nil he) (he := he) (hpl := hpl)) fun σ H Q ⟨γ, Hk, d, γ2, o, ee, q⟩ => by
  unfold lOf at ee
  split at ee
  · rename_i x γ1 ef
    split at ee <;> cases ee
    rename_i el
    refine ⟨γ, Hk, x, γ2, o, ef, fun v H1 Hk1 g1 r1 => ?_⟩
    obtain ⟨t, vs, rfl, h1, h2⟩ := listD_vw g1.ok.sub (.inl r1) el
    exact ⟨t, vs, rfl, h1, fun l hl => q l vs H1 Hk1 g1 hl h2⟩
  · cases ee
theorem el_listn {p : Pos} {i : Nat} (hm : X.mg "list" = none) (hg : Gl X "list") (ha : PE X a (tVar i)) (he : starEach [a] X.env = (false, eval a X.env) :: starEach [] X.env := by rfl) (hpl : (backTo pos (starEach [] X.env)).any (·.1) = false := by rfl) :
    EL X (.Call (.Name "list" p) [a] [] pos) (lOfn i) := PE.imp (pe_callTy call_list_of hg hm (by decide +kernel) (pa_cons ha pa_nil he) (he := he) (hpl := hpl)) fun σ H Q ⟨γ, Hk, d, γ2, o, ee, q⟩ => by
  unfold lOfn at ee
  split at ee
  · rename_i x ev
    split at ee <;> cases ee
    rename_i el
    obtain ⟨v, e1, w⟩ := o.view ev
    obtain ⟨t, vs, rfl, h1, h2⟩ := listD_vw o.sub w el
    exact ⟨_, e1, t, vs, rfl, h1, fun l hl => q l vs H Hk (Go.refl o) hl h2⟩
  · cases ee
end

/-! ### slices -/
def cutD {α : Type} (xs : List α) (lo hi : Option Int) : List α := (xs.drop (HT.sIx xs.length 0 lo)).take (HT.sIx xs.length xs.length hi - HT.sIx xs.length 0 lo)
theorem cutD_whole {α : Type} {xs : List α} {lo hi : Option Int} (h : HT.sIx xs.length 0 lo = 0 ∧ HT.sIx xs.length xs.length hi = xs.length) : cutD xs lo hi = xs := by
  unfold cutD
  rw [h.1, h.2]
  simp
abbrev Fp := En → Option (Option Int × En)
def tPp (K : PySem.W.Frag) (fp : Fp) : TO := fun σ H Q => ∃ γ Hk o γ2, Ok K σ H Hk γ ∧ fp γ = some (o, γ2) ∧ ∀ H2 Hk2, Go K σ H Hk γ σ H2 Hk2 γ2 → Q o H2
def EP' (X : Cx) (e : Option Expr) (fp : Fp) : Prop := PO X e (tPp X.K fp)
@[simp] def pNo : Fp := fun γ => some (none, γ)
@[simp] def pOf (f : Fe) : Fp := fun γ => match f γ with
  | some (.int i, γ1) => some (some i, γ1)
  | _ => none
section
variable {X : Cx} {e : Expr} {es : List Expr} {f : Fe} {lo hi : Option Expr} {fl fh : Fp} {pos p2 : Pos} {K : PySem.W.Frag}
theorem PO.imp {e : Option Expr} {t t' : TO} (h : PO X e t) (i : ∀ σ H Q, t' σ H Q → t σ H Q) : PO X e t' := ⟨fun pins s σ H Q I q => h.run pins s σ H Q I (i _ _ _ q)⟩
theorem ep_no : EP' X none pNo := PO.imp po_none fun σ H Q ⟨γ, Hk, d, γ2, o, ee, q⟩ => by
  cases ee
  exact q H Hk (Go.refl o)
theorem ep_of (h : EV X e f) : EP' X (some e) (pOf f) := PO.imp (po_some h) fun σ H Q ⟨γ, Hk, d, γ2, o, ee, q⟩ => by
  unfold pOf at ee
  split at ee <;> cases ee
  rename_i ef
  exact ⟨γ, Hk, _, _, o, ef, fun v H1 Hk1 g1 r1 => by cases r1; exact ⟨_, rfl, q H1 Hk1 g1⟩⟩
@[simp] def slD : D → Option Int → Option Int → Option D
  | .tuple ds, lo, hi => some (.tuple (cutD ds lo hi))
  | .list ds, lo, hi => some (.list (cutD ds lo hi))
  | .str z, lo, hi => if okN z.length then some (.str (cutS z lo hi)) else none
  | _, _, _ => none
@[simp] def fSl (f : Fe) (fl fh : Fp) : Fe := fun γ => match f γ with
  | some (x, γ1) => match fl γ1 with
    | some (lo, γ2) => match fh γ2 with
      | some (hi, γ3) => match slD x lo hi with
        | some z => some (z, γ3)
        | none => none
      | none => none
    | none => none
  | none => none
@[simp] def fSln (i : Nat) (fl fh : Fp) : Fe := fun γ => match view γ i with
  | some _ => match fl γ with
    | some (lo, γ2) => match fh γ2 with
      | some (hi, γ3) => match view γ3 i with
        | some x => match slD x lo hi with
          | some z => some (z, γ3)
          | none => none
        | none => none
      | none => none
    | none => none
  | none => none
abbrev rSl (K : PySem.W.Frag) : V → Option Int → Option Int → Hp → VK → Prop := fun x lo hi H Q => rSlA K x lo hi H Q ∨ rSlL K x lo hi H Q ∨ rSlS x lo hi H Q
theorem o_sl {H Hk : Hp} {x : V} {dx dz : D} {a b : Option Int} {Q : VK} (s : Same Hk H) (vx : Vw K H Hk x dx) (e : slD dx a b = some dz) (q : ∀ v H2 Hk2, Grow H Hk H2 Hk2 → Dp K Hk2 v dz → Q v H2) : rSl K x a b H Q := by
  unfold slD at e
  split at e
  · cases e
    obtain ⟨p, vs, rfl, sp, ap⟩ := vx.tup s
    have hl := dps_len ap
    refine .inl ⟨p, vs, rfl, sp, fun hw => ?_, fun hw l hl' => ?_⟩
    · rw [hl] at hw
      rw [cutD_whole hw] at q
      exact q _ H Hk (Grow.refl s) (vx.flat (fun _ => nofun) (fun _ => nofun))
    · have g : Grow H Hk (upd H l (.tup (cutV vs a b))) (upd Hk l (.tup (cutV vs a b))) := Grow.new s hl'
      refine q _ _ _ g (.tup (SqT.of upd_same) (dps_mono g.kk ?_))
      unfold cutV cutD
      rw [hl]
      exact dps_take _ (dps_drop _ ap)
  · cases e
    obtain ⟨p, vs, rfl, sp, ap⟩ := vx.lst s
    have hl := dps_len ap
    refine .inr (.inl ⟨p, vs, rfl, sp, fun l hl' => ?_⟩)
    have g : Grow H Hk (upd H l (.lst (cutV vs a b))) (upd Hk l (.lst (cutV vs a b))) := Grow.new s hl'
    refine q _ _ _ g (.lst (SqL.of upd_same) (dps_mono g.kk ?_))
    unfold cutV cutD
    rw [hl]
    exact dps_take _ (dps_drop _ ap)
  · split at e <;> cases e
    rename_i c
    cases vx.str
    exact .inr (.inr ⟨_, rfl, okN_line c, q _ H Hk (Grow.refl s) (.str _)⟩)
  · cases e
theorem x_sl : SlR X (rSl X.K) := sl_tupA.or (sl_list.or sl_str)
theorem ev_sl (he : EV X e f) (hl : EP' X lo fl) (hh : EP' X hi fh) : EV X (.Subscript e (.Slice lo hi none p2) pos) (fSl f fl fh) := PE.imp (pe_slice x_sl he hl hh) fun σ H Q ⟨γ, Hk, d, γ2, o, ee, q⟩ => by
  unfold fSl at ee
  split at ee
  · rename_i x γ1 ef
    split at ee
    · rename_i a γa ea
      split at ee
      · rename_i b γb eb
        split at ee <;> cases ee
        rename_i es
        exact ⟨γ, Hk, x, γ1, o, ef, fun v H1 Hk1 g1 r1 => ⟨γ1, Hk1, a, γa, g1.ok, ea, fun H2 Hk2 g2 => ⟨γa, Hk2, b, _, g2.ok, eb, fun H3 Hk3 g3 =>
          o_sl g3.ok.sub (.inl (dp_mono (g2.kk.trans g3.kk) r1)) es fun w H4 Hk4 g4 r4 => q w H4 Hk4 (((g1.trans g2).trans g3).trans (g3.ok.go g4)) r4⟩⟩⟩
      · cases ee
    · cases ee
  · cases ee
theorem ev_sln {i : Nat} (he : PE X e (tVar i)) (hl : EP' X lo fl) (hh : EP' X hi fh) : EV X (.Subscript e (.Slice lo hi none p2) pos) (fSln i fl fh) := PE.imp (pe_slice x_sl he hl hh) fun σ H Q ⟨γ, Hk, d, γ2, o, ee, q⟩ => by
  unfold fSln at ee
  split at ee
  · rename_i x0 ev0
    split at ee
    · rename_i a γa ea
      split at ee
      · rename_i b γb eb
        split at ee
        · rename_i x ev
          split at ee <;> cases ee
          rename_i es
          obtain ⟨v, e1, _⟩ := o.view ev0
          refine ⟨v, e1, γ, Hk, a, γa, o, ea, fun H2 Hk2 g2 => ⟨γa, Hk2, b, _, g2.ok, eb, fun H3 Hk3 g3 => ?_⟩⟩
          obtain ⟨v', e2, w⟩ := g3.ok.view ev
          rw [e1] at e2; cases e2
          exact o_sl g3.ok.sub w es fun w H4 Hk4 g4 r4 => q w H4 Hk4 ((g2.trans g3).trans (g3.ok.go g4)) r4
        · cases ee
      · cases ee
    · cases ee
  · cases ee
end
end DN
namespace DN
open PySem PySem.Spec PyProof.Rows L2
/-! ### storing -/
def NoPin (γ : En) (i : Nat) : Prop := ∀ y, gt γ i ≠ some (.ow true y)
/-- only the first slot can be pinned -/
@[simp] def pinB (γ : En) : Nat → Bool
  | 0 => match gt γ 0 with
    | some (.ow true _) => true
    | _ => false
  | _ + 1 => false
theorem noPin_of {K : PySem.W.Frag} {σ : L2.St} {H Hk : Hp} {γ : En} (o : Ok K σ H Hk γ) {i : Nat} (h : pinB γ i = false) : NoPin γ i := fun ds e => by
  obtain rfl := o.pin i ds e
  unfold pinB at h
  rw [e] at h
  cases h
theorem set_here {σ : L2.St} {γ : En} {i : Nat} (l : σ.length = γ.length) (h : i < γ.length) (x : Option V) : (σ.set i x)[i]? = some x := by
  rw [List.getElem?_set_self (by rw [l]; exact h)]
theorem set_there {σ : L2.St} {i j : Nat} (h : i ≠ j) (x : Option V) : (σ.set i x)[j]? = σ[j]? := List.getElem?_set_ne h
section
variable {K : PySem.W.Frag} {σ : L2.St} {H Hk : Hp} {γ : En} {i : Nat}
theorem set_ne {j : Nat} {e : Ent} (h : gt γ j = some e) (n : ¬ (i = j ∧ i < γ.length)) : i ≠ j := fun z => n ⟨z, by rw [z]; exact gt_lt h⟩
/-- slot i gets a thing that is not owned, or nothing -/
theorem Ok.setAny {x : Option V} {n : Option Ent} (o : Ok K σ H Hk γ) (np : NoPin γ i) (n1 : ∀ b y, n ≠ some (.ow b y)) (n2 : ∀ d, n = some (.dat d) → ∃ v, x = some v ∧ Dp K Hk v d) (n3 : ∀ t, n = some (.tab t) → ∃ v, x = some v ∧ Tb K Hk v t) :
    Go K σ H Hk γ (σ.set i x) H Hk (γ.set i n) := by
  have get : ∀ {j b y}, gt (γ.set i n) j = some (.ow b y) → gt γ j = some (.ow b y) ∧ i ≠ j := fun {j b y} e => by
    rw [gt_set] at e
    split at e
    · exact absurd e (n1 b y)
    · rename_i c; exact ⟨e, set_ne e c⟩
  refine ⟨⟨by rw [List.length_set, List.length_set]; exact o.len, o.sub, fun j d' e => ?_, fun j b y e => ?_, fun j y e => o.pin _ _ (get e).1, fun j k b c y z v u fp fq ej ek vj vk rj rk a hj hk => ?_, fun j kvs e => ?_⟩, Same.refl _, fun a u h n => (by rw [h] at n; cases n), fun _ _ h _ => h, fun a h => ?_, fun j y h => ?_⟩
  · rw [gt_set] at e
    split at e
    · rename_i c
      obtain ⟨v, rfl, r⟩ := n2 _ e
      exact ⟨v, by rw [← c.1]; exact set_here o.len c.2 _, r⟩
    · rename_i c
      obtain ⟨v', e', r'⟩ := o.dat j d' e
      exact ⟨v', by rw [set_there (set_ne e c)]; exact e', r'⟩
  · obtain ⟨e, c⟩ := get e
    obtain ⟨v, fp, e', q⟩ := o.ow j b y e
    exact ⟨v, fp, by rw [set_there c]; exact e', q⟩
  · obtain ⟨ej, cj⟩ := get ej
    obtain ⟨ek, ck⟩ := get ek
    rw [set_there cj] at vj
    rw [set_there ck] at vk
    exact o.sep _ _ _ _ _ _ _ _ _ _ ej ek vj vk rj rk a hj hk
  · rw [gt_set] at e
    split at e
    · rename_i c
      obtain ⟨v, rfl, r⟩ := n3 _ e
      exact ⟨v, by rw [← c.1]; exact set_here o.len c.2 _, r⟩
    · rename_i c
      obtain ⟨v', e', r'⟩ := o.tab j kvs e
      exact ⟨v', by rw [set_there (set_ne e c)]; exact e', r'⟩
  · obtain ⟨j, b, y, v, fp, e, h1, r, m⟩ := h
    obtain ⟨e, c⟩ := get e
    rw [set_there c] at h1
    exact .inl ⟨j, b, y, v, fp, e, h1, r, m⟩
  · have hij : i ≠ j := fun z => np y (by rw [z]; exact h)
    refine ⟨set_there hij _, y, ?_⟩
    rw [gt_set, if_neg (fun c => hij c.1)]
    exact h
theorem Ok.setDat {v : V} {d : D} (o : Ok K σ H Hk γ) (r : Dp K Hk v d) (np : NoPin γ i) : Go K σ H Hk γ (σ.set i (some v)) H Hk (γ.set i (some (.dat d))) :=
  o.setAny np (fun _ _ => nofun) (fun d' e => by cases e; exact ⟨v, rfl, r⟩) (fun _ => nofun)
/-- slot i gets a new thing that the frame owns -/
theorem Ok.setNew {v : V} {y : Pay} {fp : List Addr} {H' : Hp} (o : Ok K σ H Hk γ) (s : Same H H') (r : OwnV K H' Hk v y fp) (new : ∀ a ∈ fp, H a = none) (np : NoPin γ i) :
    Go K σ H Hk γ (σ.set i (some v)) H' Hk (γ.set i (some (.ow false y))) := by
  have up : ∀ {w z fq}, OwnV K H Hk w z fq → OwnV K H' Hk w z fq := fun {w z fq} r => r.to (Same.refl _) (fun a _ u e => s a u e) fun a ha => (r.at a ha).2
  -- what an owned slot is behind it
  have get : ∀ {j b z w fq}, gt (γ.set i (some (.ow false y))) j = some (.ow b z) → (σ.set i (some v))[j]? = some (some w) → OwnV K H' Hk w z fq → (i = j ∧ fq = fp) ∨ (i ≠ j ∧ gt γ j = some (.ow b z) ∧ σ[j]? = some (some w) ∧ OwnV K H Hk w z fq) := fun {j b z w fq} e ew rw' => by
    rw [gt_set] at e
    split at e
    · rename_i c
      cases e
      rw [← c.1, set_here o.len c.2] at ew
      cases ew
      exact .inl ⟨c.1, rw'.det r⟩
    · rename_i c
      have ne := set_ne e c
      rw [set_there ne] at ew
      obtain ⟨w', fq', e', r'⟩ := o.ow j b z e
      rw [ew] at e'; cases e'
      exact .inr ⟨ne, e, ew, by rw [rw'.det (up r')]; exact r'⟩
  refine ⟨⟨by rw [List.length_set, List.length_set]; exact o.len, o.sub.trans s, fun j d' e => ?_, fun j b z e => ?_, fun j z e => ?_, fun j k b c z z' w w' fq fr ej ek vj vk rj rk a hj hk => ?_, fun j kvs e => ?_⟩, Same.refl _, fun a u h n => (by rw [h] at n; cases n), fun _ _ h _ => s _ _ h, fun a h => ?_, fun j z h => ?_⟩
  · rw [gt_set] at e
    split at e
    · cases e
    · rename_i c
      obtain ⟨v', e', r'⟩ := o.dat j d' e
      exact ⟨v', by rw [set_there (set_ne e c)]; exact e', r'⟩
  · rw [gt_set] at e
    split at e
    · rename_i c
      cases e
      exact ⟨v, fp, by rw [← c.1]; exact set_here o.len c.2 _, r⟩
    · rename_i c
      obtain ⟨w, fq, e', r'⟩ := o.ow j b z e
      exact ⟨w, fq, by rw [set_there (set_ne e c)]; exact e', up r'⟩
  · rw [gt_set] at e
    split at e
    · cases e
    · exact o.pin _ _ e
  · rcases get ej vj rj with ⟨c1, rfl⟩ | ⟨c1, e1, v1, r1⟩
    · rcases get ek vk rk with ⟨c2, rfl⟩ | ⟨c2, e2, v2, r2⟩
      · rw [← c1, ← c2]
      · obtain ⟨⟨u, hu⟩, _⟩ := r2.at a hk
        rw [new a hj] at hu; cases hu
    · rcases get ek vk rk with ⟨c2, rfl⟩ | ⟨c2, e2, v2, r2⟩
      · obtain ⟨⟨u, hu⟩, _⟩ := r1.at a hj
        rw [new a hk] at hu; cases hu
      · exact o.sep _ _ _ _ _ _ _ _ _ _ e1 e2 v1 v2 r1 r2 a hj hk
  · rw [gt_set] at e
    split at e
    · cases e
    · rename_i c
      obtain ⟨v', e', r'⟩ := o.tab j kvs e
      exact ⟨v', by rw [set_there (set_ne e c)]; exact e', r'⟩
  · obtain ⟨j, b, z, w, fq, e, h1, r', m⟩ := h
    rcases get e h1 r' with ⟨_, rfl⟩ | ⟨_, e1, v1, r1⟩
    · exact .inr (new a m)
    · exact .inl ⟨j, b, z, w, fq, e1, v1, r1, m⟩
  · have hij : i ≠ j := fun q => np z (by rw [q]; exact h)
    refine ⟨set_there hij _, z, ?_⟩
    rw [gt_set, if_neg (fun c => hij c.1)]
    exact h
theorem Ok.setOwn {p : Addr} {vs : List V} {ds : List D} (o : Ok K σ H Hk γ) (hp : H p = none) (r : DpAll K Hk vs ds) (np : NoPin γ i) :
    Go K σ H Hk γ (σ.set i (some (.ref p))) (upd H p (.lst vs)) Hk (γ.set i (some (.own false ds))) :=
  o.setNew (same_upd hp) (.lst upd_same (o.sub.free hp) r) (fun a ha => by rw [List.mem_singleton.mp ha]; exact hp) np
/-- what slot i owns is changed -/
theorem Ok.change {b : Bool} {v : V} {y z : Pay} {fp fq : List Addr} {H' : Hp} (o : Ok K σ H Hk γ) (h : gt γ i = some (.ow b y)) (hs : σ[i]? = some (some v)) (r : OwnV K H Hk v y fp) (kp : ∀ a u, H a = some u → a ∉ fp → H' a = some u) (r' : OwnV K H' Hk v z fq)
    (new : ∀ a ∈ fq, a ∈ fp ∨ H a = none) : Go K σ H Hk γ σ H' Hk (γ.set i (some (.ow b z))) := by
  have hi := gt_lt h
  have mine : ∀ a ∈ fp, OwnA K σ H Hk γ a := fun a ha => ⟨i, b, y, v, fp, h, hs, r, ha⟩
  have up : ∀ {j c w x fr}, i ≠ j → gt γ j = some (.ow c x) → σ[j]? = some (some w) → OwnV K H Hk w x fr → OwnV K H' Hk w x fr := fun {j c w x fr} ne e ew rw' =>
    rw'.to (Same.refl _) (fun a ha u q => kp a u q fun m => ne (o.sep _ _ _ _ _ _ _ _ _ _ h e hs ew r rw' a m ha)) fun a ha => (rw'.at a ha).2
  have get : ∀ {j c x w fr}, gt (γ.set i (some (.ow b z))) j = some (.ow c x) → σ[j]? = some (some w) → OwnV K H' Hk w x fr → (i = j ∧ fr = fq) ∨ (i ≠ j ∧ gt γ j = some (.ow c x) ∧ OwnV K H Hk w x fr) := fun {j c x w fr} e ew rw' => by
    rw [gt_set] at e
    split at e
    · rename_i cc
      cases e
      rw [← cc.1, hs] at ew
      cases ew
      exact .inl ⟨cc.1, rw'.det r'⟩
    · rename_i cc
      have ne := set_ne e cc
      obtain ⟨w', fr', e', q'⟩ := o.ow j c x e
      rw [ew] at e'; cases e'
      exact .inr ⟨ne, e, by rw [rw'.det (up ne e ew q')]; exact q'⟩
  have sub : Same Hk H' := fun a u e => kp a u (o.sub _ _ e) fun m => by
    have := (r.at a m).2
    rw [e] at this; cases this
  refine ⟨⟨by rw [List.length_set]; exact o.len, sub, fun j d' e => ?_, fun j c x e => ?_, fun j x e => ?_, fun j k c c' x x' w w' fr ft ej ek vj vk rj rk a hj hk => ?_, fun j kvs e => ?_⟩, Same.refl _, fun a u h n => (by rw [h] at n; cases n), fun a u e n => ?_, fun a e => ?_, fun j x e => ?_⟩
  · rw [gt_set] at e
    split at e
    · cases e
    · exact o.dat j d' e
  · rw [gt_set] at e
    split at e
    · rename_i cc
      cases e
      exact ⟨v, fq, by rw [← cc.1]; exact hs, r'⟩
    · rename_i cc
      obtain ⟨w, fr, e2, q⟩ := o.ow j c x e
      exact ⟨w, fr, e2, up (set_ne e cc) e e2 q⟩
  · rw [gt_set] at e
    split at e
    · rename_i cc
      cases e
      rw [← cc.1]
      exact o.pin _ _ h
    · exact o.pin _ _ e
  · rcases get ej vj rj with ⟨c1, rfl⟩ | ⟨c1, e1, r1⟩
    · rcases get ek vk rk with ⟨c2, rfl⟩ | ⟨c2, e2, r2⟩
      · rw [← c1, ← c2]
      · rcases new a hj with m | m
        · exact o.sep _ _ _ _ _ _ _ _ _ _ (by rw [← c1]; exact h) e2 (by rw [← c1]; exact hs) vk r r2 a m hk
        · obtain ⟨⟨u, hu⟩, _⟩ := r2.at a hk
          rw [m] at hu; cases hu
    · rcases get ek vk rk with ⟨c2, rfl⟩ | ⟨c2, e2, r2⟩
      · rcases new a hk with m | m
        · exact (o.sep _ _ _ _ _ _ _ _ _ _ (by rw [← c2]; exact h) e1 (by rw [← c2]; exact hs) vj r r1 a m hj).symm
        · obtain ⟨⟨u, hu⟩, _⟩ := r1.at a hj
          rw [m] at hu; cases hu
      · exact o.sep _ _ _ _ _ _ _ _ _ _ e1 e2 vj vk r1 r2 a hj hk
  · rw [gt_set] at e
    split at e
    · cases e
    · exact o.tab j kvs e
  · exact kp a u e fun m => n (mine a m)
  · obtain ⟨j, c, x, w, fr, e, h1, r1, m⟩ := e
    rcases get e h1 r1 with ⟨_, rfl⟩ | ⟨_, e1, r2⟩
    · rcases new a m with q | q
      · exact .inl (mine a q)
      · exact .inr q
    · exact .inl ⟨j, c, x, w, fr, e1, h1, r2, m⟩
  · refine ⟨rfl, ?_⟩
    by_cases hij : i = j
    · subst hij
      rw [h] at e; cases e
      exact ⟨z, by rw [gt_set, if_pos ⟨rfl, hi⟩]⟩
    · exact ⟨x, by rw [gt_set, if_neg (fun c => hij c.1)]; exact e⟩
theorem Ok.write {b : Bool} {p : Addr} {vs : List V} {ds es : List D} (o : Ok K σ H Hk γ) (h : gt γ i = some (.own b ds)) (hs : σ[i]? = some (some (.ref p))) (r : DpAll K Hk vs es) :
    Go K σ H Hk γ σ (upd H p (.lst vs)) Hk (γ.set i (some (.own b es))) := by
  obtain ⟨p', ws, e1, hp, hkp, ra⟩ := o.own i b ds h
  rw [hs] at e1; cases e1
  exact o.change h hs (.lst hp hkp ra) (fun a u e n => by rw [upd_ne (fun q => n (by simp [q]))]; exact e) (.lst upd_same hkp r) (fun a ha => .inl ha)
/-- a slot is forgotten -/
theorem Ok.drop (o : Ok K σ H Hk γ) (no : ∀ b y, gt γ i ≠ some (.ow b y)) : Go K σ H Hk γ (σ.set i none) H Hk (γ.set i none) :=
  o.setAny (fun y => no true y) (fun _ _ => nofun) (fun _ => nofun) (fun _ => nofun)
end

/-! ### targets -/
abbrev Fg := D → En → Option En
def tGt (K : PySem.W.Frag) (tg : Fg) : TG := fun v σ H Q => ∃ γ Hk d γ2, Ok K σ H Hk γ ∧ Dp K Hk v d ∧ tg d γ = some γ2 ∧ ∀ σ2, Go K σ H Hk γ σ2 H Hk γ2 → Q σ2 H
def EG (X : Cx) (e : Expr) (tg : Fg) : Prop := PG X e (tGt X.K tg)
abbrev Fgs := List D → En → Option En
def tGts (K : PySem.W.Frag) (tg : Fgs) : TGs := fun vs σ H Q => ∃ γ Hk ds γ2, Ok K σ H Hk γ ∧ DpAll K Hk vs ds ∧ tg ds γ = some γ2 ∧ ∀ σ2, Go K σ H Hk γ σ2 H Hk γ2 → Q σ2 H
def EGs (X : Cx) (es : List Expr) (tg : Fgs) : Prop := PGs X es (tGts X.K tg)
@[simp] def gDat (i : Nat) : Fg := fun d γ => if pinB γ i then none else some (γ.set i (some (.dat d)))
@[simp] def gsNo : Fgs := fun ds γ => match ds with
  | [] => some γ
  | _ => none
@[simp] def gsCons (tg : Fg) (tgs : Fgs) : Fgs := fun ds γ => match ds with
  | d :: r => match tg d γ with
    | some γ1 => tgs r γ1
    | none => none
  | [] => none
@[simp] def gTp (n : Nat) (tgs : Fgs) : Fg := fun d γ => match d with
  | .tuple ds => if ds.length = n then tgs ds γ else none
  | _ => none
section
variable {W : WX} {X : Cx} {e : Expr} {es : List Expr} {tg : Fg} {tgs : Fgs} {pos : Pos}
theorem PG.imp {e : Expr} {t t' : TG} (h : PG X e t) (i : ∀ v σ H Q, t' v σ H Q → t v σ H Q) : PG X e t' := ⟨fun pins s σ H v u Q I r q => h.run pins s σ H v u Q I r (i _ _ _ _ q)⟩
theorem PGs.imp {e : List Expr} {t t' : TGs} (h : PGs X e t) (i : ∀ v σ H Q, t' v σ H Q → t v σ H Q) : PGs X e t' := ⟨fun pins s σ H v u Q I r q => h.run pins s σ H v u Q I r (i _ _ _ _ q)⟩
theorem gDat_imp {K : PySem.W.Frag} {i : Nat} {v : V} {σ : L2.St} {H : Hp} {Q : L2.St → Hp → Prop} (h : tGt K (gDat i) v σ H Q) : gName i v σ H Q := by
  obtain ⟨γ, Hk, d, γ2, o, r, e, q⟩ := h
  unfold gDat at e
  split at e <;> cases e
  rename_i c
  exact q _ (o.setDat r (noPin_of o (by simpa using c)))
theorem eg_name (i : Nat) {x : Str} (hN : X.N.Nodup) (hi : X.N[i]? = some x) (hx : Loc X.env.scope x) (hf : X.fn x = true ∨ X.env.scope.names.lookup x = some .local := by first | exact .inl rfl | exact .inr rfl | assumption) : EG X (.Name x pos) (gDat i) :=
  PG.imp (pg_name hN hi hx hf) fun _ _ _ _ h => gDat_imp h
theorem egs_nil : EGs X [] gsNo := PGs.imp pgs_nil fun v σ H Q ⟨γ, Hk, ds, γ2, o, r, e, q⟩ => by
  unfold gsNo at e
  split at e <;> cases e
  cases r
  exact ⟨rfl, q σ (Go.refl o)⟩
theorem egs_cons (h1 : EG X e tg) (h2 : EGs X es tgs) (hs : (assignEach (e :: es) X.env).map (·.2) = assign e X.env :: (assignEach es X.env).map (·.2) := by rfl) : EGs X (e :: es) (gsCons tg tgs) :=
  PGs.imp (pgs_cons h1 h2 hs) fun v σ H Q ⟨γ, Hk, ds, γ2, o, r, e, q⟩ => by
  unfold gsCons at e
  split at e
  · rename_i d r'
    split at e
    · rename_i γ1 e1
      cases r with
      | cons ra rb => exact ⟨_, _, rfl, γ, Hk, d, γ1, o, ra, e1, fun σ1 g1 => ⟨γ1, Hk, r', γ2, g1.ok, rb, e, fun σ2 g2 => q σ2 (g1.trans g2)⟩⟩
    · cases e
  · cases e
theorem eg_tup (n : Nat) {k : Nat} (hc : X.calm = true) (h : EGs X es tgs) (hn : (assignEach es X.env).length = n := by rfl) (hst : (assignEach es X.env).findIdx? (·.1) = none := by rfl) : EG X (.Tuple es k pos) (gTp n tgs) :=
  PG.imp (pg_tup hc h hn hst) fun v σ H Q ⟨γ, Hk, d, γ2, o, r, e, q⟩ => by
  unfold gTp at e
  split at e
  · rename_i ds
    split at e
    · rename_i hl
      cases r with
      | tup hs ra => exact ⟨_, _, rfl, sqt_mono o.sub hs, by rw [dps_len ra]; exact hl, γ, Hk, ds, γ2, o, ra, e, q⟩
    · cases e
  · cases e
end

/-! ### statements -/
inductive Out where
  | nx (γ : En)
  | rt (d : D) (γ : En)
  | bk (γ : En)
  | ct (γ : En)
  | rs (c : Str) (fs : List (Str × D)) (γ : En)
  | ro (y : Pay) (γ : En)
/-- the fields of an exception -/
inductive FldsIs (K : PySem.W.Frag) (H : Hp) : List (Str × V) → List (Str × D) → Prop
  | nil : FldsIs K H [] []
  | cons {f : Str} {v : V} {d : D} {vs : List (Str × V)} {ds : List (Str × D)} : Dp K H v d → FldsIs K H vs ds → FldsIs K H ((f, v) :: vs) ((f, d) :: ds)
theorem FldsIs.mono {K : PySem.W.Frag} {H H' : Hp} (s : Same H H') : ∀ {vs : List (Str × V)} {ds : List (Str × D)}, FldsIs K H vs ds → FldsIs K H' vs ds
  | _, _, .nil => .nil
  | _, _, .cons h t => .cons (dp_mono s h) (t.mono s)
/-- an exception of the class c with these fields -/
def XcIs (K : PySem.W.Frag) (Hk : Hp) (cls : Value) (dd : Option Addr) (c : Str) (fs : List (Str × D)) : Prop := ∃ C a vs, cls = .ref C ∧ ClsIs K c C ∧ dd = some a ∧ Hk a = some (.xd vs) ∧ FldsIs K Hk vs fs
abbrev Fs := En → Option Out
def Fin (K : PySem.W.Frag) (W : WX) (Z : Ends) (σ : L2.St) (H Hk : Hp) (γ : En) : Out → Prop
  | .nx γ2 => ∀ σ2 H2 Hk2, Go K σ H Hk γ σ2 H2 Hk2 γ2 → Z.nx σ2 H2
  | .rt d γ2 => ∀ v σ2 H2 Hk2, Go K σ H Hk γ σ2 H2 Hk2 γ2 → Dp K Hk2 v d → Z.rt v H2
  | .bk γ2 => ∀ σ2 H2 Hk2, Go K σ H Hk γ σ2 H2 Hk2 γ2 → Z.bk σ2 H2
  | .ct γ2 => ∀ σ2 H2 Hk2, Go K σ H Hk γ σ2 H2 Hk2 γ2 → Z.ct σ2 H2
  | .rs c fs γ2 => ∀ σ2 H2 Hk2 cls dd, Go K σ H Hk γ σ2 H2 Hk2 γ2 → XcIs K Hk2 cls dd c fs → W cls dd σ2 H2
  | .ro y γ2 => ∀ v fp σ2 H2 Hk2, Go K σ H Hk γ σ2 H2 Hk2 γ2 → OwnV K H2 Hk2 v y fp → (∀ a ∈ fp, ¬ OwnA K σ2 H2 Hk2 γ2 a ∧ (H a = none ∨ OwnA K σ H Hk γ a)) → Z.rt v H2
def tS (K : PySem.W.Frag) (W : WX) (F : Fs) : TS := fun Z σ H => ∃ γ Hk o, Ok K σ H Hk γ ∧ F γ = some o ∧ Fin K W Z σ H Hk γ o
def ES (X : Cx) (W : WX) (s : Stmt) (F : Fs) : Prop := PS X s (tS X.K W F)
def ESs (X : Cx) (W : WX) (s : List Stmt) (F : Fs) : Prop := PSs X s (tS X.K W F)
theorem Go.older {K : PySem.W.Frag} {σ σ1 : L2.St} {H Hk H1 Hk1 : Hp} {γ γ1 : En} (g : Go K σ H Hk γ σ1 H1 Hk1 γ1) {a : Addr} (h : H1 a = none ∨ OwnA K σ1 H1 Hk1 γ1 a) : H a = none ∨ OwnA K σ H Hk γ a := by
  rcases h with h | h
  · by_cases ho : OwnA K σ H Hk γ a
    · exact .inr ho
    · cases e : H a with
      | none => exact .inl rfl
      | some u => have := g.kp a u e ho; rw [h] at this; cases this
  · rcases g.sh a h with z | z
    · exact .inr z
    · exact .inl z
theorem Fin.back {K : PySem.W.Frag} {W : WX} {Z : Ends} {σ σ1 : L2.St} {H Hk H1 Hk1 : Hp} {γ γ1 : En} (g : Go K σ H Hk γ σ1 H1 Hk1 γ1) : ∀ {o : Out}, Fin K W Z σ H Hk γ o → Fin K W Z σ1 H1 Hk1 γ1 o
  | .nx _, h => fun σ2 H2 Hk2 g2 => h σ2 H2 Hk2 (g.trans g2)
  | .rt _ _, h => fun v σ2 H2 Hk2 g2 => h v σ2 H2 Hk2 (g.trans g2)
  | .bk _, h => fun σ2 H2 Hk2 g2 => h σ2 H2 Hk2 (g.trans g2)
  | .ct _, h => fun σ2 H2 Hk2 g2 => h σ2 H2 Hk2 (g.trans g2)
  | .rs _ _ _, h => fun σ2 H2 Hk2 cls dd g2 => h σ2 H2 Hk2 cls dd (g.trans g2)
  | .ro _ _, h => fun v fp σ2 H2 Hk2 g2 r n => h v fp σ2 H2 Hk2 (g.trans g2) r fun a ha => ⟨(n a ha).1, g.older (n a ha).2⟩
@[simp] def sNil : Fs := fun γ => some (.nx γ)
@[simp] def sSeq (F G : Fs) : Fs := fun γ => match F γ with
  | some (.nx γ1) => G γ1
  | o => o
theorem seq_nx {F G : Fs} {γ γ1 : En} (h : F γ = some (.nx γ1)) : sSeq F G γ = G γ1 := by
  unfold sSeq
  rw [h]
theorem seq_rt {F G : Fs} {γ γ1 : En} {d : D} (h : F γ = some (.rt d γ1)) : sSeq F G γ = some (.rt d γ1) := by
  unfold sSeq
  rw [h]
@[simp] def sAsg (f : Fe) (tg : Fg) : Fs := fun γ => match f γ with
  | some (d, γ1) => match tg d γ1 with
    | some γ2 => some (.nx γ2)
    | none => none
  | none => none
@[simp] def sOwn (i : Nat) (fl : Fa) : Fs := fun γ => match fl γ with
  | some (ds, γ1) => if pinB γ1 i then none else some (.nx (γ1.set i (some (.own false ds))))
  | none => none
@[simp] def sSet (i : Nat) (f g : Fe) : Fs := fun γ => match f γ with
  | some (d, γ1) => match gt γ1 i with
    | some (.ow _ (.lst _)) => match g γ1 with
      | some (.int k, γ2) => match gt γ2 i with
        | some (.ow b (.lst ds)) => match ixN ds.length k with
          | some j => some (.nx (γ2.set i (some (.own b (ds.set j d)))))
          | none => none
        | _ => none
      | _ => none
    | _ => none
  | none => none
@[simp] def sApp (i : Nat) (f : Fe) : Fs := fun γ => match gt γ i with
  | some (.ow _ (.lst _)) => match f γ with
    | some (d, γ1) => match gt γ1 i with
      | some (.ow b (.lst ds)) => if okN ds.length then some (.nx (γ1.set i (some (.own b (ds ++ [d]))))) else none
      | _ => none
    | none => none
  | _ => none
@[simp] def sDrop (f : Fe) : Fs := fun γ => match f γ with
  | some (_, γ1) => some (.nx γ1)
  | none => none
@[simp] def sRet (f : Fe) : Fs := fun γ => match f γ with
  | some (d, γ1) => some (.rt d γ1)
  | none => none
@[simp] def sRetN : Fs := fun γ => some (.rt .none γ)
@[simp] def sBk : Fs := fun γ => some (.bk γ)
@[simp] def sCt : Fs := fun γ => some (.ct γ)
@[simp] def sIf (c : Ft) (F G : Fs) : Fs := fun γ => match c γ with
  | some (true, γ1) => F γ1
  | some (false, γ1) => G γ1
  | none => none
section
variable {W : WX} {X : Cx} {e a i' : Expr} {s : Stmt} {ss : List Stmt} {f g : Fe} {fl : Fa} {tg : Fg} {F G : Fs} {pos : Pos}
theorem ess_nil : ESs X W [] sNil := PSs.imp pss_nil fun Z σ H ⟨γ, Hk, o, k, e, q⟩ => by
  cases e
  exact q σ H Hk (Go.refl k)
theorem ess_cons (h : ES X W s F) (hs : ESs X W ss G) : ESs X W (s :: ss) (sSeq F G) := PSs.imp (pss_cons h hs) fun Z σ H ⟨γ, Hk, o, k, e, q⟩ => by
  unfold sSeq at e
  split at e
  · rename_i γ1 eF
    exact ⟨γ, Hk, _, k, eF, fun σ2 H2 Hk2 g2 => ⟨γ1, Hk2, o, g2.ok, e, q.back g2⟩⟩
  · rename_i o' hn
    refine ⟨γ, Hk, o, k, e, ?_⟩
    cases o with
    | nx γ1 => exact absurd e (hn γ1)
    | rt d γ1 => exact q
    | bk γ1 => exact q
    | ct γ1 => exact q
    | rs c fs γ1 => exact q
    | ro y γ1 => exact q
theorem ess_one (h : ES X W s F) : ESs X W [s] F := pss_one h
theorem es_pass : ES X W (.Pass pos) sNil := PS.imp ps_pass fun Z σ H ⟨γ, Hk, o, k, e, q⟩ => by
  cases e
  exact q σ H Hk (Go.refl k)
theorem es_break : ES X W (.Break pos) sBk := PS.imp ps_break fun Z σ H ⟨γ, Hk, o, k, e, q⟩ => by
  cases e
  exact q σ H Hk (Go.refl k)
theorem es_continue : ES X W (.Continue pos) sCt := PS.imp ps_continue fun Z σ H ⟨γ, Hk, o, k, e, q⟩ => by
  cases e
  exact q σ H Hk (Go.refl k)
theorem asg_imp {K : PySem.W.Frag} {Z : Ends} {σ : L2.St} {H : Hp} (h : tS K W (sAsg f tg) Z σ H) : tAsg (tI K f) (tGt K tg) Z σ H := by
  obtain ⟨γ, Hk, o, k, e, q⟩ := h
  unfold sAsg at e
  split at e
  · rename_i d γ1 ef
    split at e <;> cases e
    rename_i γ2 et
    exact ⟨γ, Hk, d, γ1, k, ef, fun v H1 Hk1 g1 r1 => ⟨γ1, Hk1, d, γ2, g1.ok, r1, et, fun σ2 g2 => q σ2 H1 Hk1 (g1.trans g2)⟩⟩
  · cases e
theorem es_asg (he : EV X e f) (hg : EG X a tg) (hs : swapsWithSole [a] e pos.line X.env = pure false := by rfl) (hw : swappedStores [a] e X.env = pure none := by rfl)
    (h1 : (assignEach [a] X.env).map (·.2) = [assign a X.env] := by rfl) : ES X W (.Assign [a] e pos) (sAsg f tg) := PS.imp (ps_asg he hg hs hw h1) fun _ _ _ h => asg_imp h
theorem es_set (i : Nat) {x : Str} {p' : Pos} (hN : X.N.Nodup) (hi : X.N[i]? = some x) (hx : Loc X.env.scope x) (he : EV X e f) (hs : swapsWith e (some (.Name x p')) pos.line X.env = pure false := by rfl) (hf : X.fn x = true ∨ X.env.scope.names.lookup x = some .local := by first | exact .inl rfl | exact .inr rfl | assumption) :
    ES X W (.Assign [.Name x p'] e pos) (sAsg f (gDat i)) := PS.imp (ps_set hN hi hx he hs hf) fun Z σ H h => by
  obtain ⟨γ, Hk, d, γ2, k, ef, q⟩ := asg_imp h
  exact ⟨γ, Hk, d, γ2, k, ef, fun v H1 Hk1 g1 r1 => gDat_imp (q v H1 Hk1 g1 r1)⟩
theorem own_imp {K : PySem.W.Frag} {i : Nat} {Z : Ends} {σ : L2.St} {H : Hp} (h : tS K W (sOwn i fl) Z σ H) : tAsg (tL K fl) (gName i) Z σ H := by
  obtain ⟨γ, Hk, o, k, e, q⟩ := h
  unfold sOwn at e
  split at e
  · rename_i ds γ1 ef
    split at e <;> cases e
    rename_i c
    exact ⟨γ, Hk, ds, γ1, k, ef, fun p vs H1 Hk1 g1 hp r1 => q _ _ _ (g1.trans (g1.ok.setOwn hp r1 (noPin_of g1.ok (by simpa using c))))⟩
  · cases e
theorem es_own (i : Nat) {x : Str} {p' : Pos} (hN : X.N.Nodup) (hi : X.N[i]? = some x) (hx : Loc X.env.scope x) (he : EL X e fl) (hs : swapsWith e (some (.Name x p')) pos.line X.env = pure false := by rfl) (hf : X.fn x = true ∨ X.env.scope.names.lookup x = some .local := by first | exact .inl rfl | exact .inr rfl | assumption) :
    ES X W (.Assign [.Name x p'] e pos) (sOwn i fl) := PS.imp (ps_set hN hi hx he hs hf) fun _ _ _ h => own_imp h
theorem es_item (i : Nat) {p' : Pos} (he : EV X e f) (ho : PE X a (tVar i)) (hi : EV X i' g)
    (ha : ∀ v, assign (.Subscript a i' p') X.env v = (do
      let ov ← holding [v] (eval a X.env)
      let iv ← holding [v, ov] (eval i' X.env)
      standAt p'
      holding [v, ov, iv] (setItem ov iv v)
      release [v, ov, iv] []) := by intro _; rfl)
    (hs : swapsWithSole [.Subscript a i' p'] e pos.line X.env = pure false := by rfl) (hw : swappedStores [.Subscript a i' p'] e X.env = pure none := by rfl)
    (h1 : (assignEach [.Subscript a i' p'] X.env).map (·.2) = [assign (.Subscript a i' p') X.env] := by rfl) : ES X W (.Assign [.Subscript a i' p'] e pos) (sSet i f g) :=
  PS.imp (ps_asg he (pg_sub ho hi set_list ha) hs hw h1) fun Z σ H ⟨γ, Hk, o, k, e, q⟩ => by
  unfold sSet at e
  split at e
  · rename_i d γ1 ef
    split at e
    · rename_i b0 ds0 e0
      split at e
      · rename_i kk γ2 eg
        split at e
        · rename_i b ds eo
          split at e <;> cases e
          rename_i j ej
          refine ⟨γ, Hk, d, γ1, k, ef, fun v H1 Hk1 g1 r1 => ?_⟩
          obtain ⟨p, vs0, e1, _⟩ := g1.ok.own i _ _ e0
          refine ⟨_, e1, γ1, Hk1, _, γ2, g1.ok, eg, fun w H2 Hk2 g2 r2 => ?_⟩
          cases r2
          obtain ⟨p', vs, e2, hp, _, ra⟩ := g2.ok.own i _ _ eo
          rw [e1] at e2; cases e2
          refine ⟨p, vs, kk, j, rfl, rfl, hp, by rw [dps_len ra]; exact ej, ?_⟩
          exact q _ _ _ ((g1.trans g2).trans (g2.ok.write eo e1 (dps_set j ra (dp_mono g2.kk r1))))
        · cases e
      · cases e
    · cases e
  · cases e
theorem es_app (i : Nat) {apos cpos : Pos} (ho : PE X a (tVar i)) (he : EV X e f)
    (hbase : attributeBase a "append" X.env (eval a X.env) = eval a X.env := by rfl)
    (hfew : ((backTo cpos (starEach [e] X.env)).all (fun x => !x.1) && (backToKw cpos (keywordEach [] X.env)).all (fun x => x.1.isSome)
      && decide ([e].length + ([] : List Keyword).length + (if ([] : List Keyword).isEmpty then 0 else 1) < 30)) = true := by rfl)
    (hline : (apos.endLine == cpos.line) = true := by rfl) (hs : starEach [e] X.env = (false, eval e X.env) :: starEach [] X.env := by rfl) (hplain : (backTo cpos (starEach [] X.env)).any (·.1) = false := by rfl)
    (hsw : swapsWith (.Call (.Attribute a "append" apos) [e] [] cpos) none pos.line X.env = pure false := by rfl) :
    ES X W (.Expr (.Call (.Attribute a "append" apos) [e] [] cpos) pos) (sApp i f) :=
  PS.imp (ps_expr (pe_bm PySem.F.plainAttrs_list PySem.F.slot_list_append PySem.F.type_list_append mt_append ho (pa_cons he pa_nil hs) hbase hfew hline hs hplain) hsw) fun Z σ H ⟨γ, Hk, o, k, e, q⟩ => by
  unfold sApp at e
  split at e
  · rename_i b0 ds0 e0
    split at e
    · rename_i d γ1 ef
      split at e
      · rename_i b ds eo
        split at e <;> cases e
        rename_i c
        obtain ⟨p, vs0, e1, hp0, _⟩ := k.own i _ _ e0
        refine ⟨_, e1, .inl ⟨rfl, _, SqL.of hp0⟩, γ, Hk, d, γ1, k, ef, fun v H1 Hk1 g1 r1 => ?_⟩
        obtain ⟨p', vs, e2, hp, _, ra⟩ := g1.ok.own i _ _ eo
        rw [e1] at e2; cases e2
        exact ⟨p, vs, v, rfl, rfl, hp, by rw [dps_len ra]; exact okN_lt c, q _ _ _ (g1.trans (g1.ok.write eo e1 (dps_app ra (.cons r1 .nil))))⟩
      · cases e
    · cases e
  · cases e
theorem es_expr (he : EV X e f) (hs : swapsWith e none pos.line X.env = pure false := by rfl) : ES X W (.Expr e pos) (sDrop f) := PS.imp (ps_expr he hs) fun Z σ H ⟨γ, Hk, o, k, e, q⟩ => by
  unfold sDrop at e
  split at e <;> cases e
  rename_i d γ1 ef
  exact ⟨γ, Hk, d, γ1, k, ef, fun v H1 Hk1 g1 r1 => q _ _ _ g1⟩
theorem es_ret (he : EV X e f) : ES X W (.Return (some e) pos) (sRet f) := PS.imp (ps_ret he) fun Z σ H ⟨γ, Hk, o, k, e, q⟩ => by
  unfold sRet at e
  split at e <;> cases e
  rename_i d γ1 ef
  exact ⟨γ, Hk, d, γ1, k, ef, fun v H1 Hk1 g1 r1 => q _ _ _ _ g1 r1⟩
theorem es_retN : ES X W (.Return none pos) sRetN := PS.imp ps_retN fun Z σ H ⟨γ, Hk, o, k, e, q⟩ => by
  cases e
  exact q _ _ _ _ (Go.refl k) .non
theorem es_if {c : Expr} {A B : List Stmt} {u : Ft} (hc : ET X c u) (ha : ESs X W A F) (hb : ESs X W B G) : ES X W (.If c A B pos) (sIf u F G) := PS.imp (ps_if hc ha hb) fun Z σ H ⟨γ, Hk, o, k, e, q⟩ => by
  unfold sIf at e
  split at e
  · rename_i γ1 ec
    exact ⟨γ, Hk, true, γ1, k, ec, fun H1 Hk1 g1 => iteT ⟨γ1, Hk1, o, g1.ok, e, q.back g1⟩⟩
  · rename_i γ1 ec
    exact ⟨γ, Hk, false, γ1, k, ec, fun H1 Hk1 g1 => iteF ⟨γ1, Hk1, o, g1.ok, e, q.back g1⟩⟩
  · cases e
/-- return x, x owned: the caller owns it then -/
@[simp] def sRetO (i : Nat) : Fs := fun γ => match gt γ i with
  | some (.ow false y) => some (.ro y (γ.set i none))
  | _ => none
theorem Ok.forget {K : PySem.W.Frag} {σ : L2.St} {H Hk : Hp} {γ : En} (k : Ok K σ H Hk γ) {i : Nat} {y : Pay} (h : gt γ i = some (.ow false y)) : ∃ v fp, σ[i]? = some (some v) ∧ OwnV K H Hk v y fp ∧ Go K σ H Hk γ σ H Hk (γ.set i none) ∧ ∀ a ∈ fp, ¬ OwnA K σ H Hk (γ.set i none) a ∧ OwnA K σ H Hk γ a := by
  obtain ⟨v, fp, e, r⟩ := k.ow i _ _ h
  have get : ∀ {j : Nat} {x : Ent}, gt (γ.set i none) j = some x → gt γ j = some x ∧ i ≠ j := fun {j x} q => by
    rw [gt_set] at q
    split at q
    · cases q
    · rename_i c; exact ⟨q, set_ne q c⟩
  refine ⟨v, fp, e, r, ⟨⟨by rw [List.length_set]; exact k.len, k.sub, fun j d q => k.dat j d (get q).1, fun j b z q => k.ow j b z (get q).1, fun j z q => k.pin j z (get q).1, fun j l b c y z v u fp fq ej el => k.sep _ _ _ _ _ _ _ _ _ _ (get ej).1 (get el).1, fun j t q => k.tab j t (get q).1⟩, Same.refl _, fun a u h n => (by rw [h] at n; cases n), fun _ _ h _ => h, fun a ⟨j, b, z, w, fr, q, qv, rr, m⟩ => .inl ⟨j, b, z, w, fr, (get q).1, qv, rr, m⟩, fun j z q => ⟨rfl, z, ?_⟩⟩, fun a ha => ⟨fun ⟨j, b, z, w, fr, q, qv, rr, m⟩ => ?_, ⟨i, _, _, v, fp, h, e, r, ha⟩⟩⟩
  · rw [gt_set, if_neg (fun c => by rw [← c.1, h] at q; cases q)]
    exact q
  · obtain ⟨q, ne⟩ := get q
    exact ne (k.sep _ _ _ _ _ _ _ _ _ _ h q e qv r rr a ha m)
theorem es_retO (i : Nat) (he : PE X e (tVar i)) : ES X W (.Return (some e) pos) (sRetO i) := PS.imp (ps_ret he) fun Z σ H ⟨γ, Hk, o, k, ee, q⟩ => by
  unfold sRetO at ee
  split at ee <;> cases ee
  rename_i y h
  obtain ⟨v, fp, ev, r, g, n⟩ := k.forget h
  exact ⟨v, ev, q v fp σ H Hk g r fun a ha => ⟨(n a ha).1, .inr (n a ha).2⟩⟩
end
end DN
namespace DN
open PySem PySem.Spec PyProof.Rows L2
/-! ### what is walked -/
/-- J hands on the data ds, one by one, as long as what lasts (Hk) lasts; what it makes on the way lasts -/
def Walks (K : PySem.W.Frag) (J : It) (ds : List D) (Hk : Hp) : Prop := ∀ H Hc, Same Hk Hc → Same Hc H → (∀ (i : Nat) (h : i < ds.length), J.go i H ∧ ∀ x H', J.yld i H x H' → ∃ Hc', Grow H Hc H' Hc' ∧ Dp K Hc' x ds[i]) ∧ ∀ (i : Nat), ds.length ≤ i → J.stop i H
def tIt (K : PySem.W.Frag) (src : Fa) : TI := fun σ H R => ∃ γ Hk ds γ2, Ok K σ H Hk γ ∧ src γ = some (ds, γ2) ∧ ∀ J H2 Hk2, Go K σ H Hk γ σ H2 Hk2 γ2 → Walks K J ds Hk2 → R J H2
def EI (X : Cx) (tg it : Expr) (src : Fa) : Prop := PI X tg it (tIt X.K src)
theorem PI.imp {X : Cx} {tg e : Expr} {t t' : TI} (h : PI X tg e t) (i : ∀ σ H Q, t' σ H Q → t σ H Q) : PI X tg e t' := ⟨fun pins s σ H Q I q => h.run pins s σ H Q I (i _ _ _ q)⟩
@[simp] def wOf (f : Fe) : Fa := fun γ => match f γ with
  | some (.list ds, γ1) => some (ds, γ1)
  | some (.tuple ds, γ1) => some (ds, γ1)
  | some (.str z, γ1) => some (z.cps.toList.map fun c => .str ⟨#[c]⟩, γ1)
  | _ => none
def rngD (lo : Int) (n : Nat) : List D := (List.range n).map fun (k : Nat) => .int (lo + (k : Int))
@[simp] def small62 (j : Int) : Bool := decide (-(2 ^ 62) ≤ j) && decide (j < 2 ^ 62)
@[simp] def wR1 (f : Fe) : Fa := fun γ => match f γ with
  | some (.int n, γ1) => if small62 n then some (rngD 0 n.toNat, γ1) else none
  | _ => none
@[simp] def wR2 (fa : Fa) : Fa := fun γ => match fa γ with
  | some ([.int m, .int n], γ1) => if small62 m && small62 n then some (rngD m (n - m).toNat, γ1) else none
  | _ => none
section
variable {W : WX} {X : Cx} {tg e a b : Expr} {f : Fe} {fa : Fa} {pos p : Pos} {K : PySem.W.Frag}
theorem walks_l {Hk : Hp} {q : Addr} {vs : List V} {ds : List D} (h : SqL K Hk q vs) (r : DpAll K Hk vs ds) : Walks K (Itl K q) ds Hk := fun H Hc s1 s2 => by
  have hh := sql_mono (s1.trans s2) h
  have hl := dps_len r
  refine ⟨fun i hi => ?_, fun i hi => ⟨vs, hh, by omega⟩⟩
  obtain ⟨v, ev, rv⟩ := dps_at r (List.getElem?_eq_getElem hi)
  refine ⟨⟨vs, v, hh, ev⟩, fun x H' y => ?_⟩
  obtain ⟨rfl, y⟩ := y
  have := y vs hh
  rw [ev] at this; cases this
  exact ⟨Hc, Grow.refl s2, dp_mono s1 rv⟩
theorem walks_t {Hk : Hp} {q : Addr} {vs : List V} {ds : List D} (h : SqT K Hk q vs) (r : DpAll K Hk vs ds) : Walks K (Itt K q) ds Hk := fun H Hc s1 s2 => by
  have hh := sqt_mono (s1.trans s2) h
  have hl := dps_len r
  refine ⟨fun i hi => ?_, fun i hi => ⟨vs, hh, by omega⟩⟩
  obtain ⟨v, ev, rv⟩ := dps_at r (List.getElem?_eq_getElem hi)
  refine ⟨⟨vs, v, hh, ev⟩, fun x H' y => ?_⟩
  obtain ⟨rfl, y⟩ := y
  have := y vs hh
  rw [ev] at this; cases this
  exact ⟨Hc, Grow.refl s2, dp_mono s1 rv⟩
theorem walks_r {Hk : Hp} {lo : Int} {n : Nat} : Walks K (Itr lo n) (rngD lo n) Hk := fun H Hc s1 s2 => by
  have hl : (rngD lo n).length = n := by simp [rngD]
  refine ⟨fun i hi => ?_, fun i hi => ?_⟩
  · rw [hl] at hi
    refine ⟨hi, fun x H' y => ?_⟩
    obtain ⟨rfl, rfl⟩ := y
    refine ⟨Hc, Grow.refl s2, ?_⟩
    have e : (rngD lo n)[i]'(by rw [hl]; exact hi) = .int (lo + (i : Int)) := by simp [rngD]
    rw [e]
    exact .int _
  · rw [hl] at hi
    exact hi
theorem dps_map {α : Type} {Hk : Hp} (g : α → V) (k : α → D) (h : ∀ a, Dp K Hk (g a) (k a)) : ∀ l : List α, DpAll K Hk (l.map g) (l.map k)
  | [] => .nil
  | a :: r => .cons (h a) (dps_map g k h r)
theorem walks_s {Hk : Hp} {z : Str} : Walks K (Its z) (z.cps.toList.map fun c => .str ⟨#[c]⟩) Hk := fun H Hc s1 s2 => by
  have hl : (z.cps.toList.map fun c => PyData.str ⟨#[c]⟩).length = z.cps.size := by simp
  refine ⟨fun i hi => ?_, fun i hi => ?_⟩
  · rw [hl] at hi
    refine ⟨hi, fun x H' y => ?_⟩
    obtain ⟨rfl, c, hc, rfl⟩ := y
    refine ⟨Hc, Grow.refl s2, ?_⟩
    have e1 : z.cps[i] = c := by
      rw [Array.getElem?_eq_getElem hi] at hc
      exact Option.some.inj hc
    rw [List.getElem_map, Array.getElem_toList, e1]
    exact .str _
  · rw [hl] at hi
    exact hi
theorem ei_seq (h : EV X e f) : EI X tg e (wOf f) := PI.imp (t := fun σ H R => iStr (tI X.K f) σ H R ∨ iList X.K (tI X.K f) σ H R ∨ iTup X.K (tI X.K f) σ H R)
    ⟨fun pins s σ H R I q => q.elim ((pi_str h).run pins s σ H R I) fun q => q.elim ((pi_list h).run pins s σ H R I) ((pi_tup h).run pins s σ H R I)⟩ fun σ H R ⟨γ, Hk, ds, γ2, o, ee, q⟩ => by
  unfold wOf at ee
  split at ee <;> cases ee
  · rename_i ef
    refine .inr <| .inl ⟨γ, Hk, _, _, o, ef, fun v H1 Hk1 g1 r1 => ?_⟩
    cases r1 with
    | lst hs ra => exact ⟨_, rfl, ⟨_, sql_mono g1.ok.sub hs⟩, q _ H1 Hk1 g1 (walks_l hs ra)⟩
  · rename_i ef
    refine .inr <| .inr ⟨γ, Hk, _, _, o, ef, fun v H1 Hk1 g1 r1 => ?_⟩
    cases r1 with
    | tup hs ra => exact ⟨_, rfl, ⟨_, sqt_mono g1.ok.sub hs⟩, q _ H1 Hk1 g1 (walks_t hs ra)⟩
  · rename_i ef
    refine .inl ⟨γ, Hk, _, _, o, ef, fun v H1 Hk1 g1 r1 => ?_⟩
    cases r1
    exact ⟨_, rfl, q _ H1 Hk1 g1 walks_s⟩
def zipD : D → D → Option (List D)
  | .list a, .list b => some (List.zipWith (fun x y => .tuple [x, y]) a b)
  | .tuple a, .tuple b => some (List.zipWith (fun x y => .tuple [x, y]) a b)
  | _, _ => none
@[simp] def wZip (fa : Fa) : Fa := fun γ => match fa γ with
  | some ([a, b], γ1) => match zipD a b with
    | some ds => some (ds, γ1)
    | none => none
  | _ => none
theorem zip_turn {xs ys : List V} {as bs : List D} {Hk H Hc : Hp} (ra : DpAll K Hk xs as) (rb : DpAll K Hk ys bs) (s1 : Same Hk Hc) (s2 : Same Hc H) {i : Nat} (hi : i < (List.zipWith (fun x y => PyData.tuple [x, y]) as bs).length) :
    ∃ x y, xs[i]? = some x ∧ ys[i]? = some y ∧ ∀ T, H T = none → ∃ Hc', Grow H Hc (upd H T (.tup [x, y])) Hc' ∧ Dp K Hc' (.ref T) ((List.zipWith (fun x y => PyData.tuple [x, y]) as bs)[i]) := by
  have hi' : i < as.length ∧ i < bs.length := by
    rw [List.length_zipWith] at hi
    omega
  obtain ⟨x, ex, rx⟩ := dps_at ra (List.getElem?_eq_getElem hi'.1)
  obtain ⟨y, ey, ry⟩ := dps_at rb (List.getElem?_eq_getElem hi'.2)
  refine ⟨x, y, ex, ey, fun T hT => ⟨upd Hc T (.tup [x, y]), Grow.new s2 hT, ?_⟩⟩
  have sm : Same Hc (upd Hc T (.tup [x, y])) := same_upd (s2.free hT)
  rw [List.getElem_zipWith]
  exact .tup (SqT.of upd_same) (.cons (dp_mono (s1.trans sm) rx) (.cons (dp_mono (s1.trans sm) ry) .nil))
theorem walks_zl {Hk : Hp} {p q : Addr} {xs ys : List V} {as bs : List D} (hx : SqL K Hk p xs) (hy : SqL K Hk q ys) (ra : DpAll K Hk xs as) (rb : DpAll K Hk ys bs) : Walks K (Itz K p q) (List.zipWith (fun x y => .tuple [x, y]) as bs) Hk := fun H Hc s1 s2 => by
  have h1 := sql_mono (s1.trans s2) hx
  have h2 := sql_mono (s1.trans s2) hy
  refine ⟨fun i hi => ?_, fun i hi => ?_⟩
  · obtain ⟨x, y, ex, ey, mk⟩ := zip_turn ra rb s1 s2 hi
    refine ⟨⟨xs, ys, x, y, h1, h2, ex, ey⟩, fun v H' yl => ?_⟩
    obtain ⟨T, x', y', rfl, hT, rfl, fx, fy⟩ := yl
    have e1 := fx xs h1
    have e2 := fy ys h2
    rw [ex] at e1; cases e1
    rw [ey] at e2; cases e2
    exact mk T hT
  · rw [List.length_zipWith, ← dps_len ra, ← dps_len rb] at hi
    exact ⟨xs, ys, h1, h2, by omega⟩
theorem walks_zt {Hk : Hp} {p q : Addr} {xs ys : List V} {as bs : List D} (hx : SqT K Hk p xs) (hy : SqT K Hk q ys) (ra : DpAll K Hk xs as) (rb : DpAll K Hk ys bs) : Walks K (RZ.ItzT K p q) (List.zipWith (fun x y => .tuple [x, y]) as bs) Hk := fun H Hc s1 s2 => by
  have h1 := sqt_mono (s1.trans s2) hx
  have h2 := sqt_mono (s1.trans s2) hy
  refine ⟨fun i hi => ?_, fun i hi => ?_⟩
  · obtain ⟨x, y, ex, ey, mk⟩ := zip_turn ra rb s1 s2 hi
    refine ⟨⟨xs, ys, x, y, h1, h2, ex, ey⟩, fun v H' yl => ?_⟩
    obtain ⟨T, x', y', rfl, hT, rfl, fx, fy⟩ := yl
    have e1 := fx xs h1
    have e2 := fy ys h2
    rw [ex] at e1; cases e1
    rw [ey] at e2; cases e2
    exact mk T hT
  · rw [List.length_zipWith, ← dps_len ra, ← dps_len rb] at hi
    exact ⟨xs, ys, h1, h2, by omega⟩
theorem ei_zip {es : List Expr} {kk : Nat} {tp : Pos} (hm : X.mg "zip" = none) (hg : Gl X "zip") (h : EA X [a, b] fa) (hs : starEach [a, b] X.env = (false, eval a X.env) :: starEach [b] X.env := by rfl) (hpl : (backTo pos (starEach [b] X.env)).any (·.1) = false := by rfl) :
    EI X (.Tuple es kk tp) (.Call (.Name "zip" p) [a, b] [] pos) (wZip fa) :=
  PI.imp (RZ.pi_zipA hg hm h hs hpl) fun σ H R ⟨γ, Hk, ds, γ2, o, ee, q⟩ => by
  unfold wZip at ee
  split at ee
  · rename_i da db γ1 ea
    split at ee <;> cases ee
    rename_i ez
    refine ⟨γ, Hk, [da, db], _, o, ea, fun vs H1 Hk1 g1 r1 => ?_⟩
    cases r1 with
    | cons ra rb =>
      cases rb with
      | cons rb rn =>
        cases rn
        unfold zipD at ez
        split at ez <;> cases ez
        · cases ra with
          | lst hx ra =>
            cases rb with
            | lst hy rb => exact ⟨_, _, _, _, rfl, .inl ⟨sql_mono g1.ok.sub hx, sql_mono g1.ok.sub hy, q _ H1 Hk1 g1 (walks_zl hx hy ra rb)⟩⟩
        · cases ra with
          | tup hx ra =>
            cases rb with
            | tup hy rb => exact ⟨_, _, _, _, rfl, .inr ⟨sqt_mono g1.ok.sub hx, sqt_mono g1.ok.sub hy, q _ H1 Hk1 g1 (walks_zt hx hy ra rb)⟩⟩
  · cases ee
theorem small_of {j : Int} (h : small62 j = true) : -(2 ^ 62) ≤ j ∧ j < 2 ^ 62 := by
  unfold small62 at h
  simpa using h
theorem ei_r1 (hm : X.mg "range" = none) (hg : Gl X "range") (h : EV X a f) (hs : starEach [a] X.env = [(false, eval a X.env)] := by rfl) : EI X tg (.Call (.Name "range" p) [a] [] pos) (wR1 f) :=
  PI.imp (pi_range1 hg hm (pa_cons h pa_nil hs) hs) fun σ H R ⟨γ, Hk, ds, γ2, o, ee, q⟩ => by
  unfold wR1 at ee
  split at ee
  · split at ee <;> cases ee
    rename_i c ef
    obtain ⟨c1, c2⟩ := small_of c
    refine ⟨γ, Hk, _, _, o, ef, fun v H1 Hk1 g1 r1 => ?_⟩
    cases r1
    exact ⟨_, rfl, c1, c2, q _ H1 Hk1 g1 walks_r⟩
  · cases ee
theorem ei_r2 (hm : X.mg "range" = none) (hg : Gl X "range") (h : EA X [a, b] fa) (hs : starEach [a, b] X.env = [(false, eval a X.env), (false, eval b X.env)] := by rfl) (hs2 : starEach [b] X.env = [(false, eval b X.env)] := by rfl) :
    EI X tg (.Call (.Name "range" p) [a, b] [] pos) (wR2 fa) :=
  PI.imp (pi_range2 hg hm h hs hs2) fun σ H R ⟨γ, Hk, ds, γ2, o, ee, q⟩ => by
  unfold wR2 at ee
  split at ee
  · split at ee <;> cases ee
    rename_i c ef
    rw [Bool.and_eq_true] at c
    obtain ⟨c1, c2⟩ := small_of c.1
    obtain ⟨c3, c4⟩ := small_of c.2
    refine ⟨γ, Hk, _, _, o, ef, fun v H1 Hk1 g1 r1 => ?_⟩
    cases r1 with
    | cons ra rb =>
      cases ra
      cases rb with
      | cons rc rd =>
        cases rc
        cases rd
        exact ⟨_, _, rfl, ⟨c1, c2, c3, c4⟩, q _ H1 Hk1 g1 walks_r⟩
  · cases ee
end
/-! ### for -/
def forF (tg : Fg) (body : Fs) : List D → En → Option Out
  | [], γ => some (.nx γ)
  | d :: ds, γ => match tg d γ with
    | some γ1 => match body γ1 with
      | some (.nx γ2) => forF tg body ds γ2
      | some (.ct γ2) => forF tg body ds γ2
      | some (.bk γ2) => some (.nx γ2)
      | some (.rt v γ2) => some (.rt v γ2)
      | some (.rs c fs γ2) => some (.rs c fs γ2)
      | some (.ro y γ2) => some (.ro y γ2)
      | none => none
    | none => none
theorem forF_nx {tg : Fg} {body : Fs} {d : D} {ds : List D} {γ γ1 γ2 : En} (h1 : tg d γ = some γ1) (h2 : body γ1 = some (.nx γ2)) : forF tg body (d :: ds) γ = forF tg body ds γ2 := by
  simp only [forF, h1, h2]
theorem forF_rt {tg : Fg} {body : Fs} {d v : D} {ds : List D} {γ γ1 γ2 : En} (h1 : tg d γ = some γ1) (h2 : body γ1 = some (.rt v γ2)) : forF tg body (d :: ds) γ = some (.rt v γ2) := by
  simp only [forF, h1, h2]
@[simp] def sFor (src : Fa) (tg : Fg) (body : Fs) : Fs := fun γ => match src γ with
  | some (ds, γ1) => forF tg body ds γ1
  | none => none
theorem es_for {X : Cx} {t it : Expr} {ss : List Stmt} {src : Fa} {tg : Fg} {body : Fs} {pos : Pos} (hp : PassesOwn (model X.prog X.w) X.A X.env X.xe) (hc : X.calm = true) (hi : EI X t it src) (hg : EG X t tg) (hb : ESs X W ss body)
    (hs : ∀ x, foldedSetIterable it X.env x = pure x := by intro _; rfl) : ES X W (.For t it ss [] pos) (sFor src tg body) := PS.imp (ps_for hp hc hi hg hb hs) fun Z σ H ⟨γ, Hk, out, k, e, q⟩ => by
  unfold sFor at e
  split at e
  · rename_i ds γ1 es
    refine ⟨γ, Hk, ds, γ1, k, es, fun J H1 Hk1 g1 wk => ?_⟩
    let W : Nat → Nat → L2.St → Hp → Prop := fun i m σ' H' => m = ds.length - i ∧ i ≤ ds.length ∧ ∃ γ' Hk', Go X.K σ H Hk γ σ' H' Hk' γ' ∧ Same Hk1 Hk' ∧ forF tg body (ds.drop i) γ' = some out
    refine ⟨W, ⟨ds.length, by simp, Nat.zero_le _, γ1, Hk1, g1, Same.refl _, by simpa using e⟩, ?_⟩
    rintro i m σ' H' ⟨rfl, hi, γ', Hk', g, sk, ef⟩
    obtain ⟨w1, w2⟩ := wk H' Hk' sk g.ok.sub
    by_cases hlt : i < ds.length
    · obtain ⟨go, yl⟩ := w1 i hlt
      rw [List.drop_eq_getElem_cons hlt] at ef
      unfold forF at ef
      split at ef
      · rename_i γ2 et
        have next : ∀ {γ3 : En} {σ3 : L2.St} {H3 Hk3 : Hp}, Go X.K σ' H' Hk' γ' σ3 H3 Hk3 γ3 → forF tg body (ds.drop (i + 1)) γ3 = some out → W (i + 1) (ds.length - (i + 1)) σ3 H3 := fun g3 e3 => ⟨rfl, hlt, _, _, g.trans g3, sk.trans g3.kk, e3⟩
        refine .inr ⟨go, W (i + 1) (ds.length - (i + 1)), fun σ3 H3 w => ⟨_, by omega, w⟩, fun x H'' y => ?_⟩
        obtain ⟨Hc, gr, rv⟩ := yl x H'' y
        have gy := g.ok.go gr
        refine ⟨γ', Hc, ds[i], γ2, gy.ok, rv, et, fun σ2 g2' => ?_⟩
        have g2 := gy.trans g2'
        split at ef
        · rename_i γ3 eb
          exact ⟨γ2, Hc, _, g2.ok, eb, fun σ3 H3 Hk3 g3 => next (g2.trans g3) ef⟩
        · rename_i γ3 eb
          exact ⟨γ2, Hc, _, g2.ok, eb, fun σ3 H3 Hk3 g3 => next (g2.trans g3) ef⟩
        · rename_i γ3 eb
          cases ef
          exact ⟨γ2, Hc, _, g2.ok, eb, fun σ3 H3 Hk3 g3 => q _ _ _ ((g.trans g2).trans g3)⟩
        · rename_i v γ3 eb
          cases ef
          exact ⟨γ2, Hc, _, g2.ok, eb, fun w σ3 H3 Hk3 g3 r3 => q _ _ _ _ ((g.trans g2).trans g3) r3⟩
        · rename_i c fs γ3 eb
          cases ef
          exact ⟨γ2, Hc, _, g2.ok, eb, fun σ3 H3 Hk3 cls dd g3 r3 => q _ _ _ _ _ ((g.trans g2).trans g3) r3⟩
        · rename_i y γ3 eb
          cases ef
          exact ⟨γ2, Hc, _, g2.ok, eb, fun v fp σ3 H3 Hk3 g3 r3 n => q _ _ _ _ _ ((g.trans g2).trans g3) r3 fun a ha => ⟨(n a ha).1, (g.trans g2).older (n a ha).2⟩⟩
        · cases ef
      · cases ef
    · have e0 : i = ds.length := by omega
      subst e0
      rw [List.drop_length] at ef
      cases ef
      exact .inl ⟨w2 _ (Nat.le_refl _), q _ _ _ g⟩
  · cases e
/-! ### while -/
def whileF (c : Ft) (body : Fs) : Nat → En → Option Out
  | 0, _ => none
  | n + 1, γ => match c γ with
    | some (true, γ1) => match body γ1 with
      | some (.nx γ2) => whileF c body n γ2
      | some (.ct γ2) => whileF c body n γ2
      | some (.bk γ2) => some (.nx γ2)
      | some (.rt v γ2) => some (.rt v γ2)
      | some (.rs c fs γ2) => some (.rs c fs γ2)
      | some (.ro y γ2) => some (.ro y γ2)
      | none => none
    | some (false, γ1) => some (.nx γ1)
    | none => none
theorem es_while (n : Nat) {X : Cx} {c : Expr} {ss : List Stmt} {u : Ft} {body : Fs} {pos : Pos} (hp : PassesOwn (model X.prog X.w) X.A X.env X.xe) (hc : ET X c u) (hb : ESs X W ss body) : ES X W (.While c ss [] pos) (whileF u body n) := PS.imp (ps_while hp hc hb) fun Z σ H ⟨γ, Hk, out, k, e, q⟩ => by
  let W : Nat → L2.St → Hp → Prop := fun m σ' H' => ∃ γ' Hk', Go X.K σ H Hk γ σ' H' Hk' γ' ∧ whileF u body m γ' = some out
  refine ⟨W, ⟨n, γ, Hk, Go.refl k, e⟩, ?_⟩
  rintro m σ' H' ⟨γ', Hk', g, ef⟩
  cases m with
  | zero => cases ef
  | succ m =>
    unfold whileF at ef
    split at ef
    · rename_i γ1 ec
      refine ⟨γ', Hk', true, γ1, g.ok, ec, fun H1 Hk1 g1 => iteT ⟨W m, fun σ3 H3 w => ⟨m, Nat.lt_succ_self _, w⟩, ?_⟩⟩
      split at ef
      · rename_i γ3 eb
        exact ⟨γ1, Hk1, _, g1.ok, eb, fun σ3 H3 Hk3 g3 => ⟨γ3, Hk3, (g.trans g1).trans g3, ef⟩⟩
      · rename_i γ3 eb
        exact ⟨γ1, Hk1, _, g1.ok, eb, fun σ3 H3 Hk3 g3 => ⟨γ3, Hk3, (g.trans g1).trans g3, ef⟩⟩
      · rename_i γ3 eb
        cases ef
        exact ⟨γ1, Hk1, _, g1.ok, eb, fun σ3 H3 Hk3 g3 => q _ _ _ ((g.trans g1).trans g3)⟩
      · rename_i v γ3 eb
        cases ef
        exact ⟨γ1, Hk1, _, g1.ok, eb, fun w σ3 H3 Hk3 g3 r3 => q _ _ _ _ ((g.trans g1).trans g3) r3⟩
      · rename_i c fs γ3 eb
        cases ef
        exact ⟨γ1, Hk1, _, g1.ok, eb, fun σ3 H3 Hk3 cls dd g3 r3 => q _ _ _ _ _ ((g.trans g1).trans g3) r3⟩
      · rename_i y γ3 eb
        cases ef
        exact ⟨γ1, Hk1, _, g1.ok, eb, fun v fp σ3 H3 Hk3 g3 r3 n => q _ _ _ _ _ ((g.trans g1).trans g3) r3 fun a ha => ⟨(n a ha).1, (g.trans g1).older (n a ha).2⟩⟩
      · cases ef
    · rename_i γ1 ec
      cases ef
      exact ⟨γ', Hk', false, γ1, g.ok, ec, fun H1 Hk1 g1 => iteF (q _ _ _ (g.trans g1))⟩
    · cases ef

/-! ### list comprehensions -/
@[simp] def ownB (γ : En) (i : Nat) : Bool := match gt γ i with
  | some (.ow _ _) => true
  | _ => false
theorem noOwn_of {γ : En} {i : Nat} (h : ownB γ i = false) : ∀ b ds, gt γ i ≠ some (.ow b ds) := fun b ds e => by
  unfold ownB at h
  rw [e] at h
  cases h
@[simp] def wipeE (γ : En) : List Nat → En
  | [] => γ
  | v :: vs => (wipeE γ vs).set v none
@[simp] def noOwns (γ : En) : List Nat → Bool
  | [] => true
  | v :: vs => !ownB γ v && noOwns γ vs
@[simp] def putBack (γ0 γ : En) : List Nat → En
  | [] => γ
  | v :: vs => putBack γ0 (γ.set v (gt (wipeE γ0 vs) v)) vs
def lcF (js : List Nat) (tg : Fg) (tt : Ft) (elt : Fe) : List D → En → List D → Option (List D × En)
  | [], γ, acc => some (acc, γ)
  | d :: ds, γ, acc => match tg d γ with
    | some γ0 => match tt γ0 with
      | some (true, γ1) => match elt γ1 with
        | some (y, γ2) => if okN acc.length && noOwns γ2 js then lcF js tg tt elt ds (wipeE γ2 js) (acc ++ [y]) else none
        | none => none
      | some (false, γ1) => if noOwns γ1 js then lcF js tg tt elt ds (wipeE γ1 js) acc else none
      | none => none
    | none => none
@[simp] def lLc (js : List Nat) (tg : Fg) (src : Fa) (tt : Ft) (elt : Fe) : Fa := fun γ => match src γ with
  | some (ds, γ1) => if noOwns γ1 js then match lcF js tg tt elt ds (wipeE γ1 js) [] with
    | some (out, γ2) => some (out, putBack γ1 γ2 js)
    | none => none
    else none
  | none => none
@[simp] def tYe : Ft := fun γ => some (true, γ)
theorem ets_nil {X : Cx} : PTs X [] (tT X.K tYe) := ⟨fun pins s σ H Q I ⟨γ, Hk, b, γ2, o, e, q⟩ => pts_nil.run pins s σ H Q I (by cases e; exact q H Hk (Go.refl o))⟩
theorem ets_one {X : Cx} {c : Expr} {u : Ft} (h : ET X c u) : PTs X [c] (tT X.K u) := pts_one h
/-- what holds within and behind the block at the comprehension's own slot -/
theorem gt_none (γ : En) (j : Nat) : gt (γ.set j none) j = none := by
  rw [gt_set]
  split
  · rfl
  · rename_i c
    cases h : gt γ j with
    | none => rfl
    | some e => exact absurd ⟨rfl, gt_lt h⟩ c
theorem Ok.restore {K : PySem.W.Frag} {σ : L2.St} {H Hk H2 Hk2 : Hp} {γ γ2 : En} {j : Nat} (o : Ok K σ H Hk γ) (g : Go K (σ.set j none) H Hk (γ.set j none) (σ.set j none) H2 Hk2 γ2) (no : ownB γ j = false) (e2 : gt γ2 j = none) :
    Go K σ H Hk γ σ H2 Hk2 (γ2.set j (gt γ j)) := by
  have hlen : γ2.length = γ.length := by
    have := g.ok.len
    rw [List.length_set] at this
    exact this.symm.trans o.len
  have nj := noOwn_of no
  have ow : ∀ a, OwnA K (σ.set j none) H Hk (γ.set j none) a → OwnA K σ H Hk γ a := fun a ⟨i, b, y, v, fp, e, h, r, m⟩ => by
    rw [gt_set] at e
    split at e
    · cases e
    · rename_i c
      have hij : j ≠ i := fun z => c ⟨z, by rw [z]; exact gt_lt e⟩
      rw [set_there hij] at h
      exact ⟨i, b, y, v, fp, e, h, r, m⟩
  have at2 : ∀ {i : Nat} {e : Ent}, gt (γ2.set j (gt γ j)) i = some e → (j = i ∧ gt γ j = some e) ∨ (j ≠ i ∧ gt γ2 i = some e) := fun {i e} h => by
    rw [gt_set] at h
    split at h
    · rename_i c; exact .inl ⟨c.1, h⟩
    · rename_i c
      refine .inr ⟨fun z => c ⟨z, by rw [z]; exact gt_lt h⟩, h⟩
  have at3 : ∀ {i : Nat} {b : Bool} {y : Pay}, gt (γ2.set j (gt γ j)) i = some (.ow b y) → j ≠ i ∧ gt γ2 i = some (.ow b y) := fun {i b y} h => by
    rcases at2 h with ⟨rfl, e⟩ | r
    · exact absurd e (nj b y)
    · exact r
  refine ⟨⟨by rw [List.length_set, hlen]; exact o.len, g.ok.sub, fun i d h => ?_, fun i b y h => ?_, fun i y h => g.ok.pin _ _ (at3 h).2, fun i k b c y z v u fp fq hi hk vi vk ri rk a mi mk => ?_, fun i kvs h => ?_⟩, g.kk, fun a u h n => ?_, fun a u h n => g.kp a u h fun z => n (ow a z), fun a h => ?_, fun i y h => ?_⟩
  · rcases at2 h with ⟨rfl, e⟩ | ⟨hij, e⟩
    · obtain ⟨v, e1, r⟩ := o.dat _ d e
      exact ⟨v, e1, dp_mono g.kk r⟩
    · obtain ⟨v, e1, r⟩ := g.ok.dat i d e
      rw [set_there hij] at e1
      exact ⟨v, e1, r⟩
  · obtain ⟨hij, e⟩ := at3 h
    obtain ⟨v, fp, e1, r⟩ := g.ok.ow i b y e
    rw [set_there hij] at e1
    exact ⟨v, fp, e1, r⟩
  · obtain ⟨hij, e⟩ := at3 hi
    obtain ⟨hkj, e'⟩ := at3 hk
    exact g.ok.sep i k b c y z v u fp fq e e' (by rw [set_there hij]; exact vi) (by rw [set_there hkj]; exact vk) ri rk a mi mk
  · rcases at2 h with ⟨rfl, e⟩ | ⟨hij, e⟩
    · obtain ⟨v, e1, r⟩ := o.tab _ kvs e
      exact ⟨v, e1, r.mono g.kk⟩
    · obtain ⟨v, e1, r⟩ := g.ok.tab i kvs e
      rw [set_there hij] at e1
      exact ⟨v, e1, r⟩
  · rcases g.nw a u h n with z | z
    · exact .inl z
    · exact .inr (ow a z)
  · obtain ⟨i, b, y, v, fp, e, h1, r, m⟩ := h
    obtain ⟨hij, e'⟩ := at3 e
    rcases g.sh a ⟨i, b, y, v, fp, e', by rw [set_there hij]; exact h1, r, m⟩ with z | z
    · exact .inl (ow a z)
    · exact .inr z
  · have hij : j ≠ i := fun z => nj true y (by rw [z]; exact h)
    obtain ⟨_, es, e'⟩ := g.pn i y (by rw [gt_set, if_neg (fun c => hij c.1)]; exact h)
    exact ⟨rfl, es, by rw [gt_set, if_neg (fun c => hij c.1)]; exact e'⟩
theorem gt_wipe (γ : En) : ∀ (js : List Nat) (j : Nat), gt (wipeE γ js) j = none ∨ gt (wipeE γ js) j = gt γ j
  | [], _ => .inr rfl
  | v :: vs, j => by
    show gt ((wipeE γ vs).set v none) j = none ∨ gt ((wipeE γ vs).set v none) j = gt γ j
    rw [gt_set]
    split
    · exact .inl rfl
    · exact gt_wipe γ vs j
theorem gt_wipe_in (γ : En) : ∀ {js : List Nat} {j : Nat}, j ∈ js → gt (wipeE γ js) j = none
  | v :: vs, j, h => by
    show gt ((wipeE γ vs).set v none) j = none
    rw [gt_set]
    split
    · rfl
    · rename_i c
      rcases List.mem_cons.mp h with e | h
      · subst e
        cases q : gt (wipeE γ vs) j with
        | none => rfl
        | some e => exact absurd ⟨rfl, gt_lt q⟩ c
      · exact gt_wipe_in γ h
theorem own_wipe {γ : En} {js : List Nat} {v : Nat} (h : ownB γ v = false) : ownB (wipeE γ js) v = false := by
  unfold ownB at h ⊢
  rcases gt_wipe γ js v with e | e
  · rw [e]
  · rw [e]; exact h
theorem dropAll {K : PySem.W.Frag} {σ : L2.St} {H Hk : Hp} {γ : En} (o : Ok K σ H Hk γ) : ∀ js : List Nat, noOwns γ js = true → Go K σ H Hk γ (wipe σ js) H Hk (wipeE γ js)
  | [], _ => Go.refl o
  | v :: vs, h => by
    simp only [noOwns, Bool.and_eq_true, Bool.not_eq_true'] at h
    have g := dropAll o vs h.2
    exact g.trans (g.ok.drop (noOwn_of (own_wipe h.1)))
theorem restoreAll {K : PySem.W.Frag} {σ : L2.St} {H Hk H2 Hk2 : Hp} {γ : En} (o : Ok K σ H Hk γ) : ∀ (js : List Nat) (γ2 : En), noOwns γ js = true → Go K (wipe σ js) H Hk (wipeE γ js) (wipe σ js) H2 Hk2 γ2 → (∀ j ∈ js, gt γ2 j = none) → Go K σ H Hk γ σ H2 Hk2 (putBack γ γ2 js)
  | [], _, _, g, _ => g
  | v :: vs, γ2, h, g, n => by
    simp only [noOwns, Bool.and_eq_true, Bool.not_eq_true'] at h
    have gd := dropAll o vs h.2
    have gr := gd.ok.restore g (own_wipe h.1) (n v (by simp))
    refine restoreAll o vs _ h.2 gr fun j hj => ?_
    rw [gt_set]
    split
    · rename_i c
      rw [c.1]
      exact gt_wipe_in γ hj
    · exact n j (by simp [hj])
theorem wipe_wipe (σ : L2.St) : ∀ js : List Nat, wipe (wipe σ js) js = wipe σ js := by
  have at1 : ∀ (τ : L2.St) (js : List Nat) (i : Nat), (wipe τ js)[i]? = if i ∈ js ∧ i < τ.length then some none else τ[i]? := by
    intro τ js
    induction js with
    | nil => intro i; simp [wipe]
    | cons v vs ih =>
      intro i
      show ((wipe τ vs).set v none)[i]? = _
      rw [List.getElem?_set, ih, wipe_length]
      by_cases e : v = i
      · subst e
        by_cases l : v < τ.length
        · simp [l]
        · simp [l]
      · have e' : ¬ i = v := fun z => e z.symm
        simp [e, e']
  intro js
  apply List.ext_getElem?
  intro i
  rw [at1, wipe_length, at1]
  split <;> rfl
/-- what a target does, by data, and that it stores at js alone -/
def TgOk (K : PySem.W.Frag) (g : TG) (tg : Fg) (js : List Nat) : Prop := ∀ v d σ H Hk γ γ2 (Q : L2.St → Hp → Prop), Ok K σ H Hk γ → Dp K Hk v d → tg d γ = some γ2 → (∀ σ2, Go K σ H Hk γ σ2 H Hk γ2 → wipe σ2 js = wipe σ js → Q σ2 H) → g v σ H Q
theorem tg_name {K : PySem.W.Frag} (j : Nat) : TgOk K (gName j) (gDat j) [j] := by
  intro v d σ H Hk γ γ2 Q o r e q
  unfold gDat at e
  split at e <;> cases e
  rename_i c
  refine q _ (o.setDat r (noPin_of o (by simpa using c))) ?_
  show (σ.set j (some v)).set j none = σ.set j none
  rw [List.set_set]
theorem tg_pair {K : PySem.W.Frag} (i j : Nat) : TgOk K (gTup K 2 (gCons (gName i) (gCons (gName j) gNil))) (gTp 2 (gsCons (gDat i) (gsCons (gDat j) gsNo))) [i, j] := by
  intro v d σ H Hk γ γ2 Q o r e q
  unfold gTp at e
  split at e
  · rename_i ds
    split at e
    · match ds, r, e with
      | [d1, d2], r, e =>
        cases r with
        | tup hs ra =>
          cases ra with
          | cons r1 ra =>
            cases ra with
            | cons r2 ra =>
              cases ra
              simp only [gsCons, gsNo] at e
              unfold gDat at e
              split at e
              · rename_i γa ea
                split at ea <;> cases ea
                rename_i c1
                split at e
                · rename_i γb eb
                  split at eb <;> cases eb
                  rename_i c2
                  cases e
                  have g1 := o.setDat r1 (noPin_of o (by simpa using c1))
                  have g2 := g1.ok.setDat r2 (noPin_of g1.ok (by simpa using c2))
                  refine ⟨_, _, rfl, sqt_mono o.sub hs, rfl, _, _, rfl, _, _, rfl, rfl, q _ (g1.trans g2) ?_⟩
                  show ((((σ.set i _).set j _).set j none).set i none) = (σ.set j none).set i none
                  apply List.ext_getElem?
                  intro k
                  simp only [List.getElem?_set, List.length_set]
                  by_cases h1 : i = k <;> by_cases h2 : j = k <;> simp [h1, h2]
                · cases e
              · cases e
    · cases e
  · cases e
/-- a new object beside the situation -/
theorem OwnV.off {K : PySem.W.Frag} {H Hk : Hp} {p : Addr} {o : HO} {v : V} {y : Pay} {fp : List Addr} (r : OwnV K H Hk v y fp) (n : p ∉ fp) : OwnV K (upd H p o) Hk v y fp :=
  r.to (Same.refl _) (fun a ha u e => by rw [upd_ne (fun z => n (by rw [← z]; exact ha))]; exact e) fun a ha => (r.at a ha).2
theorem OwnV.offBack {K : PySem.W.Frag} {H Hk : Hp} {p : Addr} {o : HO} {v : V} {y : Pay} {fp : List Addr} (r : OwnV K (upd H p o) Hk v y fp) (n : p ∉ fp) : OwnV K H Hk v y fp :=
  r.to (Same.refl _) (fun a ha u e => by rw [upd_ne (fun z => n (by rw [← z]; exact ha))] at e; exact e) fun a ha => (r.at a ha).2
/-- what is owned beside a thing that is not -/
theorem Ok.offA {K : PySem.W.Frag} {σ : L2.St} {H Hk : Hp} {γ : En} {p : Addr} {o : HO} (k : Ok K σ H Hk γ) (no : ¬ OwnA K σ H Hk γ p) {a : Addr} : OwnA K σ (upd H p o) Hk γ a ↔ OwnA K σ H Hk γ a := by
  constructor
  · rintro ⟨i, b, y, v, fp, e, h, r, m⟩
    obtain ⟨v', fp', e1, r1⟩ := k.ow i b y e
    rw [h] at e1; cases e1
    have n : p ∉ fp' := fun z => no ⟨i, b, y, v, fp', e, h, r1, z⟩
    exact ⟨i, b, y, v, fp', e, h, r1, by rw [← r.det (r1.off n)]; exact m⟩
  · rintro ⟨i, b, y, v, fp, e, h, r, m⟩
    exact ⟨i, b, y, v, fp, e, h, r.off fun z => no ⟨i, b, y, v, fp, e, h, r, z⟩, m⟩
theorem Ok.offS {K : PySem.W.Frag} {σ : L2.St} {H Hk : Hp} {γ : En} {p : Addr} {o : HO} (k : Ok K σ H Hk γ) (hk : Hk p = none) (no : ¬ OwnA K σ H Hk γ p) : Ok K σ (upd H p o) Hk γ := by
  have bk : ∀ {i b y v fp}, gt γ i = some (.ow b y) → σ[i]? = some (some v) → OwnV K (upd H p o) Hk v y fp → OwnV K H Hk v y fp := fun {i b y v fp} e h r => by
    obtain ⟨v', fp', e1, r1⟩ := k.ow i b y e
    rw [h] at e1; cases e1
    rw [r.det (r1.off fun z => no ⟨i, b, y, v, fp', e, h, r1, z⟩)]
    exact r1
  refine ⟨k.len, fun a u e => ?_, k.dat, fun i b y e => ?_, k.pin, fun i j b c y z v u fp fq ei ej vi vj ri rj a mi mj => k.sep i j b c y z v u fp fq ei ej vi vj (bk ei vi ri) (bk ej vj rj) a mi mj, k.tab⟩
  · have : a ≠ p := fun z => by rw [z, hk] at e; cases e
    rw [upd_ne this]
    exact k.sub a u e
  · obtain ⟨v, fp, e1, r⟩ := k.ow i b y e
    exact ⟨v, fp, e1, r.off fun z => no ⟨i, b, y, v, fp, e, e1, r, z⟩⟩
theorem Go.beside {K : PySem.W.Frag} {σ σ2 : L2.St} {H Hk H2 Hk2 : Hp} {γ γ2 : En} {p : Addr} {o o2 : HO} (k : Ok K σ H Hk γ) (hp : H p = none) (g : Go K σ (upd H p o) Hk γ σ2 (upd H2 p o2) Hk2 γ2) (h2 : H2 p = none) (hk2 : Hk2 p = none) (no2 : ¬ OwnA K σ2 (upd H2 p o2) Hk2 γ2 p) : Go K σ H Hk γ σ2 H2 Hk2 γ2 := by
  have nown : ¬ OwnA K σ H Hk γ p := fun h => by
    obtain ⟨⟨u, hu⟩, _⟩ := h.at
    rw [hp] at hu; cases hu
  have un : upd (upd H2 p o2) p o2 = upd H2 p o2 := upd_upd
  have b2 : ∀ {i b y v fp}, gt γ2 i = some (.ow b y) → σ2[i]? = some (some v) → OwnV K (upd H2 p o2) Hk2 v y fp → OwnV K H2 Hk2 v y fp := fun {i b y v fp} e h r => r.offBack fun z => no2 ⟨i, b, y, v, fp, e, h, r, z⟩
  have f2 : ∀ {i b y v fp}, gt γ2 i = some (.ow b y) → σ2[i]? = some (some v) → OwnV K H2 Hk2 v y fp → OwnV K (upd H2 p o2) Hk2 v y fp := fun {i b y v fp} e h r => r.off fun z => by
    obtain ⟨⟨u, hu⟩, _⟩ := r.at p z
    rw [h2] at hu; cases hu
  refine ⟨⟨g.ok.len, fun a u e => ?_, g.ok.dat, fun i b y e => ?_, g.ok.pin, fun i j b c y z v u fp fq ei ej vi vj ri rj a mi mj => g.ok.sep i j b c y z v u fp fq ei ej vi vj (f2 ei vi ri) (f2 ej vj rj) a mi mj, g.ok.tab⟩, g.kk, fun a u e n => ?_, fun a u e n => ?_, fun a e => ?_, g.pn⟩
  · have := g.ok.sub a u e
    by_cases ha : a = p
    · subst ha; rw [hk2] at e; cases e
    · rw [upd_ne ha] at this; exact this
  · obtain ⟨v, fp, e1, r⟩ := g.ok.ow i b y e
    exact ⟨v, fp, e1, b2 e e1 r⟩
  · rcases g.nw a u e n with z | z
    · by_cases ha : a = p
      · subst ha; rw [upd_same] at z; cases z
      · rw [upd_ne ha] at z; exact .inl z
    · exact .inr ((k.offA nown).mp z)
  · have ha : a ≠ p := ne_of_none e hp
    have := g.kp a u (by rw [upd_ne ha]; exact e) fun z => n ((k.offA nown).mp z)
    rw [upd_ne ha] at this; exact this
  · obtain ⟨i, b, y, v, fp, e1, e2, r, m⟩ := e
    rcases g.sh a ⟨i, b, y, v, fp, e1, e2, f2 e1 e2 r, m⟩ with z | z
    · exact .inl ((k.offA nown).mp z)
    · by_cases ha : a = p
      · subst ha; exact .inr hp
      · rw [upd_ne ha] at z; exact .inr z
mutual
/-- what stands at the addresses that are owned -/
theorem OwnV.kind {K : PySem.W.Frag} {H Hk : Hp} : ∀ {v : V} {y : Pay} {fp : List Addr}, OwnV K H Hk v y fp → ∀ a ∈ fp, (∃ vs, H a = some (.lst vs)) ∨ (∃ o, H a = some (dnO a o)) ∨ (∃ kvs, H a = some (.dK kvs)) ∨ (∃ C dx fs, H a = some (.ins C dx fs)) ∨ ∃ x, H a = some (.own x)
  | _, _, _, .dat _, a, h => by cases h
  | _, _, _, .lst h1 h2 _, a, h => by
    obtain rfl := List.mem_singleton.mp h
    exact .inl ⟨_, h1⟩
  | _, _, _, .dic h1 h2 _ _ _ _ _, a, h => by
    obtain rfl := List.mem_singleton.mp h
    exact .inr (.inl ⟨_, h1⟩)
  | _, _, _, .txt h1 h2 _, a, h => by
    obtain rfl := List.mem_singleton.mp h
    exact .inr (.inr (.inl ⟨_, h1⟩))
  | _, _, _, .ins h1 h2 h3 h4 _ h6 _ _ _, a, h => by
    rcases List.mem_cons.mp h with rfl | h
    · exact .inr (.inr (.inr (.inl ⟨_, _, _, h1⟩)))
    · rcases List.mem_cons.mp h with rfl | h
      · exact .inr (.inr (.inr (.inr ⟨_, h2⟩)))
      · exact OwnFs.kind h6 a h
theorem OwnFs.kind {K : PySem.W.Frag} {H Hk : Hp} : ∀ {vs : List (Str × V)} {fs : List (Str × Pay)} {fp : List Addr}, OwnFs K H Hk vs fs fp → ∀ a ∈ fp, (∃ vs, H a = some (.lst vs)) ∨ (∃ o, H a = some (dnO a o)) ∨ (∃ kvs, H a = some (.dK kvs)) ∨ (∃ C dx fs, H a = some (.ins C dx fs)) ∨ ∃ x, H a = some (.own x)
  | _, _, _, .nil, a, h => by cases h
  | _, _, _, .cons h1 h2 _, a, h => by
    rcases List.mem_append.mp h with h | h
    · exact OwnV.kind h1 a h
    · exact OwnFs.kind h2 a h
end
theorem OwnA.noN {K : PySem.W.Frag} {σ : L2.St} {H Hk : Hp} {γ : En} {a : Addr} (h : OwnA K σ H Hk γ a) (e : H a = none) : False := by
  obtain ⟨⟨u, hu⟩, _⟩ := h.at
  rw [e] at hu; cases hu
/-- what is not owned stays so -/
theorem Go.noA {K : PySem.W.Frag} {σ σ2 : L2.St} {H Hk H2 Hk2 : Hp} {γ γ2 : En} {p : Addr} {u : HO} (g : Go K σ H Hk γ σ2 H2 Hk2 γ2) (n : ¬ OwnA K σ H Hk γ p) (h : H p = some u) : ¬ OwnA K σ2 H2 Hk2 γ2 p := fun z => by
  rcases g.sh p z with z | z
  · exact n z
  · rw [h] at z; cases z
theorem Ok.noNew {K : PySem.W.Frag} {σ : L2.St} {H Hk : Hp} {γ : En} {p : Addr} {o : HO} (k : Ok K σ H Hk γ) (hp : H p = none) : ¬ OwnA K σ (upd H p o) Hk γ p := fun z => ((k.offA fun z => z.noN hp).mp z).noN hp
end DN
namespace DN
open PySem PySem.Spec PyProof.Rows L2
section
variable {K : PySem.W.Frag}
/-- an evaluation beside an object that it does not know -/
theorem aside {σ2 σ3 : L2.St} {H0 Hk H4 Hk4 : Hp} {γb γ4 : En} {L : Addr} {o : HO} (k : Ok K σ2 H0 Hk γb) (hL : H0 L = none) (hk : Hk L = none) (g : Go K σ2 (upd H0 L o) Hk γb σ3 H4 Hk4 γ4) :
    ∃ H04, H4 = upd H04 L o ∧ H04 L = none ∧ Hk4 L = none ∧ Go K σ2 H0 Hk γb σ3 H04 Hk4 γ4 := by
  have nown0 : ¬ OwnA K σ2 H0 Hk γb L := fun h => by
    obtain ⟨⟨u, hu⟩, _⟩ := h.at
    rw [hL] at hu; cases hu
  have nown : ¬ OwnA K σ2 (upd H0 L o) Hk γb L := fun z => nown0 ((k.offA nown0).mp z)
  have h4 : H4 L = some o := g.kp L o upd_same nown
  have hk4 : Hk4 L = none := by
    cases e : Hk4 L with
    | none => rfl
    | some u =>
      rcases g.nw L u e hk with z | z
      · rw [upd_same] at z; cases z
      · exact absurd z nown
  have no4 : ¬ OwnA K σ3 H4 Hk4 γ4 L := fun z => by
    rcases g.sh L z with z | z
    · exact nown z
    · rw [upd_same] at z; cases z
  refine ⟨fun a => if a = L then none else H4 a, ?_, by simp, hk4, ?_⟩
  · funext a
    by_cases ha : a = L
    · subst ha; rw [upd_same]; exact h4
    · rw [upd_ne ha]; simp [ha]
  · have e : upd (fun a => if a = L then none else H4 a) L o = H4 := by
      funext a
      by_cases ha : a = L
      · subst ha; rw [upd_same]; exact h4.symm
      · rw [upd_ne ha]; simp [ha]
    refine Go.beside (o := o) (o2 := o) k hL ?_ (by simp) hk4 ?_
    · rw [e]
      exact g
    · rw [e]
      exact no4
theorem lc_imp {js : List Nat} {g : TG} {tg : Fg} {src : Fa} {tt : Ft} {elt : Fe} {σ : L2.St} {H : Hp} {Q : VK} (hg : TgOk K g tg js) (h : tL K (lLc js tg src tt elt) σ H Q) : tLc (tIt K src) g (tT K tt) (tI K elt) js σ H Q := by
  obtain ⟨γ, Hk, out, γr, k, e, q⟩ := h
  unfold lLc at e
  split at e
  · rename_i ds γ1 es
    split at e
    · rename_i no
      split at e <;> cases e
      rename_i γ2 el
      refine ⟨γ, Hk, ds, γ1, k, es, fun J H1 Hk1 g1 wk L hL => ?_⟩
      have gd := dropAll g1.ok js no
      have hk1L : Hk1 L = none := g1.ok.sub.free hL
      let W : Nat → Nat → Hp → Prop := fun i m H' => m = ds.length - i ∧ i ≤ ds.length ∧ ∃ γ' Hk' acc av H0, H' = upd H0 L (.lst av) ∧ H0 L = none ∧ Go K (wipe σ js) H1 Hk1 (wipeE γ1 js) (wipe σ js) H0 Hk' γ' ∧ (∀ j ∈ js, gt γ' j = none) ∧ Hk' L = none ∧ Same Hk1 Hk' ∧ DpAll K Hk' av acc ∧ lcF js tg tt elt (ds.drop i) γ' acc = some (out, γ2)
      refine ⟨W, ⟨ds.length, by simp, Nat.zero_le _, wipeE γ1 js, Hk1, [], [], H1, rfl, hL, Go.refl gd.ok, fun j hj => gt_wipe_in _ hj, hk1L, Same.refl _, .nil, by simpa using el⟩, ?_⟩
      rintro i m H' ⟨rfl, hi, γ', Hk', acc, av, H0, rfl, h0L, gg, gj, hkL, sk, ra, ef⟩
      obtain ⟨w1, w2⟩ := wk (upd H0 L (.lst av)) Hk' sk (gg.ok.sub.trans (same_upd h0L))
      by_cases hlt : i < ds.length
      · obtain ⟨go, yl⟩ := w1 i hlt
        rw [List.drop_eq_getElem_cons hlt] at ef
        unfold lcF at ef
        refine .inr ⟨go, W (i + 1) (ds.length - (i + 1)), fun H3 w => ⟨_, by omega, w⟩, fun x H'' y => ?_⟩
        obtain ⟨Hc, gr, rv⟩ := yl x H'' y
        have ok0 : Ok K (wipe σ js) (upd H0 L (.lst av)) Hk' γ' := gg.ok.grow (Grow.newH gg.ok.sub h0L)
        have gy := ok0.go gr
        split at ef
        · rename_i γ0 etg
          refine hg x ds[i] _ _ Hc γ' γ0 _ gy.ok rv etg fun σ2 gt2 hw => ?_
          rw [wipe_wipe] at hw
          have ga := gy.trans gt2
          -- back to the block's beginning
          have back : ∀ {H3 Hk3 : Hp} {γ3 : En}, Go K (wipe σ js) H0 Hk' γ' σ2 H3 Hk3 γ3 → noOwns γ3 js = true → Go K (wipe σ js) H1 Hk1 (wipeE γ1 js) (wipe σ js) H3 Hk3 (wipeE γ3 js) := fun {H3 Hk3 γ3} g3 n3 => by
            have := (gg.trans g3).trans (dropAll g3.ok js n3)
            rw [hw] at this
            exact this
          refine ⟨hw, ?_⟩
          split at ef
          · rename_i γ3 et
            refine ⟨γ0, Hc, true, γ3, gt2.ok, et, fun H3 Hk3 g3 => iteT ?_⟩
            split at ef
            · rename_i y γ4 ee
              split at ef
              · rename_i c
                rw [Bool.and_eq_true] at c
                refine ⟨γ3, Hk3, y, γ4, g3.ok, ee, fun u H4 Hk4 g4 r4 => ?_⟩
                obtain ⟨H04, rfl, h04, hk4, g5⟩ := aside gg.ok h0L hkL ((ga.trans g3).trans g4)
                have hla : av.length = acc.length := dps_len ra
                have kk4 : Same Hk' Hk4 := g5.kk
                refine ⟨av, upd_same, by rw [hla]; exact okN_lt c.1, rfl, hlt, _, Hk4, acc ++ [y], av ++ [u], H04, upd_upd, h04, back g5 c.2, fun j hj => gt_wipe_in _ hj, hk4, sk.trans kk4, ?_, ef⟩
                exact dps_app (dps_mono kk4 ra) (.cons r4 .nil)
              · cases ef
            · cases ef
          · rename_i γ3 et
            refine ⟨γ0, Hc, false, γ3, gt2.ok, et, fun H3 Hk3 g3 => iteF ?_⟩
            split at ef
            · rename_i c
              obtain ⟨H03, rfl, h03, hk3, g5⟩ := aside gg.ok h0L hkL (ga.trans g3)
              exact ⟨rfl, hlt, _, Hk3, acc, av, H03, rfl, h03, back g5 c, fun j hj => gt_wipe_in _ hj, hk3, sk.trans g5.kk, dps_mono g5.kk ra, ef⟩
            · cases ef
          · cases ef
        · cases ef
      · have e0 : i = ds.length := by omega
        subst e0
        rw [List.drop_length] at ef
        cases ef
        exact .inl ⟨w2 _ (Nat.le_refl _), q L av H0 Hk' (g1.trans (restoreAll g1.ok js _ no gg gj)) h0L ra⟩
    · cases e
  · cases e
end
end DN
namespace DN
open PySem PySem.Spec PyProof.Rows L2
/-! ### list comprehensions as rules -/
section
variable {W : WX} {X : Cx} {elt it tge : Expr} {ifs : List Expr} {scope : Scope} {own : List (Str × Nat)} {src : Fa} {g : TG} {tg : Fg} {tt : Ft} {ef : Fe} {pos : Pos} {js : List Nat} {y : Str}
theorem el_lc (hj : own.map (·.2) = js) (htg : TgOk X.K g tg js) (hc : X.calm = true) (hN : X.N.Nodup) (hi : EI X tge it src) (ok : BlkOk X.N X.env.scope scope own)
    (hg : ∀ (s : Shared) (H : Hp) (C : Addr) (cl : List (Str × Addr)) (fp : List Addr), PG (X.blk s H scope (compEnvC scope cl C X.env) fp) tge g)
    (ht : ∀ (s : Shared) (H : Hp) (C : Addr) (cl : List (Str × Addr)) (fp : List Addr), PTs (X.blk s H scope (compEnvC scope cl C X.env) fp) ifs (tT X.K tt))
    (he : ∀ (s : Shared) (H : Hp) (C : Addr) (cl : List (Str × Addr)) (fp : List Addr), EV (X.blk s H scope (compEnvC scope cl C X.env) fp) elt ef) (hs : ∀ x, foldedSetIterable it X.env x = pure x := by intro _; rfl) :
    EL X (.ListComp elt [⟨tge, it, ifs, 0⟩] scope pos) (lLc js tg src tt ef) := by
  subst hj
  exact PE.imp (pe_lc (te := tI X.K ef) hc hN hi ok hg ht he hs) fun _ _ _ h => lc_imp htg h
theorem es_lcOwn (i : Nat) {py spos : Pos} (hj : own.map (·.2) = js) (htg : TgOk X.K g tg js) (hc : X.calm = true) (hN : X.N.Nodup) (hy : X.N[i]? = some y) (hyl : X.env.scope.names.lookup y = some .local)
    (hsw : swapsWith (.ListComp elt [⟨tge, it, ifs, 0⟩] scope pos) (some (.Name y py)) spos.line X.env = pure true) (hi : EI X tge it src) (ok : BlkOk X.N X.env.scope scope own)
    (hg : ∀ (s : Shared) (H : Hp) (C : Addr) (cl : List (Str × Addr)) (fp : List Addr), PG (X.blk s H scope (compEnvC scope cl C X.env) fp) tge g)
    (ht : ∀ (s : Shared) (H : Hp) (C : Addr) (cl : List (Str × Addr)) (fp : List Addr), PTs (X.blk s H scope (compEnvC scope cl C X.env) fp) ifs (tT X.K tt))
    (he : ∀ (s : Shared) (H : Hp) (C : Addr) (cl : List (Str × Addr)) (fp : List Addr), EV (X.blk s H scope (compEnvC scope cl C X.env) fp) elt ef) (hs : ∀ x, foldedSetIterable it X.env x = pure x := by intro _; rfl) :
    ES X W (.Assign [.Name y py] (.ListComp elt [⟨tge, it, ifs, 0⟩] scope pos) spos) (sOwn i (lLc js tg src tt ef)) := by
  subst hj
  refine PS.imp (ps_setLc (te := tI X.K ef) hc hN hy hyl hsw hi ok hg ht he hs) fun Z σ H h => ?_
  have h2 := own_imp h
  exact lc_imp htg h2
theorem es_lcDat (i : Nat) {py spos : Pos} (hj : own.map (·.2) = js) (htg : TgOk X.K g tg js) (hc : X.calm = true) (hN : X.N.Nodup) (hy : X.N[i]? = some y) (hyl : X.env.scope.names.lookup y = some .local)
    (hsw : swapsWith (.ListComp elt [⟨tge, it, ifs, 0⟩] scope pos) (some (.Name y py)) spos.line X.env = pure true) (hi : EI X tge it src) (ok : BlkOk X.N X.env.scope scope own)
    (hg : ∀ (s : Shared) (H : Hp) (C : Addr) (cl : List (Str × Addr)) (fp : List Addr), PG (X.blk s H scope (compEnvC scope cl C X.env) fp) tge g)
    (ht : ∀ (s : Shared) (H : Hp) (C : Addr) (cl : List (Str × Addr)) (fp : List Addr), PTs (X.blk s H scope (compEnvC scope cl C X.env) fp) ifs (tT X.K tt))
    (he : ∀ (s : Shared) (H : Hp) (C : Addr) (cl : List (Str × Addr)) (fp : List Addr), EV (X.blk s H scope (compEnvC scope cl C X.env) fp) elt ef) (hs : ∀ x, foldedSetIterable it X.env x = pure x := by intro _; rfl) :
    ES X W (.Assign [.Name y py] (.ListComp elt [⟨tge, it, ifs, 0⟩] scope pos) spos) (sAsg (fL (lLc js tg src tt ef)) (gDat i)) := by
  subst hj
  refine PS.imp (ps_setLc (te := tI X.K ef) hc hN hy hyl hsw hi ok hg ht he hs) fun Z σ H h => ?_
  obtain ⟨γ, Hk, o, k, e, q⟩ := h
  unfold sAsg fL at e
  refine lc_imp (K := X.K) (tg := tg) (src := src) (tt := tt) (elt := ef) (Q := fun x H1 => gName i x σ H1 Z.nx) htg ?_
  cases el : lLc (own.map (·.2)) tg src tt ef γ with
  | none => rw [el] at e; cases e
  | some r =>
    obtain ⟨ds, γ1⟩ := r
    rw [el] at e
    simp only at e
    cases eg : gDat i (.list ds) γ1 with
    | none => rw [eg] at e; cases e
    | some γ2 =>
      rw [eg] at e; cases e
      refine ⟨γ, Hk, ds, γ1, k, el, fun p vs H2 Hk2 g hp r => ?_⟩
      have g2 : Grow H2 Hk2 (upd H2 p (.lst vs)) (upd Hk2 p (.lst vs)) := Grow.new g.ok.sub hp
      have g3 := g.trans (g.ok.go g2)
      exact gDat_imp ⟨γ1, _, .list ds, γ2, g3.ok, .lst (SqL.of upd_same) (dps_mono g2.kk r), eg, fun σ2 g4 => q σ2 _ _ (g3.trans g4)⟩
end

/-! ### a def's contract: a function of data; the first argument may be a list of the caller's that the def changes -/
def Args (K : PySem.W.Frag) (bor : Bool) (H Hk : Hp) (vs : List V) (ds : List D) : Prop := match bor with
  | false => DpAll K Hk vs ds
  | true => ∃ p ws bs vs' ds', vs = .ref p :: vs' ∧ ds = .list bs :: ds' ∧ H p = some (.lst ws) ∧ Hk p = none ∧ DpAll K Hk ws bs ∧ DpAll K Hk vs' ds'
abbrev Fun' := List D → Option (D × List D)
def spD (K : PySem.W.Frag) (bor : Bool) (n : Nat) (F : Fun') (vs : List V) (H : Hp) (Q : VK) : Prop := vs.length = n ∧ ∃ Hk ds d out, Same Hk H ∧ Args K bor H Hk vs ds ∧ F ds = some (d, out) ∧
  ∀ v H2 Hk2, Same Hk2 H2 → Same Hk Hk2 → (∀ a u, Hk2 a = some u → Hk a = none → H a = none) → (∀ a u, H a = some u → (bor = true → vs[0]? ≠ some (.ref a)) → H2 a = some u) → Dp K Hk2 v d →
    (bor = true → ∃ p ws, vs[0]? = some (.ref p) ∧ H2 p = some (.lst ws) ∧ Hk2 p = none ∧ DpAll K Hk2 ws out) → Q v H2
structure FnG (P : Program) (w : World) (K : PySem.W.Frag) (mg : Str → Option Value) (base : Heap) (k : Nat) (f : Addr) (fd : FuncData) (ps : List Str) (bor : Bool) (F : Fun') : Prop where
  run : ∀ (A : Around) (outer : List Env) (s : Shared) (H : Hp) (args : PySem.Args) (us : List Value) (vs : List V) (Q : VK), Room k A → A.guards = some [] → Env0 P w K mg base A outer s H → BindsTo s fd args (ps.zip us) → Vals vs us →
    spD K bor ps.length F vs H Q → codeAny (model P w) A (.call (.ref f) args) (CR CX0 outer P w H s Q E0) s
@[simp] def ini (bor : Bool) (m : Nat) (ds : List D) : En := (match bor, ds with
  | true, .list bs :: r => some (.own true bs) :: r.map fun d => some (.dat d)
  | _, ds => ds.map fun d => some (.dat d)) ++ List.replicate m none
/-- the body B does what F tells -/
def Does (bor : Bool) (m : Nat) (B : Fs) (F : Fun') : Prop := ∀ ds d out, F ds = some (d, out) → ∃ γ2, (B (ini bor m ds) = some (.rt d γ2) ∨ (d = .none ∧ B (ini bor m ds) = some (.nx γ2))) ∧ (bor = true → gt γ2 0 = some (.own true out))
theorem gt_map : ∀ (ds : List D) (r : En) (i : Nat), gt ((ds.map fun d => some (Ent.dat d)) ++ r) i = if h : i < ds.length then some (.dat ds[i]) else gt r (i - ds.length)
  | [], r, i => by simp
  | d :: ds, r, 0 => by simp [gt]
  | d :: ds, r, i + 1 => by
    have := gt_map ds r i
    simp only [List.map_cons, List.cons_append, gt, this, List.length_cons, Nat.add_lt_add_iff_right, Nat.add_sub_add_right, List.getElem_cons_succ]
theorem gt_rep : ∀ (m i : Nat), gt (List.replicate m none) i = none
  | 0, _ => rfl
  | m + 1, 0 => rfl
  | m + 1, i + 1 => gt_rep m i
theorem start_at {N : List Str} {vs : List V} {i : Nat} {v : V} (h : vs[i]? = some v) : (L2.start N vs)[i]? = some (some v) := by
  have hi := (List.getElem?_eq_some_iff.mp h).1
  unfold L2.start
  rw [List.getElem?_append_left (by simpa using hi), List.getElem?_map, h]
  rfl
theorem ini_dat {K : PySem.W.Frag} {N : List Str} {vs : List V} {ds : List D} {H Hk : Hp} {m : Nat} (s : Same Hk H) (a : DpAll K Hk vs ds) (hl : vs.length + m = N.length) : Ok K (L2.start N vs) H Hk ((ds.map fun d => some (Ent.dat d)) ++ List.replicate m none) := by
  have no : ∀ {i b y}, gt ((ds.map fun d => some (Ent.dat d)) ++ List.replicate m none) i = some (.ow b y) → False := fun {i b y} e => by
    rw [gt_map] at e
    split at e
    · cases e
    · rw [gt_rep] at e; cases e
  have nt : ∀ {i kvs}, gt ((ds.map fun d => some (Ent.dat d)) ++ List.replicate m none) i = some (.tab kvs) → False := fun {i kvs} e => by
    rw [gt_map] at e
    split at e
    · cases e
    · rw [gt_rep] at e; cases e
  refine ⟨?_, s, fun i d e => ?_, fun i b y e => (no e).elim, fun i y e => (no e).elim, fun i _ b _ y _ _ _ _ _ e _ => (no e).elim, fun i kvs e => (nt e).elim⟩
  · unfold L2.start
    simp [← dps_len a]
    omega
  · rw [gt_map] at e
    split at e
    · rename_i h
      cases e
      obtain ⟨v, ev, r⟩ := dps_at a (List.getElem?_eq_getElem h)
      exact ⟨v, start_at ev, r⟩
    · rw [gt_rep] at e; cases e
theorem ini_ok {K : PySem.W.Frag} {N : List Str} {bor : Bool} {vs : List V} {ds : List D} {H Hk : Hp} {m : Nat} (s : Same Hk H) (a : Args K bor H Hk vs ds) (hl : vs.length + m = N.length) : Ok K (L2.start N vs) H Hk (ini bor m ds) := by
  cases bor with
  | false => exact ini_dat s a hl
  | true =>
    obtain ⟨p, ws, bs, vs', ds', rfl, rfl, hp, hk, aw, a'⟩ := a
    have hs : L2.start N (.ref p :: vs') = some (.ref p) :: L2.start (N.drop 1) vs' := by
      unfold L2.start
      simp only [List.map_cons, List.cons_append, List.length_cons, List.length_drop]
      rw [show N.length - (vs'.length + 1) = N.length - 1 - vs'.length by omega]
    have hi : ini true m (.list bs :: ds') = some (.own true bs) :: ((ds'.map fun d => some (Ent.dat d)) ++ List.replicate m none) := rfl
    have k := ini_dat (N := N.drop 1) (m := m) s a' (by rw [List.length_drop]; simp only [List.length_cons] at hl; omega)
    rw [hs, hi]
    have no : ∀ {i b y}, gt ((ds'.map fun d => some (Ent.dat d)) ++ List.replicate m none) i = some (.ow b y) → False := fun {i b y} e => by
      rw [gt_map] at e
      split at e
      · cases e
      · rw [gt_rep] at e; cases e
    refine ⟨by simp only [List.length_cons]; rw [k.len], s, fun i d e => ?_, fun i b y e => ?_, fun i y e => ?_, fun i j b c y z v u fp fq ei ej => ?_, fun i kvs e => ?_⟩
    · cases i with
      | zero => cases e
      | succ i =>
        obtain ⟨v, ev, r⟩ := k.dat i d e
        exact ⟨v, by simpa using ev, r⟩
    · cases i with
      | zero => cases e; exact ⟨.ref p, [p], rfl, .lst hp hk aw⟩
      | succ i => exact (no e).elim
    · cases i with
      | zero => rfl
      | succ i => exact (no e).elim
    · cases i with
      | zero =>
        cases j with
        | zero => intros; rfl
        | succ j => exact (no ej).elim
      | succ i => exact (no ei).elim
    · cases i with
      | zero => cases e
      | succ i =>
        obtain ⟨v, ev, r⟩ := k.tab i kvs e
        exact ⟨v, by simpa using ev, r⟩
@[simp] def runF (bor : Bool) (m : Nat) (B : Fs) : Fun' := fun ds => match B (ini bor m ds) with
  | some (.rt d γ2) => if bor then match gt γ2 0 with
    | some (.ow true (.lst out)) => some (d, out)
    | _ => none
    else some (d, [])
  | some (.nx γ2) => if bor then match gt γ2 0 with
    | some (.ow true (.lst out)) => some (.none, out)
    | _ => none
    else some (.none, [])
  | _ => none
theorem does_run (bor : Bool) (m : Nat) (B : Fs) : Does bor m B (runF bor m B) := by
  intro ds d out e
  unfold runF at e
  split at e
  · rename_i d' γ2 eB
    refine ⟨γ2, ?_⟩
    split at e
    · split at e <;> cases e
      rename_i eo
      exact ⟨.inl eB, fun _ => eo⟩
    · rename_i c
      cases e
      exact ⟨.inl eB, fun z => absurd z c⟩
  · rename_i γ2 eB
    refine ⟨γ2, ?_⟩
    split at e
    · split at e <;> cases e
      rename_i eo
      exact ⟨.inr ⟨rfl, eB⟩, fun _ => eo⟩
    · rename_i c
      cases e
      exact ⟨.inr ⟨rfl, eB⟩, fun z => absurd z c⟩
  · cases e
/-- a def by its body's function -/
theorem fnG_of {P : Program} {w : World} {K : PySem.W.Frag} {mg : Str → Option Value} {base : Heap} {x qual : Str} {st : Stmt} {f : Addr} {fd : FuncData} {N ps : List Str} {k m : Nat} {bor : Bool} {F : Fun'} {B : Fs} (Fu : Fun K x qual st f fd) (S : FnScope N ps (defScope st))
    (hm : ps.length + m = N.length) (hF : Does bor m B F)
    (hb : ∀ (cdv : Value) (A : Around) (outer : List Env) (s : Shared) (H : Hp), (A.deeper (envOfC qual (defScope st) s.heap.objs.size f cdv)).guards = some [] → Room k (A.deeper (envOfC qual (defScope st) s.heap.objs.size f cdv)) →
      ESs (cxOf CX0 P w K mg base N qual (defScope st) f cdv A outer s H E0).nox (fun _ _ _ _ => False) (defBody st) B) :
    FnG P w K mg base (k + 1) f fd ps bor F := by
  obtain ⟨oc, od, kV, doc, pm, an, cdv, ct, osl, rfl, lk, hcd⟩ := Fu.ex
  refine ⟨fun A outer s H args us vs Q hr hG e0 bd rv sp => ?_⟩
  obtain ⟨hlen, Hk, ds, d, out, hsub, ha, eF, post⟩ := sp
  have inK : K.In s.heap := e0.mod.kin.keeps fun b o e => (e0.bs b o e).1
  have noLim : s.heap.NoLimit := e0.mod.nolimit.keeps fun b o e => (e0.bs b o e).1
  have kinds : ∀ y ∈ ps.zip us, (defScope st).names.lookup y.1 = some .local ∨ ((defScope st).names.lookup y.1 = some .cell ∧ ((cellsFrom (s.heap.objs.size + 1) (defScope st).names []).lookup y.1).isSome = true) := by
    rintro ⟨nm, vl⟩ hy
    rcases S.par nm (List.of_mem_zip hy).1 with z | z
    · exact .inl z
    · exact .inr ⟨z, PySem.W.cellsFrom_some _ _ _ (.inl z)⟩
  refine codeAny_call_function hr.depth (inK _ _ lk) rfl S.co S.gen rfl (PySem.W.codeRec_of inK hcd) (bd _ _ _ _ ?_)
  refine wpAny_newFunctionEnv_cells S.kind kinds fun env henv s1 ic => ?_
  subst henv
  refine ⟨noLim.keeps ic.toInCall.keep, codeAny_func ?_⟩
  have J0 : Inv (cxOf CX0 P w K mg base N qual (defScope st) f cdv A outer s H E0) [] (L2.start N vs) H s1 := inv_start S hr.hd e0 hlen rv ic
  have body := hb cdv A outer s H (by simpa [Around.deeper] using hG) (hr.deeper _)
  obtain ⟨γ2, eB, eO⟩ := hF ds d out eF
  have ok0 : Ok K (L2.start N vs) H Hk (ini bor m ds) := ini_ok hsub ha (by rw [hlen]; exact hm)
  -- what the caller is told
  have tell : ∀ {v : V} {σ2 : L2.St} {H2 Hk2 : Hp}, Go K (L2.start N vs) H Hk (ini bor m ds) σ2 H2 Hk2 γ2 → Dp K Hk2 v d → Q v H2 := by
    intro v σ2 H2 Hk2 g r
    have own0 : ∀ a, OwnA K (L2.start N vs) H Hk (ini bor m ds) a → bor = true ∧ vs[0]? = some (.ref a) ∧ Hk2 a = none := by
      rintro a ⟨i, b, y, w, fp, e, h1, rr, mm⟩
      cases bor with
      | false =>
        exfalso
        have e : gt ((ds.map fun d => some (Ent.dat d)) ++ List.replicate m none) i = some (.ow b y) := e
        rw [gt_map] at e
        split at e
        · cases e
        · rw [gt_rep] at e; cases e
      | true =>
        obtain ⟨p, ws, bs, vs', ds', rfl, rfl, hp, hk, aw, a'⟩ := ha
        cases i with
        | zero =>
          have h1 : some (some (V.ref p)) = some (some w) := h1
          cases h1
          have e : some (Ent.ow true (.lst bs)) = some (.ow b y) := e
          cases e
          cases rr
          obtain rfl := List.mem_singleton.mp mm
          refine ⟨rfl, rfl, ?_⟩
          obtain ⟨e2, es2, h2⟩ := g.pn 0 (.lst bs) rfl
          obtain ⟨q, us2, e3, e4, e5, e6⟩ := g.ok.own 0 _ _ (eO rfl)
          rw [e2] at e3
          have e3 : some (some (V.ref a)) = some (some (V.ref q)) := e3
          cases e3
          exact e5
        | succ i =>
          exfalso
          have e : gt ((ds'.map fun d => some (Ent.dat d)) ++ List.replicate m none) i = some (.ow b y) := e
          rw [gt_map] at e
          split at e
          · cases e
          · rw [gt_rep] at e; cases e
    refine post v H2 Hk2 g.ok.sub g.kk (fun a u h n => ?_) (fun a u h n => g.kp a u h fun z => ?_) r (fun hbor => ?_)
    · rcases g.nw a u h n with z | z
      · exact z
      · have := (own0 a z).2.2
        rw [h] at this; cases this
    · obtain ⟨z1, z2, _⟩ := own0 a z
      exact n z1 z2
    · subst hbor
      obtain ⟨p, ws, bs, vs', ds', rfl, rfl, hp, hk, aw, a'⟩ := ha
      obtain ⟨e2, _⟩ := g.pn 0 (.lst bs) rfl
      obtain ⟨q, us2, e3, e4, e5, e6⟩ := g.ok.own 0 _ _ (eO rfl)
      rw [e2] at e3
      have e3 : some (some (V.ref p)) = some (some (V.ref q)) := e3
      cases e3
      exact ⟨p, us2, rfl, e4, e5, e6⟩
  have run : wpAny (model P w) (A.deeper (envOfC qual (defScope st) s.heap.objs.size f cdv)) (execs (defBody st) (envOfC qual (defScope st) s.heap.objs.size f cdv))
      (SP (cxOf CX0 P w K mg base N qual (defScope st) f cdv A outer s H E0) [] { nx := fun _ H' => Q .non H', rt := Q }) (cxOf CX0 P w K mg base N qual (defScope st) f cdv A outer s H E0).xe s1 := by
    refine body.nox.run [] s1 (L2.start N vs) H { nx := fun _ H' => Q .non H', rt := Q } J0 ?_
    rcases eB with eB | ⟨rfl, eB⟩
    · exact ⟨_, Hk, _, ok0, eB, fun v σ2 H2 Hk2 g r => tell g r⟩
    · exact ⟨_, Hk, _, ok0, eB, fun σ2 H2 Hk2 g => tell g .non⟩
  refine wpAny_mono run (fun fl s' hs => ?_) fun e s' hs => hs
  have done : ∀ {σ' : L2.St} {H' : Hp} {v : V} {u : Value}, Inv (cxOf CX0 P w K mg base N qual (defScope st) f cdv A outer s H E0) [] σ' H' s' → RelV v u → Q v H' → CE outer P w H s Q u s' := by
    intro σ' H' v u J r q
    exact ⟨v, H', J.os, J.bare, J.base, J.hok, r, q⟩
  cases fl with
  | ret u =>
    obtain ⟨v, σ', H', J, r, q⟩ := hs
    exact done J r q
  | next =>
    obtain ⟨σ', H', J, q⟩ := hs
    exact done (v := V.non) (u := Value.none) J rfl q
  | brk =>
    obtain ⟨_, _, _, q⟩ := hs
    exact q.elim
  | cont =>
    obtain ⟨_, _, _, q⟩ := hs
    exact q.elim
end DN
namespace DN
open PySem PySem.Spec PyProof.Rows L2
/-! ### calls of the text's own defs -/
def Cal (P : Program) (w : World) (K : PySem.W.Frag) (mg : Str → Option Value) (base : Heap) (x : Str) (k : Nat) (ps : List Str) (bor : Bool) (F : Fun') : Prop :=
  ∃ f fd, FnG P w K mg base k f fd ps bor F ∧ mg x = some (.ref f) ∧ PySem.W.keepIn K (.ref f) = true ∧ Binds K fd ps []
@[simp] def fCall (n : Nat) (F : Fun') (fa : Fa) : Fe := fun γ => match fa γ with
  | some (ds, γ1) => if ds.length = n then match F ds with
    | some (d, _) => some (d, γ1)
    | none => none
    else none
  | none => none
@[simp] def fCallB (n : Nat) (F : Fun') (i : Nat) (fa : Fa) : Fe := fun γ => match gt γ i with
  | some (.ow _ (.lst _)) => match fa γ with
    | some (ds, γ1) => match gt γ1 i with
      | some (.ow b (.lst bs)) => if ds.length + 1 = n then match F (.list bs :: ds) with
        | some (d, out) => some (d, γ1.set i (some (.own b out)))
        | none => none
        else none
      | _ => none
    | none => none
  | _ => none
theorem Ok.borrow {K : PySem.W.Frag} {σ : L2.St} {H Hk H2 Hk2 : Hp} {γ : En} {i : Nat} {b : Bool} {ds out : List D} {p : Addr} {ws : List V} (o : Ok K σ H Hk γ) (h : gt γ i = some (.own b ds)) (hs : σ[i]? = some (some (.ref p))) (sub : Same Hk2 H2) (kk : Same Hk Hk2)
    (nw : ∀ a u, Hk2 a = some u → Hk a = none → H a = none) (kp : ∀ a u, H a = some u → a ≠ p → H2 a = some u) (hp : H2 p = some (.lst ws)) (hk : Hk2 p = none) (r : DpAll K Hk2 ws out) : Go K σ H Hk γ σ H2 Hk2 (γ.set i (some (.own b out))) := by
  obtain ⟨p', vs, e1, hp1, _⟩ := o.own i b ds h
  rw [hs] at e1; cases e1
  have g : Grow H Hk (upd H2 p (.lst vs)) Hk2 := by
    refine ⟨fun a u e => ?_, kk, fun a u e => ?_, nw⟩
    · by_cases ha : a = p
      · subst ha; rw [upd_same]; rw [hp1] at e; exact e
      · rw [upd_ne ha]; exact kp a u e ha
    · rw [upd_ne (ne_of_none e hk)]
      exact sub a u e
  have g1 := o.go g
  have g2 := g1.ok.write h hs r
  have e : upd (upd H2 p (.lst vs)) p (.lst ws) = H2 := by
    rw [upd_upd]
    funext a
    by_cases ha : a = p
    · subst ha; rw [upd_same, hp]
    · rw [upd_ne ha]
  rw [e] at g2
  exact g1.trans g2
section
variable {W : WX} {X : Cx} {x : Str} {k n : Nat} {ps : List Str} {F : Fun'} {e : Expr} {es : List Expr} {fa : Fa} {p pos : Pos}
theorem runG {f : Addr} {fd : FuncData} {bor : Bool} {pins : List (Addr × Obj)} {σ : L2.St} {H : Hp} {s : Shared} {Q : VK} {us : List Value} {vs : List V} (G : FnG X.prog X.w X.K X.mg X.base k f fd ps bor F) (hr : Room k X.A) (hG : X.A.guards = some []) (hb : Binds X.K fd ps [])
    (I : Inv X pins σ H s) (r : Vals vs us) (h : spD X.K bor ps.length F vs H Q) : wpAny (model X.prog X.w) X.A (call (.ref f) us) (EP X pins σ Q) X.xe s := by
  have hl : us.length = ps.length := by rw [← r.length]; exact h.1
  have bd := hb s us I.kIn (by rw [List.append_nil]; exact hl)
  rw [List.append_nil] at bd
  refine wpAny_call (codeAny_mono (G.run X.A X.stack s H ⟨us, []⟩ us vs Q hr hG I.env0 bd r h) fun res s' hq => ?_)
  cases res with
  | error ex => exact hq.elim
  | ok fl =>
    cases fl with
    | ret u => exact I.after hq
    | next => exact hq.elim
    | brk => exact hq.elim
    | cont => exact hq.elim
theorem ev_call (C : Cal X.prog X.w X.K X.mg X.base x k ps false F) (hr : Room k X.A) (hG : X.A.guards = some []) (hg : Gl X x) (ha : EA X (e :: es) fa) (hn : ps.length = n := by rfl)
    (hdb : (x == ("__debug__" : Str)) = false := by decide) (he : starEach (e :: es) X.env = (false, eval e X.env) :: starEach es X.env := by rfl) (hpl : (backTo pos (starEach es X.env)).any (·.1) = false := by rfl) :
    EV X (.Call (.Name x p) (e :: es) [] pos) (fCall n F fa) := by
  subst hn
  obtain ⟨f, fd, G, hm, hk, hb⟩ := C
  refine ⟨fun pins s σ H Q I h => ?_⟩
  obtain ⟨γ, Hk, d, γ2, ok, ee, q⟩ := h
  unfold fCall at ee
  split at ee
  · rename_i ds γ1 ea
    split at ee
    · rename_i hl
      split at ee <;> cases ee
      rename_i out eF
      refine wpAny_Call_Name_kw (ld_glob I hg hm ?_ hdb)
      refine PySem.W.callWith_K (h₀ := X.base) I.ok.mod.kin hk (thn (ha.run pos pins s σ H (fun vs H1 => spD X.K false ps.length F vs H1 Q) I ⟨γ, Hk, ds, _, ok, ea, fun vs H1 Hk1 g1 r1 => ?_⟩) fun us s1 ⟨vs, H1, I1, r, q1⟩ => ⟨I1.kIn, ?_⟩) he hpl
      · refine ⟨by rw [dps_len r1]; exact hl, Hk1, ds, d, out, g1.ok.sub, r1, eF, fun v H2 Hk2 s2 k2 nw kp r2 _ => ?_⟩
        exact q v H2 Hk2 (g1.trans (g1.ok.go ⟨fun a u h => kp a u h fun z => absurd z Bool.false_ne_true, k2, s2, nw⟩)) r2
      · exact runG G hr hG hb I1 r q1
    · cases ee
  · cases ee
theorem ev_call0 (C : Cal X.prog X.w X.K X.mg X.base x k ps false F) (hr : Room k X.A) (hG : X.A.guards = some []) (hg : Gl X x) (hn : ps.length = n := by rfl)
    (hdb : (x == ("__debug__" : Str)) = false := by decide) : EV X (.Call (.Name x p) [] [] pos) (fCall n F aNil) := by
  subst hn
  obtain ⟨f, fd, G, hm, hk, hb⟩ := C
  refine ⟨fun pins s σ H Q I h => ?_⟩
  obtain ⟨γ, Hk, d, γ2, ok, ee, q⟩ := h
  unfold fCall aNil at ee
  simp only at ee
  split at ee
  · rename_i hl
    split at ee <;> cases ee
    rename_i out eF
    refine wpAny_Call_Name_kw (ld_glob I hg hm ?_ hdb)
    refine PySem.W.callWith_K0 I.kIn hk (runG (us := []) (vs := []) G hr hG hb I .nil ?_)
    exact ⟨hl, Hk, [], d, out, ok.sub, .nil, eF, fun v H2 Hk2 s2 k2 nw kp r2 _ => q v H2 Hk2 (ok.go ⟨fun a u h => kp a u h fun z => absurd z Bool.false_ne_true, k2, s2, nw⟩) r2⟩
  · cases ee
theorem ev_callO (i : Nat) (C : Cal X.prog X.w X.K X.mg X.base x k ps true F) (hr : Room k X.A) (hG : X.A.guards = some []) (hg : Gl X x) (hv : PE X e (tVar i)) (ha : EA X es fa) (hn : ps.length = n := by rfl)
    (hdb : (x == ("__debug__" : Str)) = false := by decide) (he : starEach (e :: es) X.env = (false, eval e X.env) :: starEach es X.env := by rfl) (hpl : (backTo pos (starEach es X.env)).any (·.1) = false := by rfl) :
    EV X (.Call (.Name x p) (e :: es) [] pos) (fCallB n F i fa) := by
  subst hn
  obtain ⟨f, fd, G, hm, hk, hb⟩ := C
  refine ⟨fun pins s σ H Q I h => ?_⟩
  obtain ⟨γ, Hk, d, γ2, ok, ee, q⟩ := h
  unfold fCallB at ee
  split at ee
  · rename_i b0 bs0 e0
    split at ee
    · rename_i ds γ1 ea
      split at ee
      · rename_i b bs eo
        split at ee
        · rename_i hl
          split at ee <;> cases ee
          rename_i out eF
          obtain ⟨p0, vs0, e1, _⟩ := ok.own i _ _ e0
          refine wpAny_Call_Name_kw (ld_glob I hg hm ?_ hdb)
          refine PySem.W.callWith_K (h₀ := X.base) I.ok.mod.kin hk (thn ((pa_cons hv ha he).run pos pins s σ H (fun vs H1 => spD X.K true ps.length F vs H1 Q) I ⟨_, e1, γ, Hk, ds, γ1, ok, ea, fun vs H1 Hk1 g1 r1 => ?_⟩) fun us s1 ⟨vs, H1, I1, r, q1⟩ => ⟨I1.kIn, ?_⟩) he hpl
          · obtain ⟨p1, ws, e2, hp, hkp, rw'⟩ := g1.ok.own i _ _ eo
            rw [e1] at e2; cases e2
            refine ⟨by rw [List.length_cons, dps_len r1]; exact hl, Hk1, .list bs :: ds, d, out, g1.ok.sub, ⟨p0, ws, bs, vs, ds, rfl, rfl, hp, hkp, rw', r1⟩, eF, fun v H2 Hk2 s2 k2 nw kp r2 ho => ?_⟩
            obtain ⟨p2, us, e3, h3, h4, h5⟩ := ho rfl
            cases e3
            exact q v H2 Hk2 (g1.trans (g1.ok.borrow eo e1 s2 k2 nw (fun a u h n => kp a u h fun _ z => n (by cases z; rfl)) h3 h4 h5)) r2
          · exact runG G hr hG hb I1 r q1
        · cases ee
      · cases ee
    · cases ee
  · cases ee
end
/-! ### repr -/
def reprD (d : D) : Option D := if d.showable && !d.hasDict && okN d.shown.length && decide (d.depth ≤ 60) then some (.str d.shown) else none
def rRepr (K : PySem.W.Frag) : List V → Hp → VK → Prop := fun xs H Q => ∃ x d, xs = [x] ∧ Dp K H x d ∧ d.showable = true ∧ d.hasDict = false ∧ d.shown.length ≤ sizeLine ∧ d.depth ≤ 60 ∧ Q (.str d.shown) H
theorem x_repr {X : Cx} (hG : X.A.guards = some []) (hu : X.A.units + 64 < cLine) : CallR X (.builtin "repr") (rRepr X.K) := by
  intro pins s σ H xs us Q I r h
  obtain ⟨x, d, rfl, hd, h1, h2, h3, h4, q⟩ := h
  cases r with
  | cons r rr =>
    cases rr
    have fin : ∀ (h' : Heap) (u tk : Tok), (∀ b o, s.heap.get? b = some o → h'.get? b = some o) → EP X pins σ Q (.str d.shown u) { s with heap := h', toks := tk } := fun h' u tk hk => ⟨V.str d.shown, H, I.kept hk, ⟨u, rfl⟩, q⟩
    cases hd with
    | non => cases r; exact PySem.P.repr_of_none (fin s.heap _ _ fun _ _ e => e)
    | bl b => cases r; exact PySem.P.repr_of_bool (by have := fin s.heap s.toks (s.toks + 1) fun _ _ e => e; cases b <;> exact this)
    | int i => obtain ⟨t, rfl⟩ := r; exact PySem.P.repr_of_int (by simpa [PyData.showable] using h1) (fin s.heap _ _ fun _ _ e => e)
    | str z => obtain ⟨t, rfl⟩ := r; exact PySem.P.repr_of_str (fin s.heap _ _ fun _ _ e => e) (by simpa only [PyData.shown] using h3)
    | @lst a vs ds hs ha =>
      cases r
      obtain ⟨as, hr⟩ := Dp.reads I (u := .ref a) (.lst hs ha) rfl
      exact repr_of_reads' hr h1 (PyData.noDict_hsm h2) hG (by omega) (fun _ _ e => e) (fun h' u tk hk => fin h' u tk hk) h3
    | @tup a vs ds hs ha =>
      cases r
      obtain ⟨as, hr⟩ := Dp.reads I (u := .ref a) (.tup hs ha) rfl
      exact repr_of_reads' hr h1 (PyData.noDict_hsm h2) hG (by omega) (fun _ _ e => e) (fun h' u tk hk => fin h' u tk hk) h3
    | dct _ _ _ _ _ _ => cases h2
theorem o_repr {K : PySem.W.Frag} : Op1 K (fun x => rRepr K [x]) reprD := by
  intro H Hk x dx dz Q s vx e q
  unfold reprD at e
  split at e <;> cases e
  rename_i c
  simp only [Bool.and_eq_true, Bool.not_eq_true', decide_eq_true_eq] at c
  exact ⟨x, dx, rfl, vx.dp s, c.1.1.1, c.1.1.2, okN_line c.1.2, c.2, q _ H Hk (Grow.refl s) (.str _)⟩
end DN
namespace DN
open PySem PySem.Spec PyProof.Rows L2
/-! ### the law's own call -/
@[simp] def scriptD (ns : List Int) : D := .list (ns.map .int)
theorem lawG {P : Program} {w : World} {K : PySem.W.Frag} {mg mb : Str → Option Value} {k : Nat} {fa a : Addr} {fd : FuncData} {x : Str} {F : Fun'} {s₁ : Shared} {vs : List Value} {ns : List Int} {out : List D}
    (inK : K.In s₁.heap) (gl : s₁.heap.Ns mainGlobals mg) (bl : s₁.heap.Ns builtinsNs mb) (bb : ∀ x : Str, x ≠ "__name__" → mb x = bootBuiltins x) (nl : s₁.heap.NoLimit) (gn : s₁.gens = #[])
    (oa : s₁.heap.get? a = some { cls := .type "list", data := .seq vs.toArray }) (ia : IntsAre vs ns) (sz : ns.length ≤ sizeLine) (rm : Room k callerA)
    (G : ∀ base : Heap, K.In base → base.Ns mainGlobals mg → FnG P w K mg base k fa fd [x] false F) (bd : ∀ (s : Shared) (u : Value), BindsTo s fd ⟨[u], []⟩ [(x, u)])
    (hF : F [scriptD ns] = some (.bool true, out)) :
    codeAny (model P w) callerA (.call (.ref fa) ⟨[.ref a], []⟩) (fun r s' => r = .ok (.ret (.bool true)) ∧ OldK s₁.heap s'.heap ∧ s'.os = s₁.os ∧ AllBare s'.gens) s₁ := by
  have vi := vals_ints ia
  -- the script's object, tracked as known where it is none of the module's own
  let T : HO := .frz { cls := .type "list", data := .seq vs.toArray } (.lst (ns.map V.int))
  let H : Hp := fun b => if b = a ∧ K.lookup a = none then some T else none
  have Hone : ∀ {b : Addr} {u : HO}, H b = some u → b = a ∧ K.lookup a = none ∧ u = T := by
    intro b u e
    by_cases c : b = a ∧ K.lookup a = none
    · have e' : (if b = a ∧ K.lookup a = none then some T else none) = some u := e
      rw [if_pos c] at e'
      cases e'
      exact ⟨c.1, c.2, rfl⟩
    · have e' : (if b = a ∧ K.lookup a = none then some T else none) = some u := e
      rw [if_neg c] at e'
      cases e'
  have seen : SqL K H a (ns.map V.int) := by
    cases ek : K.lookup a with
    | none => exact .inl (.inr ⟨_, if_pos ⟨rfl, ek⟩⟩)
    | some o =>
      have eo := inK a o ek
      rw [oa] at eo
      cases eo
      refine .inr ⟨_, vs.toArray, _, ek, rfl, rfl, rfl, ?_, by simpa using vi⟩
      rw [List.size_toArray, ia.length]
      exact sz
  have held : HOk P w H s₁.heap := by
    intro b u e
    obtain ⟨rfl, _, rfl⟩ := Hone e
    refine ⟨oa, ?_, vs, _, vi, oa⟩
    rw [List.length_map]
    exact sz
  have bare : ∀ {b : Addr} {o : Obj}, s₁.heap.get? b = some o → H b = none → (hidT s₁.heap H).get? b = some o := fun e n => hidT_get e n
  have free : ∀ {b : Addr} {o : Obj} {es : Array DictEntry} {ep : Nat}, s₁.heap.get? b = some o → o.data = .dict es ep → H b = none := by
    intro b o es ep e d
    cases q : H b with
    | none => rfl
    | some u =>
      obtain ⟨rfl, _, _⟩ := Hone q
      rw [oa] at e
      cases e
      have d' : Data.seq vs.toArray _ = Data.dict es ep := d
      cases d'
  have names : ∀ {b : Addr} {m : Str → Option Value}, s₁.heap.Ns b m → (hidT s₁.heap H).Ns b m := by
    rintro b m ⟨o, es, ep, e, d, r⟩
    exact ⟨o, es, ep, bare e (free e d), d, r⟩
  have kb : K.In (hidT s₁.heap H) := by
    intro b o e
    refine bare (inK b o e) ?_
    cases q : H b with
    | none => rfl
    | some u =>
      obtain ⟨rfl, z, _⟩ := Hone q
      rw [z] at e
      cases e
  have md : Mod K mg (hidT s₁.heap H) := by
    obtain ⟨mc, h1, h2⟩ := nl
    exact ⟨kb, names gl, ⟨mb, names bl, bb⟩, ⟨mc, names h1, h2⟩⟩
  have e0 : Env0 P w K mg (hidT s₁.heap H) callerA [] s₁ H := by
    refine ⟨rfl, md, fun b o e => of_hidT e, Nat.le_of_eq (hidT_size _ _), trivial, fun b hb => ?_, held, .of_eq gn⟩
    exact absurd (show b ∈ ([] : List Addr) from hb) (by simp)
  have want : spD K false [x].length F [.ref a] H (fun v _ => v = .bl true) := by
    refine ⟨rfl, H, [scriptD ns], .bool true, out, Same.refl _, .cons (.lst seen (dps_map _ _ (fun n => .int n) _)) .nil, hF, fun v H2 Hk2 _ _ _ _ r _ => ?_⟩
    cases r
    rfl
  refine codeAny_mono ((G _ kb (names gl)).run callerA [] s₁ H ⟨[.ref a], []⟩ [.ref a] [.ref a] _ rm rfl e0 (bd s₁ (.ref a)) (.cons rfl .nil) want) fun r s' hq => ?_
  cases r with
  | error e => exact hq.elim
  | ok fl =>
    cases fl with
    | next => exact hq.elim
    | brk => exact hq.elim
    | cont => exact hq.elim
    | ret u =>
      obtain ⟨v, H', eos, ebare, un, hok', rv, q⟩ := hq
      have q : v = .bl true := q
      subst q
      obtain rfl : u = Value.bool true := rv
      refine ⟨rfl, OldK.of_keep fun b o e => ?_, eos, ebare⟩
      cases z : H b with
      | none => exact un.keep b o e z (by intro z; exact absurd (show b ∈ ([] : List Addr) from z) (by simp)) (by simp)
      | some u =>
        obtain ⟨rfl, _, rfl⟩ := Hone z
        obtain ⟨e2, _⟩ := hok' b _ (un.frzs b _ _ z)
        rw [oa] at e
        cases e
        exact e2
theorem walkG {l : PySem.W.OpenLaw} {n k : Nat} {q : Program} {loose : List Str} {XP : (Str → Option Value) → Heap → Prop} {YP : World → Heap → Prop} {d : DefRec} {K : Params → PySem.W.Frag} {x : Str} {F : Fun'}
    (hn : l.most = some n) (hn2 : n ≤ sizeLine) (hdf : d.params.defaults = []) (hr : Room k callerA)
    (hY : ∀ (w : World) (h : Heap), YP w h → (K w.params).In h)
    (G : ∀ (w : World) (mg : Str → Option Value) (fa : Addr) (h : Heap), (K w.params).In h → h.Ns mainGlobals mg → mg d.name = some (.ref fa) →
      ∃ fd : FuncData, (∀ (s : Shared) (u : Value), BindsTo s fd ⟨[u], []⟩ [(x, u)]) ∧ ∀ base : Heap, (K w.params).In base → base.Ns mainGlobals mg → FnG l.prog w (K w.params) mg base k fa fd [x] false F)
    (hF : ∀ ns : List Int, ns.length ≤ n → ∃ out, F [scriptD ns] = some (.bool true, out)) :
    PySem.W.WalkO q loose XP YP l.row.toRowW d [] (fun f vs => PySem.call f vs) := by
  refine Att.attach_call hn hdf fun w s₀ s₁ mg mb fa o pm cd doc a vs ns Gr Y ho hd hcd hmg hobj hints hlen hg => ?_
  have kx := hY w _ Y
  obtain ⟨fd, hb, hG⟩ := G w mg fa _ kx Gr.T.g hmg
  obtain ⟨out, e⟩ := hF ns hlen
  exact lawG kx Gr.T.g Gr.T.b Gr.T.builtins Gr.T.nolimit hg hobj hints (Nat.le_trans hlen hn2) hr hG hb e
end DN
namespace DN
open PySem PySem.Spec PyProof.Rows L2
/-! ### what the module's names hold -/
/-- the value u stands for the data d, lastingly -/
def VD (K : PySem.W.Frag) (u : Value) (d : D) : Prop := ∃ v, RelV v u ∧ ∀ H, Dp K H v d
def VDs (K : PySem.W.Frag) (us : List Value) (ds : List D) : Prop := ∃ vs, Vals vs us ∧ ∀ H, DpAll K H vs ds
section
variable {K : PySem.W.Frag}
theorem vd_int {i : Int} {t : Tok} : VD K (.int i t) (.int i) := ⟨.int i, ⟨t, rfl⟩, fun _ => .int i⟩
theorem vd_str {z : Str} {t : Tok} : VD K (.str z t) (.str z) := ⟨.str z, ⟨t, rfl⟩, fun _ => .str z⟩
theorem vds_nil : VDs K [] [] := ⟨[], .nil, fun _ => .nil⟩
theorem vds_cons {u : Value} {d : D} {us : List Value} {ds : List D} (h : VD K u d) (t : VDs K us ds) : VDs K (u :: us) (d :: ds) := by
  obtain ⟨v, r, a⟩ := h
  obtain ⟨vs, rs, b⟩ := t
  exact ⟨v :: vs, .cons r rs, fun H => .cons (a H) (b H)⟩
theorem vd_tup {a : Addr} {od : Option Addr} {its : Array Value} {n : Nat} {sl : Array (Option Value)} {ds : List D} (l : K.lookup a = some ⟨.type "tuple", od, .seq its n, sl⟩) (hz : its.size ≤ sizeLine) (h : VDs K its.toList ds) : VD K (.ref a) (.tuple ds) := by
  obtain ⟨vs, rs, b⟩ := h
  exact ⟨.ref a, rfl, fun H => .tup (.inr ⟨_, its, n, l, rfl, rfl, hz, rs⟩) (b H)⟩
theorem ev_glob {X : Cx} {x : Str} {u : Value} {d : D} {pos : Pos} (V : VD X.K u d) (hm : X.mg x = some u) (hg : Gl X x) (hd : (x == ("__debug__" : Str)) = false := by decide) : EV X (.Name x pos) (fC d) := by
  obtain ⟨v, r, a⟩ := V
  exact PE.imp (pe_glob hg hm r hd) fun σ H Q ⟨γ, Hk, d', γ2, o, e, q⟩ => by
    cases e
    exact q v H Hk (Go.refl o) (a Hk)
/-- a table of the module with text keys -/
def TabK (K : PySem.W.Frag) (d : Addr) : List (Str × D) → Prop
  | [] => True
  | p :: r => (∃ u, PySem.W.nsIn K d p.1 = some (some u) ∧ VD K u p.2) ∧ TabK K d r
theorem tabk_nil {K : PySem.W.Frag} {d : Addr} : TabK K d [] := True.intro
theorem tabk_cons {d : Addr} {k : Str} {x : D} {r : List (Str × D)} {u : Value} (h : PySem.W.nsIn K d k = some (some u)) (v : VD K u x) (t : TabK K d r) : TabK K d ((k, x) :: r) := ⟨⟨u, h, v⟩, t⟩
def tabOf : List (Str × D) → Str → Option D
  | [], _ => none
  | p :: r, z => if p.1 = z then some p.2 else tabOf r z
theorem TabK.get {d : Addr} : ∀ {kvs : List (Str × D)} {z : Str} {x : D}, TabK K d kvs → tabOf kvs z = some x → ∃ u, PySem.W.nsIn K d z = some (some u) ∧ VD K u x
  | [], _, _, _, e => by cases e
  | p :: r, z, x, ⟨h, t⟩, e => by
    unfold tabOf at e
    split at e
    · rename_i c; subst c; cases e; exact h
    · exact TabK.get t e
@[simp] def tabD (kvs : List (Str × D)) : D → Option D
  | .str z => tabOf kvs z
  | _ => none
structure Tab (K : PySem.W.Frag) (w : World) (u : Value) (kvs : List (Str × D)) : Prop where
  h : ∃ d es n, u = .ref d ∧ KDict K w d es n ∧ TabK K d kvs
theorem tab_of {w : World} {d : Addr} {es : Array DictEntry} {n : Nat} {kvs : List (Str × D)} (l : K.lookup d = some ⟨.type "dict", none, .dict es n, #[]⟩) (k : PySem.W.KeysLit w.params es.toList) (lo : (d == sysModules) = false) (t : TabK K d kvs) : Tab K w (.ref d) kvs :=
  ⟨d, es, n, rfl, ⟨l, k, lo⟩, t⟩
end
section
variable {W : WX} {X : Cx} {e : Expr} {f g : Fe} {x : Str} {kvs : List (Str × D)} {u : Value} {p pos : Pos}
theorem ix_kd {d : Addr} {es : Array DictEntry} {n : Nat} (T : KDict X.K X.w d es n) : IxR X (fun x y H Q => ∃ (z : Str) (u0 : Value) (v0 : V), x = .ref d ∧ y = .str z ∧ PySem.W.nsIn X.K d z = some (some u0) ∧ RelV v0 u0 ∧ Q v0 H) := by
  intro value slice pins s σ H x y v u Q I rx ry h hs
  have h' := h
  obtain ⟨z, u0, v0, rfl, rfl, en, r, q⟩ := h
  cases (show v = Value.ref d from rx)
  exact tail_any (ops := [.ref d, u]) (kd_type T I) PySem.slot_dict_getitem.lookup (op_item_kd T pins s σ H (.ref d) (.str z) (.ref d) u Q I rfl ry h') hs
theorem ev_tab (T : Tab X.K X.w u kvs) (hm : X.mg x = some u) (hg : Gl X x) (he : EV X e f) (hs : PlainIx e) (hd : (x == ("__debug__" : Str)) = false := by decide) : EV X (.Subscript (.Name x p) e pos) (f1 (tabD kvs) f) := by
  obtain ⟨d, es, n, rfl, T1, T2⟩ := T.h
  refine PE.imp (pe_ix (ix_kd T1) (pe_glob (v := .ref d) hg hm rfl hd) he hs) fun σ H Q ⟨γ, Hk, dd, γ2, ok, ee, q⟩ => ?_
  unfold f1 at ee
  split at ee
  · rename_i dx γ1 ef
    split at ee
    · rename_i z eo
      cases ee
      refine ⟨γ, Hk, dx, _, ok, ef, fun v2 H2 Hk2 g2 r2 => ?_⟩
      unfold tabD at eo
      split at eo
      · cases r2
        obtain ⟨u0, en, v0, rv, hv⟩ := T2.get eo
        exact ⟨_, u0, v0, rfl, rfl, en, rv, q v0 H2 Hk2 g2 (hv Hk2)⟩
      · cases eo
    · cases ee
  · cases ee
/-! ### texts: join, count, turned round -/
def strsD : List D → Option (List Str)
  | [] => some []
  | .str z :: r => (strsD r).map (z :: ·)
  | _ => none
theorem strsD_dps {K : PySem.W.Frag} {H : Hp} : ∀ {vs : List V} {ds : List D} {ys : List Str}, DpAll K H vs ds → strsD ds = some ys → vs = ys.map V.str
  | _, _, ys, .nil, e => by cases e; rfl
  | _, _, ys, .cons h t, e => by
    unfold strsD at e
    split at e
    · rename_i e2; cases e2
    · rename_i e2; cases e2
      obtain ⟨zs, e3, e4⟩ := Option.map_eq_some_iff.mp e
      subst e4
      cases h
      rw [strsD_dps t e3]; rfl
    · cases e
@[simp] def joinL (a : Str) (ds : List D) : Option D := match strsD ds with
  | some ys => if okN ((ys.map (·.length)).sum + ys.length * a.length) then some (.str (Txt.join a ys)) else none
  | none => none
@[simp] def joinD (a : Str) : D → Option D
  | .list ds => joinL a ds
  | .tuple ds => joinL a ds
  | _ => none
theorem joinL_eq {a : Str} {ds : List D} {z : D} (e : joinL a ds = some z) : ∃ ys, strsD ds = some ys ∧ (ys.map (·.length)).sum + ys.length * a.length ≤ 16777216 ∧ z = .str (Txt.join a ys) := by
  unfold joinL at e
  split at e
  · split at e <;> cases e
    rename_i ys es c
    exact ⟨ys, es, Nat.le_trans (of_decide_eq_true c) (by decide), rfl⟩
  · cases e
theorem ev_join {a : Str} {j p0 apos} (he : EV X e f) (hs : starEach [e] X.env = [(false, eval e X.env)] := by rfl) (hbase : attributeBase (.Constant (.str a) j p0) "join" X.env (eval (.Constant (.str a) j p0) X.env) = eval (.Constant (.str a) j p0) X.env := by rfl) (hline : (apos.endLine == pos.line) = true := by rfl) :
    EV X (.Call (.Attribute (.Constant (.str a) j p0) "join" apos) [e] [] pos) (f1 (joinD a) f) := PE.imp (pe_join pe_str he hs hbase hline) fun σ H Q ⟨γ, Hk, dd, γ2, ok, ee, q⟩ => by
  unfold f1 at ee
  split at ee
  · rename_i dx γ1 ef
    split at ee
    · rename_i z eo
      cases ee
      refine ⟨⟨a, rfl⟩, γ, Hk, dx, _, ok, ef, fun v2 H2 Hk2 g2 r2 => ?_⟩
      unfold joinD at eo
      split at eo
      · obtain ⟨ys, e1, e2, rfl⟩ := joinL_eq eo
        cases r2 with
        | lst h t =>
          cases strsD_dps t e1
          exact ⟨a, _, ys, rfl, rfl, .inl (sql_mono g2.ok.sub h), e2, q _ H2 Hk2 g2 (.str _)⟩
      · obtain ⟨ys, e1, e2, rfl⟩ := joinL_eq eo
        cases r2 with
        | tup h t =>
          cases strsD_dps t e1
          exact ⟨a, _, ys, rfl, rfl, .inr (sqt_mono g2.ok.sub h), e2, q _ H2 Hk2 g2 (.str _)⟩
      · cases eo
    · cases ee
  · cases ee
@[simp] def countD : D → D → Option D
  | .str a, .str b => some (.int (Txt.count a b))
  | _, _ => none
theorem ev_count {o : Expr} {apos} (ho : EV X o f) (he : EV X e g) (hs : starEach [e] X.env = [(false, eval e X.env)] := by rfl) (hbase : attributeBase o "count" X.env (eval o X.env) = eval o X.env := by rfl) (hline : (apos.endLine == pos.line) = true := by rfl) :
    EV X (.Call (.Attribute o "count" apos) [e] [] pos) (f2 countD f g) := PE.imp (pe_m1 F.slot_str_count F.type_str_count mt_count ho he hs hbase hline) fun σ H Q ⟨γ, Hk, dd, γ2, ok, ee, q⟩ => by
  unfold f2 at ee
  split at ee
  · rename_i dx γ1 ef
    split at ee
    · rename_i dy γ2' eg
      split at ee
      · rename_i z eo
        cases ee
        unfold countD at eo
        split at eo
        · cases eo
          refine ⟨γ, Hk, _, γ1, ok, ef, fun v1 H1 Hk1 g1 r1 => ?_⟩
          cases r1
          refine ⟨⟨_, rfl⟩, γ1, Hk1, _, _, g1.ok, eg, fun v2 H2 Hk2 g2 r2 => ?_⟩
          cases r2
          exact ⟨_, _, rfl, rfl, q _ H2 Hk2 (g1.trans g2) (.int _)⟩
        · cases eo
      · cases ee
    · cases ee
  · cases ee
def revS (z : Str) : Str := ⟨z.cps.toList.reverse.toArray⟩
@[simp] def revD : D → Option D
  | .str z => if okN z.length then some (.str (revS z)) else none
  | _ => none
theorem rev_pick (z : Str) : (⟨((Builtin.Str.strSliceIndices none none (-1) z.length).filterMap (z.cps[·]?)).toArray⟩ : Str) = revS z := by
  have e1 : Builtin.Str.strSliceIndices none none (-1) z.length = sliceRange ((z.length : Int) - 1) (-1) (-1) := by
    simp only [Builtin.Str.strSliceIndices]
    rfl
  have e2 : sliceRange ((z.length : Int) - 1) (-1) (-1) = (List.range z.length).reverse := by
    rw [PySem.W.krv_sliceRange, PySem.W.krv_range]
  have e3 : (List.range z.length).filterMap (z.cps[·]?) = z.cps.toList := PySem.W.krv_all z.cps
  rw [e1, e2, List.filterMap_reverse, e3]
  rfl
theorem ev_rev {k : Nat} {p1 p2 p3 : Pos} (he : EV X e f) : EV X (.Subscript e (.Slice none none (some (.UnaryOp .USub (.Constant (.int 1) k p1) p2)) p3) pos) (f1 revD f) := by
  refine ⟨fun pins s σ H Q I h => ?_⟩
  obtain ⟨γ, Hk, dd, γ2, ok, ee, q⟩ := h
  unfold f1 at ee
  split at ee
  · rename_i dx γ1 ef
    split at ee
    · rename_i z eo
      cases ee
      unfold revD at eo
      split at eo
      · rename_i str
        split at eo <;> cases eo
        rename_i c
        refine Subscript_ (thn (he.run pins s σ H (fun v2 H2 => v2 = .str str ∧ ∃ Hk2, Go X.K σ H Hk γ σ H2 Hk2 γ2) I ⟨γ, Hk, _, _, ok, ef, fun v2 H2 Hk2 g2 r2 => ⟨by cases r2; rfl, Hk2, g2⟩⟩) fun v s1 ⟨x, H1, I1, r1, ex, Hk2, g2⟩ => ?_)
        subst ex
        obtain ⟨t, rfl⟩ := r1
        have hst : PO X (some (.UnaryOp .USub (.Constant (.int 1) k p1) p2)) (tPart (tUn (rU fun i => .int (-i)) (tC (.int 1)))) := po_some (pe_un un_neg pe_int)
        refine wpAny_Slice (thn (po_none.run pins s1 σ H1 (fun o H2 => o = none ∧ H2 = H1) I1 ⟨rfl, rfl⟩) fun vl s2 ⟨l, H2, I2, pl, el, e2⟩ => ?_)
        subst el e2
        refine thn (po_none.run pins s2 σ H2 (fun o H3 => o = none ∧ H3 = H2) I2 ⟨rfl, rfl⟩) fun vu s3 ⟨u, H3, I3, pu, eu, e3⟩ => ?_
        subst eu e3
        refine thn (hst.run pins s3 σ H3 (fun o H4 => o = some (-1) ∧ H4 = H3) I3 ⟨1, rfl, -1, rfl, rfl, rfl⟩) fun vs s4 ⟨o, H4, I4, ps, eo, e4⟩ => ?_
        subst eo e4
        have I5 : Inv X pins σ H4 { s4 with heap := s4.heap.push { cls := .type "slice", data := .fields #[vl, vu, vs] } } := I4.kept (t' := s4.toks) fun b ob q => Heap.get?_push_of_some _ q
        show wpAny (model X.prog X.w) X.A (subscriptTail e (.Slice none none (some (.UnaryOp .USub (.Constant (.int 1) k p1) p2)) p3) (.str str t) (.ref s4.heap.objs.size)) (EP X pins σ Q) X.xe { s4 with heap := s4.heap.push { cls := .type "slice", data := .fields #[vl, vu, vs] } }
        refine tail_any (ops := [.ref s4.heap.objs.size, .str str t]) (typeIs_str _ _ _) F.slot_str_getitem.lookup ?_ (by with_unfolding_all rfl)
        obtain ⟨l, rfl, hl1⟩ := IsPart.raw pl
        obtain ⟨u, rfl, hu1⟩ := IsPart.raw pu
        obtain ⟨st, rfl, hs1⟩ := IsPart.raw ps
        refine wpAny_getItem_str_slice (l := l) (u := u) (st := st) ⟨_, Heap.get?_push_size _ rfl, rfl, rfl⟩ (by rw [hs1]; rfl) ?_
        have ep : slicePicked str l u st = Builtin.Str.strSliceIndices none none (-1) str.length := by
          unfold slicePicked
          rw [hl1, hu1, hs1]
          rfl
        unfold sliceMade
        rw [hs1, ep, rev_pick]
        have hlen : (revS str).length ≤ sizeLine := by
          have : (revS str).length = str.length := by simp [revS, Str.length]
          rw [this]
          exact okN_line c
        exact ⟨hlen, .str _, H4, I5.tok _, ⟨_, rfl⟩, q _ H4 Hk2 g2 (.str _)⟩
      · cases eo
    · cases ee
  · cases ee
@[simp] def isBd : D → D → Option D
  | .bool a, .bool b => some (.bool (decide (a = b)))
  | _, _ => none
@[simp] def notBd : D → D → Option D
  | .bool a, .bool b => some (.bool (!decide (a = b)))
  | _, _ => none
theorem o_isB {K : PySem.W.Frag} : Op2 K rIsB isBd := by
  intro H Hk x y dx dy dz Q s vx vy e q
  unfold isBd at e
  split at e <;> cases e
  exact ⟨_, _, vx.bl, vy.bl, q _ H Hk (Grow.refl s) (.bl _)⟩
theorem o_notB {K : PySem.W.Frag} : Op2 K rNotB notBd := by
  intro H Hk x y dx dy dz Q s vx vy e q
  unfold notBd at e
  split at e <;> cases e
  exact ⟨_, _, vx.bl, vy.bl, q _ H Hk (Grow.refl s) (.bl _)⟩
/-! ### {"a": "b", ..}.get(k, x) -/
def prK (kvs : List (Str × Str)) : List (TE × TE) := kvs.map fun p => (tC (.str p.1), tC (.str p.2))
def kvK (kvs : List (Str × Str)) : List (Key × V) := kvs.map fun p => (Sum.inr p.1, V.str p.2)
theorem tPairs_prK {σ : L2.St} {H : Hp} : ∀ {kvs : List (Str × Str)} {Q : List (V × V) → Hp → Prop}, Q ((kvK kvs).map fun kv => (kV kv.1, kv.2)) H → tPairs (prK kvs) σ H Q
  | [], _, q => q
  | p :: r, Q, q => by
    show tPairs (prK r) σ H fun ps H3 => Q ((V.str p.1, V.str p.2) :: ps) H3
    exact tPairs_prK q
/-- the last of the pairs with the key -/
def lastOf (kvs : List (Str × Str)) (z : Str) : Option Str := tabOf (kvs.reverse.map fun p => (p.1, PyData.str p.2)) z |>.bind fun | .str y => some y | _ => none
@[simp] def getD2 (get : Str → Option Str) : D → D → Option D
  | .str z, y => match get z with
    | some x => some (.str x)
    | none => some y
  | _, _ => none
theorem ev_dget2 {keys : List (Option Expr)} {values : List Expr} {kvs : List (Str × Str)} {get : Str → Option Str} {apos dpos} {e2 : Expr} (hu : X.A.units + 64 < cLine) (h : PPs X dpos keys values (prK kvs)) (hall : keys.all (·.isSome) = true) (hl : keys.length = values.length) (h0 : keys ≠ []) (h15 : keys.length ≤ 15) (hk : kvs.length ≤ 15)
    (hg : ∀ z, valV (mergeK [] (kvK kvs)) (Sum.inr z) = (get z).map V.str) (he : EV X e f) (hf : EV X e2 g) (m : M2 X (.Dict keys values dpos) "get" apos e e2 pos) :
    EV X (.Call (.Attribute (.Dict keys values dpos) "get" apos) [e, e2] [] pos) (f2 (getD2 get) f g) := PE.imp (pe_dget2 (by omega) (pe_disp h hall hl h0 h15) he hf m) fun σ H Q ⟨γ, Hk, dd, γ2, ok, ee, q⟩ => by
  unfold f2 at ee
  split at ee
  · rename_i dx γ1 ef
    split at ee
    · rename_i dy γ2' eg
      split at ee
      · rename_i z eo
        cases ee
        obtain ⟨z0, rfl⟩ : ∃ z0, dx = .str z0 := by
          cases dx with
          | str z0 => exact ⟨z0, rfl⟩
          | _ => cases eo
        · intro p hp
          refine tPairs_prK ⟨upd_same, kvK kvs, rfl, by simpa [kvK] using hk, ?_⟩
          have gr : Grow H Hk (upd (upd H p (.dK [])) p (.dK (mergeK [] (kvK kvs)))) Hk := by
            have e1 : upd (upd H p (.dK [])) p (.dK (mergeK [] (kvK kvs))) = upd H p (.dK (mergeK [] (kvK kvs))) := by
              funext a
              by_cases ha : a = p
              · subst ha; rw [upd_same, upd_same]
              · rw [upd_ne ha, upd_ne ha, upd_ne ha]
            rw [e1]
            exact Grow.newH ok.sub hp
          have ok1 := ok.grow gr
          refine ⟨p, rfl, .inl ⟨_, .inl upd_same⟩, γ, Hk, _, γ1, ok1, ef, fun v1 H1 Hk1 g1 r1 => ?_⟩
          cases r1
          refine ⟨γ1, Hk1, _, _, g1.ok, eg, fun v2 H2 Hk2 g2 r2 => ?_⟩
          have e0 : upd (upd H p (.dK [])) p (.dK (mergeK [] (kvK kvs))) = upd H p (.dK (mergeK [] (kvK kvs))) := upd_upd
          have no1 : ¬ OwnA X.K σ (upd (upd H p (.dK [])) p (.dK (mergeK [] (kvK kvs)))) Hk γ p := by rw [e0]; exact ok.noNew hp
          have h1 : H1 p = some (.dK (mergeK [] (kvK kvs))) := g1.kp _ _ upd_same no1
          have h2 : H2 p = some (.dK (mergeK [] (kvK kvs))) := g2.kp _ _ h1 (g1.noA no1 upd_same)
          refine ⟨valV (mergeK [] (kvK kvs)) (Sum.inr z0), DGet.k (k := Sum.inr z0) h2, ?_⟩
          rw [hg]
          have gg := ((ok.go gr).trans g1).trans g2
          cases ex : get z0 with
          | some x0 =>
            simp only [getD2, ex] at eo
            cases eo
            exact q _ H2 Hk2 gg (.str _)
          | none =>
            simp only [getD2, ex] at eo
            cases eo
            exact q _ H2 Hk2 gg r2
      · cases ee
    · cases ee
  · cases ee
end
/-! ### a dict kept in a local name -/
section
variable {K : PySem.W.Frag} {σ : L2.St} {H Hk : Hp} {γ : En} {i : Nat}
theorem Ok.setTab {v : V} {t : Tabs} (o : Ok K σ H Hk γ) (r : Tb K Hk v t) (np : NoPin γ i) : Go K σ H Hk γ (σ.set i (some v)) H Hk (γ.set i (some (.tab t))) :=
  o.setAny np (fun _ _ => nofun) (fun _ => nofun) (fun t' e => by cases e; exact ⟨v, rfl, r⟩)
/-- a new dict, filled when all its values are there -/
theorem Go.fill {H2 Hk2 : Hp} {γ2 : En} {p : Addr} (k : Ok K σ H Hk γ) (hp : H p = none) (g : Go K σ (upd H p (.dK [])) Hk γ σ H2 Hk2 γ2) :
    H2 p = some (.dK []) ∧ Hk2 p = none ∧ ∀ kvs : List (Key × V), Go K σ H Hk γ σ (upd H2 p (.dK kvs)) (upd Hk2 p (.dK kvs)) γ2 := by
  have no0 : ¬ OwnA K σ H Hk γ p := fun z => z.noN hp
  have no1 : ¬ OwnA K σ (upd H p (.dK [])) Hk γ p := k.noNew hp
  have h2 : H2 p = some (.dK []) := g.kp _ _ upd_same no1
  have hk2 : Hk2 p = none := by
    cases e : Hk2 p with
    | none => rfl
    | some u =>
      rcases g.nw p u e (k.sub.free hp) with z | z
      · rw [upd_same] at z; cases z
      · exact absurd z no1
  refine ⟨h2, hk2, fun kvs => ?_⟩
  have sm : Same Hk2 (upd Hk2 p (.dK kvs)) := same_upd hk2
  have no2 : ¬ OwnA K σ H2 Hk2 γ2 p := g.noA no1 upd_same
  have up : ∀ {i b y v fp}, gt γ2 i = some (.ow b y) → σ[i]? = some (some v) → OwnV K H2 Hk2 v y fp → OwnV K (upd H2 p (.dK kvs)) (upd Hk2 p (.dK kvs)) v y fp := fun {i b y v fp} e ev r => by
    have np : p ∉ fp := fun m => no2 ⟨i, b, y, v, fp, e, ev, r, m⟩
    exact r.to sm (fun a m u e => by rw [upd_ne (fun z => np (by rw [← z]; exact m))]; exact e) fun a m => by
      rw [upd_ne (fun z => np (by rw [← z]; exact m))]; exact (r.at a m).2
  have dn : ∀ {i b y v fp}, gt γ2 i = some (.ow b y) → σ[i]? = some (some v) → OwnV K (upd H2 p (.dK kvs)) (upd Hk2 p (.dK kvs)) v y fp → OwnV K H2 Hk2 v y fp := fun {i b y v fp} e ev r => by
    obtain ⟨v', fp', e1, r1⟩ := g.ok.ow i b y e
    rw [ev] at e1; cases e1
    rw [r.det (up e ev r1)]
    exact r1
  refine ⟨⟨g.ok.len, fun a u e => ?_, fun i d e => ?_, fun i b y e => ?_, g.ok.pin, fun i j b c y z v u fp fq ei ej vi vj ri rj a mi mj => g.ok.sep i j b c y z v u fp fq ei ej vi vj (dn ei vi ri) (dn ej vj rj) a mi mj, fun i t e => ?_⟩, g.kk.trans sm, fun a u e n => ?_, fun a u e n => ?_, fun a e => ?_, g.pn⟩
  · by_cases ha : a = p
    · subst ha; rw [upd_same] at e ⊢; exact e
    · rw [upd_ne ha] at e ⊢; exact g.ok.sub _ _ e
  · obtain ⟨v, e1, r⟩ := g.ok.dat i d e
    exact ⟨v, e1, dp_mono sm r⟩
  · obtain ⟨v, fp, e1, r⟩ := g.ok.ow i b y e
    exact ⟨v, fp, e1, up e e1 r⟩
  · obtain ⟨v, e1, r⟩ := g.ok.tab i t e
    exact ⟨v, e1, r.mono sm⟩
  · by_cases ha : a = p
    · subst ha; exact .inl hp
    · rw [upd_ne ha] at e
      rcases g.nw a u e n with z | z
      · rw [upd_ne ha] at z; exact .inl z
      · exact .inr ((k.offA no0).mp z)
  · have ha : a ≠ p := ne_of_none e hp
    rw [upd_ne ha]
    exact g.kp a u (by rw [upd_ne ha]; exact e) fun z => n ((k.offA no0).mp z)
  · obtain ⟨i, b, y, v, fp, e1, e2, r, m⟩ := e
    rcases g.sh a ⟨i, b, y, v, fp, e1, e2, dn e1 e2 r, m⟩ with z | z
    · exact .inl ((k.offA no0).mp z)
    · by_cases ha : a = p
      · subst ha; exact .inr hp
      · rw [upd_ne ha] at z; exact .inr z
end
def pairsF : List (Str × Fe) → En → Option (List (Str × D) × En)
  | [], γ => some ([], γ)
  | p :: r, γ => match p.2 γ with
    | some (d, γ1) => match pairsF r γ1 with
      | some (ds, γ2) => some ((p.1, d) :: ds, γ2)
      | none => none
    | none => none
@[simp] def sTab (i : Nat) (fs : List (Str × Fe)) : Fs := fun γ => match pairsF fs γ with
  | some (kvs, γ1) => if decide (kvs.length ≤ 15) && !pinB γ1 i then some (.nx (γ1.set i (some (.tab (.txt kvs))))) else none
  | none => none
def PR (K : PySem.W.Frag) (Hk : Hp) : List (Key × V) → List (Str × D) → Prop
  | [], [] => True
  | p :: r, q :: s => p.1 = Sum.inr q.1 ∧ Dp K Hk p.2 q.2 ∧ PR K Hk r s
  | _, _ => False
section
variable {K : PySem.W.Frag} {σ : L2.St}
theorem PR.mono {H H' : Hp} (s : Same H H') : ∀ {a : List (Key × V)} {b : List (Str × D)}, PR K H a b → PR K H' a b
  | [], [], _ => True.intro
  | _ :: _, _ :: _, ⟨h, d, t⟩ => ⟨h, dp_mono s d, PR.mono s t⟩
theorem PR.len {H : Hp} : ∀ {a : List (Key × V)} {b : List (Str × D)}, PR K H a b → a.length = b.length
  | [], [], _ => rfl
  | _ :: _, _ :: _, ⟨_, _, t⟩ => congrArg (· + 1) (PR.len t)
theorem PR.get {H : Hp} (z : Str) : ∀ {a : List (Key × V)} {b : List (Str × D)} {acc : List (Key × V)} {o : Option D}, PR K H a b → (∀ x, o = some x → ∃ u, valV acc (Sum.inr z) = some u ∧ Dp K H u x) →
    ∀ x, tabM b z o = some x → ∃ u, valV (mergeK acc a) (Sum.inr z) = some u ∧ Dp K H u x
  | [], [], acc, o, _, h, x, e => h x e
  | p :: r, q :: s, acc, o, ⟨hk, d, t⟩, h, x, e => by
    refine PR.get z (acc := putK acc p.1 p.2) (o := if q.1 = z then some q.2 else o) t (fun y ey => ?_) x e
    rw [valV_put, hk]
    by_cases c : q.1 = z
    · rw [if_pos c] at ey
      cases ey
      exact ⟨p.2, by rw [if_pos (by rw [c])], d⟩
    · rw [if_neg c] at ey
      obtain ⟨u, e1, r1⟩ := h y ey
      exact ⟨u, by rw [if_neg (fun w => c (by cases w; rfl))]; exact e1, r1⟩
def trsF (K : PySem.W.Frag) (fs : List (Str × Fe)) : List (TE × TE) := fs.map fun p => (tC (.str p.1), tI K p.2)
theorem tPairs_F : ∀ {fs : List (Str × Fe)} {γ γ2 : En} {H Hk : Hp} {kvs : List (Str × D)} {Q : List (V × V) → Hp → Prop}, Ok K σ H Hk γ → pairsF fs γ = some (kvs, γ2) →
    (∀ (ks : List (Key × V)) (H2 Hk2 : Hp), Go K σ H Hk γ σ H2 Hk2 γ2 → PR K Hk2 ks kvs → Q (ks.map fun kv => (kV kv.1, kv.2)) H2) → tPairs (trsF K fs) σ H Q
  | [], γ, γ2, H, Hk, kvs, Q, o, e, q => by
    cases e
    exact q [] H Hk (Go.refl o) True.intro
  | p :: r, γ, γ2, H, Hk, kvs, Q, o, e, q => by
    unfold pairsF at e
    split at e
    · rename_i d γ1 ef
      split at e
      · rename_i ds γ2' er
        cases e
        refine ⟨γ, Hk, d, γ1, o, ef, fun v H1 Hk1 g1 r1 => ?_⟩
        refine tPairs_F (γ := γ1) g1.ok er fun ks H2 Hk2 g2 pr => ?_
        exact q ((Sum.inr p.1, v) :: ks) H2 Hk2 (g1.trans g2) ⟨rfl, dp_mono g2.kk r1, pr⟩
      · cases e
    · cases e
end
section
variable {W : WX} {X : Cx} {e : Expr} {f : Fe} {pos p : Pos}
theorem es_tab (i : Nat) {x : Str} {p' dpos : Pos} {keys : List (Option Expr)} {values : List Expr} {fs : List (Str × Fe)} (hN : X.N.Nodup) (hi : X.N[i]? = some x) (hx : Loc X.env.scope x) (h : PPs X dpos keys values (trsF X.K fs)) (hall : keys.all (·.isSome) = true) (hl : keys.length = values.length) (h0 : keys ≠ []) (h15 : keys.length ≤ 15)
    (hs : swapsWith (.Dict keys values dpos) (some (.Name x p')) pos.line X.env = pure false := by rfl) (hf : X.fn x = true ∨ X.env.scope.names.lookup x = some .local := by first | exact .inl rfl | exact .inr rfl | assumption) :
    ES X W (.Assign [.Name x p'] (.Dict keys values dpos) pos) (sTab i fs) := PS.imp (ps_set hN hi hx (pe_disp h hall hl h0 h15) hs hf) fun Z σ H ⟨γ, Hk, o, k, ee, q⟩ => by
  unfold sTab at ee
  split at ee
  · rename_i kvs γ1 ef
    split at ee <;> cases ee
    rename_i c
    rw [Bool.and_eq_true] at c
    intro p hp
    have gr : Grow H Hk (upd H p (.dK [])) Hk := Grow.newH k.sub hp
    refine tPairs_F (k.grow gr) ef fun ks H2 Hk2 g pr => ?_
    obtain ⟨h2, hk2, fill⟩ := Go.fill k hp g
    have gg := fill (mergeK [] ks)
    refine ⟨h2, ks, rfl, by rw [pr.len]; exact of_decide_eq_true c.1, ?_⟩
    have t : Tb X.K (upd Hk2 p (.dK (mergeK [] ks))) (.ref p) (.txt kvs) := ⟨p, mergeK [] ks, rfl, upd_same, fun z x ez => PR.get z (pr.mono (same_upd hk2)) (fun y ey => by cases ey) x ez⟩
    exact q _ _ _ (gg.trans (gg.ok.setTab t (noPin_of gg.ok (by simpa using c.2))))
  · cases ee
@[simp] def fTabL (i : Nat) (f : Fe) : Fe := fun γ => match gt γ i with
  | some (.tab _) => match f γ with
    | some (.str z, γ1) => match gt γ1 i with
      | some (.tab (.txt kvs)) => match tabM kvs z none with
        | some x => some (x, γ1)
        | none => none
      | _ => none
    | _ => none
  | _ => none
theorem ev_tabL {o : Expr} {i : Nat} (hu : X.A.units + 64 < cLine) (ho : PE X o (tVar i)) (he : EV X e f) (hs : NoSl e) : EV X (.Subscript o e pos) (fTabL i f) := PE.imp (pe_dget (by omega) ho he hs) fun σ H Q ⟨γ, Hk, d, γ2, k, ee, q⟩ => by
  unfold fTabL at ee
  split at ee
  · rename_i kv0 e0
    split at ee
    · rename_i z γ1 ef
      split at ee
      · rename_i kvs ei
        split at ee <;> cases ee
        rename_i x ex
        obtain ⟨v0, ev0, _⟩ := k.tab i kv0 e0
        refine ⟨v0, ev0, γ, Hk, _, γ2, k, ef, fun v H1 Hk1 g1 r1 => ?_⟩
        obtain ⟨v1, ev1, p, kvs', rfl, hp, t⟩ := g1.ok.tab i (.txt kvs) ei
        rw [ev0] at ev1
        cases ev1
        obtain ⟨u, eu, ru⟩ := t z d ex
        cases r1
        exact ⟨p, u, rfl, .inl ⟨kvs', Sum.inr z, .inl (g1.ok.sub _ _ hp), rfl, eu.symm⟩, q u H1 Hk1 g1 ru⟩
      · cases ee
    · cases ee
  · cases ee
/-! ### sorted of whole numbers -/
def insI (x : Int) : List Int → List Int
  | [] => [x]
  | y :: r => if x ≤ y then x :: y :: r else y :: insI x r
def sortI : List Int → List Int
  | [] => []
  | x :: r => insI x (sortI r)
theorem insI_perm (x : Int) : ∀ l : List Int, (insI x l).Perm (x :: l)
  | [] => .refl _
  | y :: r => by
    unfold insI
    split
    · exact .refl _
    · exact ((insI_perm x r).cons y).trans (.swap x y r)
theorem sortI_perm : ∀ l : List Int, (sortI l).Perm l
  | [] => .refl _
  | x :: r => (insI_perm x _).trans ((sortI_perm r).cons x)
theorem insI_sorted (x : Int) : ∀ l : List Int, l.Pairwise (· ≤ ·) → (insI x l).Pairwise (· ≤ ·)
  | [], _ => by simp [insI]
  | y :: r, h => by
    rw [List.pairwise_cons] at h
    unfold insI
    split
    · rename_i c
      rw [List.pairwise_cons]
      refine ⟨fun z hz => ?_, List.pairwise_cons.mpr h⟩
      rcases List.mem_cons.mp hz with rfl | hz
      · exact c
      · exact Int.le_trans c (h.1 z hz)
    · rename_i c
      rw [List.pairwise_cons]
      refine ⟨fun z hz => ?_, insI_sorted x r h.2⟩
      rcases List.mem_cons.mp ((insI_perm x r).mem_iff.mp hz) with rfl | hz
      · omega
      · exact h.1 z hz
theorem sortI_sorted : ∀ l : List Int, (sortI l).Pairwise (· ≤ ·)
  | [] => .nil
  | x :: r => insI_sorted x _ (sortI_sorted r)
theorem sorted_eq : ∀ {a b : List Int}, a.Perm b → a.Pairwise (· ≤ ·) → b.Pairwise (· ≤ ·) → a = b
  | [], b, h, _, _ => (List.Perm.eq_nil h.symm).symm
  | x :: a, [], h, _, _ => List.Perm.eq_nil h
  | x :: a, y :: b, h, ha, hb => by
    rw [List.pairwise_cons] at ha hb
    have h1 : x ≤ y := by
      rcases List.mem_cons.mp (h.mem_iff.mpr List.mem_cons_self) with e | m
      · omega
      · exact ha.1 y m
    have h2 : y ≤ x := by
      rcases List.mem_cons.mp (h.mem_iff.mp List.mem_cons_self) with e | m
      · omega
      · exact hb.1 x m
    obtain rfl : x = y := by omega
    rw [sorted_eq h.cons_inv ha.2 hb.2]
def intsD : List D → Option (List Int)
  | [] => some []
  | .int i :: r => (intsD r).map (i :: ·)
  | _ => none
theorem intsD_dps {K : PySem.W.Frag} {H : Hp} : ∀ {vs : List V} {ds : List D} {ns : List Int}, DpAll K H vs ds → intsD ds = some ns → vs = ns.map V.int
  | _, _, ys, .nil, e => by cases e; rfl
  | _, _, ys, .cons h t, e => by
    unfold intsD at e
    split at e
    · rename_i e2; cases e2
    · rename_i e2; cases e2
      obtain ⟨zs, e3, e4⟩ := Option.map_eq_some_iff.mp e
      subst e4
      cases h
      rw [intsD_dps t e3]; rfl
    · cases e
theorem intsD_map : ∀ ns : List Int, intsD (ns.map .int) = some ns
  | [] => rfl
  | n :: r => by
    show (intsD (r.map .int)).map (n :: ·) = _
    rw [intsD_map r]; rfl
@[simp] def lSort (f : Fe) : Fa := fun γ => match f γ with
  | some (.list ds, γ1) => match intsD ds with
    | some ns => some ((sortI ns).map .int, γ1)
    | none => none
  | _ => none
theorem el_sorted {a : Expr} (hm : X.mg "sorted" = none) (hg : Gl X "sorted") (ha : EV X a f) (he : starEach [a] X.env = (false, eval a X.env) :: starEach [] X.env := by rfl) (hpl : (backTo pos (starEach [] X.env)).any (·.1) = false := by rfl) :
    EL X (.Call (.Name "sorted" p) [a] [] pos) (lSort f) := PE.imp (pe_callB cr_sortedI hg hm (by decide +kernel) (pa_cons ha pa_nil he) (he := he) (hpl := hpl)) fun σ H Q ⟨γ, Hk, d, γ2, o, ee, q⟩ => by
  unfold lSort at ee
  split at ee
  · rename_i ds γ1 ef
    split at ee <;> cases ee
    rename_i ns en
    refine ⟨γ, Hk, _, γ2, o, ef, fun v H1 Hk1 g1 r1 => ?_⟩
    cases r1 with
    | lst h t =>
      cases intsD_dps t en
      refine ⟨_, ns, rfl, sql_mono g1.ok.sub h, fun ns' p hp hs hn => ?_⟩
      cases sorted_eq (hp.trans (sortI_perm ns).symm) hs (sortI_sorted ns)
      exact q p _ H1 Hk1 g1 hn (dps_map (K := X.K) V.int PyData.int (fun i => .int i) _)
  · cases ee
end
end DN
namespace DN
open PySem PySem.Spec PyProof.Rows L2
/-! ### a text in a text; max, min of two ints; str of an int -/
def inS (a b : Str) : Bool := !(Builtin.Str.occurrences b a 0 b.length 1).isEmpty
@[simp] def inSD : D → D → Option D
  | .str a, .str b => some (.bool (inS a b))
  | _, _ => none
@[simp] def notInSD : D → D → Option D
  | .str a, .str b => some (.bool (!inS a b))
  | _, _ => none
section
variable {K : PySem.W.Frag}
theorem o_inS : Op2 K (fun x y H Q => ∃ i j, x = .str i ∧ y = .str j ∧ Q (.bl (!(Builtin.Str.occurrences j i 0 j.length 1).isEmpty)) H) inSD := by
  intro H Hk x y dx dy dz Q s vx vy e q
  unfold inSD at e
  split at e <;> cases e
  exact ⟨_, _, vx.str, vy.str, q _ H Hk (Grow.refl s) (.bl _)⟩
theorem o_notInS : Op2 K (fun x y H Q => ∃ i j, x = .str i ∧ y = .str j ∧ Q (.bl (!(!(Builtin.Str.occurrences j i 0 j.length 1).isEmpty))) H) notInSD := by
  intro H Hk x y dx dy dz Q s vx vy e q
  unfold notInSD at e
  split at e <;> cases e
  exact ⟨_, _, vx.str, vy.str, q _ H Hk (Grow.refl s) (.bl _)⟩
@[simp] def maxD : D → D → Option D
  | .int i, .int j => some (.int (if j > i then j else i))
  | _, _ => none
@[simp] def minD : D → D → Option D
  | .int i, .int j => some (.int (if j < i then j else i))
  | _, _ => none
theorem o_max : Op2 K (fun x y H Q => (fun xs H Q => ∃ i j, xs = [V.int i, V.int j] ∧ Q (.int (if j > i then j else i)) H) [x, y] H Q) maxD := by
  intro H Hk x y dx dy dz Q s vx vy e q
  unfold maxD at e
  split at e <;> cases e
  cases vx.int; cases vy.int
  exact ⟨_, _, rfl, q _ H Hk (Grow.refl s) (.int _)⟩
theorem o_min : Op2 K (fun x y H Q => (fun xs H Q => ∃ i j, xs = [V.int i, V.int j] ∧ Q (.int (if j < i then j else i)) H) [x, y] H Q) minD := by
  intro H Hk x y dx dy dz Q s vx vy e q
  unfold minD at e
  split at e <;> cases e
  cases vx.int; cases vy.int
  exact ⟨_, _, rfl, q _ H Hk (Grow.refl s) (.int _)⟩
@[simp] def strD : D → Option D
  | .int i => if decide (i.natAbs < 2 ^ 1900) then some (.str (toString i)) else none
  | _ => none
theorem o_str : Op1 K (fun x H Q => (fun xs H Q => ∃ i, xs = [V.int i] ∧ i.natAbs.log2 < 1920 ∧ Q (.str (toString i)) H) [x] H Q) strD := by
  intro H Hk x dx dz Q s vx e q
  unfold strD at e
  split at e
  · rename_i i
    split at e <;> cases e
    rename_i c
    cases vx.int
    refine ⟨_, rfl, ?_, q _ H Hk (Grow.refl s) (.str _)⟩
    have := of_decide_eq_true c
    by_cases h : i.natAbs = 0
    · rw [h]; decide
    · exact Nat.lt_trans ((Nat.log2_lt h).mpr this) (by decide)
  · cases e
end
section
variable {W : WX} {X : Cx} {a b : Expr} {f g : Fe} {pos : Pos}
theorem ev_callB2 {x : Str} {id : String} {p : Pos} {r : List V → Hp → VK → Prop} {op : D → D → Option D} (o : Op2 X.K (fun x y => r [x, y]) op) (hc : CallR X (.builtin id) r) (hm : X.mg x = none) (hg : Gl X x) (hv : bootBuiltins x = some (.builtin id)) (ha : EV X a f) (hb : EV X b g)
    (hn : x ≠ "__name__" := by decide) (hdb : (x == ("__debug__" : Str)) = false := by decide) (he : starEach [a, b] X.env = (false, eval a X.env) :: starEach [b] X.env := by rfl) (he2 : starEach [b] X.env = (false, eval b X.env) :: starEach [] X.env := by rfl) (hpl : (backTo pos (starEach [b] X.env)).any (·.1) = false := by rfl) :
    EV X (.Call (.Name x p) [a, b] [] pos) (f2 op f g) := PE.imp (pe_callB hc hg hm hv (pa_cons ha (pa_cons hb pa_nil he2) he) hn hdb he hpl) fun _ _ _ h => t2 o h
end
/-! ### x += e, x -= e, whole numbers -/
@[simp] def sAug (op : Int → Int → Int) (i : Nat) (f : Fe) : Fs := fun γ => match gt γ i with
  | some (.dat (.int a)) => match f γ with
    | some (.int b, γ1) => if pinB γ1 i then none else some (.nx (γ1.set i (some (.dat (.int (op a b))))))
    | _ => none
  | _ => none
section
variable {W : WX} {X : Cx} {e : Expr} {f : Fe} {pos : Pos}
theorem es_aug {op : Operator} {o : Int → Int → Int} (ho : PIp X op (ipI o)) (i : Nat) {x : Str} {p' : Pos} (hN : X.N.Nodup) (hi : X.N[i]? = some x) (hx : Loc X.env.scope x) (he : EV X e f) (hf : X.fn x = true ∨ X.env.scope.names.lookup x = some .local := by first | exact .inl rfl | exact .inr rfl | assumption) :
    ES X W (.AugAssign (.Name x p') op e pos) (sAug o i f) := PS.imp (ps_aug hN hi hx he ho hf) fun Z σ H ⟨γ, Hk, oo, k, ee, q⟩ => by
  unfold sAug at ee
  split at ee
  · rename_i a ea
    split at ee
    · rename_i b γ1 ef
      split at ee <;> cases ee
      rename_i c
      obtain ⟨v, ev, rv⟩ := k.dat i _ ea
      cases rv
      refine ⟨_, ev, γ, Hk, _, γ1, k, ef, fun v H1 Hk1 g1 r1 => ?_⟩
      cases r1
      exact ⟨a, b, rfl, rfl, q _ _ _ (g1.trans (g1.ok.setDat (.int _) (noPin_of g1.ok (by simpa using c))))⟩
    · cases ee
  · cases ee
end
end DN
namespace DN
open PySem PySem.Spec PyProof.Rows L2
/-! ### enumerate of a tuple -/
section
open AutoSeq1 (wpAny_loadPart')
theorem meets_enumT (l : Addr) (items : Array Value) (n : Nat) (dct : Option Addr) (sl : Array (Option Value)) :
    Meets (Builtin.«enumerate.__new__» ⟨[.type "enumerate", .ref l], []⟩) (fun _ R s => s.heap.get? l = some { cls := .type "tuple", dict := dct, data := .seq items n, slots := sl } ∧
      R (.ok (.ret (.ref (s.heap.push { cls := .type "tuple_iterator", data := .fields #[.ref l, .int 0 0] }).objs.size)))
        { s with heap := (s.heap.push { cls := .type "tuple_iterator", data := .fields #[.ref l, .int 0 0] }).push { cls := .type "enumerate", data := .fields #[.none, .bool false, .ref s.heap.objs.size, rawInt 0, .none, .none] } }) :=
  .of_wp fun prog w A R s h => by
    obtain ⟨hp, g, d, tk, os⟩ := s; obtain ⟨hl, h⟩ := h
    have hsub := sub_enumerate
    have hL : Heap.IsTuple (Shared.heap ⟨hp, g, d, tk, os⟩) l items := ⟨_, hl, rfl, n, rfl⟩
    wp_walk using wpAny_loadPart' hl
    refine wpAny_stack_any fun st => wpAny_pure ?_
    split
    · rename_i c _ _ _ _ _
      cases (c == Value.type "enumerate")
      · wp_walk using wpAny_loadPart' hl, wpAny_pyIter_tuple hL
        exact ⟨_, rfl, h⟩
      · wp_walk using wpAny_loadPart' hl, wpAny_pyIter_tuple hL
        exact ⟨_, rfl, h⟩
    · wp_walk using wpAny_loadPart' hl, wpAny_pyIter_tuple hL
      exact ⟨_, rfl, h⟩
end
section
variable {prog : Program} {w : World} {A : Around} {E : Value → Shared → Prop} {s : Shared}
theorem call_enumT {l : Addr} {items : Array Value} {Q : Value → Shared → Prop} (hL : s.heap.IsTuple l items)
    (h : ∀ h', IsEnum h' (s.heap.objs.size + 1) s.heap.objs.size 0 .none → h'.IsTupleIter s.heap.objs.size l 0 → h'.objs.size = s.heap.objs.size + 2 →
      (∀ b o, s.heap.get? b = some o → h'.get? b = some o) → Q (.ref (s.heap.objs.size + 1)) { s with heap := h' }) :
    wpAny (model prog w) A (call (.type "enumerate") [.ref l]) Q E s := by
  obtain ⟨⟨c, dct, dt, sl⟩, hl, hc, n, hd⟩ := hL
  replace hc : c = .type "tuple" := hc
  replace hd : dt = .seq items n := hd
  subst hc hd
  refine callType_new F.called_enumerate (by decide) (F.typeCall_enumerate_1 _) (F.newCall_enumerate_1 _) (fun obj => F.args_object_init_2 obj _) F.entry_enumerate_new
    (meets_enumT l items n dct sl) ⟨hl, ?_⟩
  have hz : (s.heap.push { cls := .type "tuple_iterator", data := .fields #[.ref l, .int 0 0] }).objs.size = s.heap.objs.size + 1 := Heap.size_push ..
  show _ ∧ _
  rw [hz]
  have he : IsEnum ((s.heap.push { cls := .type "tuple_iterator", data := .fields #[.ref l, .int 0 0] }).push
      { cls := .type "enumerate", data := .fields #[.none, .bool false, .ref s.heap.objs.size, rawInt 0, .none, .none] }) (s.heap.objs.size + 1) s.heap.objs.size 0 .none := by
    have := Heap.get?_push_size (s.heap.push { cls := .type "tuple_iterator", data := .fields #[.ref l, .int 0 0] })
      (o := { cls := .type "enumerate", data := .fields #[.none, .bool false, .ref s.heap.objs.size, rawInt 0, .none, .none] }) rfl
    rw [hz] at this; exact this
  refine ⟨⟨_, he, rfl⟩, h _ he ⟨_, Heap.get?_push_of_some _ (Heap.get?_push_size _ rfl), rfl, rfl⟩ (by rw [Heap.size_push, hz]) fun b o x => Heap.get?_push_of_some _ (Heap.get?_push_of_some _ x)⟩
theorem enumT_end {e it t : Addr} {i : Nat} {k : Int} {items : Array Value} {old : Value} {Q : Option Value → Shared → Prop} (hh : A.handled = none)
    (he : IsEnum s.heap e it k old) (hit : s.heap.IsTupleIter it t i) (hl : s.heap.IsTuple t items) (hx : items[i]? = none)
    (hQ : ∀ h', Heap.ExtBut it s.heap h' → Q none { s with heap := h' }) : wpAny (model prog w) A (pyNext (.ref e)) Q E s := by
  have hT : s.TypeIs (.ref e) "enumerate" := ⟨_, he, rfl⟩
  unfold pyNext
  refine wpAny_bind (wpAny_attempt (wpAny_callSpecial?_slot (name := Str.ofString "__next__") hT F.slot_enumerate_next
    (wpAny_call_entry F.slot_enumerate_next hT F.entry_enumerate_next ?_ (F.args_enumerate_next_1 _))))
  show wpAny _ _ (field (.ref e) 2 >>= _) _ _ _
  refine wpAny_bind (wpAny_field he rfl (x := .ref it) rfl ?_)
  refine wpAny_bind (wpAny_nextOf_tuple_end hh hit hl hx fun h' x he' hx' => ?_)
  obtain ⟨o, ho, hc⟩ := hx'
  refine wpAny_bind (wpAny_isInstance (T := "StopIteration") (b := true) ⟨o, ho, hc⟩ isSubtype_stop ?_)
  exact wpAny_pure (hQ _ he')
end
/-- the tuple at a, each item in a new pair -/
def IteT (K : PySem.W.Frag) (a : Addr) : It :=
  ⟨fun i H => ∃ (xs : List V) (x : V), SqT K H a xs ∧ xs[i]? = some x, fun i H v H' => ∃ T x, v = .ref T ∧ H T = none ∧ H' = upd H T (.tup [.int (i : Nat), x]) ∧ ∀ xs, SqT K H a xs → xs[i]? = some x, fun i H => ∃ xs : List V, SqT K H a xs ∧ xs.length ≤ i⟩
theorem turn_enumT {P : Program} {w : World} {K : PySem.W.Frag} {elts : List Expr} {kk : Nat} {tpos : Pos} (a e it : Addr) :
    Turn P w K (.Tuple elts kk tpos) (IteT K a) [e, it] e (fun i h => (∃ old, IsEnum h e it ((i : Nat) : Int) old) ∧ h.IsTupleIter it a i ∧ e ≠ it) where
  mem := by simp
  obj := fun i h st b hb => by
    obtain ⟨⟨old, he⟩, ⟨o, ho, hc, hd⟩, _⟩ := st
    have e' : b = e ∨ b = it := by simpa using hb
    rcases e' with z | z
    · rw [z]; exact ⟨_, he, fun v q => nomatch q⟩
    · rw [z]; exact ⟨o, ho, fun v q => by rw [hd] at q; cases q⟩
  keep := fun i h h' st k => let ⟨⟨old, he⟩, hi, hne⟩ := st; ⟨⟨old, k e (by simp) _ he⟩, hi.at fun o q => k it (by simp) o q, hne⟩
  item := by
    intro X hP hw hK hc i pins s σ H E I hf st hg
    subst hP hw hK
    obtain ⟨⟨old, he⟩, hit, hne⟩ := st
    obtain ⟨xs, x, hq, hx⟩ := hg
    obtain ⟨its, rv, p, hz⟩ := I.tuple hq
    obtain ⟨u, hu, ru⟩ := rv.get hx
    have hel : e < s.heap.objs.size := Heap.lt_size he
    have hil : it < s.heap.objs.size := by obtain ⟨_, q, _⟩ := hit; exact Heap.lt_size q
    have ht : s.heap.IsTuple a its.toArray := p
    have hai : a ≠ it := by
      rintro rfl
      obtain ⟨o1, e1, c1, _⟩ := hit
      obtain ⟨o2, e2, c2, _⟩ := ht
      rw [e1] at e2; cases e2
      rw [c1] at c2; injection c2 with z; exact absurd z (by decide)
    have hae : a ≠ e := by
      rintro rfl
      obtain ⟨o2, e2, c2, _⟩ := ht
      rw [he] at e2; cases e2
      injection c2 with z; exact absurd z (by decide)
    have hlt : i < its.toArray.size := by
      have := rv.length
      have := (List.getElem?_eq_some_iff.mp hx).1
      simp; omega
    refine wpAny_pyNext_enum_itemD (Draws.tuple (show X.A.in1.handled = none from I.ok.hd hc) it a hai its.toArray) he ⟨hit, ht⟩ hlt hne (by simp [hne, Ne.symm hae]) fun x' h' tk hx' ho hit' hT hsz hk => ?_
    obtain rfl : u = x' := by
      have : its.toArray[i]? = some u := by simpa using hu
      rw [this] at hx'; exact Option.some.inj hx'
    refine ⟨_, rfl, wpAny_letOwnedTupleGo_enum (s := { s with heap := h', toks := tk + 1 }) ho fun h'' he' sb => ?_⟩
    have hT2 : h''.get? s.heap.objs.size = some { cls := .type "tuple", data := .seq #[.int i tk, u] } := (sb.2 _ (Nat.ne_of_gt hel)).trans hT
    have new : ObjOk X.prog X.w (upd H s.heap.objs.size (.tup [.int (i : Nat), x])) h'' s.heap.objs.size (.tup [.int (i : Nat), x]) :=
      ⟨by show 2 ≤ sizeLine; decide, [.int i tk, u], .cons ⟨_, rfl⟩ (.cons ru .nil), ⟨_, hT2, rfl, _, rfl⟩⟩
    have I1 : Inv X pins σ (upd H s.heap.objs.size (.tup [.int (i : Nat), x])) { s with heap := h'', toks := tk + 1 } :=
      I.turnedNew (ch := [e, it]) (fun b ob hb q => (sb.2 b (fun z => hb (by simp [z]))).trans (hk b ob (fun z => hb (by simp [z])) (fun z => hb (by simp [z])) q)) hf (Nat.le_refl _) new
    refine ⟨.ref s.heap.objs.size, _, I1, rfl, ⟨_, x, rfl, I.hok.fresh (Nat.le_refl _), rfl, fun ys hy => by rw [I.tuple_inj hy hq]; exact hx⟩, ⟨⟨u, ?_⟩, hit'.1.at fun o q => (sb.2 it (Ne.symm hne)).trans q, hne⟩, fun b hb => ?_⟩
    · have e1 : ((i + 1 : Nat) : Int) = (i : Int) + 1 := by omega
      rw [e1]; exact he'
    · have hb' : b < s.heap.objs.size := by
        have e' : b = e ∨ b = it := by simpa using hb
        rcases e' with z | z
        · rw [z]; exact hel
        · rw [z]; exact hil
      rw [upd_ne (Nat.ne_of_lt hb')]
      exact (hf b hb).1
  done := by
    intro X hP hw hK hc i pins s σ H E I hf st hg
    subst hP hw hK
    obtain ⟨⟨old, he⟩, hit, hne⟩ := st
    obtain ⟨xs, hq, hx⟩ := hg
    obtain ⟨its, rv, p, hz⟩ := I.tuple hq
    obtain ⟨f0, f1, f2, f3, f4, f5⟩ := hf it (by simp)
    have hl := rv.length
    exact enumT_end (I.ok.hd hc) he hit (show s.heap.IsTuple a its.toArray from p) (by simp; omega) fun h' eb => ⟨rfl, I.turned (t' := s.toks) (fun b o hb q => eb b o hb q) f0 f1 f3 f4 f5⟩
  self := fun A i s Q E st h => let ⟨⟨_, he⟩, _⟩ := st; wpAny_pyIter_enum he h
def iEnumA (K : PySem.W.Frag) (ta : TA) : TI := fun σ H R => ta σ H fun vs H1 => ∃ a xs, vs = [.ref a] ∧ ((SqL K H1 a xs ∧ R (Ite K a) H1) ∨ (SqT K H1 a xs ∧ R (IteT K a) H1))
theorem pi_enumA {X : Cx} {e : Expr} {ta : TA} {p pos tpos : Pos} {elts : List Expr} {kk : Nat} (hg : Gl X "enumerate") (hm : X.mg "enumerate" = none) (ha : PA X [e] ta) (hs : starEach [e] X.env = [(false, eval e X.env)] := by rfl) :
    PI X (.Tuple elts kk tpos) (.Call (.Name "enumerate" p) [e] [] pos) (iEnumA X.K ta) := by
  refine ⟨fun pins s σ H R I h => ?_⟩
  refine Call_ (ld_blt I hg hm boot_enumerate (PyProof.Rows.callWith_type1 (thn (ha.run pos pins s σ H _ I h) fun us s1 ⟨vs, H1, I1, r1, q1⟩ => ?_) hs rfl))
  obtain ⟨a, xs, ex, q⟩ := q1
  subst ex
  have hfp : ∀ b, b ∈ [s1.heap.objs.size + 1, s1.heap.objs.size] → FpOk X pins H1 b := fun b hb => by
    have e' : b = s1.heap.objs.size + 1 ∨ b = s1.heap.objs.size := by simpa using hb
    have hle : s1.heap.objs.size ≤ b := by
      rcases e' with z | z
      · rw [z]; exact Nat.le_add_right _ _
      · rw [z]; exact Nat.le_refl _
    exact I1.fpOk hle (I1.hok.fresh hle)
  cases r1 with
  | cons r rr =>
    cases rr
    cases r
    rcases q with ⟨hq, q⟩ | ⟨hq, q⟩
    · obtain ⟨its, rv, p', hz⟩ := I1.list hq
      refine call_enumerate_list p'.isList fun h' he hit hsz hk => wpAny_pyIter_enum he ?_
      have I2 : Inv X pins σ H1 { s1 with heap := h' } := I1.kept (t' := s1.toks) hk
      exact ⟨s1.heap.objs.size + 1, [s1.heap.objs.size + 1, s1.heap.objs.size], _, _, H1, rfl, I2, turn_enum a (s1.heap.objs.size + 1) s1.heap.objs.size, ⟨⟨.none, he⟩, hit, Nat.succ_ne_self _⟩, hfp, q⟩
    · obtain ⟨its, rv, p', hz⟩ := I1.tuple hq
      refine call_enumT (show s1.heap.IsTuple a its.toArray from p') fun h' he hit hsz hk => wpAny_pyIter_enum he ?_
      have I2 : Inv X pins σ H1 { s1 with heap := h' } := I1.kept (t' := s1.toks) hk
      exact ⟨s1.heap.objs.size + 1, [s1.heap.objs.size + 1, s1.heap.objs.size], _, _, H1, rfl, I2, turn_enumT a (s1.heap.objs.size + 1) s1.heap.objs.size, ⟨⟨.none, he⟩, hit, Nat.succ_ne_self _⟩, hfp, q⟩
def enumL (i : Nat) : List D → List D
  | [] => []
  | d :: r => .tuple [.int (i : Int), d] :: enumL (i + 1) r
theorem enumL_len : ∀ (ds : List D) (i : Nat), (enumL i ds).length = ds.length
  | [], _ => rfl
  | _ :: r, i => congrArg (· + 1) (enumL_len r (i + 1))
theorem enumL_at : ∀ (ds : List D) (i j : Nat) (h : j < ds.length), (enumL i ds)[j]? = some (.tuple [.int ((i + j : Nat) : Int), ds[j]])
  | d :: r, i, 0, _ => rfl
  | d :: r, i, j + 1, h => by
    have := enumL_at r (i + 1) j (by simpa using h)
    simp only [enumL, List.getElem?_cons_succ, List.getElem_cons_succ]
    rw [this, show i + 1 + j = i + (j + 1) by omega]
@[simp] def wEnum (f : Fe) : Fa := fun γ => match f γ with
  | some (.list ds, γ1) => some (enumL 0 ds, γ1)
  | some (.tuple ds, γ1) => some (enumL 0 ds, γ1)
  | _ => none
section
variable {W : WX} {X : Cx} {e : Expr} {f : Fe} {p pos tpos : Pos} {elts : List Expr} {kk : Nat} {K : PySem.W.Frag}
theorem enum_turn {xs : List V} {ds : List D} {Hk H Hc : Hp} (ra : DpAll K Hk xs ds) (s1 : Same Hk Hc) (s2 : Same Hc H) {i : Nat} (hi : i < (enumL 0 ds).length) :
    ∃ x, xs[i]? = some x ∧ ∀ T, H T = none → ∃ Hc', Grow H Hc (upd H T (.tup [.int (i : Nat), x])) Hc' ∧ Dp K Hc' (.ref T) ((enumL 0 ds)[i]) := by
  have hi' : i < ds.length := by rw [enumL_len] at hi; exact hi
  obtain ⟨x, ex, rx⟩ := dps_at ra (List.getElem?_eq_getElem hi')
  refine ⟨x, ex, fun T hT => ⟨upd Hc T (.tup [.int (i : Nat), x]), Grow.new s2 hT, ?_⟩⟩
  have sm : Same Hc (upd Hc T (.tup [.int (i : Nat), x])) := same_upd (s2.free hT)
  have e1 : (enumL 0 ds)[i] = .tuple [.int ((i : Nat) : Int), ds[i]] := by
    have := enumL_at ds 0 i hi'
    rw [List.getElem?_eq_getElem hi] at this
    have := Option.some.inj this
    rw [this, Nat.zero_add]
  rw [e1]
  exact .tup (SqT.of upd_same) (.cons (.int _) (.cons (dp_mono (s1.trans sm) rx) .nil))
theorem walks_el {Hk : Hp} {q : Addr} {xs : List V} {ds : List D} (hx : SqL K Hk q xs) (ra : DpAll K Hk xs ds) : Walks K (Ite K q) (enumL 0 ds) Hk := fun H Hc s1 s2 => by
  have h1 := sql_mono (s1.trans s2) hx
  refine ⟨fun i hi => ?_, fun i hi => ?_⟩
  · obtain ⟨x, ex, mk⟩ := enum_turn ra s1 s2 hi
    refine ⟨⟨xs, x, h1, ex⟩, fun v H' yl => ?_⟩
    obtain ⟨T, x', rfl, hT, rfl, fx⟩ := yl
    have e1 := fx xs h1
    rw [ex] at e1; cases e1
    exact mk T hT
  · rw [enumL_len, ← dps_len ra] at hi
    exact ⟨xs, h1, hi⟩
theorem walks_et {Hk : Hp} {q : Addr} {xs : List V} {ds : List D} (hx : SqT K Hk q xs) (ra : DpAll K Hk xs ds) : Walks K (IteT K q) (enumL 0 ds) Hk := fun H Hc s1 s2 => by
  have h1 := sqt_mono (s1.trans s2) hx
  refine ⟨fun i hi => ?_, fun i hi => ?_⟩
  · obtain ⟨x, ex, mk⟩ := enum_turn ra s1 s2 hi
    refine ⟨⟨xs, x, h1, ex⟩, fun v H' yl => ?_⟩
    obtain ⟨T, x', rfl, hT, rfl, fx⟩ := yl
    have e1 := fx xs h1
    rw [ex] at e1; cases e1
    exact mk T hT
  · rw [enumL_len, ← dps_len ra] at hi
    exact ⟨xs, h1, hi⟩
theorem ei_enum (hm : X.mg "enumerate" = none) (hg : Gl X "enumerate") (h : EV X e f) (hs : starEach [e] X.env = [(false, eval e X.env)] := by rfl) :
    EI X (.Tuple elts kk tpos) (.Call (.Name "enumerate" p) [e] [] pos) (wEnum f) :=
  PI.imp (pi_enumA hg hm (pa_cons h pa_nil hs) hs) fun σ H R ⟨γ, Hk, ds, γ2, o, ee, q⟩ => by
  unfold wEnum at ee
  split at ee <;> cases ee
  · rename_i ds' ef
    refine ⟨γ, Hk, _, _, o, ef, fun v H1 Hk1 g1 r1 => ?_⟩
    cases r1 with
    | lst hx ra => exact ⟨_, _, rfl, .inl ⟨sql_mono g1.ok.sub hx, q _ H1 Hk1 g1 (walks_el hx ra)⟩⟩
  · rename_i ds' ef
    refine ⟨γ, Hk, _, _, o, ef, fun v H1 Hk1 g1 r1 => ?_⟩
    cases r1 with
    | tup hx ra => exact ⟨_, _, rfl, .inr ⟨sqt_mono g1.ok.sub hx, q _ H1 Hk1 g1 (walks_et hx ra)⟩⟩
end
/-! ### targets of comprehensions: tuples of names -/
def TgsOk (K : PySem.W.Frag) (g : TGs) (tg : Fgs) (js : List Nat) : Prop := ∀ vs ds σ H Hk γ γ2 (Q : L2.St → Hp → Prop), Ok K σ H Hk γ → DpAll K Hk vs ds → tg ds γ = some γ2 → (∀ σ2, Go K σ H Hk γ σ2 H Hk γ2 → wipe σ2 js = wipe σ js → Q σ2 H) → g vs σ H Q
theorem wipe_at (τ : L2.St) (js : List Nat) (i : Nat) : (wipe τ js)[i]? = if i ∈ js ∧ i < τ.length then some none else τ[i]? := by
  induction js with
  | nil => simp [wipe]
  | cons v vs ih =>
    show ((wipe τ vs).set v none)[i]? = _
    rw [List.getElem?_set, ih, wipe_length]
    by_cases e : v = i
    · subst e
      by_cases l : v < τ.length
      · simp [l]
      · simp [l]
    · have e' : ¬ i = v := fun z => e z.symm
      simp [e, e']
theorem wipe_set {σ : L2.St} {js : List Nat} {j : Nat} {x : Option V} (h : j ∈ js) : wipe (σ.set j x) js = wipe σ js := by
  apply List.ext_getElem?
  intro i
  rw [wipe_at, wipe_at, List.length_set]
  by_cases c : i ∈ js ∧ i < σ.length
  · rw [if_pos c, if_pos c]
  · rw [if_neg c, if_neg c, List.getElem?_set]
    by_cases e : j = i
    · subst e
      have : ¬ j < σ.length := fun z => c ⟨h, z⟩
      simp [this]
    · simp [e]
theorem wipe_sub {σ : L2.St} {js js1 : List Nat} (h : ∀ j ∈ js1, j ∈ js) : wipe (wipe σ js1) js = wipe σ js := by
  apply List.ext_getElem?
  intro i
  rw [wipe_at, wipe_at, wipe_length, wipe_at]
  by_cases c : i ∈ js ∧ i < σ.length
  · rw [if_pos c, if_pos c]
  · rw [if_neg c, if_neg c, if_neg fun z => c ⟨h i z.1, z.2⟩]
section
variable {K : PySem.W.Frag} {js : List Nat}
theorem tg_n (j : Nat) (h : j ∈ js) : TgOk K (gName j) (gDat j) js := by
  intro v d σ H Hk γ γ2 Q o r e q
  unfold gDat at e
  split at e <;> cases e
  rename_i c
  exact q _ (o.setDat r (noPin_of o (by simpa using c))) (wipe_set h)
theorem tgs_nil : TgsOk K gNil gsNo js := by
  intro vs ds σ H Hk γ γ2 Q o r e q
  unfold gsNo at e
  split at e <;> cases e
  cases r
  exact ⟨rfl, q σ (Go.refl o) rfl⟩
theorem tgs_cons {g : TG} {gs : TGs} {tg : Fg} {tgs : Fgs} (h1 : TgOk K g tg js) (h2 : TgsOk K gs tgs js) : TgsOk K (gCons g gs) (gsCons tg tgs) js := by
  intro vs ds σ H Hk γ γ2 Q o r e q
  unfold gsCons at e
  split at e
  · rename_i d r'
    split at e
    · rename_i γ1 e1
      cases r with
      | cons ra rb => exact ⟨_, _, rfl, h1 _ _ _ _ _ _ _ _ o ra e1 fun σ1 g1 w1 => h2 _ _ _ _ _ _ _ _ g1.ok rb e fun σ2 g2 w2 => q σ2 (g1.trans g2) (w2.trans w1)⟩
    · cases e
  · cases e
theorem tg_t {n : Nat} {gs : TGs} {tgs : Fgs} (h : TgsOk K gs tgs js) : TgOk K (gTup K n gs) (gTp n tgs) js := by
  intro v d σ H Hk γ γ2 Q o r e q
  unfold gTp at e
  split at e
  · rename_i ds
    split at e
    · rename_i hl
      cases r with
      | tup hs ra => exact ⟨_, _, rfl, sqt_mono o.sub hs, by rw [dps_len ra]; exact hl, h _ _ _ _ _ _ _ _ o ra e q⟩
    · cases e
  · cases e
end
/-! ### comprehensions with two clauses -/
def lcF2 (js : List Nat) (tg : Fg) (tt : Ft) (src1 : Fa) (js1 : List Nat) (tg1 : Fg) (tt1 : Ft) (elt : Fe) : List D → En → List D → Option (List D × En)
  | [], γ, acc => some (acc, γ)
  | d :: ds, γ, acc => match tg d γ with
    | some γ0 => match tt γ0 with
      | some (true, γ1) => match src1 γ1 with
        | some (es, γ2) => if noOwns γ2 js1 then match lcF js1 tg1 tt1 elt es (wipeE γ2 js1) acc with
          | some (acc', γ3) => if noOwns γ3 js then lcF2 js tg tt src1 js1 tg1 tt1 elt ds (wipeE γ3 js) acc' else none
          | none => none
          else none
        | none => none
      | some (false, γ1) => if noOwns γ1 js then lcF2 js tg tt src1 js1 tg1 tt1 elt ds (wipeE γ1 js) acc else none
      | none => none
    | none => none
@[simp] def lLc2 (js : List Nat) (tg : Fg) (src : Fa) (tt : Ft) (src1 : Fa) (js1 : List Nat) (tg1 : Fg) (tt1 : Ft) (elt : Fe) : Fa := fun γ => match src γ with
  | some (ds, γ1) => if noOwns γ1 js then match lcF2 js tg tt src1 js1 tg1 tt1 elt ds (wipeE γ1 js) [] with
    | some (out, γ2) => some (out, putBack γ1 γ2 js)
    | none => none
    else none
  | none => none
section
variable {K : PySem.W.Frag}
theorem lc2_imp {js js1 : List Nat} {g g1 : TG} {tg tg1 : Fg} {src src1 : Fa} {tt tt1 : Ft} {elt : Fe} {σ : L2.St} {H : Hp} {Q : VK} (hjs : ∀ j ∈ js1, j ∈ js) (hg : TgOk K g tg js) (hg1 : TgOk K g1 tg1 js1)
    (h : tL K (lLc2 js tg src tt src1 js1 tg1 tt1 elt) σ H Q) : tLc2 (tIt K src) g (tT K tt) (tIt K src1) g1 (tT K tt1) (tI K elt) js js1 σ H Q := by
  obtain ⟨γ, Hk, out, γr, k, e, q⟩ := h
  unfold lLc2 at e
  split at e
  · rename_i ds γ1 es
    split at e
    · rename_i no
      split at e <;> cases e
      rename_i γ2 el
      refine ⟨γ, Hk, ds, γ1, k, es, fun J H1 Hk1 g1' wk L hL => ?_⟩
      have gd := dropAll g1'.ok js no
      have hk1L : Hk1 L = none := g1'.ok.sub.free hL
      let W : Nat → Nat → Hp → Prop := fun i m H' => m = ds.length - i ∧ i ≤ ds.length ∧ ∃ γ' Hk' acc av H0, H' = upd H0 L (.lst av) ∧ H0 L = none ∧ Go K (wipe σ js) H1 Hk1 (wipeE γ1 js) (wipe σ js) H0 Hk' γ' ∧ (∀ j ∈ js, gt γ' j = none) ∧ Hk' L = none ∧ Same Hk1 Hk' ∧ DpAll K Hk' av acc ∧ lcF2 js tg tt src1 js1 tg1 tt1 elt (ds.drop i) γ' acc = some (out, γ2)
      refine ⟨W, ⟨ds.length, by simp, Nat.zero_le _, wipeE γ1 js, Hk1, [], [], H1, rfl, hL, Go.refl gd.ok, fun j hj => gt_wipe_in _ hj, hk1L, Same.refl _, .nil, by simpa using el⟩, ?_⟩
      rintro i m H' ⟨rfl, hi, γ', Hk', acc, av, H0, rfl, h0L, gg, gj, hkL, sk, ra, ef⟩
      obtain ⟨w1, w2⟩ := wk (upd H0 L (.lst av)) Hk' sk (gg.ok.sub.trans (same_upd h0L))
      by_cases hlt : i < ds.length
      · obtain ⟨go, yl⟩ := w1 i hlt
        rw [List.drop_eq_getElem_cons hlt] at ef
        unfold lcF2 at ef
        refine .inr ⟨go, W (i + 1) (ds.length - (i + 1)), fun H3 w => ⟨_, by omega, w⟩, fun x H'' y => ?_⟩
        obtain ⟨Hc, gr, rv⟩ := yl x H'' y
        have ok0 : Ok K (wipe σ js) (upd H0 L (.lst av)) Hk' γ' := gg.ok.grow (Grow.newH gg.ok.sub h0L)
        have gy := ok0.go gr
        split at ef
        · rename_i γ0 etg
          refine hg x ds[i] _ _ Hc γ' γ0 _ gy.ok rv etg fun σ2 gt2 hw => ?_
          rw [wipe_wipe] at hw
          have ga := gy.trans gt2
          refine ⟨hw, ?_⟩
          split at ef
          · rename_i γ3 et
            refine ⟨γ0, Hc, true, γ3, gt2.ok, et, fun H3 Hk3 g3 => iteT ?_⟩
            split at ef
            · rename_i es1 γ4 esrc
              refine ⟨γ3, Hk3, es1, γ4, g3.ok, esrc, fun J1 H4 Hk4 g4 wk1 => ?_⟩
              split at ef
              · rename_i no1
                split at ef
                · rename_i acc' γ6 el1
                  split at ef
                  · rename_i no6
                    obtain ⟨H04, rfl, h04, hk4, g5⟩ := aside gg.ok h0L hkL ((ga.trans g3).trans g4)
                    have gd1 := dropAll g5.ok js1 no1
                    have gB := gg.trans (g5.trans gd1)
                    let W1 : Nat → Nat → Hp → Prop := fun j k H' => k = es1.length - j ∧ j ≤ es1.length ∧ ∃ γ5 Hk5 acc5 av5 H05, H' = upd H05 L (.lst av5) ∧ H05 L = none ∧ Go K (wipe σ js) H1 Hk1 (wipeE γ1 js) (wipe σ2 js1) H05 Hk5 γ5 ∧ (∀ j ∈ js1, gt γ5 j = none) ∧ Hk5 L = none ∧ Same Hk4 Hk5 ∧ DpAll K Hk5 av5 acc5 ∧ lcF js1 tg1 tt1 elt (es1.drop j) γ5 acc5 = some (acc', γ6)
                    have kk4 : Same Hk1 Hk4 := sk.trans g5.kk
                    refine ⟨W1, ⟨es1.length, by simp, Nat.zero_le _, wipeE γ4 js1, Hk4, acc, av, H04, rfl, h04, gB, fun j hj => gt_wipe_in _ hj, hk4, Same.refl _, dps_mono g5.kk ra, by simpa using el1⟩, ?_⟩
                    rintro j k H' ⟨rfl, hj, γ5, Hk5, acc5, av5, H05, rfl, h05L, gg5, gj5, hk5L, sk5, ra5, ef5⟩
                    obtain ⟨v1, v2⟩ := wk1 (upd H05 L (.lst av5)) Hk5 sk5 (gg5.ok.sub.trans (same_upd h05L))
                    by_cases hlt1 : j < es1.length
                    · obtain ⟨go1, yl1⟩ := v1 j hlt1
                      rw [List.drop_eq_getElem_cons hlt1] at ef5
                      unfold lcF at ef5
                      refine .inr ⟨go1, W1 (j + 1) (es1.length - (j + 1)), fun H6 w => ⟨_, by omega, w⟩, fun x1 H6 y1 => ?_⟩
                      obtain ⟨Hc1, gr1, rv1⟩ := yl1 x1 H6 y1
                      have ok5 : Ok K (wipe σ2 js1) (upd H05 L (.lst av5)) Hk5 γ5 := gg5.ok.grow (Grow.newH gg5.ok.sub h05L)
                      have gy1 := ok5.go gr1
                      split at ef5
                      · rename_i γ7 etg1
                        refine hg1 x1 es1[j] _ _ Hc1 γ5 γ7 _ gy1.ok rv1 etg1 fun σ3 gt3 hw1 => ?_
                        rw [wipe_wipe] at hw1
                        have ga1 := gy1.trans gt3
                        have back : ∀ {H8 Hk8 : Hp} {γ8 : En}, Go K (wipe σ2 js1) H05 Hk5 γ5 σ3 H8 Hk8 γ8 → noOwns γ8 js1 = true → Go K (wipe σ js) H1 Hk1 (wipeE γ1 js) (wipe σ2 js1) H8 Hk8 (wipeE γ8 js1) := fun {H8 Hk8 γ8} g8 n8 => by
                          have := (gg5.trans g8).trans (dropAll g8.ok js1 n8)
                          rw [hw1] at this
                          exact this
                        refine ⟨hw1, ?_⟩
                        split at ef5
                        · rename_i γ8 et1
                          refine ⟨γ7, Hc1, true, γ8, gt3.ok, et1, fun H8 Hk8 g8 => iteT ?_⟩
                          split at ef5
                          · rename_i y γ9 ee
                            split at ef5
                            · rename_i c
                              rw [Bool.and_eq_true] at c
                              refine ⟨γ8, Hk8, y, γ9, g8.ok, ee, fun u H9 Hk9 g9 r9 => ?_⟩
                              obtain ⟨H09, rfl, h09, hk9, g10⟩ := aside gg5.ok h05L hk5L ((ga1.trans g8).trans g9)
                              have hla : av5.length = acc5.length := dps_len ra5
                              have kk9 : Same Hk5 Hk9 := g10.kk
                              refine ⟨av5, upd_same, by rw [hla]; exact okN_lt c.1, rfl, hlt1, _, Hk9, acc5 ++ [y], av5 ++ [u], H09, upd_upd, h09, back g10 c.2, fun j hj => gt_wipe_in _ hj, hk9, sk5.trans kk9, ?_, ef5⟩
                              exact dps_app (dps_mono kk9 ra5) (.cons r9 .nil)
                            · cases ef5
                          · cases ef5
                        · rename_i γ8 et1
                          refine ⟨γ7, Hc1, false, γ8, gt3.ok, et1, fun H8 Hk8 g8 => iteF ?_⟩
                          split at ef5
                          · rename_i c
                            obtain ⟨H03, rfl, h03, hk3, g10⟩ := aside gg5.ok h05L hk5L (ga1.trans g8)
                            exact ⟨rfl, hlt1, _, Hk8, acc5, av5, H03, rfl, h03, back g10 c, fun j hj => gt_wipe_in _ hj, hk3, sk5.trans g10.kk, dps_mono g10.kk ra5, ef5⟩
                          · cases ef5
                        · cases ef5
                      · cases ef5
                    · have e0 : j = es1.length := by omega
                      subst e0
                      rw [List.drop_length] at ef5
                      cases ef5
                      refine .inl ⟨v2 _ (Nat.le_refl _), rfl, hlt, wipeE γ6 js, Hk5, acc', av5, H05, rfl, h05L, ?_, fun j hj => gt_wipe_in _ hj, hk5L, kk4.trans sk5, ra5, ef⟩
                      have := gg5.trans (dropAll gg5.ok js no6)
                      rw [wipe_sub hjs, hw] at this
                      exact this
                  · cases ef
                · cases ef
              · cases ef
            · cases ef
          · rename_i γ3 et
            refine ⟨γ0, Hc, false, γ3, gt2.ok, et, fun H3 Hk3 g3 => iteF ?_⟩
            split at ef
            · rename_i c
              obtain ⟨H03, rfl, h03, hk3, g5⟩ := aside gg.ok h0L hkL (ga.trans g3)
              have := (gg.trans g5).trans (dropAll g5.ok js c)
              rw [hw] at this
              exact ⟨rfl, hlt, _, Hk3, acc, av, H03, rfl, h03, this, fun j hj => gt_wipe_in _ hj, hk3, sk.trans g5.kk, dps_mono g5.kk ra, ef⟩
            · cases ef
          · cases ef
        · cases ef
      · have e0 : i = ds.length := by omega
        subst e0
        rw [List.drop_length] at ef
        cases ef
        exact .inl ⟨w2 _ (Nat.le_refl _), q L av H0 Hk' (g1'.trans (restoreAll g1'.ok js _ no gg gj)) h0L ra⟩
    · cases e
  · cases e
end
end DN
namespace DN
open PySem PySem.Spec PyProof.Rows L2
/-! ### comprehensions with two clauses, as rules -/
section
variable {W : WX} {X : Cx} {elt it tge it1 tge1 : Expr} {ifs ifs1 : List Expr} {scope : Scope} {own : List (Str × Nat)} {src src1 : Fa} {g g1 : TG} {tg tg1 : Fg} {tt tt1 : Ft} {ef : Fe} {pos : Pos} {js js1 : List Nat} {y : Str}
theorem el_lc2 (hj : own.map (·.2) = js) (hjs : ∀ j ∈ js1, j ∈ js) (htg : TgOk X.K g tg js) (htg1 : TgOk X.K g1 tg1 js1) (hc : X.calm = true) (hN : X.N.Nodup) (hi : EI X tge it src) (ok : BlkOk X.N X.env.scope scope own)
    (hg : ∀ (s : Shared) (H : Hp) (C : Addr) (cl : List (Str × Addr)) (fp : List Addr), PG (X.blk s H scope (compEnvC scope cl C X.env) fp) tge g)
    (ht : ∀ (s : Shared) (H : Hp) (C : Addr) (cl : List (Str × Addr)) (fp : List Addr), PTs (X.blk s H scope (compEnvC scope cl C X.env) fp) ifs (tT X.K tt))
    (hi1 : ∀ (s : Shared) (H : Hp) (C : Addr) (cl : List (Str × Addr)) (fp : List Addr), EI (X.blk s H scope (compEnvC scope cl C X.env) fp) tge1 it1 src1)
    (hg1 : ∀ (s : Shared) (H : Hp) (C : Addr) (cl : List (Str × Addr)) (fp : List Addr), PG (X.blk s H scope (compEnvC scope cl C X.env) fp) tge1 g1)
    (ht1 : ∀ (s : Shared) (H : Hp) (C : Addr) (cl : List (Str × Addr)) (fp : List Addr), PTs (X.blk s H scope (compEnvC scope cl C X.env) fp) ifs1 (tT X.K tt1))
    (he : ∀ (s : Shared) (H : Hp) (C : Addr) (cl : List (Str × Addr)) (fp : List Addr), EV (X.blk s H scope (compEnvC scope cl C X.env) fp) elt ef) (hs : ∀ x, foldedSetIterable it X.env x = pure x := by intro _; rfl) (hs1 : ∀ env x, foldedSetIterable it1 env x = pure x := by intro _ _; rfl) :
    EL X (.ListComp elt [⟨tge, it, ifs, 0⟩, ⟨tge1, it1, ifs1, 0⟩] scope pos) (lLc2 js tg src tt src1 js1 tg1 tt1 ef) := by
  subst hj
  exact PE.imp (pe_lc2 (te := tI X.K ef) (wi1 := tIt X.K src1) (tt1 := tT X.K tt1) hc hN hi ok hjs hg ht hi1 hg1 ht1 he hs hs1) fun _ _ _ h => lc2_imp hjs htg htg1 h
theorem es_lc2Own (i : Nat) {py spos : Pos} (hj : own.map (·.2) = js) (hjs : ∀ j ∈ js1, j ∈ js) (htg : TgOk X.K g tg js) (htg1 : TgOk X.K g1 tg1 js1) (hc : X.calm = true) (hN : X.N.Nodup) (hy : X.N[i]? = some y) (hyl : X.env.scope.names.lookup y = some .local)
    (hsw : swapsWith (.ListComp elt [⟨tge, it, ifs, 0⟩, ⟨tge1, it1, ifs1, 0⟩] scope pos) (some (.Name y py)) spos.line X.env = pure true) (hi : EI X tge it src) (ok : BlkOk X.N X.env.scope scope own)
    (hg : ∀ (s : Shared) (H : Hp) (C : Addr) (cl : List (Str × Addr)) (fp : List Addr), PG (X.blk s H scope (compEnvC scope cl C X.env) fp) tge g)
    (ht : ∀ (s : Shared) (H : Hp) (C : Addr) (cl : List (Str × Addr)) (fp : List Addr), PTs (X.blk s H scope (compEnvC scope cl C X.env) fp) ifs (tT X.K tt))
    (hi1 : ∀ (s : Shared) (H : Hp) (C : Addr) (cl : List (Str × Addr)) (fp : List Addr), EI (X.blk s H scope (compEnvC scope cl C X.env) fp) tge1 it1 src1)
    (hg1 : ∀ (s : Shared) (H : Hp) (C : Addr) (cl : List (Str × Addr)) (fp : List Addr), PG (X.blk s H scope (compEnvC scope cl C X.env) fp) tge1 g1)
    (ht1 : ∀ (s : Shared) (H : Hp) (C : Addr) (cl : List (Str × Addr)) (fp : List Addr), PTs (X.blk s H scope (compEnvC scope cl C X.env) fp) ifs1 (tT X.K tt1))
    (he : ∀ (s : Shared) (H : Hp) (C : Addr) (cl : List (Str × Addr)) (fp : List Addr), EV (X.blk s H scope (compEnvC scope cl C X.env) fp) elt ef) (hs : ∀ x, foldedSetIterable it X.env x = pure x := by intro _; rfl) (hs1 : ∀ env x, foldedSetIterable it1 env x = pure x := by intro _ _; rfl) :
    ES X W (.Assign [.Name y py] (.ListComp elt [⟨tge, it, ifs, 0⟩, ⟨tge1, it1, ifs1, 0⟩] scope pos) spos) (sOwn i (lLc2 js tg src tt src1 js1 tg1 tt1 ef)) := by
  subst hj
  refine PS.imp (ps_setLc2 (te := tI X.K ef) (wi1 := tIt X.K src1) (tt1 := tT X.K tt1) hc hN hy hyl hsw hi ok hjs hg ht hi1 hg1 ht1 he hs hs1) fun Z σ H h => ?_
  exact lc2_imp hjs htg htg1 (own_imp h)
theorem es_lc2Dat (i : Nat) {py spos : Pos} (hj : own.map (·.2) = js) (hjs : ∀ j ∈ js1, j ∈ js) (htg : TgOk X.K g tg js) (htg1 : TgOk X.K g1 tg1 js1) (hc : X.calm = true) (hN : X.N.Nodup) (hy : X.N[i]? = some y) (hyl : X.env.scope.names.lookup y = some .local)
    (hsw : swapsWith (.ListComp elt [⟨tge, it, ifs, 0⟩, ⟨tge1, it1, ifs1, 0⟩] scope pos) (some (.Name y py)) spos.line X.env = pure true) (hi : EI X tge it src) (ok : BlkOk X.N X.env.scope scope own)
    (hg : ∀ (s : Shared) (H : Hp) (C : Addr) (cl : List (Str × Addr)) (fp : List Addr), PG (X.blk s H scope (compEnvC scope cl C X.env) fp) tge g)
    (ht : ∀ (s : Shared) (H : Hp) (C : Addr) (cl : List (Str × Addr)) (fp : List Addr), PTs (X.blk s H scope (compEnvC scope cl C X.env) fp) ifs (tT X.K tt))
    (hi1 : ∀ (s : Shared) (H : Hp) (C : Addr) (cl : List (Str × Addr)) (fp : List Addr), EI (X.blk s H scope (compEnvC scope cl C X.env) fp) tge1 it1 src1)
    (hg1 : ∀ (s : Shared) (H : Hp) (C : Addr) (cl : List (Str × Addr)) (fp : List Addr), PG (X.blk s H scope (compEnvC scope cl C X.env) fp) tge1 g1)
    (ht1 : ∀ (s : Shared) (H : Hp) (C : Addr) (cl : List (Str × Addr)) (fp : List Addr), PTs (X.blk s H scope (compEnvC scope cl C X.env) fp) ifs1 (tT X.K tt1))
    (he : ∀ (s : Shared) (H : Hp) (C : Addr) (cl : List (Str × Addr)) (fp : List Addr), EV (X.blk s H scope (compEnvC scope cl C X.env) fp) elt ef) (hs : ∀ x, foldedSetIterable it X.env x = pure x := by intro _; rfl) (hs1 : ∀ env x, foldedSetIterable it1 env x = pure x := by intro _ _; rfl) :
    ES X W (.Assign [.Name y py] (.ListComp elt [⟨tge, it, ifs, 0⟩, ⟨tge1, it1, ifs1, 0⟩] scope pos) spos) (sAsg (fL (lLc2 js tg src tt src1 js1 tg1 tt1 ef)) (gDat i)) := by
  subst hj
  refine PS.imp (ps_setLc2 (te := tI X.K ef) (wi1 := tIt X.K src1) (tt1 := tT X.K tt1) hc hN hy hyl hsw hi ok hjs hg ht hi1 hg1 ht1 he hs hs1) fun Z σ H h => ?_
  obtain ⟨γ, Hk, o, k, e, q⟩ := h
  unfold sAsg fL at e
  refine lc2_imp (K := X.K) (tg := tg) (src := src) (tt := tt) (src1 := src1) (tg1 := tg1) (tt1 := tt1) (elt := ef) (Q := fun x H1 => gName i x σ H1 Z.nx) hjs htg htg1 ?_
  cases el : lLc2 (own.map (·.2)) tg src tt src1 js1 tg1 tt1 ef γ with
  | none => rw [el] at e; cases e
  | some r =>
    obtain ⟨ds, γ1⟩ := r
    rw [el] at e
    simp only at e
    cases eg : gDat i (.list ds) γ1 with
    | none => rw [eg] at e; cases e
    | some γ2 =>
      rw [eg] at e; cases e
      refine ⟨γ, Hk, ds, γ1, k, el, fun p vs H2 Hk2 g hp r => ?_⟩
      have g2 : Grow H2 Hk2 (upd H2 p (.lst vs)) (upd Hk2 p (.lst vs)) := Grow.new g.ok.sub hp
      have g3 := g.trans (g.ok.go g2)
      exact gDat_imp ⟨γ1, _, .list ds, γ2, g3.ok, .lst (SqL.of upd_same) (dps_mono g2.kk r), eg, fun σ2 g4 => q σ2 _ _ (g3.trans g4)⟩
end
/-! ### in: texts in texts, data in lists -/
def flatD : D → Bool
  | .none => true
  | .bool _ => true
  | .int _ => true
  | .str _ => true
  | _ => false
def eqF : D → D → Bool
  | .none, .none => true
  | .bool a, .bool b => a == b
  | .int i, .int j => i == j
  | .str a, .str b => a == b
  | .bool a, .int j => (if a then 1 else 0) == j
  | .int i, .bool b => i == (if b then 1 else 0)
  | _, _ => false
def inD : D → D → Option D
  | .str a, .str b => some (.bool (inS a b))
  | x, .list ds => if SeqAt.shaped x && SeqAt.shaped (.list ds) then some (.bool (ds.any fun z => PyData.eqv z x)) else none
  | x, .tuple ds => if SeqAt.shaped x && SeqAt.shaped (.list ds) then some (.bool (ds.any fun z => PyData.eqv z x)) else none
  | _, _ => none
def notInD : D → D → Option D
  | .str a, .str b => some (.bool (!inS a b))
  | x, .list ds => if SeqAt.shaped x && SeqAt.shaped (.list ds) then some (.bool (!ds.any fun z => PyData.eqv z x)) else none
  | x, .tuple ds => if SeqAt.shaped x && SeqAt.shaped (.list ds) then some (.bool (!ds.any fun z => PyData.eqv z x)) else none
  | _, _ => none
section
variable {X : Cx}
/-- x in a list or a tuple of data -/
def rInN (K : PySem.W.Frag) (f : Bool → Bool) : R2 := fun x y H Q => ∃ d c ds, Dp K H x d ∧ Dp K H y c ∧ (c = .list ds ∨ c = .tuple ds) ∧ SeqAt.shaped d = true ∧ SeqAt.shaped (.list ds) = true ∧ Q (.bl (f (ds.any fun z => PyData.eqv z d))) H
theorem op_inN (hu : X.A.units + 65 < cLine) : OpR X (compareOp .In) (rInN X.K id) := by
  intro pins s σ H x y v u Q I rx ry h
  obtain ⟨d, c, ds, hd, he, hc, sd, se, q⟩ := h
  obtain ⟨as, r1⟩ := Dp.reads I hd rx
  obtain ⟨bs, r2⟩ := Dp.reads I he ry
  rcases hc with rfl | rfl
  · exact SeqAt.in_list_reads r2 r1 (SeqAt.canLay_of_shaped se) (SeqAt.canLay_of_shaped sd) (room_in_shaped sd hu) ⟨.bl _, H, I, rfl, q⟩
  · exact SeqAt.in_tuple_reads r2 r1 (SeqAt.canLay_of_shaped se) (SeqAt.canLay_of_shaped sd) (room_in_shaped sd hu) ⟨.bl _, H, I, rfl, q⟩
theorem op_notInN (hu : X.A.units + 65 < cLine) : OpR X (compareOp .NotIn) (rInN X.K not) := by
  intro pins s σ H x y v u Q I rx ry h
  obtain ⟨d, c, ds, hd, he, hc, sd, se, q⟩ := h
  obtain ⟨as, r1⟩ := Dp.reads I hd rx
  obtain ⟨bs, r2⟩ := Dp.reads I he ry
  rcases hc with rfl | rfl
  · exact SeqAt.notIn_list_reads r2 r1 (SeqAt.canLay_of_shaped se) (SeqAt.canLay_of_shaped sd) (room_in_shaped sd hu) ⟨.bl _, H, I, rfl, q⟩
  · exact SeqAt.notIn_tuple_reads r2 r1 (SeqAt.canLay_of_shaped se) (SeqAt.canLay_of_shaped sd) (room_in_shaped sd hu) ⟨.bl _, H, I, rfl, q⟩
end
section
variable {K : PySem.W.Frag}
theorem o_in : Op2 K (fun x y H Q => (∃ i j, x = .str i ∧ y = .str j ∧ Q (.bl (!(Builtin.Str.occurrences j i 0 j.length 1).isEmpty)) H) ∨ rInN K id x y H Q) inD := by
  intro H Hk x y dx dy dz Q s vx vy e q
  unfold inD at e
  split at e
  · cases e
    exact .inl ⟨_, _, vx.str, vy.str, q _ H Hk (Grow.refl s) (.bl _)⟩
  · split at e <;> cases e
    rename_i c
    rw [Bool.and_eq_true] at c
    exact .inr ⟨_, _, _, vx.dp s, vy.dp s, .inl rfl, c.1, c.2, q _ H Hk (Grow.refl s) (.bl _)⟩
  · split at e <;> cases e
    rename_i c
    rw [Bool.and_eq_true] at c
    exact .inr ⟨_, _, _, vx.dp s, vy.dp s, .inr rfl, c.1, c.2, q _ H Hk (Grow.refl s) (.bl _)⟩
  · cases e
theorem o_notIn : Op2 K (fun x y H Q => (∃ i j, x = .str i ∧ y = .str j ∧ Q (.bl (!(!(Builtin.Str.occurrences j i 0 j.length 1).isEmpty))) H) ∨ rInN K not x y H Q) notInD := by
  intro H Hk x y dx dy dz Q s vx vy e q
  unfold notInD at e
  split at e
  · cases e
    exact .inl ⟨_, _, vx.str, vy.str, q _ H Hk (Grow.refl s) (.bl _)⟩
  · split at e <;> cases e
    rename_i c
    rw [Bool.and_eq_true] at c
    exact .inr ⟨_, _, _, vx.dp s, vy.dp s, .inl rfl, c.1, c.2, q _ H Hk (Grow.refl s) (.bl _)⟩
  · split at e <;> cases e
    rename_i c
    rw [Bool.and_eq_true] at c
    exact .inr ⟨_, _, _, vx.dp s, vy.dp s, .inr rfl, c.1, c.2, q _ H Hk (Grow.refl s) (.bl _)⟩
  · cases e
theorem x_in {X : Cx} (hr : X.A.units + 65 < cLine) : OpR X (compareOp .In) (fun x y H Q => (∃ i j, x = .str i ∧ y = .str j ∧ Q (.bl (!(Builtin.Str.occurrences j i 0 j.length 1).isEmpty)) H) ∨ rInN X.K id x y H Q) := op_in_str.or (op_inN hr)
theorem x_notIn {X : Cx} (hr : X.A.units + 65 < cLine) : OpR X (compareOp .NotIn) (fun x y H Q => (∃ i j, x = .str i ∧ y = .str j ∧ Q (.bl (!(!(Builtin.Str.occurrences j i 0 j.length 1).isEmpty))) H) ∨ rInN X.K not x y H Q) := op_notIn_str.or (op_notInN hr)
/-! ### all, any, sum -/
def boolsD : List D → Option (List Bool)
  | [] => some []
  | .bool i :: r => (boolsD r).map (i :: ·)
  | _ => none
theorem boolsD_dps {H : Hp} : ∀ {vs : List V} {ds : List D} {ns : List Bool}, DpAll K H vs ds → boolsD ds = some ns → vs = ns.map V.bl
  | _, _, ys, .nil, e => by cases e; rfl
  | _, _, ys, .cons h t, e => by
    unfold boolsD at e
    split at e
    · rename_i e2; cases e2
    · rename_i e2; cases e2
      obtain ⟨zs, e3, e4⟩ := Option.map_eq_some_iff.mp e
      subst e4
      cases h
      rw [boolsD_dps t e3]; rfl
    · cases e
theorem boolsD_map : ∀ ns : List Bool, boolsD (ns.map .bool) = some ns
  | [] => rfl
  | n :: r => by
    show (boolsD (r.map .bool)).map (n :: ·) = _
    rw [boolsD_map r]; rfl
@[simp] def allD : D → Option D
  | .list ds => match boolsD ds with
    | some bs => some (.bool (bs.all id))
    | none => none
  | _ => none
@[simp] def anyD : D → Option D
  | .list ds => match boolsD ds with
    | some bs => some (.bool (bs.any id))
    | none => none
  | _ => none
@[simp] def sumD : D → Option D
  | .list ds => match intsD ds with
    | some ns => some (.int ns.sum)
    | none => none
  | _ => none
theorem o_all : Op1 K (fun x => rAll K [x]) allD := by
  intro H Hk x dx dz Q s vx e q
  unfold allD at e
  split at e
  · split at e <;> cases e
    rename_i en
    obtain ⟨p, vs, rfl, sp, ap⟩ := vx.lst s
    cases boolsD_dps ap en
    exact ⟨p, _, rfl, sp, q _ H Hk (Grow.refl s) (.bl _)⟩
  · cases e
theorem o_any : Op1 K (fun x => rAny K [x]) anyD := by
  intro H Hk x dx dz Q s vx e q
  unfold anyD at e
  split at e
  · split at e <;> cases e
    rename_i en
    obtain ⟨p, vs, rfl, sp, ap⟩ := vx.lst s
    cases boolsD_dps ap en
    exact ⟨p, _, rfl, sp, q _ H Hk (Grow.refl s) (.bl _)⟩
  · cases e
theorem o_sum : Op1 K (fun x => rSum K [x]) sumD := by
  intro H Hk x dx dz Q s vx e q
  unfold sumD at e
  split at e
  · split at e <;> cases e
    rename_i en
    obtain ⟨p, vs, rfl, sp, ap⟩ := vx.lst s
    cases intsD_dps ap en
    exact ⟨p, _, rfl, sp, q _ H Hk (Grow.refl s) (.int _)⟩
  · cases e
end
/-! ### [e] * n -/
@[simp] def lRep (fl : Fa) (g : Fe) : Fa := fun γ => match fl γ with
  | some (ds, γ1) => match g γ1 with
    | some (.int k, γ2) => if decide (ds.length * k.toNat ≤ 1000000) && small62 k then some ((List.replicate k.toNat ds).flatten, γ2) else none
    | _ => none
  | none => none
theorem dps_rep {K : PySem.W.Frag} {H : Hp} {vs : List V} {ds : List D} (h : DpAll K H vs ds) : ∀ n, DpAll K H (List.replicate n vs).flatten (List.replicate n ds).flatten
  | 0 => .nil
  | n + 1 => by
    simp only [List.replicate_succ, List.flatten_cons]
    exact dps_app h (dps_rep h n)
section
variable {W : WX} {X : Cx} {a b e : Expr} {f g : Fe} {fl : Fa} {pos : Pos} {s : Stmt}
theorem el_rep (ha : EL X a fl) (hb : EV X b g) : EL X (.BinOp a .Mult b pos) (lRep fl g) := PE.imp (pe_op op_rep ha hb) fun σ H Q ⟨γ, Hk, ds, γ2, o, ee, q⟩ => by
  unfold lRep at ee
  split at ee
  · rename_i ds0 γ1 ef
    split at ee
    · rename_i k γ2' eg
      split at ee <;> cases ee
      rename_i c
      rw [Bool.and_eq_true] at c
      obtain ⟨c2, c3⟩ := small_of c.2
      refine ⟨γ, Hk, ds0, γ1, o, ef, fun p vs H2 Hk2 g1 hp r => ?_⟩
      have gr : Grow H2 Hk2 (upd H2 p (.lst vs)) Hk2 := Grow.newH g1.ok.sub hp
      have g2 := g1.ok.go gr
      have nown : ¬ OwnA X.K σ (upd H2 p (.lst vs)) Hk2 γ1 p := fun z => (OwnA.grown g1.ok gr z).noN hp
      refine ⟨γ1, Hk2, _, _, g2.ok, eg, fun v H3 Hk3 g3 r3 => ?_⟩
      cases r3
      have hp3 := g3.kp p _ upd_same nown
      refine ⟨p, k, vs, rfl, rfl, hp3, by omega, by omega, ?_, fun p2 hp2 => q p2 _ H3 Hk3 ((g1.trans g2).trans g3) hp2 (dps_rep (dps_mono g3.kk r) _)⟩
      rw [dps_len r]
      exact Nat.le_trans (of_decide_eq_true c.1) (by decide)
    · cases ee
  · cases ee
/-! ### raise: what is not asked here -/
@[simp] def sNone : Fs := fun _ => none
theorem es_raise : ES X W s sNone := ⟨fun pins s σ H D I ⟨γ, Hk, o, k, e, q⟩ => by cases e⟩
/-! ### a = b = e -/
@[simp] def sAsg2 (f : Fe) (i j : Nat) : Fs := fun γ => match f γ with
  | some (d, γ1) => if pinB γ1 i || pinB γ1 j then none else some (.nx ((γ1.set i (some (.dat d))).set j (some (.dat d))))
  | none => none
theorem pin_set {γ : En} {i : Nat} {d : D} : ∀ {j : Nat}, pinB γ j = false → pinB (γ.set i (some (.dat d))) j = false
  | j + 1, _ => rfl
  | 0, h => by
    unfold pinB at h ⊢
    simp only at h ⊢
    rw [gt_set]
    by_cases c : i = 0 ∧ i < γ.length
    · rw [if_pos c]
    · rw [if_neg c]; exact h
theorem es_asg2 {t1 t2 : Expr} (i j : Nat) (he : EV X e f) (h1 : PG X t1 (gName i)) (h2 : PG X t2 (gName j)) (ha : (assignEach [t1, t2] X.env).map (·.2) = [assign t1 X.env, assign t2 X.env] := by rfl) (hw : swappedStores [t1, t2] e X.env = pure none := by rfl) :
    ES X W (.Assign [t1, t2] e pos) (sAsg2 f i j) := PS.imp (ps_asg2 he h1 h2 ha hw) fun Z σ H ⟨γ, Hk, o, k, ee, q⟩ => by
  unfold sAsg2 at ee
  split at ee
  · rename_i d γ1 ef
    split at ee <;> cases ee
    rename_i c
    simp only [Bool.or_eq_true, not_or, Bool.not_eq_true] at c
    refine ⟨γ, Hk, d, γ1, k, ef, fun v H1 Hk1 g1 r1 => ?_⟩
    have g2 := g1.ok.setDat r1 (noPin_of g1.ok c.1)
    have g3 := g2.ok.setDat r1 (noPin_of g2.ok (pin_set c.2))
    exact q _ _ _ ((g1.trans g2).trans g3)
  · cases ee
/-! ### own lists lent to a def that tells a number, a truth, a text, or nothing -/
def atomD : D → Bool
  | .none => true
  | .bool _ => true
  | .int _ => true
  | .str _ => true
  | _ => false
inductive VwAll (K : PySem.W.Frag) (H Hk : Hp) : List V → List D → Prop where
  | nil : VwAll K H Hk [] []
  | cons {v : V} {d : D} {vs : List V} {ds : List D} : Vw K H Hk v d → VwAll K H Hk vs ds → VwAll K H Hk (v :: vs) (d :: ds)
theorem VwAll.dps {K : PySem.W.Frag} {H Hk : Hp} (s : Same Hk H) : ∀ {vs : List V} {ds : List D}, VwAll K H Hk vs ds → DpAll K H vs ds
  | _, _, .nil => .nil
  | _, _, .cons h t => .cons (h.dp s) (VwAll.dps s t)
def tAL (K : PySem.W.Frag) (fa : Fa) : TA := fun σ H Q => ∃ γ Hk ds γ2, Ok K σ H Hk γ ∧ fa γ = some (ds, γ2) ∧ ∀ vs H2 Hk2, Go K σ H Hk γ σ H2 Hk2 γ2 → VwAll K H2 Hk2 vs ds → Q vs H2
def EAL (X : Cx) (es : List Expr) (fa : Fa) : Prop := PA X es (tAL X.K fa)
theorem eal_nil : EAL X [] aNil := PA.imp pa_nil fun σ H Q ⟨γ, Hk, ds, γ2, o, e, q⟩ => by
  cases e
  exact q [] H Hk (Go.refl o) .nil
@[simp] def aLend (i : Nat) (fa : Fa) : Fa := fun γ => match view γ i with
  | some _ => match fa γ with
    | some (ds, γ1) => match view γ1 i with
      | some d => some (d :: ds, γ1)
      | none => none
    | none => none
  | none => none
variable {es : List Expr} {fa : Fa}
theorem eal_lend {i : Nat} (h : PE X e (tVar i)) (hr : EAL X es fa) (hs : starEach (e :: es) X.env = (false, eval e X.env) :: starEach es X.env := by rfl) : EAL X (e :: es) (aLend i fa) := PA.imp (pa_cons h hr hs) fun σ H Q ⟨γ, Hk, ds, γ2, o, ee, q⟩ => by
  unfold aLend at ee
  split at ee
  · rename_i d0 e0
    split at ee
    · rename_i ds' γ1 efa
      split at ee <;> cases ee
      rename_i d e1
      obtain ⟨v, ev, _⟩ := o.view e0
      refine ⟨v, ev, γ, Hk, ds', _, o, efa, fun vs H2 Hk2 g2 r2 => ?_⟩
      obtain ⟨v', ev', w⟩ := g2.ok.view e1
      rw [ev] at ev'; cases ev'
      exact q _ H2 Hk2 g2 (.cons w r2)
    · cases ee
  · cases ee
theorem vw_later {K : PySem.W.Frag} {Hk H2 Hk2 : Hp} {v : V} {d : D} (h : Dp K Hk v d) (k : Same Hk Hk2) : Vw K H2 Hk2 v d := .inl (dp_mono k h)
theorem eal_cons (h : EV X e f) (hr : EAL X es fa) (hs : starEach (e :: es) X.env = (false, eval e X.env) :: starEach es X.env := by rfl) : EAL X (e :: es) (aCons f fa) := PA.imp (pa_cons h hr hs) fun σ H Q ⟨γ, Hk, ds, γ2, o, ee, q⟩ => by
  unfold aCons at ee
  split at ee
  · rename_i d γ1 ef
    split at ee <;> cases ee
    rename_i ds' efa
    exact ⟨γ, Hk, d, γ1, o, ef, fun v H1 Hk1 g1 r1 => ⟨γ1, Hk1, ds', γ2, g1.ok, efa, fun vs H2 Hk2 g2 r2 => q _ H2 Hk2 (g1.trans g2) (.cons (vw_later r1 g2.kk) r2)⟩⟩
  · cases ee
@[simp] def fCallL (n : Nat) (F : Fun') (fa : Fa) : Fe := fun γ => match fa γ with
  | some (ds, γ1) => if ds.length = n then match F ds with
    | some (d, _) => if atomD d then some (d, γ1) else none
    | none => none
    else none
  | none => none
theorem atom_dp {K : PySem.W.Frag} {H H' : Hp} {v : V} {d : D} (h : Dp K H v d) (a : atomD d = true) : Dp K H' v d := by
  cases h with
  | non => exact .non
  | bl b => exact .bl b
  | int i => exact .int i
  | str x => exact .str x
  | lst _ _ => cases a
  | tup _ _ => cases a
  | dct _ _ _ _ _ _ => cases a
theorem ev_callL {x : Str} {k n : Nat} {ps : List Str} {F : Fun'} {p : Pos} (C : Cal X.prog X.w X.K X.mg X.base x k ps false F) (hr : Room k X.A) (hG : X.A.guards = some []) (hg : Gl X x) (ha : EAL X (e :: es) fa) (hn : ps.length = n := by rfl)
    (hdb : (x == ("__debug__" : Str)) = false := by decide) (he : starEach (e :: es) X.env = (false, eval e X.env) :: starEach es X.env := by rfl) (hpl : (backTo pos (starEach es X.env)).any (·.1) = false := by rfl) :
    EV X (.Call (.Name x p) (e :: es) [] pos) (fCallL n F fa) := by
  subst hn
  obtain ⟨f, fd, G, hm, hk, hb⟩ := C
  refine ⟨fun pins s σ H Q I h => ?_⟩
  obtain ⟨γ, Hk, d, γ2, ok, ee, q⟩ := h
  unfold fCallL at ee
  split at ee
  · rename_i ds γ1 ea
    split at ee
    · rename_i hl
      split at ee
      · rename_i d' out eF
        split at ee <;> cases ee
        rename_i at'
        refine wpAny_Call_Name_kw (ld_glob I hg hm ?_ hdb)
        refine PySem.W.callWith_K (h₀ := X.base) I.ok.mod.kin hk (thn (ha.run pos pins s σ H (fun vs H1 => spD X.K false ps.length F vs H1 Q) I ⟨γ, Hk, ds, _, ok, ea, fun vs H1 Hk1 g1 r1 => ?_⟩) fun us s1 ⟨vs, H1, I1, r, q1⟩ => ⟨I1.kIn, ?_⟩) he hpl
        · have rd := r1.dps g1.ok.sub
          refine ⟨by rw [dps_len rd]; exact hl, H1, ds, d, out, Same.refl _, rd, eF, fun v H2 Hk2 s2 k2 nw kp r2 _ => ?_⟩
          have hh : Same H1 H2 := fun a u h => kp a u h fun z => absurd z Bool.false_ne_true
          exact q v H2 Hk1 (g1.trans (g1.ok.go ⟨hh, Same.refl _, g1.ok.sub.trans hh, fun a u h n => by rw [h] at n; cases n⟩)) (atom_dp r2 at')
        · exact runG G hr hG hb I1 r q1
      · cases ee
    · cases ee
  · cases ee
end
/-! ### t[::-1], t a tuple (a text: ev_rev) -/
section
variable {prog : Program} {w : World} {A : Around} {E : Value → Shared → Prop} {s : Shared}
theorem adjust_rev (n : Nat) : Builtin.Slice.sliceAdjust none none (-1) (n : Int) = ((n : Int) - 1, -1) := by
  unfold Builtin.Slice.sliceAdjust
  simp
theorem places_rev (n : Nat) : Builtin.Slice.slicePlaces ((n : Int) - 1) (-1) (-1) = n := by
  unfold Builtin.Slice.slicePlaces
  have h1 : ¬ ((-1 : Int) > 0) := by omega
  simp only [h1, if_false]
  split
  · have : ((n : Int) - 1 - -1 - 1) / - -1 + 1 = n := by
      rw [show - -1 = (1 : Int) from rfl, Int.ediv_one]; omega
    omega
  · omega
theorem fm_congr {α β : Type} {f g : α → Option β} : ∀ {l : List α}, (∀ m ∈ l, f m = g m) → l.filterMap f = l.filterMap g
  | [], _ => rfl
  | a :: r, h => by
    rw [List.filterMap_cons, List.filterMap_cons, h a (by simp), fm_congr fun m hm => h m (by simp [hm])]
theorem pick_rev (xs : Array Value) : ((List.range xs.size).filterMap fun (m : Nat) => xs[((xs.size : Int) - 1 + (m : Int) * (-1)).toNat]?).toArray = xs.toList.reverse.toArray := by
  have e : ((List.range xs.size).filterMap fun (m : Nat) => xs[((xs.size : Int) - 1 + (m : Int) * (-1)).toNat]?) = ((List.range xs.size).map fun k => xs.size - 1 - k).filterMap (xs[·]?) := by
    rw [List.filterMap_map]
    refine fm_congr fun m hm => ?_
    rw [List.mem_range] at hm
    have : ((xs.size : Int) - 1 + (m : Int) * (-1)).toNat = xs.size - 1 - m := by omega
    rw [this]; rfl
  rw [e, PySem.W.krv_range, List.filterMap_reverse, PySem.W.krv_all]
theorem getItem_tuple_rev {t sl : Addr} {items : Array Value} {vl vu : Value} {tk : Tok} {Q : Value → Shared → Prop} (ht : IsTup s.heap t items) (hs : s.heap.IsSliceOf sl vl vu (.int (-1) tk)) (pl : IsPart vl none) (pu : IsPart vu none)
    (h : Q (.ref s.heap.objs.size) { s with heap := s.heap.push { cls := .type "tuple", data := .seq items.toList.reverse.toArray } })
    (hsz : items.size ≤ sizeLine) : wpAny (model prog w) A (getItem (.ref t) (.ref sl)) Q E s := by
  have htake : sizeOk (.seq items.toList.reverse.toArray) := by
    show items.toList.reverse.toArray.size ≤ sizeLine
    simpa using hsz
  obtain ⟨os, hos, hcs, hds⟩ := id hs
  have hTs : s.TypeIs (.ref sl) "slice" := ⟨os, hos, hcs⟩
  unfold getItem
  try with_reducible refine wpAny_holding ?_
  first | refine wpAny_bind (wpAny_pure ?_) | skip
  refine wpAny_bind (wpAny_sequenceKey ht.typeIs (by decide) ?_)
  refine wpAny_bind (wpAny_callSpecial?_slot (name := Str.ofString "__getitem__") ht.typeIs PyProof.Rows.slot_tuple_getitem
    (wpAny_call_entry PyProof.Rows.slot_tuple_getitem ht.typeIs PyProof.Rows.entry_tuple_getitem ?_ (PyProof.Rows.args_tuple_getitem _ _)))
  show wpAny _ _ (Builtin.Tuple.tupleItemsOf (.ref t) >>= _) _ _ s
  refine wpAny_bind (tupleItemsOf_ ht ?_)
  refine wpAny_bind (wpAny_typeOf hTs ?_)
  rw [if_pos (by decide)]
  have ap : ∀ {Q : Int × Int × Nat → Shared → Prop}, Q ((items.size : Int) - 1, -1, items.size) s → wpAny (model prog w) A.in1 (Builtin.Slice.sliceApplied (.ref sl) (pure ((items.size : Nat) : Int))) Q E s := fun {Q} h => by
    unfold Builtin.Slice.sliceApplied Builtin.Slice.sliceFields
    refine wpAny_bind (wpAny_bind (wpAny_field hos hds (x := vl) rfl (wpAny_bind (wpAny_field hos hds (x := vu) rfl (wpAny_bind (wpAny_field hos hds (x := .int (-1) tk) rfl (wpAny_pure ?_)))))))
    refine wpAny_bind (HT.slicePart_ (.int _ _) ?_)
    show wpAny _ _ (if ((-1 : Int) == 0) = true then _ else _) _ _ s
    rw [if_neg (by decide)]
    refine wpAny_bind (HT.slicePart_ pl (wpAny_bind (HT.slicePart_ pu (wpAny_bind (wpAny_pure ?_)))))
    show wpAny _ _ (match Builtin.Slice.sliceAdjust none none (-1) ((items.size : Nat) : Int) with | (lo, hi) => pure (lo, (-1 : Int), Builtin.Slice.slicePlaces lo hi (-1))) _ _ s
    rw [adjust_rev]
    show wpAny _ _ (pure (((items.size : Int) - 1), (-1 : Int), Builtin.Slice.slicePlaces ((items.size : Int) - 1) (-1) (-1))) _ _ s
    rw [places_rev]
    exact wpAny_pure h
  refine wpAny_bind (ap ?_)
  have hno : ¬ (((((items.size : Nat) : Int) - 1) == 0 && (-1 : Int) == 1 && items.size == items.size) = true) := by
    intro q
    rw [Bool.and_eq_true, Bool.and_eq_true] at q
    exact absurd q.1.2 (by decide)
  show wpAny _ _ (if ((((items.size : Nat) : Int) - 1) == 0 && (-1 : Int) == 1 && items.size == items.size) = true then _ else _) _ _ s
  rw [if_neg hno, pick_rev]
  first
    | exact wpAny_bind (m := Builtin.Tuple.tupleExact _) (wpAny_newObj_type (wpAny_pure ⟨_, rfl, wpAny_pure h⟩) htake)
    | exact wpAny_bind (m := Builtin.Tuple.tupleExact _) (wpAny_newObj_type (wpAny_bind (wpAny_pure (wpAny_pure ⟨_, rfl, wpAny_pure h⟩))) htake)
    | exact wpAny_bind (wpAny_bind (m := Builtin.Tuple.tupleExact _) (wpAny_newObj_type (wpAny_pure (wpAny_pure ⟨_, rfl, wpAny_pure h⟩)) htake))
    | exact wpAny_bind (wpAny_bind (m := Builtin.Tuple.tupleExact _) (wpAny_newObj_type (wpAny_pure ⟨_, rfl, wpAny_pure h⟩) htake))
end
@[simp] def revTD : D → Option D
  | .tuple ds => some (.tuple ds.reverse)
  | _ => none
theorem dps_rev {K : PySem.W.Frag} {H : Hp} : ∀ {vs : List V} {ds : List D}, DpAll K H vs ds → DpAll K H vs.reverse ds.reverse
  | _, _, .nil => .nil
  | _, _, .cons h t => by
    simp only [List.reverse_cons]
    exact dps_app (dps_rev t) (.cons h .nil)
section
variable {W : WX} {X : Cx} {e : Expr} {f : Fe} {pos : Pos}
theorem ev_revT {k : Nat} {p1 p2 p3 : Pos} (he : EV X e f) : EV X (.Subscript e (.Slice none none (some (.UnaryOp .USub (.Constant (.int 1) k p1) p2)) p3) pos) (f1 revTD f) := by
  refine ⟨fun pins s σ H Q I h => ?_⟩
  obtain ⟨γ, Hk, dd, γ2, ok, ee, q⟩ := h
  unfold f1 at ee
  split at ee
  · rename_i dx γ1 ef
    split at ee
    · rename_i z eo
      cases ee
      unfold revTD at eo
      split at eo <;> cases eo
      rename_i ds
      refine Subscript_ (thn (he.run pins s σ H (fun v2 H2 => ∃ a xs Hk2, v2 = .ref a ∧ SqT X.K H2 a xs ∧ DpAll X.K Hk2 xs ds ∧ Go X.K σ H Hk γ σ H2 Hk2 γ2) I ⟨γ, Hk, _, _, ok, ef, fun v2 H2 Hk2 g2 r2 => by
        cases r2 with
        | tup hs ra => exact ⟨_, _, Hk2, rfl, sqt_mono g2.ok.sub hs, ra, g2⟩⟩) fun v s1 ⟨x, H1, I1, r1, a, xs, Hk2, ex, hx, ra, g2⟩ => ?_)
      subst ex
      cases r1
      have hst : PO X (some (.UnaryOp .USub (.Constant (.int 1) k p1) p2)) (tPart (tUn (rU fun i => .int (-i)) (tC (.int 1)))) := po_some (pe_un un_neg pe_int)
      refine wpAny_Slice (thn (po_none.run pins s1 σ H1 (fun o H2 => o = none ∧ H2 = H1) I1 ⟨rfl, rfl⟩) fun vl s2 ⟨l, H2, I2, pl, el, e2⟩ => ?_)
      subst el e2
      refine thn (po_none.run pins s2 σ H2 (fun o H3 => o = none ∧ H3 = H2) I2 ⟨rfl, rfl⟩) fun vu s3 ⟨u, H3, I3, pu, eu, e3⟩ => ?_
      subst eu e3
      refine thn (hst.run pins s3 σ H3 (fun o H4 => o = some (-1) ∧ H4 = H3) I3 ⟨1, rfl, -1, rfl, rfl, rfl⟩) fun vs s4 ⟨o, H4, I4, ps, eo, e4⟩ => ?_
      subst eo e4
      have I5 : Inv X pins σ H4 { s4 with heap := s4.heap.push { cls := .type "slice", data := .fields #[vl, vu, vs] } } := I4.kept (t' := s4.toks) fun b ob q => Heap.get?_push_of_some _ q
      obtain ⟨its, r, ht, hz⟩ := I5.tuple hx
      have hlen := r.length
      cases ps
      show wpAny (model X.prog X.w) X.A (subscriptTail e (.Slice none none (some (.UnaryOp .USub (.Constant (.int 1) k p1) p2)) p3) (.ref a) (.ref s4.heap.objs.size)) (EP X pins σ Q) X.xe _
      refine tail_any (ops := [.ref a, .ref s4.heap.objs.size]) ht.typeIs (PyProof.Rows.slot_tuple_getitem.lookup) ?_ (by with_unfolding_all rfl)
      refine getItem_tuple_rev ht (Heap.IsSliceOf.new _ vl vu _) pl pu ?_ (by rw [List.size_toArray]; omega)
      have fr := I5.hok.fresh (Nat.le_refl _)
      have gr : Grow H4 Hk2 (upd H4 _ (.tup xs.reverse)) (upd Hk2 _ (.tup xs.reverse)) := Grow.new g2.ok.sub fr
      refine ⟨.ref _, _, I5.laid (t' := s4.toks) (o := .tup xs.reverse) (fun b ob q => Heap.get?_push_of_some _ q) (Nat.le_refl _) ?_, rfl, q _ _ _ (g2.trans (g2.ok.go gr)) (.tup (SqT.of upd_same) (dps_mono gr.kk (dps_rev ra)))⟩
      exact ⟨by rw [List.length_reverse]; exact hz, _, r.reverse, IsTup.new _ _⟩
    · cases ee
  · cases ee
end
end DN
namespace DN
open PySem PySem.Spec PyProof.Rows L2
theorem u65 {k : Nat} {A : Around} (r : Room k A) : A.units + 65 < cLine := by have := r.un; omega
/-! ### truth of any data -/
@[simp] def truD : D → Option Bool
  | .none => some false
  | .bool b => some b
  | .int i => some (i != 0)
  | .str y => if okN y.length then some ((y.length : Int) != 0) else none
  | .list ds => some (!ds.isEmpty)
  | .tuple ds => some (!ds.isEmpty)
  | _ => none
theorem dps_emp {K : PySem.W.Frag} {H : Hp} {vs : List V} {ds : List D} (h : DpAll K H vs ds) : ds.isEmpty = vs.isEmpty := by
  cases h <;> rfl
theorem tru_of {K : PySem.W.Frag} {H Hk : Hp} {v : V} {d : D} {k : Bool} (s : Same Hk H) (w : Vw K H Hk v d) (e : truD d = some k) : TruV K v H k := by
  unfold truD at e
  split at e
  · cases e; cases w.non; rfl
  · cases e; cases w.bl; rfl
  · cases e; cases w.int; rfl
  · split at e <;> cases e
    rename_i c
    cases w.str
    exact ⟨okN_line c, rfl⟩
  · cases e
    obtain ⟨p, vs, rfl, sp, ap⟩ := w.lst s
    exact .inl ⟨vs, sp, by rw [dps_emp ap]⟩
  · cases e
    obtain ⟨p, vs, rfl, sp, ap⟩ := w.tup s
    exact .inr (.inl ⟨vs, sp, by rw [dps_emp ap]⟩)
  · cases e
@[simp] def cTru (f : Fe) : Ft := fun γ => match f γ with
  | some (d, γ2) => match truD d with
    | some b => some (b, γ2)
    | none => none
  | none => none
@[simp] def cTrun (i : Nat) : Ft := fun γ => match view γ i with
  | some d => match truD d with
    | some b => some (b, γ)
    | none => none
  | none => none
section
variable {W : WX} {X : Cx} {c : Expr} {f : Fe}
theorem et_tru (h : EV X c f) (he : ∀ whole, isTrue c X.env whole = (do let v ← whole; standAt c.pos; holding [v] (truthy v)) := by intro _; rfl) : ET X c (cTru f) := PT.imp (pt_truth h he) fun σ H Q ⟨γ, Hk, b, γ2, o, e, q⟩ => by
  unfold cTru at e
  split at e
  · rename_i d γ1 ef
    split at e <;> cases e
    rename_i eb
    exact ⟨γ, Hk, d, _, o, ef, fun v H2 Hk2 g r => ⟨b, tru_of g.ok.sub (.inl r) eb, q H2 Hk2 g⟩⟩
  · cases e
theorem et_trun {i : Nat} (h : PE X c (tVar i)) (he : ∀ whole, isTrue c X.env whole = (do let v ← whole; standAt c.pos; holding [v] (truthy v)) := by intro _; rfl) : ET X c (cTrun i) := PT.imp (pt_truth h he) fun σ H Q ⟨γ, Hk, b, γ2, o, e, q⟩ => by
  unfold cTrun at e
  split at e
  · rename_i d ev
    split at e <;> cases e
    rename_i eb
    obtain ⟨v, e1, w⟩ := o.view ev
    exact ⟨v, e1, b, tru_of o.sub w eb, q H Hk (Go.refl o)⟩
  · cases e
end
/-! ### a list unpacked into names -/
@[simp] def gLp (n : Nat) (tgs : Fgs) : Fg := fun d γ => match d with
  | .list ds => if ds.length = n then tgs ds γ else none
  | _ => none
section
variable {W : WX} {X : Cx} {es : List Expr} {tgs : Fgs} {pos : Pos}
theorem eg_lst (n : Nat) {k : Nat} (hc : X.calm = true) (h : EGs X es tgs) (hn : (assignEach es X.env).length = n := by rfl) (hst : (assignEach es X.env).findIdx? (·.1) = none := by rfl) : EG X (.Tuple es k pos) (gLp n tgs) :=
  PG.imp (pg_unl hc h hn hst) fun v σ H Q ⟨γ, Hk, d, γ2, o, r, e, q⟩ => by
  unfold gLp at e
  split at e
  · rename_i ds
    split at e
    · rename_i hl
      cases r with
      | lst hs ra => exact ⟨_, _, rfl, sql_mono o.sub hs, by rw [dps_len ra]; exact hl, γ, Hk, ds, γ2, o, ra, e, q⟩
    · cases e
  · cases e
end
end DN
namespace DN
open PySem PySem.Spec PyProof.Rows L2
/-! ### sorted of any data that are alike -/
def alikeB (ds : List D) : Bool := ds.all fun d => ds.all fun d' => PySem.W.alike d d'
theorem alikeB_of {ds : List D} (h : alikeB ds = true) : PySem.W.AllAlike ds := fun d hd d' hd' => by
  unfold alikeB at h
  rw [List.all_eq_true] at h
  have := h d hd
  rw [List.all_eq_true] at this
  exact this d' hd'
def tupB : D → Bool
  | .tuple (_ :: _) => true
  | _ => false
def othB : D → Bool
  | .tuple _ => false
  | .none => false
  | _ => true
def sortB (ds : List D) : Bool := ds.all tupB || ds.all othB
theorem sortB_of {ds : List D} (h : sortB ds = true) : PySem.W.Sortable ds := by
  unfold sortB at h
  rw [Bool.or_eq_true, List.all_eq_true, List.all_eq_true] at h
  rcases h with h | h
  · refine .inl fun d hd => ?_
    have := h d hd
    unfold tupB at this
    split at this
    · exact ⟨_, _, rfl⟩
    · cases this
  · refine .inr fun d hd => ?_
    have := h d hd
    unfold othB at this
    split at this
    · cases this
    · cases this
    · rename_i h1 h2
      exact ⟨h2, h1⟩
def deepB (ds : List D) : Bool := ds.all fun d => decide (d.depth ≤ 20)
abbrev leD0 (a b : D) : Bool := PySem.W.dataLe false (fun x : D => x) a b
def srtD (ds : List D) : List D := ds.mergeSort leD0
def rSortD (K : PySem.W.Frag) : List V → Hp → VK → Prop := fun vs H Q => ∃ (Hk : Hp) (a : Addr) (xs : List V) (ds : List D), Same Hk H ∧ vs = [V.ref a] ∧ SqL K H a xs ∧ DpAll K Hk xs ds ∧ alikeB ds = true ∧ sortB ds = true ∧ deepB ds = true ∧
  ∀ (ys : List V) (p : Addr), DpAll K Hk ys (srtD ds) → H p = none → Q (.ref p) (upd H p (.lst ys))
section
variable {W : WX} {X : Cx}
theorem each_of {K : PySem.W.Frag} {H : Hp} : ∀ {us : List Value} {xs : List V} {ds : List D}, Vals xs us → DpAll K H xs ds → PySem.W.EachIs (fun u (b : V × D) => RelV b.1 u ∧ Dp K H b.1 b.2) us (xs.zip ds)
  | _, _, _, .nil, .nil => .nil
  | _, _, _, .cons r rr, .cons d dd => .cons ⟨r, d⟩ (each_of rr dd)
theorem each_out {K : PySem.W.Frag} {H : Hp} : ∀ {us : List Value} {bs : List (V × D)}, PySem.W.EachIs (fun u (b : V × D) => RelV b.1 u ∧ Dp K H b.1 b.2) us bs → Vals (bs.map (·.1)) us ∧ DpAll K H (bs.map (·.1)) (bs.map (·.2))
  | _, _, .nil => ⟨.nil, .nil⟩
  | _, _, .cons h t => ⟨.cons h.1 (each_out t).1, .cons h.2 (each_out t).2⟩
theorem zip_snd {α β : Type} : ∀ {xs : List α} {ys : List β}, xs.length = ys.length → (xs.zip ys).map (·.2) = ys
  | [], [], _ => rfl
  | _ :: xs, _ :: ys, h => by
    simp only [List.zip_cons_cons, List.map_cons]
    rw [zip_snd (by simpa using h)]
theorem cr_sortD {k : Nat} (hr : Room k X.A) : CallR X (.builtin "sorted") (rSortD X.K) := by
  intro pins s σ H vs us Q I r h
  obtain ⟨Hk, a, xs, ds, sub, rfl, hs, hd, h1, h2, h3, q⟩ := h
  obtain ⟨its, rv, hl, hz⟩ := I.list hs
  rw [Vals.ref1 r]
  have hlen := dps_len hd
  have e1 := each_of rv hd
  have er : PySem.W.EachIs (fun v (b : V × D) => ∃ as, Reads s.heap v b.2 as) its (xs.zip ds) := e1.mono fun u b ⟨ru, du⟩ => Dp.reads I (dp_mono sub du) ru
  have em : (xs.zip ds).map (fun b : V × D => b.2) = ds := zip_snd hlen
  have un := hr.un
  refine PySem.W.sorted_data (enc := fun b : V × D => b.2) hl.isList e1 er (by rw [em]; exact alikeB_of h1) (by rw [em]; exact sortB_of h2) (by rw [List.length_zip, hlen, Nat.min_self, ← hlen]; exact hz) (fun b hb => ?_) fun out ho he => ?_
  · have : b.2 ∈ ds := by rw [← em]; exact List.mem_map_of_mem hb
    unfold deepB at h3
    rw [List.all_eq_true] at h3
    have := of_decide_eq_true (h3 b.2 this)
    omega
  · obtain ⟨v1, d1⟩ := each_out he
    have es : ((xs.zip ds).mergeSort (PySem.W.dataLe false fun b : V × D => b.2)).map (fun b : V × D => b.2) = srtD ds := by
      have := PySem.W.sort_maps (r := PySem.W.dataLe false fun b : V × D => b.2) (s := leD0) (l := xs.zip ds) (fun b : V × D => b.2) (fun a _ b _ => rfl)
      rw [em] at this
      exact this
    rw [es] at d1
    obtain ⟨ep, he'⟩ := PyProof.Rows.sortedAll_at s.heap its out.toArray
    have hl2 : (((xs.zip ds).mergeSort (PySem.W.dataLe false fun b : V × D => b.2)).map (fun b : V × D => b.1)).length ≤ sizeLine := by
      rw [List.length_map, List.length_mergeSort, List.length_zip, hlen, Nat.min_self, ← hlen]
      exact hz
    exact ⟨.ref _, upd H (s.heap.objs.size + 1) (.lst _), I.laid (t' := s.toks) (fun _ _ => PyProof.Rows.sortedAll_old) (Nat.le_succ _) ⟨hl2, out, ep, v1, he'⟩, rfl, q _ _ d1 (I.hok.fresh (Nat.le_succ _))⟩
@[simp] def lSrt (f : Fe) : Fa := fun γ => match f γ with
  | some (.list ds, γ1) => if alikeB ds && sortB ds && deepB ds then some (srtD ds, γ1) else none
  | _ => none
theorem el_sortD {a : Expr} {f : Fe} {k : Nat} {pos p : Pos} (hr : Room k X.A) (hm : X.mg "sorted" = none) (hg : Gl X "sorted") (ha : EV X a f) (he : starEach [a] X.env = (false, eval a X.env) :: starEach [] X.env := by rfl) (hpl : (backTo pos (starEach [] X.env)).any (·.1) = false := by rfl) :
    EL X (.Call (.Name "sorted" p) [a] [] pos) (lSrt f) := PE.imp (pe_callB (cr_sortD hr) hg hm (by decide +kernel) (pa_cons ha pa_nil he) (he := he) (hpl := hpl)) fun σ H Q ⟨γ, Hk, d, γ2, o, ee, q⟩ => by
  unfold lSrt at ee
  split at ee
  · rename_i ds γ1 ef
    split at ee <;> cases ee
    rename_i c
    rw [Bool.and_eq_true, Bool.and_eq_true] at c
    refine ⟨γ, Hk, _, γ2, o, ef, fun v H1 Hk1 g1 r1 => ?_⟩
    cases r1 with
    | lst h t => exact ⟨Hk1, _, _, ds, g1.ok.sub, rfl, sql_mono g1.ok.sub h, t, c.1.1, c.1.2, c.2, fun ys p dy hn => q p _ H1 Hk1 g1 hn dy⟩
  · cases ee
/-! ### min(xs, default = e) -/
def minL (ds : List D) (z : D) : D := match ds with
  | [] => z
  | y :: ys => PySem.W.minD y ys
def nonB (ds : List D) : Bool := ds.all fun d => match d with
  | .none => false
  | _ => true
def rMinD (K : PySem.W.Frag) : List V → List V → Hp → VK → Prop := fun vs zs H Q => ∃ (Hk : Hp) (a : Addr) (xs : List V) (ds : List D) (z : V) (zd : D), Same Hk H ∧ vs = [V.ref a] ∧ zs = [z] ∧ Dp K Hk z zd ∧ SqL K H a xs ∧ DpAll K Hk xs ds ∧ alikeB ds = true ∧ nonB ds = true ∧ decide (PyData.depthAll ds ≤ 20) = true ∧
  ∀ y : V, Dp K Hk y (minL ds zd) → Q y H
theorem readsAll_of {K : PySem.W.Frag} {pins : List (Addr × Obj)} {σ : L2.St} {H Hk : Hp} {s : Shared} (I : Inv X pins σ H s) (sub : Same Hk H) : ∀ {us : List Value} {xs : List V} {ds : List D}, Vals xs us → DpAll X.K Hk xs ds → ∃ as, ReadsAll s.heap us ds as
  | _, _, _, .nil, .nil => ⟨[], .nil⟩
  | _, _, _, .cons r rr, .cons d dd => by
    obtain ⟨a1, r1⟩ := Dp.reads I (dp_mono sub d) r
    obtain ⟨a2, r2⟩ := readsAll_of (K := K) I sub rr dd
    exact ⟨_, .cons r1 r2⟩
theorem minD_mem : ∀ (ys : List D) (y : D), PySem.W.minD y ys ∈ y :: ys
  | [], y => by simp [PySem.W.minD]
  | z :: ys, y => by
    unfold PySem.W.minD
    rw [List.foldl_cons]
    by_cases h : PySem.W.dataLt z y = true
    · rw [if_pos h]
      have := minD_mem ys z
      unfold PySem.W.minD at this
      rcases List.mem_cons.mp this with e | e
      · rw [e]; simp
      · simp [e]
    · rw [if_neg h]
      have := minD_mem ys y
      unfold PySem.W.minD at this
      rcases List.mem_cons.mp this with e | e
      · rw [e]; simp
      · simp [e]
theorem cr_minD {k : Nat} (hc : X.calm = true) (hr : Room k X.A) : CallRK X (.builtin "min") [Str.ofString "default"] (rMinD X.K) := by
  intro pins s σ H vs zs us ws Q I r rz h
  obtain ⟨Hk, a, xs, ds, z, zd, sub, rfl, rfl, hz, hs, hd, h1, h2, h3, q⟩ := h
  obtain ⟨its, rv, hl, hzz⟩ := I.list hs
  rw [Vals.ref1 r]
  cases rz with
  | cons r0 rr =>
    cases rr
    rename_i w0
    show wpAny _ _ (call (.builtin "min") [.ref a] [(Str.ofString "default", w0)]) _ _ _
    obtain ⟨as, ra⟩ := readsAll_of (K := X.K) I sub rv hd
    have un := hr.un
    have hal : PySem.W.AlikeAll ds := ⟨alikeB_of h1, fun x hx e => by
      subst e
      unfold nonB at h2
      rw [List.all_eq_true] at h2
      exact absurd (h2 _ hx) (by simp)⟩
    refine PySem.W.min_list_default (hh := I.ok.hd hc) hl.isList (by simpa using ra) hal (by have := of_decide_eq_true h3; omega) (fun e h' tk hk => ?_) fun y ys i v h' tk bs e hi rr hk => ?_
    · subst e
      exact ⟨z, H, I.kept (t' := tk) hk, r0, q z hz⟩
    · subst e
      have hi' : its[i]? = some v := by simpa using hi
      have hlt : i < xs.length := by
        have := (List.getElem?_eq_some_iff.mp hi').1
        rw [rv.length]; exact this
      obtain ⟨x, ex⟩ : ∃ x, xs[i]? = some x := ⟨_, List.getElem?_eq_getElem hlt⟩
      obtain ⟨u, eu, ru⟩ := rv.get ex
      rw [hi'] at eu
      cases eu
      have hlt2 : i < (y :: ys).length := by rw [← dps_len hd]; exact hlt
      obtain ⟨x2, ex2, dx⟩ := dps_at hd (List.getElem?_eq_getElem hlt2)
      rw [ex] at ex2
      cases ex2
      have I2 : Inv X pins σ H { s with heap := h', toks := tk } := I.kept (t' := tk) hk
      obtain ⟨cs, r3⟩ := Dp.reads I2 (dp_mono sub dx) ru
      have em : (y :: ys)[i] = PySem.W.minD y ys := PySem.W.alike_unique _ _ _ _ _ (hal.1 _ (List.getElem_mem _) _ (minD_mem ys y)) r3 rr
      rw [em] at dx
      exact ⟨x, H, I2, ru, q x dx⟩
@[simp] def fMinD (f g : Fe) : Fe := fun γ => match f γ with
  | some (.list ds, γ1) => match g γ1 with
    | some (z, γ2) => if alikeB ds && nonB ds && decide (PyData.depthAll ds ≤ 20) then some (minL ds z, γ2) else none
    | none => none
  | _ => none
theorem ev_minD {a b : Expr} {f g : Fe} {k : Nat} {pos p kpos : Pos} (hc : X.calm = true) (hr : Room k X.A) (hm : X.mg "min" = none) (hg : Gl X "min") (ha : EV X a f) (hb : EV X b g)
    (hs : starEach [a] X.env = (false, eval a X.env) :: starEach [] X.env := by rfl)
    (he : backTo pos (starEach [a] X.env) = (false, eval a X.env) :: backTo pos (starEach [] X.env) := by rfl) (hpl : (backTo pos (starEach [a] X.env)).any (·.1) = false := by rfl)
    (hall : (backToKw pos (keywordEach [⟨some "default", b, kpos⟩] X.env)).all (·.1.isSome) = true := by rfl) (hnone : (backToKw pos (keywordEach [⟨some "default", b, kpos⟩] X.env)).any (·.1.isNone) = false := by rfl) (hks : (backToKw pos (keywordEach [⟨some "default", b, kpos⟩] X.env)).filterMap (·.1) = [Str.ofString "default"] := by rfl) :
    EV X (.Call (.Name "min" p) [a] [⟨some "default", b, kpos⟩] pos) (fMinD f g) := PE.imp (pe_callBK (cr_minD hc hr) hg hm (by decide +kernel) (pa_cons ha pa_nil hs) (pk_cons hb pk_nil) (he := he) (hpl := hpl) (hall := hall) (hnone := hnone) (hks := hks)) fun σ H Q ⟨γ, Hk, d, γ2, o, ee, q⟩ => by
  unfold fMinD at ee
  split at ee
  · rename_i ds γ1 ef
    split at ee
    · rename_i z γ2' eg
      split at ee <;> cases ee
      rename_i c
      rw [Bool.and_eq_true, Bool.and_eq_true] at c
      refine ⟨γ, Hk, _, γ1, o, ef, fun v H1 Hk1 g1 r1 => ?_⟩
      cases r1 with
      | lst h t => exact ⟨γ1, Hk1, z, _, g1.ok, eg, fun u H2 Hk2 g2 r2 => ⟨Hk2, _, _, ds, u, z, g2.ok.sub, rfl, rfl, r2, sql_mono g2.ok.sub (sql_mono g2.kk h), dps_mono g2.kk t, c.1.1, c.1.2, c.2, fun y dy => q y H2 Hk2 (g1.trans g2) dy⟩⟩
    · cases ee
  · cases ee
theorem dpall_mono {K : PySem.W.Frag} {H Hk : Hp} (s : Same Hk H) {vs : List V} {ds : List D} (h : DpAll K Hk vs ds) : DpAll K H vs ds := dps_mono s h
/-- a permutation of lasting data lasts -/
theorem dps_mem {K : PySem.W.Frag} {H : Hp} : ∀ {vs : List V} {ds : List D}, DpAll K H vs ds → ∀ d ∈ ds, ∃ v ∈ vs, Dp K H v d
  | _, _, .nil, d, h => by cases h
  | _, _, .cons a t, d, h => by
    rcases List.mem_cons.mp h with rfl | h
    · exact ⟨_, by simp, a⟩
    · obtain ⟨v, hv, r⟩ := dps_mem t d h
      exact ⟨v, by simp [hv], r⟩
end
/-! ### t[::-1], t a list -/
@[simp] def revLD : D → Option D
  | .list ds => some (.list ds.reverse)
  | _ => none
section
variable {W : WX} {X : Cx} {e : Expr} {f : Fe} {pos : Pos}
theorem ev_revL {k : Nat} {p1 p2 p3 : Pos} (he : EV X e f) : EV X (.Subscript e (.Slice none none (some (.UnaryOp .USub (.Constant (.int 1) k p1) p2)) p3) pos) (f1 revLD f) := by
  refine ⟨fun pins s σ H Q I h => ?_⟩
  obtain ⟨γ, Hk, dd, γ2, ok, ee, q⟩ := h
  unfold f1 at ee
  split at ee
  · rename_i dx γ1 ef
    split at ee
    · rename_i z eo
      cases ee
      unfold revLD at eo
      split at eo <;> cases eo
      rename_i ds
      refine Subscript_ (thn (he.run pins s σ H (fun v2 H2 => ∃ a xs Hk2, v2 = .ref a ∧ SqL X.K H2 a xs ∧ DpAll X.K Hk2 xs ds ∧ Go X.K σ H Hk γ σ H2 Hk2 γ2) I ⟨γ, Hk, _, _, ok, ef, fun v2 H2 Hk2 g2 r2 => by
        cases r2 with
        | lst hs ra => exact ⟨_, _, Hk2, rfl, sql_mono g2.ok.sub hs, ra, g2⟩⟩) fun v s1 ⟨x, H1, I1, r1, a, xs, Hk2, ex, hx, ra, g2⟩ => ?_)
      subst ex
      cases r1
      have hst : PO X (some (.UnaryOp .USub (.Constant (.int 1) k p1) p2)) (tPart (tUn (rU fun i => .int (-i)) (tC (.int 1)))) := po_some (pe_un un_neg pe_int)
      refine wpAny_Slice (thn (po_none.run pins s1 σ H1 (fun o H2 => o = none ∧ H2 = H1) I1 ⟨rfl, rfl⟩) fun vl s2 ⟨l, H2, I2, pl, el, e2⟩ => ?_)
      subst el e2
      refine thn (po_none.run pins s2 σ H2 (fun o H3 => o = none ∧ H3 = H2) I2 ⟨rfl, rfl⟩) fun vu s3 ⟨u, H3, I3, pu, eu, e3⟩ => ?_
      subst eu e3
      refine thn (hst.run pins s3 σ H3 (fun o H4 => o = some (-1) ∧ H4 = H3) I3 ⟨1, rfl, -1, rfl, rfl, rfl⟩) fun vs s4 ⟨o, H4, I4, ps, eo, e4⟩ => ?_
      subst eo e4
      have I5 : Inv X pins σ H4 { s4 with heap := s4.heap.push { cls := .type "slice", data := .fields #[vl, vu, vs] } } := I4.kept (t' := s4.toks) fun b ob q => Heap.get?_push_of_some _ q
      obtain ⟨its, r, ht, hz⟩ := I5.list hx
      have hlen := r.length
      show wpAny (model X.prog X.w) X.A (subscriptTail e (.Slice none none (some (.UnaryOp .USub (.Constant (.int 1) k p1) p2)) p3) (.ref a) (.ref s4.heap.objs.size)) (EP X pins σ Q) X.xe _
      refine tail_any (ops := [.ref a, .ref s4.heap.objs.size]) ht.isList.typeIs list_getitem_lookup ?_ (by with_unfolding_all rfl)
      refine wpAny_getItem_list_slice ht.isList (Heap.IsSliceOf.new _ vl vu _) pl pu ps (by simp) ?_ (by rw [List.size_toArray]; omega)
      rw [PySem.W.krv_pick]
      have fr := I5.hok.fresh (Nat.le_refl _)
      have gr : Grow H4 Hk2 (upd H4 _ (.lst xs.reverse)) (upd Hk2 _ (.lst xs.reverse)) := Grow.new g2.ok.sub fr
      refine ⟨.ref _, _, I5.laid (t' := s4.toks) (o := .lst xs.reverse) (fun b ob q => Heap.get?_push_of_some _ q) (Nat.le_refl _) ?_, rfl, q _ _ _ (g2.trans (g2.ok.go gr)) (.lst (SqL.of upd_same) (dps_mono gr.kk (dps_rev ra)))⟩
      exact ⟨by rw [List.length_reverse]; exact hz, _, 0, r.reverse, Heap.get?_push_size _ rfl⟩
    · cases ee
  · cases ee
end
end DN
namespace DN
open PySem PySem.Spec PyProof.Rows L2
/-! ### tuples of whole numbers as keys -/
section
variable {W : WX} {X : Cx} {pins : List (Addr × Obj)} {σ : L2.St} {H : Hp} {s : Shared}
theorem ints_are : ∀ {ks : List Int} {vs : List V} {us : List Value}, DpAll X.K H vs (ks.map .int) → Vals vs us → ItemsAre (intKind X.prog X.w) ks us
  | [], _, _, h, r => by
    cases h
    cases r
    exact .nil
  | k :: ks, _, _, h, r => by
    cases h with
    | cons a t =>
      cases a
      cases r with
      | cons ru rr =>
        obtain ⟨tk, rfl⟩ := ru
        exact .cons (show Value.isInt k (.int k tk) = true by simp [Value.isInt]) (ints_are t rr)
theorem key_at (I : Inv X pins σ H s) {a : Addr} {ks : List Int} (h : Dp X.K H (.ref a) (.tuple (ks.map .int))) : (tupleKind (intKind X.prog X.w)).is s.heap ks a := by
  cases h with
  | tup hs ra =>
    obtain ⟨its, r, ⟨o, ho, hc, n, hd⟩, _⟩ := I.tuple hs
    exact ⟨o, its.toArray, n, ho, hc, hd, by simpa using ints_are ra r⟩
/-- the keys of the entries are there -/
def KeysAt (K : PySem.W.Frag) (H : Hp) (xs : List (List Int × Addr × Value)) : Prop := ∀ x ∈ xs, Dp K H (.ref x.2.1) (.tuple (x.1.map .int))
theorem dict_at (I : Inv X pins σ H s) {P : Program} {w : World} {p : Addr} {xs : List (List Int × Addr × Value)} (hp : H p = some (dnt P w p xs)) (hk : KeysAt X.K H xs) (hn : (xs.map (·.1)).Nodup) : s.heap.DictOfH (tupleKind (intKind X.prog X.w)) p xs := by
  obtain ⟨⟨o, es, ep, h1, h2, h3, h4⟩, _, _⟩ := I.hok p _ hp
  exact ⟨o, es, ep, h1, h2, h3, h4, fun x hx => key_at I (hk x hx), hn⟩
theorem dnt_ok {P : Program} {w : World} {H' : Hp} {h' : Heap} {p : Addr} {xs : List (List Int × Addr × Value)} (h : h'.DictOfH (tupleKind (intKind P w)) p xs) : ObjOk P w H' h' p (dnt P w p xs) := by
  obtain ⟨o, es, ep, h1, h2, h3, h4, _, _⟩ := h
  exact ⟨⟨o, es, ep, h1, h2, h3, h4⟩, ⟨o, h1⟩, fun g g' ⟨o', es', ep', q1, q⟩ k => ⟨o', es', ep', k o' q1, q⟩⟩
/-- {}, to be a dict with such keys -/
def tDNew (P : Program) (w : World) : TE := fun _ H Q => ∀ p, H p = none → (p == sysModules) = false → Q (.ref p) (upd H p (dnt P w p []))
theorem pe_dnew {pos : Pos} : PE X (.Dict [] [] pos) (tDNew X.prog X.w) := by
  constructor
  intro pins s σ H Q I h
  have big := I.big
  have made := Heap.DictOfH.new (knd := tupleKind (intKind X.prog X.w)) s.heap
  refine wpAny_Dict_empty ?_
  exact ⟨.ref s.heap.objs.size, _, I.laid (t' := s.toks) (fun _ _ q => Heap.get?_push_of_some _ q) (Nat.le_refl _) (dnt_ok made), rfl, h _ (I.hok.fresh (Nat.le_refl _)) (beq_eq_false_iff_ne.mpr (Nat.ne_of_gt big))⟩
/-- what a method asks of its object: its type is known and it has no dict of its own -/
def TyAt (X : Cx) (T : String) (x : V) (H : Hp) : Prop := ∀ (pins : List (Addr × Obj)) (s : Shared) (σ : L2.St) (v : Value), Inv X pins σ H s → RelV x v → s.TypeIs v T ∧ ∀ a, v = .ref a → ∃ ob, s.heap.get? a = some ob ∧ ob.dict = none
theorem dnt_ty {P : Program} {w : World} {p : Addr} {xs : List (List Int × Addr × Value)} (hp : H p = some (dnt P w p xs)) : TyAt X "dict" (.ref p) H := by
  intro pins s σ v I r
  cases r
  obtain ⟨⟨o, es, ep, h1, h2, h3, h4⟩, _, _⟩ := I.hok p _ hp
  exact ⟨⟨o, h1, h2.1⟩, fun a e => by cases e; exact ⟨o, h1, h2.2.1⟩⟩
theorem pe_meth {o e : Expr} {es : List Expr} {to : TE} {t : TA} {name : Str} {apos cpos : Pos} {T id : String} {r : V → List V → Hp → VK → Prop}
    (pl : PlainAttrs T) (sl : Slot T name id) (ty : typeOf (.builtin id) = pure (.type "method_descriptor")) (mt : MtR X id r) (ho : PE X o to) (ha : PA X (e :: es) t)
    (base : attributeBase o name X.env (eval o X.env) = eval o X.env := by rfl)
    (few : ((backTo cpos (starEach (e :: es) X.env)).all (fun x => !x.1) && (backToKw cpos (keywordEach [] X.env)).all (fun x => x.1.isSome) && decide ((e :: es).length + ([] : List Keyword).length + (if ([] : List Keyword).isEmpty then 0 else 1) < 30)) = true := by rfl)
    (line : (apos.endLine == cpos.line) = true := by rfl) (hst : starEach (e :: es) X.env = (false, eval e X.env) :: starEach es X.env := by rfl) (hpl : (backTo cpos (starEach es X.env)).any (·.1) = false := by rfl) :
    PE X (.Call (.Attribute o name apos) (e :: es) [] cpos) (fun σ H Q => to σ H fun x H1 => TyAt X T x H1 ∧ t σ H1 fun xs H2 => r x xs H2 Q) := by
  constructor
  intro pins s σ H Q I h
  refine wpAny_Call_method_late base few line rfl ?_
  refine thn (ho.run pins s σ H _ I h) ?_
  rintro v s1 ⟨x, H1, I1, r1, tx, q1⟩
  obtain ⟨g1, g2⟩ := tx _ _ _ _ I1 r1
  refine ⟨T, id, pl, sl, ty, g1, g2, ?_⟩
  have later := ha.run cpos pins s1 σ H1 _ I1 q1
  rw [hst] at later ⊢
  have none_starred : ((false, eval e X.env) :: backTo cpos (starEach es X.env)).any (·.1) = false := by
    show (false || (backTo cpos (starEach es X.env)).any (·.1)) = false
    rw [hpl]
    rfl
  refine Calls.callWith_builtin none_starred (Calls.evalArgs_plain ?_)
  refine thn later ?_
  rintro us s2 ⟨vs, H2, I2, r2, q2⟩
  exact mt pins s2 σ H2 x vs v us Q I2 r1 r2 q2
/-- d.setdefault(k, v) -/
def rSetG (X : Cx) : V → List V → Hp → VK → Prop := fun x vs H Q => ∃ (p a l : Addr) (xs : List (List Int × Addr × Value)) (ks : List Int), x = .ref p ∧ vs = [.ref a, .ref l] ∧ H p = some (dnt X.prog X.w p xs) ∧ KeysAt X.K H xs ∧ (xs.map (·.1)).Nodup ∧ (p == sysModules) = false ∧ xs.length ≤ 1000000 ∧
  Dp X.K H (.ref a) (.tuple (ks.map .int)) ∧ (∀ q, atKey xs ks = some q → ∃ v, RelV v q.2 ∧ Q v H) ∧ (atKey xs ks = none → Q (.ref l) (upd H p (dnt X.prog X.w p (xs ++ [(ks, a, .ref l)]))))
theorem mt_setG {k : Nat} (hr : Room k X.A) : MtR X "dict.setdefault" (rSetG X) := by
  intro pins s σ H x vs v us Q I rx rv h
  obtain ⟨p, a, l, xs, ks, rfl, rfl, hp, hk, hn, hs, hz, ka, q1, q2⟩ := h
  cases rx
  cases rv with
  | cons r1 rr =>
    cases r1
    cases rr with
    | cons r2 rr2 =>
      cases r2
      cases rr2
      have un := hr.un
      refine call_setdefault_heap (hsz := Nat.le_trans hz (by decide)) (tupleKind_room_in1 (by omega)) (key_at I ka) hs (dict_at I hp hk hn) ?_ ?_
      · intro q hq
        obtain ⟨v, rv, z⟩ := q1 q hq
        exact ⟨v, H, I.tok _, rv, z⟩
      · intro hno h' hd hb
        rw [storedH_new hno] at hd
        have ex := hd
        obtain ⟨o, _, _, ho, _⟩ := ex
        exact ⟨.ref l, _, I.write (x := p) (e := p) (by rw [hp]; exact True.intro) (.inl rfl) (fun b u hne z => (hb.2 b hne).trans z) ⟨o, ho⟩ (dnt_ok hd), rfl, q2 hno⟩
/-- d.get(k, v) -/
def rGetG (X : Cx) : V → List V → Hp → VK → Prop := fun x vs H Q => ∃ (p a : Addr) (y : V) (P : Program) (w : World) (xs : List (List Int × Addr × Value)) (ks : List Int), x = .ref p ∧ vs = [.ref a, y] ∧ H p = some (dnt P w p xs) ∧ KeysAt X.K H xs ∧ (xs.map (·.1)).Nodup ∧ (p == sysModules) = false ∧
  Dp X.K H (.ref a) (.tuple (ks.map .int)) ∧ (∀ q, atKey xs ks = some q → ∃ v, RelV v q.2 ∧ Q v H) ∧ (atKey xs ks = none → Q y H)
theorem mt_getG {k : Nat} (hr : Room k X.A) : MtR X "dict.get" (rGetG X) := by
  intro pins s σ H x vs v us Q I rx rv h
  obtain ⟨p, a, y, P, w, xs, ks, rfl, rfl, hp, hk, hn, hs, ka, q1, q2⟩ := h
  cases rx
  cases rv with
  | cons r1 rr =>
    cases r1
    cases rr with
    | cons r2 rr2 =>
      cases rr2
      have un := hr.un
      refine getOr_keyed (kvs := pairsH xs) (tupleKind_room_in1 (by omega)) (key_at I ka) hs ⟨xs, dict_at I hp hk hn, rfl⟩ ?_
      rw [valueAt_pairsH]
      cases hq : atKey xs ks with
      | none => exact ⟨y, H, I.tok _, r2, q2 hq⟩
      | some q =>
        obtain ⟨v, rv, z⟩ := q1 q hq
        exact ⟨v, H, I.tok _, rv, z⟩
end
end DN
namespace DN
open PySem PySem.Spec PyProof.Rows L2
/-! ### dicts whose keys are tuples, as they stand in the heap -/
section
variable {X : Cx} {pins : List (Addr × Obj)} {σ : L2.St} {H : Hp} {s : Shared}
mutual
theorem nest_at (I : Inv X pins σ H s) : ∀ {v : V} {d : D} {u : Value} {k : NestedKey}, Dp X.K H v d → RelV v u → keyOf d = some k → NestedIs s.heap k u
  | _, _, _, _, .non, r, e => by
    cases r
    rw [keyOf] at e; cases e
    exact .none
  | _, _, _, _, .int i, r, e => by
    obtain ⟨t, rfl⟩ := r
    rw [keyOf] at e; cases e
    exact .int _ _
  | _, _, _, _, .tup hs ha, r, e => by
    cases r
    rw [keyOf] at e
    obtain ⟨ks, e1, rfl⟩ := Option.map_eq_some_iff.mp e
    obtain ⟨its, rv, ⟨o, ho, hc, n, hd⟩, _⟩ := I.tuple hs
    exact .tup ho hc hd (by simpa using nests_at I ha rv e1)
  | _, _, _, _, .bl b, r, e => by rw [keyOf] at e; cases e
  | _, _, _, _, .str x, r, e => by rw [keyOf] at e; cases e
  | _, _, _, _, .lst _ _, r, e => by rw [keyOf] at e; cases e
  | _, _, _, _, .dct _ _ _ _ _ _, r, e => by rw [keyOf] at e; cases e
theorem nests_at (I : Inv X pins σ H s) : ∀ {vs : List V} {ds : List D} {us : List Value} {ks : List NestedKey}, DpAll X.K H vs ds → Vals vs us → keysOf ds = some ks → NestedAll s.heap ks us
  | _, _, _, _, .nil, r, e => by
    cases r
    rw [keysOf] at e; cases e
    exact .nil
  | _, _, _, _, .cons h t, r, e => by
    cases r with
    | cons r1 r2 =>
      rw [keysOf] at e
      split at e
      · rename_i k ks' e1 e2
        cases e
        exact .cons (nest_at I h r1 e1) (nests_at I t r2 e2)
      · cases e
end
theorem keyN_at (I : Inv X pins σ H s) {a : Addr} {d : D} {k : NestedKey} (h : Dp X.K H (.ref a) d) (e : keyD d = some k) : (nestedKind X.prog X.w).is s.heap k a :=
  ⟨nest_at I h rfl (keyD_of e).2.1, (keyD_of e).2.2⟩
theorem ents_is (I : Inv X pins σ H s) : ∀ {xs : List (NestedKey × Addr × Value)} {kvs : List (D × D)}, DpEnts X.K H xs kvs → ∀ x ∈ xs, (nestedKind X.prog X.w).is s.heap x.1 x.2.1
  | _, _, .nil, x, h => by cases h
  | _, _, .cons h1 h2 _ _ t, x, h => by
    rcases List.mem_cons.mp h with rfl | h
    · exact keyN_at I h2 h1
    · exact ents_is I t x h
end
theorem entN_eq {P : Program} {w : World} {x : NestedKey × Addr × Value} {d : D} (h : keyD d = some x.1) : entryOfKey (nestedKind P w) x = entN x := by
  unfold entryOfKey entN
  rw [← hash_eq w (keyD_of h).2.1]
  rfl
theorem ents_map {P : Program} {w : World} {K : PySem.W.Frag} {H : Hp} : ∀ {xs : List (NestedKey × Addr × Value)} {kvs : List (D × D)}, DpEnts K H xs kvs → xs.map (entryOfKey (nestedKind P w)) = xs.map entN
  | _, _, .nil => rfl
  | _, _, .cons h1 _ _ _ t => by rw [List.map_cons, List.map_cons, entN_eq (x := (_, _, _)) h1, ents_map t]
theorem dictN_at {X : Cx} {pins : List (Addr × Obj)} {σ : L2.St} {H : Hp} {s : Shared} (I : Inv X pins σ H s) {p : Addr} {o : Obj} {xs : List (NestedKey × Addr × Value)} {kvs : List (D × D)} (hp : H p = some (dnO p o)) (ho : DictO o xs) (he : DpEnts X.K H xs kvs) (nd : (xs.map (·.1)).Nodup) :
    s.heap.DictOfH (nestedKind X.prog X.w) p xs := by
  obtain ⟨h1, _, _⟩ := I.hok p _ hp
  obtain ⟨hx, es, ep, hd, hes⟩ := ho
  exact ⟨o, es, ep, h1, hx, hd, by rw [hes, ents_map he], ents_is I he, nd⟩
theorem dnO_ok {P : Program} {w : World} {H' : Hp} {h' : Heap} {p : Addr} {o : Obj} (h : h'.get? p = some o) : ObjOk P w H' h' p (dnO p o) := ⟨h, ⟨o, h⟩, fun _ _ q k => k o q⟩
/-- what a rule leaves is again such a dict -/
theorem dictN_of {P : Program} {w : World} {h' : Heap} {p : Addr} {xs : List (NestedKey × Addr × Value)} {K : PySem.W.Frag} {H : Hp} {kvs : List (D × D)} (h : h'.DictOfH (nestedKind P w) p xs) (he : DpEnts K H xs kvs) : ∃ o, h'.get? p = some o ∧ DictO o xs ∧ (xs.map (·.1)).Nodup := by
  obtain ⟨o, es, ep, h1, h2, h3, h4, _, h6⟩ := h
  exact ⟨o, h1, ⟨h2, es, ep, h3, by rw [h4, ents_map he]⟩, h6⟩
/-! ### looked up, as data -/
def lookN (kvs : List (D × D)) (k : NestedKey) : Option D := (kvs.find? fun q => decide (keyD q.1 = some k)).map (·.2)
theorem lookN_at {K : PySem.W.Frag} {H : Hp} {k : NestedKey} : ∀ {xs : List (NestedKey × Addr × Value)} {kvs : List (D × D)}, DpEnts K H xs kvs →
    (∀ q, atKey xs k = some q → ∃ v d, lookN kvs k = some d ∧ RelV v q.2 ∧ Dp K H v d) ∧ (atKey xs k = none → lookN kvs k = none)
  | _, _, .nil => ⟨fun q h => (by cases h), fun _ => rfl⟩
  | _, _, .cons (k := nk) (a := a) (u := u) (kd := kd) (d := d) (xs := xs) (kvs := kvs) h1 h2 h3 h4 t => by
    obtain ⟨i1, i2⟩ := lookN_at (k := k) t
    unfold atKey lookN at *
    rw [List.find?_cons, List.find?_cons]
    show (∀ q, Option.map (·.2) (match decide (nk = k) with | true => some (nk, a, u) | false => List.find? (fun x => decide (x.1 = k)) xs) = some q → _) ∧ _
    by_cases c : nk = k
    · rw [decide_eq_true c, decide_eq_true (show keyD (kd, d).1 = some k by rw [← c]; exact h1)]
      exact ⟨fun q e => by cases e; exact ⟨_, d, rfl, h3, h4⟩, fun e => by cases e⟩
    · rw [decide_eq_false c, decide_eq_false (fun z => c (by rw [h1] at z; exact Option.some.inj z))]
      exact ⟨i1, fun e => i2 e⟩
/-- stored: at the key, or behind all -/
def storeN (kvs : List (D × D)) (kd : D) (k : NestedKey) (d : D) : List (D × D) :=
  if (lookN kvs k).isSome then kvs.map (fun q => if keyD q.1 = some k then (q.1, d) else q) else kvs ++ [(kd, d)]
theorem ents_put {K : PySem.W.Frag} {H : Hp} {k : NestedKey} {u : Value} {v : V} {d : D} (r : RelV v u) (h : Dp K H v d) : ∀ {xs : List (NestedKey × Addr × Value)} {kvs : List (D × D)}, DpEnts K H xs kvs →
    DpEnts K H (xs.map (putAt k u)) (kvs.map (fun q => if keyD q.1 = some k then (q.1, d) else q))
  | _, _, .nil => .nil
  | _, _, .cons (k := nk) (a := a) (u := u') (kd := kd) (d := d') h1 h2 h3 h4 t => by
    rw [List.map_cons, List.map_cons]
    by_cases c : nk = k
    · have e1 : putAt k u (nk, a, u') = (nk, a, u) := if_pos c
      have e2 : (if keyD (kd, d').1 = some k then ((kd, d').1, d) else (kd, d')) = (kd, d) := if_pos (by rw [← c]; exact h1)
      rw [e1, e2]
      exact .cons h1 h2 r h (ents_put r h t)
    · have e1 : putAt k u (nk, a, u') = (nk, a, u') := if_neg c
      have e2 : (if keyD (kd, d').1 = some k then ((kd, d').1, d) else (kd, d')) = (kd, d') := if_neg (fun z => c (by have z : keyD kd = some k := z; rw [h1] at z; exact Option.some.inj z))
      rw [e1, e2]
      exact .cons h1 h2 h3 h4 (ents_put r h t)
theorem ents_app {K : PySem.W.Frag} {H : Hp} : ∀ {xs ys : List (NestedKey × Addr × Value)} {kvs lws : List (D × D)}, DpEnts K H xs kvs → DpEnts K H ys lws → DpEnts K H (xs ++ ys) (kvs ++ lws)
  | _, _, _, _, .nil, h => h
  | _, _, _, _, .cons h1 h2 h3 h4 t, h => .cons h1 h2 h3 h4 (ents_app t h)
theorem ents_len {K : PySem.W.Frag} {H : Hp} : ∀ {xs : List (NestedKey × Addr × Value)} {kvs : List (D × D)}, DpEnts K H xs kvs → xs.length = kvs.length
  | _, _, .nil => rfl
  | _, _, .cons _ _ _ _ t => congrArg (· + 1) (ents_len t)
theorem look_some {K : PySem.W.Frag} {H : Hp} {k : NestedKey} {xs : List (NestedKey × Addr × Value)} {kvs : List (D × D)} (h : DpEnts K H xs kvs) : (lookN kvs k).isSome = (atKey xs k).isSome := by
  obtain ⟨a, b⟩ := lookN_at (k := k) h
  cases e : atKey xs k with
  | none => rw [b e]; rfl
  | some q =>
    obtain ⟨v, d, e1, _⟩ := a q e
    rw [e1]; rfl
theorem ents_store {K : PySem.W.Frag} {H : Hp} {k : NestedKey} {u : Value} {v : V} {d kd : D} {a : Addr} (ek : keyD kd = some k) (hk : Dp K H (.ref a) kd) (r : RelV v u) (h : Dp K H v d) {xs : List (NestedKey × Addr × Value)} {kvs : List (D × D)} (he : DpEnts K H xs kvs) :
    DpEnts K H (storedH xs k a u) (storeN kvs kd k d) := by
  unfold storedH storeN
  rw [look_some he]
  split
  · exact ents_put r h he
  · exact ents_app he (.cons ek hk r h .nil)
theorem storeN_len (kvs : List (D × D)) (kd : D) (k : NestedKey) (d : D) : (storeN kvs kd k d).length ≤ kvs.length + 1 := by
  unfold storeN
  split
  · rw [List.length_map]; omega
  · rw [List.length_append]; exact Nat.le_refl _
/-! ### the rules -/
def dicO (kvs : List (D × D)) (K : PySem.W.Frag) (H : Hp) (p : Addr) (o : Obj) (xs : List (NestedKey × Addr × Value)) : Prop := H p = some (dnO p o) ∧ DictO o xs ∧ DpEnts K H xs kvs ∧ (xs.map (·.1)).Nodup ∧ (p == sysModules) = false ∧ xs.length ≤ sizeLine
theorem Vw.dic {K : PySem.W.Frag} {H Hk : Hp} {v : V} {kvs : List (D × D)} (s : Same Hk H) (h : Vw K H Hk v (.dict kvs)) : ∃ p o xs, v = .ref p ∧ dicO kvs K H p o xs := by
  obtain ⟨p, o, xs, e, h1, h2, h3, h4, h5, h6⟩ := h.dct s
  exact ⟨p, o, xs, e, h1, h2, dpe_mono s h3, h4, h5, h6⟩
section
variable {X : Cx}
/-- k in d -/
def rInG (K : PySem.W.Frag) (f : Bool → Bool) : R2 := fun x y H Q => ∃ a p o xs kvs kd k, x = .ref a ∧ y = .ref p ∧ dicO kvs K H p o xs ∧ Dp K H (.ref a) kd ∧ keyD kd = some k ∧ Q (.bl (f (lookN kvs k).isSome)) H
theorem val_look {K : PySem.W.Frag} {H : Hp} {k : NestedKey} {xs : List (NestedKey × Addr × Value)} {kvs : List (D × D)} (h : DpEnts K H xs kvs) : (valueAt (pairsH xs) k).isSome = (lookN kvs k).isSome := by
  rw [valueAt_pairsH, Option.isSome_map, look_some h]
theorem op_inG {n : Nat} (hr : Room n X.A) : OpR X (compareOp .In) (rInG X.K id) := by
  intro pins s σ H x y v u Q I rx ry h
  obtain ⟨a, p, o, xs, kvs, kd, k, rfl, rfl, ⟨h1, h2, h3, h4, h5, h6⟩, hk, ek, q⟩ := h
  cases rx
  cases ry
  have un := hr.un
  refine in_keyed (kvs := pairsH xs) (knd := nestedKind X.prog X.w) (k := k) (by show X.A.in1.units + 8 < cLine; rw [Around.in1_units]; omega) (keyN_at I hk ek) h5 ⟨xs, dictN_at I h1 h2 h3 h4, rfl⟩ ?_
  rw [val_look h3]
  exact ⟨.bl _, H, I.tok _, rfl, q⟩
theorem op_notInG {n : Nat} (hr : Room n X.A) : OpR X (compareOp .NotIn) (rInG X.K not) := by
  intro pins s σ H x y v u Q I rx ry h
  obtain ⟨a, p, o, xs, kvs, kd, k, rfl, rfl, ⟨h1, h2, h3, h4, h5, h6⟩, hk, ek, q⟩ := h
  cases rx
  cases ry
  have un := hr.un
  refine notIn_keyed (kvs := pairsH xs) (knd := nestedKind X.prog X.w) (k := k) (by show X.A.in1.units + 8 < cLine; rw [Around.in1_units]; omega) (keyN_at I hk ek) h5 ⟨xs, dictN_at I h1 h2 h3 h4, rfl⟩ ?_
  rw [val_look h3]
  exact ⟨.bl _, H, I.tok _, rfl, q⟩
/-- d[k] -/
def rIxG (K : PySem.W.Frag) : R2 := fun x y H Q => ∃ a p o xs kvs kd k, x = .ref p ∧ y = .ref a ∧ dicO kvs K H p o xs ∧ Dp K H (.ref a) kd ∧ keyD kd = some k ∧ ∃ qq w, atKey xs k = some qq ∧ RelV w qq.2 ∧ Q w H
theorem at_look {K : PySem.W.Frag} {H : Hp} {k : NestedKey} {xs : List (NestedKey × Addr × Value)} {kvs : List (D × D)} (h : DpEnts K H xs kvs) {d : D} (e : lookN kvs k = some d) : ∃ q v, atKey xs k = some q ∧ RelV v q.2 ∧ Dp K H v d := by
  obtain ⟨a, b⟩ := lookN_at (k := k) h
  cases e1 : atKey xs k with
  | none => rw [b e1] at e; cases e
  | some q =>
    obtain ⟨v, d', e2, r, hd⟩ := a q e1
    rw [e] at e2; cases e2
    exact ⟨q, v, rfl, r, hd⟩
theorem ix_dic {n : Nat} (hr : Room n X.A) : IxR X (rIxG X.K) := by
  intro value slice pins s σ H x y v u Q I rx ry h hs
  obtain ⟨a, p, o, xs, kvs, kd, k, rfl, rfl, ⟨h1, h2, h3, h4, h5, h6⟩, hk, ek, qq, w, e1, rw', q⟩ := h
  cases rx
  cases ry
  have un := hr.un
  have hm := dictN_at I h1 h2 h3 h4
  exact tail_any hm.typeIs PySem.F.slot_dict_getitem.lookup (getItem_keyed (kvs := pairsH xs) (knd := nestedKind X.prog X.w) (k := k) (v := qq.2) (by show X.A.in1.units + 8 < cLine; rw [Around.in1_units]; omega) (keyN_at I hk ek) ⟨xs, hm, rfl⟩ (by rw [valueAt_pairsH, e1]; rfl)
    ⟨w, H, I.tok _, rw', q⟩) hs
/-- d.get(k), d.get(k, v) -/
def rGetN (K : PySem.W.Frag) : V → List V → Hp → VK → Prop := fun x vs H Q => ∃ a p o xs kvs kd k, x = .ref p ∧ dicO kvs K H p o xs ∧ Dp K H (.ref a) kd ∧ keyD kd = some k ∧ ((vs = [.ref a] ∧ (atKey xs k = none → Q .non H)) ∨ ∃ y, vs = [.ref a, y] ∧ (atKey xs k = none → Q y H)) ∧ ∀ qq, atKey xs k = some qq → ∃ w, RelV w qq.2 ∧ Q w H
theorem mt_getN {n : Nat} (hr : Room n X.A) : MtR X "dict.get" (rGetN X.K) := by
  intro pins s σ H x vs v us Q I rx rv h
  obtain ⟨a, p, o, xs, kvs, kd, k, rfl, ⟨h1, h2, h3, h4, h5, h6⟩, hk, ek, hv, q⟩ := h
  cases rx
  have un := hr.un
  have hm := dictN_at I h1 h2 h3 h4
  have ur : (nestedKind X.prog X.w).room X.A.in1 := by show X.A.in1.units + 8 < cLine; rw [Around.in1_units]; omega
  rcases hv with ⟨rfl, q0⟩ | ⟨y, rfl, q0⟩
  · cases rv with
    | cons r1 rr =>
      cases r1
      cases rr
      refine get_keyed (kvs := pairsH xs) ur (keyN_at I hk ek) h5 ⟨xs, hm, rfl⟩ ?_
      rw [valueAt_pairsH]
      cases e1 : atKey xs k with
      | none => exact ⟨.non, H, I.tok _, rfl, q0 e1⟩
      | some qq =>
        obtain ⟨w, rw', z⟩ := q qq e1
        exact ⟨w, H, I.tok _, rw', z⟩
  · cases rv with
    | cons r1 rr =>
      cases r1
      cases rr with
      | cons r2 rr2 =>
        cases rr2
        refine getOr_keyed (kvs := pairsH xs) ur (keyN_at I hk ek) h5 ⟨xs, hm, rfl⟩ ?_
        rw [valueAt_pairsH]
        cases e1 : atKey xs k with
        | none => exact ⟨y, H, I.tok _, r2, q0 e1⟩
        | some qq =>
          obtain ⟨w, rw', z⟩ := q qq e1
          exact ⟨w, H, I.tok _, rw', z⟩
/-- d[k] = v -/
def rSetN (K : PySem.W.Frag) : V → V → V → Hp → (Hp → Prop) → Prop := fun o i v H Q => ∃ p ob xs kvs a kd k d, o = .ref p ∧ i = .ref a ∧ dicO kvs K H p ob xs ∧ Dp K H (.ref a) kd ∧ keyD kd = some k ∧ Dp K H v d ∧ xs.length < sizeLine ∧
  ∀ o2 u, RelV v u → DictO o2 (storedH xs k a u) → ((storedH xs k a u).map (·.1)).Nodup → (storedH xs k a u).length ≤ sizeLine → Q (upd H p (dnO p o2))
theorem set_dicN {n : Nat} (hr : Room n X.A) : PSet X (rSetN X.K) := by
  intro pins s σ H o i v ov iv u Q I ro ri rv h
  obtain ⟨p, ob, xs, kvs, a, kd, k, d, rfl, rfl, ⟨h1, h2, h3, h4, h5, h6⟩, hk, ek, hd, hz, q⟩ := h
  cases ro
  cases ri
  have un := hr.un
  have hm := dictN_at I h1 h2 h3 h4
  refine wpAny_setItem_heap (hsz := h6) (by show X.A.in1.units + 8 < cLine; rw [Around.in1_units]; omega) (keyN_at I hk ek) hm fun h' hm' hs => ?_
  obtain ⟨o2, ho2, hd2, nd2⟩ := dictN_of hm' (ents_store ek hk rv hd h3)
  have hl : (storedH xs k a u).length ≤ sizeLine := by
    rw [ents_len (ents_store ek hk rv hd h3)]
    have := storeN_len kvs kd k d
    rw [← ents_len h3] at this
    omega
  exact ⟨_, I.write (x := p) (e := p) (by rw [h1]; exact True.intro) (.inl rfl) (fun b u hne z => (hs.2 b hne).trans z) ⟨o2, ho2⟩ (dnO_ok ho2), q o2 u rv hd2 nd2 hl⟩
/-- {}, to be a dict with tuples as keys -/
def tDicNew : TE := fun _ H Q => ∀ p o, H p = none → (p == sysModules) = false → DictO o [] → Q (.ref p) (upd H p (dnO p o))
theorem pe_dicNew {pos : Pos} : PE X (.Dict [] [] pos) tDicNew := by
  constructor
  intro pins s σ H Q I h
  have big := I.big
  refine wpAny_Dict_empty ?_
  have e : (s.heap.push { cls := .type "dict", data := .dict #[] }).get? s.heap.objs.size = some { cls := .type "dict", data := .dict #[] } := Heap.get?_push_size _ rfl
  exact ⟨.ref s.heap.objs.size, _, I.laid (t' := s.toks) (fun _ _ q => Heap.get?_push_of_some _ q) (Nat.le_refl _) (dnO_ok e), rfl, h _ _ (I.hok.fresh (Nat.le_refl _)) (beq_eq_false_iff_ne.mpr (Nat.ne_of_gt big)) ⟨⟨rfl, rfl, rfl⟩, #[], 0, rfl, rfl⟩⟩
theorem dnO_ty {p : Addr} {o : Obj} {xs : List (NestedKey × Addr × Value)} {H : Hp} (hp : H p = some (dnO p o)) (ho : DictO o xs) : TyAt X "dict" (.ref p) H := by
  intro pins s σ v I r
  cases r
  obtain ⟨h1, _, _⟩ := I.hok p _ hp
  exact ⟨⟨o, h1, ho.1.1⟩, fun a e => by cases e; exact ⟨o, h1, ho.1.2.1⟩⟩
end
end DN
namespace DN
open PySem PySem.Spec PyProof.Rows L2
/-! ### walks over the keys of a dict -/
def Itn (d : Addr) (o : Obj) (xs : List (NestedKey × Addr × Value)) : It where
  go i H := H d = some (dnO d o) ∧ i < xs.length
  yld i H x H' := H' = H ∧ ∃ e, xs[i]? = some e ∧ x = .ref e.2.1
  stop i H := H d = some (dnO d o) ∧ xs.length ≤ i
theorem ent_at {o : Obj} {xs : List (NestedKey × Addr × Value)} (h : DictO o xs) : o.ExactDict ∧ ∃ es ep, o.data = .dict es ep ∧ es.size = xs.length ∧ ∀ (i : Nat) (e : NestedKey × Addr × Value), xs[i]? = some e → ∃ en, es[i]? = some en ∧ en.key = .ref e.2.1 ∧ en.val = e.2.2 := by
  obtain ⟨hx, es, ep, hd, he⟩ := h
  refine ⟨hx, es, ep, hd, ?_, fun i e h1 => ?_⟩
  · rw [← Array.length_toList, he, List.length_map]
  · refine ⟨entN e, ?_, rfl, rfl⟩
    rw [← Array.getElem?_toList, he, List.getElem?_map, h1]
    rfl
section
variable {P : Program} {w : World} {K : PySem.W.Frag} {tg : Expr} {d it : Addr} {o : Obj} {xs : List (NestedKey × Addr × Value)} {es : Array DictEntry} {ep : Nat}
theorem turnN (ho : DictO o xs) (hod : o.data = .dict es ep) : Turn P w K tg (Itn d o xs) [it] it (fun i h => h.IsKeyIter it d i xs.length ep) := by
  obtain ⟨hx, es', ep', hd', hz, he⟩ := ent_at ho
  rw [hod] at hd'
  cases hd'
  refine ⟨List.mem_singleton.mpr rfl, fun i h st b hb => ?_, fun i h h' st k => ?_, ?_, ?_, fun A i s Q E st h => wpAny_pyIter_keyiter st h⟩
  · obtain ⟨oi, q1, q2, q3⟩ := st
    refine ⟨oi, by rw [List.mem_singleton.mp hb]; exact q1, fun v z => ?_⟩
    rw [q3] at z; cases z
  · exact st.at fun oi q => k it (List.mem_singleton.mpr rfl) oi q
  · intro X e1 e2 e3 hc i pins s σ H E I hf st hg
    subst e1; subst e2; subst e3
    obtain ⟨f0, f1, f2, f3, f4, f5⟩ := hf it (List.mem_singleton.mpr rfl)
    obtain ⟨hgd, _, _⟩ := I.hok d _ hg.1
    obtain ⟨e, hi⟩ : ∃ e, xs[i]? = some e := ⟨_, List.getElem?_eq_getElem hg.2⟩
    obtain ⟨en, hen, hk, _⟩ := he i _ hi
    refine next_key_item st hgd hod hz hen fun h' st' sb => ?_
    have I1 : Inv X pins σ H { s with heap := h' } := I.turned (t' := s.toks) (fun b ob hb q => (sb.2 b hb).trans q) f0 f1 f3 f4 f5
    obtain ⟨oi, q1, q2, q3⟩ := id st'
    exact ⟨en.key, rfl, go_of (s := { s with heap := h' }) q1 q2 q3 (by decide) ⟨.ref e.2.1, H, I1, hk, ⟨rfl, _, hi, rfl⟩, st', fun b hb => (hf b hb).1⟩⟩
  · intro X e1 e2 e3 hc i pins s σ H E I hf st hg
    subst e1; subst e2; subst e3
    obtain ⟨f0, f1, f2, f3, f4, f5⟩ := hf it (List.mem_singleton.mpr rfl)
    obtain ⟨hgd, _, _⟩ := I.hok d _ hg.1
    exact next_key_end (I.ok.hd hc) st hgd hod hz hg.2 fun h' eb => ⟨rfl, I.turned (t' := s.toks) (fun b ob hb q => eb b ob hb q) f0 f1 f3 f4 f5⟩
end
def iKeyN (td : TE) : TI := fun σ H R => td σ H fun x H1 => ∃ d o xs, x = .ref d ∧ H1 d = some (dnO d o) ∧ DictO o xs ∧ (d == sysModules) = false ∧ R (Itn d o xs) H1
theorem pi_keyN {X : Cx} {tg e : Expr} {td : TE} (he : PE X e td) : PI X tg e (iKeyN td) := by
  refine ⟨fun pins s σ H R I h => ?_⟩
  refine thn (he.run pins s σ H _ I h) fun u s1 ⟨x, H1, I1, rx, d, o, xs, ex, hd, ho, hs, q⟩ => ?_
  subst ex
  obtain rfl : u = Value.ref d := rx
  obtain ⟨hgd, _, _⟩ := I1.hok d _ hd
  obtain ⟨hx, es, ep, hdt, hz, _⟩ := ent_at ho
  refine iter_keys hs hgd hx hdt (pi_one (tk := s1.toks) I1 _ (turnN ho hdt) ⟨_, Heap.get?_push_size _ rfl, rfl, ?_⟩ q)
  rw [hz]
  rfl
section
variable {K : PySem.W.Frag}
theorem ents_key {H : Hp} : ∀ {xs : List (NestedKey × Addr × Value)} {kvs : List (D × D)}, DpEnts K H xs kvs → ∀ (i : Nat) (h : i < kvs.length), ∃ e, xs[i]? = some e ∧ Dp K H (.ref e.2.1) (kvs[i].1) ∧ ∃ v, RelV v e.2.2 ∧ Dp K H v (kvs[i].2)
  | _, _, .nil, i, h => absurd h (Nat.not_lt_zero _)
  | _, _, .cons h1 h2 h3 h4 t, 0, _ => ⟨_, rfl, h2, _, h3, h4⟩
  | _, _, .cons h1 h2 h3 h4 t, i + 1, h => ents_key t i (Nat.lt_of_succ_lt_succ h)
theorem walks_k {Hk : Hp} {d : Addr} {o : Obj} {xs : List (NestedKey × Addr × Value)} {kvs : List (D × D)} (hd : Hk d = some (dnO d o)) (he : DpEnts K Hk xs kvs) : Walks K (Itn d o xs) (kvs.map (·.1)) Hk := fun H Hc s1 s2 => by
  have hh : H d = some (dnO d o) := s2 _ _ (s1 _ _ hd)
  have hl := ents_len he
  refine ⟨fun i hi => ?_, fun i hi => ⟨hh, by rw [List.length_map] at hi; omega⟩⟩
  have hi' : i < kvs.length := by simpa using hi
  obtain ⟨e, e1, r, _⟩ := ents_key he i hi'
  refine ⟨⟨hh, by omega⟩, fun x H' y => ?_⟩
  obtain ⟨rfl, e', e2, rfl⟩ := y
  rw [e1] at e2; cases e2
  exact ⟨Hc, Grow.refl s2, by simpa using dp_mono s1 r⟩
end
@[simp] def wKey (f : Fe) : Fa := fun γ => match f γ with
  | some (.dict kvs, γ1) => some (kvs.map (·.1), γ1)
  | _ => none
theorem ei_key {X : Cx} {tg e : Expr} {f : Fe} (h : EV X e f) : EI X tg e (wKey f) := PI.imp (pi_keyN h) fun σ H R ⟨γ, Hk, ds, γ2, o, ee, q⟩ => by
  unfold wKey at ee
  split at ee <;> cases ee
  rename_i ef
  refine ⟨γ, Hk, _, _, o, ef, fun v H1 Hk1 g1 r1 => ?_⟩
  cases r1 with
  | dct h1 h2 h3 h4 h5 h6 => exact ⟨_, _, _, rfl, g1.ok.sub _ _ h1, h2, h5, q _ H1 Hk1 g1 (walks_k h1 h3)⟩
/-! ### in, d[k], d.get: as functions of data -/
@[simp] def inX (x y : D) : Option D := match y with
  | .dict kvs => match keyD x with
    | some k => some (.bool (lookN kvs k).isSome)
    | none => none
  | _ => inD x y
@[simp] def notInX (x y : D) : Option D := match y with
  | .dict kvs => match keyD x with
    | some k => some (.bool (!(lookN kvs k).isSome))
    | none => none
  | _ => notInD x y
@[simp] def ixX (x y : D) : Option D := match x with
  | .dict kvs => match keyD y with
    | some k => lookN kvs k
    | none => none
  | _ => ixD x y
section
variable {X : Cx} {K : PySem.W.Frag}
theorem key_ref {H : Hp} {v : V} {d : D} {k : NestedKey} (h : Dp K H v d) (e : keyD d = some k) : ∃ a, v = .ref a := by
  obtain ⟨ds, rfl⟩ := (keyD_of e).1
  cases h
  exact ⟨_, rfl⟩
theorem Vw.key {H Hk : Hp} {v : V} {d : D} {k : NestedKey} (s : Same Hk H) (h : Vw K H Hk v d) (e : keyD d = some k) : ∃ a, v = .ref a ∧ Dp K H (.ref a) d := by
  obtain ⟨a, rfl⟩ := key_ref (h.dp s) e
  exact ⟨a, rfl, h.dp s⟩
abbrev rInX (K : PySem.W.Frag) (f : Bool → Bool) : R2 := fun x y H Q => ((∃ i j, x = .str i ∧ y = .str j ∧ Q (.bl (f (!(Builtin.Str.occurrences j i 0 j.length 1).isEmpty))) H) ∨ rInN K f x y H Q) ∨ rInG K f x y H Q
theorem o_inX : Op2 K (rInX K id) inX := by
  intro H Hk x y dx dy dz Q s vx vy e q
  unfold inX at e
  split at e
  · split at e <;> cases e
    rename_i ek
    obtain ⟨p, o, xs, rfl, hd⟩ := vy.dic s
    obtain ⟨a, rfl, hk⟩ := vx.key s ek
    exact .inr ⟨a, p, o, xs, _, _, _, rfl, rfl, hd, hk, ek, q _ H Hk (Grow.refl s) (.bl _)⟩
  · exact .inl (o_in H Hk x y dx dy dz Q s vx vy e q)
theorem o_notInX : Op2 K (rInX K not) notInX := by
  intro H Hk x y dx dy dz Q s vx vy e q
  unfold notInX at e
  split at e
  · split at e <;> cases e
    rename_i ek
    obtain ⟨p, o, xs, rfl, hd⟩ := vy.dic s
    obtain ⟨a, rfl, hk⟩ := vx.key s ek
    exact .inr ⟨a, p, o, xs, _, _, _, rfl, rfl, hd, hk, ek, q _ H Hk (Grow.refl s) (.bl _)⟩
  · exact .inl (o_notIn H Hk x y dx dy dz Q s vx vy e q)
theorem x_inX {n : Nat} (hr : Room n X.A) : OpR X (compareOp .In) (rInX X.K id) := (x_in (u65 hr)).or (op_inG hr)
theorem x_notInX {n : Nat} (hr : Room n X.A) : OpR X (compareOp .NotIn) (rInX X.K not) := (x_notIn (u65 hr)).or (op_notInG hr)
end
section
variable {K : PySem.W.Frag}
abbrev rIxX (K : PySem.W.Frag) : R2 := fun x y H Q => rIx K x y H Q ∨ rIxG K x y H Q
/-- what stands in a dict that is seen lasts -/
theorem Vw.dicK {H Hk : Hp} {v : V} {kvs : List (D × D)} (s : Same Hk H) (h : Vw K H Hk v (.dict kvs)) : ∃ p o xs, v = .ref p ∧ dicO kvs K H p o xs ∧ DpEnts K Hk xs kvs := by
  obtain ⟨p, o, xs, e, h1, h2, h3, h4, h5, h6⟩ := h.dct s
  exact ⟨p, o, xs, e, ⟨h1, h2, dpe_mono s h3, h4, h5, h6⟩, h3⟩
theorem o_ixX : Op2 K (rIxX K) ixX := by
  intro H Hk x y dx dy dz Q s vx vy e q
  unfold ixX at e
  split at e
  · split at e
    · rename_i ek
      obtain ⟨p, o, xs, rfl, hd, he⟩ := vx.dicK s
      obtain ⟨a, rfl, hk⟩ := vy.key s ek
      obtain ⟨qq, w, e1, r, hw⟩ := at_look he e
      exact .inr ⟨a, p, o, xs, _, _, _, rfl, rfl, hd, hk, ek, qq, w, e1, r, q _ H Hk (Grow.refl s) hw⟩
    · cases e
  · exact .inl (o_ix H Hk x y dx dy dz Q s vx vy e q)
end
section
variable {X : Cx} {a b : Expr} {f g : Fe} {pos : Pos} {n : Nat}
theorem dix (hr : Room n X.A) (ha : EV X a f) (hb : EV X b g) (hs : PlainIx b) : EV X (.Subscript a b pos) (f2 ixX f g) := PE.imp (pe_ix (ix_seq.or (ix_dic hr)) ha hb hs) fun _ _ _ h => t2 o_ixX h
theorem dixn {i : Nat} (hr : Room n X.A) (ha : PE X a (tVar i)) (hb : EV X b g) (hs : PlainIx b) : EV X (.Subscript a b pos) (f2n ixX i g) := PE.imp (pe_ix (ix_seq.or (ix_dic hr)) ha hb hs) fun _ _ _ h => t2n o_ixX h
theorem dixm {j : Nat} (hr : Room n X.A) (ha : EV X a f) (hb : PE X b (tVar j)) (hs : PlainIx b) : EV X (.Subscript a b pos) (f2m ixX f j) := PE.imp (pe_ix (ix_seq.or (ix_dic hr)) ha hb hs) fun _ _ _ h => t2m o_ixX h
theorem dixnn {i j : Nat} (hr : Room n X.A) (ha : PE X a (tVar i)) (hb : PE X b (tVar j)) (hs : PlainIx b) : EV X (.Subscript a b pos) (f2nn ixX i j) := PE.imp (pe_ix (ix_seq.or (ix_dic hr)) ha hb hs) fun _ _ _ h => t2nn o_ixX h
end
/-! ### d.get -/
@[simp] def fGet1 (i : Nat) (f : Fe) : Fe := fun γ => match view γ i with
  | some (.dict _) => match f γ with
    | some (kd, γ1) => match view γ1 i with
      | some (.dict kvs) => match keyD kd with
        | some k => some ((lookN kvs k).getD .none, γ1)
        | none => none
      | _ => none
    | none => none
  | _ => none
@[simp] def fGet2 (i : Nat) (f g : Fe) : Fe := fun γ => match view γ i with
  | some (.dict _) => match f γ with
    | some (kd, γ1) => match keyD kd with
      | some k => match g γ1 with
        | some (z, γ2) => match view γ2 i with
          | some (.dict kvs) => some ((lookN kvs k).getD z, γ2)
          | _ => none
        | none => none
      | none => none
    | none => none
  | _ => none
section
variable {X : Cx} {i : Nat}
theorem ev_get1 {n : Nat} (hr : Room n X.A) {d ke : Expr} {f : Fe} {a1 c1 : Pos} (hd : PE X d (tVar i)) (hk : EV X ke f)
    (b1 : attributeBase d "get" X.env (eval d X.env) = eval d X.env := by rfl)
    (f1' : ((backTo c1 (starEach [ke] X.env)).all (fun x => !x.1) && (backToKw c1 (keywordEach [] X.env)).all (fun x => x.1.isSome) && decide ([ke].length + ([] : List Keyword).length + (if ([] : List Keyword).isEmpty then 0 else 1) < 30)) = true := by rfl)
    (l1 : (a1.endLine == c1.line) = true := by rfl) (s1 : starEach [ke] X.env = (false, eval ke X.env) :: starEach [] X.env := by rfl) (p1 : (backTo c1 (starEach [] X.env)).any (·.1) = false := by rfl) :
    EV X (.Call (.Attribute d "get" a1) [ke] [] c1) (fGet1 i f) :=
  PE.imp (pe_meth PySem.F.plainAttrs_dict PySem.F.slot_dict_get PySem.F.type_dict_get (mt_getN hr) hd (pa_cons hk pa_nil s1) b1 f1' l1 s1 p1) fun σ H Q ⟨γ, Hk, dd, γ2, o, ee, q⟩ => by
  unfold fGet1 at ee
  split at ee
  · rename_i kv0 e0
    split at ee
    · rename_i kd γ1 ef
      split at ee
      · rename_i kvs ev
        split at ee <;> cases ee
        rename_i k ek
        obtain ⟨v0, ev0, w0⟩ := o.view e0
        obtain ⟨p0, o0, xs0, rfl, hd0⟩ := w0.dic o.sub
        refine ⟨.ref p0, ev0, dnO_ty hd0.1 hd0.2.1, γ, Hk, kd, _, o, ef, fun v1 H1 Hk1 g1 r1 => ?_⟩
        obtain ⟨v2, ev2, w2⟩ := g1.ok.view ev
        rw [ev0] at ev2; cases ev2
        obtain ⟨p1, o1, xs1, e1, hd1, he1⟩ := w2.dicK g1.ok.sub
        cases e1
        obtain ⟨a, rfl⟩ := key_ref r1 ek
        refine ⟨a, p0, o1, xs1, kvs, kd, k, rfl, hd1, dp_mono g1.ok.sub r1, ek, .inl ⟨rfl, fun no => ?_⟩, fun qq hq => ?_⟩
        · rw [(lookN_at he1).2 no] at q
          exact q .non H1 Hk1 g1 .non
        · obtain ⟨w, d, e2, rw', hw⟩ := (lookN_at he1).1 qq hq
          rw [e2] at q
          exact ⟨w, rw', q w H1 Hk1 g1 hw⟩
      · cases ee
    · cases ee
  · cases ee
theorem ev_get2 {n : Nat} (hr : Room n X.A) {d ke y : Expr} {f g : Fe} {a1 c1 : Pos} (hd : PE X d (tVar i)) (hk : EV X ke f) (hy : EV X y g)
    (b1 : attributeBase d "get" X.env (eval d X.env) = eval d X.env := by rfl)
    (f1' : ((backTo c1 (starEach [ke, y] X.env)).all (fun x => !x.1) && (backToKw c1 (keywordEach [] X.env)).all (fun x => x.1.isSome) && decide ([ke, y].length + ([] : List Keyword).length + (if ([] : List Keyword).isEmpty then 0 else 1) < 30)) = true := by rfl)
    (l1 : (a1.endLine == c1.line) = true := by rfl) (s1 : starEach [ke, y] X.env = (false, eval ke X.env) :: starEach [y] X.env := by rfl) (p1 : (backTo c1 (starEach [y] X.env)).any (·.1) = false := by rfl)
    (s1' : starEach [y] X.env = (false, eval y X.env) :: starEach [] X.env := by rfl) : EV X (.Call (.Attribute d "get" a1) [ke, y] [] c1) (fGet2 i f g) :=
  PE.imp (pe_meth PySem.F.plainAttrs_dict PySem.F.slot_dict_get PySem.F.type_dict_get (mt_getN hr) hd (pa_cons hk (pa_cons hy pa_nil s1') s1) b1 f1' l1 s1 p1) fun σ H Q ⟨γ, Hk, dd, γ2, o, ee, q⟩ => by
  unfold fGet2 at ee
  split at ee
  · rename_i kv0 e0
    split at ee
    · rename_i kd γ1 ef
      split at ee
      · rename_i k ek
        split at ee
        · rename_i z γ3 eg
          split at ee <;> cases ee
          rename_i kvs ev
          obtain ⟨v0, ev0, w0⟩ := o.view e0
          obtain ⟨p0, o0, xs0, rfl, hd0⟩ := w0.dic o.sub
          refine ⟨.ref p0, ev0, dnO_ty hd0.1 hd0.2.1, γ, Hk, kd, γ1, o, ef, fun v1 H1 Hk1 g1 r1 => ⟨γ1, Hk1, z, _, g1.ok, eg, fun y2 H2 Hk2 g2 r2 => ?_⟩⟩
          obtain ⟨v2, ev2, w2⟩ := g2.ok.view ev
          rw [ev0] at ev2; cases ev2
          obtain ⟨p1, o1, xs1, e1, hd1, he1⟩ := w2.dicK g2.ok.sub
          cases e1
          obtain ⟨a, rfl⟩ := key_ref r1 ek
          refine ⟨a, p0, o1, xs1, kvs, kd, k, rfl, hd1, dp_mono (g2.kk.trans g2.ok.sub) r1, ek, .inr ⟨y2, rfl, fun no => ?_⟩, fun qq hq => ?_⟩
          · rw [(lookN_at he1).2 no] at q
            exact q y2 H2 Hk2 (g1.trans g2) r2
          · obtain ⟨w, d, e2, rw', hw⟩ := (lookN_at he1).1 qq hq
            rw [e2] at q
            exact ⟨w, rw', q w H2 Hk2 (g1.trans g2) hw⟩
        · cases ee
      · cases ee
    · cases ee
  · cases ee
end
/-! ### d = {}; d[k] = v -/
@[simp] def sDicNew (i : Nat) : Fs := fun γ => if pinB γ i then none else some (.nx (γ.set i (some (.ow false (.dic [])))))
@[simp] def sDicPut (i : Nat) (f g : Fe) : Fs := fun γ => match f γ with
  | some (d, γ1) => match gt γ1 i with
    | some (.ow _ (.dic _)) => match g γ1 with
      | some (kd, γ2) => match gt γ2 i with
        | some (.ow b (.dic kvs)) => match keyD kd with
          | some k => if okN kvs.length then some (.nx (γ2.set i (some (.ow b (.dic (storeN kvs kd k d)))))) else none
          | none => none
        | _ => none
      | none => none
    | _ => none
  | none => none
section
variable {W : WX} {X : Cx} {e a i' : Expr} {f g : Fe} {pos : Pos}
theorem es_dicNew (i : Nat) {x : Str} {p' dp pos : Pos} (hN : X.N.Nodup) (hi : X.N[i]? = some x) (hx : Loc X.env.scope x) (hs : swapsWith (.Dict [] [] dp) (some (.Name x p')) pos.line X.env = pure false := by rfl)
    (hf : X.fn x = true ∨ X.env.scope.names.lookup x = some .local := by first | exact .inl rfl | exact .inr rfl | assumption) : ES X W (.Assign [.Name x p'] (.Dict [] [] dp) pos) (sDicNew i) :=
  PS.imp (ps_set hN hi hx pe_dicNew hs hf) fun Z σ H ⟨γ, Hk, o, k, e, q⟩ => by
  unfold sDicNew at e
  split at e <;> cases e
  rename_i c
  intro p ob hp hs ho
  exact q _ _ _ (k.setNew (same_upd hp) (.dic upd_same (k.sub.free hp) ho .nil List.nodup_nil hs (Nat.zero_le _)) (fun a ha => by rw [List.mem_singleton.mp ha]; exact hp) (noPin_of k (by simpa using c)))
theorem es_dicPut (i : Nat) {n : Nat} (hr : Room n X.A) {p' : Pos} (he : EV X e f) (ho : PE X a (tVar i)) (hi : EV X i' g)
    (ha : ∀ v, assign (.Subscript a i' p') X.env v = (do
      let ov ← holding [v] (eval a X.env)
      let iv ← holding [v, ov] (eval i' X.env)
      standAt p'
      holding [v, ov, iv] (setItem ov iv v)
      release [v, ov, iv] []) := by intro _; rfl)
    (hs : swapsWithSole [.Subscript a i' p'] e pos.line X.env = pure false := by rfl) (hw : swappedStores [.Subscript a i' p'] e X.env = pure none := by rfl)
    (h1 : (assignEach [.Subscript a i' p'] X.env).map (·.2) = [assign (.Subscript a i' p') X.env] := by rfl) : ES X W (.Assign [.Subscript a i' p'] e pos) (sDicPut i f g) :=
  PS.imp (ps_asg he (pg_sub ho hi (set_dicN hr) ha) hs hw h1) fun Z σ H ⟨γ, Hk, o, k, e, q⟩ => by
  unfold sDicPut at e
  split at e
  · rename_i d γ1 ef
    split at e
    · rename_i b0 kv0 e0
      split at e
      · rename_i kd γ2 eg
        split at e
        · rename_i b kvs eo
          split at e
          · rename_i key ek
            split at e <;> cases e
            rename_i c
            refine ⟨γ, Hk, d, γ1, k, ef, fun v H1 Hk1 g1 r1 => ?_⟩
            obtain ⟨v0, fp0, e1, r0⟩ := g1.ok.ow i _ _ e0
            obtain ⟨p, rfl⟩ : ∃ p, v0 = .ref p := by cases r0; exact ⟨_, rfl⟩
            refine ⟨_, e1, γ1, Hk1, kd, γ2, g1.ok, eg, fun w H2 Hk2 g2 r2 => ?_⟩
            obtain ⟨v2, fp2, e2, r3⟩ := g2.ok.ow i _ _ eo
            rw [e1] at e2; cases e2
            have r3' := r3
            cases r3 with
            | @dic p o xs kvs h1 h2 h3 h4 h5 h6 h7 =>
              obtain ⟨a', rfl⟩ := key_ref r2 ek
              have sub := g2.ok.sub
              have rv := dp_mono g2.kk r1
              refine ⟨p, o, xs, kvs, a', kd, key, d, rfl, rfl, ⟨h1, h3, dpe_mono sub h4, h5, h6, h7⟩, dp_mono sub r2, ek, dp_mono sub rv, by rw [ents_len h4]; exact okN_lt c, fun o2 u ru ho2 nd2 hl2 => ?_⟩
              exact q _ _ _ ((g1.trans g2).trans (g2.ok.change eo e1 r3' (fun x y hx hn => by rw [upd_ne (fun z => hn (by simp [z]))]; exact hx) (.dic upd_same h2 ho2 (ents_store ek r2 ru rv h4) nd2 h6 hl2) (fun x hx => .inl hx)))
          · cases e
        · cases e
      · cases e
    · cases e
  · cases e
end
end DN
namespace DN
open PySem PySem.Spec PyProof.Rows L2
/-! ### {k: v for .. in .. if ..}: keys that are tuples -/
abbrev noDict : Obj := { cls := .type "dict", data := .dict #[] }
theorem noDict_is : DictO noDict [] := ⟨⟨rfl, rfl, rfl⟩, #[], 0, rfl, rfl⟩
/-- a comprehension's parts, read within its block -/
structure DcB (X : Cx) (kx vx tg iter : Expr) (ifs : List Expr) (scope : Scope) (own : List (Str × Nat)) (wi : TI) (g : TG) (tt : TT) (tk tv : TE) : Prop where
  calm : X.calm = true
  nd : X.N.Nodup
  src : PI X tg iter wi
  ok : BlkOk X.N X.env.scope scope own
  go : ∀ (s : Shared) (H : Hp) (C : Addr) (cl : List (Str × Addr)) (fp : List Addr), PG (X.blk s H scope (compEnvC scope cl C X.env) fp) tg g
  ts : ∀ (s : Shared) (H : Hp) (C : Addr) (cl : List (Str × Addr)) (fp : List Addr), PTs (X.blk s H scope (compEnvC scope cl C X.env) fp) ifs tt
  ke : ∀ (s : Shared) (H : Hp) (C : Addr) (cl : List (Str × Addr)) (fp : List Addr), PE (X.blk s H scope (compEnvC scope cl C X.env) fp) kx tk
  va : ∀ (s : Shared) (H : Hp) (C : Addr) (cl : List (Str × Addr)) (fp : List Addr), PE (X.blk s H scope (compEnvC scope cl C X.env) fp) vx tv
  fold : ∀ x, foldedSetIterable iter X.env x = pure x
/-- what the loop asks: D the new dict -/
def tDcL (K : PySem.W.Frag) (J : It) (g : TG) (tt : TT) (tk tv : TE) (vs : List Nat) (σ : L2.St) (H1 : Hp) (D : Addr) (Q : VK) : Prop := ∃ W : Nat → Nat → Hp → Prop, (∃ m, W 0 m (upd H1 D (dnO D noDict))) ∧ ∀ i m H, W i m H →
  (J.stop i H ∧ Q (.ref D) H) ∨ (J.go i H ∧ ∃ Nx : Hp → Prop, (∀ H', Nx H' → ∃ m', m' < m ∧ W (i + 1) m' H') ∧ ∀ x H', J.yld i H x H' → g x (wipe σ vs) H' fun σ2 H2 =>
    wipe σ2 vs = wipe σ vs ∧ tt σ2 H2 fun b H3 => if b = true then tk σ2 H3 fun y H4 => tv σ2 H4 fun z H5 => rSetN K (.ref D) y z H5 Nx else Nx H3)
def tDcN (K : PySem.W.Frag) (wi : TI) (g : TG) (tt : TT) (tk tv : TE) (vs : List Nat) : TE := fun σ H Q => wi σ H fun J H1 => ∀ D, H1 D = none → (D == sysModules) = false → tDcL K J g tt tk tv vs σ H1 D Q
/-- the store of a comprehension -/
theorem dic_set {X : Cx} {n : Nat} (hr : Room n X.A) {pins : List (Addr × Obj)} {s : Shared} {σ : L2.St} {H : Hp} {D : Addr} {i v : V} {iv u : Value} {Q : Hp → Prop} {E : Value → Shared → Prop} {R : Unit → Shared → Prop} (I : Inv X pins σ H s) (ri : RelV i iv) (rv : RelV v u)
    (h : rSetN X.K (.ref D) i v H Q) (hR : ∀ H' s', Inv X pins σ H' s' → Q H' → R () s') : wpAny (model X.prog X.w) X.A (dictSet D iv u) R E s := by
  obtain ⟨p, ob, xs, kvs, a, kd, k, d, e1, rfl, ⟨h1, h2, h3, h4, h5, h6⟩, hk, ek, hd, hz, q⟩ := h
  cases e1
  cases ri
  have un := hr.un
  have hm := dictN_at I h1 h2 h3 h4
  refine wpAny_dictSet_heap (hsz := h6) (by show X.A.units + 8 < cLine; omega) (keyN_at I hk ek) hm fun h' hm' hs => ?_
  obtain ⟨o2, ho2, hd2, nd2⟩ := dictN_of hm' (ents_store ek hk rv hd h3)
  have hl : (storedH xs k a u).length ≤ sizeLine := by
    have := storeN_len kvs kd k d
    rw [← ents_len h3] at this
    rw [ents_len (ents_store ek hk rv hd h3)]
    omega
  exact hR _ _ (I.write (x := D) (e := D) (by rw [h1]; exact True.intro) (.inl rfl) (fun b u hne z => (hs.2 b hne).trans z) ⟨o2, ho2⟩ (dnO_ok ho2)) (q o2 u rv hd2 nd2 hl)
section
variable {X : Cx} {kx vx tg iter : Expr} {ifs : List Expr} {scope : Scope} {own : List (Str × Nat)} {wi : TI} {g : TG} {tt : TT} {tk tv : TE}
theorem dcN_core {n0 : Nat} (hr : Room n0 X.A) (B : DcB X kx vx tg iter ifs scope own wi g tt tk tv) {pins : List (Addr × Obj)} {s : Shared} {σ : L2.St} {H : Hp} {Q : VK} {pos pos' : Pos} {use : Option (Value → Sem Unit)} {Qf : Value → Shared → Prop} (I : Inv X pins σ H s) (h : tDcN X.K wi g tt tk tv (own.map (·.2)) σ H Q)
    (hRR : ∀ D C s' m H', Inv X pins σ H' s' → Q (.ref D) H' → s'.heap.Ns C m → FpOk X pins H' C → compPost (model X.prog X.w) X.A X.xe use Qf (.ref D) C (.ok .next) s') :
    wpAny (model X.prog X.w) X.A (comprehension (.DictComp kx vx [⟨tg, iter, ifs, 0⟩] scope pos) scope X.env pos' newDict false (eval iter X.env) use) Qf X.xe s := by
  have cellHas : ∀ y ∈ scope.names, y.2 = .free → ∃ c, X.env.cells.lookup y.1 = some c := fun y hy e => (B.ok.free y hy e).elim (fun k => I.ok.has _ (.inl k)) fun k => I.ok.has _ (.inr k)
  refine wpAny_comprehension_free (use := use) rfl B.fold (closure_ok cellHas) B.ok.kind (fun y hy e => by rw [B.ok.uniq y hy, e]) (thn (B.src.run pins s σ H _ I h) fun xv s1 hx => thn hx fun itv s2 h2 => ?_)
  obtain ⟨it, fp, tn, J, H2, rfl, I2, T, st2, f2, q⟩ := h2
  refine wpAny_newObj_type (newEnv_comp ?_)
  obtain ⟨D, hD⟩ : ∃ D, s2.heap.objs.size = D := ⟨_, rfl⟩
  rw [hD]
  have freshD : H2 D = none := I2.hok.fresh (Nat.le_of_eq hD)
  have noSys : (D == sysModules) = false := by
    rw [← hD]
    exact beq_eq_false_iff_ne.mpr (Nat.ne_of_gt I2.big)
  obtain ⟨W, ⟨m0, w0⟩, turn⟩ := q D freshD noSys
  obtain ⟨s3, hs3⟩ : ∃ s3 : Shared, ({ s2 with heap := s2.heap.push noDict } : Shared) = s3 := ⟨_, rfl⟩
  have hp3 : s3.heap = s2.heap.push noDict := by rw [← hs3]
  have I3 : Inv X pins σ (upd H2 D (dnO D noDict)) s3 := by
    rw [← hs3]
    exact I2.laid (t' := s2.toks) (fun b o e => Heap.get?_push_of_some _ e) (Nat.le_of_eq hD) (dnO_ok (by rw [← hD]; exact Heap.get?_push_size _ rfl))
  obtain ⟨H3, hH3⟩ : ∃ H3, upd H2 D (dnO D noDict) = H3 := ⟨_, rfl⟩
  rw [hH3] at I3 w0
  have below : ∀ b ∈ fp, b < s2.heap.objs.size := fun b hb => let ⟨_, e, _⟩ := T.obj _ _ st2 b hb; Heap.lt_size e
  have f3 : ∀ b ∈ fp, FpOk X pins H3 b ∧ b < s3.heap.objs.size := fun b hb => by
    have lt := below b hb
    refine ⟨⟨?_, (f2 b hb).2⟩, by rw [hp3, Heap.size_push]; exact Nat.lt_succ_of_lt lt⟩
    rw [← hH3, upd_ne (by rw [← hD]; exact Nat.ne_of_lt lt)]
    exact (f2 b hb).1
  have st3 : tn 0 s3.heap := T.keep _ _ _ st2 fun b _ o e => by
    rw [hp3]
    exact Heap.get?_push_of_some _ e
  have I4 := block_start I3 B.ok B.nd f3
  obtain ⟨C, hC⟩ : ∃ C, s3.heap.objs.size = C := ⟨_, rfl⟩
  rw [hC] at I4
  obtain ⟨cl, hcl⟩ : ∃ cl, cellsFrom (C + 1) scope.names (cloFrom X.env.cells scope.names []) = cl := ⟨_, rfl⟩
  rw [hcl] at I4
  have pg := B.go s3 H3 C cl fp
  have pt := B.ts s3 H3 C cl fp
  have pk := B.ke s3 H3 C cl fp
  have pv := B.va s3 H3 C cl fp
  show codeAny _ _ (.compStart (.DictComp kx vx [⟨tg, iter, ifs, 0⟩] scope pos) 0 (.ref it) (.ref D) (compEnvC scope (cellsFrom (({ s2 with heap := s2.heap.push noDict } : Shared).heap.objs.size + 1) scope.names (cloFrom X.env.cells scope.names [])) ({ s2 with heap := s2.heap.push noDict } : Shared).heap.objs.size X.env))
    (compPost (model X.prog X.w) X.A X.xe use Qf (.ref D) ({ s2 with heap := s2.heap.push noDict } : Shared).heap.objs.size) { ({ s2 with heap := s2.heap.push noDict } : Shared) with heap := pushCells (({ s2 with heap := s2.heap.push noDict } : Shared).heap.push noDict) scope.names }
  rw [hs3, hC, hcl]
  obtain ⟨ce, hce⟩ : ∃ ce, compEnvC scope cl C X.env = ce := ⟨_, rfl⟩
  rw [hce] at I4 pg pt pk pv ⊢
  have cL : ce.locals = C := by rw [← hce]; rfl
  obtain ⟨s4, hs4⟩ : ∃ s4 : Shared, ({ s3 with heap := pushCells (s3.heap.push noDict) scope.names } : Shared) = s4 := ⟨_, rfl⟩
  rw [hs4] at I4 ⊢
  have st4 : tn 0 s4.heap := T.keep _ _ _ st3 fun b _ o e => by
    rw [← hs4]
    exact pushCells_keeps _ _ _ _ (Heap.get?_push_of_some _ e)
  have stand : ∀ {σ' : L2.St} {H' : Hp} {s' : Shared}, Inv (X.blk s3 H3 scope ce fp) [] σ' H' s' → (∀ b ∈ fp, H' b = none) → ∀ b ∈ fp, FpOk (X.blk s3 H3 scope ce fp) [] H' b := fun {σ' H' s'} I' hn b hb =>
    ⟨hn b hb, (I'.ok.exf b hb).1, I'.ok.exfs b hb, .inl hb, fun x c e => (I'.ok.exf b hb).2 x c e, fun p hp => by cases hp⟩
  have loop : codeAny (model X.prog X.w) X.A (.compLoop (.DictComp kx vx [⟨tg, iter, ifs, 0⟩] scope pos) 0 (.ref it) (.ref D) ce) (compPost (model X.prog X.w) X.A X.xe use Qf (.ref D) C) s4 := by
    refine compLoop_anyD (fun n s' => ∃ i H', Inv (X.blk s3 H3 scope ce fp) [] (wipe σ (own.map (·.2))) H' s' ∧ tn i s'.heap ∧ (∀ b ∈ fp, H' b = none) ∧ W i n H') ?_ m0 ⟨0, H3, I4, st4, fun b hb => (f3 b hb).1.1, w0⟩
    rintro n s5 ⟨i, H5, I5, st5, n5, w5⟩
    rcases turn i n H5 w5 with ⟨stop, qq⟩ | ⟨go, Nx, hNx, step⟩
    · refine thnF (T.done (X.blk s3 H3 scope ce fp) rfl rfl rfl B.calm i [] s5 _ H5 (fun _ _ => False) I5 (stand I5 n5) st5 stop) fun r s6 ⟨hr6, I6⟩ => ?_
      subst hr6
      have I7 : Inv X pins σ H5 s6 := I3.call' (ch := fp) I6.os I6.base I6.hok I6.bare fun b hb => let z := (f3 b hb).1.2; ⟨z.2.2.1, z.1, z.2.2.2.1, z.2.2.2.2⟩
      have nC : H5 C = none := by
        have z : H5 ce.locals = none := I6.free
        rw [cL] at z
        exact z
      obtain ⟨m, hn, _⟩ := I6.loc
      have hn : s6.heap.Ns ce.locals m := hn
      rw [cL] at hn
      exact hRR D C s6 m H5 I7 qq hn (I3.fpOk (Nat.le_of_eq hC) nC)
    · refine thnF (T.item (X.blk s3 H3 scope ce fp) rfl rfl rfl B.calm i [] s5 _ H5 (fun _ _ => False) I5 (stand I5 n5) st5 go) fun r s6 ⟨u, hr6, h6⟩ => ?_
      subst hr6
      refine thnF h6 fun _ s7 ⟨x, H7, I7, r7, y7, st7, n7⟩ => ?_
      have J7 := I7.pinned (stand I7 n7) (T.obj _ _ st7)
      refine thnF (pg.run _ s7 _ H7 x u _ J7 r7 (step x H7 y7)) fun _ s8 ⟨σ8, H8, I8, hw8, q8⟩ => thnF (pt.run _ s8 σ8 H8 _ I8 q8) fun b s9 ⟨H9, I9, q9⟩ => ?_
      have done : ∀ {s' : Shared} {H' : Hp}, Inv (X.blk s3 H3 scope ce fp) ([] ++ pinsAt fp s7.heap) σ8 H' s' → Nx H' → ∃ m, m < n ∧ ∃ i H', Inv (X.blk s3 H3 scope ce fp) [] (wipe σ (own.map (·.2))) H' s' ∧ tn i s'.heap ∧ (∀ b ∈ fp, H' b = none) ∧ W i m H' := by
        intro s' H' I' nx
        obtain ⟨m', hm, w'⟩ := hNx H' nx
        have kept : ∀ b ∈ fp, ∀ o, s7.heap.get? b = some o → s'.heap.get? b = some o ∧ H' b = none := fun b hb o e => by
          have z := I'.pin (b, o) (List.mem_append_right _ (List.mem_append_right _ (mem_pinsAt hb e)))
          exact ⟨z.1, z.2.1⟩
        refine ⟨m', hm, i + 1, H', (I'.unpinned (pins := [])).weak (by rw [← hw8, wipe_length]) (fun j v e => ?_), T.keep _ _ _ st7 fun b hb o e => (kept b hb o e).1, fun b hb => ?_, w'⟩
        · rw [← hw8] at e
          exact (wipe_some e).1
        · obtain ⟨o, e, _⟩ := T.obj _ _ st7 b hb
          exact (kept b hb o e).2
      cases b with
      | false =>
        rw [if_neg Bool.false_ne_true] at q9
        rw [if_neg Bool.false_ne_true]
        exact done I9 q9
      | true =>
        rw [if_pos rfl] at q9
        rw [if_pos rfl]
        refine thnF (pk.run _ s9 σ8 H9 _ I9 q9) fun z s10 ⟨yk, H10, I10, r10, q10⟩ => thnF (pv.run _ s10 σ8 H10 _ I10 q10) fun z2 s11 ⟨yv, H11, I11, r11, q11⟩ => ?_
        exact dic_set (X := X.blk s3 H3 scope ce fp) hr I11 r10 r11 q11 fun H' s' I' nx => done I' nx
  exact codeAny_compStart_dict loop (T.self X.A 0 _ _ _ st4 loop)
end
end DN
namespace DN
open PySem PySem.Spec PyProof.Rows L2
abbrev Kvs := List (D × D)
abbrev Fd := En → Option (Kvs × En)
def dcF (js : List Nat) (tg : Fg) (tt : Ft) (kf vf : Fe) : List D → En → Kvs → Option (Kvs × En)
  | [], γ, acc => some (acc, γ)
  | d :: ds, γ, acc => match tg d γ with
    | some γ0 => match tt γ0 with
      | some (true, γ1) => match kf γ1 with
        | some (kd, γ2) => match vf γ2 with
          | some (y, γ3) => match keyD kd with
            | some k => if okN acc.length && noOwns γ3 js then dcF js tg tt kf vf ds (wipeE γ3 js) (storeN acc kd k y) else none
            | none => none
          | none => none
        | none => none
      | some (false, γ1) => if noOwns γ1 js then dcF js tg tt kf vf ds (wipeE γ1 js) acc else none
      | none => none
    | none => none
@[simp] def lDc (js : List Nat) (tg : Fg) (src : Fa) (tt : Ft) (kf vf : Fe) : Fd := fun γ => match src γ with
  | some (ds, γ1) => if noOwns γ1 js then match dcF js tg tt kf vf ds (wipeE γ1 js) [] with
    | some (out, γ2) => some (out, putBack γ1 γ2 js)
    | none => none
    else none
  | none => none
/-- a new dict -/
def NewDic (K : PySem.W.Frag) (Hk : Hp) (p : Addr) (ob : Obj) (xs : List (NestedKey × Addr × Value)) (kvs : Kvs) : Prop := DictO ob xs ∧ DpEnts K Hk xs kvs ∧ (xs.map (·.1)).Nodup ∧ (p == sysModules) = false ∧ xs.length ≤ sizeLine
def tDl (K : PySem.W.Frag) (fl : Fd) : TE := fun σ H Q => ∃ γ Hk kvs γ2, Ok K σ H Hk γ ∧ fl γ = some (kvs, γ2) ∧ ∀ p ob xs H2 Hk2, Go K σ H Hk γ σ H2 Hk2 γ2 → H2 p = none → NewDic K Hk2 p ob xs kvs → Q (.ref p) (upd H2 p (dnO p ob))
section
variable {K : PySem.W.Frag}
theorem dc_imp {js : List Nat} {g : TG} {tg : Fg} {src : Fa} {tt : Ft} {kf vf : Fe} {σ : L2.St} {H : Hp} {Q : VK} (hg : TgOk K g tg js) (h : tDl K (lDc js tg src tt kf vf) σ H Q) : tDcN K (tIt K src) g (tT K tt) (tI K kf) (tI K vf) js σ H Q := by
  obtain ⟨γ, Hk, out, γr, k, e, q⟩ := h
  unfold lDc at e
  split at e
  · rename_i ds γ1 es
    split at e
    · rename_i no
      split at e <;> cases e
      rename_i γ2 el
      refine ⟨γ, Hk, ds, γ1, k, es, fun J H1 Hk1 g1 wk L hL hS => ?_⟩
      have gd := dropAll g1.ok js no
      have hk1L : Hk1 L = none := g1.ok.sub.free hL
      let Wv : Nat → Nat → Hp → Prop := fun i m H' => m = ds.length - i ∧ i ≤ ds.length ∧ ∃ γ' Hk' acc ob xs H0, H' = upd H0 L (dnO L ob) ∧ H0 L = none ∧ Go K (wipe σ js) H1 Hk1 (wipeE γ1 js) (wipe σ js) H0 Hk' γ' ∧ (∀ j ∈ js, gt γ' j = none) ∧ Hk' L = none ∧ Same Hk1 Hk' ∧ NewDic K Hk' L ob xs acc ∧ dcF js tg tt kf vf (ds.drop i) γ' acc = some (out, γ2)
      refine ⟨Wv, ⟨ds.length, by simp, Nat.zero_le _, wipeE γ1 js, Hk1, [], noDict, [], H1, rfl, hL, Go.refl gd.ok, fun j hj => gt_wipe_in _ hj, hk1L, Same.refl _, ⟨noDict_is, .nil, List.nodup_nil, hS, Nat.zero_le _⟩, by simpa using el⟩, ?_⟩
      rintro i m H' ⟨rfl, hi, γ', Hk', acc, ob, xs, H0, rfl, h0L, gg, gj, hkL, sk, ra, ef⟩
      obtain ⟨w1, w2⟩ := wk (upd H0 L (dnO L ob)) Hk' sk (gg.ok.sub.trans (same_upd h0L))
      by_cases hlt : i < ds.length
      · obtain ⟨go, yl⟩ := w1 i hlt
        rw [List.drop_eq_getElem_cons hlt] at ef
        unfold dcF at ef
        refine .inr ⟨go, Wv (i + 1) (ds.length - (i + 1)), fun H3 w => ⟨_, by omega, w⟩, fun x H'' y => ?_⟩
        obtain ⟨Hc, gr, rv⟩ := yl x H'' y
        have ok0 : Ok K (wipe σ js) (upd H0 L (dnO L ob)) Hk' γ' := gg.ok.grow (Grow.newH gg.ok.sub h0L)
        have gy := ok0.go gr
        split at ef
        · rename_i γ0 etg
          refine hg x ds[i] _ _ Hc γ' γ0 _ gy.ok rv etg fun σ2 gt2 hw => ?_
          rw [wipe_wipe] at hw
          have ga := gy.trans gt2
          have back : ∀ {H3 Hk3 : Hp} {γ3 : En}, Go K (wipe σ js) H0 Hk' γ' σ2 H3 Hk3 γ3 → noOwns γ3 js = true → Go K (wipe σ js) H1 Hk1 (wipeE γ1 js) (wipe σ js) H3 Hk3 (wipeE γ3 js) := fun {H3 Hk3 γ3} g3 n3 => by
            have := (gg.trans g3).trans (dropAll g3.ok js n3)
            rw [hw] at this
            exact this
          refine ⟨hw, ?_⟩
          split at ef
          · rename_i γ3 et
            refine ⟨γ0, Hc, true, γ3, gt2.ok, et, fun H3 Hk3 g3 => ?_⟩
            refine iteT ?_
            split at ef
            · rename_i kd γ4 ee
              refine ⟨γ3, Hk3, kd, γ4, g3.ok, ee, fun u H4 Hk4 g4 r4 => ?_⟩
              split at ef
              · rename_i y γ5 ev
                refine ⟨γ4, Hk4, y, γ5, g4.ok, ev, fun z H5 Hk5 g5 r5 => ?_⟩
                split at ef
                · rename_i key ek
                  split at ef
                  · rename_i c
                    rw [Bool.and_eq_true] at c
                    obtain ⟨H05, rfl, h05, hk5, g6⟩ := aside gg.ok h0L hkL (((ga.trans g3).trans g4).trans g5)
                    obtain ⟨d1, d2, d3, d4, d5⟩ := ra
                    have kk5 : Same Hk' Hk5 := g6.kk
                    have r4' := dp_mono g5.kk r4
                    obtain ⟨a, rfl⟩ := key_ref r4' ek
                    have sub5 : Same Hk5 (upd H05 L (dnO L ob)) := g6.ok.sub.trans (same_upd h05)
                    have de := dpe_mono kk5 d2
                    refine ⟨L, ob, xs, acc, a, kd, key, y, rfl, rfl, ⟨upd_same, d1, dpe_mono sub5 de, d3, d4, d5⟩, dp_mono sub5 r4', ek, dp_mono sub5 r5, by rw [ents_len d2]; exact okN_lt c.1, fun o2 u ru ho2 nd2 hl2 => ?_⟩
                    refine ⟨rfl, hlt, _, Hk5, storeN acc kd key y, o2, storedH xs key a u, H05, upd_upd, h05, back g6 c.2, fun j hj => gt_wipe_in _ hj, hk5, sk.trans kk5, ⟨ho2, ents_store ek r4' ru r5 de, nd2, d4, hl2⟩, ef⟩
                  · cases ef
                · cases ef
              · cases ef
            · cases ef
          · rename_i γ3 et
            refine ⟨γ0, Hc, false, γ3, gt2.ok, et, fun H3 Hk3 g3 => ?_⟩
            refine iteF ?_
            split at ef
            · rename_i c
              obtain ⟨H03, rfl, h03, hk3, g5⟩ := aside gg.ok h0L hkL (ga.trans g3)
              obtain ⟨d1, d2, d3, d4, d5⟩ := ra
              exact ⟨rfl, hlt, _, Hk3, acc, ob, xs, H03, rfl, h03, back g5 c, fun j hj => gt_wipe_in _ hj, hk3, sk.trans g5.kk, ⟨d1, dpe_mono g5.kk d2, d3, d4, d5⟩, ef⟩
            · cases ef
          · cases ef
        · cases ef
      · have e0 : i = ds.length := by omega
        subst e0
        rw [List.drop_length] at ef
        cases ef
        exact .inl ⟨w2 _ (Nat.le_refl _), q L ob xs H0 Hk' (g1.trans (restoreAll g1.ok js _ no gg gj)) h0L ra⟩
    · cases e
  · cases e
end
/-- told as data -/
@[simp] def fDl (fl : Fd) : Fe := fun γ => match fl γ with
  | some (kvs, γ2) => some (.dict kvs, γ2)
  | none => none
theorem NewDic.give {K : PySem.W.Frag} {σ : L2.St} {H Hk H2 Hk2 : Hp} {γ γ2 : En} {p : Addr} {ob : Obj} {xs : List (NestedKey × Addr × Value)} {kvs : Kvs} (n : NewDic K Hk2 p ob xs kvs) (g : Go K σ H Hk γ σ H2 Hk2 γ2) (hp : H2 p = none) :
    Go K σ H Hk γ σ (upd H2 p (dnO p ob)) (upd Hk2 p (dnO p ob)) γ2 ∧ Dp K (upd Hk2 p (dnO p ob)) (.ref p) (.dict kvs) := by
  have g2 : Grow H2 Hk2 (upd H2 p (dnO p ob)) (upd Hk2 p (dnO p ob)) := Grow.new g.ok.sub hp
  obtain ⟨d1, d2, d3, d4, d5⟩ := n
  exact ⟨g.trans (g.ok.go g2), .dct upd_same d1 (dpe_mono g2.kk d2) d3 d4 d5⟩
theorem dl_E {K : PySem.W.Frag} {fl : Fd} {σ : L2.St} {H : Hp} {Q : VK} (h : tI K (fDl fl) σ H Q) : tDl K fl σ H Q := by
  obtain ⟨γ, Hk, d, γ2, o, ee, q⟩ := h
  unfold fDl at ee
  split at ee <;> cases ee
  rename_i kvs efa
  refine ⟨γ, Hk, kvs, γ2, o, efa, fun p ob xs H2 Hk2 g hp r => ?_⟩
  obtain ⟨g2, r2⟩ := r.give g hp
  exact q _ _ _ g2 r2
@[simp] def sDl (i : Nat) (fl : Fd) : Fs := fun γ => match fl γ with
  | some (kvs, γ1) => if pinB γ1 i then none else some (.nx (γ1.set i (some (.ow false (.dic kvs)))))
  | none => none
theorem dl_own {K : PySem.W.Frag} {W : WX} {i : Nat} {fl : Fd} {Z : Ends} {σ : L2.St} {H : Hp} (h : tS K W (sDl i fl) Z σ H) : tAsg (tDl K fl) (gName i) Z σ H := by
  obtain ⟨γ, Hk, o, k, e, q⟩ := h
  unfold sDl at e
  split at e
  · rename_i kvs γ1 ef
    split at e <;> cases e
    rename_i c
    refine ⟨γ, Hk, kvs, γ1, k, ef, fun p ob xs H1 Hk1 g1 hp r1 => ?_⟩
    obtain ⟨d1, d2, d3, d4, d5⟩ := r1
    exact q _ _ _ (g1.trans (g1.ok.setNew (same_upd hp) (.dic upd_same (g1.ok.sub.free hp) d1 d2 d3 d4 d5) (fun a ha => by rw [List.mem_singleton.mp ha]; exact hp) (noPin_of g1.ok (by simpa using c))))
  · cases e
theorem dl_dat {K : PySem.W.Frag} {W : WX} {i : Nat} {fl : Fd} {Z : Ends} {σ : L2.St} {H : Hp} (h : tS K W (sAsg (fDl fl) (gDat i)) Z σ H) : tAsg (tDl K fl) (gName i) Z σ H := by
  have h2 := asg_imp h
  refine dl_E (fl := fl) (Q := fun x H1 => gName i x σ H1 Z.nx) ?_
  obtain ⟨γ, Hk, d, γ2, k, ef, q⟩ := h2
  exact ⟨γ, Hk, d, γ2, k, ef, fun v H1 Hk1 g1 r1 => gDat_imp (q v H1 Hk1 g1 r1)⟩
section
variable {X : Cx} {W : WX} {kx vx it tge : Expr} {ifs : List Expr} {scope : Scope} {own : List (Str × Nat)} {src : Fa} {g : TG} {tg : Fg} {tt : Ft} {kf vf : Fe} {pos : Pos} {js : List Nat} {y : Str} {n0 : Nat}
/-- the parts of a dict comprehension, as functions of data -/
abbrev DcE (X : Cx) (kx vx tge it : Expr) (ifs : List Expr) (scope : Scope) (own : List (Str × Nat)) (src : Fa) (g : TG) (tt : Ft) (kf vf : Fe) : Prop := DcB X kx vx tge it ifs scope own (tIt X.K src) g (tT X.K tt) (tI X.K kf) (tI X.K vf)
theorem pe_dcN (hr : Room n0 X.A) (B : DcE X kx vx tge it ifs scope own src g tt kf vf) (hj : own.map (·.2) = js) (htg : TgOk X.K g tg js) : PE X (.DictComp kx vx [⟨tge, it, ifs, 0⟩] scope pos) (tDl X.K (lDc js tg src tt kf vf)) := by
  subst hj
  refine ⟨fun pins s σ H Q I h => ?_⟩
  rw [arm_eval_DictComp]
  refine dcN_core hr B I (dc_imp htg h) fun D C s' m H' I' q hn f => ⟨m, hn, fun h'' sb => ?_⟩
  obtain ⟨f0, f1, f2, f3, f4, f5⟩ := f
  exact ⟨.ref D, H', I'.turned (t' := s'.toks) (fun b o hb e => (sb.2 b hb).trans e) f0 f1 f3 f4 f5, rfl, q⟩
theorem ev_dc (hr : Room n0 X.A) (B : DcE X kx vx tge it ifs scope own src g tt kf vf) (hj : own.map (·.2) = js) (htg : TgOk X.K g tg js) : EV X (.DictComp kx vx [⟨tge, it, ifs, 0⟩] scope pos) (fDl (lDc js tg src tt kf vf)) :=
  PE.imp (pe_dcN hr B hj htg) fun _ _ _ h => dl_E h
theorem swD_true {gs : List Comprehension} {pos py : Pos} {l : Nat} {env : Env} (hk : env.scope.kind = .function) (hy : env.scope.names.lookup y = some .local) (hl : (py.line == pos.line) = true)
    (ha : (scope.names.any fun (n, k) => n == y && (k == .local || k == .cell)) = false) : swapsWith (.DictComp kx vx gs scope pos) (some (.Name y py)) l env = pure true := by
  have k1 : env.kindOf y = some .local := hy
  have k2 : env.blockKind = .function := by unfold Env.blockKind; rw [hk]; rfl
  unfold swapsWith
  simp only [k2, k1, ha, Expr.pos, hl]
  rfl
theorem ps_dcN {i : Nat} {py spos : Pos} (hr : Room n0 X.A) (B : DcE X kx vx tge it ifs scope own src g tt kf vf) (hj : own.map (·.2) = js) (htg : TgOk X.K g tg js) (hy : X.N[i]? = some y) (hyl : X.env.scope.names.lookup y = some .local)
    (hsw : swapsWith (.DictComp kx vx [⟨tge, it, ifs, 0⟩] scope pos) (some (.Name y py)) spos.line X.env = pure true) : PS X (.Assign [.Name y py] (.DictComp kx vx [⟨tge, it, ifs, 0⟩] scope pos) spos) (tAsg (tDl X.K (lDc js tg src tt kf vf)) (gName i)) := by
  subst hj
  refine ⟨fun pins s σ H Z I h => ?_⟩
  rw [exec_Assign_Name_used _ _ _ _ hsw]
  refine wpAny_bind (wpAny_standAt (wpAny_bind ?_))
  show wpAny _ X.A (do let _ ← comprehension (.DictComp kx vx [⟨tge, it, ifs, 0⟩] scope pos) scope X.env (firstIterPos [⟨tge, it, ifs, 0⟩] pos) newDict false (eval it X.env) (some (assign (.Name y py) X.env))) _ _ s
  have h' : tDl X.K (lDc (own.map (·.2)) tg src tt kf vf) σ H (fun x H1 => gName i x σ H1 Z.nx) := h
  refine wpAny_bind (thn (dcN_core (Qf := fun _ s' => SP X pins Z .next s') hr B I (dc_imp htg h') fun L C s' m H' I' q hn f => ?_) fun _ s' hq => wpAny_pure (wpAny_pure hq))
  obtain ⟨f0, f1, f2, f3, f4, f5⟩ := f
  show wpAny _ _ (assign (.Name y py) X.env (.ref L)) _ _ _
  refine wpAny_assign_Name (store_ok2 (v := V.ref L) I' B.nd hy (.inl hyl) rfl (fun s2 I2 ⟨a, sb, ha⟩ => ?_) (.inr hyl))
  have off : C ≠ a := ha.elim (fun z => by rw [z]; exact f1) fun z e => f4 y a z e.symm
  exact ⟨m, hn.sameBut sb off, fun h3 sb3 => ⟨_, H', I2.turned (t' := s2.toks) (fun b o hb e => (sb3.2 b hb).trans e) f0 f1 f3 f4 f5, q⟩⟩
theorem es_dcOwn (i : Nat) {py spos : Pos} (hr : Room n0 X.A) (B : DcE X kx vx tge it ifs scope own src g tt kf vf) (hj : own.map (·.2) = js) (htg : TgOk X.K g tg js) (hy : X.N[i]? = some y) (hyl : X.env.scope.names.lookup y = some .local)
    (hsw : swapsWith (.DictComp kx vx [⟨tge, it, ifs, 0⟩] scope pos) (some (.Name y py)) spos.line X.env = pure true) : ES X W (.Assign [.Name y py] (.DictComp kx vx [⟨tge, it, ifs, 0⟩] scope pos) spos) (sDl i (lDc js tg src tt kf vf)) :=
  PS.imp (ps_dcN hr B hj htg hy hyl hsw) fun _ _ _ h => dl_own h
theorem es_dcDat (i : Nat) {py spos : Pos} (hr : Room n0 X.A) (B : DcE X kx vx tge it ifs scope own src g tt kf vf) (hj : own.map (·.2) = js) (htg : TgOk X.K g tg js) (hy : X.N[i]? = some y) (hyl : X.env.scope.names.lookup y = some .local)
    (hsw : swapsWith (.DictComp kx vx [⟨tge, it, ifs, 0⟩] scope pos) (some (.Name y py)) spos.line X.env = pure true) : ES X W (.Assign [.Name y py] (.DictComp kx vx [⟨tge, it, ifs, 0⟩] scope pos) spos) (sAsg (fDl (lDc js tg src tt kf vf)) (gDat i)) :=
  PS.imp (ps_dcN hr B hj htg hy hyl hsw) fun _ _ _ h => dl_dat h
end
end DN
namespace DN
open PySem PySem.Spec PyProof.Rows L2
/-! ### dicts with text keys that the frame owns -/
theorem tabM_app : ∀ (a b : List (Str × D)) (z : Str) (o : Option D), tabM (a ++ b) z o = tabM b z (tabM a z o)
  | [], _, _, _ => rfl
  | p :: r, b, z, o => tabM_app r b z _
section
variable {K : PySem.W.Frag}
theorem TxtIs.put {H : Hp} {a : List (Key × V)} {b : List (Str × D)} {z : Str} {v : V} {d : D} (h : TxtIs K H a b) (r : Dp K H v d) : TxtIs K H (putK a (Sum.inr z) v) (b ++ [(z, d)]) := by
  refine ⟨by rw [List.length_append]; exact Nat.le_trans (length_putK a _ v) (Nat.succ_le_succ h.1), fun y => ?_⟩
  rw [tabM_app, valV_put]
  show (∀ x, (if z = y then some d else tabM b y none) = some x → _) ∧ ((if z = y then some d else tabM b y none) = none → _)
  by_cases c : z = y
  · rw [if_pos c, if_pos (by rw [c])]
    exact ⟨fun x e => by cases e; exact ⟨v, rfl, r⟩, fun e => by cases e⟩
  · rw [if_neg c, if_neg (fun w => c (by cases w; rfl))]
    exact h.2 y
theorem TxtIs.merge {H : Hp} : ∀ {ks : List (Key × V)} {kvs : List (Str × D)} {a : List (Key × V)} {b : List (Str × D)}, TxtIs K H a b → PR K H ks kvs → TxtIs K H (mergeK a ks) (b ++ kvs)
  | [], [], a, b, h, _ => by rw [List.append_nil]; exact h
  | p :: r, q :: s, a, b, h, ⟨hk, d, t⟩ => by
    obtain ⟨k, v⟩ := p
    cases hk
    have e : b ++ q :: s = (b ++ [(q.1, q.2)]) ++ s := by rw [List.append_assoc]; rfl
    rw [e]
    have h2 : TxtIs K H (putK a (Sum.inr q.1) v) (b ++ [(q.1, q.2)]) := h.put d
    exact TxtIs.merge (ks := r) (kvs := s) h2 t
theorem TxtIs.nil {H : Hp} : TxtIs K H [] [] := ⟨Nat.le_refl _, fun z => ⟨fun x e => (by cases e), fun _ => rfl⟩⟩
end
@[simp] def sTxt (i : Nat) (fs : List (Str × Fe)) : Fs := fun γ => match pairsF fs γ with
  | some (kvs, γ1) => if decide (kvs.length ≤ 15) && !pinB γ1 i then some (.nx (γ1.set i (some (.ow false (.txt kvs))))) else none
  | none => none
@[simp] def sTxtPut (i : Nat) (z : Str) (f : Fe) : Fs := fun γ => match f γ with
  | some (d, γ1) => match gt γ1 i with
    | some (.ow b (.txt kvs)) => if okN kvs.length then some (.nx (γ1.set i (some (.ow b (.txt (kvs ++ [(z, d)])))))) else none
    | _ => none
  | none => none
@[simp] def fTxt (i : Nat) (f : Fe) : Fe := fun γ => match gt γ i with
  | some (.ow _ (.txt _)) => match f γ with
    | some (.str z, γ1) => match gt γ1 i with
      | some (.ow _ (.txt kvs)) => match tabM kvs z none with
        | some x => some (x, γ1)
        | none => none
      | _ => none
    | _ => none
  | _ => none
@[simp] def fTxtGet (i : Nat) (f g : Fe) : Fe := fun γ => match gt γ i with
  | some (.ow _ (.txt _)) => match f γ with
    | some (.str z, γ1) => match g γ1 with
      | some (y, γ2) => match gt γ2 i with
        | some (.ow _ (.txt kvs)) => some ((tabM kvs z none).getD y, γ2)
        | _ => none
      | none => none
    | _ => none
  | _ => none
section
variable {W : WX} {X : Cx} {e o y : Expr} {f g : Fe} {pos p : Pos}
theorem es_txt (i : Nat) {x : Str} {p' dpos : Pos} {keys : List (Option Expr)} {values : List Expr} {fs : List (Str × Fe)} (hN : X.N.Nodup) (hi : X.N[i]? = some x) (hx : Loc X.env.scope x) (h : PPs X dpos keys values (trsF X.K fs)) (hall : keys.all (·.isSome) = true) (hl : keys.length = values.length) (h0 : keys ≠ []) (h15 : keys.length ≤ 15)
    (hs : swapsWith (.Dict keys values dpos) (some (.Name x p')) pos.line X.env = pure false := by rfl) (hf : X.fn x = true ∨ X.env.scope.names.lookup x = some .local := by first | exact .inl rfl | exact .inr rfl | assumption) :
    ES X W (.Assign [.Name x p'] (.Dict keys values dpos) pos) (sTxt i fs) := PS.imp (ps_set hN hi hx (pe_disp h hall hl h0 h15) hs hf) fun Z σ H ⟨γ, Hk, o, k, ee, q⟩ => by
  unfold sTxt at ee
  split at ee
  · rename_i kvs γ1 ef
    split at ee <;> cases ee
    rename_i c
    rw [Bool.and_eq_true] at c
    intro p hp
    have gr : Grow H Hk (upd H p (.dK [])) Hk := Grow.newH k.sub hp
    refine tPairs_F (k.grow gr) ef fun ks H2 Hk2 g pr => ?_
    obtain ⟨H3, rfl, h3, hk3, g3⟩ := aside k hp (k.sub.free hp) g
    refine ⟨upd_same, ks, rfl, by rw [pr.len]; exact of_decide_eq_true c.1, ?_⟩
    rw [upd_upd]
    have t : TxtIs X.K Hk2 (mergeK [] ks) kvs := TxtIs.nil.merge pr
    exact q _ _ _ (g3.trans (g3.ok.setNew (same_upd h3) (.txt upd_same hk3 t) (fun a ha => by rw [List.mem_singleton.mp ha]; exact h3) (noPin_of g3.ok (by simpa using c.2))))
  · cases ee
theorem Ok.txt {K : PySem.W.Frag} {σ : L2.St} {H Hk : Hp} {γ : En} (k : Ok K σ H Hk γ) {i : Nat} {b : Bool} {kvs : List (Str × D)} (h : gt γ i = some (.ow b (.txt kvs))) : ∃ p kvs', σ[i]? = some (some (.ref p)) ∧ H p = some (.dK kvs') ∧ Hk p = none ∧ TxtIs K Hk kvs' kvs := by
  obtain ⟨v, fp, e, r⟩ := k.ow i b _ h
  cases r with
  | txt h1 h2 h3 => exact ⟨_, _, e, h1, h2, h3⟩
theorem es_txtPut (i : Nat) {z : Str} {kp p' : Pos} {jj} (hu : X.A.units + 64 < cLine) (he : EV X e f) (ho : PE X o (tVar i)) (hs : swapsWith e (some (.Subscript o (.Constant (.str z) jj kp) p')) pos.line X.env = pure false := by rfl) :
    ES X W (.Assign [.Subscript o (.Constant (.str z) jj kp) p'] e pos) (sTxtPut i z f) := PS.imp (ps_dput (by omega) ho pe_str he hs) fun Z σ H ⟨γ, Hk, out, k, ee, q⟩ => by
  unfold sTxtPut at ee
  split at ee
  · rename_i d γ1 ef
    split at ee
    · rename_i b kvs ei
      split at ee <;> cases ee
      rename_i c
      refine ⟨γ, Hk, d, γ1, k, ef, fun v H1 Hk1 g1 r1 => ?_⟩
      obtain ⟨p, kvs', e1, hp, hn, t⟩ := g1.ok.txt ei
      have lt : kvs'.length < sizeLine := Nat.lt_of_le_of_lt t.1 (okN_lt c)
      refine ⟨_, e1, p, _, rfl, DPut.k (k := Sum.inr z) hp lt, ?_⟩
      exact q _ _ _ (g1.trans (g1.ok.change ei e1 (.txt hp hn t) (fun a u h n => by rw [upd_ne (fun w => n (by simp [w]))]; exact h) (.txt upd_same hn (t.put r1)) (fun a ha => .inl ha)))
    · cases ee
  · cases ee
theorem ev_txt {i : Nat} (hu : X.A.units + 64 < cLine) (ho : PE X o (tVar i)) (he : EV X e f) (hs : NoSl e) : EV X (.Subscript o e pos) (fTxt i f) := PE.imp (pe_dget (by omega) ho he hs) fun σ H Q ⟨γ, Hk, d, γ2, k, ee, q⟩ => by
  unfold fTxt at ee
  split at ee
  · rename_i b0 kv0 e0
    split at ee
    · rename_i z γ1 ef
      split at ee
      · rename_i b kvs ei
        split at ee <;> cases ee
        rename_i ex
        obtain ⟨p0, _, e1, _⟩ := k.txt e0
        refine ⟨_, e1, γ, Hk, _, γ2, k, ef, fun v H1 Hk1 g1 r1 => ?_⟩
        obtain ⟨p, kvs', e2, hp, hn, t⟩ := g1.ok.txt ei
        rw [e1] at e2
        cases e2
        obtain ⟨u, eu, ru⟩ := (t.2 z).1 _ ex
        cases r1
        exact ⟨p0, u, rfl, .inl ⟨kvs', Sum.inr z, .inl hp, rfl, eu.symm⟩, q u H1 Hk1 g1 ru⟩
      · cases ee
    · cases ee
  · cases ee
theorem ev_txtGet {i : Nat} {apos cpos : Pos} (hu : X.A.units + 64 < cLine) (ho : PE X o (tVar i)) (he : EV X e f) (hy : EV X y g) (m : M2 X o "get" apos e y cpos) : EV X (.Call (.Attribute o "get" apos) [e, y] [] cpos) (fTxtGet i f g) :=
  PE.imp (pe_dget2 (by omega) ho he hy m) fun σ H Q ⟨γ, Hk, d, γ2, k, ee, q⟩ => by
  unfold fTxtGet at ee
  split at ee
  · rename_i b0 kv0 e0
    split at ee
    · rename_i z γ1 ef
      split at ee
      · rename_i y' γ3 eg
        split at ee <;> cases ee
        rename_i b kvs ei
        obtain ⟨p0, kv1, e1, hp0, _⟩ := k.txt e0
        refine ⟨_, e1, p0, rfl, .inl ⟨kv1, .inl hp0⟩, γ, Hk, _, γ1, k, ef, fun v H1 Hk1 g1 r1 => ⟨γ1, Hk1, y', γ2, g1.ok, eg, fun w H2 Hk2 g2 r2 => ?_⟩⟩
        obtain ⟨p, kvs', e2, hp, hn, t⟩ := g2.ok.txt ei
        rw [e1] at e2
        cases e2
        cases r1
        refine ⟨valV kvs' (Sum.inr z), DGet.k (k := Sum.inr z) hp, ?_⟩
        cases ex : tabM kvs z none with
        | none =>
          rw [(t.2 z).2 ex]
          rw [ex] at q
          exact q w H2 Hk2 (g1.trans g2) r2
        | some x =>
          obtain ⟨u, eu, ru⟩ := (t.2 z).1 x ex
          rw [eu]
          rw [ex] at q
          exact q u H2 Hk2 (g1.trans g2) ru
      · cases ee
    · cases ee
  · cases ee
end
end DN
namespace DN
open PySem PySem.Spec PyProof.Rows L2
/-! ### d = {}; for x in ..: d.setdefault(key, []).append(x): the dict lasts from then on -/
section
variable {K : PySem.W.Frag} {σ σ0 σ2 : L2.St} {H Hk H0 Hk0 H2 Hk2 : Hp} {γ γ0 γ2 : En} {i : Nat} {a : Addr} {x : HO}
/-- a slot of which nothing is told -/
theorem Ok.bare {v : Option V} (o : Ok K σ H Hk γ) (n : gt γ i = none) : Ok K (σ.set i v) H Hk γ := by
  have ne : ∀ {j : Nat} {e : Ent}, gt γ j = some e → i ≠ j := fun h z => by rw [← z, n] at h; cases h
  refine ⟨by rw [List.length_set]; exact o.len, o.sub, fun j d e => ?_, fun j b y e => ?_, o.pin, fun j k b c y z w u fp fq ej ek h1 h2 => ?_, fun j t e => ?_⟩
  · obtain ⟨v', e', r⟩ := o.dat j d e
    exact ⟨v', by rw [set_there (ne e)]; exact e', r⟩
  · obtain ⟨w, fp, e', r⟩ := o.ow j b y e
    exact ⟨w, fp, by rw [set_there (ne e)]; exact e', r⟩
  · rw [set_there (ne ej)] at h1
    rw [set_there (ne ek)] at h2
    exact o.sep _ _ _ _ _ _ _ _ _ _ ej ek h1 h2
  · obtain ⟨v', e', r⟩ := o.tab j t e
    exact ⟨v', by rw [set_there (ne e)]; exact e', r⟩
theorem own_bare {v : Option V} (n : gt γ i = none) {b : Addr} : OwnA K (σ.set i v) H Hk γ b ↔ OwnA K σ H Hk γ b := by
  constructor
  · rintro ⟨j, c, y, w, fp, e, h, r⟩
    have : i ≠ j := fun z => by rw [← z, n] at e; cases e
    rw [set_there this] at h
    exact ⟨j, c, y, w, fp, e, h, r⟩
  · rintro ⟨j, c, y, w, fp, e, h, r⟩
    have : i ≠ j := fun z => by rw [← z, n] at e; cases e
    exact ⟨j, c, y, w, fp, e, by rw [set_there this]; exact h, r⟩
theorem Go.bare {v : Option V} (o : Ok K σ H Hk γ) (n : gt γ i = none) : Go K σ H Hk γ (σ.set i v) H Hk γ :=
  ⟨o.bare n, Same.refl _, fun b u h q => (by rw [h] at q; cases q), fun _ _ h _ => h, fun b h => .inl ((own_bare n).mp h), fun j y h => ⟨set_there (fun z => by rw [← z, n] at h; cases h) _, y, h⟩⟩
theorem Go.foreign (g : Go K σ0 H0 Hk0 γ0 σ H Hk γ) (h0 : H0 a = none ∨ OwnA K σ0 H0 Hk0 γ0 a) (hk : Hk a = none) (no : ¬ OwnA K σ H Hk γ a) : Go K σ0 H0 Hk0 γ0 σ (upd H a x) Hk γ :=
  ⟨g.ok.offS hk no, g.kk, g.nw, fun b u e n => (by
    have : b ≠ a := fun z => by
      rcases h0 with h0 | h0
      · rw [z, h0] at e; cases e
      · exact n (by rw [z]; exact h0)
    rw [upd_ne this]
    exact g.kp b u e n), fun b h => g.sh b ((g.ok.offA no).mp h), g.pn⟩
end
theorem inj_nd {α β : Type} {f : α → β} : ∀ {l : List α} {x y : α}, (l.map f).Nodup → x ∈ l → y ∈ l → f x = f y → x = y
  | a :: r, x, y, nd, hx, hy, e => by
    rw [List.map_cons, List.nodup_cons] at nd
    rcases List.mem_cons.mp hx with ex | mx
    · rcases List.mem_cons.mp hy with ey | my
      · rw [ex, ey]
      · exact absurd (by rw [← ex, e]; exact List.mem_map_of_mem my) nd.1
    · rcases List.mem_cons.mp hy with ey | my
      · exact absurd (by rw [← ey, ← e]; exact List.mem_map_of_mem mx) nd.1
      · exact inj_nd nd.2 mx my e
/-- an entry of a dict of lists that is being built: key, where it stands, where the list stands, its items -/
structure GEn where
  k : NestedKey
  ka : Addr
  va : Addr
  vs : List V
def GEn.en (g : GEn) : NestedKey × Addr × Value := (g.k, g.ka, .ref g.va)
abbrev Gkv := List (D × List D)
def FoN (p : Addr) (gs : List GEn) (a : Addr) : Prop := a = p ∨ ∃ g ∈ gs, g.va = a
def GRel (K : PySem.W.Frag) (Hk : Hp) (g : GEn) (kv : D × List D) : Prop := keyD kv.1 = some g.k ∧ Dp K Hk (.ref g.ka) kv.1 ∧ DpAll K Hk g.vs kv.2
structure GrN (K : PySem.W.Frag) (H Hk : Hp) (p : Addr) (gs : List GEn) (kvs : Gkv) : Prop where
  hp : ∃ o, H p = some (dnO p o) ∧ DictO o (gs.map GEn.en)
  hn : Hk p = none
  hs : (p == sysModules) = false
  nd : (gs.map GEn.k).Nodup
  nv : (gs.map GEn.va).Nodup
  el : ∀ g ∈ gs, g.va ≠ p ∧ H g.va = some (.lst g.vs) ∧ Hk g.va = none
  rl : PySem.W.EachIs (GRel K Hk) gs kvs
section
variable {K : PySem.W.Frag} {σ σ0 σ2 : L2.St} {H Hk H0 Hk0 H2 Hk2 : Hp} {γ γ0 γ2 : En} {p : Addr} {gs : List GEn} {kvs : Gkv}
theorem GrN.got (g : GrN K H Hk p gs kvs) {a : Addr} (h : FoN p gs a) : (∃ u, H a = some u) ∧ Hk a = none := by
  rcases h with rfl | ⟨e, he, rfl⟩
  · obtain ⟨o, h1, _⟩ := g.hp
    exact ⟨⟨_, h1⟩, g.hn⟩
  · exact ⟨⟨_, (g.el e he).2.1⟩, (g.el e he).2.2⟩
theorem GrN.go (g : GrN K H Hk p gs kvs) (no : ∀ a, FoN p gs a → ¬ OwnA K σ H Hk γ a) (G : Go K σ H Hk γ σ2 H2 Hk2 γ2) : GrN K H2 Hk2 p gs kvs ∧ ∀ a, FoN p gs a → ¬ OwnA K σ2 H2 Hk2 γ2 a := by
  have free : ∀ a, FoN p gs a → Hk2 a = none := fun a fa => by
    cases e : Hk2 a with
    | none => rfl
    | some u =>
      obtain ⟨⟨v, hv⟩, ha⟩ := g.got fa
      rcases G.nw a u e ha with z | z
      · rw [hv] at z; cases z
      · exact absurd z (no a fa)
  obtain ⟨o, h1, h2⟩ := g.hp
  refine ⟨⟨⟨o, G.kp _ _ h1 (no p (.inl rfl)), h2⟩, free p (.inl rfl), g.hs, g.nd, g.nv, fun e he => ?_, g.rl.mono fun e kv ⟨h1, h2, h3⟩ => ⟨h1, dp_mono G.kk h2, dps_mono G.kk h3⟩⟩, fun a fa h => ?_⟩
  · obtain ⟨h1, h2, h3⟩ := g.el e he
    exact ⟨h1, G.kp _ _ h2 (no _ (.inr ⟨e, he, rfl⟩)), free _ (.inr ⟨e, he, rfl⟩)⟩
  · rcases G.sh a h with z | z
    · exact no a fa z
    · obtain ⟨⟨v, hv⟩, _⟩ := g.got fa
      rw [hv] at z; cases z
theorem GrN.more (g : GrN K H Hk p gs kvs) {l : Addr} {o : HO} (hl : H l = none) : GrN K (upd H l o) Hk p gs kvs := by
  obtain ⟨ob, h1, h2⟩ := g.hp
  refine ⟨⟨ob, by rw [upd_ne (ne_of_none h1 hl)]; exact h1, h2⟩, g.hn, g.hs, g.nd, g.nv, fun e he => ?_, g.rl⟩
  obtain ⟨h1, h2, h3⟩ := g.el e he
  exact ⟨h1, by rw [upd_ne (ne_of_none h2 hl)]; exact h2, h3⟩
end
/-- put into the list at the key -/
def putN : Gkv → D → NestedKey → D → Gkv
  | [], kd, _, x => [(kd, [x])]
  | q :: r, kd, k, x => if keyD q.1 = some k then (q.1, q.2 ++ [x]) :: r else q :: putN r kd k x
section
variable {K : PySem.W.Frag} {H Hk : Hp}
theorem each_snoc {α β : Type} {R : α → β → Prop} {x : α} {y : β} : ∀ {as : List α} {bs : List β}, PySem.W.EachIs R as bs → R x y → PySem.W.EachIs R (as ++ [x]) (bs ++ [y])
  | _, _, .nil, h => .cons h .nil
  | _, _, .cons a t, h => .cons a (each_snoc t h)
theorem putN_new {kd x : D} {k : NestedKey} : ∀ {gs : List GEn} {kvs : Gkv}, PySem.W.EachIs (GRel K Hk) gs kvs → k ∉ gs.map GEn.k → putN kvs kd k x = kvs ++ [(kd, [x])]
  | _, _, .nil, _ => rfl
  | _, _, .cons (a := g) h t, n => by
    rw [List.map_cons, List.mem_cons, not_or] at n
    rw [putN, if_neg (fun z => n.1 (by rw [h.1] at z; exact (Option.some.inj z).symm)), putN_new t n.2]
    rfl
def addN (k : NestedKey) (v : V) (g : GEn) : GEn := if g.k = k then { g with vs := g.vs ++ [v] } else g
theorem addN_k (k : NestedKey) (v : V) (g : GEn) : (addN k v g).k = g.k := by unfold addN; split <;> rfl
theorem addN_va (k : NestedKey) (v : V) (g : GEn) : (addN k v g).va = g.va := by unfold addN; split <;> rfl
theorem addN_en (k : NestedKey) (v : V) (g : GEn) : (addN k v g).en = g.en := by unfold addN; split <;> rfl
theorem mapN_no {k : NestedKey} {v : V} : ∀ {gs : List GEn}, k ∉ gs.map GEn.k → gs.map (addN k v) = gs
  | [], _ => rfl
  | g :: r, h => by
    rw [List.map_cons, List.mem_cons, not_or] at h
    rw [List.map_cons, mapN_no h.2]
    congr 1
    unfold addN
    rw [if_neg (fun z => h.1 z.symm)]
theorem putN_old {kd x : D} {k : NestedKey} {v : V} (hx : Dp K Hk v x) : ∀ {gs : List GEn} {kvs : Gkv}, PySem.W.EachIs (GRel K Hk) gs kvs → (gs.map GEn.k).Nodup → k ∈ gs.map GEn.k → PySem.W.EachIs (GRel K Hk) (gs.map (addN k v)) (putN kvs kd k x)
  | _, _, .nil, _, h => by cases h
  | _, _, .cons (a := g) (b := kv) h t, nd, hk => by
    rw [List.map_cons, List.nodup_cons] at nd
    by_cases c : g.k = k
    · have e1 : addN k v g = { g with vs := g.vs ++ [v] } := by unfold addN; rw [if_pos c]
      rw [List.map_cons, e1, mapN_no (by rw [← c]; exact nd.1), putN, if_pos (by rw [h.1, c])]
      exact .cons ⟨h.1, h.2.1, dps_app h.2.2 (.cons hx .nil)⟩ t
    · have e1 : addN k v g = g := by unfold addN; rw [if_neg c]
      rw [List.map_cons, e1, putN, if_neg (fun z => c (by rw [h.1] at z; exact Option.some.inj z))]
      rw [List.map_cons, List.mem_cons] at hk
      exact .cons h (putN_old hx t nd.2 (hk.resolve_left fun z => c z.symm))
end
section
variable {K : PySem.W.Frag} {H Hk : Hp} {p : Addr} {gs : List GEn} {kvs : Gkv}
theorem GrN.addNew (g : GrN K H Hk p gs kvs) {k : NestedKey} {a l : Addr} {v : V} {x kd : D} {o : Obj} (hk : k ∉ gs.map GEn.k) (ek : keyD kd = some k) (ka : Dp K Hk (.ref a) kd) (hl : H l = some (.lst [])) (lp : l ≠ p) (lf : ∀ e ∈ gs, e.va ≠ l) (ln : Hk l = none) (hx : Dp K Hk v x) (ho : DictO o (gs.map GEn.en ++ [(k, a, .ref l)])) :
    GrN K (upd (upd H p (dnO p o)) l (.lst [v])) Hk p (gs ++ [⟨k, a, l, [v]⟩]) (putN kvs kd k x) := by
  refine ⟨⟨o, by rw [upd_ne lp.symm, upd_same], by rw [List.map_append]; exact ho⟩, g.hn, g.hs, ?_, ?_, fun e he => ?_, ?_⟩
  · rw [List.map_append, List.nodup_append]
    exact ⟨g.nd, by simp, fun y hy z hz e => hk (by
      have : z = k := by simpa using hz
      rw [← this, ← e]; exact hy)⟩
  · rw [List.map_append, List.nodup_append]
    exact ⟨g.nv, by simp, fun y hy z hz e => by
      have hz : z = l := by simpa using hz
      obtain ⟨e', he', q⟩ := List.mem_map.mp hy
      exact lf e' he' (by rw [q, e, hz])⟩
  · rcases List.mem_append.mp he with he | he
    · obtain ⟨h1, h2, h3⟩ := g.el e he
      exact ⟨h1, by rw [upd_ne (lf e he), upd_ne h1]; exact h2, h3⟩
    · have : e = ⟨k, a, l, [v]⟩ := by simpa using he
      subst this
      exact ⟨lp, upd_same, ln⟩
  · rw [putN_new g.rl hk]
    exact each_snoc g.rl ⟨ek, ka, .cons hx .nil⟩
theorem GrN.addOld (g : GrN K H Hk p gs kvs) {e : GEn} (he : e ∈ gs) {v : V} {x kd : D} (hx : Dp K Hk v x) : GrN K (upd H e.va (.lst (e.vs ++ [v]))) Hk p (gs.map (addN e.k v)) (putN kvs kd e.k x) := by
  have h0 := g.el e he
  have one : ∀ f ∈ gs, f.k = e.k → f = e := fun f hf c => inj_nd g.nd hf he c
  have onev : ∀ f ∈ gs, f.va = e.va → f = e := fun f hf c => inj_nd g.nv hf he c
  have ek : (gs.map (addN e.k v)).map GEn.k = gs.map GEn.k := by rw [List.map_map]; exact List.map_congr_left fun f _ => addN_k _ _ f
  have ev : (gs.map (addN e.k v)).map GEn.va = gs.map GEn.va := by rw [List.map_map]; exact List.map_congr_left fun f _ => addN_va _ _ f
  have ee : (gs.map (addN e.k v)).map GEn.en = gs.map GEn.en := by rw [List.map_map]; exact List.map_congr_left fun f _ => addN_en _ _ f
  obtain ⟨o, h1, h2⟩ := g.hp
  refine ⟨⟨o, by rw [upd_ne h0.1.symm]; exact h1, by rw [ee]; exact h2⟩, g.hn, g.hs, by rw [ek]; exact g.nd, by rw [ev]; exact g.nv, fun f' hf' => ?_, putN_old hx g.rl g.nd (List.mem_map_of_mem he)⟩
  obtain ⟨f, hf, rfl⟩ := List.mem_map.mp hf'
  obtain ⟨h1, h2, h3⟩ := g.el f hf
  rw [addN_va]
  refine ⟨h1, ?_, h3⟩
  by_cases c : f.k = e.k
  · obtain rfl := one f hf c
    unfold addN
    rw [if_pos rfl, upd_same]
  · have : f.va ≠ e.va := fun z => c (by rw [onev f hf z])
    rw [upd_ne this]
    unfold addN
    rw [if_neg c]
    exact h2
theorem entsG {Hk Hk2 : Hp} (s : Same Hk Hk2) {gs : List GEn} {kvs : Gkv} (h : ∀ g ∈ gs, Hk2 g.va = some (.lst g.vs)) (r : PySem.W.EachIs (GRel K Hk) gs kvs) : DpEnts K Hk2 (gs.map GEn.en) (kvs.map fun kv => (kv.1, .list kv.2)) := by
  induction r with
  | nil => exact .nil
  | @cons g kv gs' kvs' r t ih =>
    rw [List.map_cons, List.map_cons]
    exact .cons r.1 (dp_mono s r.2.1) (v := .ref g.va) rfl (.lst (SqL.of (h g (by simp))) (dps_mono s r.2.2)) (ih fun e he => h e (by simp [he]))
end
def frozenN (kvs : Gkv) : Kvs := kvs.map fun kv => (kv.1, .list kv.2)
section
variable {K : PySem.W.Frag} {σ σ0 : L2.St} {H Hk H0 Hk0 : Hp} {γ γ0 : En} {p : Addr} {gs : List GEn} {kvs : Gkv}
theorem GrN.freeze (G : Go K σ0 H0 Hk0 γ0 σ H Hk γ) (g : GrN K H Hk p gs kvs) (no : ∀ a, FoN p gs a → ¬ OwnA K σ H Hk γ a ∧ (H0 a = none ∨ OwnA K σ0 H0 Hk0 γ0 a)) (hz : kvs.length ≤ sizeLine) : ∃ Hk2, Go K σ0 H0 Hk0 γ0 σ H Hk2 γ ∧ Dp K Hk2 (.ref p) (.dict (frozenN kvs)) := by
  classical
  let Hk2 : Hp := fun a => if FoN p gs a then H a else Hk a
  have off : ∀ a, FoN p gs a → Hk a = none := fun a fa => (g.got fa).2
  have s1 : Same Hk Hk2 := fun a u e => by
    have : ¬ FoN p gs a := fun fa => by rw [off a fa] at e; cases e
    show (if FoN p gs a then H a else Hk a) = some u
    rw [if_neg this]
    exact e
  have s2 : Same Hk2 H := fun a u e => by
    have e : (if FoN p gs a then H a else Hk a) = some u := e
    split at e
    · exact e
    · exact G.ok.sub a u e
  have at' : ∀ a, FoN p gs a → Hk2 a = H a := fun a fa => if_pos fa
  have nat' : ∀ a, ¬ FoN p gs a → Hk2 a = Hk a := fun a fa => if_neg fa
  obtain ⟨o, h1, h2⟩ := g.hp
  have up : ∀ {i b y v fp}, gt γ i = some (.ow b y) → σ[i]? = some (some v) → OwnV K H Hk v y fp → OwnV K H Hk2 v y fp := fun {i b y v fp} e ev r => r.to s1 (fun _ _ _ q => q) fun a ha => by
    rw [nat' a fun fa => (no a fa).1 ⟨i, b, y, v, fp, e, ev, r, ha⟩]
    exact (r.at a ha).2
  have dn : ∀ {i b y v fp}, gt γ i = some (.ow b y) → σ[i]? = some (some v) → OwnV K H Hk2 v y fp → OwnV K H Hk v y fp := fun {i b y v fp} e ev r => by
    obtain ⟨v', fp', e1, r1⟩ := G.ok.ow i b y e
    rw [ev] at e1; cases e1
    rw [r.det (up e ev r1)]
    exact r1
  refine ⟨Hk2, ⟨⟨G.ok.len, s2, fun j d e => ?_, fun j b y e => ?_, G.ok.pin, fun i j b c y z v u fp fq ei ej vi vj ri rj a mi mj => G.ok.sep i j b c y z v u fp fq ei ej vi vj (dn ei vi ri) (dn ej vj rj) a mi mj, fun j t e => ?_⟩, G.kk.trans s1, fun a u e n => ?_, G.kp, fun a e => ?_, G.pn⟩, ?_⟩
  · obtain ⟨v, e1, r⟩ := G.ok.dat j d e
    exact ⟨v, e1, dp_mono s1 r⟩
  · obtain ⟨v, fp, e1, r⟩ := G.ok.ow j b y e
    exact ⟨v, fp, e1, up e e1 r⟩
  · obtain ⟨v, e1, r⟩ := G.ok.tab j t e
    exact ⟨v, e1, r.mono s1⟩
  · by_cases fa : FoN p gs a
    · exact (no a fa).2
    · rw [nat' a fa] at e
      exact G.nw a u e n
  · obtain ⟨i, b, y, v, fp, e1, e2, r, m⟩ := e
    exact G.sh a ⟨i, b, y, v, fp, e1, e2, dn e1 e2 r, m⟩
  · refine .dct (xs := gs.map GEn.en) (by rw [at' p (.inl rfl)]; exact h1) h2 (entsG s1 (fun e he => by rw [at' _ (.inr ⟨e, he, rfl⟩)]; exact (g.el e he).2.1) g.rl) ?_ g.hs ?_
    · rw [List.map_map]
      exact g.nd
    · rw [List.length_map, g.rl.length]
      exact hz
theorem lenG : ∀ {gs : List GEn} {kvs : Gkv}, PySem.W.EachIs (GRel K Hk) gs kvs → kvs.all (fun kv => okN kv.2.length) = true → ∀ e ∈ gs, okN e.vs.length = true
  | _, _, .cons (a := g) h t, ha, e, he => by
    rw [List.all_cons, Bool.and_eq_true] at ha
    rcases List.mem_cons.mp he with rfl | he
    · rw [dps_len h.2.2]; exact ha.1
    · exact lenG t ha.2 e he
theorem atN_none {k : NestedKey} : ∀ {gs : List GEn}, atKey (gs.map GEn.en) k = none → k ∉ gs.map GEn.k
  | [], _ => by simp
  | g :: r, h => by
    unfold atKey at h
    rw [List.map_cons, List.find?_cons] at h
    rw [List.map_cons, List.mem_cons, not_or]
    by_cases c : g.en.1 = k
    · rw [decide_eq_true c] at h
      cases h
    · rw [decide_eq_false c] at h
      exact ⟨fun z => c z.symm, atN_none (gs := r) h⟩
theorem atN_some {k : NestedKey} {q : Addr × Value} : ∀ {gs : List GEn}, atKey (gs.map GEn.en) k = some q → ∃ e ∈ gs, e.k = k ∧ q = (e.ka, .ref e.va)
  | [], h => by cases h
  | g :: r, h => by
    unfold atKey at h
    rw [List.map_cons, List.find?_cons] at h
    by_cases c : g.en.1 = k
    · rw [decide_eq_true c] at h
      cases h
      exact ⟨g, by simp, c, rfl⟩
    · rw [decide_eq_false c] at h
      obtain ⟨e, he, z⟩ := atN_some (gs := r) h
      exact ⟨e, by simp [he], z⟩
end
def grpN (j : Nat) (kf : Fe) : List D → En → Gkv → Option (Gkv × En)
  | [], γ, kvs => some (kvs, γ)
  | d :: ds, γ, kvs => match gDat j d γ with
    | some γ1 => match kf γ1 with
      | some (kd, γ2) => match keyD kd with
        | some k => if okN kvs.length && kvs.all (fun kv => okN kv.2.length) then grpN j kf ds γ2 (putN kvs kd k d) else none
        | none => none
      | none => none
    | none => none
def sGrpN (i j : Nat) (src : Fa) (kf : Fe) : Fs := fun γ => if (gt γ i).isNone && decide (i < γ.length) && decide (j < γ.length) then
  match src γ with
  | some (ds, γ1) => match grpN j kf ds γ1 [] with
    | some (kvs, γ2) => if !pinB γ2 i && okN kvs.length then some (.nx (γ2.set i (some (.dat (.dict (frozenN kvs)))))) else none
    | none => none
  | none => none
  else none
/-- d.setdefault(k, a new list) -/
def rSetdN (X : Cx) : V → List V → Hp → VK → Prop := fun x vs H Q => ∃ (p a l : Addr) (o : Obj) (xs : List (NestedKey × Addr × Value)) (kvs : Kvs) (kd : D) (k : NestedKey) (el : D), x = .ref p ∧ vs = [.ref a, .ref l] ∧ dicO kvs X.K H p o xs ∧ xs.length ≤ 1000000 ∧
  Dp X.K H (.ref a) kd ∧ keyD kd = some k ∧ Dp X.K H (.ref l) el ∧ (∀ q, atKey xs k = some q → ∃ v, RelV v q.2 ∧ Q v H) ∧ (atKey xs k = none → ∀ o2, DictO o2 (xs ++ [(k, a, .ref l)]) → Q (.ref l) (upd H p (dnO p o2)))
theorem mt_setdN {X : Cx} {n : Nat} (hr : Room n X.A) : MtR X "dict.setdefault" (rSetdN X) := by
  intro pins s σ H x vs v us Q I rx rv h
  obtain ⟨p, a, l, o, xs, kvs, kd, k, el, rfl, rfl, ⟨h1, h2, h3, h4, h5, h6⟩, hz, ka, ek, hl, q1, q2⟩ := h
  cases rx
  cases rv with
  | cons r1 rr =>
    cases r1
    cases rr with
    | cons r2 rr2 =>
      cases r2
      cases rr2
      have un := hr.un
      refine call_setdefault_heap (hsz := Nat.le_trans hz (by decide)) (knd := nestedKind X.prog X.w) (k := k) (by show X.A.in1.units + 8 < cLine; rw [Around.in1_units]; omega) (keyN_at I ka ek) h5 (dictN_at I h1 h2 h3 h4) ?_ ?_
      · intro q hq
        obtain ⟨v, rv, z⟩ := q1 q hq
        exact ⟨v, H, I.tok _, rv, z⟩
      · intro hno h' hd hb
        rw [storedH_new hno] at hd
        obtain ⟨o2, ho2, hd2, _⟩ := dictN_of hd (ents_app h3 (.cons ek ka (u := .ref l) (v := .ref l) rfl hl .nil))
        exact ⟨.ref l, _, I.write (x := p) (e := p) (by rw [h1]; exact True.intro) (.inl rfl) (fun b u hne z => (hb.2 b hne).trans z) ⟨o2, ho2⟩ (dnO_ok ho2), rfl, q2 hno o2 hd2⟩
end DN
namespace DN
open PySem PySem.Spec PyProof.Rows L2
/-- what the loop's body asks -/
def tPutN (X : Cx) (i j : Nat) (kf : Fe) : TE := fun σ H Q => (fun σ H Q => tVar i σ H fun x H1 => TyAt X "dict" x H1 ∧ tCons (tI X.K kf) (tCons (tL X.K (lDisp aNil)) tNil) σ H1 fun vs H2 => rSetdN X x vs H2 Q) σ H fun x H1 => TyAt X "list" x H1 ∧ tCons (tVar j) tNil σ H1 fun vs H2 => rAppend x vs H2 Q
theorem lst_ty {X : Cx} {H : Hp} {l : Addr} {xs : List V} (h : H l = some (.lst xs)) : TyAt X "list" (.ref l) H := fun pins s σ v I r => tyV_is I r (.inl ⟨rfl, xs, SqL.of h⟩)
/-- what is seen of the dict beside a new list: its lists last not, but they are there -/
theorem GrN.seen {K : PySem.W.Frag} {H Hk : Hp} {p : Addr} {gs : List GEn} {kvs : Gkv} (g : GrN K H Hk p gs kvs) (s : Same Hk H) (hz : gs.length ≤ sizeLine) : ∃ o, dicO (frozenN kvs) K H p o (gs.map GEn.en) := by
  obtain ⟨o, h1, h2⟩ := g.hp
  exact ⟨o, h1, h2, entsG s (fun e he => (g.el e he).2.1) g.rl, by rw [List.map_map]; exact g.nd, g.hs, by rw [List.length_map]; exact hz⟩
theorem putN_step {X : Cx} {i j : Nat} {kf : Fe} {σ σ0 : L2.St} {H Hk H0 Hk0 : Hp} {γ γ0 γ2 : En} {p : Addr} {gs : List GEn} {kvs : Gkv} {x : V} {d kd : D} {k : NestedKey} {Q : VK}
    (G : Go X.K σ0 H0 Hk0 γ0 σ H Hk γ) (g : GrN X.K H Hk p gs kvs) (no : ∀ a, FoN p gs a → ¬ OwnA X.K σ H Hk γ a ∧ (H0 a = none ∨ OwnA X.K σ0 H0 Hk0 γ0 a)) (hi : σ[i]? = some (some (.ref p))) (hj : σ[j]? = some (some x)) (hx : Dp X.K Hk x d)
    (ek : kf γ = some (kd, γ2)) (ei : keyD kd = some k) (z1 : okN kvs.length = true) (z2 : kvs.all (fun kv => okN kv.2.length) = true)
    (q : ∀ v H2 Hk2 gs2, Go X.K σ0 H0 Hk0 γ0 σ H2 Hk2 γ2 → Same Hk Hk2 → GrN X.K H2 Hk2 p gs2 (putN kvs kd k d) → (∀ a, FoN p gs2 a → ¬ OwnA X.K σ H2 Hk2 γ2 a ∧ (H0 a = none ∨ OwnA X.K σ0 H0 Hk0 γ0 a)) → Q v H2) : tPutN X i j kf σ H Q := by
  obtain ⟨o0, hp0, hd0⟩ := g.hp
  refine ⟨.ref p, hi, dnO_ty hp0 hd0, γ, Hk, kd, γ2, G.ok, ek, fun v1 H1 Hk1 g1 r1 => ?_⟩
  obtain ⟨a, rfl⟩ := key_ref r1 ei
  obtain ⟨gr1, no1⟩ := g.go (fun b fb => (no b fb).1) g1
  refine ⟨γ2, Hk1, [], γ2, g1.ok, rfl, fun l vs H2 Hk2 g2 hl rl => ?_⟩
  cases rl
  obtain ⟨gr2, no2⟩ := gr1.go no1 g2
  have G2 : Go X.K σ0 H0 Hk0 γ0 σ H2 Hk2 γ2 := (G.trans g1).trans g2
  have fl : ¬ FoN p gs l := fun f => by obtain ⟨⟨u, hu⟩, _⟩ := gr2.got f; rw [hl] at hu; cases hu
  have lk : Hk2 l = none := g2.ok.sub.free hl
  have lo : ¬ OwnA X.K σ H2 Hk2 γ2 l := fun z => z.noN hl
  have l0 : H0 l = none ∨ OwnA X.K σ0 H0 Hk0 γ0 l := by
    cases e : H0 l with
    | none => exact .inl rfl
    | some u =>
      by_cases ho : OwnA X.K σ0 H0 Hk0 γ0 l
      · exact .inr ho
      · have := G2.kp l u e ho
        rw [hl] at this
        cases this
  have S02 : Same Hk Hk2 := g1.kk.trans g2.kk
  have gr3 : GrN X.K (upd H2 l (.lst [])) Hk2 p gs kvs := gr2.more hl
  have s2 : Same Hk2 (upd H2 l (.lst [])) := g2.ok.sub.trans (same_upd hl)
  have kd2 : Dp X.K Hk2 (.ref a) kd := dp_mono g2.kk r1
  have hx2 : Dp X.K Hk2 x d := dp_mono S02 hx
  have len : gs.length ≤ 1000000 := by rw [g.rl.length]; exact of_decide_eq_true z1
  have G3 : Go X.K σ0 H0 Hk0 γ0 σ (upd H2 l (.lst [])) Hk2 γ2 := G2.foreign l0 lk lo
  have no3 : ∀ b, FoN p gs b → ¬ OwnA X.K σ (upd H2 l (.lst [])) Hk2 γ2 b := fun b fb z => no2 b fb ((g2.ok.offA lo).mp z)
  have lo3 : ¬ OwnA X.K σ (upd H2 l (.lst [])) Hk2 γ2 l := fun z => lo ((g2.ok.offA lo).mp z)
  obtain ⟨o3, see⟩ := gr3.seen s2 (Nat.le_trans len (by decide))
  refine ⟨p, a, l, o3, gs.map GEn.en, frozenN kvs, kd, k, .list [], rfl, rfl, see, by rw [List.length_map]; exact len, dp_mono s2 kd2, ei, .lst (SqL.of upd_same) .nil, fun qq hq => ?_, fun hq o2 ho2 => ?_⟩
  · obtain ⟨e, he, rfl, rfl⟩ := atN_some hq
    have ve := (gr3.el e he).2.1
    refine ⟨.ref e.va, rfl, lst_ty ve, x, hj, e.va, e.vs, x, rfl, rfl, ve, okN_lt (lenG g.rl z2 e he), ?_⟩
    have fe : FoN p gs e.va := .inr ⟨e, he, rfl⟩
    have noe := no3 _ fe
    refine q _ _ Hk2 (gs.map (addN e.k x)) (G3.foreign (no _ fe).2 (gr3.el e he).2.2 noe) S02 (gr3.addOld he hx2) fun b fb => ?_
    have fb' : FoN p gs b := by
      rcases fb with rfl | ⟨f', hf', rfl⟩
      · exact .inl rfl
      · obtain ⟨f, hf, rfl⟩ := List.mem_map.mp hf'
        exact .inr ⟨f, hf, (addN_va _ _ f).symm⟩
    exact ⟨fun z => no3 b fb' ((G3.ok.offA noe).mp z), (no b fb').2⟩
  · have lp : l ≠ p := fun z => fl (.inl z)
    have fp : FoN p gs p := .inl rfl
    have hl5 : (upd (upd H2 l (.lst [])) p (dnO p o2)) l = some (.lst []) := by rw [upd_ne lp, upd_same]
    refine ⟨lst_ty hl5, x, hj, l, [], x, rfl, rfl, hl5, by decide, ?_⟩
    show Q .non (upd (upd (upd H2 l (.lst [])) p (dnO p o2)) l (.lst [x]))
    have nop := no3 p fp
    have G4 := G3.foreign (x := dnO p o2) (no p fp).2 gr3.hn nop
    have lo4 : ¬ OwnA X.K σ (upd (upd H2 l (.lst [])) p (dnO p o2)) Hk2 γ2 l := fun z => lo3 ((G3.ok.offA nop).mp z)
    refine q _ _ Hk2 (gs ++ [⟨k, a, l, [x]⟩]) (G4.foreign l0 lk lo4) S02 (gr3.addNew (atN_none hq) ei kd2 upd_same lp (fun e he z => fl (.inr ⟨e, he, z⟩)) lk hx2 ho2) fun b fb => ?_
    have off : ∀ {b}, ¬ OwnA X.K σ (upd H2 l (.lst [])) Hk2 γ2 b → ¬ OwnA X.K σ (upd (upd (upd H2 l (.lst [])) p (dnO p o2)) l (.lst [x])) Hk2 γ2 b := fun {b} n z => n ((G3.ok.offA nop).mp ((G4.ok.offA lo4).mp z))
    rcases fb with rfl | ⟨f, hf, rfl⟩
    · exact ⟨off nop, (no _ fp).2⟩
    · rcases List.mem_append.mp hf with hf | hf
      · exact ⟨off (no3 _ (.inr ⟨f, hf, rfl⟩)), (no _ (.inr ⟨f, hf, rfl⟩)).2⟩
      · have : f = ⟨k, a, l, [x]⟩ := by simpa using hf
        subst this
        exact ⟨off lo3, l0⟩
theorem grpN_nx {i j : Nat} {src : Fa} {kf : Fe} {γ : En} {o : Out} (e : sGrpN i j src kf γ = some o) : ∃ γf, o = .nx γf := by
  unfold sGrpN at e
  split at e
  · split at e
    · split at e
      · split at e
        · cases e
          exact ⟨_, rfl⟩
        · cases e
      · cases e
    · cases e
  · cases e
theorem es_grpN {X : Cx} {W : WX} {i j : Nat} {t it : Expr} {body ss : List Stmt} {s2 : Stmt} {src : Fa} {kf : Fe} {G : Fs} {pos : Pos} (hp : PassesOwn (model X.prog X.w) X.A X.env X.xe) (hc : X.calm = true) (hij : i ≠ j)
    (h2 : PS X s2 (tAsg tDicNew (gName i))) (hi : EI X t it src) (hg : PG X t (gName j)) (hb : PSs X body (tDrop (tPutN X i j kf))) (rest : ESs X W ss G)
    (hs : ∀ x, foldedSetIterable it X.env x = pure x := by intro _; rfl) : ESs X W (s2 :: .For t it body [] pos :: ss) (sSeq (sGrpN i j src kf) G) :=
  PSs.imp (pss_cons h2 (pss_cons (ps_for hp hc hi hg hb hs) rest)) fun Z σ H ⟨γ, Hk, o, k, e, q⟩ => by
  unfold sSeq at e
  split at e
  · rename_i γf ef
    unfold sGrpN at ef
    split at ef
    · rename_i cc
      rw [Bool.and_eq_true, Bool.and_eq_true] at cc
      obtain ⟨⟨c0, c1⟩, c2⟩ := cc
      have ni : gt γ i = none := Option.isNone_iff_eq_none.mp c0
      have li : i < σ.length := by rw [k.len]; exact of_decide_eq_true c1
      have lj : j < σ.length := by rw [k.len]; exact of_decide_eq_true c2
      split at ef
      · rename_i ds γ1 es
        split at ef
        · rename_i kvsE γE eg
          split at ef <;> cases ef
          rename_i ce
          rw [Bool.and_eq_true] at ce
          unfold tSeq tAsg tDicNew gName
          intro p ob hpn hps hob
          have gb : Go X.K σ H Hk γ (σ.set i (some (.ref p))) H Hk γ := Go.bare k ni
          have nown : ¬ OwnA X.K (σ.set i (some (.ref p))) H Hk γ p := fun z => z.noN hpn
          have G0 : Go X.K σ H Hk γ (σ.set i (some (.ref p))) (upd H p (dnO p ob)) Hk γ := gb.foreign (.inl hpn) (k.sub.free hpn) nown
          have at0 : (σ.set i (some (.ref p)))[i]? = some (some (V.ref p)) := List.getElem?_set_self li
          have gr0 : GrN X.K (upd H p (dnO p ob)) Hk p [] [] := ⟨⟨ob, upd_same, hob⟩, k.sub.free hpn, hps, List.nodup_nil, List.nodup_nil, (fun _ h => by cases h), .nil⟩
          have no0 : ∀ a, FoN p [] a → ¬ OwnA X.K (σ.set i (some (.ref p))) (upd H p (dnO p ob)) Hk γ a := fun a fa => by
            rcases fa with rfl | ⟨_, h, _⟩
            · exact fun z => nown ((gb.ok.offA nown).mp z)
            · cases h
          refine ⟨γ, Hk, ds, γ1, G0.ok, es, fun J H1 Hk1 g1 wk => ?_⟩
          obtain ⟨gr1, no1⟩ := gr0.go no0 g1
          let Wv : Nat → Nat → L2.St → Hp → Prop := fun n m σ' H' => m = ds.length - n ∧ n ≤ ds.length ∧ ∃ γ' Hk' gs kvs, Go X.K σ H Hk γ σ' H' Hk' γ' ∧ Same Hk1 Hk' ∧ σ'.length = σ.length ∧ σ'[i]? = some (some (V.ref p)) ∧ GrN X.K H' Hk' p gs kvs ∧
            (∀ a, FoN p gs a → ¬ OwnA X.K σ' H' Hk' γ' a ∧ (H a = none ∨ OwnA X.K σ H Hk γ a)) ∧ grpN j kf (ds.drop n) γ' kvs = some (kvsE, γE)
          refine ⟨Wv, ⟨ds.length, by simp, Nat.zero_le _, γ1, Hk1, [], [], G0.trans g1, Same.refl _, List.length_set, at0, gr1, fun a fa => ⟨no1 a fa, ?_⟩, by simpa using eg⟩, ?_⟩
          · rcases fa with rfl | ⟨_, h, _⟩
            · exact .inl hpn
            · cases h
          rintro n m σ' H' ⟨rfl, hn, γ', Hk', gs, kvs, g, sk, hl, hi', gr, no, ef⟩
          obtain ⟨w1, w2⟩ := wk H' Hk' sk g.ok.sub
          by_cases hlt : n < ds.length
          · obtain ⟨go, yl⟩ := w1 n hlt
            rw [List.drop_eq_getElem_cons hlt] at ef
            unfold grpN at ef
            refine .inr ⟨go, Wv (n + 1) (ds.length - (n + 1)), fun σ3 H3 w => ⟨_, by omega, w⟩, fun x H'' y => ?_⟩
            obtain ⟨Hc, gw, rv⟩ := yl x H'' y
            have gy := g.ok.go gw
            obtain ⟨gr2, no2⟩ := gr.go (fun a fa => (no a fa).1) gy
            split at ef
            · rename_i γ2 et
              unfold gDat at et
              split at et <;> cases et
              rename_i cp
              have gs3 : Go X.K σ' H'' Hc γ' (σ'.set j (some x)) H'' Hc (γ'.set j (some (.dat ds[n]))) := gy.ok.setDat rv (noPin_of gy.ok (by simpa using cp))
              obtain ⟨gr3, no3⟩ := gr2.go no2 gs3
              have hi3 : (σ'.set j (some x))[i]? = some (some (V.ref p)) := by rw [set_there hij.symm]; exact hi'
              have hj3 : (σ'.set j (some x))[j]? = some (some x) := List.getElem?_set_self (by rw [hl]; exact lj)
              split at ef
              · rename_i kd γ3 ek
                split at ef
                · rename_i ks eks
                  split at ef
                  · rename_i cz
                    rw [Bool.and_eq_true] at cz
                    refine putN_step ((g.trans gy).trans gs3) gr3 (fun a fa => ⟨no3 a fa, (no a fa).2⟩) hi3 hj3 rv ek eks cz.1 cz.2 fun v H2 Hk2 gs2 G2 S2 gr4 no4 => ?_
                    exact ⟨rfl, hlt, γ3, Hk2, gs2, putN kvs kd ks ds[n], G2, sk.trans ((gy.kk.trans gs3.kk).trans S2), by rw [List.length_set]; exact hl, hi3, gr4, no4, ef⟩
                  · cases ef
                · cases ef
              · cases ef
            · cases ef
          · have e0 : n = ds.length := by omega
            subst e0
            rw [List.drop_length] at ef
            cases ef
            refine .inl ⟨w2 _ (Nat.le_refl _), ?_⟩
            obtain ⟨Hf, gf, tb⟩ := gr.freeze g no (okN_line ce.2)
            have gt' := gf.ok.setDat (i := i) tb (noPin_of gf.ok (by simpa using ce.1))
            have same : σ'.set i (some (V.ref p)) = σ' := by
              apply List.ext_getElem?
              intro n'
              by_cases hn' : i = n'
              · subst hn'
                rw [List.getElem?_set_self (by rw [hl]; exact li), hi']
              · rw [List.getElem?_set_ne hn']
            rw [same] at gt'
            exact ⟨_, Hf, o, gt'.ok, e, q.back (gf.trans gt')⟩
        · cases ef
      · cases ef
    · cases ef
  · rename_i o' hn
    obtain ⟨γf, rfl⟩ := grpN_nx e
    exact absurd e (hn γf)
section
variable {X : Cx} {i j : Nat}
theorem ps_putN {k : Nat} (hr : Room k X.A) {d ke x : Expr} {kf : Fe} {a1 a2 c1 c2 lp pos : Pos} (hd : PE X d (tVar i)) (hk : EV X ke kf) (hx : PE X x (tVar j))
    (b1 : attributeBase d "setdefault" X.env (eval d X.env) = eval d X.env := by rfl)
    (f1' : ((backTo c1 (starEach [ke, .List [] lp] X.env)).all (fun x => !x.1) && (backToKw c1 (keywordEach [] X.env)).all (fun x => x.1.isSome) && decide ([ke, .List [] lp].length + ([] : List Keyword).length + (if ([] : List Keyword).isEmpty then 0 else 1) < 30)) = true := by rfl)
    (l1 : (a1.endLine == c1.line) = true := by rfl) (s1 : starEach [ke, .List [] lp] X.env = (false, eval ke X.env) :: starEach [.List [] lp] X.env := by rfl) (p1 : (backTo c1 (starEach [.List [] lp] X.env)).any (·.1) = false := by rfl)
    (s1' : starEach [.List [] lp] X.env = (false, eval (.List [] lp) X.env) :: starEach [] X.env := by rfl)
    (b2 : attributeBase (.Call (.Attribute d "setdefault" a1) [ke, .List [] lp] [] c1) "append" X.env (eval (.Call (.Attribute d "setdefault" a1) [ke, .List [] lp] [] c1) X.env) = eval (.Call (.Attribute d "setdefault" a1) [ke, .List [] lp] [] c1) X.env := by rfl)
    (f2' : ((backTo c2 (starEach [x] X.env)).all (fun x => !x.1) && (backToKw c2 (keywordEach [] X.env)).all (fun x => x.1.isSome) && decide ([x].length + ([] : List Keyword).length + (if ([] : List Keyword).isEmpty then 0 else 1) < 30)) = true := by rfl)
    (l2 : (a2.endLine == c2.line) = true := by rfl) (s2 : starEach [x] X.env = (false, eval x X.env) :: starEach [] X.env := by rfl) (p2 : (backTo c2 (starEach [] X.env)).any (·.1) = false := by rfl)
    (sw : swapsWith (.Call (.Attribute (.Call (.Attribute d "setdefault" a1) [ke, .List [] lp] [] c1) "append" a2) [x] [] c2) none pos.line X.env = pure false := by rfl) :
    PSs X [.Expr (.Call (.Attribute (.Call (.Attribute d "setdefault" a1) [ke, .List [] lp] [] c1) "append" a2) [x] [] c2) pos] (tDrop (tPutN X i j kf)) :=
  pss_one (ps_expr (pe_meth PySem.F.plainAttrs_list PySem.F.slot_list_append PySem.F.type_list_append mt_append
    (pe_meth PySem.F.plainAttrs_dict PySem.F.slot_dict_setdefault PySem.F.type_dict_setdefault (mt_setdN hr) hd (pa_cons hk (pa_cons (el_disp ea_nil) pa_nil s1') s1) b1 f1' l1 s1 p1)
    (pa_cons hx pa_nil s2) b2 f2' l2 s2 p2) sw)
theorem ps_dnewN (i : Nat) {x : Str} {p' dp pos : Pos} (hN : X.N.Nodup) (hi : X.N[i]? = some x) (hx : Loc X.env.scope x) (hs : swapsWith (.Dict [] [] dp) (some (.Name x p')) pos.line X.env = pure false := by rfl)
    (hf : X.fn x = true ∨ X.env.scope.names.lookup x = some .local := by first | exact .inl rfl | exact .inr rfl | assumption) : PS X (.Assign [.Name x p'] (.Dict [] [] dp) pos) (tAsg tDicNew (gName i)) := ps_set hN hi hx pe_dicNew hs hf
end
end DN
namespace DN
open PySem PySem.Spec PyProof.Rows L2
/-! ### a def's whole contract: what is lent to it (first), what it tells: data, a thing that the caller owns then, an exception -/
inductive Ret where
  | da (d : D)
  | ow (y : Pay)
  | er (c : Str) (fs : List (Str × D))
abbrev FunX := Option Pay → List D → Option (Ret × Option Pay)
def ArgX (K : PySem.W.Frag) (H Hk : Hp) (y : Option Pay) (vs : List V) (ds : List D) (fp : List Addr) : Prop := match y with
  | none => DpAll K Hk vs ds ∧ fp = []
  | some y => ∃ v vs', vs = v :: vs' ∧ OwnV K H Hk v y fp ∧ DpAll K Hk vs' ds
/-- from the heap ahead of a call to the one behind it -/
structure Aft (K : PySem.W.Frag) (H Hk H2 Hk2 : Hp) (vs : List V) (fp : List Addr) (out : Option Pay) (fq : List Addr) : Prop where
  sub : Same Hk2 H2
  kk : Same Hk Hk2
  nw : ∀ a u, Hk2 a = some u → Hk a = none → H a = none ∨ a ∈ fp
  kp : ∀ a u, H a = some u → a ∉ fp → H2 a = some u
  out : match out with
    | none => fq = []
    | some z => ∃ v, vs[0]? = some v ∧ OwnV K H2 Hk2 v z fq ∧ ∀ a ∈ fq, a ∈ fp ∨ H a = none
def RetX (K : PySem.W.Frag) (H H2 Hk2 : Hp) (fp fq : List Addr) (Q : VK) (E : XK) : Ret → Prop
  | .da d => ∀ v, Dp K Hk2 v d → Q v H2
  | .ow z => ∀ v fr, OwnV K H2 Hk2 v z fr → (∀ a ∈ fr, a ∉ fq ∧ (a ∈ fp ∨ H a = none)) → Q v H2
  | .er c fs => ∀ cls dd, XcIs K Hk2 cls dd c fs → E cls dd H2
def spX (K : PySem.W.Frag) (n : Nat) (F : FunX) (vs : List V) (H : Hp) (Q : VK) (E : XK) : Prop := vs.length = n ∧ ∃ Hk y ds r out fp, Same Hk H ∧ ArgX K H Hk y vs ds fp ∧ F y ds = some (r, out) ∧ ∀ H2 Hk2 fq, Aft K H Hk H2 Hk2 vs fp out fq → RetX K H H2 Hk2 fp fq Q E r
structure FnX (P : Program) (w : World) (K : PySem.W.Frag) (mg : Str → Option Value) (base : Heap) (k : Nat) (f : Addr) (fd : FuncData) (ps : List Str) (F : FunX) : Prop where
  run : ∀ (A : Around) (outer : List Env) (s : Shared) (H : Hp) (args : PySem.Args) (us : List Value) (vs : List V) (Q : VK) (E : XK), Room k A → A.guards = some [] → Env0 P w K mg base A outer s H → BindsTo s fd args (ps.zip us) → Vals vs us →
    spX K ps.length F vs H Q E → codeAny (model P w) A (.call (.ref f) args) (CR (L2.CX P w) outer P w H s Q E) s
@[simp] def iniX (y : Option Pay) (m : Nat) (ds : List D) : En := match y with
  | none => (ds.map fun d => some (.dat d)) ++ List.replicate m none
  | some y => some (.ow true y) :: ((ds.map fun d => some (.dat d)) ++ List.replicate m none)
@[simp] def tellX (y : Option Pay) (r : Ret) (γ : En) : Option (Ret × Option Pay) := match y with
  | none => some (r, none)
  | some _ => match gt γ 0 with
    | some (.ow true z) => some (r, some z)
    | _ => none
@[simp] def runX (m : Nat) (B : Fs) : FunX := fun y ds => match B (iniX y m ds) with
  | some (.rt d γ) => tellX y (.da d) γ
  | some (.nx γ) => tellX y (.da .none) γ
  | some (.ro z γ) => tellX y (.ow z) γ
  | some (.rs c fs γ) => tellX y (.er c fs) γ
  | _ => none
theorem iniX_ok {K : PySem.W.Frag} {N : List Str} {y : Option Pay} {vs : List V} {ds : List D} {fp : List Addr} {H Hk : Hp} {m : Nat} (s : Same Hk H) (a : ArgX K H Hk y vs ds fp) (hl : vs.length + m = N.length) : Ok K (L2.start N vs) H Hk (iniX y m ds) := by
  cases y with
  | none => exact ini_dat s a.1 hl
  | some y =>
    obtain ⟨v, vs', rfl, r, a'⟩ := a
    have hs : L2.start N (v :: vs') = some v :: L2.start (N.drop 1) vs' := by
      unfold L2.start
      simp only [List.map_cons, List.cons_append, List.length_cons, List.length_drop]
      rw [show N.length - (vs'.length + 1) = N.length - 1 - vs'.length by omega]
    have k := ini_dat (N := N.drop 1) (m := m) s a' (by rw [List.length_drop]; simp only [List.length_cons] at hl; omega)
    rw [hs]
    have no : ∀ {i b z}, gt ((ds.map fun d => some (Ent.dat d)) ++ List.replicate m none) i = some (.ow b z) → False := fun {i b z} e => by
      rw [gt_map] at e
      split at e
      · cases e
      · rw [gt_rep] at e; cases e
    refine ⟨by simp only [iniX, List.length_cons]; rw [k.len], s, fun i d e => ?_, fun i b z e => ?_, fun i z e => ?_, fun i j b c z z' v1 u1 f1 f2 ei ej => ?_, fun i t e => ?_⟩
    · cases i with
      | zero => cases e
      | succ i =>
        obtain ⟨v, ev, r⟩ := k.dat i d e
        exact ⟨v, by simpa using ev, r⟩
    · cases i with
      | zero => cases e; exact ⟨v, fp, rfl, r⟩
      | succ i => exact (no e).elim
    · cases i with
      | zero => rfl
      | succ i => exact (no e).elim
    · cases i with
      | zero =>
        cases j with
        | zero => intros; rfl
        | succ j => exact (no ej).elim
      | succ i => exact (no ei).elim
    · cases i with
      | zero => cases e
      | succ i =>
        obtain ⟨v, ev, r⟩ := k.tab i t e
        exact ⟨v, by simpa using ev, r⟩
/-- what the frame owns at the start is what was lent to it -/
theorem iniX_own {K : PySem.W.Frag} {N : List Str} {y : Option Pay} {vs : List V} {ds : List D} {fp : List Addr} {H Hk : Hp} {m : Nat} (a : ArgX K H Hk y vs ds fp) {x : Addr} (h : OwnA K (L2.start N vs) H Hk (iniX y m ds) x) : x ∈ fp := by
  obtain ⟨i, b, z, w, fq, e, ev, r, mm⟩ := h
  have no : ∀ {i b z}, gt ((ds.map fun d => some (Ent.dat d)) ++ List.replicate m none) i = some (.ow b z) → False := fun {i b z} e => by
    rw [gt_map] at e
    split at e
    · cases e
    · rw [gt_rep] at e; cases e
  cases y with
  | none => exact (no e).elim
  | some y =>
    obtain ⟨v, vs', rfl, r', a'⟩ := a
    cases i with
    | zero =>
      cases e
      have ev : some (some v) = some (some w) := ev
      cases ev
      rw [← r.det r']
      exact mm
    | succ i => exact (no e).elim
theorem fnX_of {P : Program} {w : World} {K : PySem.W.Frag} {mg : Str → Option Value} {base : Heap} {x qual : Str} {st : Stmt} {f : Addr} {fd : FuncData} {N ps : List Str} {k m : Nat} {B : Fs} (Fu : Fun K x qual st f fd) (S : FnScope N ps (defScope st)) (hm : ps.length + m = N.length)
    (hb : ∀ (cdv : Value) (A : Around) (outer : List Env) (s : Shared) (H : Hp) (E : XK), (A.deeper (envOfC qual (defScope st) s.heap.objs.size f cdv)).guards = some [] → Room k (A.deeper (envOfC qual (defScope st) s.heap.objs.size f cdv)) →
      Takes (cxOf (L2.CX P w) P w K mg base N qual (defScope st) f cdv A outer s H E) (fun cls d _ H' => E cls d H') → PassesOwn (model P w) (A.deeper (envOfC qual (defScope st) s.heap.objs.size f cdv)) (envOfC qual (defScope st) s.heap.objs.size f cdv) (cxOf (L2.CX P w) P w K mg base N qual (defScope st) f cdv A outer s H E).xe →
      ESs (cxOf (L2.CX P w) P w K mg base N qual (defScope st) f cdv A outer s H E) (fun cls d _ H' => E cls d H') (defBody st) B) :
    FnX P w K mg base (k + 1) f fd ps (runX m B) := by
  obtain ⟨oc, od, kV, doc, pm, an, cdv, ct, osl, rfl, lk, hcd⟩ := Fu.ex
  refine ⟨fun A outer s H args us vs Q E hr hG e0 bd rv sp => ?_⟩
  obtain ⟨hlen, Hk, y, ds, r, out, fp, hsub, ha, eF, post⟩ := sp
  have inK : K.In s.heap := e0.mod.kin.keeps fun b o e => (e0.bs b o e).1
  have noLim : s.heap.NoLimit := e0.mod.nolimit.keeps fun b o e => (e0.bs b o e).1
  have kinds : ∀ y ∈ ps.zip us, (defScope st).names.lookup y.1 = some .local ∨ ((defScope st).names.lookup y.1 = some .cell ∧ ((cellsFrom (s.heap.objs.size + 1) (defScope st).names []).lookup y.1).isSome = true) := by
    rintro ⟨nm, vl⟩ hy
    exact (S.par nm (List.of_mem_zip hy).1).imp id fun z => ⟨z, PySem.W.cellsFrom_some _ _ _ (.inl z)⟩
  refine codeAny_call_function hr.depth (inK _ _ lk) rfl S.co S.gen rfl (PySem.W.codeRec_of inK hcd) (bd _ _ _ _ (wpAny_newFunctionEnv_cells S.kind kinds fun env henv s1 ic => ?_))
  subst henv
  refine ⟨noLim.keeps ic.toInCall.keep, codeAny_func ?_⟩
  have J0 : Inv (cxOf (L2.CX P w) P w K mg base N qual (defScope st) f cdv A outer s H E) [] (L2.start N vs) H s1 := inv_start S hr.hd e0 hlen rv ic
  have body := hb cdv A outer s H E (by simpa [Around.deeper] using hG) (hr.deeper _) (takes_of rfl rfl rfl rfl) PassesOwn.leaving
  have ok0 : Ok K (L2.start N vs) H Hk (iniX y m ds) := iniX_ok hsub ha (by rw [hlen]; exact hm)
  -- behind the body
  have aft : ∀ {σ2 : L2.St} {H2 Hk2 : Hp} {γ2 : En} {r' : Ret}, Go K (L2.start N vs) H Hk (iniX y m ds) σ2 H2 Hk2 γ2 → tellX y r' γ2 = some (r, out) → r' = r ∧ ∃ fq, Aft K H Hk H2 Hk2 vs fp out fq ∧ ∀ a, ¬ OwnA K σ2 H2 Hk2 γ2 a → a ∉ fq := by
    intro σ2 H2 Hk2 γ2 r' g e
    have old : ∀ a, OwnA K (L2.start N vs) H Hk (iniX y m ds) a → a ∈ fp := fun a h => iniX_own ha h
    have nw : ∀ a u, Hk2 a = some u → Hk a = none → H a = none ∨ a ∈ fp := fun a u h n => (g.nw a u h n).imp id (old a)
    have kp : ∀ a u, H a = some u → a ∉ fp → H2 a = some u := fun a u h n => g.kp a u h fun z => n (old a z)
    unfold tellX at e
    cases y with
    | none =>
      simp only at e
      cases e
      exact ⟨rfl, [], ⟨g.ok.sub, g.kk, nw, kp, rfl⟩, fun a _ h => by cases h⟩
    | some y =>
      simp only at e
      split at e
      · rename_i z ez
        cases e
        obtain ⟨v, vs', rfl, rr, a'⟩ := ha
        obtain ⟨v2, fq, ev, r2⟩ := g.ok.ow 0 _ _ ez
        obtain ⟨e2, _⟩ := g.pn 0 y rfl
        rw [e2] at ev
        have ev : some (some v) = some (some v2) := ev
        cases ev
        have mine : ∀ a ∈ fq, OwnA K σ2 H2 Hk2 γ2 a := fun a h => ⟨0, _, _, v, fq, ez, by rw [e2]; rfl, r2, h⟩
        refine ⟨rfl, fq, ⟨g.ok.sub, g.kk, nw, kp, v, rfl, r2, fun a h => ?_⟩, fun a n h => n (mine a h)⟩
        exact (g.sh a (mine a h)).imp (old a) id
      · cases e
  have run : wpAny (model P w) (A.deeper (envOfC qual (defScope st) s.heap.objs.size f cdv)) (execs (defBody st) (envOfC qual (defScope st) s.heap.objs.size f cdv))
      (SP (cxOf (L2.CX P w) P w K mg base N qual (defScope st) f cdv A outer s H E) [] { nx := fun _ H' => Q .non H', rt := Q }) (cxOf (L2.CX P w) P w K mg base N qual (defScope st) f cdv A outer s H E).xe s1 := by
    refine body.run [] s1 (L2.start N vs) H { nx := fun _ H' => Q .non H', rt := Q } J0 ?_
    unfold runX at eF
    split at eF
    · rename_i d γ2 eB
      refine ⟨_, Hk, _, ok0, eB, fun v σ2 H2 Hk2 g rd => ?_⟩
      obtain ⟨rfl, fq, af, _⟩ := aft g eF
      exact post H2 Hk2 fq af v rd
    · rename_i γ2 eB
      refine ⟨_, Hk, _, ok0, eB, fun σ2 H2 Hk2 g => ?_⟩
      obtain ⟨rfl, fq, af, _⟩ := aft g eF
      exact post H2 Hk2 fq af .non .non
    · rename_i z γ2 eB
      refine ⟨_, Hk, _, ok0, eB, fun v fr σ2 H2 Hk2 g rd nn => ?_⟩
      obtain ⟨rfl, fq, af, ff⟩ := aft g eF
      exact post H2 Hk2 fq af v fr rd fun a h => ⟨ff a (nn a h).1, ((nn a h).2.imp id (iniX_own ha)).symm⟩
    · rename_i c fs γ2 eB
      refine ⟨_, Hk, _, ok0, eB, fun σ2 H2 Hk2 cls dd g rd => ?_⟩
      obtain ⟨rfl, fq, af, _⟩ := aft g eF
      exact post H2 Hk2 fq af cls dd rd
    · cases eF
  refine wpAny_mono run (fun fl s' hs => ?_) fun e s' hs => hs
  have fin : ∀ {σ' : L2.St} {H' : Hp} {v : V} {u : Value}, Inv (cxOf (L2.CX P w) P w K mg base N qual (defScope st) f cdv A outer s H E) [] σ' H' s' → RelV v u → Q v H' → CE outer P w H s Q u s' := fun {σ' H' v u} J r q => ⟨v, H', J.os, J.bare, J.base, J.hok, r, q⟩
  cases fl with
  | ret u =>
    obtain ⟨v, σ', H', J, r, q⟩ := hs
    exact fin J r q
  | next =>
    obtain ⟨σ', H', J, q⟩ := hs
    exact fin (v := V.non) (u := Value.none) J rfl q
  | brk =>
    obtain ⟨_, _, _, q⟩ := hs
    exact q.elim
  | cont =>
    obtain ⟨_, _, _, q⟩ := hs
    exact q.elim
/-! ### calls -/
def CalX (P : Program) (w : World) (K : PySem.W.Frag) (mg : Str → Option Value) (base : Heap) (x : Str) (k : Nat) (ps : List Str) (F : FunX) : Prop :=
  ∃ f fd, FnX P w K mg base k f fd ps F ∧ mg x = some (.ref f) ∧ PySem.W.keepIn K (.ref f) = true ∧ Binds K fd ps []
section
variable {W : WX} {X : Cx} {x : Str} {k n : Nat} {ps : List Str} {F : FunX} {e : Expr} {es : List Expr} {fa : Fa} {p pos : Pos}
theorem runXc {f : Addr} {fd : FuncData} {pins : List (Addr × Obj)} {σ : L2.St} {H : Hp} {s : Shared} {Q : VK} {us : List Value} {vs : List V} {E : XK} (G : FnX X.prog X.w X.K X.mg X.base k f fd ps F) (hr : Room k X.A) (hG : X.A.guards = some []) (hb : Binds X.K fd ps []) (hx : PassesAt (L2.CX X.prog X.w) X σ E)
    (I : Inv X pins σ H s) (r : Vals vs us) (h : spX X.K ps.length F vs H Q E) : wpAny (model X.prog X.w) X.A (call (.ref f) us) (EP X pins σ Q) X.xe s := by
  have hl : us.length = ps.length := by rw [← r.length]; exact h.1
  have bd := hb s us I.kIn (by rw [List.append_nil]; exact hl)
  rw [List.append_nil] at bd
  refine wpAny_call (codeAny_mono (G.run X.A X.stack s H ⟨us, []⟩ us vs Q E hr hG I.env0 bd r h) fun res s' hq => ?_)
  cases res with
  | error ex => exact hx pins H s ex s' I hq
  | ok fl =>
    cases fl with
    | ret u => exact I.after hq
    | next => exact hq.elim
    | brk => exact hq.elim
    | cont => exact hq.elim
theorem pass0X {X : Cx} {σ : L2.St} : PassesAt (L2.CX X.prog X.w) X σ E0 := fun _ _ _ _ _ _ h => by
  obtain ⟨_, _, _, _, _, _, _, _, _, _, _, _, z⟩ := h
  exact z.elim
/-- a call that tells data -/
@[simp] def fCallX (n : Nat) (F : FunX) (fa : Fa) : Fe := fun γ => match fa γ with
  | some (ds, γ1) => if ds.length = n then match F none ds with
    | some (.da d, none) => some (d, γ1)
    | _ => none
    else none
  | none => none
theorem ev_callX (C : CalX X.prog X.w X.K X.mg X.base x k ps F) (hr : Room k X.A) (hG : X.A.guards = some []) (hg : Gl X x) (ha : EA X (e :: es) fa) (hn : ps.length = n := by rfl)
    (hdb : (x == ("__debug__" : Str)) = false := by decide) (he : starEach (e :: es) X.env = (false, eval e X.env) :: starEach es X.env := by rfl) (hpl : (backTo pos (starEach es X.env)).any (·.1) = false := by rfl) :
    EV X (.Call (.Name x p) (e :: es) [] pos) (fCallX n F fa) := by
  subst hn
  obtain ⟨f, fd, G, hm, hk, hb⟩ := C
  refine ⟨fun pins s σ H Q I h => ?_⟩
  obtain ⟨γ, Hk, d, γ2, ok, ee, q⟩ := h
  unfold fCallX at ee
  split at ee
  · rename_i ds γ1 ea
    split at ee
    · rename_i hl
      split at ee <;> cases ee
      rename_i eF
      refine wpAny_Call_Name_kw (ld_glob I hg hm ?_ hdb)
      refine PySem.W.callWith_K (h₀ := X.base) I.ok.mod.kin hk (thn (ha.run pos pins s σ H (fun vs H1 => spX X.K ps.length F vs H1 Q E0) I ⟨γ, Hk, ds, _, ok, ea, fun vs H1 Hk1 g1 r1 => ?_⟩) fun us s1 ⟨vs, H1, I1, r, q1⟩ => ⟨I1.kIn, ?_⟩) he hpl
      · refine ⟨by rw [dps_len r1]; exact hl, Hk1, none, ds, .da d, none, [], g1.ok.sub, ⟨r1, rfl⟩, eF, fun H2 Hk2 fq af v r2 => ?_⟩
        exact q v H2 Hk2 (g1.trans (g1.ok.go ⟨fun a u h => af.kp a u h (by simp), af.kk, af.sub, fun a u h1 h2 => (af.nw a u h1 h2).resolve_right (by simp)⟩)) r2
      · exact runXc G hr hG hb pass0X I1 r q1
    · cases ee
  · cases ee
/-- x = f(..): a thing that the frame owns then -/
@[simp] def sOwnX (i n : Nat) (F : FunX) (fa : Fa) : Fs := fun γ => match fa γ with
  | some (ds, γ1) => if ds.length = n then match F none ds with
    | some (.ow y, none) => if pinB γ1 i then none else some (.nx (γ1.set i (some (.ow false y))))
    | _ => none
    else none
  | none => none
def tOwnX (K : PySem.W.Frag) (n : Nat) (F : FunX) (fa : Fa) : TE := fun σ H Q => ∃ γ Hk ds γ1 y, Ok K σ H Hk γ ∧ fa γ = some (ds, γ1) ∧ ds.length = n ∧ F none ds = some (.ow y, none) ∧ ∀ v fr H2 Hk2 H3, Go K σ H Hk γ σ H2 Hk2 γ1 → Same H2 H3 → OwnV K H3 Hk2 v y fr → (∀ a ∈ fr, H2 a = none) → Q v H3
theorem pe_ownX (C : CalX X.prog X.w X.K X.mg X.base x k ps F) (hr : Room k X.A) (hG : X.A.guards = some []) (hg : Gl X x) (ha : EA X (e :: es) fa) (hn : ps.length = n := by rfl)
    (hdb : (x == ("__debug__" : Str)) = false := by decide) (he : starEach (e :: es) X.env = (false, eval e X.env) :: starEach es X.env := by rfl) (hpl : (backTo pos (starEach es X.env)).any (·.1) = false := by rfl) :
    PE X (.Call (.Name x p) (e :: es) [] pos) (tOwnX X.K n F fa) := by
  subst hn
  obtain ⟨f, fd, G, hm, hk, hb⟩ := C
  refine ⟨fun pins s σ H Q I h => ?_⟩
  obtain ⟨γ, Hk, ds, γ1, y, ok, ea, hl, eF, q⟩ := h
  refine wpAny_Call_Name_kw (ld_glob I hg hm ?_ hdb)
  refine PySem.W.callWith_K (h₀ := X.base) I.ok.mod.kin hk (thn (ha.run pos pins s σ H (fun vs H1 => spX X.K ps.length F vs H1 Q E0) I ⟨γ, Hk, ds, _, ok, ea, fun vs H1 Hk1 g1 r1 => ?_⟩) fun us s1 ⟨vs, H1, I1, r, q1⟩ => ⟨I1.kIn, ?_⟩) he hpl
  · refine ⟨by rw [dps_len r1]; exact hl, Hk1, none, ds, .ow y, none, [], g1.ok.sub, ⟨r1, rfl⟩, eF, fun H2 Hk2 fq af v fr r2 hf => ?_⟩
    -- the heap as it was, with what lasts since then
    have fresh : ∀ a ∈ fr, H1 a = none := fun a h => (hf a h).2.resolve_left (by simp)
    have g2 : Grow H1 Hk1 (fun a => if a ∈ fr then none else H2 a) Hk2 := by
      refine ⟨fun a u h => ?_, af.kk, fun a u h => ?_, fun a u h1 h2 => (af.nw a u h1 h2).resolve_right (by simp)⟩
      · show (if a ∈ fr then none else H2 a) = some u
        rw [if_neg (fun m => by rw [fresh a m] at h; cases h)]
        exact af.kp a u h (by simp)
      · show (if a ∈ fr then none else H2 a) = some u
        rw [if_neg (fun m => by rw [(r2.at a m).2] at h; cases h)]
        exact af.sub a u h
    refine q v fr _ Hk2 H2 (g1.trans (g1.ok.go g2)) (fun a u h => ?_) r2 fun a h => if_pos h
    by_cases m : a ∈ fr
    · have h : (if a ∈ fr then none else H2 a) = some u := h
      rw [if_pos m] at h; cases h
    · have h : (if a ∈ fr then none else H2 a) = some u := h
      rw [if_neg m] at h
      exact h
  · exact runXc G hr hG hb pass0X I1 r q1
theorem es_ownX (i : Nat) {z : Str} {p' pos' : Pos} (hN : X.N.Nodup) (hi : X.N[i]? = some z) (hx : Loc X.env.scope z) (C : CalX X.prog X.w X.K X.mg X.base x k ps F) (hr : Room k X.A) (hG : X.A.guards = some []) (hg : Gl X x) (ha : EA X (e :: es) fa) (hn : ps.length = n := by rfl)
    (hdb : (x == ("__debug__" : Str)) = false := by decide) (he : starEach (e :: es) X.env = (false, eval e X.env) :: starEach es X.env := by rfl) (hpl : (backTo pos (starEach es X.env)).any (·.1) = false := by rfl)
    (hs : swapsWith (.Call (.Name x p) (e :: es) [] pos) (some (.Name z p')) pos'.line X.env = pure false := by rfl) (hf : X.fn z = true ∨ X.env.scope.names.lookup z = some .local := by first | exact .inl rfl | exact .inr rfl | assumption) :
    ES X W (.Assign [.Name z p'] (.Call (.Name x p) (e :: es) [] pos) pos') (sOwnX i n F fa) := PS.imp (ps_set hN hi hx (pe_ownX C hr hG hg ha hn hdb he hpl) hs hf) fun Z σ H ⟨γ, Hk, o, k, ee, q⟩ => by
  unfold sOwnX at ee
  split at ee
  · rename_i ds γ1 ea
    split at ee
    · rename_i hl
      split at ee
      · rename_i y eF
        split at ee <;> cases ee
        rename_i c
        exact ⟨γ, Hk, ds, γ1, y, k, ea, hl, eF, fun v fr H2 Hk2 H3 g s r nn => q _ _ _ (g.trans (g.ok.setNew s r nn (noPin_of g.ok (by simpa using c))))⟩
      · cases ee
    · cases ee
  · cases ee
end
end DN
namespace DN
open PySem PySem.Spec PyProof.Rows L2
/-! ### a new list out of two -/
@[simp] def catL : D → D → Option (List D)
  | .list a, .list b => if okN (a.length + b.length) then some (a ++ b) else none
  | _, _ => none
@[simp] def lCat (f g : Fe) : Fa := fun γ => match f γ with
  | some (x, γ1) => match g γ1 with
    | some (y, γ2) => match catL x y with
      | some ds => some (ds, γ2)
      | none => none
    | none => none
  | none => none
@[simp] def lCatn (i : Nat) (g : Fe) : Fa := fun γ => match view γ i with
  | some _ => match g γ with
    | some (y, γ2) => match view γ2 i with
      | some x => match catL x y with
        | some ds => some (ds, γ2)
        | none => none
      | none => none
    | none => none
  | none => none
section
variable {X : Cx} {a b : Expr} {f g : Fe} {pos : Pos}
theorem cat_at {K : PySem.W.Frag} {H Hk : Hp} {x y : V} {dx dy : D} {ds : List D} {Q : VK} (s : Same Hk H) (vx : Vw K H Hk x dx) (vy : Vw K H Hk y dy) (e : catL dx dy = some ds) (q : ∀ p vs, H p = none → DpAll K Hk vs ds → Q (.ref p) (upd H p (.lst vs))) : rCatL K x y H Q := by
  unfold catL at e
  split at e
  · split at e <;> cases e
    rename_i c
    obtain ⟨p, vs, rfl, sp, ap⟩ := vx.lst s
    obtain ⟨u, ws, rfl, su, au⟩ := vy.lst s
    exact ⟨p, u, vs, ws, rfl, rfl, sp, su, by rw [dps_len ap, dps_len au]; exact okN_line c, fun t ht => q t _ ht (dps_app ap au)⟩
  · cases e
theorem el_cat (ha : EV X a f) (hb : EV X b g) : EL X (.BinOp a .Add b pos) (lCat f g) := PE.imp (pe_op op_catL ha hb) fun σ H Q ⟨γ, Hk, ds, γ2, o, ee, q⟩ => by
  unfold lCat at ee
  split at ee
  · rename_i x γ1 ef
    split at ee
    · rename_i y γ3 eg
      split at ee <;> cases ee
      rename_i ec
      refine ⟨γ, Hk, x, γ1, o, ef, fun v H1 Hk1 g1 r1 => ⟨γ1, Hk1, y, _, g1.ok, eg, fun u H2 Hk2 g2 r2 => ?_⟩⟩
      exact cat_at g2.ok.sub (.inl (dp_mono g2.kk r1)) (.inl r2) ec fun p vs hp r => q p vs H2 Hk2 (g1.trans g2) hp r
    · cases ee
  · cases ee
theorem el_catn {i : Nat} (ha : PE X a (tVar i)) (hb : EV X b g) : EL X (.BinOp a .Add b pos) (lCatn i g) := PE.imp (pe_op op_catL ha hb) fun σ H Q ⟨γ, Hk, ds, γ2, o, ee, q⟩ => by
  unfold lCatn at ee
  split at ee
  · rename_i x0 ev0
    split at ee
    · rename_i y γ3 eg
      split at ee
      · rename_i x ev
        split at ee <;> cases ee
        rename_i ec
        obtain ⟨v, e1, _⟩ := o.view ev0
        refine ⟨v, e1, γ, Hk, y, _, o, eg, fun u H2 Hk2 g2 r2 => ?_⟩
        obtain ⟨v', e2, w⟩ := g2.ok.view ev
        rw [e1] at e2; cases e2
        exact cat_at g2.ok.sub w (.inl r2) ec fun p vs hp r => q p vs H2 Hk2 g2 hp r
      · cases ee
    · cases ee
  · cases ee
end
end DN
namespace DN
open PySem PySem.Spec PyProof.Rows L2
/-! ### a call that may raise, as a statement -/
section
variable {W : WX} {X : Cx} {x : Str} {k n : Nat} {ps : List Str} {F : FunX} {e : Expr} {es : List Expr} {fa : Fa} {p pos : Pos}
def tRX (K : PySem.W.Frag) (W : WX) (n : Nat) (F : FunX) (fa : Fa) : TE := fun σ H Q => ∃ γ Hk ds γ1 r, Ok K σ H Hk γ ∧ fa γ = some (ds, γ1) ∧ ds.length = n ∧ F none ds = some (r, none) ∧
  ((∃ d, r = .da d ∧ ∀ v H2 Hk2, Go K σ H Hk γ σ H2 Hk2 γ1 → Dp K Hk2 v d → Q v H2) ∨
   (∃ c fs, r = .er c fs ∧ ∀ cls dd H2 Hk2, Go K σ H Hk γ σ H2 Hk2 γ1 → XcIs K Hk2 cls dd c fs → W cls dd σ H2))
theorem go_call {K : PySem.W.Frag} {σ : L2.St} {H Hk H1 Hk1 H2 Hk2 : Hp} {γ γ1 : En} {vs : List V} {fq : List Addr} (g1 : Go K σ H Hk γ σ H1 Hk1 γ1) (af : Aft K H1 Hk1 H2 Hk2 vs [] none fq) : Go K σ H Hk γ σ H2 Hk2 γ1 :=
  g1.trans (g1.ok.go ⟨fun a u h => af.kp a u h (by simp), af.kk, af.sub, fun a u h1 h2 => (af.nw a u h1 h2).resolve_right (by simp)⟩)
theorem pe_rX (tk : Takes X W) (C : CalX X.prog X.w X.K X.mg X.base x k ps F) (hr : Room k X.A) (hG : X.A.guards = some []) (hg : Gl X x) (ha : EA X (e :: es) fa) (hn : ps.length = n := by rfl)
    (hdb : (x == ("__debug__" : Str)) = false := by decide) (he : starEach (e :: es) X.env = (false, eval e X.env) :: starEach es X.env := by rfl) (hpl : (backTo pos (starEach es X.env)).any (·.1) = false := by rfl) :
    PE X (.Call (.Name x p) (e :: es) [] pos) (tRX X.K W n F fa) := by
  subst hn
  obtain ⟨f, fd, G, hm, hk, hb⟩ := C
  refine ⟨fun pins s σ H Q I h => ?_⟩
  obtain ⟨γ, Hk, ds, γ1, r, ok, ea, hl, eF, q⟩ := h
  refine wpAny_Call_Name_kw (ld_glob I hg hm ?_ hdb)
  refine PySem.W.callWith_K (h₀ := X.base) I.ok.mod.kin hk (thn (ha.run pos pins s σ H (fun vs H1 => spX X.K ps.length F vs H1 Q (WE W σ)) I ⟨γ, Hk, ds, _, ok, ea, fun vs H1 Hk1 g1 r1 => ?_⟩) fun us s1 ⟨vs, H1, I1, rv, q1⟩ => ⟨I1.kIn, ?_⟩) he hpl
  · refine ⟨by rw [dps_len r1]; exact hl, Hk1, none, ds, r, none, [], g1.ok.sub, ⟨r1, rfl⟩, eF, fun H2 Hk2 fq af => ?_⟩
    rcases q with ⟨d, rfl, q⟩ | ⟨c, fs, rfl, q⟩
    · exact fun v r2 => q v H2 Hk2 (go_call g1 af) r2
    · exact fun cls dd xc => q cls dd H2 Hk2 (go_call g1 af) xc
  · exact runXc G hr hG hb (passAt tk σ) I1 rv q1
/-- what such a call does: on with the data, or raised -/
@[simp] def rCall (n : Nat) (F : FunX) (fa : Fa) (on : D → En → Option Out) : Fs := fun γ => match fa γ with
  | some (ds, γ1) => if ds.length = n then match F none ds with
    | some (.da d, none) => on d γ1
    | some (.er c fs, none) => some (.rs c fs γ1)
    | _ => none
    else none
  | none => none
theorem rcall_imp {K : PySem.W.Frag} {Z : Ends} {σ : L2.St} {H : Hp} {on : D → En → Option Out} {Q : VK} (h : tS K W (rCall n F fa on) Z σ H)
    (hq : ∀ (γ : En) (Hk : Hp) (γ1 : En) (d : D) (o : Out), Ok K σ H Hk γ → on d γ1 = some o → Fin K W Z σ H Hk γ o → ∀ v H2 Hk2, Go K σ H Hk γ σ H2 Hk2 γ1 → Dp K Hk2 v d → Q v H2) : tRX K W n F fa σ H Q := by
  obtain ⟨γ, Hk, o, k, ee, q⟩ := h
  unfold rCall at ee
  split at ee
  · rename_i ds γ1 ea
    split at ee
    · rename_i hl
      split at ee
      · rename_i d eF
        exact ⟨γ, Hk, ds, γ1, _, k, ea, hl, eF, .inl ⟨d, rfl, hq γ Hk γ1 d o k ee q⟩⟩
      · rename_i c fs eF
        cases ee
        exact ⟨γ, Hk, ds, γ1, _, k, ea, hl, eF, .inr ⟨c, fs, rfl, fun cls dd H2 Hk2 g xc => q σ H2 Hk2 cls dd g xc⟩⟩
      · cases ee
    · cases ee
  · cases ee
abbrev sRetR (n : Nat) (F : FunX) (fa : Fa) : Fs := rCall n F fa fun d γ => some (.rt d γ)
abbrev sDropR (n : Nat) (F : FunX) (fa : Fa) : Fs := rCall n F fa fun _ γ => some (.nx γ)
abbrev sSetR (i n : Nat) (F : FunX) (fa : Fa) : Fs := rCall n F fa fun d γ => match gDat i d γ with
  | some γ2 => some (.nx γ2)
  | none => none
theorem es_retR {pos' : Pos} (tk : Takes X W) (C : CalX X.prog X.w X.K X.mg X.base x k ps F) (hr : Room k X.A) (hG : X.A.guards = some []) (hg : Gl X x) (ha : EA X (e :: es) fa) (hn : ps.length = n := by rfl)
    (hdb : (x == ("__debug__" : Str)) = false := by decide) (he : starEach (e :: es) X.env = (false, eval e X.env) :: starEach es X.env := by rfl) (hpl : (backTo pos (starEach es X.env)).any (·.1) = false := by rfl) :
    ES X W (.Return (some (.Call (.Name x p) (e :: es) [] pos)) pos') (sRetR n F fa) := PS.imp (ps_ret (pe_rX tk C hr hG hg ha hn hdb he hpl)) fun Z σ H h =>
  rcall_imp h fun γ Hk γ1 d o k ee q v H2 Hk2 g r => by
    cases ee
    exact q v σ H2 Hk2 g r
theorem es_dropR {pos' : Pos} (tk : Takes X W) (C : CalX X.prog X.w X.K X.mg X.base x k ps F) (hr : Room k X.A) (hG : X.A.guards = some []) (hg : Gl X x) (ha : EA X (e :: es) fa) (hn : ps.length = n := by rfl)
    (hdb : (x == ("__debug__" : Str)) = false := by decide) (he : starEach (e :: es) X.env = (false, eval e X.env) :: starEach es X.env := by rfl) (hpl : (backTo pos (starEach es X.env)).any (·.1) = false := by rfl)
    (hs : swapsWith (.Call (.Name x p) (e :: es) [] pos) none pos'.line X.env = pure false := by rfl) :
    ES X W (.Expr (.Call (.Name x p) (e :: es) [] pos) pos') (sDropR n F fa) := PS.imp (ps_expr (pe_rX tk C hr hG hg ha hn hdb he hpl) hs) fun Z σ H h =>
  rcall_imp h fun γ Hk γ1 d o k ee q v H2 Hk2 g r => by
    cases ee
    exact q σ H2 Hk2 g
theorem es_setR (i : Nat) {z : Str} {p' pos' : Pos} (hN : X.N.Nodup) (hi : X.N[i]? = some z) (hx : Loc X.env.scope z) (tk : Takes X W) (C : CalX X.prog X.w X.K X.mg X.base x k ps F) (hr : Room k X.A) (hG : X.A.guards = some []) (hg : Gl X x) (ha : EA X (e :: es) fa) (hn : ps.length = n := by rfl)
    (hdb : (x == ("__debug__" : Str)) = false := by decide) (he : starEach (e :: es) X.env = (false, eval e X.env) :: starEach es X.env := by rfl) (hpl : (backTo pos (starEach es X.env)).any (·.1) = false := by rfl)
    (hs : swapsWith (.Call (.Name x p) (e :: es) [] pos) (some (.Name z p')) pos'.line X.env = pure false := by rfl) (hf : X.fn z = true ∨ X.env.scope.names.lookup z = some .local := by first | exact .inl rfl | exact .inr rfl | assumption) :
    ES X W (.Assign [.Name z p'] (.Call (.Name x p) (e :: es) [] pos) pos') (sSetR i n F fa) := PS.imp (ps_set hN hi hx (pe_rX tk C hr hG hg ha hn hdb he hpl) hs hf) fun Z σ H h =>
  rcall_imp h fun γ Hk γ1 d o k ee q v H2 Hk2 g r => by
    split at ee
    · rename_i γ2 eg
      cases ee
      exact gDat_imp ⟨γ1, Hk2, d, γ2, g.ok, r, eg, fun σ2 g3 => q σ2 H2 Hk2 (g.trans g3)⟩
    · cases ee
end
end DN
namespace DN
open PySem PySem.Spec PyProof.Rows L2
/-! ### raise -/
abbrev Fm := En → Option (Str × List (Str × D) × En)
def tMk (K : PySem.W.Frag) (fm : Fm) : L2.St → Hp → XK → Prop := fun σ H Q => ∃ γ Hk c fs γ1, Ok K σ H Hk γ ∧ fm γ = some (c, fs, γ1) ∧ ∀ cls dd H2 Hk2, Go K σ H Hk γ σ H2 Hk2 γ1 → XcIs K Hk2 cls dd c fs → Q cls dd H2
/-- an expression that makes an exception -/
def EM (X : Cx) (e : Expr) (fm : Fm) : Prop := PMk X e (tMk X.K fm)
@[simp] def sRaise (fm : Fm) : Fs := fun γ => match fm γ with
  | some (c, fs, γ1) => some (.rs c fs γ1)
  | none => none
theorem es_raiseM {W : WX} {X : Cx} {e : Expr} {fm : Fm} {pos : Pos} (hc : X.calm = true) (tk : Takes X W) (he : EM X e fm) : ES X W (.Raise (some e) none pos) (sRaise fm) := PS.imp (ps_raise hc tk he) fun Z σ H ⟨γ, Hk, o, k, ee, q⟩ => by
  unfold sRaise at ee
  split at ee
  · rename_i c fs γ1 ef
    cases ee
    exact ⟨γ, Hk, c, fs, γ1, k, ef, fun cls dd H2 Hk2 g xc => q σ H2 Hk2 cls dd g xc⟩
  · cases ee
/-! ### a slot that nothing is told of -/
section
variable {K : PySem.W.Frag} {σ σ2 : L2.St} {H Hk H2 Hk2 : Hp} {γ γ2 : En} {i : Nat} {x : Option V}
theorem put_at {j : Nat} {e : Ent} (hi : gt γ i = none) (h : gt γ j = some e) : (σ.set i x)[j]? = σ[j]? := by
  refine List.getElem?_set_ne fun z => ?_
  subst z
  rw [hi] at h
  cases h
theorem Ok.put (o : Ok K σ H Hk γ) (hi : gt γ i = none) : Ok K (σ.set i x) H Hk γ := by
  refine ⟨by rw [List.length_set]; exact o.len, o.sub, fun j d h => ?_, fun j b y h => ?_, o.pin, fun j k b c y z v u fp fq h1 h2 e1 e2 => ?_, fun j t h => ?_⟩
  · rw [put_at hi h]; exact o.dat j d h
  · rw [put_at hi h]; exact o.ow j b y h
  · rw [put_at hi h1] at e1
    rw [put_at hi h2] at e2
    exact o.sep j k b c y z v u fp fq h1 h2 e1 e2
  · rw [put_at hi h]; exact o.tab j t h
theorem own_put (hi : gt γ i = none) {a : Addr} : OwnA K (σ.set i x) H Hk γ a ↔ OwnA K σ H Hk γ a := by
  constructor
  · rintro ⟨j, b, y, v, fp, h, e, r, m⟩
    rw [put_at hi h] at e
    exact ⟨j, b, y, v, fp, h, e, r, m⟩
  · rintro ⟨j, b, y, v, fp, h, e, r, m⟩
    exact ⟨j, b, y, v, fp, h, by rw [put_at hi h]; exact e, r, m⟩
theorem Go.put {y : Option V} (g : Go K (σ.set i x) H Hk γ σ2 H2 Hk2 γ2) (hi : gt γ i = none) (hj : gt γ2 i = none) : Go K σ H Hk γ (σ2.set i y) H2 Hk2 γ2 := by
  refine ⟨g.ok.put hj, g.kk, fun a u h1 h2 => (g.nw a u h1 h2).imp id (own_put hi).mp, fun a u h n => g.kp a u h fun z => n ((own_put hi).mp z), fun a h => (g.sh a ((own_put hj).mp h)).imp (own_put hi).mp id, fun j y' h => ?_⟩
  obtain ⟨e1, z, e2⟩ := g.pn j y' h
  refine ⟨?_, z, e2⟩
  rw [put_at hj e2, e1, put_at hi h]
end
/-! ### try: .. except X as n: .. -/
/-- what the suite knows -/
def tSu (K : PySem.W.Frag) (i : Nat) (m : Str → Option Bool) (T : Str → List (Str × D) → Fs) (a : Addr) (cls : Value) (d : Option Addr) : TS := fun Z σ H =>
  ∃ γ Hk c fs C dd vs o, cls = .ref C ∧ ClsIs K c C ∧ m c = some true ∧ d = some dd ∧ Hk dd = some (.xd vs) ∧ FldsIs K Hk vs fs ∧ σ[i]? = some (some (.ref a)) ∧ H a = none ∧ Ok K σ H Hk γ ∧ gt γ i = none ∧ T c fs γ = some o ∧ Fin K (fun _ _ _ _ => False) Z σ H Hk γ o
def sTry (i : Nat) (m : Str → Option Bool) (F : Fs) (T : Str → List (Str × D) → Fs) : Fs := fun γ => match F γ with
  | some (.rs c fs γ1) => match m c with
    | some true => if (gt γ1 i).isNone && decide (i < γ1.length) then match T c fs γ1 with
      | some (.nx γ2) => if (gt γ2 i).isNone then some (.nx γ2) else none
      | some (.rt d γ2) => if (gt γ2 i).isNone then some (.rt d γ2) else none
      | _ => none
      else none
    | some false => some (.rs c fs γ1)
    | none => none
  | o => o
section
variable {X : Cx} {W : WX} {x n : Str} {cv : Value} {i : Nat} {m : Str → Option Bool} {body suite : List Stmt} {b₀ : Stmt} {np pos pos' : Pos} {F : Fs} {T : Str → List (Str × D) → Fs}
theorem es_tryAs (hs : X.stack = X.env :: X.outer) (hf : X.env.frame = some X.env.locals) (hN : X.N.Nodup) (hi : X.N[i]? = some n) (hln : X.env.kindOf n = some .local) (hc : Names X x cv) (tk : Takes X W)
    (hm : ∀ c C b, ClsIs X.K c C → m c = some b → PySem.W.exmOne X.K (.ref C) cv = some b)
    (hb : ∀ (W' : WX) (pn : List (Addr × Obj)) (xe : Value → Shared → Prop), Takes (X.tr pn xe) W' → PassesOwn (model X.prog X.w) X.A X.env xe → ESs (X.tr pn xe) W' body F)
    (hsu : ∀ (a : Addr) (oe : Obj) (cls : Value) (d : Option Addr) (pn : List (Addr × Obj)), Zc cls d oe → (∃ vs, oe.data = .fields vs) → PSs (X.suite a ((a, oe) :: pn)) (b₀ :: suite) (tSu X.K i m T a cls d)) :
    ES X W (.Try body [.ExceptHandler (some (.Name x np)) (some n) (b₀ :: suite) pos'] [] [] pos) (sTry i m F T) :=
  PS.imp (ps_try_as (tb := fun W' => tS X.K W' F) hs hf hN hi hln hc tk hb hsu) fun Z σ H ⟨γ, Hk, o, k, ee, q⟩ => by
  unfold sTry at ee
  split at ee
  · rename_i c fs γ1 eF
    refine ⟨γ, Hk, _, k, eF, fun σ2 H2 Hk2 cls dd g xc => ?_⟩
    obtain ⟨C, dx, vs, rfl, hC, rfl, hx, hfl⟩ := id xc
    split at ee
    · rename_i em
      refine ⟨true, hm c C true hC em, fun _ a na => ?_, fun z => by cases z⟩
      split at ee
      · rename_i hcond
        rw [Bool.and_eq_true, Option.isNone_iff_eq_none, decide_eq_true_eq] at hcond
        obtain ⟨hn1, hlt⟩ := hcond
        have hl : i < σ2.length := by rw [g.ok.len]; exact hlt
        have base := g.ok.put (x := some (.ref a)) hn1
        have e1 : (σ2.set i (some (.ref a)))[i]? = some (some (.ref a)) := List.getElem?_set_self hl
        split at ee
        · rename_i γ2 eT
          split at ee
          · rename_i hn2
            cases ee
            rw [Option.isNone_iff_eq_none] at hn2
            exact ⟨γ1, Hk2, c, fs, C, dx, vs, _, rfl, hC, em, rfl, hx, hfl, e1, na, base, hn1, eT, fun σ3 H3 Hk3 g3 => q _ _ _ (g.trans (g3.put hn1 hn2))⟩
          · cases ee
        · rename_i d γ2 eT
          split at ee
          · rename_i hn2
            cases ee
            rw [Option.isNone_iff_eq_none] at hn2
            exact ⟨γ1, Hk2, c, fs, C, dx, vs, _, rfl, hC, em, rfl, hx, hfl, e1, na, base, hn1, eT, fun v σ3 H3 Hk3 g3 r => q v _ _ _ (g.trans (g3.put (y := none) hn1 hn2)) r⟩
          · cases ee
        · cases ee
      · cases ee
    · rename_i em
      cases ee
      exact ⟨false, hm c C false hC em, fun z => (by cases z), fun _ => q σ2 H2 Hk2 _ _ g xc⟩
    · cases ee
  · rename_i o' hne
    cases hF : F γ with
    | none => rw [hF] at ee; cases ee
    | some o1 =>
      rw [hF] at ee
      cases ee
      refine ⟨γ, Hk, o, k, hF, ?_⟩
      cases o with
      | nx γ2 => exact q
      | rt d γ2 => exact q
      | bk γ2 => exact q
      | ct γ2 => exact q
      | rs c fs γ2 => exact absurd hF (hne c fs γ2)
      | ro y γ2 => exact q
end
/-! ### e.field, in the suite -/
section
variable {X : Cx} {a : Addr} {oe : Obj} {cls : Value} {d : Option Addr} {pn : List (Addr × Obj)} {e : Expr} {te : TE} {pos : Pos} {n : Str}
def tXfE (K : PySem.W.Frag) (a : Addr) (cls : Value) (d : Option Addr) (n : Str) (te : TE) : TE := fun σ H Q => ∃ C, XfC K C ∧ PySem.W.findIn K (.ref C) n = some none ∧ tXf a cls d C n te σ H Q
theorem pe_xfE (hz : Zc cls d oe) (hf : ∃ vs, oe.data = .fields vs) (he : PE (X.suite a ((a, oe) :: pn)) e te) (hb : attributeBase e n X.env (eval e X.env) = eval e X.env := by rfl) : PE (X.suite a ((a, oe) :: pn)) (.Attribute e n pos) (tXfE X.K a cls d n te) :=
  ⟨fun pins s σ H Q I ⟨C, T, hno, h⟩ => (pe_xf T hno hz hf he hb).run pins s σ H Q I h⟩
theorem flds_look {K : PySem.W.Frag} {H : Hp} {n : Str} : ∀ {vs : List (Str × V)} {fs : List (Str × D)} {x : D}, FldsIs K H vs fs → fs.lookup n = some x → ∃ v, vs.lookup n = some v ∧ Dp K H v x
  | _, _, _, .nil, h => by cases h
  | _, _, x, .cons (f := f) (v := v) (d := d) r t, h => by
    rw [List.lookup_cons] at h ⊢
    cases c : n == f with
    | true =>
      rw [c] at h
      cases h
      exact ⟨v, rfl, r⟩
    | false =>
      rw [c] at h
      exact flds_look t h
end
end DN
namespace DN
open PySem PySem.Spec PyProof.Rows L2
/-! ### list(d): the keys -/
section
variable {P : Program} {w : World} {A : Around} {d I : Addr} {o : Obj} {xs : List (NestedKey × Addr × Value)} {es : Array DictEntry} {ep : Nat}
abbrev KeyAt (xs : List (NestedKey × Addr × Value)) (i : Nat) (v : Value) : Prop := ∃ e, xs[i]? = some e ∧ v = .ref e.2.1
theorem walkN (ho : DictO o xs) (hod : o.data = .dict es ep) (hh : A.handled = none) (hne : d ≠ I) :
    PySem.Walks P w A I [I, d] [I] xs.length (KeyAt xs) (fun i h => h.IsKeyIter I d i xs.length ep ∧ h.get? d = some o) := by
  obtain ⟨hx, es', ep', hd', hz, he⟩ := ent_at ho
  rw [hod] at hd'
  cases hd'
  refine ⟨fun b hb => by simp at hb; simp [hb], fun i h h' st hk => ⟨st.1.at fun oi e => hk I (by simp) oi e, hk d (by simp) _ st.2⟩, fun i s Q E hi st hQ => ?_, fun s Q E st hQ => ?_, fun i s Q E st hQ => wpAny_pyIter_keyiter st.1 hQ⟩
  · obtain ⟨e, hxi⟩ : ∃ e, xs[i]? = some e := ⟨_, List.getElem?_eq_getElem hi⟩
    obtain ⟨en, hen, hk, _⟩ := he i _ hxi
    refine next_key_item st.1 st.2 hod hz hen fun h' hit' sb => ?_
    exact hQ en.key h' s.toks ⟨e, hxi, hk⟩ ⟨hit', (sb.2 d hne).trans st.2⟩ fun b ob hb e' => (sb.2 b fun z => hb (by simp [z])).trans e'
  · exact next_key_end hh st.1 st.2 hod hz (Nat.le_refl _) fun h' eb => hQ h' s.toks fun b ob hb e' => eb b ob (fun z => hb (by simp [z])) e'
theorem srcN (ho : DictO o xs) (lo : (d == sysModules) = false) : PySem.W.KdlSrc P w "dict" d d xs.length (KeyAt xs) (fun h => h.get? d = some o) := by
  obtain ⟨hx, es, ep, hod, hz, he⟩ := ent_at ho
  have ty : ∀ s : Shared, s.heap.get? d = some o → s.TypeIs (.ref d) "dict" := fun s h => ⟨o, h, hx.1⟩
  refine ⟨ty, fun h hk => ⟨Heap.lt_size hk, Heap.lt_size hk⟩, fun h h' e hk => hk d (.inl rfl) o e, by decide, by decide, fun A E s Q hk hq => PySem.W.kdl_hint_dict (ty s hk) hq, fun A s hh hk => ?_⟩
  refine ⟨{ cls := .type "dict_keyiterator", data := .fields #[.ref d, .int 0 0, .int es.size 0, .int ep 0] }, _, fun E Q hq => iter_keys lo hk hx hod hq, walkN (I := s.heap.objs.size) ho hod hh (Nat.ne_of_lt (Heap.lt_size hk)), ⟨⟨_, Heap.get?_push_size _ rfl, rfl, ?_⟩, Heap.get?_push_of_some _ hk⟩⟩
  rw [hz]
  rfl
end
abbrev keysV (xs : List (NestedKey × Addr × Value)) : List V := xs.map fun e => .ref e.2.1
theorem vals_keys : ∀ xs : List (NestedKey × Addr × Value), Vals (keysV xs) (xs.map fun e => Value.ref e.2.1)
  | [] => .nil
  | _ :: r => .cons rfl (vals_keys r)
theorem keys_got {xs : List (NestedKey × Addr × Value)} {acc : Array Value} (h : PySem.ItemsOf (KeyAt xs) acc xs.length) : acc.toList = xs.map fun e => Value.ref e.2.1 := by
  refine List.ext_getElem? fun i => ?_
  by_cases hi : i < xs.length
  · have hl : i < acc.toList.length := by rw [Array.length_toList, h.1]; exact hi
    obtain ⟨e, h1, h2⟩ := h.2 i (acc.toList[i]'hl) (by rw [← Array.getElem?_toList]; exact List.getElem?_eq_getElem hl)
    rw [List.getElem?_eq_getElem hl, List.getElem?_map, h1, h2]
    rfl
  · rw [List.getElem?_eq_none (by rw [Array.length_toList, h.1]; omega), List.getElem?_eq_none (by rw [List.length_map]; omega)]
def rListN (K : PySem.W.Frag) : List V → Hp → VK → Prop := fun vs H Q => ∃ p o xs, vs = [.ref p] ∧ H p = some (dnO p o) ∧ DictO o xs ∧ (p == sysModules) = false ∧ xs.length ≤ sizeLine ∧ ∀ l, H l = none → Q (.ref l) (upd H l (.lst (keysV xs)))
theorem call_listN {X : Cx} (hc : X.calm = true) : CallR X (.type "list") (rListN X.K) := by
  intro pins s σ H vs us Q I r h
  obtain ⟨p, o, xs, rfl, hp, ho, lo, hz, q⟩ := h
  obtain ⟨u, rfl, rx⟩ := vals1 r
  obtain rfl : u = Value.ref p := rx
  obtain ⟨hgd, _, _⟩ := I.hok p _ hp
  refine PySem.W.kdl_call (srcN ho lo) (I.ok.hd hc) hgd hz fun h' tk acc' c' kp hl hacc => ?_
  have e := keys_got hacc
  refine ⟨.ref s.heap.objs.size, _, I.laid (t' := tk) (h' := h') kp (Nat.le_refl _) (show ObjOk X.prog X.w _ h' _ (.lst (keysV xs)) from ⟨by rw [List.length_map]; exact hz, acc'.toList, c', by rw [e]; exact vals_keys xs, by simpa using hl⟩), rfl, q _ (I.hok.fresh (Nat.le_refl _))⟩
theorem keys_dp {K : PySem.W.Frag} {H : Hp} : ∀ {xs : List (NestedKey × Addr × Value)} {kvs : List (D × D)}, DpEnts K H xs kvs → DpAll K H (keysV xs) (kvs.map (·.1))
  | _, _, .nil => .nil
  | _, _, .cons h1 h2 h3 h4 t => .cons h2 (keys_dp t)
/-- list(d) of a dict in a slot -/
@[simp] def lKeysn (i : Nat) : Fa := fun γ => match view γ i with
  | some (.dict kvs) => some (kvs.map (·.1), γ)
  | _ => none
theorem el_keysn {X : Cx} {a : Expr} {pos p : Pos} {i : Nat} (hc : X.calm = true) (hm : X.mg "list" = none) (hg : Gl X "list") (ha : PE X a (tVar i)) (he : starEach [a] X.env = (false, eval a X.env) :: starEach [] X.env := by rfl) (hpl : (backTo pos (starEach [] X.env)).any (·.1) = false := by rfl) :
    EL X (.Call (.Name "list" p) [a] [] pos) (lKeysn i) := PE.imp (pe_callTy (call_listN hc) hg hm (by decide +kernel) (pa_cons ha pa_nil he) (he := he) (hpl := hpl)) fun σ H Q ⟨γ, Hk, d, γ2, o, ee, q⟩ => by
  unfold lKeysn at ee
  split at ee <;> cases ee
  rename_i kvs ev
  obtain ⟨v, e1, w⟩ := o.view ev
  obtain ⟨p, ob, xs, rfl, ⟨h1, h2, h3, h4, h5, h6⟩, hk⟩ := w.dicK o.sub
  exact ⟨_, e1, p, ob, xs, rfl, h1, h2, h5, h6, fun l hl => q l _ H Hk (Go.refl o) hl (keys_dp hk)⟩
end DN
namespace DN
open PySem PySem.Spec PyProof.Rows L2
/-! ### xs.index(x), of things that may be keys -/
section
variable {X : Cx} {pins : List (Addr × Obj)} {σ : L2.St} {H : Hp} {s : Shared}
theorem nested_at {h : Heap} : ∀ {ks : List NestedKey} {vs : List Value}, NestedAll h ks vs → ∀ (j : Nat) (h1 : j < vs.length) (h2 : j < ks.length), NestedIs h ks[j] vs[j]
  | _, _, .nil, j, h1, _ => absurd h1 (Nat.not_lt_zero _)
  | _, _, .cons a t, 0, _, _ => a
  | _, _, .cons a t, j + 1, h1, h2 => nested_at t j (Nat.lt_of_succ_lt_succ h1) (Nat.lt_of_succ_lt_succ h2)
def rIdx (K : PySem.W.Frag) : V → List V → Hp → VK → Prop := fun x vs H Q => ∃ p ys ds ks a kd k, x = .ref p ∧ vs = [.ref a] ∧ SqL K H p ys ∧ DpAll K H ys ds ∧ keysOf ds = some ks ∧ Dp K H (.ref a) kd ∧ keyD kd = some k ∧ k ∈ ks ∧ Q (.int (ks.idxOf k : Nat)) H
theorem mt_index {n : Nat} (hr : Room n X.A) : MtR X "list.index" (rIdx X.K) := by
  have un := hr.un
  intro pins s σ H x vs v us Q I rx rv h
  obtain ⟨p, ys, ds, ks, a, kd, k, rfl, rfl, hq, ha, ek, hk, ed, hm, q⟩ := h
  cases rx
  cases rv with
  | @cons _ u _ ur r1 rr =>
    cases rr
    obtain rfl : u = Value.ref a := r1
    obtain ⟨its, r', pl, hz⟩ := I.list hq
    have na := nests_at I ha r' ek
    have nl := NestedAll.length ks its na
    obtain ⟨_, ko, kdp⟩ := keyD_of ed
    have hkv := nest_at I hk (u := .ref a) rfl ko
    have hl := r'.length
    refine PySem.SeqAt.call_list_index (vs := its) (ks := ks) (x := .ref a) (k := k) pl.isList ⟨nl, fun j h1 h2 => ?_⟩ (by rw [← nl, ← hl]; exact hz) hm ⟨.int (ks.idxOf k : Nat), H, I.tok _, ⟨_, rfl⟩, q⟩
    rw [NestedKey.decide_eq]
    refine eqAt_key _ _ X.A.in1 s _ _ (nested_at na j h1 h2) hkv ?_
    rw [Around.in1_units]
    omega
theorem sql_ty {p : Addr} {ys : List V} (hq : SqL X.K H p ys) : TyAt X "list" (.ref p) H := by
  intro pins s σ v I r
  cases r
  obtain ⟨its, r', ⟨o, n, ho, hc, hd, hs⟩, hz⟩ := I.list hq
  exact ⟨⟨o, ho, hc⟩, fun a e => by cases e; exact ⟨o, ho, hd⟩⟩
end
@[simp] def fIdx (i : Nat) (f : Fe) : Fe := fun γ => match view γ i with
  | some (.list _) => match f γ with
    | some (kd, γ1) => match view γ1 i with
      | some (.list ds) => match keysOf ds with
        | some ks => match keyD kd with
          | some k => if k ∈ ks then some (.int (ks.idxOf k : Nat), γ1) else none
          | none => none
        | none => none
      | _ => none
    | none => none
  | _ => none
theorem ev_index {X : Cx} {i n : Nat} (hr : Room n X.A) {d ke : Expr} {f : Fe} {a1 c1 : Pos} (hd : PE X d (tVar i)) (hk : EV X ke f)
    (b1 : attributeBase d "index" X.env (eval d X.env) = eval d X.env := by rfl)
    (f1' : ((backTo c1 (starEach [ke] X.env)).all (fun x => !x.1) && (backToKw c1 (keywordEach [] X.env)).all (fun x => x.1.isSome) && decide ([ke].length + ([] : List Keyword).length + (if ([] : List Keyword).isEmpty then 0 else 1) < 30)) = true := by rfl)
    (l1 : (a1.endLine == c1.line) = true := by rfl) (s1 : starEach [ke] X.env = (false, eval ke X.env) :: starEach [] X.env := by rfl) (p1 : (backTo c1 (starEach [] X.env)).any (·.1) = false := by rfl) :
    EV X (.Call (.Attribute d "index" a1) [ke] [] c1) (fIdx i f) :=
  PE.imp (pe_meth PySem.F.plainAttrs_list PySem.F.slot_list_index PySem.F.type_list_index (mt_index hr) hd (pa_cons hk pa_nil s1) b1 f1' l1 s1 p1) fun σ H Q ⟨γ, Hk, dd, γ2, o, ee, q⟩ => by
  unfold fIdx at ee
  split at ee
  · rename_i ds0 e0
    split at ee
    · rename_i kd γ1 ef
      split at ee
      · rename_i ds ev
        split at ee
        · rename_i ks eks
          split at ee
          · rename_i k ek
            split at ee <;> cases ee
            rename_i hm
            obtain ⟨v0, ev0, w0⟩ := o.view e0
            obtain ⟨p0, ys0, rfl, h0, _⟩ := w0.lst o.sub
            refine ⟨.ref p0, ev0, sql_ty h0, γ, Hk, kd, _, o, ef, fun v1 H1 Hk1 g1 r1 => ?_⟩
            obtain ⟨v2, ev2, w2⟩ := g1.ok.view ev
            rw [ev0] at ev2; cases ev2
            obtain ⟨p1, ys1, e1, h1, h2⟩ := w2.lst g1.ok.sub
            cases e1
            obtain ⟨a, rfl⟩ := key_ref r1 ek
            exact ⟨p0, ys1, ds, ks, a, kd, k, rfl, rfl, h1, dps_mono g1.ok.sub h2, eks, dp_mono g1.ok.sub r1, ek, hm, q _ H1 Hk1 g1 (.int _)⟩
          · cases ee
        · cases ee
      · cases ee
    · cases ee
  · cases ee
end DN
namespace DN
open PySem PySem.Spec PyProof.Rows L2
/-! ### len(set(xs)), xs a list of tuples of whole numbers -/
def intsOf : List D → Option (List Int)
  | [] => some []
  | .int i :: ds => match intsOf ds with
    | some r => some (i :: r)
    | none => none
  | _ => none
def tupsOf : List D → Option (List (List Int))
  | [] => some []
  | .tuple ds :: r => match intsOf ds with
    | some k => match tupsOf r with
      | some ks => some (k :: ks)
      | none => none
    | none => none
  | _ => none
/-- how many are there, each once -/
def dist : List (List Int) → Nat
  | [] => 0
  | k :: r => if k ∈ r then dist r else dist r + 1
theorem dist_of : ∀ (l m : List (List Int)), m.Nodup → (∀ x, x ∈ m ↔ x ∈ l) → dist l = m.length
  | [], m, nd, h => by
    cases m with
    | nil => rfl
    | cons x r => exact absurd ((h x).mp (by simp)) (by simp)
  | k :: r, m, nd, h => by
    rw [dist]
    by_cases c : k ∈ r
    · rw [if_pos c]
      refine dist_of r m nd fun x => (h x).trans ?_
      rw [List.mem_cons]
      exact ⟨fun z => z.elim (fun e => e ▸ c) id, .inr⟩
    · rw [if_neg c]
      have hk : k ∈ m := (h k).mpr (by simp)
      have e := dist_of r (m.erase k) (nd.erase k) fun x => by
        rw [nd.mem_erase_iff, h x, List.mem_cons]
        constructor
        · rintro ⟨h1, rfl | h2⟩
          · exact absurd rfl h1
          · exact h2
        · intro hx
          exact ⟨fun z => c (z ▸ hx), .inr hx⟩
      rw [e, List.length_erase_of_mem hk]
      have := List.length_pos_of_mem hk
      omega
theorem dist_nodup {l : List (List Int)} (h : l.Nodup) : dist l = l.length := dist_of l l h fun _ => Iff.rfl
section
variable {K : PySem.W.Frag} {H Hk : Hp}
theorem dp_ints : ∀ {vs : List V} {ds : List D} {ns : List Int}, DpAll K H vs ds → intsOf ds = some ns → vs = ns.map V.int
  | _, _, _, .nil, e => by rw [intsOf] at e; cases e; rfl
  | _, _, ns, .cons (d := d) (ds := ds) h t, e => by
    cases d with
    | int i =>
      rw [intsOf] at e
      split at e
      · rename_i r er
        cases e
        cases h
        rw [dp_ints t er]
        rfl
      · cases e
    | _ => simp [intsOf] at e
theorem dp_tups (s : Same Hk H) : ∀ {vs : List V} {ds : List D} {kss : List (List Int)}, DpAll K Hk vs ds → tupsOf ds = some kss → ∃ ks : List (Addr × List Int), vs = ks.map (fun p => V.ref p.1) ∧ ks.map (·.2) = kss ∧ ∀ p ∈ ks, SqT K H p.1 (p.2.map V.int)
  | _, _, _, .nil, e => by rw [tupsOf] at e; cases e; exact ⟨[], rfl, rfl, fun p h => by cases h⟩
  | _, _, kss, .cons (d := d) (ds := ds) h t, e => by
    cases d with
    | tuple es =>
      rw [tupsOf] at e
      split at e
      · rename_i k ek
        split at e
        · rename_i r er
          cases e
          obtain ⟨ks, e1, e2, e3⟩ := dp_tups s t er
          cases h with
          | tup hs ha =>
            rename_i a ws
            have hv := dp_ints ha ek
            subst hv
            refine ⟨(a, k) :: ks, by rw [e1]; rfl, by rw [List.map_cons, e2], fun p hp => ?_⟩
            rcases List.mem_cons.mp hp with rfl | hp
            · exact sqt_mono s hs
            · exact e3 p hp
        · cases e
      · cases e
    | _ => simp [tupsOf] at e
end
section
variable {X : Cx}
def rLenT (K : PySem.W.Frag) (P : Program) (w : World) : List V → Hp → VK → Prop := fun vs H Q => ∃ (a : Addr) (L : List (Addr × List Int)), vs = [.ref a] ∧ H a = some (SetTO P w a L) ∧ (∀ p ∈ L, SqT K H p.1 (p.2.map V.int)) ∧ ((L.map (·.2)).Nodup → Q (.int L.length) H)
theorem call_lenT : CallR X (.builtin "len") (rLenT X.K X.prog X.w) := by
  intro pins s σ H vs us Q I r h
  obtain ⟨a, L, rfl, ha, hl, q⟩ := h
  rw [Vals.ref1 r]
  obtain ⟨R0, _, _⟩ := I.hok a _ ha
  obtain ⟨es, ep, t, R⟩ := R0.full fun p hp => I.isT (hl p hp)
  obtain ⟨o, ho, hex, hd⟩ := R.ob
  have hn := R.size
  have hf := R.few
  exact call_len_set ho hex hd R.fits (by rw [hn]; omega) ⟨.int L.length, H, I.tok _, ⟨_, by rw [hn]⟩, q R.nd⟩
end
theorem go_more {K : PySem.W.Frag} {σ : L2.St} {H Hk H1 Hk1 : Hp} {γ γ1 : En} {a : Addr} {o : HO} (g : Go K σ H Hk γ σ H1 Hk1 γ1) (h : H1 a = none) : Go K σ H Hk γ σ (upd H1 a o) Hk1 γ1 :=
  g.trans (g.ok.go ⟨fun b u e => by rw [upd_ne (fun z => by rw [z, h] at e; cases e)]; exact e, Same.refl _, fun b u e => by
    have := g.ok.sub b u e
    rw [upd_ne (fun z => by rw [z, h] at this; cases this)]
    exact this, fun b u e n => by rw [n] at e; cases e⟩)
@[simp] def fLenSet (f : Fe) : Fe := fun γ => match f γ with
  | some (.list ds, γ1) => match tupsOf ds with
    | some ks => if ks.length < 64 then some (.int (dist ks : Nat), γ1) else none
    | none => none
  | _ => none
theorem ev_lenSet {X : Cx} {n : Nat} {a : Expr} {f : Fe} {p p2 q pos : Pos} (hc : X.calm = true) (hr : Room n X.A) (hm : X.mg "len" = none) (hg : Gl X "len") (hm2 : X.mg "set" = none) (hg2 : Gl X "set") (ha : EV X a f)
    (he : starEach [a] X.env = (false, eval a X.env) :: starEach [] X.env := by rfl) (hpl : (backTo q (starEach [] X.env)).any (·.1) = false := by rfl)
    (he2 : starEach [.Call (.Name "set" p2) [a] [] q] X.env = (false, eval (.Call (.Name "set" p2) [a] [] q) X.env) :: starEach [] X.env := by rfl) (hpl2 : (backTo pos (starEach [] X.env)).any (·.1) = false := by rfl) :
    EV X (.Call (.Name "len" p) [.Call (.Name "set" p2) [a] [] q] [] pos) (fLenSet f) :=
  PE.imp (pe_callB call_lenT hg hm (by decide +kernel) (pa_cons (pe_callTy (cr_setOfT hc (by have := hr.un; omega)) hg2 hm2 (by decide +kernel) (pa_cons ha pa_nil he) (he := he) (hpl := hpl)) pa_nil he2) (he := he2) (hpl := hpl2)) fun σ H Q ⟨γ, Hk, d, γ2, o, ee, q⟩ => by
  unfold fLenSet at ee
  split at ee
  · rename_i ds γ1 ef
    split at ee
    · rename_i ks ek
      split at ee <;> cases ee
      rename_i hz
      refine ⟨γ, Hk, _, _, o, ef, fun v H1 Hk1 g1 r1 => ?_⟩
      cases r1 with
      | lst hs hd =>
        obtain ⟨kk, rfl, e2, e3⟩ := dp_tups g1.ok.sub hd ek
        have hl : kk.length < 64 := by rw [← List.length_map (f := (·.2)) (as := kk), e2]; exact hz
        refine ⟨_, kk, rfl, sql_mono g1.ok.sub hs, e3, hl, fun b L hb h1 h2 => ?_⟩
        have g2 := go_more (o := SetTO X.prog X.w b L) g1 hb
        refine ⟨b, L, rfl, upd_same, fun p hp => sqt_mono (fun c u e => by rw [upd_ne (fun z => by rw [z, hb] at e; cases e)]; exact e) (e3 p (h1 p hp)), fun nd => ?_⟩
        have hd' : dist ks = L.length := by
          rw [dist_of ks (L.map (·.2)) nd fun x => ?_, List.length_map]
          rw [← e2]
          constructor
          · intro hx
            obtain ⟨p, hp, rfl⟩ := List.mem_map.mp hx
            exact List.mem_map_of_mem (h1 p hp)
          · intro hx
            obtain ⟨p, hp, rfl⟩ := List.mem_map.mp hx
            exact h2 p hp
        rw [hd'] at q
        exact q _ _ Hk1 g2 (.int _)
    · cases ee
  · cases ee
end DN
namespace DN
open PySem PySem.Spec PyProof.Rows L2
def topS (i : Nat) : Stmt := PySem.Challenge.pw_railshut_k20_cycles_and_runs.main.body.getD i (.Pass ⟨0, 0, 0, 0⟩)
/-! ### _law_turned -/
abbrev s__law_turned : Stmt := topS 32
abbrev N__law_turned : List Str := ["position", "eighths", "found", "k", "direction"]
theorem sc__law_turned : FnScope N__law_turned ["position", "eighths"] (defScope s__law_turned) := ⟨rfl, rfl, rfl, by decide +kernel, rfl, by decide +kernel, by decide +kernel⟩
def L1__law_turned : Fs := (sSeq (sAsg (f2 modD (f1 intD (f2nn addD 3 1)) (fC (.int 8))) (gDat 4))
    (sIf (ofB (f2n ltD 4 (fC (.int 4)))) (sSet 2 (f2 addD (f2nn ixX 2 4) (f2nn ixX 0 3)) (fN 4)) (sSet 2 (f2 subD (f2n ixX 2 (f2n subD 4 (fC (.int 4)))) (f2nn ixX 0 3)) (f2n subD 4 (fC (.int 4))))))
def B__law_turned : Fs := (sSeq (sOwn 2 (lDisp (aCons (fC (.int 0)) (aCons (fC (.int 0)) (aCons (fC (.int 0)) (aCons (fC (.int 0)) aNil))))))
    (sSeq (sFor (wR1 (fC (.int 4))) (gDat 3) L1__law_turned)
    (sRet (f1n tupleD 2))))
def F__law_turned : Fun' := runF false 3 B__law_turned
theorem fn__law_turned {P : Program} {w : World} {K : PySem.W.Frag} {mg : Str → Option Value} {base : Heap} {f : Addr} {fd : FuncData} (Fu : Fun K "_law_turned" "_law_turned" s__law_turned f fd) (z_int : mg "int" = none) (z_range : mg "range" = none) (z_tuple : mg "tuple" = none)  :
    FnG P w K mg base 1 f fd ["position", "eighths"] false F__law_turned :=
  fnG_of Fu sc__law_turned rfl (does_run _ _ _) fun cdv A outer s H hG hr =>
    (ess_cons (es_own 2 sc__law_turned.nd rfl (by first | exact Or.inl rfl | exact Or.inr rfl) (el_disp (ea_cons ev_int (ea_cons ev_int (ea_cons ev_int (ea_cons ev_int ea_nil))))))
    (ess_cons (es_for PassesOwn.never rfl (ei_r1 z_range (by rfl) ev_int) (eg_name 3 sc__law_turned.nd rfl (by first | exact Or.inl rfl | exact Or.inr rfl)) (ess_cons (es_set 4 sc__law_turned.nd rfl (by first | exact Or.inl rfl | exact Or.inr rfl) (ev2 op_mod o_mod (ev_callT o_int call_int1 z_int (by rfl) (by decide +kernel) (ev2nn x_add o_add (pv 3) (pv 1))) ev_int))
    (ess_one (es_if (et2n x_lt o_cmp (nomark _) (pv 4) ev_int) (ess_one (es_item 2 (ev2 x_add o_add (dixnn hr (pv 2) (pv 4) (fun _ _ => rfl)) (dixnn hr (pv 0) (pv 3) (fun _ _ => rfl))) (pv 2) (ev_name 4))) (ess_one (es_item 2 (ev2 op_sub o_sub (dixn hr (pv 2) (ev2n op_sub o_sub (pv 4) ev_int) (fun _ _ => rfl)) (dixnn hr (pv 0) (pv 3) (fun _ _ => rfl))) (pv 2) (ev2n op_sub o_sub (pv 4) ev_int)))))))
    (ess_one (es_ret (ev_callTn o_tuple call_tuple_of z_tuple (by rfl) (by decide +kernel) (pv 2))))))
/-! ### _law_laid -/
abbrev s__law_laid : Stmt := topS 33
abbrev N__law_laid : List Str := ["pose", "other", "turned_v", "k"]
theorem sc__law_laid : FnScope N__law_laid ["pose", "other"] (defScope s__law_laid) := ⟨rfl, rfl, rfl, by decide +kernel, rfl, by decide +kernel, by decide +kernel⟩
def E1__law_laid : Fe := (f2 addD (f2nn ixX 0 3) (f2nn ixX 2 3))
def B__law_laid : Fs := (sSeq (sAsg (fCall 2 F__law_turned (aCons (fSln 1 pNo (pOf (fC (.int 4)))) (aCons (f2n ixX 0 (fC (.int 4))) aNil))) (gDat 2))
    (sRet (f2 addD (f1 tupleD (fL (lLc [3] (gDat 3) (wR1 (fC (.int 4))) tYe E1__law_laid))) (fTup (aCons (f2 modD (f1 intD (f2 addD (f2n ixX 0 (fC (.int 4))) (f2n ixX 1 (fC (.int 4))))) (fC (.int 8))) aNil)))))
def F__law_laid : Fun' := runF false 2 B__law_laid
theorem fn__law_laid {P : Program} {w : World} {K : PySem.W.Frag} {mg : Str → Option Value} {base : Heap} {f : Addr} {fd : FuncData} (Fu : Fun K "_law_laid" "_law_laid" s__law_laid f fd) (z_int : mg "int" = none) (z_range : mg "range" = none) (z_tuple : mg "tuple" = none) (C__law_turned : Cal P w K mg base "_law_turned" 1 ["position", "eighths"] false F__law_turned) :
    FnG P w K mg base 2 f fd ["pose", "other"] false F__law_laid :=
  fnG_of Fu sc__law_laid rfl (does_run _ _ _) fun cdv A outer s H hG hr =>
    (ess_cons (es_set 2 sc__law_laid.nd rfl (by first | exact Or.inl rfl | exact Or.inr rfl) (ev_call C__law_turned (hr.mono (by decide)) hG (by rfl) (ea_cons (ev_sln (pv 1) ep_no (ep_of ev_int)) (ea_cons (dixn hr (pv 0) ev_int (fun _ _ => rfl)) ea_nil))))
    (ess_one (es_ret (ev2 x_add o_add (ev_callT o_tuple call_tuple_of z_tuple (by rfl) (by decide +kernel) (ev_L (el_lc (js := [3]) rfl (tg_name 3) rfl sc__law_laid.nd (ei_r1 z_range (by rfl) ev_int) (blkOk_by (own := [("k", 3)]) (N := N__law_laid) (sc := defScope s__law_laid) (by decide +kernel)) (fun _ _ _ _ _ => pg_name (i := 3) sc__law_laid.nd rfl (Or.inl rfl)) (fun _ _ _ _ _ => ets_nil) (fun _ _ _ _ _ => (ev2 x_add o_add (dixnn hr (pv 0) (pv 3) (fun _ _ => rfl)) (dixnn hr (pv 2) (pv 3) (fun _ _ => rfl))))))) (ev_tup (ea_cons (ev2 op_mod o_mod (ev_callT o_int call_int1 z_int (by rfl) (by decide +kernel) (ev2 x_add o_add (dixn hr (pv 0) ev_int (fun _ _ => rfl)) (dixn hr (pv 1) ev_int (fun _ _ => rfl)))) ev_int) ea_nil))))))
/-! ### _law_lead -/
abbrev s__law_lead : Stmt := topS 36
abbrev N__law_lead : List Str := ["pose", "row", "leads", "letter"]
theorem sc__law_lead : FnScope N__law_lead ["pose", "row"] (defScope s__law_lead) := ⟨rfl, rfl, rfl, by decide +kernel, rfl, by decide +kernel, by decide +kernel⟩
def L1__law_lead : Fs := (sAsg (fCall 2 F__law_laid (aCons (fN 0) (aCons (fTabL 2 (fN 3)) aNil))) (gDat 0))
def B__law_lead : Fs := (sSeq (sTab 2 [("H", (fTup (aCons (fC (.int 1)) (aCons (fC (.int 0)) (aCons (fC (.int 0)) (aCons (fC (.int 0)) (aCons (fC (.int 0)) aNil))))))), ("L", (fTup (aCons (fC (.int 0)) (aCons (fC (.int 0)) (aCons (fC (.int 2)) (aCons (fNeg (fC (.int 2))) (aCons (fC (.int 1)) aNil))))))), ("R", (fTup (aCons (fC (.int 0)) (aCons (fC (.int 2)) (aCons (fNeg (fC (.int 2))) (aCons (fC (.int 0)) (aCons (fC (.int 7)) aNil))))))), ("S", (fTup (aCons (fC (.int 2)) (aCons (fC (.int 0)) (aCons (fC (.int 0)) (aCons (fC (.int 0)) (aCons (fC (.int 0)) aNil)))))))])
    (sSeq (sFor (wOf (fN 1)) (gDat 3) L1__law_lead)
    (sRet (fN 0))))
def F__law_lead : Fun' := runF false 2 B__law_lead
theorem fn__law_lead {P : Program} {w : World} {K : PySem.W.Frag} {mg : Str → Option Value} {base : Heap} {f : Addr} {fd : FuncData} (Fu : Fun K "_law_lead" "_law_lead" s__law_lead f fd)  (C__law_laid : Cal P w K mg base "_law_laid" 2 ["pose", "other"] false F__law_laid) :
    FnG P w K mg base 3 f fd ["pose", "row"] false F__law_lead :=
  fnG_of Fu sc__law_lead rfl (does_run _ _ _) fun cdv A outer s H hG hr =>
    (ess_cons (es_tab 2 (fs := [("H", (fTup (aCons (fC (.int 1)) (aCons (fC (.int 0)) (aCons (fC (.int 0)) (aCons (fC (.int 0)) (aCons (fC (.int 0)) aNil))))))), ("L", (fTup (aCons (fC (.int 0)) (aCons (fC (.int 0)) (aCons (fC (.int 2)) (aCons (fNeg (fC (.int 2))) (aCons (fC (.int 1)) aNil))))))), ("R", (fTup (aCons (fC (.int 0)) (aCons (fC (.int 2)) (aCons (fNeg (fC (.int 2))) (aCons (fC (.int 0)) (aCons (fC (.int 7)) aNil))))))), ("S", (fTup (aCons (fC (.int 2)) (aCons (fC (.int 0)) (aCons (fC (.int 0)) (aCons (fC (.int 0)) (aCons (fC (.int 0)) aNil)))))))]) sc__law_lead.nd rfl (by first | exact Or.inl rfl | exact Or.inr rfl) (pps_cons pe_str (ev_tup (ea_cons ev_int (ea_cons ev_int (ea_cons ev_int (ea_cons ev_int (ea_cons ev_int ea_nil)))))) (pps_cons pe_str (ev_tup (ea_cons ev_int (ea_cons ev_int (ea_cons ev_int (ea_cons (ev_neg ev_int) (ea_cons ev_int ea_nil)))))) (pps_cons pe_str (ev_tup (ea_cons ev_int (ea_cons ev_int (ea_cons (ev_neg ev_int) (ea_cons ev_int (ea_cons ev_int ea_nil)))))) (pps_cons pe_str (ev_tup (ea_cons ev_int (ea_cons ev_int (ea_cons ev_int (ea_cons ev_int (ea_cons ev_int ea_nil)))))) pps_nil)))) rfl rfl (by decide) (by decide))
    (ess_cons (es_for PassesOwn.never rfl (ei_seq (ev_name 1)) (eg_name 3 sc__law_lead.nd rfl (by first | exact Or.inl rfl | exact Or.inr rfl)) (ess_one (es_set 0 sc__law_lead.nd rfl (by first | exact Or.inl rfl | exact Or.inr rfl) (ev_call C__law_laid (hr.mono (by decide)) hG (by rfl) (ea_cons (ev_name 0) (ea_cons (ev_tabL hr.units (pv 2) (ev_name 3) (fun _ _ => rfl)) ea_nil))))))
    (ess_one (es_ret (ev_name 0)))))
/-! ### _law_back -/
abbrev s__law_back : Stmt := topS 35
abbrev N__law_back : List Str := ["pose"]
theorem sc__law_back : FnScope N__law_back ["pose"] (defScope s__law_back) := ⟨rfl, rfl, rfl, by decide +kernel, rfl, by decide +kernel, by decide +kernel⟩
def B__law_back : Fs := (sRet (f2 addD (fSln 0 pNo (pOf (fC (.int 4)))) (fTup (aCons (f2 modD (f1 intD (f2 addD (f2n ixX 0 (fC (.int 4))) (fC (.int 4)))) (fC (.int 8))) aNil))))
def F__law_back : Fun' := runF false 0 B__law_back
theorem fn__law_back {P : Program} {w : World} {K : PySem.W.Frag} {mg : Str → Option Value} {base : Heap} {f : Addr} {fd : FuncData} (Fu : Fun K "_law_back" "_law_back" s__law_back f fd) (z_int : mg "int" = none)  :
    FnG P w K mg base 1 f fd ["pose"] false F__law_back :=
  fnG_of Fu sc__law_back rfl (does_run _ _ _) fun cdv A outer s H hG hr =>
    (ess_one (es_ret (ev2 x_add o_add (ev_sln (pv 0) ep_no (ep_of ev_int)) (ev_tup (ea_cons (ev2 op_mod o_mod (ev_callT o_int call_int1 z_int (by rfl) (by decide +kernel) (ev2 x_add o_add (dixn hr (pv 0) ev_int (fun _ _ => rfl)) ev_int)) ev_int) ea_nil)))))
/-! ### _law_pieces_o -/
abbrev s__law_pieces_o : Stmt := topS 41
abbrev N__law_pieces_o : List Str := ["pose", "row", "found", "letter", "ahead"]
theorem sc__law_pieces_o : FnScope N__law_pieces_o ["pose", "row"] (defScope s__law_pieces_o) := ⟨rfl, rfl, rfl, by decide +kernel, rfl, by decide +kernel, by decide +kernel⟩
def L1__law_pieces_o : Fs := (sSeq (sAsg (fCall 2 F__law_lead (aCons (fN 0) (aCons (fN 3) aNil))) (gDat 4))
    (sSeq (sIf (ofB (f2n eqD 3 (fC (.str "R")))) (sApp 2 (fTup (aCons (fC (.str "C")) (aCons (fCall 1 F__law_back (aCons (fN 4) aNil)) aNil)))) (sApp 2 (fTup (aCons (f2 ixX (fL (lDisp (aCons (fC (.str "C")) (aCons (fN 3) aNil)))) (f1 intD (f2n neD 3 (fC (.str "L"))))) (aCons (fN 0) aNil)))))
    (sAsg (fN 4) (gDat 0))))
def B__law_pieces_o : Fs := (sSeq (sOwn 2 (lDisp aNil))
    (sSeq (sFor (wOf (fN 1)) (gDat 3) L1__law_pieces_o)
    (sRetO 2)))
def F__law_pieces_o : FunX := runX 3 B__law_pieces_o
theorem fn__law_pieces_o {P : Program} {w : World} {K : PySem.W.Frag} {mg : Str → Option Value} {base : Heap} {f : Addr} {fd : FuncData} (Fu : Fun K "_law_pieces" "_law_pieces" s__law_pieces_o f fd) (z_int : mg "int" = none) (C__law_lead : Cal P w K mg base "_law_lead" 3 ["pose", "row"] false F__law_lead) (C__law_back : Cal P w K mg base "_law_back" 1 ["pose"] false F__law_back) :
    FnX P w K mg base 4 f fd ["pose", "row"] F__law_pieces_o :=
  fnX_of Fu sc__law_pieces_o rfl fun cdv A outer s H E hG hr tk hp =>
    (ess_cons (es_own 2 sc__law_pieces_o.nd rfl (by first | exact Or.inl rfl | exact Or.inr rfl) (el_disp ea_nil))
    (ess_cons (es_for hp rfl (ei_seq (ev_name 1)) (eg_name 3 sc__law_pieces_o.nd rfl (by first | exact Or.inl rfl | exact Or.inr rfl)) (ess_cons (es_set 4 sc__law_pieces_o.nd rfl (by first | exact Or.inl rfl | exact Or.inr rfl) (ev_call C__law_lead (hr.mono (by decide)) hG (by rfl) (ea_cons (ev_name 0) (ea_cons (ev_name 3) ea_nil))))
    (ess_cons (es_if (et2n (x_eq hr.units) o_eq (nomark _) (pv 3) ev_str) (ess_one (es_app 2 (pv 2) (ev_tup (ea_cons ev_str (ea_cons (ev_call C__law_back (hr.mono (by decide)) hG (by rfl) (ea_cons (ev_name 4) ea_nil)) ea_nil))))) (ess_one (es_app 2 (pv 2) (ev_tup (ea_cons (dix hr (ev_L (el_disp (ea_cons ev_str (ea_cons (ev_name 3) ea_nil)))) (ev_callT o_int call_int1 z_int (by rfl) (by decide +kernel) (ec2n (x_ne hr.units) o_ne (nomark _) (pv 3) ev_str)) (fun _ _ => rfl)) (ea_cons (ev_name 0) ea_nil))))))
    (ess_one (es_set 0 sc__law_pieces_o.nd rfl (by first | exact Or.inl rfl | exact Or.inr rfl) (ev_name 4))))))
    (ess_one (es_retO 2 (pv 2)))))
/-! ### _law_draw -/
abbrev s__law_draw : Stmt := topS 30
abbrev N__law_draw : List Str := ["box", "many", "at"]
theorem sc__law_draw : FnScope N__law_draw ["box", "many"] (defScope s__law_draw) := ⟨rfl, rfl, rfl, by decide +kernel, rfl, by decide +kernel, by decide +kernel⟩
def B__law_draw : Fs := (sSeq (sAsg (f2n ixX 0 (fC (.int 1))) (gDat 2))
    (sSeq (sSet 0 (f2n addD 2 (fC (.int 1))) (fC (.int 1)))
    (sSeq (sIf (ofB (f2n ltD 2 (f1 lenD (f2n ixX 0 (fC (.int 0)))))) (sRet (f2m modD (f1 intD (f2m ixX (f2n ixX 0 (fC (.int 0))) 2)) 1)) sNil)
    (sRet (f2m modD (f1 intD (f2 addD (f2n mulD 2 (fC (.int 7))) (fC (.int 3)))) 1)))))
def F__law_draw : Fun' := runF true 1 B__law_draw
theorem fn__law_draw {P : Program} {w : World} {K : PySem.W.Frag} {mg : Str → Option Value} {base : Heap} {f : Addr} {fd : FuncData} (Fu : Fun K "_law_draw" "_law_draw" s__law_draw f fd) (z_int : mg "int" = none) (z_len : mg "len" = none)  :
    FnG P w K mg base 1 f fd ["box", "many"] true F__law_draw :=
  fnG_of Fu sc__law_draw rfl (does_run _ _ _) fun cdv A outer s H hG hr =>
    (ess_cons (es_set 2 sc__law_draw.nd rfl (by first | exact Or.inl rfl | exact Or.inr rfl) (dixn hr (pv 0) ev_int (fun _ _ => rfl)))
    (ess_cons (es_item 0 (ev2n x_add o_add (pv 2) ev_int) (pv 0) ev_int)
    (ess_cons (es_if (et2n x_lt o_cmp (nomark _) (pv 2) (ev_callB o_len x_len z_len (by rfl) (by decide +kernel) (dixn hr (pv 0) ev_int (fun _ _ => rfl)))) (ess_one (es_ret (ev2m op_mod o_mod (ev_callT o_int call_int1 z_int (by rfl) (by decide +kernel) (dixm hr (dixn hr (pv 0) ev_int (fun _ _ => rfl)) (pv 2) (fun _ _ => rfl))) (pv 1)))) ess_nil)
    (ess_one (es_ret (ev2m op_mod o_mod (ev_callT o_int call_int1 z_int (by rfl) (by decide +kernel) (ev2 x_add o_add (ev2n x_mul o_mul (pv 2) ev_int) ev_int)) (pv 1)))))))
/-! ### _law_pieces -/
abbrev s__law_pieces : Stmt := topS 41
abbrev N__law_pieces : List Str := ["pose", "row", "found", "letter", "ahead"]
theorem sc__law_pieces : FnScope N__law_pieces ["pose", "row"] (defScope s__law_pieces) := ⟨rfl, rfl, rfl, by decide +kernel, rfl, by decide +kernel, by decide +kernel⟩
def L1__law_pieces : Fs := (sSeq (sAsg (fCall 2 F__law_lead (aCons (fN 0) (aCons (fN 3) aNil))) (gDat 4))
    (sSeq (sIf (ofB (f2n eqD 3 (fC (.str "R")))) (sApp 2 (fTup (aCons (fC (.str "C")) (aCons (fCall 1 F__law_back (aCons (fN 4) aNil)) aNil)))) (sApp 2 (fTup (aCons (f2 ixX (fL (lDisp (aCons (fC (.str "C")) (aCons (fN 3) aNil)))) (f1 intD (f2n neD 3 (fC (.str "L"))))) (aCons (fN 0) aNil)))))
    (sAsg (fN 4) (gDat 0))))
def B__law_pieces : Fs := (sSeq (sOwn 2 (lDisp aNil))
    (sSeq (sFor (wOf (fN 1)) (gDat 3) L1__law_pieces)
    (sRet (fN 2))))
def F__law_pieces : Fun' := runF false 3 B__law_pieces
theorem fn__law_pieces {P : Program} {w : World} {K : PySem.W.Frag} {mg : Str → Option Value} {base : Heap} {f : Addr} {fd : FuncData} (Fu : Fun K "_law_pieces" "_law_pieces" s__law_pieces f fd) (z_int : mg "int" = none) (C__law_lead : Cal P w K mg base "_law_lead" 3 ["pose", "row"] false F__law_lead) (C__law_back : Cal P w K mg base "_law_back" 1 ["pose"] false F__law_back) :
    FnG P w K mg base 4 f fd ["pose", "row"] false F__law_pieces :=
  fnG_of Fu sc__law_pieces rfl (does_run _ _ _) fun cdv A outer s H hG hr =>
    (ess_cons (es_own 2 sc__law_pieces.nd rfl (by first | exact Or.inl rfl | exact Or.inr rfl) (el_disp ea_nil))
    (ess_cons (es_for PassesOwn.never rfl (ei_seq (ev_name 1)) (eg_name 3 sc__law_pieces.nd rfl (by first | exact Or.inl rfl | exact Or.inr rfl)) (ess_cons (es_set 4 sc__law_pieces.nd rfl (by first | exact Or.inl rfl | exact Or.inr rfl) (ev_call C__law_lead (hr.mono (by decide)) hG (by rfl) (ea_cons (ev_name 0) (ea_cons (ev_name 3) ea_nil))))
    (ess_cons (es_if (et2n (x_eq hr.units) o_eq (nomark _) (pv 3) ev_str) (ess_one (es_app 2 (pv 2) (ev_tup (ea_cons ev_str (ea_cons (ev_call C__law_back (hr.mono (by decide)) hG (by rfl) (ea_cons (ev_name 4) ea_nil)) ea_nil))))) (ess_one (es_app 2 (pv 2) (ev_tup (ea_cons (dix hr (ev_L (el_disp (ea_cons ev_str (ea_cons (ev_name 3) ea_nil)))) (ev_callT o_int call_int1 z_int (by rfl) (by decide +kernel) (ec2n (x_ne hr.units) o_ne (nomark _) (pv 3) ev_str)) (fun _ _ => rfl)) (ea_cons (ev_name 0) ea_nil))))))
    (ess_one (es_set 0 sc__law_pieces.nd rfl (by first | exact Or.inl rfl | exact Or.inr rfl) (ev_name 4))))))
    (ess_one (es_ret (ev_name 2)))))
/-! ### _law_ends -/
abbrev s__law_ends : Stmt := topS 37
abbrev N__law_ends : List Str := ["piece", "home", "left", "ahead", "rows", "end"]
theorem sc__law_ends : FnScope N__law_ends ["piece"] (defScope s__law_ends) := ⟨rfl, rfl, rfl, by decide +kernel, rfl, by decide +kernel, by decide +kernel⟩
def E1__law_ends : Fe := (fCall 2 F__law_laid (aCons (f2n ixX 0 (fC (.int 1))) (aCons (fN 5) aNil)))
def B__law_ends : Fs := (sSeq (sAsg (fTup (aCons (fC (.int 0)) (aCons (fC (.int 0)) (aCons (fC (.int 0)) (aCons (fC (.int 0)) (aCons (fC (.int 4)) aNil)))))) (gDat 1))
    (sSeq (sAsg (fTup (aCons (fC (.int 0)) (aCons (fC (.int 0)) (aCons (fC (.int 2)) (aCons (fNeg (fC (.int 2))) (aCons (fC (.int 1)) aNil)))))) (gDat 2))
    (sSeq (sAsg (fTup (aCons (fC (.int 2)) (aCons (fC (.int 0)) (aCons (fC (.int 0)) (aCons (fC (.int 0)) (aCons (fC (.int 0)) aNil)))))) (gDat 3))
    (sSeq (sTxt 4 [("S", (fL (lDisp (aCons (fN 1) (aCons (fN 3) aNil))))), ("H", (fL (lDisp (aCons (fN 1) (aCons (fTup (aCons (fC (.int 1)) (aCons (fC (.int 0)) (aCons (fC (.int 0)) (aCons (fC (.int 0)) (aCons (fC (.int 0)) aNil)))))) aNil))))), ("C", (fL (lDisp (aCons (fN 1) (aCons (fN 2) aNil))))), ("P", (fL (lDisp (aCons (fN 1) (aCons (fN 3) (aCons (fN 2) aNil))))))])
    (sSeq (sTxtPut 4 "Q" (fL (lDisp (aCons (fN 1) (aCons (fN 3) (aCons (fTup (aCons (fC (.int 0)) (aCons (fC (.int 2)) (aCons (fNeg (fC (.int 2))) (aCons (fC (.int 0)) (aCons (fC (.int 7)) aNil)))))) aNil))))))
    (sSeq (sTxtPut 4 "X" (fL (lDisp (aCons (fN 1) (aCons (fN 3) (aCons (fTup (aCons (fC (.int 1)) (aCons (fC (.int 0)) (aCons (fC (.int 1)) (aCons (fC (.int 0)) (aCons (fC (.int 2)) aNil)))))) (aCons (fTup (aCons (fC (.int 1)) (aCons (fC (.int 0)) (aCons (fNeg (fC (.int 1))) (aCons (fC (.int 0)) (aCons (fC (.int 6)) aNil)))))) aNil)))))))
    (sRet (fL (lLc [5] (gDat 5) (wOf (fTxt 4 (f2n ixX 0 (fC (.int 0))))) tYe E1__law_ends)))))))))
def F__law_ends : Fun' := runF false 5 B__law_ends
theorem fn__law_ends {P : Program} {w : World} {K : PySem.W.Frag} {mg : Str → Option Value} {base : Heap} {f : Addr} {fd : FuncData} (Fu : Fun K "_law_ends" "_law_ends" s__law_ends f fd)  (C__law_laid : Cal P w K mg base "_law_laid" 2 ["pose", "other"] false F__law_laid) :
    FnG P w K mg base 3 f fd ["piece"] false F__law_ends :=
  fnG_of Fu sc__law_ends rfl (does_run _ _ _) fun cdv A outer s H hG hr =>
    (ess_cons (es_set 1 sc__law_ends.nd rfl (by first | exact Or.inl rfl | exact Or.inr rfl) (ev_tup (ea_cons ev_int (ea_cons ev_int (ea_cons ev_int (ea_cons ev_int (ea_cons ev_int ea_nil)))))))
    (ess_cons (es_set 2 sc__law_ends.nd rfl (by first | exact Or.inl rfl | exact Or.inr rfl) (ev_tup (ea_cons ev_int (ea_cons ev_int (ea_cons ev_int (ea_cons (ev_neg ev_int) (ea_cons ev_int ea_nil)))))))
    (ess_cons (es_set 3 sc__law_ends.nd rfl (by first | exact Or.inl rfl | exact Or.inr rfl) (ev_tup (ea_cons ev_int (ea_cons ev_int (ea_cons ev_int (ea_cons ev_int (ea_cons ev_int ea_nil)))))))
    (ess_cons (es_txt 4 (fs := [("S", (fL (lDisp (aCons (fN 1) (aCons (fN 3) aNil))))), ("H", (fL (lDisp (aCons (fN 1) (aCons (fTup (aCons (fC (.int 1)) (aCons (fC (.int 0)) (aCons (fC (.int 0)) (aCons (fC (.int 0)) (aCons (fC (.int 0)) aNil)))))) aNil))))), ("C", (fL (lDisp (aCons (fN 1) (aCons (fN 2) aNil))))), ("P", (fL (lDisp (aCons (fN 1) (aCons (fN 3) (aCons (fN 2) aNil))))))]) sc__law_ends.nd rfl (by first | exact Or.inl rfl | exact Or.inr rfl) (pps_cons pe_str (ev_L (el_disp (ea_cons (ev_name 1) (ea_cons (ev_name 3) ea_nil)))) (pps_cons pe_str (ev_L (el_disp (ea_cons (ev_name 1) (ea_cons (ev_tup (ea_cons ev_int (ea_cons ev_int (ea_cons ev_int (ea_cons ev_int (ea_cons ev_int ea_nil)))))) ea_nil)))) (pps_cons pe_str (ev_L (el_disp (ea_cons (ev_name 1) (ea_cons (ev_name 2) ea_nil)))) (pps_cons pe_str (ev_L (el_disp (ea_cons (ev_name 1) (ea_cons (ev_name 3) (ea_cons (ev_name 2) ea_nil))))) pps_nil)))) rfl rfl (by decide) (by decide))
    (ess_cons (es_txtPut 4 hr.units (ev_L (el_disp (ea_cons (ev_name 1) (ea_cons (ev_name 3) (ea_cons (ev_tup (ea_cons ev_int (ea_cons ev_int (ea_cons (ev_neg ev_int) (ea_cons ev_int (ea_cons ev_int ea_nil)))))) ea_nil))))) (pv 4))
    (ess_cons (es_txtPut 4 hr.units (ev_L (el_disp (ea_cons (ev_name 1) (ea_cons (ev_name 3) (ea_cons (ev_tup (ea_cons ev_int (ea_cons ev_int (ea_cons ev_int (ea_cons ev_int (ea_cons ev_int ea_nil)))))) (ea_cons (ev_tup (ea_cons ev_int (ea_cons ev_int (ea_cons (ev_neg ev_int) (ea_cons ev_int (ea_cons ev_int ea_nil)))))) ea_nil)))))) (pv 4))
    (ess_one (es_ret (ev_L (el_lc (js := [5]) rfl (tg_name 5) rfl sc__law_ends.nd (ei_seq (ev_txt hr.units (pv 4) (dixn hr (pv 0) ev_int (fun _ _ => rfl)) (fun _ _ => rfl))) (blkOk_by (own := [("end", 5)]) (N := N__law_ends) (sc := defScope s__law_ends) (by decide +kernel)) (fun _ _ _ _ _ => pg_name (i := 5) sc__law_ends.nd rfl (Or.inl rfl)) (fun _ _ _ _ _ => ets_nil) (fun _ _ _ _ _ => (ev_call C__law_laid (hr.mono (by decide)) hG (by rfl) (ea_cons (dixn hr (pv 0) ev_int (fun _ _ => rfl)) (ea_cons (ev_name 5) ea_nil))))))))))))))
/-! ### _law_all_ends_b -/
abbrev s__law_all_ends_b : Stmt := topS 38
abbrev N__law_all_ends_b : List Str := ["layout", "found", "k", "poses", "e"]
theorem sc__law_all_ends_b : FnScope N__law_all_ends_b ["layout"] (defScope s__law_all_ends_b) := ⟨rfl, rfl, rfl, by decide +kernel, rfl, by decide +kernel, by decide +kernel⟩
def E1__law_all_ends_b : Fe := (fTup (aCons (f1n intD 2) (aCons (fN 4) (aCons (f2nn ixX 3 4) aNil))))
def L2__law_all_ends_b : Fs := (sIf (ofB (f2 notNd (f2nn ixX 0 2) (fC .none))) (sSeq (sAsg (fCall 1 F__law_ends (aCons (f2nn ixX 0 2) aNil)) (gDat 3))
    (sAsg (f2n addD 1 (fL (lLc [4] (gDat 4) (wR1 (f1n lenD 3)) tYe E1__law_all_ends_b))) (gDat 1))) sNil)
def B__law_all_ends_b : Fs := (sSeq (sAsg (fL (lDisp aNil)) (gDat 1))
    (sSeq (sFor (wR1 (f1n lenD 0)) (gDat 2) L2__law_all_ends_b)
    (sRet (fN 1))))
def F__law_all_ends_b : Fun' := runF true 4 B__law_all_ends_b
theorem fn__law_all_ends_b {P : Program} {w : World} {K : PySem.W.Frag} {mg : Str → Option Value} {base : Heap} {f : Addr} {fd : FuncData} (Fu : Fun K "_law_all_ends" "_law_all_ends" s__law_all_ends_b f fd) (z_int : mg "int" = none) (z_len : mg "len" = none) (z_range : mg "range" = none) (C__law_ends : Cal P w K mg base "_law_ends" 3 ["piece"] false F__law_ends) :
    FnG P w K mg base 4 f fd ["layout"] true F__law_all_ends_b :=
  fnG_of Fu sc__law_all_ends_b rfl (does_run _ _ _) fun cdv A outer s H hG hr =>
    (ess_cons (es_set 1 sc__law_all_ends_b.nd rfl (by first | exact Or.inl rfl | exact Or.inr rfl) (ev_L (el_disp ea_nil)))
    (ess_cons (es_for PassesOwn.never rfl (ei_r1 z_range (by rfl) (ev_callBn o_len x_len z_len (by rfl) (by decide +kernel) (pv 0))) (eg_name 2 sc__law_all_ends_b.nd rfl (by first | exact Or.inl rfl | exact Or.inr rfl)) (ess_one (es_if (et2 op_notN o_notN (nomark _) (dixnn hr (pv 0) (pv 2) (fun _ _ => rfl)) ev_non) (ess_cons (es_set 3 sc__law_all_ends_b.nd rfl (by first | exact Or.inl rfl | exact Or.inr rfl) (ev_call C__law_ends (hr.mono (by decide)) hG (by rfl) (ea_cons (dixnn hr (pv 0) (pv 2) (fun _ _ => rfl)) ea_nil)))
    (ess_one (es_set 1 sc__law_all_ends_b.nd rfl (by first | exact Or.inl rfl | exact Or.inr rfl) (ev2n x_add o_add (pv 1) (ev_L (el_lc (js := [4]) rfl (tg_name 4) rfl sc__law_all_ends_b.nd (ei_r1 z_range (by rfl) (ev_callBn o_len x_len z_len (by rfl) (by decide +kernel) (pv 3))) (blkOk_by (own := [("e", 4)]) (N := N__law_all_ends_b) (sc := defScope s__law_all_ends_b) (by decide +kernel)) (fun _ _ _ _ _ => pg_name (i := 4) sc__law_all_ends_b.nd rfl (Or.inl rfl)) (fun _ _ _ _ _ => ets_nil) (fun _ _ _ _ _ => (ev_tup (ea_cons (ev_callTn o_int call_int1 z_int (by rfl) (by decide +kernel) (pv 2)) (ea_cons (ev_name 4) (ea_cons (dixnn hr (pv 3) (pv 4) (fun _ _ => rfl)) ea_nil))))))))))) ess_nil)))
    (ess_one (es_ret (ev_name 1)))))
/-! ### _law_seen -/
abbrev s__law_seen : Stmt := topS 34
abbrev N__law_seen : List Str := ["pose", "other", "turned_v", "k"]
theorem sc__law_seen : FnScope N__law_seen ["pose", "other"] (defScope s__law_seen) := ⟨rfl, rfl, rfl, by decide +kernel, rfl, by decide +kernel, by decide +kernel⟩
def E1__law_seen : Fe := (f2 subD (f2nn ixX 1 3) (f2nn ixX 0 3))
def B__law_seen : Fs := (sSeq (sAsg (fCall 2 F__law_turned (aCons (fL (lLc [3] (gDat 3) (wR1 (fC (.int 4))) tYe E1__law_seen)) (aCons (f2 subD (fC (.int 8)) (f2n ixX 0 (fC (.int 4)))) aNil))) (gDat 2))
    (sRet (f2n addD 2 (fTup (aCons (f2 modD (f1 intD (f2 subD (f2n ixX 1 (fC (.int 4))) (f2n ixX 0 (fC (.int 4))))) (fC (.int 8))) aNil)))))
def F__law_seen : Fun' := runF false 2 B__law_seen
theorem fn__law_seen {P : Program} {w : World} {K : PySem.W.Frag} {mg : Str → Option Value} {base : Heap} {f : Addr} {fd : FuncData} (Fu : Fun K "_law_seen" "_law_seen" s__law_seen f fd) (z_int : mg "int" = none) (z_range : mg "range" = none) (C__law_turned : Cal P w K mg base "_law_turned" 1 ["position", "eighths"] false F__law_turned) :
    FnG P w K mg base 2 f fd ["pose", "other"] false F__law_seen :=
  fnG_of Fu sc__law_seen rfl (does_run _ _ _) fun cdv A outer s H hG hr =>
    (ess_cons (es_set 2 sc__law_seen.nd rfl (by first | exact Or.inl rfl | exact Or.inr rfl) (ev_call C__law_turned (hr.mono (by decide)) hG (by rfl) (ea_cons (ev_L (el_lc (js := [3]) rfl (tg_name 3) rfl sc__law_seen.nd (ei_r1 z_range (by rfl) ev_int) (blkOk_by (own := [("k", 3)]) (N := N__law_seen) (sc := defScope s__law_seen) (by decide +kernel)) (fun _ _ _ _ _ => pg_name (i := 3) sc__law_seen.nd rfl (Or.inl rfl)) (fun _ _ _ _ _ => ets_nil) (fun _ _ _ _ _ => (ev2 op_sub o_sub (dixnn hr (pv 1) (pv 3) (fun _ _ => rfl)) (dixnn hr (pv 0) (pv 3) (fun _ _ => rfl)))))) (ea_cons (ev2 op_sub o_sub ev_int (dixn hr (pv 0) ev_int (fun _ _ => rfl))) ea_nil))))
    (ess_one (es_ret (ev2n x_add o_add (pv 2) (ev_tup (ea_cons (ev2 op_mod o_mod (ev_callT o_int call_int1 z_int (by rfl) (by decide +kernel) (ev2 op_sub o_sub (dixn hr (pv 1) ev_int (fun _ _ => rfl)) (dixn hr (pv 0) ev_int (fun _ _ => rfl)))) ev_int) ea_nil))))))
/-! ### _law_attached -/
abbrev s__law_attached : Stmt := topS 42
abbrev N__law_attached : List Str := ["kind", "end", "target", "there"]
theorem sc__law_attached : FnScope N__law_attached ["kind", "end", "target"] (defScope s__law_attached) := ⟨rfl, rfl, rfl, by decide +kernel, rfl, by decide +kernel, by decide +kernel⟩
def B__law_attached : Fs := (sSeq (sAsg (f2m ixX (fCall 1 F__law_ends (aCons (fTup (aCons (fN 0) (aCons (fTup (aCons (fC (.int 0)) (aCons (fC (.int 0)) (aCons (fC (.int 0)) (aCons (fC (.int 0)) (aCons (fC (.int 0)) aNil)))))) aNil))) aNil)) 1) (gDat 3))
    (sRet (fTup (aCons (fN 0) (aCons (fCall 2 F__law_laid (aCons (fN 2) (aCons (fCall 2 F__law_seen (aCons (fN 3) (aCons (fTup (aCons (fC (.int 0)) (aCons (fC (.int 0)) (aCons (fC (.int 0)) (aCons (fC (.int 0)) (aCons (fC (.int 0)) aNil)))))) aNil))) aNil))) aNil)))))
def F__law_attached : Fun' := runF false 1 B__law_attached
theorem fn__law_attached {P : Program} {w : World} {K : PySem.W.Frag} {mg : Str → Option Value} {base : Heap} {f : Addr} {fd : FuncData} (Fu : Fun K "_law_attached" "_law_attached" s__law_attached f fd)  (C__law_ends : Cal P w K mg base "_law_ends" 3 ["piece"] false F__law_ends) (C__law_laid : Cal P w K mg base "_law_laid" 2 ["pose", "other"] false F__law_laid) (C__law_seen : Cal P w K mg base "_law_seen" 2 ["pose", "other"] false F__law_seen) :
    FnG P w K mg base 4 f fd ["kind", "end", "target"] false F__law_attached :=
  fnG_of Fu sc__law_attached rfl (does_run _ _ _) fun cdv A outer s H hG hr =>
    (ess_cons (es_set 3 sc__law_attached.nd rfl (by first | exact Or.inl rfl | exact Or.inr rfl) (dixm hr (ev_call C__law_ends (hr.mono (by decide)) hG (by rfl) (ea_cons (ev_tup (ea_cons (ev_name 0) (ea_cons (ev_tup (ea_cons ev_int (ea_cons ev_int (ea_cons ev_int (ea_cons ev_int (ea_cons ev_int ea_nil)))))) ea_nil))) ea_nil)) (pv 1) (fun _ _ => rfl)))
    (ess_one (es_ret (ev_tup (ea_cons (ev_name 0) (ea_cons (ev_call C__law_laid (hr.mono (by decide)) hG (by rfl) (ea_cons (ev_name 2) (ea_cons (ev_call C__law_seen (hr.mono (by decide)) hG (by rfl) (ea_cons (ev_name 3) (ea_cons (ev_tup (ea_cons ev_int (ea_cons ev_int (ea_cons ev_int (ea_cons ev_int (ea_cons ev_int ea_nil)))))) ea_nil))) ea_nil))) ea_nil))))))
/-! ### _law_all_ends -/
abbrev s__law_all_ends : Stmt := topS 38
abbrev N__law_all_ends : List Str := ["layout", "found", "k", "poses", "e"]
theorem sc__law_all_ends : FnScope N__law_all_ends ["layout"] (defScope s__law_all_ends) := ⟨rfl, rfl, rfl, by decide +kernel, rfl, by decide +kernel, by decide +kernel⟩
def E1__law_all_ends : Fe := (fTup (aCons (f1n intD 2) (aCons (fN 4) (aCons (f2nn ixX 3 4) aNil))))
def L2__law_all_ends : Fs := (sIf (ofB (f2 notNd (f2nn ixX 0 2) (fC .none))) (sSeq (sAsg (fCall 1 F__law_ends (aCons (f2nn ixX 0 2) aNil)) (gDat 3))
    (sAsg (f2n addD 1 (fL (lLc [4] (gDat 4) (wR1 (f1n lenD 3)) tYe E1__law_all_ends))) (gDat 1))) sNil)
def B__law_all_ends : Fs := (sSeq (sAsg (fL (lDisp aNil)) (gDat 1))
    (sSeq (sFor (wR1 (f1n lenD 0)) (gDat 2) L2__law_all_ends)
    (sRet (fN 1))))
def F__law_all_ends : Fun' := runF false 4 B__law_all_ends
theorem fn__law_all_ends {P : Program} {w : World} {K : PySem.W.Frag} {mg : Str → Option Value} {base : Heap} {f : Addr} {fd : FuncData} (Fu : Fun K "_law_all_ends" "_law_all_ends" s__law_all_ends f fd) (z_int : mg "int" = none) (z_len : mg "len" = none) (z_range : mg "range" = none) (C__law_ends : Cal P w K mg base "_law_ends" 3 ["piece"] false F__law_ends) :
    FnG P w K mg base 4 f fd ["layout"] false F__law_all_ends :=
  fnG_of Fu sc__law_all_ends rfl (does_run _ _ _) fun cdv A outer s H hG hr =>
    (ess_cons (es_set 1 sc__law_all_ends.nd rfl (by first | exact Or.inl rfl | exact Or.inr rfl) (ev_L (el_disp ea_nil)))
    (ess_cons (es_for PassesOwn.never rfl (ei_r1 z_range (by rfl) (ev_callBn o_len x_len z_len (by rfl) (by decide +kernel) (pv 0))) (eg_name 2 sc__law_all_ends.nd rfl (by first | exact Or.inl rfl | exact Or.inr rfl)) (ess_one (es_if (et2 op_notN o_notN (nomark _) (dixnn hr (pv 0) (pv 2) (fun _ _ => rfl)) ev_non) (ess_cons (es_set 3 sc__law_all_ends.nd rfl (by first | exact Or.inl rfl | exact Or.inr rfl) (ev_call C__law_ends (hr.mono (by decide)) hG (by rfl) (ea_cons (dixnn hr (pv 0) (pv 2) (fun _ _ => rfl)) ea_nil)))
    (ess_one (es_set 1 sc__law_all_ends.nd rfl (by first | exact Or.inl rfl | exact Or.inr rfl) (ev2n x_add o_add (pv 1) (ev_L (el_lc (js := [4]) rfl (tg_name 4) rfl sc__law_all_ends.nd (ei_r1 z_range (by rfl) (ev_callBn o_len x_len z_len (by rfl) (by decide +kernel) (pv 3))) (blkOk_by (own := [("e", 4)]) (N := N__law_all_ends) (sc := defScope s__law_all_ends) (by decide +kernel)) (fun _ _ _ _ _ => pg_name (i := 4) sc__law_all_ends.nd rfl (Or.inl rfl)) (fun _ _ _ _ _ => ets_nil) (fun _ _ _ _ _ => (ev_tup (ea_cons (ev_callTn o_int call_int1 z_int (by rfl) (by decide +kernel) (pv 2)) (ea_cons (ev_name 4) (ea_cons (dixnn hr (pv 3) (pv 4) (fun _ _ => rfl)) ea_nil))))))))))) ess_nil)))
    (ess_one (es_ret (ev_name 1)))))
/-! ### _law_can_lie -/
abbrev s__law_can_lie : Stmt := topS 39
abbrev N__law_can_lie : List Str := ["layout", "poses", "row", "k"]
theorem sc__law_can_lie : FnScope N__law_can_lie ["layout"] (defScope s__law_can_lie) := ⟨rfl, rfl, rfl, by decide +kernel, rfl, by decide +kernel, by decide +kernel⟩
def E1__law_can_lie : Fe := (f2n ixX 2 (fC (.int 2)))
def E2__law_can_lie : Fe := (fN 3)
def B__law_can_lie : Fs := (sSeq (sAsg (fL (lLc [2] (gDat 2) (wOf (fCall 1 F__law_all_ends (aCons (fN 0) aNil))) tYe E1__law_can_lie)) (gDat 1))
    (sRet (f2 eqD (f1 lenD (fL (lLc [3] (gDat 3) (wR1 (f1n lenD 1)) (ofB (f2 inX (f2nn ixX 1 3) (fSln 1 pNo (pOf (fN 3))))) E2__law_can_lie))) (fC (.int 0)))))
def F__law_can_lie : Fun' := runF false 3 B__law_can_lie
theorem fn__law_can_lie {P : Program} {w : World} {K : PySem.W.Frag} {mg : Str → Option Value} {base : Heap} {f : Addr} {fd : FuncData} (Fu : Fun K "_law_can_lie" "_law_can_lie" s__law_can_lie f fd) (z_len : mg "len" = none) (z_range : mg "range" = none) (C__law_all_ends : Cal P w K mg base "_law_all_ends" 4 ["layout"] false F__law_all_ends) :
    FnG P w K mg base 5 f fd ["layout"] false F__law_can_lie :=
  fnG_of Fu sc__law_can_lie rfl (does_run _ _ _) fun cdv A outer s H hG hr =>
    (ess_cons (es_set 1 sc__law_can_lie.nd rfl (by first | exact Or.inl rfl | exact Or.inr rfl) (ev_L (el_lc (js := [2]) rfl (tg_name 2) rfl sc__law_can_lie.nd (ei_seq (ev_call C__law_all_ends (hr.mono (by decide)) hG (by rfl) (ea_cons (ev_name 0) ea_nil))) (blkOk_by (own := [("row", 2)]) (N := N__law_can_lie) (sc := defScope s__law_can_lie) (by decide +kernel)) (fun _ _ _ _ _ => pg_name (i := 2) sc__law_can_lie.nd rfl (Or.inl rfl)) (fun _ _ _ _ _ => ets_nil) (fun _ _ _ _ _ => (dixn hr (pv 2) ev_int (fun _ _ => rfl))))))
    (ess_one (es_ret (ec2 (x_eq hr.units) o_eq (nomark _) (ev_callB o_len x_len z_len (by rfl) (by decide +kernel) (ev_L (el_lc (js := [3]) rfl (tg_name 3) rfl sc__law_can_lie.nd (ei_r1 z_range (by rfl) (ev_callBn o_len x_len z_len (by rfl) (by decide +kernel) (pv 1))) (blkOk_by (own := [("k", 3)]) (N := N__law_can_lie) (sc := defScope s__law_can_lie) (by decide +kernel)) (fun _ _ _ _ _ => pg_name (i := 3) sc__law_can_lie.nd rfl (Or.inl rfl)) (fun _ _ _ _ _ => (ets_one (et2 (x_inX hr) o_inX (by rfl) (dixnn hr (pv 1) (pv 3) (fun _ _ => rfl)) (ev_sln (pv 1) ep_no (ep_of (ev_name 3)))))) (fun _ _ _ _ _ => (ev_name 3))))) ev_int))))
/-! ### _law_joined_b -/
abbrev s__law_joined_b : Stmt := topS 40
abbrev N__law_joined_b : List Str := ["layout", "pose", "wanted", "piece", "end", "other"]
theorem sc__law_joined_b : FnScope N__law_joined_b ["layout", "pose"] (defScope s__law_joined_b) := ⟨rfl, rfl, rfl, by decide +kernel, rfl, by decide +kernel, by decide +kernel⟩
def L1__law_joined_b : Fs := (sIf (ofB (f2nn eqD 5 2)) (sRet (fTup (aCons (fN 3) (aCons (fN 4) aNil)))) sNil)
def B__law_joined_b : Fs := (sSeq (sAsg (fCall 1 F__law_back (aCons (fN 1) aNil)) (gDat 2))
    (sSeq (sFor (wOf (fCallB 1 F__law_all_ends_b 0 aNil)) (gTp 3 (gsCons (gDat 3) (gsCons (gDat 4) (gsCons (gDat 5) gsNo)))) L1__law_joined_b)
    (sRet (fC .none))))
def F__law_joined_b : Fun' := runF true 4 B__law_joined_b
theorem fn__law_joined_b {P : Program} {w : World} {K : PySem.W.Frag} {mg : Str → Option Value} {base : Heap} {f : Addr} {fd : FuncData} (Fu : Fun K "_law_joined" "_law_joined" s__law_joined_b f fd)  (C__law_back : Cal P w K mg base "_law_back" 1 ["pose"] false F__law_back) (C__law_all_ends_b : Cal P w K mg base "_law_all_ends" 4 ["layout"] true F__law_all_ends_b) :
    FnG P w K mg base 5 f fd ["layout", "pose"] true F__law_joined_b :=
  fnG_of Fu sc__law_joined_b rfl (does_run _ _ _) fun cdv A outer s H hG hr =>
    (ess_cons (es_set 2 sc__law_joined_b.nd rfl (by first | exact Or.inl rfl | exact Or.inr rfl) (ev_call C__law_back (hr.mono (by decide)) hG (by rfl) (ea_cons (ev_name 1) ea_nil)))
    (ess_cons (es_for PassesOwn.never rfl (ei_seq (ev_callO 0 C__law_all_ends_b (hr.mono (by decide)) hG (by rfl) (pv 0) ea_nil)) (eg_tup 3 rfl (egs_cons (eg_name 3 sc__law_joined_b.nd rfl (by first | exact Or.inl rfl | exact Or.inr rfl)) (egs_cons (eg_name 4 sc__law_joined_b.nd rfl (by first | exact Or.inl rfl | exact Or.inr rfl)) (egs_cons (eg_name 5 sc__law_joined_b.nd rfl (by first | exact Or.inl rfl | exact Or.inr rfl)) egs_nil)))) (ess_one (es_if (et2nn (x_eq hr.units) o_eq (nomark _) (pv 5) (pv 2)) (ess_one (es_ret (ev_tup (ea_cons (ev_name 3) (ea_cons (ev_name 4) ea_nil))))) ess_nil)))
    (ess_one (es_ret ev_non))))
/-! ### _law_joined -/
abbrev s__law_joined : Stmt := topS 40
abbrev N__law_joined : List Str := ["layout", "pose", "wanted", "piece", "end", "other"]
theorem sc__law_joined : FnScope N__law_joined ["layout", "pose"] (defScope s__law_joined) := ⟨rfl, rfl, rfl, by decide +kernel, rfl, by decide +kernel, by decide +kernel⟩
def L1__law_joined : Fs := (sIf (ofB (f2nn eqD 5 2)) (sRet (fTup (aCons (fN 3) (aCons (fN 4) aNil)))) sNil)
def B__law_joined : Fs := (sSeq (sAsg (fCall 1 F__law_back (aCons (fN 1) aNil)) (gDat 2))
    (sSeq (sFor (wOf (fCall 1 F__law_all_ends (aCons (fN 0) aNil))) (gTp 3 (gsCons (gDat 3) (gsCons (gDat 4) (gsCons (gDat 5) gsNo)))) L1__law_joined)
    (sRet (fC .none))))
def F__law_joined : Fun' := runF false 4 B__law_joined
theorem fn__law_joined {P : Program} {w : World} {K : PySem.W.Frag} {mg : Str → Option Value} {base : Heap} {f : Addr} {fd : FuncData} (Fu : Fun K "_law_joined" "_law_joined" s__law_joined f fd)  (C__law_back : Cal P w K mg base "_law_back" 1 ["pose"] false F__law_back) (C__law_all_ends : Cal P w K mg base "_law_all_ends" 4 ["layout"] false F__law_all_ends) :
    FnG P w K mg base 5 f fd ["layout", "pose"] false F__law_joined :=
  fnG_of Fu sc__law_joined rfl (does_run _ _ _) fun cdv A outer s H hG hr =>
    (ess_cons (es_set 2 sc__law_joined.nd rfl (by first | exact Or.inl rfl | exact Or.inr rfl) (ev_call C__law_back (hr.mono (by decide)) hG (by rfl) (ea_cons (ev_name 1) ea_nil)))
    (ess_cons (es_for PassesOwn.never rfl (ei_seq (ev_call C__law_all_ends (hr.mono (by decide)) hG (by rfl) (ea_cons (ev_name 0) ea_nil))) (eg_tup 3 rfl (egs_cons (eg_name 3 sc__law_joined.nd rfl (by first | exact Or.inl rfl | exact Or.inr rfl)) (egs_cons (eg_name 4 sc__law_joined.nd rfl (by first | exact Or.inl rfl | exact Or.inr rfl)) (egs_cons (eg_name 5 sc__law_joined.nd rfl (by first | exact Or.inl rfl | exact Or.inr rfl)) egs_nil)))) (ess_one (es_if (et2nn (x_eq hr.units) o_eq (nomark _) (pv 5) (pv 2)) (ess_one (es_ret (ev_tup (ea_cons (ev_name 3) (ea_cons (ev_name 4) ea_nil))))) ess_nil)))
    (ess_one (es_ret ev_non))))
/-! ### _law_layout -/
abbrev s__law_layout : Stmt := topS 43
abbrev N__law_layout : List Str := ["box", "most", "home", "kind", "layout", "turn", "ends", "target", "sort", "piece", "row"]
theorem sc__law_layout : FnScope N__law_layout ["box", "most"] (defScope s__law_layout) := ⟨rfl, rfl, rfl, by decide +kernel, rfl, by decide +kernel, by decide +kernel⟩
def E1__law_layout : Fe := (f2n ixX 10 (fC (.int 2)))
def L2__law_layout : Fs := (sSeq (sAsg (fL (lLc [10] (gDat 10) (wOf (fCallB 1 F__law_all_ends_b 4 aNil)) (ofB (f2 isNd (fCallB 2 F__law_joined_b 4 (aCons (f2n ixX 10 (fC (.int 2))) aNil)) (fC .none))) E1__law_layout)) (gDat 6))
    (sIf (cAnd (ofB (f2 gtD (f1n lenD 6) (fC (.int 0)))) (ofB (f2m ltD (f1n lenD 4) 1))) (sSeq (sAsg (fCall 1 F__law_back (aCons (f2n ixX 6 (f2 modD (f1 intD (fCallB 2 F__law_draw 0 (aCons (fC (.int 90)) aNil))) (f1n lenD 6))) aNil)) (gDat 7))
    (sSeq (sAsg (f2 ixX (fC (.str "SHCCCPQX")) (fCallB 2 F__law_draw 0 (aCons (fC (.int 8)) aNil))) (gDat 8))
    (sSeq (sAsg (fCall 3 F__law_attached (aCons (fN 8) (aCons (fCallB 2 F__law_draw 0 (aCons (f1 lenD (fCall 1 F__law_ends (aCons (fTup (aCons (fN 8) (aCons (fN 2) aNil))) aNil))) aNil)) (aCons (fN 7) aNil)))) (gDat 9))
    (sIf (ofB (fCall 1 F__law_can_lie (aCons (f2n addD 4 (fL (lDisp (aCons (fN 9) aNil)))) aNil))) (sOwn 4 (lCatn 4 (fL (lDisp (aCons (fN 9) aNil))))) sNil)))) sNil))
def B__law_layout : Fs := (sSeq (sAsg (fTup (aCons (fC (.int 0)) (aCons (fC (.int 0)) (aCons (fC (.int 0)) (aCons (fC (.int 0)) (aCons (fC (.int 0)) aNil)))))) (gDat 2))
    (sSeq (sAsg (fCallB 2 F__law_draw 0 (aCons (fC (.int 5)) aNil)) (gDat 3))
    (sSeq (sOwn 4 (lDisp aNil))
    (sSeq (sIf (ofB (f2n eqD 3 (fC (.int 0)))) (sOwnX 4 2 F__law_pieces_o (aCons (fN 2) (aCons (fSl (f2 ixX (fL (lDisp (aCons (fC (.str "LLLLLLLL")) (aCons (fC (.str "SLLLLSLLLL")) aNil)))) (fCallB 2 F__law_draw 0 (aCons (fC (.int 2)) aNil))) pNo (pOf (fN 1))) aNil))) (sIf (ofB (f2n eqD 3 (fC (.int 1)))) (sOwn 4 (lCat (fL (lDisp (aCons (fTup (aCons (fC (.str "P")) (aCons (fN 2) aNil))) aNil))) (fCall 2 F__law_pieces (aCons (fTup (aCons (fC (.int 0)) (aCons (fC (.int 0)) (aCons (fC (.int 2)) (aCons (fNeg (fC (.int 2))) (aCons (fC (.int 1)) aNil)))))) (aCons (fSl (fC (.str "LLLLLLL")) pNo (pOf (f2n subD 1 (fC (.int 1))))) aNil))))) (sIf (ofB (f2n eqD 3 (fC (.int 2)))) (sOwn 4 (lCat (fL (lDisp (aCons (fTup (aCons (fC (.str "P")) (aCons (fN 2) aNil))) aNil))) (fCall 2 F__law_pieces (aCons (fTup (aCons (fC (.int 2)) (aCons (fC (.int 0)) (aCons (fC (.int 0)) (aCons (fC (.int 0)) (aCons (fC (.int 0)) aNil)))))) (aCons (fSl (fC (.str "RSSLLLSSLLSLSS")) pNo (pOf (f2n subD 1 (fC (.int 1))))) aNil))))) (sOwn 4 (lDisp (aCons (fTup (aCons (f2 ixX (fC (.str "PQXSC")) (fCallB 2 F__law_draw 0 (aCons (fC (.int 5)) aNil))) (aCons (fN 2) aNil))) aNil))))))
    (sSeq (sFor (wR1 (fCallB 2 F__law_draw 0 (aCons (fC (.int 9)) aNil))) (gDat 5) L2__law_layout)
    (sSeq (sIf (ofB (f2 eqD (fCallB 2 F__law_draw 0 (aCons (fC (.int 4)) aNil)) (fC (.int 0)))) (sSet 4 (fC .none) (f2 modD (f1 intD (fCallB 2 F__law_draw 0 (aCons (fC (.int 90)) aNil))) (f1n lenD 4))) sNil)
    (sRet (f1n tupleD 4))))))))
def F__law_layout : Fun' := runF true 9 B__law_layout
theorem fn__law_layout {P : Program} {w : World} {K : PySem.W.Frag} {mg : Str → Option Value} {base : Heap} {f : Addr} {fd : FuncData} (Fu : Fun K "_law_layout" "_law_layout" s__law_layout f fd) (z_int : mg "int" = none) (z_len : mg "len" = none) (z_range : mg "range" = none) (z_tuple : mg "tuple" = none) (C__law_draw : Cal P w K mg base "_law_draw" 1 ["box", "many"] true F__law_draw) (C__law_pieces_o : CalX P w K mg base "_law_pieces" 4 ["pose", "row"] F__law_pieces_o) (C__law_pieces : Cal P w K mg base "_law_pieces" 4 ["pose", "row"] false F__law_pieces) (C__law_all_ends_b : Cal P w K mg base "_law_all_ends" 4 ["layout"] true F__law_all_ends_b) (C__law_joined_b : Cal P w K mg base "_law_joined" 5 ["layout", "pose"] true F__law_joined_b) (C__law_back : Cal P w K mg base "_law_back" 1 ["pose"] false F__law_back) (C__law_attached : Cal P w K mg base "_law_attached" 4 ["kind", "end", "target"] false F__law_attached) (C__law_ends : Cal P w K mg base "_law_ends" 3 ["piece"] false F__law_ends) (C__law_can_lie : Cal P w K mg base "_law_can_lie" 5 ["layout"] false F__law_can_lie) :
    FnG P w K mg base 6 f fd ["box", "most"] true F__law_layout :=
  fnG_of Fu sc__law_layout rfl (does_run _ _ _) fun cdv A outer s H hG hr =>
    (ess_cons (es_set 2 sc__law_layout.nd rfl (by first | exact Or.inl rfl | exact Or.inr rfl) (ev_tup (ea_cons ev_int (ea_cons ev_int (ea_cons ev_int (ea_cons ev_int (ea_cons ev_int ea_nil)))))))
    (ess_cons (es_set 3 sc__law_layout.nd rfl (by first | exact Or.inl rfl | exact Or.inr rfl) (ev_callO 0 C__law_draw (hr.mono (by decide)) hG (by rfl) (pv 0) (ea_cons ev_int ea_nil)))
    (ess_cons (es_own 4 sc__law_layout.nd rfl (by first | exact Or.inl rfl | exact Or.inr rfl) (el_disp ea_nil))
    (ess_cons (es_if (et2n (x_eq hr.units) o_eq (nomark _) (pv 3) ev_int) (ess_one (es_ownX 4 sc__law_layout.nd rfl (by first | exact Or.inl rfl | exact Or.inr rfl) C__law_pieces_o (hr.mono (by decide)) hG (by rfl) (ea_cons (ev_name 2) (ea_cons (ev_sl (dix hr (ev_L (el_disp (ea_cons ev_str (ea_cons ev_str ea_nil)))) (ev_callO 0 C__law_draw (hr.mono (by decide)) hG (by rfl) (pv 0) (ea_cons ev_int ea_nil)) (fun _ _ => rfl)) ep_no (ep_of (ev_name 1))) ea_nil)))) (ess_one (es_if (et2n (x_eq hr.units) o_eq (nomark _) (pv 3) ev_int) (ess_one (es_own 4 sc__law_layout.nd rfl (by first | exact Or.inl rfl | exact Or.inr rfl) (el_cat (ev_L (el_disp (ea_cons (ev_tup (ea_cons ev_str (ea_cons (ev_name 2) ea_nil))) ea_nil))) (ev_call C__law_pieces (hr.mono (by decide)) hG (by rfl) (ea_cons (ev_tup (ea_cons ev_int (ea_cons ev_int (ea_cons ev_int (ea_cons (ev_neg ev_int) (ea_cons ev_int ea_nil)))))) (ea_cons (ev_sl ev_str ep_no (ep_of (ev2n op_sub o_sub (pv 1) ev_int))) ea_nil)))))) (ess_one (es_if (et2n (x_eq hr.units) o_eq (nomark _) (pv 3) ev_int) (ess_one (es_own 4 sc__law_layout.nd rfl (by first | exact Or.inl rfl | exact Or.inr rfl) (el_cat (ev_L (el_disp (ea_cons (ev_tup (ea_cons ev_str (ea_cons (ev_name 2) ea_nil))) ea_nil))) (ev_call C__law_pieces (hr.mono (by decide)) hG (by rfl) (ea_cons (ev_tup (ea_cons ev_int (ea_cons ev_int (ea_cons ev_int (ea_cons ev_int (ea_cons ev_int ea_nil)))))) (ea_cons (ev_sl ev_str ep_no (ep_of (ev2n op_sub o_sub (pv 1) ev_int))) ea_nil)))))) (ess_one (es_own 4 sc__law_layout.nd rfl (by first | exact Or.inl rfl | exact Or.inr rfl) (el_disp (ea_cons (ev_tup (ea_cons (dix hr ev_str (ev_callO 0 C__law_draw (hr.mono (by decide)) hG (by rfl) (pv 0) (ea_cons ev_int ea_nil)) (fun _ _ => rfl)) (ea_cons (ev_name 2) ea_nil))) ea_nil)))))))))
    (ess_cons (es_for PassesOwn.never rfl (ei_r1 z_range (by rfl) (ev_callO 0 C__law_draw (hr.mono (by decide)) hG (by rfl) (pv 0) (ea_cons ev_int ea_nil))) (eg_name 5 sc__law_layout.nd rfl (by first | exact Or.inl rfl | exact Or.inr rfl)) (ess_cons (es_lcDat 6 (js := [10]) rfl (tg_name 10) rfl sc__law_layout.nd rfl rfl (sw_true rfl rfl rfl (by decide +kernel)) (ei_seq (ev_callO 4 C__law_all_ends_b (hr.mono (by decide)) hG (by rfl) (pv 4) ea_nil)) (blkOk_by (own := [("row", 10)]) (N := N__law_layout) (sc := defScope s__law_layout) (by decide +kernel)) (fun _ _ _ _ _ => pg_name (i := 10) sc__law_layout.nd rfl (Or.inl rfl)) (fun _ _ _ _ _ => (ets_one (et2 op_isN o_isN (nomark _) (ev_callO 4 C__law_joined_b (hr.mono (by decide)) hG (by rfl) (pv 4) (ea_cons (dixn hr (pv 10) ev_int (fun _ _ => rfl)) ea_nil)) ev_non))) (fun _ _ _ _ _ => (dixn hr (pv 10) ev_int (fun _ _ => rfl))))
    (ess_one (es_if (et_w (ew_and (et2 x_gt o_cmp (nomark _) (ev_callBn o_len x_len z_len (by rfl) (by decide +kernel) (pv 6)) ev_int) (ew_and1 (et2m x_lt o_cmp (nomark _) (ev_callBn o_len x_len z_len (by rfl) (by decide +kernel) (pv 4)) (pv 1))))) (ess_cons (es_set 7 sc__law_layout.nd rfl (by first | exact Or.inl rfl | exact Or.inr rfl) (ev_call C__law_back (hr.mono (by decide)) hG (by rfl) (ea_cons (dixn hr (pv 6) (ev2 op_mod o_mod (ev_callT o_int call_int1 z_int (by rfl) (by decide +kernel) (ev_callO 0 C__law_draw (hr.mono (by decide)) hG (by rfl) (pv 0) (ea_cons ev_int ea_nil))) (ev_callBn o_len x_len z_len (by rfl) (by decide +kernel) (pv 6))) (fun _ _ => rfl)) ea_nil)))
    (ess_cons (es_set 8 sc__law_layout.nd rfl (by first | exact Or.inl rfl | exact Or.inr rfl) (dix hr ev_str (ev_callO 0 C__law_draw (hr.mono (by decide)) hG (by rfl) (pv 0) (ea_cons ev_int ea_nil)) (fun _ _ => rfl)))
    (ess_cons (es_set 9 sc__law_layout.nd rfl (by first | exact Or.inl rfl | exact Or.inr rfl) (ev_call C__law_attached (hr.mono (by decide)) hG (by rfl) (ea_cons (ev_name 8) (ea_cons (ev_callO 0 C__law_draw (hr.mono (by decide)) hG (by rfl) (pv 0) (ea_cons (ev_callB o_len x_len z_len (by rfl) (by decide +kernel) (ev_call C__law_ends (hr.mono (by decide)) hG (by rfl) (ea_cons (ev_tup (ea_cons (ev_name 8) (ea_cons (ev_name 2) ea_nil))) ea_nil))) ea_nil)) (ea_cons (ev_name 7) ea_nil)))))
    (ess_one (es_if (et_val (ev_call C__law_can_lie (hr.mono (by decide)) hG (by rfl) (ea_cons (ev2n x_add o_add (pv 4) (ev_L (el_disp (ea_cons (ev_name 9) ea_nil)))) ea_nil))) (ess_one (es_own 4 sc__law_layout.nd rfl (by first | exact Or.inl rfl | exact Or.inr rfl) (el_catn (pv 4) (ev_L (el_disp (ea_cons (ev_name 9) ea_nil)))))) ess_nil))))) ess_nil))))
    (ess_cons (es_if (et2 (x_eq hr.units) o_eq (nomark _) (ev_callO 0 C__law_draw (hr.mono (by decide)) hG (by rfl) (pv 0) (ea_cons ev_int ea_nil)) ev_int) (ess_one (es_item 4 ev_non (pv 4) (ev2 op_mod o_mod (ev_callT o_int call_int1 z_int (by rfl) (by decide +kernel) (ev_callO 0 C__law_draw (hr.mono (by decide)) hG (by rfl) (pv 0) (ea_cons ev_int ea_nil))) (ev_callBn o_len x_len z_len (by rfl) (by decide +kernel) (pv 4))))) ess_nil)
    (ess_one (es_ret (ev_callTn o_tuple call_tuple_of z_tuple (by rfl) (by decide +kernel) (pv 4))))))))))
/-! ### _law_cell -/
abbrev s__law_cell : Stmt := topS 28
abbrev N__law_cell : List Str := ["script", "k"]
theorem sc__law_cell : FnScope N__law_cell ["script", "k"] (defScope s__law_cell) := ⟨rfl, rfl, rfl, by decide +kernel, rfl, by decide +kernel, by decide +kernel⟩
def B__law_cell : Fs := (sSeq (sIf (ofB (f2n ltD 1 (f1n lenD 0))) (sRet (f2nn ixX 0 1)) sNil)
    (sRet (fC (.int 0))))
def F__law_cell : Fun' := runF false 0 B__law_cell
theorem fn__law_cell {P : Program} {w : World} {K : PySem.W.Frag} {mg : Str → Option Value} {base : Heap} {f : Addr} {fd : FuncData} (Fu : Fun K "_law_cell" "_law_cell" s__law_cell f fd) (z_len : mg "len" = none)  :
    FnG P w K mg base 1 f fd ["script", "k"] false F__law_cell :=
  fnG_of Fu sc__law_cell rfl (does_run _ _ _) fun cdv A outer s H hG hr =>
    (ess_cons (es_if (et2n x_lt o_cmp (nomark _) (pv 1) (ev_callBn o_len x_len z_len (by rfl) (by decide +kernel) (pv 0))) (ess_one (es_ret (dixnn hr (pv 0) (pv 1) (fun _ _ => rfl)))) ess_nil)
    (ess_one (es_ret ev_int)))
/-! ### _law_digits -/
abbrev s__law_digits : Stmt := topS 29
abbrev N__law_digits : List Str := ["script", "first", "last", "digits", "k", "cell", "place", "seed"]
theorem sc__law_digits : FnScope N__law_digits ["script", "first", "last"] (defScope s__law_digits) := ⟨rfl, rfl, rfl, by decide +kernel, rfl, by decide +kernel, by decide +kernel⟩
def L1__law_digits : Fs := (sIf (ofB (f2n gtD 5 (fC (.int 0)))) (sSeq (sApp 3 (f2 modD (f1n intD 5) (fC (.int 1000))))
    (sAsg (f2n fdivD 5 (fC (.int 1000))) (gDat 5))) sNil)
def L2__law_digits : Fs := (sSeq (sAsg (f2 modD (f1 intD (f2 addD (f2 addD (f2n mulD 7 (fC (.int 16807))) (f2m mulD (fC (.int 7)) 6)) (fC (.int 1)))) (fC (.int 2147483647))) (gDat 7))
    (sApp 3 (f2 modD (f1 intD (f2n fdivD 7 (fC (.int 997)))) (fC (.int 1000)))))
def L3__law_digits : Fs := (sSeq (sAsg (fCall 2 F__law_cell (aCons (fN 0) (aCons (fN 4) aNil))) (gDat 5))
    (sSeq (sIf (ofB (f2n ltD 5 (fC (.int 0)))) (sAsg (f2 subD (fC (.int 1)) (f2m mulD (fC (.int 2)) 5)) (gDat 5)) sNil)
    (sIf (ofB (f2n geD 5 (f2 powD (fC (.int 10)) (fC (.int 18))))) (sFor (wR1 (fC (.int 60))) (gDat 6) L1__law_digits) (sSeq (sAsg (f2 modD (f1 intD (f2 addD (f2 addD (f2n mulD 5 (fC (.int 48271))) (f2n mulD 4 (fC (.int 69621)))) (fC (.int 11)))) (fC (.int 2147483647))) (gDat 7))
    (sFor (wR1 (fC (.int 12))) (gDat 6) L2__law_digits)))))
def B__law_digits : Fs := (sSeq (sOwn 3 (lDisp aNil))
    (sSeq (sFor (wR2 (aCons (fN 1) (aCons (fN 2) aNil))) (gDat 4) L3__law_digits)
    (sRet (fN 3))))
def F__law_digits : Fun' := runF false 5 B__law_digits
theorem fn__law_digits {P : Program} {w : World} {K : PySem.W.Frag} {mg : Str → Option Value} {base : Heap} {f : Addr} {fd : FuncData} (Fu : Fun K "_law_digits" "_law_digits" s__law_digits f fd) (z_int : mg "int" = none) (z_range : mg "range" = none) (C__law_cell : Cal P w K mg base "_law_cell" 1 ["script", "k"] false F__law_cell) :
    FnG P w K mg base 2 f fd ["script", "first", "last"] false F__law_digits :=
  fnG_of Fu sc__law_digits rfl (does_run _ _ _) fun cdv A outer s H hG hr =>
    (ess_cons (es_own 3 sc__law_digits.nd rfl (by first | exact Or.inl rfl | exact Or.inr rfl) (el_disp ea_nil))
    (ess_cons (es_for PassesOwn.never rfl (ei_r2 z_range (by rfl) (ea_cons (ev_name 1) (ea_cons (ev_name 2) ea_nil))) (eg_name 4 sc__law_digits.nd rfl (by first | exact Or.inl rfl | exact Or.inr rfl)) (ess_cons (es_set 5 sc__law_digits.nd rfl (by first | exact Or.inl rfl | exact Or.inr rfl) (ev_call C__law_cell (hr.mono (by decide)) hG (by rfl) (ea_cons (ev_name 0) (ea_cons (ev_name 4) ea_nil))))
    (ess_cons (es_if (et2n x_lt o_cmp (nomark _) (pv 5) ev_int) (ess_one (es_set 5 sc__law_digits.nd rfl (by first | exact Or.inl rfl | exact Or.inr rfl) (ev2 op_sub o_sub ev_int (ev2m x_mul o_mul ev_int (pv 5))))) ess_nil)
    (ess_one (es_if (et2n x_ge o_cmp (nomark _) (pv 5) (ev2 op_pow o_pow ev_int ev_int)) (ess_one (es_for PassesOwn.never rfl (ei_r1 z_range (by rfl) ev_int) (eg_name 6 sc__law_digits.nd rfl (by first | exact Or.inl rfl | exact Or.inr rfl)) (ess_one (es_if (et2n x_gt o_cmp (nomark _) (pv 5) ev_int) (ess_cons (es_app 3 (pv 3) (ev2 op_mod o_mod (ev_callTn o_int call_int1 z_int (by rfl) (by decide +kernel) (pv 5)) ev_int))
    (ess_one (es_set 5 sc__law_digits.nd rfl (by first | exact Or.inl rfl | exact Or.inr rfl) (ev2n op_fdiv o_fdiv (pv 5) ev_int)))) ess_nil)))) (ess_cons (es_set 7 sc__law_digits.nd rfl (by first | exact Or.inl rfl | exact Or.inr rfl) (ev2 op_mod o_mod (ev_callT o_int call_int1 z_int (by rfl) (by decide +kernel) (ev2 x_add o_add (ev2 x_add o_add (ev2n x_mul o_mul (pv 5) ev_int) (ev2n x_mul o_mul (pv 4) ev_int)) ev_int)) ev_int))
    (ess_one (es_for PassesOwn.never rfl (ei_r1 z_range (by rfl) ev_int) (eg_name 6 sc__law_digits.nd rfl (by first | exact Or.inl rfl | exact Or.inr rfl)) (ess_cons (es_set 7 sc__law_digits.nd rfl (by first | exact Or.inl rfl | exact Or.inr rfl) (ev2 op_mod o_mod (ev_callT o_int call_int1 z_int (by rfl) (by decide +kernel) (ev2 x_add o_add (ev2 x_add o_add (ev2n x_mul o_mul (pv 7) ev_int) (ev2m x_mul o_mul ev_int (pv 6))) ev_int)) ev_int))
    (ess_one (es_app 3 (pv 3) (ev2 op_mod o_mod (ev_callT o_int call_int1 z_int (by rfl) (by decide +kernel) (ev2n op_fdiv o_fdiv (pv 7) ev_int)) ev_int))))))))))))
    (ess_one (es_ret (ev_name 3)))))
/-! ### _law_passes -/
abbrev s__law_passes : Stmt := topS 44
abbrev N__law_passes : List Str := ["kind", "rows"]
theorem sc__law_passes : FnScope N__law_passes ["kind"] (defScope s__law_passes) := ⟨rfl, rfl, rfl, by decide +kernel, rfl, by decide +kernel, by decide +kernel⟩
def B__law_passes : Fs := (sSeq (sTxt 1 [("P", (fL (lDisp (aCons (fTup (aCons (fC (.int 0)) (aCons (fC (.int 1)) aNil))) (aCons (fTup (aCons (fC (.int 0)) (aCons (fC (.int 2)) aNil))) (aCons (fTup (aCons (fC (.int 1)) (aCons (fC (.int 0)) aNil))) (aCons (fTup (aCons (fC (.int 2)) (aCons (fC (.int 0)) aNil))) aNil))))))), ("X", (fL (lDisp (aCons (fTup (aCons (fC (.int 0)) (aCons (fC (.int 1)) aNil))) (aCons (fTup (aCons (fC (.int 1)) (aCons (fC (.int 0)) aNil))) (aCons (fTup (aCons (fC (.int 2)) (aCons (fC (.int 3)) aNil))) (aCons (fTup (aCons (fC (.int 3)) (aCons (fC (.int 2)) aNil))) aNil)))))))])
    (sSeq (sTxtPut 1 "Q" (fTxt 1 (fC (.str "P"))))
    (sRet (fTxtGet 1 (fN 0) (fL (lDisp (aCons (fTup (aCons (fC (.int 0)) (aCons (fC (.int 1)) aNil))) (aCons (fTup (aCons (fC (.int 1)) (aCons (fC (.int 0)) aNil))) aNil))))))))
def F__law_passes : Fun' := runF false 1 B__law_passes
theorem fn__law_passes {P : Program} {w : World} {K : PySem.W.Frag} {mg : Str → Option Value} {base : Heap} {f : Addr} {fd : FuncData} (Fu : Fun K "_law_passes" "_law_passes" s__law_passes f fd)   :
    FnG P w K mg base 1 f fd ["kind"] false F__law_passes :=
  fnG_of Fu sc__law_passes rfl (does_run _ _ _) fun cdv A outer s H hG hr =>
    (ess_cons (es_txt 1 (fs := [("P", (fL (lDisp (aCons (fTup (aCons (fC (.int 0)) (aCons (fC (.int 1)) aNil))) (aCons (fTup (aCons (fC (.int 0)) (aCons (fC (.int 2)) aNil))) (aCons (fTup (aCons (fC (.int 1)) (aCons (fC (.int 0)) aNil))) (aCons (fTup (aCons (fC (.int 2)) (aCons (fC (.int 0)) aNil))) aNil))))))), ("X", (fL (lDisp (aCons (fTup (aCons (fC (.int 0)) (aCons (fC (.int 1)) aNil))) (aCons (fTup (aCons (fC (.int 1)) (aCons (fC (.int 0)) aNil))) (aCons (fTup (aCons (fC (.int 2)) (aCons (fC (.int 3)) aNil))) (aCons (fTup (aCons (fC (.int 3)) (aCons (fC (.int 2)) aNil))) aNil)))))))]) sc__law_passes.nd rfl (by first | exact Or.inl rfl | exact Or.inr rfl) (pps_cons pe_str (ev_L (el_disp (ea_cons (ev_tup (ea_cons ev_int (ea_cons ev_int ea_nil))) (ea_cons (ev_tup (ea_cons ev_int (ea_cons ev_int ea_nil))) (ea_cons (ev_tup (ea_cons ev_int (ea_cons ev_int ea_nil))) (ea_cons (ev_tup (ea_cons ev_int (ea_cons ev_int ea_nil))) ea_nil)))))) (pps_cons pe_str (ev_L (el_disp (ea_cons (ev_tup (ea_cons ev_int (ea_cons ev_int ea_nil))) (ea_cons (ev_tup (ea_cons ev_int (ea_cons ev_int ea_nil))) (ea_cons (ev_tup (ea_cons ev_int (ea_cons ev_int ea_nil))) (ea_cons (ev_tup (ea_cons ev_int (ea_cons ev_int ea_nil))) ea_nil)))))) pps_nil)) rfl rfl (by decide) (by decide))
    (ess_cons (es_txtPut 1 hr.units (ev_txt hr.units (pv 1) ev_str (fun _ _ => rfl)) (pv 1))
    (ess_one (es_ret (ev_txtGet hr.units (pv 1) (ev_name 0) (ev_L (el_disp (ea_cons (ev_tup (ea_cons ev_int (ea_cons ev_int ea_nil))) (ea_cons (ev_tup (ea_cons ev_int (ea_cons ev_int ea_nil))) ea_nil)))) ⟨rfl, rfl, rfl, rfl⟩)))))
/-! ### _law_trains -/
abbrev s__law_trains : Stmt := topS 45
abbrev N__law_trains : List Str := ["layout", "found", "k", "one", "two"]
theorem sc__law_trains : FnScope N__law_trains ["layout"] (defScope s__law_trains) := ⟨rfl, rfl, rfl, by decide +kernel, rfl, by decide +kernel, by decide +kernel⟩
def E1__law_trains : Fe := (fTup (aCons (f1n intD 2) (aCons (fN 3) (aCons (fN 4) aNil))))
def L2__law_trains : Fs := (sIf (ofB (f2 notNd (f2nn ixX 0 2) (fC .none))) (sAsg (f2n addD 1 (fL (lLc [3, 4] (gTp 2 (gsCons (gDat 3) (gsCons (gDat 4) gsNo))) (wOf (fCall 1 F__law_passes (aCons (f2 ixX (f2nn ixX 0 2) (fC (.int 0))) aNil))) tYe E1__law_trains))) (gDat 1)) sNil)
def B__law_trains : Fs := (sSeq (sAsg (fL (lDisp aNil)) (gDat 1))
    (sSeq (sFor (wR1 (f1n lenD 0)) (gDat 2) L2__law_trains)
    (sRet (fN 1))))
def F__law_trains : Fun' := runF false 4 B__law_trains
theorem fn__law_trains {P : Program} {w : World} {K : PySem.W.Frag} {mg : Str → Option Value} {base : Heap} {f : Addr} {fd : FuncData} (Fu : Fun K "_law_trains" "_law_trains" s__law_trains f fd) (z_int : mg "int" = none) (z_len : mg "len" = none) (z_range : mg "range" = none) (C__law_passes : Cal P w K mg base "_law_passes" 1 ["kind"] false F__law_passes) :
    FnG P w K mg base 2 f fd ["layout"] false F__law_trains :=
  fnG_of Fu sc__law_trains rfl (does_run _ _ _) fun cdv A outer s H hG hr =>
    (ess_cons (es_set 1 sc__law_trains.nd rfl (by first | exact Or.inl rfl | exact Or.inr rfl) (ev_L (el_disp ea_nil)))
    (ess_cons (es_for PassesOwn.never rfl (ei_r1 z_range (by rfl) (ev_callBn o_len x_len z_len (by rfl) (by decide +kernel) (pv 0))) (eg_name 2 sc__law_trains.nd rfl (by first | exact Or.inl rfl | exact Or.inr rfl)) (ess_one (es_if (et2 op_notN o_notN (nomark _) (dixnn hr (pv 0) (pv 2) (fun _ _ => rfl)) ev_non) (ess_one (es_set 1 sc__law_trains.nd rfl (by first | exact Or.inl rfl | exact Or.inr rfl) (ev2n x_add o_add (pv 1) (ev_L (el_lc (js := [3, 4]) rfl (tg_pair 3 4) rfl sc__law_trains.nd (ei_seq (ev_call C__law_passes (hr.mono (by decide)) hG (by rfl) (ea_cons (dix hr (dixnn hr (pv 0) (pv 2) (fun _ _ => rfl)) ev_int (fun _ _ => rfl)) ea_nil))) (blkOk_by (own := [("one", 3), ("two", 4)]) (N := N__law_trains) (sc := defScope s__law_trains) (by decide +kernel)) (fun _ _ _ _ _ => pg_tup rfl (pgs_cons (pg_name (i := 3) sc__law_trains.nd rfl (Or.inl rfl)) (pgs_cons (pg_name (i := 4) sc__law_trains.nd rfl (Or.inl rfl)) pgs_nil))) (fun _ _ _ _ _ => ets_nil) (fun _ _ _ _ _ => (ev_tup (ea_cons (ev_callTn o_int call_int1 z_int (by rfl) (by decide +kernel) (pv 2)) (ea_cons (ev_name 3) (ea_cons (ev_name 4) ea_nil)))))))))) ess_nil)))
    (ess_one (es_ret (ev_name 1)))))
/-! ### _law_turnouts -/
abbrev s__law_turnouts : Stmt := topS 46
abbrev N__law_turnouts : List Str := ["layout", "k"]
theorem sc__law_turnouts : FnScope N__law_turnouts ["layout"] (defScope s__law_turnouts) := ⟨rfl, rfl, rfl, by decide +kernel, rfl, by decide +kernel, by decide +kernel⟩
def E1__law_turnouts : Fe := (f1n intD 1)
def B__law_turnouts : Fs := (sRet (fL (lLc [1] (gDat 1) (wR1 (f1n lenD 0)) (cAnd (ofB (f2 notNd (f2nn ixX 0 1) (fC .none))) (ofB (f2 inX (f2 ixX (f2nn ixX 0 1) (fC (.int 0))) (fTup (aCons (fC (.str "P")) (aCons (fC (.str "Q")) aNil)))))) E1__law_turnouts)))
def F__law_turnouts : Fun' := runF false 1 B__law_turnouts
theorem fn__law_turnouts {P : Program} {w : World} {K : PySem.W.Frag} {mg : Str → Option Value} {base : Heap} {f : Addr} {fd : FuncData} (Fu : Fun K "_law_turnouts" "_law_turnouts" s__law_turnouts f fd) (z_int : mg "int" = none) (z_len : mg "len" = none) (z_range : mg "range" = none)  :
    FnG P w K mg base 1 f fd ["layout"] false F__law_turnouts :=
  fnG_of Fu sc__law_turnouts rfl (does_run _ _ _) fun cdv A outer s H hG hr =>
    (ess_one (es_ret (ev_L (el_lc (js := [1]) rfl (tg_name 1) rfl sc__law_turnouts.nd (ei_r1 z_range (by rfl) (ev_callBn o_len x_len z_len (by rfl) (by decide +kernel) (pv 0))) (blkOk_by (own := [("k", 1)]) (N := N__law_turnouts) (sc := defScope s__law_turnouts) (by decide +kernel)) (fun _ _ _ _ _ => pg_name (i := 1) sc__law_turnouts.nd rfl (Or.inl rfl)) (fun _ _ _ _ _ => (ets_one (et_w (ew_and (et2 op_notN o_notN (nomark _) (dixnn hr (pv 0) (pv 1) (fun _ _ => rfl)) ev_non) (ew_and1 (et2 (x_inX hr) o_inX (by rfl) (dix hr (dixnn hr (pv 0) (pv 1) (fun _ _ => rfl)) ev_int (fun _ _ => rfl)) (ev_tup (ea_cons ev_str (ea_cons ev_str ea_nil))))))))) (fun _ _ _ _ _ => (ev_callTn o_int call_int1 z_int (by rfl) (by decide +kernel) (pv 1)))))))
/-! ### _law_thrown -/
abbrev s__law_thrown : Stmt := topS 47
abbrev N__law_thrown : List Str := ["box", "layout", "k"]
theorem sc__law_thrown : FnScope N__law_thrown ["box", "layout"] (defScope s__law_thrown) := ⟨rfl, rfl, rfl, by decide +kernel, rfl, by decide +kernel, by decide +kernel⟩
def E1__law_thrown : Fe := (fN 2)
def B__law_thrown : Fs := (sRet (f1 tupleD (fL (lLc [2] (gDat 2) (wOf (fCall 1 F__law_turnouts (aCons (fN 1) aNil))) (ofB (f2 eqD (fCallB 2 F__law_draw 0 (aCons (fC (.int 2)) aNil)) (fC (.int 0)))) E1__law_thrown))))
def F__law_thrown : Fun' := runF true 1 B__law_thrown
theorem fn__law_thrown {P : Program} {w : World} {K : PySem.W.Frag} {mg : Str → Option Value} {base : Heap} {f : Addr} {fd : FuncData} (Fu : Fun K "_law_thrown" "_law_thrown" s__law_thrown f fd) (z_tuple : mg "tuple" = none) (C__law_turnouts : Cal P w K mg base "_law_turnouts" 1 ["layout"] false F__law_turnouts) (C__law_draw : Cal P w K mg base "_law_draw" 1 ["box", "many"] true F__law_draw) :
    FnG P w K mg base 2 f fd ["box", "layout"] true F__law_thrown :=
  fnG_of Fu sc__law_thrown rfl (does_run _ _ _) fun cdv A outer s H hG hr =>
    (ess_one (es_ret (ev_callT o_tuple call_tuple_of z_tuple (by rfl) (by decide +kernel) (ev_L (el_lc (js := [2]) rfl (tg_name 2) rfl sc__law_thrown.nd (ei_seq (ev_call C__law_turnouts (hr.mono (by decide)) hG (by rfl) (ea_cons (ev_name 1) ea_nil))) (blkOk_by (own := [("k", 2)]) (N := N__law_thrown) (sc := defScope s__law_thrown) (by decide +kernel)) (fun _ _ _ _ _ => pg_name (i := 2) sc__law_thrown.nd rfl (Or.inl rfl)) (fun _ _ _ _ _ => (ets_one (et2 (x_eq hr.units) o_eq (nomark _) (ev_callO 0 C__law_draw (hr.mono (by decide)) hG (by rfl) (pv 0) (ea_cons ev_int ea_nil)) ev_int))) (fun _ _ _ _ _ => (ev_name 2)))))))
/-! ### _law_train -/
abbrev s__law_train : Stmt := topS 48
abbrev N__law_train : List Str := ["box", "layout", "trains"]
theorem sc__law_train : FnScope N__law_train ["box", "layout"] (defScope s__law_train) := ⟨rfl, rfl, rfl, by decide +kernel, rfl, by decide +kernel, by decide +kernel⟩
def B__law_train : Fs := (sSeq (sAsg (fCall 1 F__law_trains (aCons (fN 1) aNil)) (gDat 2))
    (sRet (f2n ixX 2 (f2 modD (f1 intD (fCallB 2 F__law_draw 0 (aCons (fC (.int 900)) aNil))) (f1n lenD 2)))))
def F__law_train : Fun' := runF true 1 B__law_train
theorem fn__law_train {P : Program} {w : World} {K : PySem.W.Frag} {mg : Str → Option Value} {base : Heap} {f : Addr} {fd : FuncData} (Fu : Fun K "_law_train" "_law_train" s__law_train f fd) (z_int : mg "int" = none) (z_len : mg "len" = none) (C__law_trains : Cal P w K mg base "_law_trains" 2 ["layout"] false F__law_trains) (C__law_draw : Cal P w K mg base "_law_draw" 1 ["box", "many"] true F__law_draw) :
    FnG P w K mg base 3 f fd ["box", "layout"] true F__law_train :=
  fnG_of Fu sc__law_train rfl (does_run _ _ _) fun cdv A outer s H hG hr =>
    (ess_cons (es_set 2 sc__law_train.nd rfl (by first | exact Or.inl rfl | exact Or.inr rfl) (ev_call C__law_trains (hr.mono (by decide)) hG (by rfl) (ea_cons (ev_name 1) ea_nil)))
    (ess_one (es_ret (dixn hr (pv 2) (ev2 op_mod o_mod (ev_callT o_int call_int1 z_int (by rfl) (by decide +kernel) (ev_callO 0 C__law_draw (hr.mono (by decide)) hG (by rfl) (pv 0) (ea_cons ev_int ea_nil))) (ev_callBn o_len x_len z_len (by rfl) (by decide +kernel) (pv 2))) (fun _ _ => rfl)))))
/-! ### turnouts_in -/
abbrev s_turnouts_in : Stmt := topS 20
abbrev N_turnouts_in : List Str := ["layout", "number", "piece"]
theorem sc_turnouts_in : FnScope N_turnouts_in ["layout"] (defScope s_turnouts_in) := ⟨rfl, rfl, rfl, by decide +kernel, rfl, by decide +kernel, by decide +kernel⟩
def E1_turnouts_in : Fe := (fN 1)
def B_turnouts_in : Fs := (sRet (fL (lLc [1, 2] (gTp 2 (gsCons (gDat 1) (gsCons (gDat 2) gsNo))) (wEnum (fN 0)) (cAnd (ofB (f2n notNd 2 (fC .none))) (ofB (f2 inSD (f2n ixX 2 (fC (.int 0))) (fC (.str "PQ"))))) E1_turnouts_in)))
def F_turnouts_in : Fun' := runF false 2 B_turnouts_in
theorem fn_turnouts_in {P : Program} {w : World} {K : PySem.W.Frag} {mg : Str → Option Value} {base : Heap} {f : Addr} {fd : FuncData} (Fu : Fun K "turnouts_in" "turnouts_in" s_turnouts_in f fd) (z_enumerate : mg "enumerate" = none)  :
    FnG P w K mg base 1 f fd ["layout"] false F_turnouts_in :=
  fnG_of Fu sc_turnouts_in rfl (does_run _ _ _) fun cdv A outer s H hG hr =>
    (ess_one (es_ret (ev_L (el_lc (js := [1, 2]) rfl (tg_pair 1 2) rfl sc_turnouts_in.nd (ei_enum z_enumerate (by rfl) (ev_name 0)) (blkOk_by (own := [("number", 1), ("piece", 2)]) (N := N_turnouts_in) (sc := defScope s_turnouts_in) (by decide +kernel)) (fun _ _ _ _ _ => pg_tup rfl (pgs_cons (pg_name (i := 1) sc_turnouts_in.nd rfl (Or.inl rfl)) (pgs_cons (pg_name (i := 2) sc_turnouts_in.nd rfl (Or.inl rfl)) pgs_nil))) (fun _ _ _ _ _ => (ets_one (et_w (ew_and (et2n op_notN o_notN (nomark _) (pv 2) ev_non) (ew_and1 (et2 op_in_str o_inS (by rfl) (dixn hr (pv 2) ev_int (fun _ _ => rfl)) ev_str)))))) (fun _ _ _ _ _ => (ev_name 1))))))
/-! ### refuse_no_turnouts -/
abbrev s_refuse_no_turnouts : Stmt := topS 24
abbrev N_refuse_no_turnouts : List Str := ["layout", "thrown", "number"]
theorem sc_refuse_no_turnouts : FnScope N_refuse_no_turnouts ["layout", "thrown"] (defScope s_refuse_no_turnouts) := ⟨rfl, rfl, rfl, by decide +kernel, rfl, by decide +kernel, by decide +kernel⟩
def E1_refuse_no_turnouts : Fe := (fN 2)
def B_refuse_no_turnouts : Fs := (sIf (ofB (f2n neD 1 (f1 tupleD (fL (lLc [2] (gDat 2) (wOf (fCall 1 F_turnouts_in (aCons (fN 0) aNil))) (ofB (f2nn inX 2 1)) E1_refuse_no_turnouts))))) sNone sNil)
def F_refuse_no_turnouts : Fun' := runF false 1 B_refuse_no_turnouts
theorem fn_refuse_no_turnouts {P : Program} {w : World} {K : PySem.W.Frag} {mg : Str → Option Value} {base : Heap} {f : Addr} {fd : FuncData} (Fu : Fun K "refuse_no_turnouts" "refuse_no_turnouts" s_refuse_no_turnouts f fd) (z_tuple : mg "tuple" = none) (C_turnouts_in : Cal P w K mg base "turnouts_in" 1 ["layout"] false F_turnouts_in) :
    FnG P w K mg base 2 f fd ["layout", "thrown"] false F_refuse_no_turnouts :=
  fnG_of Fu sc_refuse_no_turnouts rfl (does_run _ _ _) fun cdv A outer s H hG hr =>
    (ess_one (es_if (et2n (x_ne hr.units) o_ne (nomark _) (pv 1) (ev_callT o_tuple call_tuple_of z_tuple (by rfl) (by decide +kernel) (ev_L (el_lc (js := [2]) rfl (tg_name 2) rfl sc_refuse_no_turnouts.nd (ei_seq (ev_call C_turnouts_in (hr.mono (by decide)) hG (by rfl) (ea_cons (ev_name 0) ea_nil))) (blkOk_by (own := [("number", 2)]) (N := N_refuse_no_turnouts) (sc := defScope s_refuse_no_turnouts) (by decide +kernel)) (fun _ _ _ _ _ => pg_name (i := 2) sc_refuse_no_turnouts.nd rfl (Or.inl rfl)) (fun _ _ _ _ _ => (ets_one (et2nn (x_inX hr) o_inX (by rfl) (pv 2) (pv 1)))) (fun _ _ _ _ _ => (ev_name 2)))))) (ess_one es_raise) ess_nil))
/-! ### refuse_no_train -/
abbrev s_refuse_no_train : Stmt := topS 25
abbrev N_refuse_no_train : List Str := ["table", "train"]
theorem sc_refuse_no_train : FnScope N_refuse_no_train ["table", "train"] (defScope s_refuse_no_train) := ⟨rfl, rfl, rfl, by decide +kernel, rfl, by decide +kernel, by decide +kernel⟩
def B_refuse_no_train : Fs := (sIf (ofB (f2nn notInX 1 0)) sNone sNil)
def F_refuse_no_train : Fun' := runF false 0 B_refuse_no_train
theorem fn_refuse_no_train {P : Program} {w : World} {K : PySem.W.Frag} {mg : Str → Option Value} {base : Heap} {f : Addr} {fd : FuncData} (Fu : Fun K "refuse_no_train" "refuse_no_train" s_refuse_no_train f fd)   :
    FnG P w K mg base 1 f fd ["table", "train"] false F_refuse_no_train :=
  fnG_of Fu sc_refuse_no_train rfl (does_run _ _ _) fun cdv A outer s H hG hr =>
    (ess_one (es_if (et2nn (x_notInX hr) o_notInX (by rfl) (pv 1) (pv 0)) (ess_one es_raise) ess_nil))
def c_PASSES : List (Str × D) := [("S", (.tuple [(.tuple [.int 0, .int 1]), (.tuple [.int 1, .int 0])])), ("H", (.tuple [(.tuple [.int 0, .int 1]), (.tuple [.int 1, .int 0])])), ("C", (.tuple [(.tuple [.int 0, .int 1]), (.tuple [.int 1, .int 0])])), ("P", (.tuple [(.tuple [.int 0, .int 1]), (.tuple [.int 0, .int 2]), (.tuple [.int 1, .int 0]), (.tuple [.int 2, .int 0])])), ("Q", (.tuple [(.tuple [.int 0, .int 1]), (.tuple [.int 0, .int 2]), (.tuple [.int 1, .int 0]), (.tuple [.int 2, .int 0])])), ("X", (.tuple [(.tuple [.int 0, .int 1]), (.tuple [.int 1, .int 0]), (.tuple [.int 2, .int 3]), (.tuple [.int 3, .int 2])]))]
/-! ### trains_of -/
abbrev s_trains_of : Stmt := topS 16
abbrev N_trains_of : List Str := ["layout", "placed", "number", "piece", "kind", "entry", "leaving"]
theorem sc_trains_of : FnScope N_trains_of ["layout"] (defScope s_trains_of) := ⟨rfl, rfl, rfl, by decide +kernel, rfl, by decide +kernel, by decide +kernel⟩
def E1_trains_of : Fe := (fTup (aCons (fN 2) (aCons (f2n ixX 3 (fC (.int 0))) aNil)))
def W2_trains_of : Fa := (wOf (f1 (tabD c_PASSES) (fN 4)))
def E3_trains_of : Fe := (fTup (aCons (fN 2) (aCons (fN 5) (aCons (fN 6) aNil))))
def B_trains_of : Fs := (sSeq (sAsg (fL (lLc [2, 3] (gTp 2 (gsCons (gDat 2) (gsCons (gDat 3) gsNo))) (wEnum (fN 0)) (ofB (f2n notNd 3 (fC .none))) E1_trains_of)) (gDat 1))
    (sRet (f1 tupleD (fL (lLc2 [2, 4, 5, 6] (gTp 2 (gsCons (gDat 2) (gsCons (gDat 4) gsNo))) (wOf (fN 1)) tYe W2_trains_of [5, 6] (gTp 2 (gsCons (gDat 5) (gsCons (gDat 6) gsNo))) tYe E3_trains_of)))))
def F_trains_of : Fun' := runF false 6 B_trains_of
theorem fn_trains_of {P : Program} {w : World} {K : PySem.W.Frag} {mg : Str → Option Value} {base : Heap} {f : Addr} {fd : FuncData} (Fu : Fun K "trains_of" "trains_of" s_trains_of f fd) (z_enumerate : mg "enumerate" = none) (z_tuple : mg "tuple" = none) {u_PASSES : Value} (V_PASSES : Tab K w u_PASSES c_PASSES) (g_PASSES : mg "PASSES" = some u_PASSES)  :
    FnG P w K mg base 1 f fd ["layout"] false F_trains_of :=
  fnG_of Fu sc_trains_of rfl (does_run _ _ _) fun cdv A outer s H hG hr =>
    (ess_cons (es_lcDat 1 (js := [2, 3]) rfl (tg_pair 2 3) rfl sc_trains_of.nd rfl rfl (sw_true rfl rfl rfl (by decide +kernel)) (ei_enum z_enumerate (by rfl) (ev_name 0)) (blkOk_by (own := [("number", 2), ("piece", 3)]) (N := N_trains_of) (sc := defScope s_trains_of) (by decide +kernel)) (fun _ _ _ _ _ => pg_tup rfl (pgs_cons (pg_name (i := 2) sc_trains_of.nd rfl (Or.inl rfl)) (pgs_cons (pg_name (i := 3) sc_trains_of.nd rfl (Or.inl rfl)) pgs_nil))) (fun _ _ _ _ _ => (ets_one (et2n op_notN o_notN (nomark _) (pv 3) ev_non))) (fun _ _ _ _ _ => (ev_tup (ea_cons (ev_name 2) (ea_cons (dixn hr (pv 3) ev_int (fun _ _ => rfl)) ea_nil)))))
    (ess_one (es_ret (ev_callT o_tuple call_tuple_of z_tuple (by rfl) (by decide +kernel) (ev_L (el_lc2 (js := [2, 4, 5, 6]) (js1 := [5, 6]) rfl (by decide) (tg_t (tgs_cons (tg_n 2 (by decide)) (tgs_cons (tg_n 4 (by decide)) tgs_nil))) (tg_t (tgs_cons (tg_n 5 (by decide)) (tgs_cons (tg_n 6 (by decide)) tgs_nil))) rfl sc_trains_of.nd (ei_seq (ev_name 1)) (blkOk_by (own := [("number", 2), ("kind", 4), ("entry", 5), ("leaving", 6)]) (N := N_trains_of) (sc := defScope s_trains_of) (by decide +kernel)) (fun _ _ _ _ _ => (pg_tup rfl (pgs_cons (pg_name (i := 2) sc_trains_of.nd rfl (Or.inl rfl)) (pgs_cons (pg_name (i := 4) sc_trains_of.nd rfl (Or.inl rfl)) pgs_nil)))) (fun _ _ _ _ _ => ets_nil) (fun _ _ _ _ _ => (ei_seq (ev_tab V_PASSES g_PASSES (by rfl) (ev_name 4) (fun _ _ => rfl)))) (fun _ _ _ _ _ => (pg_tup rfl (pgs_cons (pg_name (i := 5) sc_trains_of.nd rfl (Or.inl rfl)) (pgs_cons (pg_name (i := 6) sc_trains_of.nd rfl (Or.inl rfl)) pgs_nil)))) (fun _ _ _ _ _ => ets_nil) (fun _ _ _ _ _ => (ev_tup (ea_cons (ev_name 2) (ea_cons (ev_name 5) (ea_cons (ev_name 6) ea_nil)))))))))))
/-! ### _refuse_wrong -/
abbrev s__refuse_wrong : Stmt := topS 26
abbrev N__refuse_wrong : List Str := ["layout", "thrown", "train"]
theorem sc__refuse_wrong : FnScope N__refuse_wrong ["layout", "thrown", "train"] (defScope s__refuse_wrong) := ⟨rfl, rfl, rfl, by decide +kernel, rfl, by decide +kernel, by decide +kernel⟩
def B__refuse_wrong : Fs := (sSeq (sDrop (fCall 2 F_refuse_no_turnouts (aCons (fN 0) (aCons (fN 1) aNil))))
    (sDrop (fCall 2 F_refuse_no_train (aCons (fCall 1 F_trains_of (aCons (fN 0) aNil)) (aCons (fN 2) aNil)))))
def F__refuse_wrong : Fun' := runF false 0 B__refuse_wrong
theorem fn__refuse_wrong {P : Program} {w : World} {K : PySem.W.Frag} {mg : Str → Option Value} {base : Heap} {f : Addr} {fd : FuncData} (Fu : Fun K "_refuse_wrong" "_refuse_wrong" s__refuse_wrong f fd)  (C_refuse_no_turnouts : Cal P w K mg base "refuse_no_turnouts" 2 ["layout", "thrown"] false F_refuse_no_turnouts) (C_refuse_no_train : Cal P w K mg base "refuse_no_train" 1 ["table", "train"] false F_refuse_no_train) (C_trains_of : Cal P w K mg base "trains_of" 1 ["layout"] false F_trains_of) :
    FnG P w K mg base 3 f fd ["layout", "thrown", "train"] false F__refuse_wrong :=
  fnG_of Fu sc__refuse_wrong rfl (does_run _ _ _) fun cdv A outer s H hG hr =>
    (ess_cons (es_expr (ev_call C_refuse_no_turnouts (hr.mono (by decide)) hG (by rfl) (ea_cons (ev_name 0) (ea_cons (ev_name 1) ea_nil))))
    (ess_one (es_expr (ev_call C_refuse_no_train (hr.mono (by decide)) hG (by rfl) (ea_cons (ev_call C_trains_of (hr.mono (by decide)) hG (by rfl) (ea_cons (ev_name 0) ea_nil)) (ea_cons (ev_name 2) ea_nil))))))
/-! ### step_in -/
abbrev s_step_in : Stmt := topS 22
abbrev N_step_in : List Str := ["table", "thrown", "train", "steps"]
theorem sc_step_in : FnScope N_step_in ["table", "thrown", "train"] (defScope s_step_in) := ⟨rfl, rfl, rfl, by decide +kernel, rfl, by decide +kernel, by decide +kernel⟩
def B_step_in : Fs := (sSeq (sAsg (f2nn ixX 0 2) (gDat 3))
    (sSeq (sIf (cNot (cTrun 3)) (sRet (fC .none)) sNil)
    (sRet (fIf (ofB (f2m inX (f2 ixX (f2n ixX 3 (fC (.int 0))) (fC (.int 0))) 1)) (f2n ixX 3 (fNeg (fC (.int 1)))) (f2n ixX 3 (fC (.int 0)))))))
def F_step_in : Fun' := runF false 1 B_step_in
theorem fn_step_in {P : Program} {w : World} {K : PySem.W.Frag} {mg : Str → Option Value} {base : Heap} {f : Addr} {fd : FuncData} (Fu : Fun K "step_in" "step_in" s_step_in f fd)   :
    FnG P w K mg base 1 f fd ["table", "thrown", "train"] false F_step_in :=
  fnG_of Fu sc_step_in rfl (does_run _ _ _) fun cdv A outer s H hG hr =>
    (ess_cons (es_set 3 sc_step_in.nd rfl (by first | exact Or.inl rfl | exact Or.inr rfl) (dixnn hr (pv 0) (pv 2) (fun _ _ => rfl)))
    (ess_cons (es_if (et_not (et_trun (pv 3))) (ess_one (es_ret ev_non)) ess_nil)
    (ess_one (es_ret (ev_if (et2m (x_inX hr) o_inX (by rfl) (dix hr (dixn hr (pv 3) ev_int (fun _ _ => rfl)) ev_int (fun _ _ => rfl)) (pv 1)) (dixn hr (pv 3) (ev_neg ev_int) (fun _ _ => rfl)) (dixn hr (pv 3) ev_int (fun _ _ => rfl)))))))
/-! ### way_in -/
abbrev s_way_in : Stmt := topS 23
abbrev N_way_in : List Str := ["table", "thrown", "train", "way", "here"]
theorem sc_way_in : FnScope N_way_in ["table", "thrown", "train"] (defScope s_way_in) := ⟨rfl, rfl, rfl, by decide +kernel, rfl, by decide +kernel, by decide +kernel⟩
def L1_way_in : Fs := (sSeq (sDicPut 3 (fC (.bool true)) (fN 4))
    (sAsg (fCall 3 F_step_in (aCons (fN 0) (aCons (fN 1) (aCons (fN 4) aNil)))) (gDat 4)))
def B_way_in : Fs := (sSeq (sDicNew 3)
    (sSeq (sAsg (fN 2) (gDat 4))
    (sSeq (whileF (cAnd (ofB (f2n notNd 4 (fC .none))) (ofB (f2nn notInX 4 3))) L1_way_in 1000000)
    (sRet (fTup (aCons (fL (lKeysn 3)) (aCons (fN 4) aNil)))))))
def F_way_in : Fun' := runF false 2 B_way_in
theorem fn_way_in {P : Program} {w : World} {K : PySem.W.Frag} {mg : Str → Option Value} {base : Heap} {f : Addr} {fd : FuncData} (Fu : Fun K "way_in" "way_in" s_way_in f fd) (z_list : mg "list" = none) (C_step_in : Cal P w K mg base "step_in" 1 ["table", "thrown", "train"] false F_step_in) :
    FnG P w K mg base 2 f fd ["table", "thrown", "train"] false F_way_in :=
  fnG_of Fu sc_way_in rfl (does_run _ _ _) fun cdv A outer s H hG hr =>
    (ess_cons (es_dicNew 3 sc_way_in.nd rfl (by first | exact Or.inl rfl | exact Or.inr rfl))
    (ess_cons (es_set 4 sc_way_in.nd rfl (by first | exact Or.inl rfl | exact Or.inr rfl) (ev_name 2))
    (ess_cons (es_while 1000000 PassesOwn.never (et_w (ew_and (et2n op_notN o_notN (nomark _) (pv 4) ev_non) (ew_and1 (et2nn (x_notInX hr) o_notInX (by rfl) (pv 4) (pv 3))))) (ess_cons (es_dicPut 3 hr ev_bl (pv 3) (ev_name 4))
    (ess_one (es_set 4 sc_way_in.nd rfl (by first | exact Or.inl rfl | exact Or.inr rfl) (ev_call C_step_in (hr.mono (by decide)) hG (by rfl) (ea_cons (ev_name 0) (ea_cons (ev_name 1) (ea_cons (ev_name 4) ea_nil))))))))
    (ess_one (es_ret (ev_tup (ea_cons (ev_L (el_keysn rfl z_list (by rfl) (pv 3))) (ea_cons (ev_name 4) ea_nil))))))))
/-! ### back -/
abbrev s_back : Stmt := topS 7
abbrev N_back : List Str := ["pose"]
theorem sc_back : FnScope N_back ["pose"] (defScope s_back) := ⟨rfl, rfl, rfl, by decide +kernel, rfl, by decide +kernel, by decide +kernel⟩
def B_back : Fs := (sRet (f2 addD (fSln 0 pNo (pOf (fC (.int 4)))) (fTup (aCons (f2 modD (f2 addD (f2n ixX 0 (fC (.int 4))) (fC (.int 4))) (fC (.int 8))) aNil))))
def F_back : Fun' := runF false 0 B_back
theorem fn_back {P : Program} {w : World} {K : PySem.W.Frag} {mg : Str → Option Value} {base : Heap} {f : Addr} {fd : FuncData} (Fu : Fun K "back" "back" s_back f fd)   :
    FnG P w K mg base 1 f fd ["pose"] false F_back :=
  fnG_of Fu sc_back rfl (does_run _ _ _) fun cdv A outer s H hG hr =>
    (ess_one (es_ret (ev2 x_add o_add (ev_sln (pv 0) ep_no (ep_of ev_int)) (ev_tup (ea_cons (ev2 op_mod o_mod (ev2 x_add o_add (dixn hr (pv 0) ev_int (fun _ _ => rfl)) ev_int) ev_int) ea_nil)))))
/-! ### moved -/
abbrev s_moved : Stmt := topS 4
abbrev N_moved : List Str := ["position", "other", "one", "more"]
theorem sc_moved : FnScope N_moved ["position", "other"] (defScope s_moved) := ⟨rfl, rfl, rfl, by decide +kernel, rfl, by decide +kernel, by decide +kernel⟩
def E1_moved : Fe := (f2nn addD 2 3)
def B_moved : Fs := (sRet (f1 tupleD (fL (lLc [2, 3] (gTp 2 (gsCons (gDat 2) (gsCons (gDat 3) gsNo))) (wZip (aCons (fN 0) (aCons (fN 1) aNil))) tYe E1_moved))))
def F_moved : Fun' := runF false 2 B_moved
theorem fn_moved {P : Program} {w : World} {K : PySem.W.Frag} {mg : Str → Option Value} {base : Heap} {f : Addr} {fd : FuncData} (Fu : Fun K "moved" "moved" s_moved f fd) (z_tuple : mg "tuple" = none) (z_zip : mg "zip" = none)  :
    FnG P w K mg base 1 f fd ["position", "other"] false F_moved :=
  fnG_of Fu sc_moved rfl (does_run _ _ _) fun cdv A outer s H hG hr =>
    (ess_one (es_ret (ev_callT o_tuple call_tuple_of z_tuple (by rfl) (by decide +kernel) (ev_L (el_lc (js := [2, 3]) rfl (tg_pair 2 3) rfl sc_moved.nd (ei_zip z_zip (by rfl) (ea_cons (ev_name 0) (ea_cons (ev_name 1) ea_nil))) (blkOk_by (own := [("one", 2), ("more", 3)]) (N := N_moved) (sc := defScope s_moved) (by decide +kernel)) (fun _ _ _ _ _ => pg_tup rfl (pgs_cons (pg_name (i := 2) sc_moved.nd rfl (Or.inl rfl)) (pgs_cons (pg_name (i := 3) sc_moved.nd rfl (Or.inl rfl)) pgs_nil))) (fun _ _ _ _ _ => ets_nil) (fun _ _ _ _ _ => (ev2nn x_add o_add (pv 2) (pv 3))))))))
/-! ### turned -/
abbrev s_turned : Stmt := topS 5
abbrev N_turned : List Str := ["position", "eighths", "a", "b", "c", "d", "steps", "direction"]
theorem sc_turned : FnScope N_turned ["position", "eighths"] (defScope s_turned) := ⟨rfl, rfl, rfl, by decide +kernel, rfl, by decide +kernel, by decide +kernel⟩
def E1_turned : Fe := (f2n ixX 6 (f2 modD (f2nn subD 7 1) (fC (.int 8))))
def B_turned : Fs := (sSeq (sAsg (fN 0) (gTp 4 (gsCons (gDat 2) (gsCons (gDat 3) (gsCons (gDat 4) (gsCons (gDat 5) gsNo))))))
    (sSeq (sAsg (fTup (aCons (fN 2) (aCons (fN 3) (aCons (fN 4) (aCons (fN 5) (aCons (fNeg (fN 2)) (aCons (fNeg (fN 3)) (aCons (fNeg (fN 4)) (aCons (fNeg (fN 5)) aNil))))))))) (gDat 6))
    (sRet (f1 tupleD (fL (lLc [7] (gDat 7) (wR1 (fC (.int 4))) tYe E1_turned))))))
def F_turned : Fun' := runF false 6 B_turned
theorem fn_turned {P : Program} {w : World} {K : PySem.W.Frag} {mg : Str → Option Value} {base : Heap} {f : Addr} {fd : FuncData} (Fu : Fun K "turned" "turned" s_turned f fd) (z_range : mg "range" = none) (z_tuple : mg "tuple" = none)  :
    FnG P w K mg base 1 f fd ["position", "eighths"] false F_turned :=
  fnG_of Fu sc_turned rfl (does_run _ _ _) fun cdv A outer s H hG hr =>
    (ess_cons (es_asg (ev_name 0) (eg_tup 4 rfl (egs_cons (eg_name 2 sc_turned.nd rfl (by first | exact Or.inl rfl | exact Or.inr rfl)) (egs_cons (eg_name 3 sc_turned.nd rfl (by first | exact Or.inl rfl | exact Or.inr rfl)) (egs_cons (eg_name 4 sc_turned.nd rfl (by first | exact Or.inl rfl | exact Or.inr rfl)) (egs_cons (eg_name 5 sc_turned.nd rfl (by first | exact Or.inl rfl | exact Or.inr rfl)) egs_nil))))))
    (ess_cons (es_set 6 sc_turned.nd rfl (by first | exact Or.inl rfl | exact Or.inr rfl) (ev_tup (ea_cons (ev_name 2) (ea_cons (ev_name 3) (ea_cons (ev_name 4) (ea_cons (ev_name 5) (ea_cons (ev_neg (ev_name 2)) (ea_cons (ev_neg (ev_name 3)) (ea_cons (ev_neg (ev_name 4)) (ea_cons (ev_neg (ev_name 5)) ea_nil))))))))))
    (ess_one (es_ret (ev_callT o_tuple call_tuple_of z_tuple (by rfl) (by decide +kernel) (ev_L (el_lc (js := [7]) rfl (tg_name 7) rfl sc_turned.nd (ei_r1 z_range (by rfl) ev_int) (blkOk_by (own := [("direction", 7)]) (N := N_turned) (sc := defScope s_turned) (by decide +kernel)) (fun _ _ _ _ _ => pg_name (i := 7) sc_turned.nd rfl (Or.inl rfl)) (fun _ _ _ _ _ => ets_nil) (fun _ _ _ _ _ => (dixn hr (pv 6) (ev2 op_mod o_mod (ev2nn op_sub o_sub (pv 7) (pv 1)) ev_int) (fun _ _ => rfl))))))))))
/-! ### laid -/
abbrev s_laid : Stmt := topS 6
abbrev N_laid : List Str := ["pose", "other"]
theorem sc_laid : FnScope N_laid ["pose", "other"] (defScope s_laid) := ⟨rfl, rfl, rfl, by decide +kernel, rfl, by decide +kernel, by decide +kernel⟩
def B_laid : Fs := (sRet (f2 addD (fCall 2 F_moved (aCons (fCall 2 F_turned (aCons (fSln 1 pNo (pOf (fC (.int 4)))) (aCons (f2n ixX 0 (fC (.int 4))) aNil))) (aCons (fSln 0 pNo (pOf (fC (.int 4)))) aNil))) (fTup (aCons (f2 modD (f2 addD (f2n ixX 1 (fC (.int 4))) (f2n ixX 0 (fC (.int 4)))) (fC (.int 8))) aNil))))
def F_laid : Fun' := runF false 0 B_laid
theorem fn_laid {P : Program} {w : World} {K : PySem.W.Frag} {mg : Str → Option Value} {base : Heap} {f : Addr} {fd : FuncData} (Fu : Fun K "laid" "laid" s_laid f fd)  (C_moved : Cal P w K mg base "moved" 1 ["position", "other"] false F_moved) (C_turned : Cal P w K mg base "turned" 1 ["position", "eighths"] false F_turned) :
    FnG P w K mg base 2 f fd ["pose", "other"] false F_laid :=
  fnG_of Fu sc_laid rfl (does_run _ _ _) fun cdv A outer s H hG hr =>
    (ess_one (es_ret (ev2 x_add o_add (ev_call C_moved (hr.mono (by decide)) hG (by rfl) (ea_cons (ev_call C_turned (hr.mono (by decide)) hG (by rfl) (ea_cons (ev_sln (pv 1) ep_no (ep_of ev_int)) (ea_cons (dixn hr (pv 0) ev_int (fun _ _ => rfl)) ea_nil))) (ea_cons (ev_sln (pv 0) ep_no (ep_of ev_int)) ea_nil))) (ev_tup (ea_cons (ev2 op_mod o_mod (ev2 x_add o_add (dixn hr (pv 1) ev_int (fun _ _ => rfl)) (dixn hr (pv 0) ev_int (fun _ _ => rfl))) ev_int) ea_nil)))))
def c_ENDS_AHEAD : List (Str × D) := [("S", (.tuple [(.tuple [.int 2, .int 0, .int 0, .int 0, .int 0])])), ("H", (.tuple [(.tuple [.int 1, .int 0, .int 0, .int 0, .int 0])])), ("C", (.tuple [(.tuple [.int 0, .int 0, .int 2, .int (-2), .int 1])])), ("P", (.tuple [(.tuple [.int 2, .int 0, .int 0, .int 0, .int 0]), (.tuple [.int 0, .int 0, .int 2, .int (-2), .int 1])])), ("Q", (.tuple [(.tuple [.int 2, .int 0, .int 0, .int 0, .int 0]), (.tuple [.int 0, .int 2, .int (-2), .int 0, .int 7])])), ("X", (.tuple [(.tuple [.int 2, .int 0, .int 0, .int 0, .int 0]), (.tuple [.int 1, .int 0, .int 1, .int 0, .int 2]), (.tuple [.int 1, .int 0, .int (-1), .int 0, .int 6])]))]
/-! ### ends_of -/
abbrev s_ends_of : Stmt := topS 10
abbrev N_ends_of : List Str := ["kind", "pose", "end"]
theorem sc_ends_of : FnScope N_ends_of ["kind", "pose"] (defScope s_ends_of) := ⟨rfl, rfl, rfl, by decide +kernel, rfl, by decide +kernel, by decide +kernel⟩
def E1_ends_of : Fe := (fCall 2 F_laid (aCons (fN 1) (aCons (fN 2) aNil)))
def B_ends_of : Fs := (sRet (f1 tupleD (f2 addD (fL (lDisp (aCons (fCall 1 F_back (aCons (fN 1) aNil)) aNil))) (fL (lLc [2] (gDat 2) (wOf (f1 (tabD c_ENDS_AHEAD) (fN 0))) tYe E1_ends_of)))))
def F_ends_of : Fun' := runF false 1 B_ends_of
theorem fn_ends_of {P : Program} {w : World} {K : PySem.W.Frag} {mg : Str → Option Value} {base : Heap} {f : Addr} {fd : FuncData} (Fu : Fun K "ends_of" "ends_of" s_ends_of f fd) (z_tuple : mg "tuple" = none) {u_ENDS_AHEAD : Value} (V_ENDS_AHEAD : Tab K w u_ENDS_AHEAD c_ENDS_AHEAD) (g_ENDS_AHEAD : mg "ENDS_AHEAD" = some u_ENDS_AHEAD) (C_back : Cal P w K mg base "back" 1 ["pose"] false F_back) (C_laid : Cal P w K mg base "laid" 2 ["pose", "other"] false F_laid) :
    FnG P w K mg base 3 f fd ["kind", "pose"] false F_ends_of :=
  fnG_of Fu sc_ends_of rfl (does_run _ _ _) fun cdv A outer s H hG hr =>
    (ess_one (es_ret (ev_callT o_tuple call_tuple_of z_tuple (by rfl) (by decide +kernel) (ev2 x_add o_add (ev_L (el_disp (ea_cons (ev_call C_back (hr.mono (by decide)) hG (by rfl) (ea_cons (ev_name 1) ea_nil)) ea_nil))) (ev_L (el_lc (js := [2]) rfl (tg_name 2) rfl sc_ends_of.nd (ei_seq (ev_tab V_ENDS_AHEAD g_ENDS_AHEAD (by rfl) (ev_name 0) (fun _ _ => rfl))) (blkOk_by (own := [("end", 2)]) (N := N_ends_of) (sc := defScope s_ends_of) (by decide +kernel)) (fun _ _ _ _ _ => pg_name (i := 2) sc_ends_of.nd rfl (Or.inl rfl)) (fun _ _ _ _ _ => ets_nil) (fun _ _ _ _ _ => (ev_call C_laid (hr.mono (by decide)) hG (by rfl) (ea_cons (ev_name 1) (ea_cons (ev_name 2) ea_nil))))))))))
/-! ### ends_in -/
abbrev s_ends_in : Stmt := topS 12
abbrev N_ends_in : List Str := ["layout", "placed", "number", "piece", "end", "pose"]
theorem sc_ends_in : FnScope N_ends_in ["layout"] (defScope s_ends_in) := ⟨rfl, rfl, rfl, by decide +kernel, rfl, by decide +kernel, by decide +kernel⟩
def E1_ends_in : Fe := (fTup (aCons (fN 2) (aCons (fN 3) aNil)))
def W2_ends_in : Fa := (wEnum (fCall 2 F_ends_of (aCons (f2n ixX 3 (fC (.int 0))) (aCons (f2n ixX 3 (fC (.int 1))) aNil))))
def E3_ends_in : Fe := (fTup (aCons (fN 2) (aCons (fN 4) (aCons (fN 5) aNil))))
def B_ends_in : Fs := (sSeq (sAsg (fL (lLc [2, 3] (gTp 2 (gsCons (gDat 2) (gsCons (gDat 3) gsNo))) (wEnum (fN 0)) (ofB (f2n notNd 3 (fC .none))) E1_ends_in)) (gDat 1))
    (sRet (f1 tupleD (fL (lLc2 [2, 3, 4, 5] (gTp 2 (gsCons (gDat 2) (gsCons (gDat 3) gsNo))) (wOf (fN 1)) tYe W2_ends_in [4, 5] (gTp 2 (gsCons (gDat 4) (gsCons (gDat 5) gsNo))) tYe E3_ends_in)))))
def F_ends_in : Fun' := runF false 5 B_ends_in
theorem fn_ends_in {P : Program} {w : World} {K : PySem.W.Frag} {mg : Str → Option Value} {base : Heap} {f : Addr} {fd : FuncData} (Fu : Fun K "ends_in" "ends_in" s_ends_in f fd) (z_enumerate : mg "enumerate" = none) (z_tuple : mg "tuple" = none) (C_ends_of : Cal P w K mg base "ends_of" 3 ["kind", "pose"] false F_ends_of) :
    FnG P w K mg base 4 f fd ["layout"] false F_ends_in :=
  fnG_of Fu sc_ends_in rfl (does_run _ _ _) fun cdv A outer s H hG hr =>
    (ess_cons (es_lcDat 1 (js := [2, 3]) rfl (tg_pair 2 3) rfl sc_ends_in.nd rfl rfl (sw_true rfl rfl rfl (by decide +kernel)) (ei_enum z_enumerate (by rfl) (ev_name 0)) (blkOk_by (own := [("number", 2), ("piece", 3)]) (N := N_ends_in) (sc := defScope s_ends_in) (by decide +kernel)) (fun _ _ _ _ _ => pg_tup rfl (pgs_cons (pg_name (i := 2) sc_ends_in.nd rfl (Or.inl rfl)) (pgs_cons (pg_name (i := 3) sc_ends_in.nd rfl (Or.inl rfl)) pgs_nil))) (fun _ _ _ _ _ => (ets_one (et2n op_notN o_notN (nomark _) (pv 3) ev_non))) (fun _ _ _ _ _ => (ev_tup (ea_cons (ev_name 2) (ea_cons (ev_name 3) ea_nil)))))
    (ess_one (es_ret (ev_callT o_tuple call_tuple_of z_tuple (by rfl) (by decide +kernel) (ev_L (el_lc2 (js := [2, 3, 4, 5]) (js1 := [4, 5]) rfl (by decide) (tg_t (tgs_cons (tg_n 2 (by decide)) (tgs_cons (tg_n 3 (by decide)) tgs_nil))) (tg_t (tgs_cons (tg_n 4 (by decide)) (tgs_cons (tg_n 5 (by decide)) tgs_nil))) rfl sc_ends_in.nd (ei_seq (ev_name 1)) (blkOk_by (own := [("number", 2), ("piece", 3), ("end", 4), ("pose", 5)]) (N := N_ends_in) (sc := defScope s_ends_in) (by decide +kernel)) (fun _ _ _ _ _ => (pg_tup rfl (pgs_cons (pg_name (i := 2) sc_ends_in.nd rfl (Or.inl rfl)) (pgs_cons (pg_name (i := 3) sc_ends_in.nd rfl (Or.inl rfl)) pgs_nil)))) (fun _ _ _ _ _ => ets_nil) (fun _ _ _ _ _ => (ei_enum z_enumerate (by rfl) (ev_call C_ends_of (hr.mono (by decide)) hG (by rfl) (ea_cons (dixn hr (pv 3) ev_int (fun _ _ => rfl)) (ea_cons (dixn hr (pv 3) ev_int (fun _ _ => rfl)) ea_nil))))) (fun _ _ _ _ _ => (pg_tup rfl (pgs_cons (pg_name (i := 4) sc_ends_in.nd rfl (Or.inl rfl)) (pgs_cons (pg_name (i := 5) sc_ends_in.nd rfl (Or.inl rfl)) pgs_nil)))) (fun _ _ _ _ _ => ets_nil) (fun _ _ _ _ _ => (ev_tup (ea_cons (ev_name 2) (ea_cons (ev_name 4) (ea_cons (ev_name 5) ea_nil)))))))))))
/-! ### joints_in -/
abbrev s_joints_in : Stmt := topS 13
abbrev N_joints_in : List Str := ["layout", "at", "number", "end", "pose"]
theorem sc_joints_in : FnScope N_joints_in ["layout"] (defScope s_joints_in) := ⟨rfl, rfl, rfl, by decide +kernel, rfl, by decide +kernel, by decide +kernel⟩
def E1_joints_in : Fe := (fN 4)
def E2_joints_in : Fe := (fTup (aCons (fN 2) (aCons (fN 3) aNil)))
def E3_joints_in : Fe := (f2nn ixX 1 4)
def E4_joints_in : Fe := (f2n ixX 1 (fCall 1 F_back (aCons (fN 4) aNil)))
def B_joints_in : Fs := (sSeq (sAsg (fDl (lDc [2, 3, 4] (gTp 3 (gsCons (gDat 2) (gsCons (gDat 3) (gsCons (gDat 4) gsNo)))) (wOf (fCall 1 F_ends_in (aCons (fN 0) aNil))) tYe E1_joints_in E2_joints_in)) (gDat 1))
    (sRet (fDl (lDc [4] (gDat 4) (wKey (fN 1)) (ofB (f2m inX (fCall 1 F_back (aCons (fN 4) aNil)) 1)) E3_joints_in E4_joints_in))))
def F_joints_in : Fun' := runF false 4 B_joints_in
theorem fn_joints_in {P : Program} {w : World} {K : PySem.W.Frag} {mg : Str → Option Value} {base : Heap} {f : Addr} {fd : FuncData} (Fu : Fun K "joints_in" "joints_in" s_joints_in f fd)  (C_ends_in : Cal P w K mg base "ends_in" 4 ["layout"] false F_ends_in) (C_back : Cal P w K mg base "back" 1 ["pose"] false F_back) :
    FnG P w K mg base 5 f fd ["layout"] false F_joints_in :=
  fnG_of Fu sc_joints_in rfl (does_run _ _ _) fun cdv A outer s H hG hr =>
    (ess_cons (es_set 1 sc_joints_in.nd rfl (by first | exact Or.inl rfl | exact Or.inr rfl) (ev_dc hr ⟨rfl, sc_joints_in.nd, (ei_seq (ev_call C_ends_in (hr.mono (by decide)) hG (by rfl) (ea_cons (ev_name 0) ea_nil))), blkOk_by (own := [("number", 2), ("end", 3), ("pose", 4)]) (N := N_joints_in) (sc := defScope s_joints_in) (by decide +kernel), (fun _ _ _ _ _ => (pg_tup rfl (pgs_cons (pg_name (i := 2) sc_joints_in.nd rfl (Or.inl rfl)) (pgs_cons (pg_name (i := 3) sc_joints_in.nd rfl (Or.inl rfl)) (pgs_cons (pg_name (i := 4) sc_joints_in.nd rfl (Or.inl rfl)) pgs_nil))))), (fun _ _ _ _ _ => ets_nil), (fun _ _ _ _ _ => (ev_name 4)), (fun _ _ _ _ _ => (ev_tup (ea_cons (ev_name 2) (ea_cons (ev_name 3) ea_nil)))), fun _ => rfl⟩ (js := [2, 3, 4]) rfl (tg_t (tgs_cons (tg_n 2 (by decide)) (tgs_cons (tg_n 3 (by decide)) (tgs_cons (tg_n 4 (by decide)) tgs_nil))))))
    (ess_one (es_ret (ev_dc hr ⟨rfl, sc_joints_in.nd, (ei_key (ev_name 1)), blkOk_by (own := [("pose", 4)]) (N := N_joints_in) (sc := defScope s_joints_in) (by decide +kernel), (fun _ _ _ _ _ => (pg_name (i := 4) sc_joints_in.nd rfl (Or.inl rfl))), (fun _ _ _ _ _ => (ets_one (et2m (x_inX hr) o_inX (by rfl) (ev_call C_back (hr.mono (by decide)) hG (by rfl) (ea_cons (ev_name 4) ea_nil)) (pv 1)))), (fun _ _ _ _ _ => (dixnn hr (pv 1) (pv 4) (fun _ _ => rfl))), (fun _ _ _ _ _ => (dixn hr (pv 1) (ev_call C_back (hr.mono (by decide)) hG (by rfl) (ea_cons (ev_name 4) ea_nil)) (fun _ _ => rfl))), fun _ => rfl⟩ (js := [4]) rfl (tg_name 4)))))
/-! ### steps_table -/
abbrev s_steps_table : Stmt := topS 21
abbrev N_steps_table : List Str := ["layout", "trains", "joints", "coming", "train", "table", "ahead", "piece", "_", "leaving"]
theorem sc_steps_table : FnScope N_steps_table ["layout"] (defScope s_steps_table) := ⟨rfl, rfl, rfl, by decide +kernel, rfl, by decide +kernel, by decide +kernel⟩
def L1_steps_table : Fs := (sSeq (sAsg (fN 4) (gTp 3 (gsCons (gDat 7) (gsCons (gDat 8) (gsCons (gDat 9) gsNo)))))
    (sSeq (sAsg (fGet1 2 (fTup (aCons (fN 7) (aCons (fN 9) aNil)))) (gDat 6))
    (sDicPut 5 (fIf (ofB (f2n isNd 6 (fC .none))) (fTup aNil) (f1 tupleD (f2nn ixX 3 6))) (fN 4))))
def E2_steps_table : Fe := (fSln 4 pNo (pOf (fC (.int 2))))
def B_steps_table : Fs := (sSeq (sAsg (fCall 1 F_trains_of (aCons (fN 0) aNil)) (gDat 1))
    (sSeq (sAsg (fCall 1 F_joints_in (aCons (fN 0) aNil)) (gDat 2))
    (sSeq (sGrpN 3 4 (wOf (fN 1)) E2_steps_table)
    (sSeq (sDicNew 5)
    (sSeq (sFor (wOf (fN 1)) (gDat 4) L1_steps_table)
    (sRet (fN 5)))))))
def F_steps_table : Fun' := runF false 9 B_steps_table
theorem fn_steps_table {P : Program} {w : World} {K : PySem.W.Frag} {mg : Str → Option Value} {base : Heap} {f : Addr} {fd : FuncData} (Fu : Fun K "steps_table" "steps_table" s_steps_table f fd) (z_tuple : mg "tuple" = none) (C_trains_of : Cal P w K mg base "trains_of" 1 ["layout"] false F_trains_of) (C_joints_in : Cal P w K mg base "joints_in" 5 ["layout"] false F_joints_in) :
    FnG P w K mg base 6 f fd ["layout"] false F_steps_table :=
  fnG_of Fu sc_steps_table rfl (does_run _ _ _) fun cdv A outer s H hG hr =>
    (ess_cons (es_set 1 sc_steps_table.nd rfl (by first | exact Or.inl rfl | exact Or.inr rfl) (ev_call C_trains_of (hr.mono (by decide)) hG (by rfl) (ea_cons (ev_name 0) ea_nil)))
    (ess_cons (es_set 2 sc_steps_table.nd rfl (by first | exact Or.inl rfl | exact Or.inr rfl) (ev_call C_joints_in (hr.mono (by decide)) hG (by rfl) (ea_cons (ev_name 0) ea_nil)))
    (es_grpN PassesOwn.never rfl (by decide) (ps_dnewN 3 sc_steps_table.nd rfl (by first | exact Or.inl rfl | exact Or.inr rfl)) (ei_seq (ev_name 1)) (pg_name (i := 4) sc_steps_table.nd rfl (by first | exact Or.inl rfl | exact Or.inr rfl)) (ps_putN hr (pv 3) (ev_sln (pv 4) ep_no (ep_of ev_int)) (pv 4))
    (ess_cons (es_dicNew 5 sc_steps_table.nd rfl (by first | exact Or.inl rfl | exact Or.inr rfl))
    (ess_cons (es_for PassesOwn.never rfl (ei_seq (ev_name 1)) (eg_name 4 sc_steps_table.nd rfl (by first | exact Or.inl rfl | exact Or.inr rfl)) (ess_cons (es_asg (ev_name 4) (eg_tup 3 rfl (egs_cons (eg_name 7 sc_steps_table.nd rfl (by first | exact Or.inl rfl | exact Or.inr rfl)) (egs_cons (eg_name 8 sc_steps_table.nd rfl (by first | exact Or.inl rfl | exact Or.inr rfl)) (egs_cons (eg_name 9 sc_steps_table.nd rfl (by first | exact Or.inl rfl | exact Or.inr rfl)) egs_nil)))))
    (ess_cons (es_set 6 sc_steps_table.nd rfl (by first | exact Or.inl rfl | exact Or.inr rfl) (ev_get1 hr (pv 2) (ev_tup (ea_cons (ev_name 7) (ea_cons (ev_name 9) ea_nil)))))
    (ess_one (es_dicPut 5 hr (ev_if (et2n op_isN o_isN (nomark _) (pv 6) ev_non) (ev_tup ea_nil) (ev_callT o_tuple call_tuple_of z_tuple (by rfl) (by decide +kernel) (dixnn hr (pv 3) (pv 6) (fun _ _ => rfl)))) (pv 5) (ev_name 4))))))
    (ess_one (es_ret (ev_name 5))))))))
/-! ### cycle -/
abbrev s_cycle : Stmt := topS 19
abbrev N_cycle : List Str := ["layout", "thrown", "train", "way", "again", "start"]
theorem sc_cycle : FnScope N_cycle ["layout", "thrown", "train"] (defScope s_cycle) := ⟨rfl, rfl, rfl, by decide +kernel, rfl, by decide +kernel, by decide +kernel⟩
def B_cycle : Fs := (sSeq (sDrop (fCall 3 F__refuse_wrong (aCons (fN 0) (aCons (fN 1) (aCons (fN 2) aNil)))))
    (sSeq (sAsg (fCall 3 F_way_in (aCons (fCall 1 F_steps_table (aCons (fN 0) aNil)) (aCons (fN 1) (aCons (fN 2) aNil)))) (gTp 2 (gsCons (gDat 3) (gsCons (gDat 4) gsNo))))
    (sSeq (sIf (ofB (f2n isNd 4 (fC .none))) (sRet (fC .none)) sNil)
    (sSeq (sAsg (fIdx 3 (fN 4)) (gDat 5))
    (sRet (fTup (aCons (fN 5) (aCons (f2m subD (f1n lenD 3) 5) aNil))))))))
def F_cycle : Fun' := runF false 3 B_cycle
theorem fn_cycle {P : Program} {w : World} {K : PySem.W.Frag} {mg : Str → Option Value} {base : Heap} {f : Addr} {fd : FuncData} (Fu : Fun K "cycle" "cycle" s_cycle f fd) (z_len : mg "len" = none) (C__refuse_wrong : Cal P w K mg base "_refuse_wrong" 3 ["layout", "thrown", "train"] false F__refuse_wrong) (C_way_in : Cal P w K mg base "way_in" 2 ["table", "thrown", "train"] false F_way_in) (C_steps_table : Cal P w K mg base "steps_table" 6 ["layout"] false F_steps_table) :
    FnG P w K mg base 7 f fd ["layout", "thrown", "train"] false F_cycle :=
  fnG_of Fu sc_cycle rfl (does_run _ _ _) fun cdv A outer s H hG hr =>
    (ess_cons (es_expr (ev_call C__refuse_wrong (hr.mono (by decide)) hG (by rfl) (ea_cons (ev_name 0) (ea_cons (ev_name 1) (ea_cons (ev_name 2) ea_nil)))))
    (ess_cons (es_asg (ev_call C_way_in (hr.mono (by decide)) hG (by rfl) (ea_cons (ev_call C_steps_table (hr.mono (by decide)) hG (by rfl) (ea_cons (ev_name 0) ea_nil)) (ea_cons (ev_name 1) (ea_cons (ev_name 2) ea_nil)))) (eg_tup 2 rfl (egs_cons (eg_name 3 sc_cycle.nd rfl (by first | exact Or.inl rfl | exact Or.inr rfl)) (egs_cons (eg_name 4 sc_cycle.nd rfl (by first | exact Or.inl rfl | exact Or.inr rfl)) egs_nil))))
    (ess_cons (es_if (et2n op_isN o_isN (nomark _) (pv 4) ev_non) (ess_one (es_ret ev_non)) ess_nil)
    (ess_cons (es_set 5 sc_cycle.nd rfl (by first | exact Or.inl rfl | exact Or.inr rfl) (ev_index hr (pv 3) (ev_name 4)))
    (ess_one (es_ret (ev_tup (ea_cons (ev_name 5) (ea_cons (ev2m op_sub o_sub (ev_callBn o_len x_len z_len (by rfl) (by decide +kernel) (pv 3)) (pv 5)) ea_nil)))))))))
/-! ### step_train -/
abbrev s_step_train : Stmt := topS 17
abbrev N_step_train : List Str := ["layout", "thrown", "train"]
theorem sc_step_train : FnScope N_step_train ["layout", "thrown", "train"] (defScope s_step_train) := ⟨rfl, rfl, rfl, by decide +kernel, rfl, by decide +kernel, by decide +kernel⟩
def B_step_train : Fs := (sSeq (sDrop (fCall 3 F__refuse_wrong (aCons (fN 0) (aCons (fN 1) (aCons (fN 2) aNil)))))
    (sRet (fCall 3 F_step_in (aCons (fCall 1 F_steps_table (aCons (fN 0) aNil)) (aCons (fN 1) (aCons (fN 2) aNil))))))
def F_step_train : Fun' := runF false 0 B_step_train
theorem fn_step_train {P : Program} {w : World} {K : PySem.W.Frag} {mg : Str → Option Value} {base : Heap} {f : Addr} {fd : FuncData} (Fu : Fun K "step_train" "step_train" s_step_train f fd)  (C__refuse_wrong : Cal P w K mg base "_refuse_wrong" 3 ["layout", "thrown", "train"] false F__refuse_wrong) (C_step_in : Cal P w K mg base "step_in" 1 ["table", "thrown", "train"] false F_step_in) (C_steps_table : Cal P w K mg base "steps_table" 6 ["layout"] false F_steps_table) :
    FnG P w K mg base 7 f fd ["layout", "thrown", "train"] false F_step_train :=
  fnG_of Fu sc_step_train rfl (does_run _ _ _) fun cdv A outer s H hG hr =>
    (ess_cons (es_expr (ev_call C__refuse_wrong (hr.mono (by decide)) hG (by rfl) (ea_cons (ev_name 0) (ea_cons (ev_name 1) (ea_cons (ev_name 2) ea_nil)))))
    (ess_one (es_ret (ev_call C_step_in (hr.mono (by decide)) hG (by rfl) (ea_cons (ev_call C_steps_table (hr.mono (by decide)) hG (by rfl) (ea_cons (ev_name 0) ea_nil)) (ea_cons (ev_name 1) (ea_cons (ev_name 2) ea_nil)))))))
/-! ### run_train -/
abbrev s_run_train : Stmt := topS 18
abbrev N_run_train : List Str := ["layout", "thrown", "train", "steps", "way", "again", "start"]
theorem sc_run_train : FnScope N_run_train ["layout", "thrown", "train", "steps"] (defScope s_run_train) := ⟨rfl, rfl, rfl, by decide +kernel, rfl, by decide +kernel, by decide +kernel⟩
def B_run_train : Fs := (sSeq (sDrop (fCall 3 F__refuse_wrong (aCons (fN 0) (aCons (fN 1) (aCons (fN 2) aNil)))))
    (sSeq (sAsg (fCall 3 F_way_in (aCons (fCall 1 F_steps_table (aCons (fN 0) aNil)) (aCons (fN 1) (aCons (fN 2) aNil)))) (gTp 2 (gsCons (gDat 4) (gsCons (gDat 5) gsNo))))
    (sSeq (sIf (ofB (f2n ltD 3 (f1n lenD 4))) (sRet (f2nn ixX 4 3)) sNil)
    (sSeq (sIf (ofB (f2n isNd 5 (fC .none))) (sRet (fC .none)) sNil)
    (sSeq (sAsg (fIdx 4 (fN 5)) (gDat 6))
    (sRet (f2n ixX 4 (f2n addD 6 (f2 modD (f2nn subD 3 6) (f2m subD (f1n lenD 4) 6))))))))))
def F_run_train : Fun' := runF false 3 B_run_train
theorem fn_run_train {P : Program} {w : World} {K : PySem.W.Frag} {mg : Str → Option Value} {base : Heap} {f : Addr} {fd : FuncData} (Fu : Fun K "run_train" "run_train" s_run_train f fd) (z_len : mg "len" = none) (C__refuse_wrong : Cal P w K mg base "_refuse_wrong" 3 ["layout", "thrown", "train"] false F__refuse_wrong) (C_way_in : Cal P w K mg base "way_in" 2 ["table", "thrown", "train"] false F_way_in) (C_steps_table : Cal P w K mg base "steps_table" 6 ["layout"] false F_steps_table) :
    FnG P w K mg base 7 f fd ["layout", "thrown", "train", "steps"] false F_run_train :=
  fnG_of Fu sc_run_train rfl (does_run _ _ _) fun cdv A outer s H hG hr =>
    (ess_cons (es_expr (ev_call C__refuse_wrong (hr.mono (by decide)) hG (by rfl) (ea_cons (ev_name 0) (ea_cons (ev_name 1) (ea_cons (ev_name 2) ea_nil)))))
    (ess_cons (es_asg (ev_call C_way_in (hr.mono (by decide)) hG (by rfl) (ea_cons (ev_call C_steps_table (hr.mono (by decide)) hG (by rfl) (ea_cons (ev_name 0) ea_nil)) (ea_cons (ev_name 1) (ea_cons (ev_name 2) ea_nil)))) (eg_tup 2 rfl (egs_cons (eg_name 4 sc_run_train.nd rfl (by first | exact Or.inl rfl | exact Or.inr rfl)) (egs_cons (eg_name 5 sc_run_train.nd rfl (by first | exact Or.inl rfl | exact Or.inr rfl)) egs_nil))))
    (ess_cons (es_if (et2n x_lt o_cmp (nomark _) (pv 3) (ev_callBn o_len x_len z_len (by rfl) (by decide +kernel) (pv 4))) (ess_one (es_ret (dixnn hr (pv 4) (pv 3) (fun _ _ => rfl)))) ess_nil)
    (ess_cons (es_if (et2n op_isN o_isN (nomark _) (pv 5) ev_non) (ess_one (es_ret ev_non)) ess_nil)
    (ess_cons (es_set 6 sc_run_train.nd rfl (by first | exact Or.inl rfl | exact Or.inr rfl) (ev_index hr (pv 4) (ev_name 5)))
    (ess_one (es_ret (dixn hr (pv 4) (ev2n x_add o_add (pv 6) (ev2 op_mod o_mod (ev2nn op_sub o_sub (pv 3) (pv 6)) (ev2m op_sub o_sub (ev_callBn o_len x_len z_len (by rfl) (by decide +kernel) (pv 4)) (pv 6)))) (fun _ _ => rfl)))))))))
/-! ### _law_same -/
abbrev s__law_same : Stmt := topS 31
abbrev N__law_same : List Str := ["actual", "due"]
theorem sc__law_same : FnScope N__law_same ["actual", "due"] (defScope s__law_same) := ⟨rfl, rfl, rfl, by decide +kernel, rfl, by decide +kernel, by decide +kernel⟩
def B__law_same : Fs := (sRet (f2 eqD (f1n reprD 0) (f1n reprD 1)))
def F__law_same : Fun' := runF false 0 B__law_same
theorem fn__law_same {P : Program} {w : World} {K : PySem.W.Frag} {mg : Str → Option Value} {base : Heap} {f : Addr} {fd : FuncData} (Fu : Fun K "_law_same" "_law_same" s__law_same f fd) (z_repr : mg "repr" = none)  :
    FnG P w K mg base 1 f fd ["actual", "due"] false F__law_same :=
  fnG_of Fu sc__law_same rfl (does_run _ _ _) fun cdv A outer s H hG hr =>
    (ess_one (es_ret (ec2 (x_eq hr.units) o_eq (nomark _) (ev_callBn o_repr (x_repr hG hr.units) z_repr (by rfl) (by decide +kernel) (pv 0)) (ev_callBn o_repr (x_repr hG hr.units) z_repr (by rfl) (by decide +kernel) (pv 1)))))
/-! ### law -/
abbrev s_law : Stmt := topS 49
abbrev N_law : List Str := ["script", "box", "layout", "many", "turn", "thrown", "train", "told", "row", "after", "ahead", "steps", "more", "due", "end", "k"]
theorem sc_law : FnScope N_law ["script"] (defScope s_law) := ⟨rfl, rfl, rfl, by decide +kernel, rfl, by decide +kernel, by decide +kernel⟩
def E1_law : Fe := (fCall 4 F_run_train (aCons (fN 2) (aCons (fN 5) (aCons (fN 6) (aCons (fN 15) aNil)))))
def L2_law : Fs := (sSeq (sAsg (fCallB 2 F__law_thrown 1 (aCons (fN 2) aNil)) (gDat 5))
    (sSeq (sAsg (fCallB 2 F__law_train 1 (aCons (fN 2) aNil)) (gDat 6))
    (sSeq (sAsg (fCall 3 F_cycle (aCons (fN 2) (aCons (fN 5) (aCons (fN 6) aNil)))) (gDat 7))
    (sSeq (sAsg (fL (lLc [15] (gDat 15) (wR1 (f2n addD 3 (fC (.int 1)))) tYe E1_law)) (gDat 8))
    (sSeq (sIf (ofB (f2 neD (f2n isNd 7 (fC .none)) (f2 isNd (f2nn ixX 8 3) (fC .none)))) (sRet (fC (.bool false))) sNil)
    (sSeq (sAsg (fC .none) (gDat 9))
    (sSeq (sIf (ofB (f2n notNd 7 (fC .none))) (sSeq (sAsg (f2 addD (f2n ixX 7 (fC (.int 0))) (f2n ixX 7 (fC (.int 1)))) (gDat 14))
    (sSeq (sIf (cOr (ofB (f2 ltD (f2n ixX 7 (fC (.int 0))) (fC (.int 0)))) (cOr (ofB (f2 ltD (f2n ixX 7 (fC (.int 1))) (fC (.int 1)))) (cOr (ofB (f2nn gtD 14 3)) (cOr (ofB (f2 neD (f2nn ixX 8 14) (f2n ixX 8 (f2n ixX 7 (fC (.int 0)))))) (ofB (f2m neD (fLenSet (fSln 8 pNo (pOf (fN 14)))) 14)))))) (sRet (fC (.bool false))) sNil)
    (sAsg (fTup (aCons (f2 maxD (f2 subD (f2n ixX 7 (fC (.int 0))) (fC (.int 1))) (fC (.int 0))) (aCons (f2n ixX 7 (fC (.int 1))) aNil))) (gDat 9)))) sNil)
    (sSeq (sAsg (fCall 3 F_step_train (aCons (fN 2) (aCons (fN 5) (aCons (fN 6) aNil)))) (gDat 10))
    (sSeq (sIf (cOr (cNot (ofB (fCall 2 F__law_same (aCons (fN 10) (aCons (f2n ixX 8 (fC (.int 1))) aNil))))) (ofB (f2m neD (f2n ixX 8 (fC (.int 0))) 6))) (sRet (fC (.bool false))) sNil)
    (sSeq (sIf (cAnd (ofB (f2n notNd 10 (fC .none))) (cNot (ofB (fCall 2 F__law_same (aCons (fCall 3 F_cycle (aCons (fN 2) (aCons (fN 5) (aCons (fN 10) aNil)))) (aCons (fN 9) aNil)))))) (sRet (fC (.bool false))) sNil)
    (sSeq (sAsg (fCallB 2 F__law_draw 1 (aCons (f2n addD 3 (fC (.int 1))) aNil)) (gDat 11))
    (sSeq (sAsg (fCallB 2 F__law_draw 1 (aCons (fC (.int 30)) aNil)) (gDat 12))
    (sSeq (sAsg (fC .none) (gDat 13))
    (sSeq (sIf (ofB (f2 notNd (f2nn ixX 8 11) (fC .none))) (sAsg (fCall 4 F_run_train (aCons (fN 2) (aCons (fN 5) (aCons (f2nn ixX 8 11) (aCons (fN 12) aNil))))) (gDat 13)) sNil)
    (sIf (cNot (ofB (fCall 2 F__law_same (aCons (fCall 4 F_run_train (aCons (fN 2) (aCons (fN 5) (aCons (fN 6) (aCons (f2nn addD 11 12) aNil))))) (aCons (fN 13) aNil))))) (sRet (fC (.bool false))) sNil)))))))))))))))
def B_law : Fs := (sSeq (sOwn 1 (lDisp (aCons (fCall 3 F__law_digits (aCons (fN 0) (aCons (fC (.int 0)) (aCons (fC (.int 60)) aNil)))) (aCons (fC (.int 0)) aNil))))
    (sSeq (sAsg (fCallB 2 F__law_layout 1 (aCons (fC (.int 12)) aNil)) (gDat 2))
    (sSeq (sAsg (f1 lenD (fCall 1 F__law_trains (aCons (fN 2) aNil))) (gDat 3))
    (sSeq (sFor (wR1 (f2 mulD (fC (.int 3)) (f1 intD (f2n gtD 3 (fC (.int 0)))))) (gDat 4) L2_law)
    (sRet (fC (.bool true)))))))
def F_law : Fun' := runF false 15 B_law
theorem fn_law {P : Program} {w : World} {K : PySem.W.Frag} {mg : Str → Option Value} {base : Heap} {f : Addr} {fd : FuncData} (Fu : Fun K "law" "law" s_law f fd) (z_int : mg "int" = none) (z_len : mg "len" = none) (z_max : mg "max" = none) (z_range : mg "range" = none) (z_set : mg "set" = none) (C__law_digits : Cal P w K mg base "_law_digits" 2 ["script", "first", "last"] false F__law_digits) (C__law_layout : Cal P w K mg base "_law_layout" 6 ["box", "most"] true F__law_layout) (C__law_trains : Cal P w K mg base "_law_trains" 2 ["layout"] false F__law_trains) (C__law_thrown : Cal P w K mg base "_law_thrown" 2 ["box", "layout"] true F__law_thrown) (C__law_train : Cal P w K mg base "_law_train" 3 ["box", "layout"] true F__law_train) (C_cycle : Cal P w K mg base "cycle" 7 ["layout", "thrown", "train"] false F_cycle) (C_run_train : Cal P w K mg base "run_train" 7 ["layout", "thrown", "train", "steps"] false F_run_train) (C_step_train : Cal P w K mg base "step_train" 7 ["layout", "thrown", "train"] false F_step_train) (C__law_same : Cal P w K mg base "_law_same" 1 ["actual", "due"] false F__law_same) (C__law_draw : Cal P w K mg base "_law_draw" 1 ["box", "many"] true F__law_draw) :
    FnG P w K mg base 8 f fd ["script"] false F_law :=
  fnG_of Fu sc_law rfl (does_run _ _ _) fun cdv A outer s H hG hr =>
    (ess_cons (es_own 1 sc_law.nd rfl (by first | exact Or.inl rfl | exact Or.inr rfl) (el_disp (ea_cons (ev_call C__law_digits (hr.mono (by decide)) hG (by rfl) (ea_cons (ev_name 0) (ea_cons ev_int (ea_cons ev_int ea_nil)))) (ea_cons ev_int ea_nil))))
    (ess_cons (es_set 2 sc_law.nd rfl (by first | exact Or.inl rfl | exact Or.inr rfl) (ev_callO 1 C__law_layout (hr.mono (by decide)) hG (by rfl) (pv 1) (ea_cons ev_int ea_nil)))
    (ess_cons (es_set 3 sc_law.nd rfl (by first | exact Or.inl rfl | exact Or.inr rfl) (ev_callB o_len x_len z_len (by rfl) (by decide +kernel) (ev_call C__law_trains (hr.mono (by decide)) hG (by rfl) (ea_cons (ev_name 2) ea_nil))))
    (ess_cons (es_for PassesOwn.never rfl (ei_r1 z_range (by rfl) (ev2 x_mul o_mul ev_int (ev_callT o_int call_int1 z_int (by rfl) (by decide +kernel) (ec2n x_gt o_cmp (nomark _) (pv 3) ev_int)))) (eg_name 4 sc_law.nd rfl (by first | exact Or.inl rfl | exact Or.inr rfl)) (ess_cons (es_set 5 sc_law.nd rfl (by first | exact Or.inl rfl | exact Or.inr rfl) (ev_callO 1 C__law_thrown (hr.mono (by decide)) hG (by rfl) (pv 1) (ea_cons (ev_name 2) ea_nil)))
    (ess_cons (es_set 6 sc_law.nd rfl (by first | exact Or.inl rfl | exact Or.inr rfl) (ev_callO 1 C__law_train (hr.mono (by decide)) hG (by rfl) (pv 1) (ea_cons (ev_name 2) ea_nil)))
    (ess_cons (es_set 7 sc_law.nd rfl (by first | exact Or.inl rfl | exact Or.inr rfl) (ev_call C_cycle (hr.mono (by decide)) hG (by rfl) (ea_cons (ev_name 2) (ea_cons (ev_name 5) (ea_cons (ev_name 6) ea_nil)))))
    (ess_cons (es_lcDat 8 (js := [15]) rfl (tg_name 15) rfl sc_law.nd rfl rfl (sw_true rfl rfl rfl (by decide +kernel)) (ei_r1 z_range (by rfl) (ev2n x_add o_add (pv 3) ev_int)) (blkOk_by (own := [("k", 15)]) (N := N_law) (sc := defScope s_law) (by decide +kernel)) (fun _ _ _ _ _ => pg_name (i := 15) sc_law.nd rfl (Or.inl rfl)) (fun _ _ _ _ _ => ets_nil) (fun _ _ _ _ _ => (ev_call C_run_train (hr.mono (by decide)) hG (by rfl) (ea_cons (ev_name 2) (ea_cons (ev_name 5) (ea_cons (ev_name 6) (ea_cons (ev_name 15) ea_nil)))))))
    (ess_cons (es_if (et2 (x_ne hr.units) o_ne (nomark _) (ec2n op_isN o_isN (nomark _) (pv 7) ev_non) (ec2 op_isN o_isN (nomark _) (dixnn hr (pv 8) (pv 3) (fun _ _ => rfl)) ev_non)) (ess_one (es_ret ev_bl)) ess_nil)
    (ess_cons (es_set 9 sc_law.nd rfl (by first | exact Or.inl rfl | exact Or.inr rfl) ev_non)
    (ess_cons (es_if (et2n op_notN o_notN (nomark _) (pv 7) ev_non) (ess_cons (es_set 14 sc_law.nd rfl (by first | exact Or.inl rfl | exact Or.inr rfl) (ev2 x_add o_add (dixn hr (pv 7) ev_int (fun _ _ => rfl)) (dixn hr (pv 7) ev_int (fun _ _ => rfl))))
    (ess_cons (es_if (et_w (ew_or (et2 x_lt o_cmp (nomark _) (dixn hr (pv 7) ev_int (fun _ _ => rfl)) ev_int) (ew_or (et2 x_lt o_cmp (nomark _) (dixn hr (pv 7) ev_int (fun _ _ => rfl)) ev_int) (ew_or (et2nn x_gt o_cmp (nomark _) (pv 14) (pv 3)) (ew_or (et2 (x_ne hr.units) o_ne (nomark _) (dixnn hr (pv 8) (pv 14) (fun _ _ => rfl)) (dixn hr (pv 8) (dixn hr (pv 7) ev_int (fun _ _ => rfl)) (fun _ _ => rfl))) (ew_or1 (et2m (x_ne hr.units) o_ne (nomark _) (ev_lenSet rfl hr z_len (by rfl) z_set (by rfl) (ev_sln (pv 8) ep_no (ep_of (ev_name 14)))) (pv 14)))))))) (ess_one (es_ret ev_bl)) ess_nil)
    (ess_one (es_set 9 sc_law.nd rfl (by first | exact Or.inl rfl | exact Or.inr rfl) (ev_tup (ea_cons (ev_callB2 o_max (call_max2 rfl) z_max (by rfl) (by decide +kernel) (ev2 op_sub o_sub (dixn hr (pv 7) ev_int (fun _ _ => rfl)) ev_int) ev_int) (ea_cons (dixn hr (pv 7) ev_int (fun _ _ => rfl)) ea_nil))))))) ess_nil)
    (ess_cons (es_set 10 sc_law.nd rfl (by first | exact Or.inl rfl | exact Or.inr rfl) (ev_call C_step_train (hr.mono (by decide)) hG (by rfl) (ea_cons (ev_name 2) (ea_cons (ev_name 5) (ea_cons (ev_name 6) ea_nil)))))
    (ess_cons (es_if (et_w (ew_or (et_not (et_val (ev_call C__law_same (hr.mono (by decide)) hG (by rfl) (ea_cons (ev_name 10) (ea_cons (dixn hr (pv 8) ev_int (fun _ _ => rfl)) ea_nil))))) (ew_or1 (et2m (x_ne hr.units) o_ne (nomark _) (dixn hr (pv 8) ev_int (fun _ _ => rfl)) (pv 6))))) (ess_one (es_ret ev_bl)) ess_nil)
    (ess_cons (es_if (et_w (ew_and (et2n op_notN o_notN (nomark _) (pv 10) ev_non) (ew_and1 (et_not (et_val (ev_call C__law_same (hr.mono (by decide)) hG (by rfl) (ea_cons (ev_call C_cycle (hr.mono (by decide)) hG (by rfl) (ea_cons (ev_name 2) (ea_cons (ev_name 5) (ea_cons (ev_name 10) ea_nil)))) (ea_cons (ev_name 9) ea_nil)))))))) (ess_one (es_ret ev_bl)) ess_nil)
    (ess_cons (es_set 11 sc_law.nd rfl (by first | exact Or.inl rfl | exact Or.inr rfl) (ev_callO 1 C__law_draw (hr.mono (by decide)) hG (by rfl) (pv 1) (ea_cons (ev2n x_add o_add (pv 3) ev_int) ea_nil)))
    (ess_cons (es_set 12 sc_law.nd rfl (by first | exact Or.inl rfl | exact Or.inr rfl) (ev_callO 1 C__law_draw (hr.mono (by decide)) hG (by rfl) (pv 1) (ea_cons ev_int ea_nil)))
    (ess_cons (es_set 13 sc_law.nd rfl (by first | exact Or.inl rfl | exact Or.inr rfl) ev_non)
    (ess_cons (es_if (et2 op_notN o_notN (nomark _) (dixnn hr (pv 8) (pv 11) (fun _ _ => rfl)) ev_non) (ess_one (es_set 13 sc_law.nd rfl (by first | exact Or.inl rfl | exact Or.inr rfl) (ev_call C_run_train (hr.mono (by decide)) hG (by rfl) (ea_cons (ev_name 2) (ea_cons (ev_name 5) (ea_cons (dixnn hr (pv 8) (pv 11) (fun _ _ => rfl)) (ea_cons (ev_name 12) ea_nil))))))) ess_nil)
    (ess_one (es_if (et_not (et_val (ev_call C__law_same (hr.mono (by decide)) hG (by rfl) (ea_cons (ev_call C_run_train (hr.mono (by decide)) hG (by rfl) (ea_cons (ev_name 2) (ea_cons (ev_name 5) (ea_cons (ev_name 6) (ea_cons (ev2nn x_add o_add (pv 11) (pv 12)) ea_nil))))) (ea_cons (ev_name 13) ea_nil))))) (ess_one (es_ret ev_bl)) ess_nil)))))))))))))))))
    (ess_one (es_ret ev_bl))))))
set_option maxHeartbeats 4000000
/-! ### what the law draws -/
def bx (ds : List Int) (i : Int) : List D := [.list (ds.map .int), .int i]
theorem draw_ok (ds : List Int) (i m : Int) (h0 : 0 ≤ i) (hm : 0 < m) : ∃ d, F__law_draw [.list (bx ds i), .int m] = some (.int d, bx ds (i + 1)) ∧ 0 ≤ d ∧ d < m := by
  have pos : ∀ x : Int, 0 ≤ x % m ∧ x % m < m := fun x => ⟨Int.emod_nonneg x (by omega), Int.emod_lt_of_pos x hm⟩
  by_cases h : i < ds.length
  · refine ⟨ds[i.toNat]'(by omega) % m, ?_, pos _⟩
    simp [F__law_draw, B__law_draw, bx, h0, h, hm]
  · refine ⟨(i * 7 + 3) % m, ?_, pos _⟩
    simp [F__law_draw, B__law_draw, bx, h0, h, hm]
theorem cell_ok (ns : List Int) (k : Int) (h0 : 0 ≤ k) : ∃ c, F__law_cell [scriptD ns, .int k] = some (.int c, []) := by
  by_cases h : k < ns.length
  · refine ⟨ns[k.toNat]'(by omega), ?_⟩
    simp [F__law_cell, B__law_cell, h0, h]
  · refine ⟨0, ?_⟩
    simp [F__law_cell, B__law_cell, h0, h]
theorem digits_1 (a b c d e : Option Ent) : ∀ (ks : List D) (f : Option Ent) (ds : List Int) (cell : Int), ds.length + ks.length ≤ 1000000 → ∃ (ds' : List Int) (cell' : Int) (f' : Option Ent), forF (gDat 6) L1__law_digits ks [a, b, c, some (.own false (ds.map .int)), d, some (.dat (.int cell)), f, e] =
    some (.nx [a, b, c, some (.own false (ds'.map .int)), d, some (.dat (.int cell')), f', e]) ∧ ds'.length ≤ ds.length + ks.length
  | [], f, ds, cell, _ => ⟨ds, cell, f, rfl, Nat.le_refl _⟩
  | k :: ks, f, ds, cell, h => by
    simp only [List.length_cons] at h
    by_cases hc : 0 < cell
    · obtain ⟨ds', c', f', e1, e2⟩ := digits_1 a b c d e ks (some (.dat k)) (ds ++ [cell % 1000]) (cell / 1000) (by simp; omega)
      refine ⟨ds', c', f', ?_, by simp at e2 ⊢; omega⟩
      rw [← e1]
      have h1 : ds.length ≤ 1000000 := by omega
      simp [forF, L1__law_digits, hc, h1]
    · obtain ⟨ds', c', f', e1, e2⟩ := digits_1 a b c d e ks (some (.dat k)) ds cell (by omega)
      refine ⟨ds', c', f', ?_, by simp at e2 ⊢; omega⟩
      rw [← e1]
      simp [forF, L1__law_digits, hc]
theorem digits_2 (a b c d e : Option Ent) : ∀ (ks : List Int) (f : Option Ent) (ds : List Int) (seed : Int), ds.length + ks.length ≤ 1000000 → ∃ (ds' : List Int) (seed' : Int) (f' : Option Ent), forF (gDat 6) L2__law_digits (ks.map .int) [a, b, c, some (.own false (ds.map .int)), d, e, f, some (.dat (.int seed))] =
    some (.nx [a, b, c, some (.own false (ds'.map .int)), d, e, f', some (.dat (.int seed'))]) ∧ ds'.length ≤ ds.length + ks.length
  | [], f, ds, seed, _ => ⟨ds, seed, f, rfl, Nat.le_refl _⟩
  | k :: ks, f, ds, seed, h => by
    simp only [List.length_cons] at h
    obtain ⟨ds', c', f', e1, e2⟩ := digits_2 a b c d e ks (some (.dat (.int k))) (ds ++ [(seed * 16807 + 7 * k + 1) % 2147483647 / 997 % 1000]) ((seed * 16807 + 7 * k + 1) % 2147483647) (by simp; omega)
    refine ⟨ds', c', f', ?_, by simp at e2 ⊢; omega⟩
    rw [← e1]
    have h1 : ds.length ≤ 1000000 := by omega
    simp [forF, L2__law_digits, h1]
theorem rngD_map (lo : Int) (n : Nat) : rngD lo n = ((List.range n).map fun (k : Nat) => lo + (k : Int)).map PyData.int := by
  unfold rngD
  rw [List.map_map]
  rfl
theorem digits_3 (ns : List Int) (b c : Option Ent) : ∀ (ks : List Int) (e4 e5 e6 e7 : Option Ent) (ds : List Int), (∀ k ∈ ks, 0 ≤ k) → ds.length + 60 * ks.length ≤ 1000000 → ∃ (ds' : List Int) (f4 f5 f6 f7 : Option Ent), forF (gDat 4) L3__law_digits (ks.map .int) [some (.dat (scriptD ns)), b, c, some (.own false (ds.map .int)), e4, e5, e6, e7] =
    some (.nx [some (.dat (scriptD ns)), b, c, some (.own false (ds'.map .int)), f4, f5, f6, f7])
  | [], e4, e5, e6, e7, ds, _, _ => ⟨ds, e4, e5, e6, e7, rfl⟩
  | k :: ks, e4, e5, e6, e7, ds, hk, h => by
    simp only [List.length_cons] at h
    obtain ⟨cell, ec⟩ := cell_ok ns k (hk k (by simp))
    have step : ∃ (ds1 : List Int) (f5 f6 f7 : Option Ent), L3__law_digits [some (.dat (scriptD ns)), b, c, some (.own false (ds.map .int)), some (.dat (.int k)), e5, e6, e7] =
        some (.nx [some (.dat (scriptD ns)), b, c, some (.own false (ds1.map .int)), some (.dat (.int k)), f5, f6, f7]) ∧ ds1.length ≤ ds.length + 60 := by
      by_cases hn : cell < 0
      · by_cases hb : (1000000000000000000 : Int) ≤ 1 - 2 * cell
        · obtain ⟨ds1, cell1, f1, e1, l1⟩ := digits_1 (some (.dat (scriptD ns))) b c (some (.dat (.int k))) e7 (rngD 0 60) e6 ds (1 - 2 * cell) (by simp [rngD]; omega)
          refine ⟨ds1, some (.dat (.int cell1)), f1, e7, ?_, by simpa [rngD] using l1⟩
          simp only [scriptD] at e1 ec ⊢
          simp [L3__law_digits, ec, hn, e1, powD, hb]
        · obtain ⟨ds1, seed1, f1, e1, l1⟩ := digits_2 (some (.dat (scriptD ns))) b c (some (.dat (.int k))) (some (.dat (.int (1 - 2 * cell)))) ((List.range 12).map fun (k : Nat) => 0 + (k : Int)) e6 ds (((1 - 2 * cell) * 48271 + k * 69621 + 11) % 2147483647) (by simp; omega)
          rw [← rngD_map] at e1
          refine ⟨ds1, some (.dat (.int (1 - 2 * cell))), f1, some (.dat (.int seed1)), ?_, by simp at l1; omega⟩
          simp only [scriptD] at e1 ec ⊢
          simp [L3__law_digits, ec, hn, e1, powD, hb]
      · by_cases hb : (1000000000000000000 : Int) ≤ cell
        · obtain ⟨ds1, cell1, f1, e1, l1⟩ := digits_1 (some (.dat (scriptD ns))) b c (some (.dat (.int k))) e7 (rngD 0 60) e6 ds cell (by simp [rngD]; omega)
          refine ⟨ds1, some (.dat (.int cell1)), f1, e7, ?_, by simpa [rngD] using l1⟩
          simp only [scriptD] at e1 ec ⊢
          simp [L3__law_digits, ec, hn, e1, powD, hb]
        · obtain ⟨ds1, seed1, f1, e1, l1⟩ := digits_2 (some (.dat (scriptD ns))) b c (some (.dat (.int k))) (some (.dat (.int cell))) ((List.range 12).map fun (k : Nat) => 0 + (k : Int)) e6 ds ((cell * 48271 + k * 69621 + 11) % 2147483647) (by simp; omega)
          rw [← rngD_map] at e1
          refine ⟨ds1, some (.dat (.int cell)), f1, some (.dat (.int seed1)), ?_, by simp at l1; omega⟩
          simp only [scriptD] at e1 ec ⊢
          simp [L3__law_digits, ec, hn, e1, powD, hb]
    obtain ⟨ds1, g5, g6, g7, e1, l1⟩ := step
    obtain ⟨ds', f4, f5, f6, f7, e2⟩ := digits_3 ns b c ks (some (.dat (.int k))) g5 g6 g7 ds1 (fun x hx => hk x (by simp [hx])) (by omega)
    exact ⟨ds', f4, f5, f6, f7, (forF_nx rfl e1).trans e2⟩
theorem digits_ok (ns : List Int) : ∃ ds : List Int, F__law_digits [scriptD ns, .int 0, .int 60] = some (.list (ds.map .int), []) := by
  obtain ⟨ds', f4, f5, f6, f7, e⟩ := digits_3 ns (some (.dat (.int 0))) (some (.dat (.int 60))) ((List.range 60).map fun (k : Nat) => 0 + (k : Int)) none none none none [] (by simp) (by simp)
  rw [← rngD_map] at e
  refine ⟨ds', ?_⟩
  simp only [scriptD, List.map_nil] at e ⊢
  simp [F__law_digits, B__law_digits, e]
/-! ### repr(a) == repr(a) -/
mutual
def Sm : D → Prop
  | .int i => i.natAbs < 10 ^ 12
  | .bool _ => True
  | .none => True
  | .str x => (x.cps.toList.all fun c => decide (c < 16 ^ 8)) = true
  | .list xs => SmAll xs
  | .tuple xs => SmAll xs
  | .dict _ => False
def SmAll : List D → Prop
  | [] => True
  | x :: xs => Sm x ∧ SmAll xs
end
mutual
theorem sm_short : ∀ d : D, Sm d → d.leavesShort 13 = true
  | .none, _ => by simp [PyData.leavesShort]
  | .bool _, _ => by simp [PyData.leavesShort]
  | .int i, h => by
    have h : i.natAbs < 10 ^ 12 := by simpa [Sm] using h
    have := int_text_length_le10 (k := 12) (by omega) h
    have e : (PyData.shown (.int i)).length ≤ 13 := by
      show (Str.ofString (toString i)).length ≤ 13
      rw [PySem.ofString_length]
      exact this
    simp only [PyData.leavesShort]
    exact decide_eq_true e
  | .str x, h => by simpa [PyData.leavesShort, Sm] using h
  | .list xs, h => by simpa [PyData.leavesShort] using sm_shorts xs (by simpa [Sm] using h)
  | .tuple xs, h => by simpa [PyData.leavesShort] using sm_shorts xs (by simpa [Sm] using h)
  | .dict _, h => by simp [Sm] at h
theorem sm_shorts : ∀ ds : List D, SmAll ds → PyData.leavesShortAll 13 ds = true
  | [], _ => by simp [PyData.leavesShortAll]
  | d :: ds, h => by
    have h : Sm d ∧ SmAll ds := by simpa [SmAll] using h
    simp [PyData.leavesShortAll, sm_short d h.1, sm_shorts ds h.2]
end
mutual
theorem sm_show : ∀ d : D, Sm d → d.showable = true ∧ d.hasDict = false
  | .none, _ => by simp [PyData.showable, PyData.hasDict]
  | .bool _, _ => by simp [PyData.showable, PyData.hasDict]
  | .int i, h => by
    have h : i.natAbs < 10 ^ 12 := by simpa [Sm] using h
    have h2 : i.natAbs.log2 < 40 := by
      by_cases h0 : i.natAbs = 0
      · rw [h0]; decide
      · exact (Nat.log2_lt h0).mpr (Nat.lt_trans h (by decide))
    simp [PyData.showable, PyData.hasDict]
    omega
  | .str x, h => by simp [PyData.showable, PyData.hasDict]
  | .list xs, h => by simpa [PyData.showable, PyData.hasDict] using sm_shows xs (by simpa [Sm] using h)
  | .tuple xs, h => by simpa [PyData.showable, PyData.hasDict] using sm_shows xs (by simpa [Sm] using h)
  | .dict _, h => by simp [Sm] at h
theorem sm_shows : ∀ ds : List D, SmAll ds → PyData.showableAll ds = true ∧ PyData.hasDictAll ds = false
  | [], _ => by simp [PyData.showableAll, PyData.hasDictAll]
  | d :: ds, h => by
    have h : Sm d ∧ SmAll ds := by simpa [SmAll] using h
    simp [PyData.showableAll, PyData.hasDictAll, sm_show d h.1, sm_shows ds h.2]
end
mutual
/-- how many places a datum has -/
def nod : D → Nat
  | .list xs => nods xs + 1
  | .tuple xs => nods xs + 1
  | .str x => x.length + 1
  | _ => 1
def nods : List D → Nat
  | [] => 0
  | x :: xs => nod x + nods xs
end
mutual
theorem sm_weight : ∀ d : D, Sm d → d.weight + 1 ≤ 42 * nod d
  | .none, _ => by simp [PyData.weight, nod]
  | .bool b, _ => by simp [PyData.weight, nod]
  | .int i, h => by
    have h : i.natAbs < 10 ^ 12 := by simpa [Sm] using h
    have h2 : i.natAbs.log2 < 40 := by
      by_cases h0 : i.natAbs = 0
      · rw [h0]; decide
      · exact (Nat.log2_lt h0).mpr (Nat.lt_trans h (by decide))
    simp only [PyData.weight, nod]
    split <;> omega
  | .str x, h => by simp [PyData.weight, nod, Str.length]; omega
  | .list xs, h => by
    have := sm_weights xs (by simpa [Sm] using h)
    simp [PyData.weight, nod]
    omega
  | .tuple xs, h => by
    have := sm_weights xs (by simpa [Sm] using h)
    simp [PyData.weight, nod]
    omega
  | .dict _, h => by simp [Sm] at h
theorem sm_weights : ∀ ds : List D, SmAll ds → PyData.weightAll ds ≤ 42 * nods ds
  | [], _ => by simp [PyData.weightAll]
  | d :: ds, h => by
    have h : Sm d ∧ SmAll ds := by simpa [SmAll] using h
    have h1 := sm_weight d h.1
    have h2 := sm_weights ds h.2
    simp [PyData.weightAll, nods]
    omega
end
theorem repr_ok {d : D} (h : Sm d) (hw : nod d ≤ 1500) (hd : d.depth ≤ 60) : reprD d = some (.str d.shown) := by
  have h1 := sm_show d h
  have h2 := PyData.shown_le 13 (by omega) d (sm_short d h)
  have h4 := sm_weight d h
  have h3 : d.shown.length ≤ 1000000 := by omega
  simp [reprD, h1, hd, h3]
theorem same_ok {d : D} (h : Sm d) (hw : nod d ≤ 1500) (hd : d.depth ≤ 60) : F__law_same [d, d] = some (.bool true, []) := by
  simp [F__law_same, B__law_same, repr_ok h hw hd, eqD]
theorem same_of {d e : D} (he : d = e) (h : Sm d) (hw : nod d ≤ 1500) (hd : d.depth ≤ 60) : F__law_same [d, e] = some (.bool true, []) := by
  subst he
  exact same_ok h hw hd
/-! ### positions and poses as four and five ints -/
abbrev I4 := Int × Int × Int × Int
abbrev Q4 (x : I4) : D := .tuple [.int x.1, .int x.2.1, .int x.2.2.1, .int x.2.2.2]
abbrev L4 (x : I4) : D := .list [.int x.1, .int x.2.1, .int x.2.2.1, .int x.2.2.2]
abbrev P5 (x : I4) (h : Int) : D := .tuple [.int x.1, .int x.2.1, .int x.2.2.1, .int x.2.2.2, .int h]
def add4 (x y : I4) : I4 := (x.1 + y.1, x.2.1 + y.2.1, x.2.2.1 + y.2.2.1, x.2.2.2 + y.2.2.2)
def sub4 (x y : I4) : I4 := (x.1 - y.1, x.2.1 - y.2.1, x.2.2.1 - y.2.2.1, x.2.2.2 - y.2.2.2)
/-- turned by e eighths -/
def tn (e : Int) (x : I4) : I4 :=
  if e % 8 = 0 then x
  else if e % 8 = 1 then (-x.2.2.2, x.1, x.2.1, x.2.2.1)
  else if e % 8 = 2 then (-x.2.2.1, -x.2.2.2, x.1, x.2.1)
  else if e % 8 = 3 then (-x.2.1, -x.2.2.1, -x.2.2.2, x.1)
  else if e % 8 = 4 then (-x.1, -x.2.1, -x.2.2.1, -x.2.2.2)
  else if e % 8 = 5 then (x.2.2.2, -x.1, -x.2.1, -x.2.2.1)
  else if e % 8 = 6 then (x.2.2.1, x.2.2.2, -x.1, -x.2.1)
  else (x.2.1, x.2.2.1, x.2.2.2, -x.1)
theorem mod8 (e : Int) : e % 8 = 0 ∨ e % 8 = 1 ∨ e % 8 = 2 ∨ e % 8 = 3 ∨ e % 8 = 4 ∨ e % 8 = 5 ∨ e % 8 = 6 ∨ e % 8 = 7 := by omega
theorem neg_h (e : Int) : (-e) % 8 = if e % 8 = 0 then 0 else 8 - e % 8 := by
  split <;> omega
theorem tn_mod {e f : Int} (h : e % 8 = f % 8) (x : I4) : tn e x = tn f x := by
  unfold tn
  rw [h]
theorem tn_back (e : Int) (x : I4) : tn e (tn (-e) x) = x := by
  obtain ⟨a, b, c, d⟩ := x
  unfold tn
  rw [neg_h]
  rcases mod8 e with h | h | h | h | h | h | h | h <;> simp [h]
theorem tn_there (e : Int) (x : I4) : tn (-e) (tn e x) = x := by
  have := tn_back (-e) x
  rw [Int.neg_neg] at this
  exact this
theorem tn_add (e : Int) (x y : I4) : tn e (add4 x y) = add4 (tn e x) (tn e y) := by
  obtain ⟨a, b, c, d⟩ := x
  obtain ⟨a', b', c', d'⟩ := y
  unfold tn add4
  rcases mod8 e with h | h | h | h | h | h | h | h <;> simp [h] <;> omega
theorem tn_sum (e f : Int) (x : I4) : tn e (tn f x) = tn (e + f) x := by
  obtain ⟨a, b, c, d⟩ := x
  unfold tn
  have k : (e + f) % 8 = (e % 8 + f % 8) % 8 := by omega
  rw [k]
  rcases mod8 e with h | h | h | h | h | h | h | h <;> rcases mod8 f with h' | h' | h' | h' | h' | h' | h' | h' <;> simp [h, h']
theorem sub_add (x y : I4) : add4 (sub4 x y) y = x := by
  obtain ⟨a, b, c, d⟩ := x
  obtain ⟨a', b', c', d'⟩ := y
  unfold add4 sub4
  simp
theorem add_sub (x y : I4) : sub4 (add4 x y) y = x := by
  obtain ⟨a, b, c, d⟩ := x
  obtain ⟨a', b', c', d'⟩ := y
  unfold add4 sub4
  simp

/-! ### the program's poses -/
theorem turned_eq (x : I4) (e : Int) : F_turned [Q4 x, .int e] = some (Q4 (tn e x), []) := by
  obtain ⟨a, b, c, d⟩ := x
  unfold tn
  rcases mod8 e with h | h | h | h | h | h | h | h
  · have h0 : (0 - e) % 8 = 0 := by omega
    have h1 : (1 - e) % 8 = 1 := by omega
    have h2 : (2 - e) % 8 = 2 := by omega
    have h3 : (3 - e) % 8 = 3 := by omega
    have h0' : (-e) % 8 = 0 := by omega
    simp [F_turned, B_turned, E1_turned, rngD, List.range, List.range.loop, lcF, h, h0, h1, h2, h3, h0']
  · have h0 : (0 - e) % 8 = 7 := by omega
    have h1 : (1 - e) % 8 = 0 := by omega
    have h2 : (2 - e) % 8 = 1 := by omega
    have h3 : (3 - e) % 8 = 2 := by omega
    have h0' : (-e) % 8 = 7 := by omega
    simp [F_turned, B_turned, E1_turned, rngD, List.range, List.range.loop, lcF, h, h0, h1, h2, h3, h0']
  · have h0 : (0 - e) % 8 = 6 := by omega
    have h1 : (1 - e) % 8 = 7 := by omega
    have h2 : (2 - e) % 8 = 0 := by omega
    have h3 : (3 - e) % 8 = 1 := by omega
    have h0' : (-e) % 8 = 6 := by omega
    simp [F_turned, B_turned, E1_turned, rngD, List.range, List.range.loop, lcF, h, h0, h1, h2, h3, h0']
  · have h0 : (0 - e) % 8 = 5 := by omega
    have h1 : (1 - e) % 8 = 6 := by omega
    have h2 : (2 - e) % 8 = 7 := by omega
    have h3 : (3 - e) % 8 = 0 := by omega
    have h0' : (-e) % 8 = 5 := by omega
    simp [F_turned, B_turned, E1_turned, rngD, List.range, List.range.loop, lcF, h, h0, h1, h2, h3, h0']
  · have h0 : (0 - e) % 8 = 4 := by omega
    have h1 : (1 - e) % 8 = 5 := by omega
    have h2 : (2 - e) % 8 = 6 := by omega
    have h3 : (3 - e) % 8 = 7 := by omega
    have h0' : (-e) % 8 = 4 := by omega
    simp [F_turned, B_turned, E1_turned, rngD, List.range, List.range.loop, lcF, h, h0, h1, h2, h3, h0']
  · have h0 : (0 - e) % 8 = 3 := by omega
    have h1 : (1 - e) % 8 = 4 := by omega
    have h2 : (2 - e) % 8 = 5 := by omega
    have h3 : (3 - e) % 8 = 6 := by omega
    have h0' : (-e) % 8 = 3 := by omega
    simp [F_turned, B_turned, E1_turned, rngD, List.range, List.range.loop, lcF, h, h0, h1, h2, h3, h0']
  · have h0 : (0 - e) % 8 = 2 := by omega
    have h1 : (1 - e) % 8 = 3 := by omega
    have h2 : (2 - e) % 8 = 4 := by omega
    have h3 : (3 - e) % 8 = 5 := by omega
    have h0' : (-e) % 8 = 2 := by omega
    simp [F_turned, B_turned, E1_turned, rngD, List.range, List.range.loop, lcF, h, h0, h1, h2, h3, h0']
  · have h0 : (0 - e) % 8 = 1 := by omega
    have h1 : (1 - e) % 8 = 2 := by omega
    have h2 : (2 - e) % 8 = 3 := by omega
    have h3 : (3 - e) % 8 = 4 := by omega
    have h0' : (-e) % 8 = 1 := by omega
    simp [F_turned, B_turned, E1_turned, rngD, List.range, List.range.loop, lcF, h, h0, h1, h2, h3, h0']
theorem moved_eq (x y : I4) : F_moved [Q4 x, Q4 y] = some (Q4 (add4 x y), []) := by
  obtain ⟨a, b, c, d⟩ := x
  obtain ⟨a', b', c', d'⟩ := y
  simp [F_moved, B_moved, E1_moved, lcF, zipD, add4]
theorem cut4 (x : I4) (h : Int) : cutD [PyData.int x.1, .int x.2.1, .int x.2.2.1, .int x.2.2.2, .int h] none (some 4) = [.int x.1, .int x.2.1, .int x.2.2.1, .int x.2.2.2] := rfl
theorem laid_eq (x y : I4) (h k : Int) : F_laid [P5 x h, P5 y k] = some (P5 (add4 (tn h y) x) ((k + h) % 8), []) := by
  have e := turned_eq y h
  have e2 := moved_eq (tn h y) x
  have c1 := cut4 x h
  have c2 := cut4 y k
  simp [F_laid, B_laid, e, e2, c1, c2]
/-! ### the law's own -/
theorem lturned_all (a b c d e : Int) (x : D) (hx : x = Q4 (a, b, c, d) ∨ x = L4 (a, b, c, d)) : F__law_turned [x, .int e] = some (Q4 (tn e (a, b, c, d)), []) := by
  unfold tn
  rcases hx with rfl | rfl
  all_goals
    rcases mod8 e with h | h | h | h | h | h | h | h
    all_goals
      have h1 : (1 + e) % 8 = (1 + e % 8) % 8 := by omega
      have h2 : (2 + e) % 8 = (2 + e % 8) % 8 := by omega
      have h3 : (3 + e) % 8 = (3 + e % 8) % 8 := by omega
      simp [F__law_turned, B__law_turned, L1__law_turned, rngD, List.range, List.range.loop, forF, h1, h2, h3, h]
theorem lturned_eq (x : I4) (e : Int) : F__law_turned [Q4 x, .int e] = some (Q4 (tn e x), []) := lturned_all _ _ _ _ e _ (.inl rfl)
theorem lturnedL_eq (x : I4) (e : Int) : F__law_turned [L4 x, .int e] = some (Q4 (tn e x), []) := lturned_all _ _ _ _ e _ (.inr rfl)
theorem llaid_eq (x y : I4) (h k : Int) : F__law_laid [P5 x h, P5 y k] = some (P5 (add4 x (tn h y)) ((h + k) % 8), []) := by
  have e := lturned_eq y h
  have c2 := cut4 y k
  simp [F__law_laid, B__law_laid, E1__law_laid, rngD, List.range, List.range.loop, lcF, e, c2, add4]
theorem lseen_eq (x y : I4) (h k : Int) : F__law_seen [P5 x h, P5 y k] = some (P5 (tn (8 - h) (sub4 y x)) ((k - h) % 8), []) := by
  have e := lturnedL_eq (sub4 y x) (8 - h)
  simp only [sub4] at e
  simp [F__law_seen, B__law_seen, E1__law_seen, rngD, List.range, List.range.loop, lcF, e, sub4]
theorem lback_eq (x : I4) (h : Int) : F__law_back [P5 x h] = some (P5 x ((h + 4) % 8), []) := by
  have c1 := cut4 x h
  simp [F__law_back, B__law_back, c1]
theorem back_eq (x : I4) (h : Int) : F_back [P5 x h] = some (P5 x ((h + 4) % 8), []) := by
  have c1 := cut4 x h
  simp [F_back, B_back, c1]
/-! ### comprehensions that change nothing around them -/
def LcStep (js : List Nat) (tg : Fg) (tt : Ft) (elt : Fe) (γ : En) (d : D) (o : Option D) : Prop :=
  ∃ γ0, tg d γ = some γ0 ∧ ((o = none ∧ ∃ γ1, tt γ0 = some (false, γ1) ∧ noOwns γ1 js = true ∧ wipeE γ1 js = γ) ∨
    (∃ y γ1 γ2, o = some y ∧ tt γ0 = some (true, γ1) ∧ elt γ1 = some (y, γ2) ∧ noOwns γ2 js = true ∧ wipeE γ2 js = γ))
theorem lcF_pure {α : Type} {enc : α → D} {js : List Nat} {tg : Fg} {tt : Ft} {elt : Fe} {γ : En} (h : α → Option D) : ∀ (ds : List α) (acc : List D), (∀ d ∈ ds, LcStep js tg tt elt γ (enc d) (h d)) → acc.length + ds.length ≤ 1000000 →
    lcF js tg tt elt (ds.map enc) γ acc = some (acc ++ ds.filterMap h, γ)
  | [], acc, _, _ => by simp [lcF]
  | d :: ds, acc, hs, hl => by
    rw [List.length_cons] at hl
    obtain ⟨γ0, e0, r⟩ := hs d (by simp)
    have ih := fun acc hl => lcF_pure (enc := enc) (js := js) (tg := tg) (tt := tt) (elt := elt) (γ := γ) h ds acc (fun x hx => hs x (by simp [hx])) hl
    rcases r with ⟨eo, γ1, e1, n1, w1⟩ | ⟨y, γ1, γ2, eo, e1, e2, n2, w2⟩
    · have := ih acc (by omega)
      simp only [List.map_cons, lcF, e0, e1, n1, if_true, w1, this, List.filterMap_cons, eo]
    · have := ih (acc ++ [y]) (by simp; omega)
      have hz : acc.length ≤ 1000000 := by omega
      simp only [List.map_cons, lcF, e0, e1, e2, n2, okN, hz, decide_true, Bool.and_self, if_true, w2, this, List.filterMap_cons, eo, List.append_assoc, List.cons_append, List.nil_append]
theorem lLc_pure {α : Type} {enc : α → D} {js : List Nat} {tg : Fg} {src : Fa} {tt : Ft} {elt : Fe} {γ γ1 : En} {ds : List α} (h : α → Option D) (hs : src γ = some (ds.map enc, γ1)) (hn : noOwns γ1 js = true) (hw : wipeE γ1 js = γ1) (hp : putBack γ1 γ1 js = γ1)
    (hst : ∀ d ∈ ds, LcStep js tg tt elt γ1 (enc d) (h d)) (hl : ds.length ≤ 1000000) : lLc js tg src tt elt γ = some (ds.filterMap h, γ1) := by
  have e := lcF_pure (enc := enc) (js := js) (tg := tg) (tt := tt) (elt := elt) (γ := γ1) h ds [] hst (by simpa using hl)
  simp only [List.nil_append] at e
  simp only [lLc, hs, hn, if_true, hw, e, hp]
/-- a step without a test -/
theorem lcs {js : List Nat} {tg : Fg} {elt : Fe} {γ γ0 γ2 : En} {d y : D} (h0 : tg d γ = some γ0) (h1 : elt γ0 = some (y, γ2)) (hn : noOwns γ2 js = true) (hw : wipeE γ2 js = γ) : LcStep js tg tYe elt γ d (some y) :=
  ⟨γ0, h0, .inr ⟨y, γ0, γ2, rfl, rfl, h1, hn, hw⟩⟩
def LcStep2 (js : List Nat) (tg : Fg) (tt : Ft) (src1 : Fa) (js1 : List Nat) (tg1 : Fg) (tt1 : Ft) (elt : Fe) (γ : En) (d : D) (out : List D) : Prop :=
  ∃ γ0, tg d γ = some γ0 ∧ ((out = [] ∧ ∃ γ1, tt γ0 = some (false, γ1) ∧ noOwns γ1 js = true ∧ wipeE γ1 js = γ) ∨
    (∃ γ1 γ2 es, tt γ0 = some (true, γ1) ∧ src1 γ1 = some (es, γ2) ∧ noOwns γ2 js1 = true ∧ out.length ≤ 1000 ∧
      ∀ acc : List D, acc.length ≤ 999000 → ∃ γ3, lcF js1 tg1 tt1 elt es (wipeE γ2 js1) acc = some (acc ++ out, γ3) ∧ noOwns γ3 js = true ∧ wipeE γ3 js = γ))
theorem lcF2_pure {α : Type} {enc : α → D} {js : List Nat} {tg : Fg} {tt : Ft} {src1 : Fa} {js1 : List Nat} {tg1 : Fg} {tt1 : Ft} {elt : Fe} {γ : En} (h : α → List D) : ∀ (ds : List α) (acc : List D), (∀ d ∈ ds, LcStep2 js tg tt src1 js1 tg1 tt1 elt γ (enc d) (h d)) → acc.length + (ds.flatMap h).length ≤ 999000 →
    lcF2 js tg tt src1 js1 tg1 tt1 elt (ds.map enc) γ acc = some (acc ++ ds.flatMap h, γ)
  | [], acc, _, _ => by simp [lcF2]
  | d :: ds, acc, hs, hl => by
    rw [List.flatMap_cons, List.length_append] at hl
    obtain ⟨γ0, e0, r⟩ := hs d (by simp)
    have ih := fun acc hl => lcF2_pure (enc := enc) (js := js) (tg := tg) (tt := tt) (src1 := src1) (js1 := js1) (tg1 := tg1) (tt1 := tt1) (elt := elt) (γ := γ) h ds acc (fun x hx => hs x (by simp [hx])) hl
    rcases r with ⟨eo, γ1, e1, n1, w1⟩ | ⟨γ1, γ2, es, e1, e2, n2, l2, q⟩
    · have := ih acc (by omega)
      simp only [List.map_cons, lcF2, e0, e1, n1, if_true, w1, this, List.flatMap_cons, eo, List.nil_append]
    · obtain ⟨γ3, q, n3, w3⟩ := q acc (by omega)
      have := ih (acc ++ h d) (by rw [List.length_append]; omega)
      simp only [List.map_cons, lcF2, e0, e1, e2, n2, if_true, q, n3, w3, this, List.flatMap_cons, List.append_assoc]
theorem lLc2_pure {α : Type} {enc : α → D} {js : List Nat} {tg : Fg} {src : Fa} {tt : Ft} {src1 : Fa} {js1 : List Nat} {tg1 : Fg} {tt1 : Ft} {elt : Fe} {γ γ1 : En} {ds : List α} (h : α → List D) (hs : src γ = some (ds.map enc, γ1)) (hn : noOwns γ1 js = true) (hw : wipeE γ1 js = γ1) (hp : putBack γ1 γ1 js = γ1)
    (hst : ∀ d ∈ ds, LcStep2 js tg tt src1 js1 tg1 tt1 elt γ1 (enc d) (h d)) (hl : (ds.flatMap h).length ≤ 999000) : lLc2 js tg src tt src1 js1 tg1 tt1 elt γ = some (ds.flatMap h, γ1) := by
  have e := lcF2_pure (enc := enc) (js := js) (tg := tg) (tt := tt) (elt := elt) (γ := γ1) h ds [] hst (by simpa using hl)
  simp only [List.nil_append] at e
  simp only [lLc2, hs, hn, if_true, hw, e, hp]
def idxL {α : Type} : Nat → List α → List (Nat × α)
  | _, [] => []
  | i, x :: r => (i, x) :: idxL (i + 1) r
theorem idxL_len {α : Type} : ∀ (l : List α) (i : Nat), (idxL i l).length = l.length
  | [], _ => rfl
  | _ :: r, i => congrArg (· + 1) (idxL_len r (i + 1))
theorem idxL_snd {α : Type} : ∀ (l : List α) (i : Nat), (idxL i l).map (·.2) = l
  | [], _ => rfl
  | x :: r, i => congrArg (x :: ·) (idxL_snd r (i + 1))
theorem enumL_map {α : Type} (f : α → D) : ∀ (l : List α) (i : Nat), enumL i (l.map f) = (idxL i l).map fun x => PyData.tuple [.int (x.1 : Int), f x.2]
  | [], _ => rfl
  | x :: r, i => congrArg (_ :: ·) (enumL_map f r (i + 1))
theorem fm_map {α β : Type} (f : α → β) : ∀ l : List α, l.filterMap (fun x => some (f x)) = l.map f
  | [] => rfl
  | a :: r => by rw [List.filterMap_cons, List.map_cons, fm_map f r]
/-! ### pieces and their ends -/
abbrev Ps := I4 × Int
abbrev F5 (p : Ps) : D := P5 p.1 p.2
def comp (p q : Ps) : Ps := (add4 (tn p.2 q.1) p.1, (q.2 + p.2) % 8)
def bk (p : Ps) : Ps := (p.1, (p.2 + 4) % 8)
theorem add_comm4 (x y : I4) : add4 x y = add4 y x := by
  unfold add4
  rw [Int.add_comm x.1, Int.add_comm x.2.1, Int.add_comm x.2.2.1, Int.add_comm x.2.2.2]
inductive Kd where
  | s | h | c | p | q | x
deriving DecidableEq
def kt : Kd → Str
  | .s => "S"
  | .h => "H"
  | .c => "C"
  | .p => "P"
  | .q => "Q"
  | .x => "X"
def ahd : Kd → List Ps
  | .s => [((2, 0, 0, 0), 0)]
  | .h => [((1, 0, 0, 0), 0)]
  | .c => [((0, 0, 2, -2), 1)]
  | .p => [((2, 0, 0, 0), 0), ((0, 0, 2, -2), 1)]
  | .q => [((2, 0, 0, 0), 0), ((0, 2, -2, 0), 7)]
  | .x => [((2, 0, 0, 0), 0), ((1, 0, 1, 0), 2), ((1, 0, -1, 0), 6)]
def ends (k : Kd) (p : Ps) : List Ps := bk p :: (ahd k).map (comp p)
theorem ends_len (k : Kd) (p : Ps) : (ends k p).length ≤ 4 := by cases k <;> simp [ends, ahd]
theorem ends_pos (k : Kd) (p : Ps) : 2 ≤ (ends k p).length := by cases k <;> simp [ends, ahd]
theorem if_t {c : Ft} {a b : Fs} {γ γ1 : En} {o : Option Out} (h : c γ = some (true, γ1)) (k : a γ1 = o) : sIf c a b γ = o := by
  unfold sIf
  rw [h]
  exact k
theorem if_f {c : Ft} {a b : Fs} {γ γ1 : En} {o : Option Out} (h : c γ = some (false, γ1)) (k : b γ1 = o) : sIf c a b γ = o := by
  unfold sIf
  rw [h]
  exact k
theorem plaid (p q : Ps) : F_laid [F5 p, F5 q] = some (F5 (comp p q), []) := laid_eq p.1 q.1 p.2 q.2
theorem lplaid (p q : Ps) : F__law_laid [F5 p, F5 q] = some (F5 (comp p q), []) := by
  rw [llaid_eq p.1 q.1 p.2 q.2]
  unfold comp
  rw [add_comm4, Int.add_comm p.2]
theorem pback (p : Ps) : F_back [F5 p] = some (F5 (bk p), []) := back_eq p.1 p.2
theorem lpback (p : Ps) : F__law_back [F5 p] = some (F5 (bk p), []) := lback_eq p.1 p.2
theorem ends_lc (a : Option Ent) (p : Ps) : ∀ (es : List Ps) (acc : List Ps), acc.length + es.length ≤ 1000 → lcF [2] (gDat 2) tYe E1_ends_of (es.map F5) [a, some (.dat (F5 p)), none] (acc.map F5) = some ((acc ++ es.map (comp p)).map F5, [a, some (.dat (F5 p)), none])
  | [], acc, _ => by simp [lcF]
  | q :: es, acc, hl => by
    rw [List.length_cons] at hl
    have k := ends_lc a p es (acc ++ [comp p q]) (by simp; omega)
    have hz : acc.length ≤ 1000000 := by omega
    have l := plaid p q
    have ee : E1_ends_of [a, some (.dat (F5 p)), some (.dat (F5 q))] = some (F5 (comp p q), [a, some (.dat (F5 p)), some (.dat (F5 q))]) := by simp only [E1_ends_of, runF, ini, gt, view, fN, fC, f2, f2n, f2m, f2nn, okN, addD, subD, fdivD, modD, cmpI, isNo, isNd, notNd, ixD, tYe, ofB, cNot, cAnd, cOr, fAnd, fOr, fNot, fNeg, fIf, aNil, aCons, fTup, fL, lDisp, DN.f1, f1n, lenD, intD, absD, tupleD, listD, lOf, lOfn, pNo, pOf, slD, fSl, fSln, pinB, gDat, gsNo, gsCons, gTp, gLp, sNil, sSeq, sAsg, sOwn, sSet, sApp, sDrop, sRet, sRetN, sBk, sCt, sIf, wOf, wR1, wR2, small62, sFor, cTru, cTrun, truD, lRep, sAsg2, fCallL, aLend, allD, sumD, wEnum, revTD, sNone, fCall, fCallB, ownB, lLc, simp_ix1, simp_ix2, List.set, List.length_cons, List.length_nil, List.map_cons, List.map_nil, List.cons_append, List.nil_append, List.replicate, Option.bind_some, Option.map_some, if_true, if_false, Bool.false_eq_true, Bool.not_true, Bool.not_false, decide_true, decide_false, reduceIte, Nat.reduceAdd, Nat.reduceLeDiff, Nat.reduceEqDiff, Int.reduceLE, Int.reduceLT, Int.reduceToNat, List.getElem?_cons_zero, List.getElem?_cons_succ, Int.cast_ofNat_Int, Nat.zero_add, Int.zero_le_ofNat, ixX, inX, notInX, catL, lCat, lCatn, fTxt, fTxtGet, sTxtPut, sTxt, sDicNew, sDicPut, fGet1, fGet2, wKey, fDl, sOwnX, sRetO, runX, iniX, tellX, notInD, l]
    rw [List.map_append, List.map_cons, List.map_nil, List.append_assoc] at k
    simp [lcF, ee, hz, k]
theorem ends_ok (key : Str) (p : Ps) (es : List Ps) (h : tabD c_ENDS_AHEAD (.str key) = some (.tuple (es.map F5))) (hl : es.length ≤ 100) : F_ends_of [.str key, F5 p] = some (.tuple (F5 (bk p) :: (es.map (comp p)).map F5), []) := by
  have e := ends_lc (some (.dat (.str key))) p es [] (by simp; omega)
  have b := pback p
  simp only [List.map_nil, List.nil_append] at e
  have hz : (([F5 (bk p)] : List D).length + ((es.map (comp p)).map F5).length ≤ 1000000) := by simp; omega
  have ad : addD (.list [F5 (bk p)]) (.list ((es.map (comp p)).map F5)) = some (.list (F5 (bk p) :: (es.map (comp p)).map F5)) := by
    simp only [addD, okN, hz, decide_true, if_true, List.cons_append, List.nil_append]
  simp only [↓ad, ↓h, F_ends_of, B_ends_of, runF, ini, gt, view, fN, fC, f2, f2n, f2m, f2nn, okN, addD, subD, fdivD, modD, cmpI, isNo, isNd, notNd, ixD, tYe, ofB, cNot, cAnd, cOr, fAnd, fOr, fNot, fNeg, fIf, aNil, aCons, fTup, fL, lDisp, DN.f1, f1n, lenD, intD, absD, tupleD, listD, lOf, lOfn, pNo, pOf, slD, fSl, fSln, pinB, gDat, gsNo, gsCons, gTp, gLp, sNil, sSeq, sAsg, sOwn, sSet, sApp, sDrop, sRet, sRetN, sBk, sCt, sIf, wOf, wR1, wR2, small62, sFor, cTru, cTrun, truD, lRep, sAsg2, fCallL, aLend, allD, sumD, wEnum, revTD, sNone, fCall, fCallB, ownB, lLc, simp_ix1, simp_ix2, List.set, List.length_cons, List.length_nil, List.map_cons, List.map_nil, List.cons_append, List.nil_append, List.replicate, Option.bind_some, Option.map_some, if_true, if_false, Bool.false_eq_true, Bool.not_true, Bool.not_false, decide_true, decide_false, reduceIte, Nat.reduceAdd, Nat.reduceLeDiff, Nat.reduceEqDiff, Int.reduceLE, Int.reduceLT, Int.reduceToNat, List.getElem?_cons_zero, List.getElem?_cons_succ, Int.cast_ofNat_Int, Nat.zero_add, Int.zero_le_ofNat, ixX, inX, notInX, catL, lCat, lCatn, fTxt, fTxtGet, sTxtPut, sTxt, sDicNew, sDicPut, fGet1, fGet2, wKey, fDl, sOwnX, sRetO, runX, iniX, tellX, notInD, noOwns, wipeE, putBack, Bool.and_self, b, e]
theorem pends (k : Kd) (p : Ps) : F_ends_of [.str (kt k), F5 p] = some (.tuple ((ends k p).map F5), []) := by
  cases k <;> exact ends_ok _ p _ rfl (by simp [ahd])
/-! ### the law's ends -/
theorem comp_back (p : Ps) : comp p ((0, 0, 0, 0), 4) = bk p := by
  obtain ⟨⟨a, b, c, d⟩, h⟩ := p
  unfold comp bk
  refine Prod.ext ?_ (by simp only; omega)
  unfold tn add4
  rcases mod8 h with e | e | e | e | e | e | e | e <;> simp [e]
theorem lends_lc (k0 : D) (b1 b2 b3 b4 : Option Ent) (p : Ps) : ∀ (es : List Ps) (acc : List Ps), acc.length + es.length ≤ 1000 → lcF [5] (gDat 5) tYe E1__law_ends (es.map F5) [some (.dat (.tuple [k0, F5 p])), b1, b2, b3, b4, none] (acc.map F5) = some ((acc ++ es.map (comp p)).map F5, [some (.dat (.tuple [k0, F5 p])), b1, b2, b3, b4, none])
  | [], acc, _ => by simp [lcF]
  | q :: es, acc, hl => by
    rw [List.length_cons] at hl
    have k := lends_lc k0 b1 b2 b3 b4 p es (acc ++ [comp p q]) (by simp; omega)
    have hz : acc.length ≤ 1000000 := by omega
    have l := lplaid p q
    have ee : E1__law_ends [some (.dat (.tuple [k0, F5 p])), b1, b2, b3, b4, some (.dat (F5 q))] = some (F5 (comp p q), [some (.dat (.tuple [k0, F5 p])), b1, b2, b3, b4, some (.dat (F5 q))]) := by
      simp only [E1__law_ends, runF, ini, gt, view, fN, fC, f2, f2n, f2m, f2nn, okN, addD, subD, fdivD, modD, cmpI, isNo, isNd, notNd, ixD, tYe, ofB, cNot, cAnd, cOr, fAnd, fOr, fNot, fNeg, fIf, aNil, aCons, fTup, fL, lDisp, DN.f1, f1n, lenD, intD, absD, tupleD, listD, lOf, lOfn, pNo, pOf, slD, fSl, fSln, pinB, gDat, gsNo, gsCons, gTp, gLp, sNil, sSeq, sAsg, sOwn, sSet, sApp, sDrop, sRet, sRetN, sBk, sCt, sIf, wOf, wR1, wR2, small62, sFor, cTru, cTrun, truD, lRep, sAsg2, fCallL, aLend, allD, sumD, wEnum, revTD, sNone, fCall, fCallB, ownB, lLc, simp_ix1, simp_ix2, List.set, List.length_cons, List.length_nil, List.map_cons, List.map_nil, List.cons_append, List.nil_append, List.replicate, Option.bind_some, Option.map_some, if_true, if_false, Bool.false_eq_true, Bool.not_true, Bool.not_false, decide_true, decide_false, reduceIte, Nat.reduceAdd, Nat.reduceLeDiff, Nat.reduceEqDiff, Int.reduceLE, Int.reduceLT, Int.reduceToNat, List.getElem?_cons_zero, List.getElem?_cons_succ, Int.cast_ofNat_Int, Nat.zero_add, Int.zero_le_ofNat, ixX, inX, notInX, catL, lCat, lCatn, fTxt, fTxtGet, sTxtPut, sTxt, sDicNew, sDicPut, fGet1, fGet2, wKey, fDl, sOwnX, sRetO, runX, iniX, tellX, notInD, l]
    rw [List.map_append, List.map_cons, List.map_nil, List.append_assoc] at k
    simp [lcF, ee, hz, k]
def lrows : List (Str × D) := [("S", .list ((((0, 0, 0, 0), 4) :: ahd .s).map F5)), ("H", .list ((((0, 0, 0, 0), 4) :: ahd .h).map F5)), ("C", .list ((((0, 0, 0, 0), 4) :: ahd .c).map F5)), ("P", .list ((((0, 0, 0, 0), 4) :: ahd .p).map F5)), ("Q", .list ((((0, 0, 0, 0), 4) :: ahd .q).map F5)), ("X", .list ((((0, 0, 0, 0), 4) :: ahd .x).map F5))]
theorem lrows_at (k : Kd) : tabM lrows (kt k) none = some (.list ((((0, 0, 0, 0), 4) :: ahd k).map F5)) := by cases k <;> rfl
abbrev lS (k : Kd) (p : Ps) : En := [some (.dat (.tuple [.str (kt k), F5 p])), some (.dat (F5 ((0, 0, 0, 0), 4))), some (.dat (F5 ((0, 0, 2, -2), 1))), some (.dat (F5 ((2, 0, 0, 0), 0))), some (.ow false (.txt lrows)), none]
theorem lends_fin (k : Kd) (p : Ps) (es0 E : List D) (h : tabM lrows (kt k) none = some (.list es0)) (e : lcF [5] (gDat 5) tYe E1__law_ends es0 (lS k p) [] = some (E, lS k p)) : sRet (fL (lLc [5] (gDat 5) (wOf (fTxt 4 (f2n ixX 0 (fC (.int 0))))) tYe E1__law_ends)) (lS k p) = some (.rt (.list E) (lS k p)) := by
  simp only [runF, ini, gt, view, fN, fC, f2, f2n, f2m, f2nn, okN, addD, subD, fdivD, modD, cmpI, isNo, isNd, notNd, ixD, tYe, ofB, cNot, cAnd, cOr, fAnd, fOr, fNot, fNeg, fIf, aNil, aCons, fTup, fL, lDisp, DN.f1, f1n, lenD, intD, absD, tupleD, listD, lOf, lOfn, pNo, pOf, slD, fSl, fSln, pinB, gDat, gsNo, gsCons, gTp, gLp, sNil, sSeq, sAsg, sOwn, sSet, sApp, sDrop, sRet, sRetN, sBk, sCt, sIf, wOf, wR1, wR2, small62, sFor, cTru, cTrun, truD, lRep, sAsg2, fCallL, aLend, allD, sumD, wEnum, revTD, sNone, fCall, fCallB, ownB, lLc, simp_ix1, simp_ix2, List.set, List.length_cons, List.length_nil, List.map_cons, List.map_nil, List.cons_append, List.nil_append, List.replicate, Option.bind_some, Option.map_some, if_true, if_false, Bool.false_eq_true, Bool.not_true, Bool.not_false, decide_true, decide_false, reduceIte, Nat.reduceAdd, Nat.reduceLeDiff, Nat.reduceEqDiff, Int.reduceLE, Int.reduceLT, Int.reduceToNat, List.getElem?_cons_zero, List.getElem?_cons_succ, Int.cast_ofNat_Int, Nat.zero_add, Int.zero_le_ofNat, ixX, inX, notInX, catL, lCat, lCatn, fTxt, fTxtGet, sTxtPut, sTxt, sDicNew, sDicPut, fGet1, fGet2, wKey, fDl, sOwnX, sRetO, runX, iniX, tellX, notInD, lS, h, noOwns, wipeE, putBack, Bool.and_self] at e ⊢
  simp only [e]
  rfl
theorem lends (k : Kd) (p : Ps) : F__law_ends [.tuple [.str (kt k), F5 p]] = some (.list ((ends k p).map F5), []) := by
  have e := lends_lc (.str (kt k)) (some (.dat (F5 ((0, 0, 0, 0), 4)))) (some (.dat (F5 ((0, 0, 2, -2), 1)))) (some (.dat (F5 ((2, 0, 0, 0), 0)))) (some (.ow false (.txt lrows))) p (((0, 0, 0, 0), 4) :: ahd k) [] (by cases k <;> simp [ahd])
  have en : (((0, 0, 0, 0), 4) :: ahd k).map (comp p) = ends k p := by rw [List.map_cons, comp_back, ends]
  rw [List.map_nil, List.nil_append, en] at e
  have fin := lends_fin k p _ _ (lrows_at k) e
  have main : B__law_ends [some (.dat (.tuple [.str (kt k), F5 p])), none, none, none, none, none] = some (.rt (.list ((ends k p).map F5)) (lS k p)) := by
    unfold B__law_ends
    refine (seq_nx (γ1 := [some (.dat (.tuple [.str (kt k), F5 p])), some (.dat (F5 ((0, 0, 0, 0), 4))), none, none, none, none]) rfl).trans ?_
    refine (seq_nx (γ1 := [some (.dat (.tuple [.str (kt k), F5 p])), some (.dat (F5 ((0, 0, 0, 0), 4))), some (.dat (F5 ((0, 0, 2, -2), 1))), none, none, none]) rfl).trans ?_
    refine (seq_nx (γ1 := [some (.dat (.tuple [.str (kt k), F5 p])), some (.dat (F5 ((0, 0, 0, 0), 4))), some (.dat (F5 ((0, 0, 2, -2), 1))), some (.dat (F5 ((2, 0, 0, 0), 0))), none, none]) rfl).trans ?_
    refine (seq_nx (γ1 := [some (.dat (.tuple [.str (kt k), F5 p])), some (.dat (F5 ((0, 0, 0, 0), 4))), some (.dat (F5 ((0, 0, 2, -2), 1))), some (.dat (F5 ((2, 0, 0, 0), 0))), some (.ow false (.txt (lrows.take 4))), none]) rfl).trans ?_
    refine (seq_nx (γ1 := [some (.dat (.tuple [.str (kt k), F5 p])), some (.dat (F5 ((0, 0, 0, 0), 4))), some (.dat (F5 ((0, 0, 2, -2), 1))), some (.dat (F5 ((2, 0, 0, 0), 0))), some (.ow false (.txt (lrows.take 5))), none]) rfl).trans ?_
    refine (seq_nx (γ1 := lS k p) rfl).trans ?_
    exact fin
  unfold F__law_ends runF
  have i0 : ini false 5 [.tuple [.str (kt k), F5 p]] = [some (.dat (.tuple [.str (kt k), F5 p])), none, none, none, none, none] := rfl
  rw [i0, main]
  rfl
/-! ### layouts -/
abbrev Pc := Option (Kd × Ps)
def pcD : Pc → D
  | none => .none
  | some (k, p) => .tuple [.str (kt k), F5 p]
def endsP : Pc → List Ps
  | none => []
  | some (k, p) => ends k p
def endsA (l : List Pc) : List Ps := l.flatMap endsP
theorem endsP_len (x : Pc) : (endsP x).length ≤ 4 := by
  cases x with
  | none => simp [endsP]
  | some kp => exact ends_len kp.1 kp.2
theorem endsA_len : ∀ l : List Pc, (endsA l).length ≤ 4 * l.length
  | [] => by simp [endsA]
  | x :: r => by
    have h1 := endsP_len x
    have h2 := endsA_len r
    simp only [endsA, List.flatMap_cons, List.length_append, List.length_cons] at h2 ⊢
    omega
/-! ### all ends of a layout -/
def pl (l : List Pc) : List (Nat × Kd × Ps) := (idxL 0 l).filterMap fun x => x.2.map fun kp => (x.1, kp)
def encP (x : Nat × Kd × Ps) : D := .tuple [.int (x.1 : Int), .tuple [.str (kt x.2.1), F5 x.2.2]]
def eE (x : Nat × Kd × Ps) : List (Nat × Nat × Ps) := (idxL 0 (ends x.2.1 x.2.2)).map fun y => (x.1, y.1, y.2)
def allE (l : List Pc) : List (Nat × Nat × Ps) := (pl l).flatMap eE
def rowT (x : Nat × Nat × Ps) : D := .tuple [.int (x.1 : Int), .int (x.2.1 : Int), F5 x.2.2]
def rowL (x : Nat × Nat × Ps) : D := .list [.int (x.1 : Int), .int (x.2.1 : Int), F5 x.2.2]
theorem eE_len (x : Nat × Kd × Ps) : (eE x).length ≤ 4 := by
  simp only [eE, List.length_map, idxL_len]
  exact ends_len _ _
theorem eE_pose (x : Nat × Kd × Ps) : (eE x).map (·.2.2) = ends x.2.1 x.2.2 := by
  unfold eE
  rw [List.map_map]
  exact idxL_snd (ends x.2.1 x.2.2) 0
theorem flat_len {α β : Type} {f : α → List β} {n : Nat} (h : ∀ x, (f x).length ≤ n) : ∀ l : List α, (l.flatMap f).length ≤ n * l.length
  | [] => by simp
  | x :: r => by
    have h1 := h x
    have h2 := flat_len h r
    simp only [List.flatMap_cons, List.length_append, List.length_cons, Nat.mul_succ]
    omega
theorem pl_len (l : List Pc) : (pl l).length ≤ l.length := by
  have := List.length_filterMap_le (fun x : Nat × Pc => x.2.map fun kp => (x.1, kp)) (idxL 0 l)
  rw [idxL_len] at this
  exact this
theorem pl_at : ∀ (l : List Pc) (i : Nat), ((idxL i l).filterMap fun x => x.2.map fun kp => (x.1, kp)).flatMap (fun x => ends x.2.1 x.2.2) = endsA l
  | [], _ => rfl
  | none :: r, i => by
    have := pl_at r (i + 1)
    simp only [idxL, List.filterMap_cons, Option.map_none, endsA, List.flatMap_cons, endsP, List.nil_append] at this ⊢
    exact this
  | some (k, p) :: r, i => by
    have := pl_at r (i + 1)
    simp only [idxL, List.filterMap_cons, Option.map_some, endsA, List.flatMap_cons, endsP] at this ⊢
    rw [this]
theorem allE_pose (l : List Pc) : (allE l).map (·.2.2) = endsA l := by
  rw [allE, List.map_flatMap]
  have : (fun x : Nat × Kd × Ps => (eE x).map (·.2.2)) = fun x => ends x.2.1 x.2.2 := funext eE_pose
  rw [this]
  exact pl_at l 0
theorem allE_len (l : List Pc) : (allE l).length ≤ 4 * l.length := by
  have h1 := flat_len eE_len (pl l)
  have h2 := pl_len l
  unfold allE
  omega
theorem ends_in_eq (l : List Pc) (hl : l.length ≤ 1000) : F_ends_in [.tuple (l.map pcD)] = some (.tuple ((allE l).map rowT), []) := by
  let G : Option Ent → En := fun g => [some (.dat (.tuple (l.map pcD))), g, none, none, none, none]
  have c1 : lLc [2, 3] (gTp 2 (gsCons (gDat 2) (gsCons (gDat 3) gsNo))) (wEnum (fN 0)) (ofB (f2n notNd 3 (fC .none))) E1_ends_in (G none) = some ((pl l).map encP, G none) := by
    have := lLc_pure (enc := fun x : Nat × Pc => PyData.tuple [.int (x.1 : Int), pcD x.2]) (js := [2, 3]) (tg := gTp 2 (gsCons (gDat 2) (gsCons (gDat 3) gsNo))) (src := wEnum (fN 0)) (tt := ofB (f2n notNd 3 (fC .none))) (elt := E1_ends_in) (γ := G none) (γ1 := G none) (ds := idxL 0 l)
      (fun x => (x.2.map fun kp => (x.1, kp)).map encP) (by simp only [runF, ini, gt, view, fN, fC, f2, f2n, f2m, f2nn, okN, addD, subD, fdivD, modD, cmpI, isNo, isNd, notNd, ixD, tYe, ofB, cNot, cAnd, cOr, fAnd, fOr, fNot, fNeg, fIf, aNil, aCons, fTup, fL, lDisp, DN.f1, f1n, lenD, intD, absD, tupleD, listD, lOf, lOfn, pNo, pOf, slD, fSl, fSln, pinB, gDat, gsNo, gsCons, gTp, gLp, sNil, sSeq, sAsg, sOwn, sSet, sApp, sDrop, sRet, sRetN, sBk, sCt, sIf, wOf, wR1, wR2, small62, sFor, cTru, cTrun, truD, lRep, sAsg2, fCallL, aLend, allD, sumD, wEnum, revTD, sNone, fCall, fCallB, ownB, lLc, simp_ix1, simp_ix2, List.set, List.length_cons, List.length_nil, List.map_cons, List.map_nil, List.cons_append, List.nil_append, List.replicate, Option.bind_some, Option.map_some, if_true, if_false, Bool.false_eq_true, Bool.not_true, Bool.not_false, decide_true, decide_false, reduceIte, Nat.reduceAdd, Nat.reduceLeDiff, Nat.reduceEqDiff, Int.reduceLE, Int.reduceLT, Int.reduceToNat, List.getElem?_cons_zero, List.getElem?_cons_succ, Int.cast_ofNat_Int, Nat.zero_add, Int.zero_le_ofNat, ixX, inX, notInX, catL, lCat, lCatn, fTxt, fTxtGet, sTxtPut, sTxt, sDicNew, sDicPut, fGet1, fGet2, wKey, fDl, sOwnX, sRetO, runX, iniX, tellX, notInD, G, enumL_map]) (by simp [G, noOwns]) (by simp [G, wipeE]) (by simp [G, putBack, wipeE]) (fun d hd => by
        obtain ⟨n, x⟩ := d
        cases x with
        | none => exact ⟨[some (.dat (.tuple (l.map pcD))), none, some (.dat (.int n)), some (.dat .none), none, none], by simp [G, pcD], .inl ⟨rfl, [some (.dat (.tuple (l.map pcD))), none, some (.dat (.int n)), some (.dat .none), none, none], by simp [isNo], by simp [noOwns], by simp [wipeE, G]⟩⟩
        | some kp =>
          obtain ⟨k, p⟩ := kp
          let g : En := [some (.dat (.tuple (l.map pcD))), none, some (.dat (.int n)), some (.dat (pcD (some (k, p)))), none, none]
          exact ⟨g, by simp [G, pcD, g], .inr ⟨encP (n, k, p), g, g, rfl, by simp [g, pcD, isNo], by simp [E1_ends_in, g, pcD, encP], by simp [noOwns, g], by simp [wipeE, G, g]⟩⟩) (by rw [idxL_len]; omega)
    rw [this]
    congr 2
    unfold pl
    rw [List.map_filterMap]
  have c2 : lLc2 [2, 3, 4, 5] (gTp 2 (gsCons (gDat 2) (gsCons (gDat 3) gsNo))) (wOf (fN 1)) tYe W2_ends_in [4, 5] (gTp 2 (gsCons (gDat 4) (gsCons (gDat 5) gsNo))) tYe E3_ends_in (G (some (.dat (.list ((pl l).map encP))))) = some ((allE l).map rowT, G (some (.dat (.list ((pl l).map encP))))) := by
    have := lLc2_pure (enc := encP) (js := [2, 3, 4, 5]) (tg := gTp 2 (gsCons (gDat 2) (gsCons (gDat 3) gsNo))) (src := wOf (fN 1)) (tt := tYe) (src1 := W2_ends_in) (js1 := [4, 5]) (tg1 := gTp 2 (gsCons (gDat 4) (gsCons (gDat 5) gsNo))) (tt1 := tYe) (elt := E3_ends_in) (γ := G (some (.dat (.list ((pl l).map encP))))) (γ1 := G (some (.dat (.list ((pl l).map encP))))) (ds := pl l)
      (fun x => (eE x).map rowT) (by simp only [runF, ini, gt, view, fN, fC, f2, f2n, f2m, f2nn, okN, addD, subD, fdivD, modD, cmpI, isNo, isNd, notNd, ixD, tYe, ofB, cNot, cAnd, cOr, fAnd, fOr, fNot, fNeg, fIf, aNil, aCons, fTup, fL, lDisp, DN.f1, f1n, lenD, intD, absD, tupleD, listD, lOf, lOfn, pNo, pOf, slD, fSl, fSln, pinB, gDat, gsNo, gsCons, gTp, gLp, sNil, sSeq, sAsg, sOwn, sSet, sApp, sDrop, sRet, sRetN, sBk, sCt, sIf, wOf, wR1, wR2, small62, sFor, cTru, cTrun, truD, lRep, sAsg2, fCallL, aLend, allD, sumD, wEnum, revTD, sNone, fCall, fCallB, ownB, lLc, simp_ix1, simp_ix2, List.set, List.length_cons, List.length_nil, List.map_cons, List.map_nil, List.cons_append, List.nil_append, List.replicate, Option.bind_some, Option.map_some, if_true, if_false, Bool.false_eq_true, Bool.not_true, Bool.not_false, decide_true, decide_false, reduceIte, Nat.reduceAdd, Nat.reduceLeDiff, Nat.reduceEqDiff, Int.reduceLE, Int.reduceLT, Int.reduceToNat, List.getElem?_cons_zero, List.getElem?_cons_succ, Int.cast_ofNat_Int, Nat.zero_add, Int.zero_le_ofNat, ixX, inX, notInX, catL, lCat, lCatn, fTxt, fTxtGet, sTxtPut, sTxt, sDicNew, sDicPut, fGet1, fGet2, wKey, fDl, sOwnX, sRetO, runX, iniX, tellX, notInD, G]) (by simp [G, noOwns]) (by simp [G, wipeE]) (by simp [G, putBack, wipeE]) (fun d hd => by
        obtain ⟨n, k, p⟩ := d
        let g : En := [some (.dat (.tuple (l.map pcD))), some (.dat (.list ((pl l).map encP))), some (.dat (.int n)), some (.dat (pcD (some (k, p)))), none, none]
        have pe := pends k p
        refine ⟨g, by simp [G, encP, g, pcD], .inr ⟨g, g, (idxL 0 (ends k p)).map fun x => PyData.tuple [.int (x.1 : Int), F5 x.2], rfl, ?_, by simp [noOwns, g], ?_, fun acc ha => ⟨g, ?_, by simp [noOwns, g], by simp [wipeE, G, g]⟩⟩⟩
        · simp only [W2_ends_in, runF, ini, gt, view, fN, fC, f2, f2n, f2m, f2nn, okN, addD, subD, fdivD, modD, cmpI, isNo, isNd, notNd, ixD, tYe, ofB, cNot, cAnd, cOr, fAnd, fOr, fNot, fNeg, fIf, aNil, aCons, fTup, fL, lDisp, DN.f1, f1n, lenD, intD, absD, tupleD, listD, lOf, lOfn, pNo, pOf, slD, fSl, fSln, pinB, gDat, gsNo, gsCons, gTp, gLp, sNil, sSeq, sAsg, sOwn, sSet, sApp, sDrop, sRet, sRetN, sBk, sCt, sIf, wOf, wR1, wR2, small62, sFor, cTru, cTrun, truD, lRep, sAsg2, fCallL, aLend, allD, sumD, wEnum, revTD, sNone, fCall, fCallB, ownB, lLc, simp_ix1, simp_ix2, List.set, List.length_cons, List.length_nil, List.map_cons, List.map_nil, List.cons_append, List.nil_append, List.replicate, Option.bind_some, Option.map_some, if_true, if_false, Bool.false_eq_true, Bool.not_true, Bool.not_false, decide_true, decide_false, reduceIte, Nat.reduceAdd, Nat.reduceLeDiff, Nat.reduceEqDiff, Int.reduceLE, Int.reduceLT, Int.reduceToNat, List.getElem?_cons_zero, List.getElem?_cons_succ, Int.cast_ofNat_Int, Nat.zero_add, Int.zero_le_ofNat, ixX, inX, notInX, catL, lCat, lCatn, fTxt, fTxtGet, sTxtPut, sTxt, sDicNew, sDicPut, fGet1, fGet2, wKey, fDl, sOwnX, sRetO, runX, iniX, tellX, notInD, g, pcD, pe, enumL_map]
        · have := eE_len (n, k, p)
          simp; omega
        · have w : wipeE g [4, 5] = g := by simp [wipeE, g]
          rw [w]
          have := lcF_pure (enc := fun x : Nat × Ps => PyData.tuple [.int (x.1 : Int), F5 x.2]) (js := [4, 5]) (tg := gTp 2 (gsCons (gDat 4) (gsCons (gDat 5) gsNo))) (tt := tYe) (elt := E3_ends_in) (γ := g) (fun y => some (rowT (n, y.1, y.2))) (idxL 0 (ends k p)) acc (fun y hy => by
            refine lcs (γ0 := [some (.dat (.tuple (l.map pcD))), some (.dat (.list ((pl l).map encP))), some (.dat (.int n)), some (.dat (pcD (some (k, p)))), some (.dat (.int y.1)), some (.dat (F5 y.2))]) (by simp [g]) (γ2 := [some (.dat (.tuple (l.map pcD))), some (.dat (.list ((pl l).map encP))), some (.dat (.int n)), some (.dat (pcD (some (k, p)))), some (.dat (.int y.1)), some (.dat (F5 y.2))]) ?_ (by simp [noOwns]) (by simp [wipeE, g])
            simp [E3_ends_in, rowT]) (by have := ends_len k p; rw [idxL_len]; omega)
          rw [this, fm_map]
          simp only [eE, List.map_map]
          rfl) (by
        have h1 : ∀ x, ((eE x).map rowT).length ≤ 4 := fun x => by rw [List.length_map]; exact eE_len x
        have h2 := flat_len h1 (pl l)
        have h3 := pl_len l
        omega)
    rw [this]
    unfold allE
    rw [List.map_flatMap]
  simp only [G] at c1 c2
  simp only [F_ends_in, B_ends_in, runF, ini, gt, view, fN, fC, f2, f2n, f2m, f2nn, okN, addD, subD, fdivD, modD, cmpI, isNo, isNd, notNd, ixD, tYe, ofB, cNot, cAnd, cOr, fAnd, fOr, fNot, fNeg, fIf, aNil, aCons, fTup, fL, lDisp, DN.f1, f1n, lenD, intD, absD, tupleD, listD, lOf, lOfn, pNo, pOf, slD, fSl, fSln, pinB, gDat, gsNo, gsCons, gTp, gLp, sNil, sSeq, sAsg, sOwn, sSet, sApp, sDrop, sRet, sRetN, sBk, sCt, sIf, wOf, wR1, wR2, small62, sFor, cTru, cTrun, truD, lRep, sAsg2, fCallL, aLend, allD, sumD, wEnum, revTD, sNone, fCall, fCallB, ownB, simp_ix1, simp_ix2, List.set, List.length_cons, List.length_nil, List.map_cons, List.map_nil, List.cons_append, List.nil_append, List.replicate, Option.bind_some, Option.map_some, if_true, if_false, Bool.false_eq_true, Bool.not_true, Bool.not_false, decide_true, decide_false, reduceIte, Nat.reduceAdd, Nat.reduceLeDiff, Nat.reduceEqDiff, Int.reduceLE, Int.reduceLT, Int.reduceToNat, List.getElem?_cons_zero, List.getElem?_cons_succ, Int.cast_ofNat_Int, Nat.zero_add, Int.zero_le_ofNat, ixX, inX, notInX, catL, lCat, lCatn, fTxt, fTxtGet, sTxtPut, sTxt, sDicNew, sDicPut, fGet1, fGet2, wKey, fDl, sOwnX, sRetO, runX, iniX, tellX, notInD, c1, c2]
/-! ### steps of statements -/
theorem call_t {n : Nat} {F : Fun'} {fa : Fa} {γ γ2 : En} {ds : List D} {d : D} {out : List D} (ha : fa γ = some (ds, γ2)) (hn : ds.length = n) (hf : F ds = some (d, out)) : fCall n F fa γ = some (d, γ2) := by
  subst hn
  simp only [fCall, ha, hf, if_true]
theorem cons_t {f : Fe} {fa : Fa} {γ γ1 γ2 : En} {d : D} {ds : List D} (h : f γ = some (d, γ1)) (k : fa γ1 = some (ds, γ2)) : aCons f fa γ = some (d :: ds, γ2) := by
  simp only [aCons, h, k]
theorem disp_t {fa : Fa} {γ γ1 : En} {ds : List D} (h : fa γ = some (ds, γ1)) (k : okN ds.length = true) : fL (lDisp fa) γ = some (.list ds, γ1) := by
  simp only [fL, lDisp, h, k, if_true]
theorem f1_t {op : D → Option D} {f : Fe} {γ γ1 : En} {x z : D} (h : f γ = some (x, γ1)) (k : op x = some z) : DN.f1 op f γ = some (z, γ1) := by
  simp only [DN.f1, h, k]
theorem same_if {S : Fun'} {f g : Fe} {γ γ1 γ2 : En} {d e : D} {out : List D} (hf : f γ = some (d, γ1)) (hg : g γ1 = some (e, γ2)) (hs : S [d, e] = some (.bool true, out)) : sIf (cNot (ofB (fCall 2 S (aCons f (aCons g aNil))))) (sRet (fC (.bool false))) sNil γ = some (.nx γ2) := by
  have hn : [d, e].length = 2 := rfl
  simp only [sIf, cNot, ofB, fCall, aCons, aNil, hf, hg, hn, if_true, hs, Bool.not_true, sNil]
theorem asg_t {f : Fe} {tg : Fg} {γ γ1 γ2 : En} {d : D} (h : f γ = some (d, γ1)) (k : tg d γ1 = some γ2) : sAsg f tg γ = some (.nx γ2) := by
  simp only [sAsg, h, k]
theorem and_f {u v : Ft} {γ γ1 : En} (h : u γ = some (false, γ1)) : cAnd u v γ = some (false, γ1) := by
  simp only [cAnd, h]
theorem and_t {u v : Ft} {γ γ1 : En} {o : Option (Bool × En)} (h : u γ = some (true, γ1)) (k : v γ1 = o) : cAnd u v γ = o := by
  simp only [cAnd, h, k]
theorem not_t {u : Ft} {γ γ1 : En} {b : Bool} (h : u γ = some (b, γ1)) : cNot u γ = some (!b, γ1) := by
  simp only [cNot, h]
theorem ofB_t {f : Fe} {γ γ1 : En} {b : Bool} (h : f γ = some (.bool b, γ1)) : ofB f γ = some (b, γ1) := by
  simp only [ofB, h]
theorem for_t {src : Fa} {tg : Fg} {body : Fs} {γ γ1 : En} {ds : List D} {o : Option Out} (h : src γ = some (ds, γ1)) (k : forF tg body ds γ1 = o) : sFor src tg body γ = o := by
  simp only [sFor, h, k]
def kinds : List D := [.str "S", .str "H", .str "C", .str "P", .str "Q", .str "X"]
theorem kinds_ok : ∀ x ∈ kinds, ∃ k, x = .str (kt k) := by
  intro x hx
  simp only [kinds, List.mem_cons, List.not_mem_nil, or_false] at hx
  rcases hx with rfl | rfl | rfl | rfl | rfl | rfl
  · exact ⟨.s, rfl⟩
  · exact ⟨.h, rfl⟩
  · exact ⟨.c, rfl⟩
  · exact ⟨.p, rfl⟩
  · exact ⟨.q, rfl⟩
  · exact ⟨.x, rfl⟩
theorem lend_t {n : Nat} {F : Fun'} {fa : Fa} {γ γ2 : En} {ds : List D} {b : Bool} {out : List D} (ha : fa γ = some (ds, γ2)) (hn : ds.length = n) (hf : F ds = some (.bool b, out)) : ofB (fCallL n F fa) γ = some (b, γ2) := by
  subst hn
  have at' : atomD (.bool b) = true := rfl
  simp only [ofB, fCallL, ha, hf, if_true, at']
theorem addL (xs ys : List D) (h : xs.length + ys.length ≤ 1000000) : addD (.list xs) (.list ys) = some (.list (xs ++ ys)) := by
  simp only [addD, okN, h, decide_true, if_true]
theorem gt_t {f g : Fe} {γ γ1 γ2 : En} {i j : Int} (h : f γ = some (.int i, γ1)) (k : g γ1 = some (.int j, γ2)) : ofB (DN.f2 gtD f g) γ = some (decide (i > j), γ2) := by
  simp only [ofB, DN.f2, h, k, gtD, cmpI]
theorem f2_t {op : D → D → Option D} {f g : Fe} {γ γ1 γ2 : En} {x y z : D} (h : f γ = some (x, γ1)) (k : g γ1 = some (y, γ2)) (o : op x y = some z) : DN.f2 op f g γ = some (z, γ2) := by
  simp only [DN.f2, h, k, o]
theorem f2n_t {op : D → D → Option D} {g : Fe} {i : Nat} {γ γ1 : En} {x y z : D} (h : view γ i = some x) (k : g γ = some (y, γ1)) (h2 : view γ1 i = some x) (o : op x y = some z) : DN.f2n op i g γ = some (z, γ1) := by
  simp only [DN.f2n, h, k, h2, o]
theorem f2m_t {op : D → D → Option D} {f : Fe} {i : Nat} {γ γ1 : En} {x y z : D} (h : f γ = some (x, γ1)) (h2 : view γ1 i = some y) (o : op x y = some z) : DN.f2m op f i γ = some (z, γ1) := by
  simp only [DN.f2m, h, h2, o]
theorem f2nn_t {op : D → D → Option D} {i j : Nat} {γ : En} {x y z : D} (h : view γ i = some x) (h2 : view γ j = some y) (o : op x y = some z) : DN.f2nn op i j γ = some (z, γ) := by
  simp only [DN.f2nn, h, h2, o]
theorem tup_t {fa : Fa} {γ γ1 : En} {ds : List D} (h : fa γ = some (ds, γ1)) (k : okN ds.length = true) : fTup fa γ = some (.tuple ds, γ1) := by
  simp only [fTup, h, k, if_true]
theorem eq_t {f g : Fe} {γ γ1 γ2 : En} {x y : D} {b : Bool} (h : f γ = some (x, γ1)) (k : g γ1 = some (y, γ2)) (e : eqD x y = some (.bool b)) : ofB (DN.f2 eqD f g) γ = some (b, γ2) := by
  simp only [ofB, DN.f2, h, k, e]
theorem bor_g {n i : Nat} {F : Fun'} {fa : Fa} {γ γ1 : En} {b b0 : Bool} {B0 B B' ds : List D} {d : D} (h0 : gt γ i = some (.ow b0 (.lst B0))) (ha : fa γ = some (ds, γ1)) (h1 : gt γ1 i = some (.ow b (.lst B))) (hn : ds.length + 1 = n) (hf : F (.list B :: ds) = some (d, B')) : fCallB n F i fa γ = some (d, γ1.set i (some (.ow b (.lst B')))) := by
  simp only [fCallB, h0, ha, h1, hn, if_true, hf]
theorem or_f {u v : Ft} {γ γ1 : En} {o : Option (Bool × En)} (h : u γ = some (false, γ1)) (k : v γ1 = o) : cOr u v γ = o := by
  simp only [cOr, h, k]
theorem or_t {u v : Ft} {γ γ1 : En} (h : u γ = some (true, γ1)) : cOr u v γ = some (true, γ1) := by
  simp only [cOr, h]
theorem ret_t {f : Fe} {γ γ1 : En} {d : D} (h : f γ = some (d, γ1)) : sRet f γ = some (.rt d γ1) := by
  simp only [sRet, h]
theorem wof_t {f : Fe} {γ γ1 : En} {ds : List D} (h : f γ = some (.list ds, γ1)) : wOf f γ = some (ds, γ1) := by
  simp only [wOf, h]
theorem woft_t {f : Fe} {γ γ1 : En} {ds : List D} (h : f γ = some (.tuple ds, γ1)) : wOf f γ = some (ds, γ1) := by
  simp only [wOf, h]
theorem fL_t {fl : Fa} {γ γ1 : En} {ds : List D} (h : fl γ = some (ds, γ1)) : fL fl γ = some (.list ds, γ1) := by
  simp only [fL, h]
theorem run_d {m : Nat} {B : Fs} {ds : List D} {γ0 γ : En} {d : D} (h0 : ini false m ds = γ0) (h : B γ0 = some (.rt d γ)) : runF false m B ds = some (d, []) := by
  unfold runF
  rw [h0, h]
  rfl
/-! ### the law's own ends of a layout -/
theorem rngD_cons (lo : Int) (n : Nat) : rngD lo (n + 1) = .int lo :: rngD (lo + 1) n := by
  unfold rngD
  rw [List.range_succ_eq_map, List.map_cons, List.map_map]
  congr 1
  · simp
  · refine List.map_congr_left fun k _ => ?_
    show PyData.int (lo + ((k + 1 : Nat) : Int)) = _
    congr 1
    omega
theorem rngD_idx {α : Type} : ∀ (es : List α) (i : Nat), rngD (i : Int) es.length = (idxL i es).map fun x => PyData.int (x.1 : Int)
  | [], _ => rfl
  | x :: r, i => by
    rw [List.length_cons, rngD_cons]
    have := rngD_idx r (i + 1)
    rw [show ((i + 1 : Nat) : Int) = (i : Int) + 1 by omega] at this
    rw [this]
    rfl
theorem idxL_mem {α : Type} : ∀ {es : List α} {i : Nat} {y : Nat × α}, y ∈ idxL i es → i ≤ y.1 ∧ es[y.1 - i]? = some y.2
  | x :: r, i, y, h => by
    rcases List.mem_cons.mp h with rfl | h
    · simp
    · obtain ⟨h1, h2⟩ := idxL_mem h
      refine ⟨by omega, ?_⟩
      rw [show y.1 - i = (y.1 - (i + 1)) + 1 by omega]
      exact h2
def allG (i : Nat) (r : List Pc) : List (Nat × Nat × Ps) := ((idxL i r).filterMap fun x => x.2.map fun kp => (x.1, kp)).flatMap eE
theorem allG_len (i : Nat) (r : List Pc) : (allG i r).length ≤ 4 * r.length := by
  have h1 := flat_len eE_len ((idxL i r).filterMap fun x => x.2.map fun kp => (x.1, kp))
  have h2 := List.length_filterMap_le (fun x : Nat × Pc => x.2.map fun kp => (x.1, kp)) (idxL i r)
  rw [idxL_len] at h2
  unfold allG
  omega
theorem ix_list {xs : List D} {n : Nat} {d : D} (h : xs[n]? = some d) : ixX (.list xs) (.int (n : Int)) = some d := by
  have hl : n < xs.length := (List.getElem?_eq_some_iff.mp h).1
  have h1 : (0 : Int) ≤ (n : Int) := by omega
  have h2 : (n : Int) < (xs.length : Int) := by omega
  simp only [ixX, ixD, simp_ix1, simp_ix2, h1, h2, if_true, Option.bind_some, Int.toNat_natCast, h]
theorem ix_tuple {xs : List D} {n : Nat} {d : D} (h : xs[n]? = some d) : ixX (.tuple xs) (.int (n : Int)) = some d := by
  have hl : n < xs.length := (List.getElem?_eq_some_iff.mp h).1
  have h1 : (0 : Int) ≤ (n : Int) := by omega
  have h2 : (n : Int) < (xs.length : Int) := by omega
  simp only [ixX, ixD, simp_ix1, simp_ix2, h1, h2, if_true, Option.bind_some, Int.toNat_natCast, h]
theorem small_n {n : Nat} (h : n ≤ 1000000) : small62 (n : Int) = true := by
  simp only [small62, Bool.and_eq_true, decide_eq_true_eq]
  have : (2 : Int) ^ 62 = 4611686018427387904 := by decide
  omega
theorem lrowsA (T : D) (acc : List D) (n : Nat) (es : List Ps) (hl : es.length ≤ 4) : lLc [4] (gDat 4) (wR1 (f1n lenD 3)) tYe E1__law_all_ends [some (.dat T), some (.dat (.list acc)), some (.dat (.int (n : Int))), some (.dat (.list (es.map F5))), none] =
    some ((idxL 0 es).map fun y => rowT (n, y.1, y.2), [some (.dat T), some (.dat (.list acc)), some (.dat (.int (n : Int))), some (.dat (.list (es.map F5))), none]) := by
  let G : Option Ent → En := fun g => [some (.dat T), some (.dat (.list acc)), some (.dat (.int (n : Int))), some (.dat (.list (es.map F5))), g]
  have hsm := small_n (n := es.length) (by omega)
  have := lLc_pure (enc := fun y : Nat × Ps => PyData.int (y.1 : Int)) (js := [4]) (tg := gDat 4) (src := wR1 (f1n lenD 3)) (tt := tYe) (elt := E1__law_all_ends) (γ := G none) (γ1 := G none) (ds := idxL 0 es) (fun y => some (rowT (n, y.1, y.2)))
    (by
      rw [← rngD_idx es 0]
      simp only [small62] at hsm
      simp only [runF, ini, gt, view, fN, fC, f2, f2n, f2m, f2nn, okN, addD, subD, fdivD, modD, cmpI, isNo, isNd, notNd, ixD, tYe, ofB, cNot, cAnd, cOr, fAnd, fOr, fNot, fNeg, fIf, aNil, aCons, fTup, fL, lDisp, DN.f1, f1n, lenD, intD, absD, tupleD, listD, lOf, lOfn, pNo, pOf, slD, fSl, fSln, pinB, gDat, gsNo, gsCons, gTp, gLp, sNil, sSeq, sAsg, sOwn, sSet, sApp, sDrop, sRet, sRetN, sBk, sCt, sIf, wOf, wR1, wR2, small62, sFor, cTru, cTrun, truD, lRep, sAsg2, fCallL, aLend, allD, sumD, wEnum, revTD, sNone, fCall, fCallB, ownB, simp_ix1, simp_ix2, List.set, List.length_cons, List.length_nil, List.map_cons, List.map_nil, List.cons_append, List.nil_append, List.replicate, Option.bind_some, Option.map_some, if_true, if_false, Bool.false_eq_true, Bool.not_true, Bool.not_false, decide_true, decide_false, reduceIte, Nat.reduceAdd, Nat.reduceLeDiff, Nat.reduceEqDiff, Int.reduceLE, Int.reduceLT, Int.reduceToNat, List.getElem?_cons_zero, List.getElem?_cons_succ, Int.cast_ofNat_Int, Nat.zero_add, Int.zero_le_ofNat, ixX, inX, notInX, catL, lCat, lCatn, fTxt, fTxtGet, sTxtPut, sTxt, sDicNew, sDicPut, fGet1, fGet2, wKey, fDl, sOwnX, sRetO, runX, iniX, tellX, notInD, G, List.length_map, hsm, Int.toNat_natCast, Int.cast_ofNat_Int, Int.natCast_zero]) (by simp [G, noOwns]) (by simp [G, wipeE]) (by simp [G, putBack, wipeE]) (fun y hy => by
      obtain ⟨_, h2⟩ := idxL_mem hy
      have ix : ixX (.list (es.map F5)) (.int (y.1 : Int)) = some (F5 y.2) := ix_list (by rw [List.getElem?_map]; simp only [Nat.sub_zero] at h2; rw [h2]; rfl)
      refine lcs (γ0 := G (some (.dat (.int y.1)))) (by simp [G]) (γ2 := G (some (.dat (.int y.1)))) ?_ (by simp [noOwns, G]) (by simp [wipeE, G])
      simp only [↓ix, E1__law_all_ends, runF, ini, gt, view, fN, fC, f2, f2n, f2m, f2nn, okN, addD, subD, fdivD, modD, cmpI, isNo, isNd, notNd, ixD, tYe, ofB, cNot, cAnd, cOr, fAnd, fOr, fNot, fNeg, fIf, aNil, aCons, fTup, fL, lDisp, DN.f1, f1n, lenD, intD, absD, tupleD, listD, lOf, lOfn, pNo, pOf, slD, fSl, fSln, pinB, gDat, gsNo, gsCons, gTp, gLp, sNil, sSeq, sAsg, sOwn, sSet, sApp, sDrop, sRet, sRetN, sBk, sCt, sIf, wOf, wR1, wR2, small62, sFor, cTru, cTrun, truD, lRep, sAsg2, fCallL, aLend, allD, sumD, wEnum, revTD, sNone, fCall, fCallB, ownB, simp_ix1, simp_ix2, List.set, List.length_cons, List.length_nil, List.map_cons, List.map_nil, List.cons_append, List.nil_append, List.replicate, Option.bind_some, Option.map_some, if_true, if_false, Bool.false_eq_true, Bool.not_true, Bool.not_false, decide_true, decide_false, reduceIte, Nat.reduceAdd, Nat.reduceLeDiff, Nat.reduceEqDiff, Int.reduceLE, Int.reduceLT, Int.reduceToNat, List.getElem?_cons_zero, List.getElem?_cons_succ, Int.cast_ofNat_Int, Nat.zero_add, Int.zero_le_ofNat, ixX, inX, notInX, catL, lCat, lCatn, fTxt, fTxtGet, sTxtPut, sTxt, sDicNew, sDicPut, fGet1, fGet2, wKey, fDl, sOwnX, sRetO, runX, iniX, tellX, notInD, G, rowT]) (by rw [idxL_len]; omega)
  rw [fm_map] at this
  exact this
theorem lall_none (T : D) (i : Nat) (acc : List D) (e2 e3 : Option Ent) (h0 : ixX T (.int (i : Int)) = some .none) : L2__law_all_ends [some (.dat T), some (.dat (.list acc)), some (.dat (.int (i : Int))), e3, none] = some (.nx [some (.dat T), some (.dat (.list acc)), some (.dat (.int (i : Int))), e3, none]) := by
  simp only [↓h0, L2__law_all_ends, runF, ini, gt, view, fN, fC, f2, f2n, f2m, f2nn, okN, addD, subD, fdivD, modD, cmpI, isNo, isNd, notNd, ixD, tYe, ofB, cNot, cAnd, cOr, fAnd, fOr, fNot, fNeg, fIf, aNil, aCons, fTup, fL, lDisp, DN.f1, f1n, lenD, intD, absD, tupleD, listD, lOf, lOfn, pNo, pOf, slD, fSl, fSln, pinB, gDat, gsNo, gsCons, gTp, gLp, sNil, sSeq, sAsg, sOwn, sSet, sApp, sDrop, sRet, sRetN, sBk, sCt, sIf, wOf, wR1, wR2, small62, sFor, cTru, cTrun, truD, lRep, sAsg2, fCallL, aLend, allD, sumD, wEnum, revTD, sNone, fCall, fCallB, ownB, simp_ix1, simp_ix2, List.set, List.length_cons, List.length_nil, List.map_cons, List.map_nil, List.cons_append, List.nil_append, List.replicate, Option.bind_some, Option.map_some, if_true, if_false, Bool.false_eq_true, Bool.not_true, Bool.not_false, decide_true, decide_false, reduceIte, Nat.reduceAdd, Nat.reduceLeDiff, Nat.reduceEqDiff, Int.reduceLE, Int.reduceLT, Int.reduceToNat, List.getElem?_cons_zero, List.getElem?_cons_succ, Int.cast_ofNat_Int, Nat.zero_add, Int.zero_le_ofNat, ixX, inX, notInX, catL, lCat, lCatn, fTxt, fTxtGet, sTxtPut, sTxt, sDicNew, sDicPut, fGet1, fGet2, wKey, fDl, sOwnX, sRetO, runX, iniX, tellX, notInD, isNo]
theorem eE_row (i : Nat) (kd : Kd) (p : Ps) : ((idxL 0 (ends kd p)).map fun y => rowT (i, y.1, y.2)) = (eE (i, kd, p)).map rowT := by
  unfold eE
  rw [List.map_map]
  exact List.map_congr_left fun y _ => rfl
theorem t_ix (T : D) (i : Nat) (acc : List D) (e3 : Option Ent) (kd : Kd) (p : Ps) (h0 : ixX T (.int (i : Int)) = some (.tuple [.str (kt kd), F5 p])) : (DN.f2 notNd (DN.f2nn ixX 0 2) (fC .none)) [some (.dat T), some (.dat (.list acc)), some (.dat (.int (i : Int))), e3, none] = some (.bool true, [some (.dat T), some (.dat (.list acc)), some (.dat (.int (i : Int))), e3, none]) := by
  simp only [↓h0, runF, ini, gt, view, fN, fC, f2, f2n, f2m, f2nn, okN, addD, subD, fdivD, modD, cmpI, isNo, isNd, notNd, ixD, tYe, ofB, cNot, cAnd, cOr, fAnd, fOr, fNot, fNeg, fIf, aNil, aCons, fTup, fL, lDisp, DN.f1, f1n, lenD, intD, absD, tupleD, listD, lOf, lOfn, pNo, pOf, slD, fSl, fSln, pinB, gDat, gsNo, gsCons, gTp, gLp, sNil, sSeq, sAsg, sOwn, sSet, sApp, sDrop, sRet, sRetN, sBk, sCt, sIf, wOf, wR1, wR2, small62, sFor, cTru, cTrun, truD, lRep, sAsg2, fCallL, aLend, allD, sumD, wEnum, revTD, sNone, fCall, fCallB, ownB, simp_ix1, simp_ix2, List.set, List.length_cons, List.length_nil, List.map_cons, List.map_nil, List.cons_append, List.nil_append, List.replicate, Option.bind_some, Option.map_some, if_true, if_false, Bool.false_eq_true, Bool.not_true, Bool.not_false, decide_true, decide_false, reduceIte, Nat.reduceAdd, Nat.reduceLeDiff, Nat.reduceEqDiff, Int.reduceLE, Int.reduceLT, Int.reduceToNat, List.getElem?_cons_zero, List.getElem?_cons_succ, Int.cast_ofNat_Int, Nat.zero_add, Int.zero_le_ofNat, ixX, inX, notInX, catL, lCat, lCatn, fTxt, fTxtGet, sTxtPut, sTxt, sDicNew, sDicPut, fGet1, fGet2, wKey, fDl, sOwnX, sRetO, runX, iniX, tellX, notInD, isNo]
theorem t_ca (T : D) (i : Nat) (acc : List D) (e3 : Option Ent) (kd : Kd) (p : Ps) (h0 : ixX T (.int (i : Int)) = some (.tuple [.str (kt kd), F5 p])) : (fCall 1 F__law_ends (aCons (DN.f2nn ixX 0 2) aNil)) [some (.dat T), some (.dat (.list acc)), some (.dat (.int (i : Int))), e3, none] = some (.list ((ends kd p).map F5), [some (.dat T), some (.dat (.list acc)), some (.dat (.int (i : Int))), e3, none]) := by
  have le := lends kd p
  simp only [↓h0, runF, ini, gt, view, fN, fC, f2, f2n, f2m, f2nn, okN, addD, subD, fdivD, modD, cmpI, isNo, isNd, notNd, ixD, tYe, ofB, cNot, cAnd, cOr, fAnd, fOr, fNot, fNeg, fIf, aNil, aCons, fTup, fL, lDisp, DN.f1, f1n, lenD, intD, absD, tupleD, listD, lOf, lOfn, pNo, pOf, slD, fSl, fSln, pinB, gDat, gsNo, gsCons, gTp, gLp, sNil, sSeq, sAsg, sOwn, sSet, sApp, sDrop, sRet, sRetN, sBk, sCt, sIf, wOf, wR1, wR2, small62, sFor, cTru, cTrun, truD, lRep, sAsg2, fCallL, aLend, allD, sumD, wEnum, revTD, sNone, fCall, fCallB, ownB, simp_ix1, simp_ix2, List.set, List.length_cons, List.length_nil, List.map_cons, List.map_nil, List.cons_append, List.nil_append, List.replicate, Option.bind_some, Option.map_some, if_true, if_false, Bool.false_eq_true, Bool.not_true, Bool.not_false, decide_true, decide_false, reduceIte, Nat.reduceAdd, Nat.reduceLeDiff, Nat.reduceEqDiff, Int.reduceLE, Int.reduceLT, Int.reduceToNat, List.getElem?_cons_zero, List.getElem?_cons_succ, Int.cast_ofNat_Int, Nat.zero_add, Int.zero_le_ofNat, ixX, inX, notInX, catL, lCat, lCatn, fTxt, fTxtGet, sTxtPut, sTxt, sDicNew, sDicPut, fGet1, fGet2, wKey, fDl, sOwnX, sRetO, runX, iniX, tellX, notInD, le]
theorem t_ad (acc : List D) (i : Nat) (kd : Kd) (p : Ps) (hl : acc.length ≤ 900000) : addD (.list acc) (.list ((eE (i, kd, p)).map rowT)) = some (.list (acc ++ (eE (i, kd, p)).map rowT)) := addL _ _ (by
    have := eE_len (i, kd, p)
    rw [List.length_map]; omega)
theorem q2a (T : D) (i : Nat) (acc : List D) (e3 : Option Ent) (kd : Kd) (p : Ps) : lLc [4] (gDat 4) (wR1 (f1n lenD 3)) tYe E1__law_all_ends [some (.dat T), some (.dat (.list acc)), some (.dat (.int (i : Int))), some (.dat (.list ((ends kd p).map F5))), none] = some ((eE (i, kd, p)).map rowT, [some (.dat T), some (.dat (.list acc)), some (.dat (.int (i : Int))), some (.dat (.list ((ends kd p).map F5))), none]) := by
    have lr := lrowsA T acc i (ends kd p) (ends_len kd p)
    rw [eE_row i kd p] at lr
    exact lr
theorem q2b (T : D) (i : Nat) (acc X : List D) (E : D) (h : lLc [4] (gDat 4) (wR1 (f1n lenD 3)) tYe E1__law_all_ends [some (.dat T), some (.dat (.list acc)), some (.dat (.int (i : Int))), some (.dat E), none] = some (X, [some (.dat T), some (.dat (.list acc)), some (.dat (.int (i : Int))), some (.dat E), none])) (ha : addD (.list acc) (.list X) = some (.list (acc ++ X))) : (DN.f2n addD 1 (fL (lLc [4] (gDat 4) (wR1 (f1n lenD 3)) tYe E1__law_all_ends))) [some (.dat T), some (.dat (.list acc)), some (.dat (.int (i : Int))), some (.dat E), none] = some (.list (acc ++ X), [some (.dat T), some (.dat (.list acc)), some (.dat (.int (i : Int))), some (.dat E), none]) := by
    unfold DN.f2n fL
    rw [h]
    simp only [view, gt]
    rw [ha]
theorem lall_gen (T : D) (i : Nat) (acc : List D) (e3 : Option Ent) (X : List D) (E : D) (x : (DN.f2 notNd (DN.f2nn ixX 0 2) (fC .none)) [some (.dat T), some (.dat (.list acc)), some (.dat (.int (i : Int))), e3, none] = some (.bool true, [some (.dat T), some (.dat (.list acc)), some (.dat (.int (i : Int))), e3, none]))
   (c : (fCall 1 F__law_ends (aCons (DN.f2nn ixX 0 2) aNil)) [some (.dat T), some (.dat (.list acc)), some (.dat (.int (i : Int))), e3, none] = some (E, [some (.dat T), some (.dat (.list acc)), some (.dat (.int (i : Int))), e3, none]))
   (e : (DN.f2n addD 1 (fL (lLc [4] (gDat 4) (wR1 (f1n lenD 3)) tYe E1__law_all_ends))) [some (.dat T), some (.dat (.list acc)), some (.dat (.int (i : Int))), some (.dat E), none] = some (.list (acc ++ X), [some (.dat T), some (.dat (.list acc)), some (.dat (.int (i : Int))), some (.dat E), none])) :
   L2__law_all_ends [some (.dat T), some (.dat (.list acc)), some (.dat (.int (i : Int))), e3, none] = some (.nx [some (.dat T), some (.dat (.list (acc ++ X))), some (.dat (.int (i : Int))), some (.dat E), none]) := by
  unfold L2__law_all_ends
  refine if_t (γ1 := [some (.dat T), some (.dat (.list acc)), some (.dat (.int (i : Int))), e3, none]) (by unfold ofB; rw [x]) ?_
  refine (seq_nx (γ1 := [some (.dat T), some (.dat (.list acc)), some (.dat (.int (i : Int))), some (.dat E), none]) (by unfold sAsg; rw [c]; rfl)).trans ?_
  unfold sAsg
  rw [e]
  rfl
theorem lall_some (T : D) (i : Nat) (acc : List D) (e3 : Option Ent) (kd : Kd) (p : Ps) (h0 : ixX T (.int (i : Int)) = some (.tuple [.str (kt kd), F5 p])) (hl : acc.length ≤ 900000) : L2__law_all_ends [some (.dat T), some (.dat (.list acc)), some (.dat (.int (i : Int))), e3, none] =
    some (.nx [some (.dat T), some (.dat (.list (acc ++ (eE (i, kd, p)).map rowT))), some (.dat (.int (i : Int))), some (.dat (.list ((ends kd p).map F5))), none]) :=
  lall_gen T i acc e3 _ _ (t_ix T i acc e3 kd p h0) (t_ca T i acc e3 kd p h0) (q2b T i acc _ _ (q2a T i acc e3 kd p) (t_ad acc i kd p hl))
theorem lall_loop (T : D) (r : List Pc) : ∀ (i : Nat) (acc : List D) (e2 e3 : Option Ent), (∀ (j : Nat) (d : D), (r.map pcD)[j]? = some d → ixX T (.int ((i + j : Nat) : Int)) = some d) → acc.length + 4 * r.length ≤ 900000 →
    ∃ r2 r3, forF (gDat 2) L2__law_all_ends (rngD (i : Int) r.length) [some (.dat T), some (.dat (.list acc)), e2, e3, none] = some (.nx [some (.dat T), some (.dat (.list (acc ++ (allG i r).map rowT))), r2, r3, none]) := by
  induction r with
  | nil => exact fun i acc e2 e3 _ _ => ⟨e2, e3, by simp [rngD, forF, allG, idxL]⟩
  | cons x r ih =>
    intro i acc e2 e3 h hl
    rw [List.length_cons] at hl
    have h0 := h 0 (pcD x) rfl
    rw [Nat.add_zero] at h0
    have hr : ∀ (j : Nat) (d : D), (r.map pcD)[j]? = some d → ixX T (.int ((i + 1 + j : Nat) : Int)) = some d := fun j d e => by
      rw [show i + 1 + j = i + (j + 1) by omega]
      exact h (j + 1) d e
    rw [List.length_cons, rngD_cons, show (i : Int) + 1 = ((i + 1 : Nat) : Int) by omega]
    cases x with
    | none =>
      obtain ⟨r2, r3, k⟩ := ih (i + 1) acc (some (.dat (.int (i : Int)))) e3 hr (by omega)
      exact ⟨r2, r3, (forF_nx (by simp) (lall_none T i acc e2 e3 h0)).trans k⟩
    | some kp =>
      obtain ⟨kd, p⟩ := kp
      obtain ⟨r2, r3, k⟩ := ih (i + 1) (acc ++ (eE (i, kd, p)).map rowT) (some (.dat (.int (i : Int)))) (some (.dat (.list ((ends kd p).map F5)))) hr (by
        have := eE_len (i, kd, p)
        rw [List.length_append, List.length_map]; omega)
      refine ⟨r2, r3, (forF_nx (by simp) (lall_some T i acc e3 kd p h0 (by omega))).trans (k.trans ?_)⟩
      simp only [allG, idxL, List.filterMap_cons, Option.map_some, List.flatMap_cons, List.map_append, List.append_assoc]
theorem lall_of (T : D) (l : List Pc) (h : ∀ (j : Nat) (d : D), (l.map pcD)[j]? = some d → ixX T (.int (j : Int)) = some d) (hn : lenD T = some (.int (l.length : Int))) (hl : l.length ≤ 1000) : F__law_all_ends [T] = some (.list ((allE l).map rowT), []) := by
  obtain ⟨r2, r3, e⟩ := lall_loop T l 0 [] none none (fun j d q => by rw [Nat.zero_add]; exact h j d q) (by simp; omega)
  have hsm := small_n (n := l.length) (by omega)
  simp only [small62] at hsm
  simp only [List.nil_append] at e
  have e0 : rngD ((0 : Nat) : Int) l.length = rngD 0 l.length := rfl
  rw [e0] at e
  simp only [↓hn, F__law_all_ends, B__law_all_ends, runF, ini, gt, view, fN, fC, f2, f2n, f2m, f2nn, okN, addD, subD, fdivD, modD, cmpI, isNo, isNd, notNd, ixD, tYe, ofB, cNot, cAnd, cOr, fAnd, fOr, fNot, fNeg, fIf, aNil, aCons, fTup, fL, lDisp, DN.f1, f1n, lenD, intD, absD, tupleD, listD, lOf, lOfn, pNo, pOf, slD, fSl, fSln, pinB, gDat, gsNo, gsCons, gTp, gLp, sNil, sSeq, sAsg, sOwn, sSet, sApp, sDrop, sRet, sRetN, sBk, sCt, sIf, wOf, wR1, wR2, small62, sFor, cTru, cTrun, truD, lRep, sAsg2, fCallL, aLend, allD, sumD, wEnum, revTD, sNone, fCall, fCallB, ownB, simp_ix1, simp_ix2, List.set, List.length_cons, List.length_nil, List.map_cons, List.map_nil, List.cons_append, List.nil_append, List.replicate, Option.bind_some, Option.map_some, if_true, if_false, Bool.false_eq_true, Bool.not_true, Bool.not_false, decide_true, decide_false, reduceIte, Nat.reduceAdd, Nat.reduceLeDiff, Nat.reduceEqDiff, Int.reduceLE, Int.reduceLT, Int.reduceToNat, List.getElem?_cons_zero, List.getElem?_cons_succ, Int.cast_ofNat_Int, Nat.zero_add, Int.zero_le_ofNat, ixX, inX, notInX, catL, lCat, lCatn, fTxt, fTxtGet, sTxtPut, sTxt, sDicNew, sDicPut, fGet1, fGet2, wKey, fDl, sOwnX, sRetO, runX, iniX, tellX, notInD, hsm, Int.toNat_natCast, e]
  rfl
theorem lall_list (l : List Pc) (hl : l.length ≤ 1000) : F__law_all_ends [.list (l.map pcD)] = some (.list ((allE l).map rowT), []) :=
  lall_of _ l (fun j d q => ix_list q) (by simp) hl
theorem lall_tuple (l : List Pc) (hl : l.length ≤ 1000) : F__law_all_ends [.tuple (l.map pcD)] = some (.list ((allE l).map rowT), []) :=
  lall_of _ l (fun j d q => ix_tuple q) (by simp) hl
/-! ### a place in rows -/
theorem row_2 (x : Nat × Nat × Ps) : ixX (rowT x) (.int 2) = some (F5 x.2.2) := by simp [rowT]
theorem poses_lay : ∀ l : List Ps, PyData.canLayAll0 (l.map F5) = true ∧ PyData.depthAll (l.map F5) ≤ 4
  | [] => by simp [PyData.canLayAll0, PyData.depthAll]
  | x :: r => by
    obtain ⟨h1, h2⟩ := poses_lay r
    simp only [List.map_cons, PyData.canLayAll0, PyData.depthAll, PyData.canLay0, PyData.depth, h1, Bool.and_self, true_and]
    omega
theorem poses_shaped (l : List Ps) : SeqAt.shaped (.list (l.map F5)) = true := by
  obtain ⟨h1, h2⟩ := poses_lay l
  unfold SeqAt.shaped
  rw [Bool.and_eq_true, decide_eq_true_eq]
  exact ⟨by simpa only [PyData.canLay0] using h1, by simp only [PyData.depth]; omega⟩
theorem pose_shaped (p : Ps) : SeqAt.shaped (F5 p) = true := by
  simp [SeqAt.shaped, PyData.canLay0, PyData.canLayAll0, PyData.depth, PyData.depthAll]
theorem eqv_F5 (p q : Ps) : PyData.eqv (F5 p) (F5 q) = decide (p = q) := by
  obtain ⟨⟨a, b, c, d⟩, h⟩ := p
  obtain ⟨⟨a', b', c', d'⟩, h'⟩ := q
  simp only [PyData.eqv, PyData.eqvAll, Bool.and_true]
  by_cases e : a = a' ∧ b = b' ∧ c = c' ∧ d = d' ∧ h = h'
  · obtain ⟨rfl, rfl, rfl, rfl, rfl⟩ := e
    simp
  · have : ¬ (((a, b, c, d), h) : Ps) = ((a', b', c', d'), h') := fun z => e (by simpa [and_assoc] using z)
    simp only [this, decide_false]
    by_cases e1 : a = a' <;> by_cases e2 : b = b' <;> by_cases e3 : c = c' <;> by_cases e4 : d = d' <;> by_cases e5 : h = h' <;> simp_all
theorem in_poses (q : Ps) (l : List Ps) : inD (F5 q) (.list (l.map F5)) = some (.bool (decide (q ∈ l))) := by
  have e : ((l.map F5).any fun z => PyData.eqv z (F5 q)) = decide (q ∈ l) := by
    induction l with
    | nil => simp
    | cons x r ih =>
      rw [List.map_cons, List.any_cons, ih, eqv_F5]
      by_cases h : x = q
      · subst h; simp
      · have : ¬ q = x := fun z => h z.symm
        simp [h, this]
  show (if (SeqAt.shaped (F5 q) && SeqAt.shaped (.list (l.map F5))) = true then some (PyData.bool ((l.map F5).any fun z => PyData.eqv z (F5 q))) else none) = _
  rw [pose_shaped, poses_shaped, e]
  rfl
theorem lrowsB (T : List D) (acc : List D) (n : Nat) (es : List Ps) (hl : es.length ≤ 4) : lLc [4] (gDat 4) (wR1 (f1n lenD 3)) tYe E1__law_all_ends_b [some (.ow true (.lst T)), some (.dat (.list acc)), some (.dat (.int (n : Int))), some (.dat (.list (es.map F5))), none] =
    some ((idxL 0 es).map fun y => rowT (n, y.1, y.2), [some (.ow true (.lst T)), some (.dat (.list acc)), some (.dat (.int (n : Int))), some (.dat (.list (es.map F5))), none]) := by
  let G : Option Ent → En := fun g => [some (.ow true (.lst T)), some (.dat (.list acc)), some (.dat (.int (n : Int))), some (.dat (.list (es.map F5))), g]
  have hsm := small_n (n := es.length) (by omega)
  have := lLc_pure (enc := fun y : Nat × Ps => PyData.int (y.1 : Int)) (js := [4]) (tg := gDat 4) (src := wR1 (f1n lenD 3)) (tt := tYe) (elt := E1__law_all_ends_b) (γ := G none) (γ1 := G none) (ds := idxL 0 es) (fun y => some (rowT (n, y.1, y.2)))
    (by
      rw [← rngD_idx es 0]
      simp only [small62] at hsm
      simp only [runF, ini, gt, view, fN, fC, f2, f2n, f2m, f2nn, okN, addD, subD, fdivD, modD, cmpI, isNo, isNd, notNd, ixD, tYe, ofB, cNot, cAnd, cOr, fAnd, fOr, fNot, fNeg, fIf, aNil, aCons, fTup, fL, lDisp, DN.f1, f1n, lenD, intD, absD, tupleD, listD, lOf, lOfn, pNo, pOf, slD, fSl, fSln, pinB, gDat, gsNo, gsCons, gTp, gLp, sNil, sSeq, sAsg, sOwn, sSet, sApp, sDrop, sRet, sRetN, sBk, sCt, sIf, wOf, wR1, wR2, small62, sFor, cTru, cTrun, truD, lRep, sAsg2, fCallL, aLend, allD, sumD, wEnum, revTD, sNone, fCall, fCallB, ownB, simp_ix1, simp_ix2, List.set, List.length_cons, List.length_nil, List.map_cons, List.map_nil, List.cons_append, List.nil_append, List.replicate, Option.bind_some, Option.map_some, if_true, if_false, Bool.false_eq_true, Bool.not_true, Bool.not_false, decide_true, decide_false, reduceIte, Nat.reduceAdd, Nat.reduceLeDiff, Nat.reduceEqDiff, Int.reduceLE, Int.reduceLT, Int.reduceToNat, List.getElem?_cons_zero, List.getElem?_cons_succ, Int.cast_ofNat_Int, Nat.zero_add, Int.zero_le_ofNat, ixX, inX, notInX, catL, lCat, lCatn, fTxt, fTxtGet, sTxtPut, sTxt, sDicNew, sDicPut, fGet1, fGet2, wKey, fDl, sOwnX, sRetO, runX, iniX, tellX, notInD, G, List.length_map, hsm, Int.toNat_natCast, Int.cast_ofNat_Int, Int.natCast_zero]) (by simp [G, noOwns]) (by simp [G, wipeE]) (by simp [G, putBack, wipeE]) (fun y hy => by
      obtain ⟨_, h2⟩ := idxL_mem hy
      have ix : ixX (.list (es.map F5)) (.int (y.1 : Int)) = some (F5 y.2) := ix_list (by rw [List.getElem?_map]; simp only [Nat.sub_zero] at h2; rw [h2]; rfl)
      refine lcs (γ0 := G (some (.dat (.int y.1)))) (by simp [G]) (γ2 := G (some (.dat (.int y.1)))) ?_ (by simp [noOwns, G]) (by simp [wipeE, G])
      simp only [↓ix, E1__law_all_ends_b, runF, ini, gt, view, fN, fC, f2, f2n, f2m, f2nn, okN, addD, subD, fdivD, modD, cmpI, isNo, isNd, notNd, ixD, tYe, ofB, cNot, cAnd, cOr, fAnd, fOr, fNot, fNeg, fIf, aNil, aCons, fTup, fL, lDisp, DN.f1, f1n, lenD, intD, absD, tupleD, listD, lOf, lOfn, pNo, pOf, slD, fSl, fSln, pinB, gDat, gsNo, gsCons, gTp, gLp, sNil, sSeq, sAsg, sOwn, sSet, sApp, sDrop, sRet, sRetN, sBk, sCt, sIf, wOf, wR1, wR2, small62, sFor, cTru, cTrun, truD, lRep, sAsg2, fCallL, aLend, allD, sumD, wEnum, revTD, sNone, fCall, fCallB, ownB, simp_ix1, simp_ix2, List.set, List.length_cons, List.length_nil, List.map_cons, List.map_nil, List.cons_append, List.nil_append, List.replicate, Option.bind_some, Option.map_some, if_true, if_false, Bool.false_eq_true, Bool.not_true, Bool.not_false, decide_true, decide_false, reduceIte, Nat.reduceAdd, Nat.reduceLeDiff, Nat.reduceEqDiff, Int.reduceLE, Int.reduceLT, Int.reduceToNat, List.getElem?_cons_zero, List.getElem?_cons_succ, Int.cast_ofNat_Int, Nat.zero_add, Int.zero_le_ofNat, ixX, inX, notInX, catL, lCat, lCatn, fTxt, fTxtGet, sTxtPut, sTxt, sDicNew, sDicPut, fGet1, fGet2, wKey, fDl, sOwnX, sRetO, runX, iniX, tellX, notInD, G, rowT]) (by rw [idxL_len]; omega)
  rw [fm_map] at this
  exact this
theorem lall_noneB (T : List D) (i : Nat) (acc : List D) (e2 e3 : Option Ent) (h0 : ixX (.list T) (.int (i : Int)) = some .none) : L2__law_all_ends_b [some (.ow true (.lst T)), some (.dat (.list acc)), some (.dat (.int (i : Int))), e3, none] = some (.nx [some (.ow true (.lst T)), some (.dat (.list acc)), some (.dat (.int (i : Int))), e3, none]) := by
  simp only [↓h0, L2__law_all_ends_b, runF, ini, gt, view, fN, fC, f2, f2n, f2m, f2nn, okN, addD, subD, fdivD, modD, cmpI, isNo, isNd, notNd, ixD, tYe, ofB, cNot, cAnd, cOr, fAnd, fOr, fNot, fNeg, fIf, aNil, aCons, fTup, fL, lDisp, DN.f1, f1n, lenD, intD, absD, tupleD, listD, lOf, lOfn, pNo, pOf, slD, fSl, fSln, pinB, gDat, gsNo, gsCons, gTp, gLp, sNil, sSeq, sAsg, sOwn, sSet, sApp, sDrop, sRet, sRetN, sBk, sCt, sIf, wOf, wR1, wR2, small62, sFor, cTru, cTrun, truD, lRep, sAsg2, fCallL, aLend, allD, sumD, wEnum, revTD, sNone, fCall, fCallB, ownB, simp_ix1, simp_ix2, List.set, List.length_cons, List.length_nil, List.map_cons, List.map_nil, List.cons_append, List.nil_append, List.replicate, Option.bind_some, Option.map_some, if_true, if_false, Bool.false_eq_true, Bool.not_true, Bool.not_false, decide_true, decide_false, reduceIte, Nat.reduceAdd, Nat.reduceLeDiff, Nat.reduceEqDiff, Int.reduceLE, Int.reduceLT, Int.reduceToNat, List.getElem?_cons_zero, List.getElem?_cons_succ, Int.cast_ofNat_Int, Nat.zero_add, Int.zero_le_ofNat, ixX, inX, notInX, catL, lCat, lCatn, fTxt, fTxtGet, sTxtPut, sTxt, sDicNew, sDicPut, fGet1, fGet2, wKey, fDl, sOwnX, sRetO, runX, iniX, tellX, notInD, isNo]
theorem t_ixB (T : List D) (i : Nat) (acc : List D) (e3 : Option Ent) (kd : Kd) (p : Ps) (h0 : ixX (.list T) (.int (i : Int)) = some (.tuple [.str (kt kd), F5 p])) : (DN.f2 notNd (DN.f2nn ixX 0 2) (fC .none)) [some (.ow true (.lst T)), some (.dat (.list acc)), some (.dat (.int (i : Int))), e3, none] = some (.bool true, [some (.ow true (.lst T)), some (.dat (.list acc)), some (.dat (.int (i : Int))), e3, none]) := by
  simp only [↓h0, runF, ini, gt, view, fN, fC, f2, f2n, f2m, f2nn, okN, addD, subD, fdivD, modD, cmpI, isNo, isNd, notNd, ixD, tYe, ofB, cNot, cAnd, cOr, fAnd, fOr, fNot, fNeg, fIf, aNil, aCons, fTup, fL, lDisp, DN.f1, f1n, lenD, intD, absD, tupleD, listD, lOf, lOfn, pNo, pOf, slD, fSl, fSln, pinB, gDat, gsNo, gsCons, gTp, gLp, sNil, sSeq, sAsg, sOwn, sSet, sApp, sDrop, sRet, sRetN, sBk, sCt, sIf, wOf, wR1, wR2, small62, sFor, cTru, cTrun, truD, lRep, sAsg2, fCallL, aLend, allD, sumD, wEnum, revTD, sNone, fCall, fCallB, ownB, simp_ix1, simp_ix2, List.set, List.length_cons, List.length_nil, List.map_cons, List.map_nil, List.cons_append, List.nil_append, List.replicate, Option.bind_some, Option.map_some, if_true, if_false, Bool.false_eq_true, Bool.not_true, Bool.not_false, decide_true, decide_false, reduceIte, Nat.reduceAdd, Nat.reduceLeDiff, Nat.reduceEqDiff, Int.reduceLE, Int.reduceLT, Int.reduceToNat, List.getElem?_cons_zero, List.getElem?_cons_succ, Int.cast_ofNat_Int, Nat.zero_add, Int.zero_le_ofNat, ixX, inX, notInX, catL, lCat, lCatn, fTxt, fTxtGet, sTxtPut, sTxt, sDicNew, sDicPut, fGet1, fGet2, wKey, fDl, sOwnX, sRetO, runX, iniX, tellX, notInD, isNo]
theorem t_caB (T : List D) (i : Nat) (acc : List D) (e3 : Option Ent) (kd : Kd) (p : Ps) (h0 : ixX (.list T) (.int (i : Int)) = some (.tuple [.str (kt kd), F5 p])) : (fCall 1 F__law_ends (aCons (DN.f2nn ixX 0 2) aNil)) [some (.ow true (.lst T)), some (.dat (.list acc)), some (.dat (.int (i : Int))), e3, none] = some (.list ((ends kd p).map F5), [some (.ow true (.lst T)), some (.dat (.list acc)), some (.dat (.int (i : Int))), e3, none]) := by
  have le := lends kd p
  simp only [↓h0, runF, ini, gt, view, fN, fC, f2, f2n, f2m, f2nn, okN, addD, subD, fdivD, modD, cmpI, isNo, isNd, notNd, ixD, tYe, ofB, cNot, cAnd, cOr, fAnd, fOr, fNot, fNeg, fIf, aNil, aCons, fTup, fL, lDisp, DN.f1, f1n, lenD, intD, absD, tupleD, listD, lOf, lOfn, pNo, pOf, slD, fSl, fSln, pinB, gDat, gsNo, gsCons, gTp, gLp, sNil, sSeq, sAsg, sOwn, sSet, sApp, sDrop, sRet, sRetN, sBk, sCt, sIf, wOf, wR1, wR2, small62, sFor, cTru, cTrun, truD, lRep, sAsg2, fCallL, aLend, allD, sumD, wEnum, revTD, sNone, fCall, fCallB, ownB, simp_ix1, simp_ix2, List.set, List.length_cons, List.length_nil, List.map_cons, List.map_nil, List.cons_append, List.nil_append, List.replicate, Option.bind_some, Option.map_some, if_true, if_false, Bool.false_eq_true, Bool.not_true, Bool.not_false, decide_true, decide_false, reduceIte, Nat.reduceAdd, Nat.reduceLeDiff, Nat.reduceEqDiff, Int.reduceLE, Int.reduceLT, Int.reduceToNat, List.getElem?_cons_zero, List.getElem?_cons_succ, Int.cast_ofNat_Int, Nat.zero_add, Int.zero_le_ofNat, ixX, inX, notInX, catL, lCat, lCatn, fTxt, fTxtGet, sTxtPut, sTxt, sDicNew, sDicPut, fGet1, fGet2, wKey, fDl, sOwnX, sRetO, runX, iniX, tellX, notInD, le]
theorem t_adB (acc : List D) (i : Nat) (kd : Kd) (p : Ps) (hl : acc.length ≤ 900000) : addD (.list acc) (.list ((eE (i, kd, p)).map rowT)) = some (.list (acc ++ (eE (i, kd, p)).map rowT)) := addL _ _ (by
    have := eE_len (i, kd, p)
    rw [List.length_map]; omega)
theorem q2aB (T : List D) (i : Nat) (acc : List D) (e3 : Option Ent) (kd : Kd) (p : Ps) : lLc [4] (gDat 4) (wR1 (f1n lenD 3)) tYe E1__law_all_ends_b [some (.ow true (.lst T)), some (.dat (.list acc)), some (.dat (.int (i : Int))), some (.dat (.list ((ends kd p).map F5))), none] = some ((eE (i, kd, p)).map rowT, [some (.ow true (.lst T)), some (.dat (.list acc)), some (.dat (.int (i : Int))), some (.dat (.list ((ends kd p).map F5))), none]) := by
    have lr := lrowsB T acc i (ends kd p) (ends_len kd p)
    rw [eE_row i kd p] at lr
    exact lr
theorem q2bB (T : List D) (i : Nat) (acc X : List D) (E : D) (h : lLc [4] (gDat 4) (wR1 (f1n lenD 3)) tYe E1__law_all_ends_b [some (.ow true (.lst T)), some (.dat (.list acc)), some (.dat (.int (i : Int))), some (.dat E), none] = some (X, [some (.ow true (.lst T)), some (.dat (.list acc)), some (.dat (.int (i : Int))), some (.dat E), none])) (ha : addD (.list acc) (.list X) = some (.list (acc ++ X))) : (DN.f2n addD 1 (fL (lLc [4] (gDat 4) (wR1 (f1n lenD 3)) tYe E1__law_all_ends_b))) [some (.ow true (.lst T)), some (.dat (.list acc)), some (.dat (.int (i : Int))), some (.dat E), none] = some (.list (acc ++ X), [some (.ow true (.lst T)), some (.dat (.list acc)), some (.dat (.int (i : Int))), some (.dat E), none]) := by
    unfold DN.f2n fL
    rw [h]
    simp only [view, gt]
    rw [ha]
theorem lall_genB (T : List D) (i : Nat) (acc : List D) (e3 : Option Ent) (X : List D) (E : D) (x : (DN.f2 notNd (DN.f2nn ixX 0 2) (fC .none)) [some (.ow true (.lst T)), some (.dat (.list acc)), some (.dat (.int (i : Int))), e3, none] = some (.bool true, [some (.ow true (.lst T)), some (.dat (.list acc)), some (.dat (.int (i : Int))), e3, none]))
   (c : (fCall 1 F__law_ends (aCons (DN.f2nn ixX 0 2) aNil)) [some (.ow true (.lst T)), some (.dat (.list acc)), some (.dat (.int (i : Int))), e3, none] = some (E, [some (.ow true (.lst T)), some (.dat (.list acc)), some (.dat (.int (i : Int))), e3, none]))
   (e : (DN.f2n addD 1 (fL (lLc [4] (gDat 4) (wR1 (f1n lenD 3)) tYe E1__law_all_ends_b))) [some (.ow true (.lst T)), some (.dat (.list acc)), some (.dat (.int (i : Int))), some (.dat E), none] = some (.list (acc ++ X), [some (.ow true (.lst T)), some (.dat (.list acc)), some (.dat (.int (i : Int))), some (.dat E), none])) :
   L2__law_all_ends_b [some (.ow true (.lst T)), some (.dat (.list acc)), some (.dat (.int (i : Int))), e3, none] = some (.nx [some (.ow true (.lst T)), some (.dat (.list (acc ++ X))), some (.dat (.int (i : Int))), some (.dat E), none]) := by
  unfold L2__law_all_ends_b
  refine if_t (γ1 := [some (.ow true (.lst T)), some (.dat (.list acc)), some (.dat (.int (i : Int))), e3, none]) (by unfold ofB; rw [x]) ?_
  refine (seq_nx (γ1 := [some (.ow true (.lst T)), some (.dat (.list acc)), some (.dat (.int (i : Int))), some (.dat E), none]) (by unfold sAsg; rw [c]; rfl)).trans ?_
  unfold sAsg
  rw [e]
  rfl
theorem lall_someB (T : List D) (i : Nat) (acc : List D) (e3 : Option Ent) (kd : Kd) (p : Ps) (h0 : ixX (.list T) (.int (i : Int)) = some (.tuple [.str (kt kd), F5 p])) (hl : acc.length ≤ 900000) : L2__law_all_ends_b [some (.ow true (.lst T)), some (.dat (.list acc)), some (.dat (.int (i : Int))), e3, none] =
    some (.nx [some (.ow true (.lst T)), some (.dat (.list (acc ++ (eE (i, kd, p)).map rowT))), some (.dat (.int (i : Int))), some (.dat (.list ((ends kd p).map F5))), none]) :=
  lall_genB T i acc e3 _ _ (t_ixB T i acc e3 kd p h0) (t_caB T i acc e3 kd p h0) (q2bB T i acc _ _ (q2aB T i acc e3 kd p) (t_adB acc i kd p hl))
theorem lall_loopB (T : List D) (r : List Pc) : ∀ (i : Nat) (acc : List D) (e2 e3 : Option Ent), (∀ (j : Nat) (d : D), (r.map pcD)[j]? = some d → ixX (.list T) (.int ((i + j : Nat) : Int)) = some d) → acc.length + 4 * r.length ≤ 900000 →
    ∃ r2 r3, forF (gDat 2) L2__law_all_ends_b (rngD (i : Int) r.length) [some (.ow true (.lst T)), some (.dat (.list acc)), e2, e3, none] = some (.nx [some (.ow true (.lst T)), some (.dat (.list (acc ++ (allG i r).map rowT))), r2, r3, none]) := by
  induction r with
  | nil => exact fun i acc e2 e3 _ _ => ⟨e2, e3, by simp [rngD, forF, allG, idxL]⟩
  | cons x r ih =>
    intro i acc e2 e3 h hl
    rw [List.length_cons] at hl
    have h0 := h 0 (pcD x) rfl
    rw [Nat.add_zero] at h0
    have hr : ∀ (j : Nat) (d : D), (r.map pcD)[j]? = some d → ixX (.list T) (.int ((i + 1 + j : Nat) : Int)) = some d := fun j d e => by
      rw [show i + 1 + j = i + (j + 1) by omega]
      exact h (j + 1) d e
    rw [List.length_cons, rngD_cons, show (i : Int) + 1 = ((i + 1 : Nat) : Int) by omega]
    cases x with
    | none =>
      obtain ⟨r2, r3, k⟩ := ih (i + 1) acc (some (.dat (.int (i : Int)))) e3 hr (by omega)
      exact ⟨r2, r3, (forF_nx (by simp) (lall_noneB T i acc e2 e3 h0)).trans k⟩
    | some kp =>
      obtain ⟨kd, p⟩ := kp
      obtain ⟨r2, r3, k⟩ := ih (i + 1) (acc ++ (eE (i, kd, p)).map rowT) (some (.dat (.int (i : Int)))) (some (.dat (.list ((ends kd p).map F5)))) hr (by
        have := eE_len (i, kd, p)
        rw [List.length_append, List.length_map]; omega)
      refine ⟨r2, r3, (forF_nx (by simp) (lall_someB T i acc e3 kd p h0 (by omega))).trans (k.trans ?_)⟩
      simp only [allG, idxL, List.filterMap_cons, Option.map_some, List.flatMap_cons, List.map_append, List.append_assoc]
theorem run_b {m : Nat} {B : Fs} {ds out : List D} {γ0 γ : En} {d : D} (h0 : ini true m ds = γ0) (h : B γ0 = some (.rt d γ)) (g : gt γ 0 = some (.ow true (.lst out))) : runF true m B ds = some (d, out) := by
  unfold runF
  rw [h0, h]
  simp only [if_true, g]
theorem wr1_t {f : Fe} {γ γ1 : En} {n : Int} (h : f γ = some (.int n, γ1)) (s : small62 n = true) : wR1 f γ = some (rngD 0 n.toNat, γ1) := by
  simp only [wR1, h, s, if_true]
theorem f1n_t {op : D → Option D} {i : Nat} {γ : En} {x z : D} (h : view γ i = some x) (k : op x = some z) : f1n op i γ = some (z, γ) := by
  simp only [f1n, h, k]
theorem lall_ofB (T : List D) (l : List Pc) (h : ∀ (j : Nat) (d : D), (l.map pcD)[j]? = some d → ixX (.list T) (.int (j : Int)) = some d) (hn : lenD (.list T) = some (.int (l.length : Int))) (hl : l.length ≤ 1000) : F__law_all_ends_b [.list T] = some (.list ((allE l).map rowT), T) := by
  obtain ⟨r2, r3, e⟩ := lall_loopB T l 0 [] none none (fun j d q => by rw [Nat.zero_add]; exact h j d q) (by simp; omega)
  have hsm := small_n (n := l.length) (by omega)
  simp only [List.nil_append] at e
  refine run_b (γ0 := [some (.ow true (.lst T)), none, none, none, none]) (γ := [some (.ow true (.lst T)), some (.dat (.list ((allE l).map rowT))), r2, r3, none]) rfl ?_ rfl
  unfold B__law_all_ends_b
  refine (seq_nx (γ1 := [some (.ow true (.lst T)), some (.dat (.list [])), none, none, none]) rfl).trans ?_
  exact (seq_nx (γ1 := [some (.ow true (.lst T)), some (.dat (.list ((allE l).map rowT))), r2, r3, none]) (for_t (ds := rngD 0 l.length) (γ1 := [some (.ow true (.lst T)), some (.dat (.list [])), none, none, none]) (wr1_t (f1n_t (x := .list T) rfl hn) hsm) e)).trans rfl
theorem lallB (l : List Pc) (hl : l.length ≤ 1000) : F__law_all_ends_b [.list (l.map pcD)] = some (.list ((allE l).map rowT), l.map pcD) :=
  lall_ofB _ l (fun j d q => ix_list q) (by simp) hl
/-! ### whether a layout can lie -/
theorem lie_lc (L : D) (R : List (Nat × Nat × Ps)) (hL : F__law_all_ends [L] = some (.list (R.map rowT), [])) (hl : R.length ≤ 10000) : lLc [2] (gDat 2) (wOf (fCall 1 F__law_all_ends (aCons (fN 0) aNil))) tYe E1__law_can_lie [some (.dat L), none, none, none] = some ((R.map (·.2.2)).map F5, [some (.dat L), none, none, none]) := by
  let G : Option Ent → En := fun g => [some (.dat L), none, g, none]
  have := lLc_pure (enc := rowT) (js := [2]) (tg := gDat 2) (src := wOf (fCall 1 F__law_all_ends (aCons (fN 0) aNil))) (tt := tYe) (elt := E1__law_can_lie) (γ := G none) (γ1 := G none) (ds := R) (fun x => some (F5 x.2.2)) (wof_t (call_t (ds := [L]) (γ2 := G none) rfl rfl hL)) (by simp [G, noOwns]) (by simp [G, wipeE]) (by simp [G, putBack, wipeE]) (fun x _ => by
    refine lcs (γ0 := G (some (.dat (rowT x)))) (by simp [G]) (γ2 := G (some (.dat (rowT x)))) ?_ (by simp [noOwns, G]) (by simp [wipeE, G])
    exact f2n_t (x := rowT x) (y := .int 2) rfl rfl rfl (row_2 x)) (by omega)
  rw [fm_map] at this
  rw [List.map_map]
  exact this
theorem cut_take {α : Type} (f : α → D) (l : List α) (n : Nat) (h : n ≤ l.length) : cutD (l.map f) none (some (n : Int)) = (l.take n).map f := by
  unfold cutD
  have h1 : HT.sIx (l.map f).length (l.map f).length (some (n : Int)) = n := by
    unfold HT.sIx
    have hn : ¬ ((n : Int) < 0) := by omega
    simp [hn]
    omega
  rw [h1, HT.sIx_none]
  simp
theorem nodup_take {α : Type} (l : List α) (h : ∀ n (hn : n < l.length), l[n] ∉ l.take n) : l.Nodup := by
  rw [List.Nodup, List.pairwise_iff_getElem]
  intro i j hi hj hij e
  exact h j hj (by rw [← e]; exact List.mem_take_iff_getElem.mpr ⟨i, by omega, rfl⟩)
theorem idxL_in {α : Type} : ∀ {es : List α} {i n : Nat} (hn : n < es.length), (i + n, es[n]) ∈ idxL i es
  | x :: r, i, 0, _ => by simp [idxL]
  | x :: r, i, n + 1, h => by
    have := idxL_in (es := r) (i := i + 1) (n := n) (by simpa using h)
    rw [show i + 1 + n = i + (n + 1) by omega] at this
    simp [idxL, this]
theorem lie_lc2 (L : D) (es : List Ps) (hl : es.length ≤ 10000) : lLc [3] (gDat 3) (wR1 (f1n lenD 1)) (ofB (f2 inX (f2nn ixX 1 3) (fSln 1 pNo (pOf (fN 3))))) E2__law_can_lie [some (.dat L), some (.dat (.list (es.map F5))), none, none] =
    some ((idxL 0 es).filterMap (fun y => if y.2 ∈ es.take y.1 then some (.int (y.1 : Int)) else none), [some (.dat L), some (.dat (.list (es.map F5))), none, none]) := by
  let G : Option Ent → En := fun g => [some (.dat L), some (.dat (.list (es.map F5))), none, g]
  have hsm := small_n (n := es.length) (by omega)
  exact lLc_pure (enc := fun y : Nat × Ps => PyData.int (y.1 : Int)) (js := [3]) (tg := gDat 3) (src := wR1 (f1n lenD 1)) (tt := ofB (f2 inX (f2nn ixX 1 3) (fSln 1 pNo (pOf (fN 3))))) (elt := E2__law_can_lie) (γ := G none) (γ1 := G none) (ds := idxL 0 es) _
    (by
      rw [← rngD_idx es 0]
      exact wr1_t (n := (es.length : Int)) (f1n_t (x := .list (es.map F5)) rfl (by simp)) hsm) (by simp [G, noOwns]) (by simp [G, wipeE]) (by simp [G, putBack, wipeE]) (fun y hy => by
      obtain ⟨_, h2⟩ := idxL_mem hy
      simp only [Nat.sub_zero] at h2
      have hy1 : y.1 ≤ es.length := by have := (List.getElem?_eq_some_iff.mp h2).1; omega
      have ix : ixX (.list (es.map F5)) (.int (y.1 : Int)) = some (F5 y.2) := ix_list (by rw [List.getElem?_map]; rw [h2]; rfl)
      have sl : fSln 1 pNo (pOf (fN 3)) (G (some (.dat (.int y.1)))) = some (.list ((es.take y.1).map F5), G (some (.dat (.int y.1)))) := by
        have := cut_take F5 es y.1 hy1
        simp only [runF, ini, gt, view, fN, fC, f2, f2n, f2m, f2nn, okN, addD, subD, fdivD, modD, cmpI, isNo, isNd, notNd, ixD, tYe, ofB, cNot, cAnd, cOr, fAnd, fOr, fNot, fNeg, fIf, aNil, aCons, fTup, fL, lDisp, DN.f1, f1n, lenD, intD, absD, tupleD, listD, lOf, lOfn, pNo, pOf, slD, fSl, fSln, pinB, gDat, gsNo, gsCons, gTp, gLp, sNil, sSeq, sAsg, sOwn, sSet, sApp, sDrop, sRet, sRetN, sBk, sCt, sIf, wOf, wR1, wR2, small62, sFor, cTru, cTrun, truD, lRep, sAsg2, fCallL, aLend, allD, sumD, wEnum, revTD, sNone, fCall, fCallB, ownB, simp_ix1, simp_ix2, List.set, List.length_cons, List.length_nil, List.map_cons, List.map_nil, List.cons_append, List.nil_append, List.replicate, Option.bind_some, Option.map_some, if_true, if_false, Bool.false_eq_true, Bool.not_true, Bool.not_false, decide_true, decide_false, reduceIte, Nat.reduceAdd, Nat.reduceLeDiff, Nat.reduceEqDiff, Int.reduceLE, Int.reduceLT, Int.reduceToNat, List.getElem?_cons_zero, List.getElem?_cons_succ, Int.cast_ofNat_Int, Nat.zero_add, Int.zero_le_ofNat, ixX, inX, notInX, catL, lCat, lCatn, fTxt, fTxtGet, sTxtPut, sTxt, sDicNew, sDicPut, fGet1, fGet2, wKey, fDl, sOwnX, sRetO, runX, iniX, tellX, notInD, G, this]
      have t : ofB (f2 inX (f2nn ixX 1 3) (fSln 1 pNo (pOf (fN 3)))) (G (some (.dat (.int y.1)))) = some (decide (y.2 ∈ es.take y.1), G (some (.dat (.int y.1)))) :=
        ofB_t (f2_t (x := F5 y.2) (y := .list ((es.take y.1).map F5)) (f2nn_t (x := .list (es.map F5)) (y := .int (y.1 : Int)) rfl rfl ix) sl (in_poses _ _))
      refine ⟨G (some (.dat (.int y.1))), by simp [G], ?_⟩
      by_cases c : y.2 ∈ es.take y.1
      · rw [decide_eq_true c] at t
        exact .inr ⟨.int y.1, G (some (.dat (.int y.1))), G (some (.dat (.int y.1))), if_pos c, t, rfl, by simp [noOwns, G], by simp [wipeE, G]⟩
      · rw [decide_eq_false c] at t
        exact .inl ⟨if_neg c, G (some (.dat (.int y.1))), t, by simp [noOwns, G], by simp [wipeE, G]⟩) (by rw [idxL_len]; omega)
theorem can_lie_ok (l : List Pc) (hl : l.length ≤ 1000) : ∃ b, F__law_can_lie [.list (l.map pcD)] = some (.bool b, []) ∧ (b = true → (endsA l).Nodup) := by
  have az := allE_len l
  have c1 := lie_lc _ _ (lall_list l hl) (by omega)
  rw [allE_pose] at c1
  have ze : (endsA l).length ≤ 4 * l.length := endsA_len l
  have c2 := lie_lc2 (.list (l.map pcD)) (endsA l) (by omega)
  refine ⟨_, run_d (γ0 := [some (.dat (.list (l.map pcD))), none, none, none]) (γ := [some (.dat (.list (l.map pcD))), some (.dat (.list ((endsA l).map F5))), none, none]) rfl ((seq_nx (asg_t (fL_t c1) rfl)).trans (ret_t (f2_t (f1_t (op := lenD) (fL_t c2) rfl) rfl rfl))), fun h => ?_⟩
  have h0 := of_decide_eq_true h
  have h1 := List.length_eq_zero_iff.mp (Int.ofNat.inj h0)
  refine nodup_take _ fun n hn hm => ?_
  have hi := idxL_in (i := 0) hn
  rw [Nat.zero_add] at hi
  have : (PyData.int (n : Int)) ∈ (idxL 0 (endsA l)).filterMap (fun y => if y.2 ∈ (endsA l).take y.1 then some (PyData.int (y.1 : Int)) else none) := List.mem_filterMap.mpr ⟨_, hi, if_pos hm⟩
  rw [h1] at this
  cases this
/-! ### what is joined -/
def joined (l : List Pc) (p : Ps) : Option (Nat × Nat) := ((allE l).find? fun x => decide (x.2.2 = bk p)).map fun x => (x.1, x.2.1)
def jD : Option (Nat × Nat) → D
  | none => .none
  | some (n, e) => .tuple [.int (n : Int), .int (e : Int)]
theorem eq_F5 (p q : Ps) : eqD (F5 p) (F5 q) = some (.bool (decide (p = q))) := by
  have h : eqD (F5 p) (F5 q) = if (SeqAt.shaped (F5 p) && SeqAt.shaped (F5 q)) = true then some (.bool (PyData.eqv (F5 p) (F5 q))) else none := rfl
  rw [h, pose_shaped, pose_shaped, eqv_F5]
  rfl
theorem join_loop (a : Option Ent) (p q : Ps) : ∀ (R : List (Nat × Nat × Ps)) (e3 e4 e5 : Option Ent),
    forF (gTp 3 (gsCons (gDat 3) (gsCons (gDat 4) (gsCons (gDat 5) gsNo)))) L1__law_joined_b (R.map rowT) [a, some (.dat (F5 p)), some (.dat (F5 q)), e3, e4, e5] =
      match R.find? fun x => decide (x.2.2 = q) with
      | some x => some (.rt (.tuple [.int (x.1 : Int), .int (x.2.1 : Int)]) [a, some (.dat (F5 p)), some (.dat (F5 q)), some (.dat (.int x.1)), some (.dat (.int x.2.1)), some (.dat (F5 x.2.2))])
      | none => some (.nx (match R.getLast? with | some x => [a, some (.dat (F5 p)), some (.dat (F5 q)), some (.dat (.int x.1)), some (.dat (.int x.2.1)), some (.dat (F5 x.2.2))] | none => [a, some (.dat (F5 p)), some (.dat (F5 q)), e3, e4, e5]))
  | [], e3, e4, e5 => rfl
  | x :: R, e3, e4, e5 => by
    let G : En := [a, some (.dat (F5 p)), some (.dat (F5 q)), some (.dat (.int x.1)), some (.dat (.int x.2.1)), some (.dat (F5 x.2.2))]
    have t : ofB (f2nn eqD 5 2) G = some (decide (x.2.2 = q), G) := ofB_t (f2nn_t (x := F5 x.2.2) (y := F5 q) rfl rfl (eq_F5 _ _))
    have g : gTp 3 (gsCons (gDat 3) (gsCons (gDat 4) (gsCons (gDat 5) gsNo))) (rowT x) [a, some (.dat (F5 p)), some (.dat (F5 q)), e3, e4, e5] = some G := rfl
    rw [List.map_cons, List.find?_cons]
    by_cases c : x.2.2 = q
    · rw [decide_eq_true c] at t ⊢
      exact forF_rt g (if_t t (ret_t (tup_t (ds := [.int (x.1 : Int), .int (x.2.1 : Int)]) rfl rfl)))
    · rw [decide_eq_false c] at t ⊢
      refine (forF_nx g (if_f t rfl)).trans ((join_loop a p q R _ _ _).trans ?_)
      cases R with
      | nil => rfl
      | cons y r => rfl
theorem join_run (a : Option Ent) (L : List (Nat × Nat × Ps)) (p : Ps) (src : Fa) (B : Fs) (hB : B = (sSeq (sAsg (fCall 1 F__law_back (aCons (fN 1) aNil)) (gDat 2)) (sSeq (sFor src (gTp 3 (gsCons (gDat 3) (gsCons (gDat 4) (gsCons (gDat 5) gsNo)))) L1__law_joined_b) (sRet (fC .none)))))
    (hs : src [a, some (.dat (F5 p)), some (.dat (F5 (bk p))), none, none, none] = some (L.map rowT, [a, some (.dat (F5 p)), some (.dat (F5 (bk p))), none, none, none])) :
    ∃ γ, B [a, some (.dat (F5 p)), none, none, none, none] = some (.rt (jD ((L.find? fun x => decide (x.2.2 = bk p)).map fun x => (x.1, x.2.1))) γ) ∧ gt γ 0 = a := by
  have lp := join_loop a p (bk p) L none none none
  have hd : sSeq (sAsg (fCall 1 F__law_back (aCons (fN 1) aNil)) (gDat 2)) (sSeq (sFor src (gTp 3 (gsCons (gDat 3) (gsCons (gDat 4) (gsCons (gDat 5) gsNo)))) L1__law_joined_b) (sRet (fC .none))) [a, some (.dat (F5 p)), none, none, none, none] = sSeq (sFor src (gTp 3 (gsCons (gDat 3) (gsCons (gDat 4) (gsCons (gDat 5) gsNo)))) L1__law_joined_b) (sRet (fC .none)) [a, some (.dat (F5 p)), some (.dat (F5 (bk p))), none, none, none] :=
    seq_nx (asg_t (call_t (ds := [F5 p]) (γ2 := [a, some (.dat (F5 p)), none, none, none, none]) rfl rfl (lpback p)) rfl)
  rw [hB, hd]
  cases e : L.find? fun x => decide (x.2.2 = bk p) with
  | none =>
    rw [e] at lp
    refine ⟨_, (seq_nx (for_t hs lp)).trans rfl, ?_⟩
    cases L.getLast? with
    | none => rfl
    | some x => rfl
  | some x =>
    rw [e] at lp
    exact ⟨_, seq_rt (for_t hs lp), rfl⟩
theorem joined_b (l : List Pc) (hl : l.length ≤ 1000) (p : Ps) : F__law_joined_b [.list (l.map pcD), F5 p] = some (jD (joined l p), l.map pcD) := by
  obtain ⟨γ, h, g⟩ := join_run (some (.ow true (.lst (l.map pcD)))) (allE l) p (wOf (fCallB 1 F__law_all_ends_b 0 aNil)) B__law_joined_b rfl (wof_t (bor_g (ds := []) (γ1 := [some (.ow true (.lst (l.map pcD))), some (.dat (F5 p)), some (.dat (F5 (bk p))), none, none, none]) rfl rfl rfl rfl (lallB l hl)))
  exact run_b rfl h g
/-! ### attached -/
theorem attached_ok (k : Kd) (n : Nat) (hn : n < (ends k ((0, 0, 0, 0), 0)).length) (p : Ps) : ∃ q, F__law_attached [.str (kt k), .int (n : Int), F5 p] = some (pcD (some (k, q)), []) := by
  let H : Ps := ((0, 0, 0, 0), 0)
  let t := (ends k H)[n]'hn
  have ix : ixX (.list ((ends k H).map F5)) (.int (n : Int)) = some (F5 t) := ix_list (by rw [List.getElem?_map, List.getElem?_eq_getElem hn]; rfl)
  let s : Ps := (tn (8 - t.2) (sub4 H.1 t.1), (H.2 - t.2) % 8)
  have ls : F__law_seen [F5 t, F5 H] = some (F5 s, []) := lseen_eq t.1 H.1 t.2 H.2
  let G : Option Ent → En := fun x => [some (.dat (.str (kt k))), some (.dat (.int (n : Int))), some (.dat (F5 p)), x]
  have hH : (fTup (aCons (fC (.int 0)) (aCons (fC (.int 0)) (aCons (fC (.int 0)) (aCons (fC (.int 0)) (aCons (fC (.int 0)) aNil)))))) = fun γ => some (F5 H, γ) := rfl
  refine ⟨comp p s, ?_⟩
  have a1 : f2m ixX (fCall 1 F__law_ends (aCons (fTup (aCons (fN 0) (aCons (fTup (aCons (fC (.int 0)) (aCons (fC (.int 0)) (aCons (fC (.int 0)) (aCons (fC (.int 0)) (aCons (fC (.int 0)) aNil)))))) aNil))) aNil)) 1 (G none) = some (F5 t, G none) :=
    f2m_t (call_t (ds := [.tuple [.str (kt k), F5 H]]) (γ2 := G none) rfl rfl (lends k H)) rfl ix
  refine run_d (γ0 := G none) (γ := G (some (.dat (F5 t)))) rfl ((seq_nx (asg_t a1 rfl)).trans (ret_t ?_))
  exact tup_t (ds := [.str (kt k), F5 (comp p s)]) (cons_t (d := .str (kt k)) rfl (cons_t (call_t (ds := [F5 p, F5 s]) (γ2 := G (some (.dat (F5 t)))) (cons_t (d := F5 p) rfl (cons_t (call_t (ds := [F5 t, F5 H]) (γ2 := G (some (.dat (F5 t)))) rfl rfl ls) rfl)) rfl (lplaid p s)) rfl)) rfl
/-! ### the first pieces -/
def runP : Ps → List Char → List (Kd × Ps)
  | _, [] => []
  | p, 'L' :: r => (.c, p) :: runP (comp p ((0, 0, 2, -2), 1)) r
  | p, 'R' :: r => (.c, bk (comp p ((0, 2, -2, 0), 7))) :: runP (comp p ((0, 2, -2, 0), 7)) r
  | p, _ :: r => (.s, p) :: runP (comp p ((2, 0, 0, 0), 0)) r
def base1 : List (Kd × Ps) := runP ((0, 0, 0, 0), 0) "LLLLLLLL".toList
def base2 : List (Kd × Ps) := runP ((0, 0, 0, 0), 0) "SLLLLSLLLL".toList
def base3 : List (Kd × Ps) := runP ((0, 0, 2, -2), 1) "LLLLLLL".toList
def base4 : List (Kd × Ps) := runP ((2, 0, 0, 0), 0) "RSSLLLSSLLS".toList
abbrev pk (x : Kd × Ps) : D := pcD (some x)
theorem b1 : F__law_pieces_o none [F5 ((0, 0, 0, 0), 0), .str "LLLLLLLL"] = some (.ow (.lst (base1.map pk)), none) := by rfl
theorem b2 : F__law_pieces_o none [F5 ((0, 0, 0, 0), 0), .str "SLLLLSLLLL"] = some (.ow (.lst (base2.map pk)), none) := by rfl
theorem b3 : F__law_pieces [F5 ((0, 0, 2, -2), 1), .str "LLLLLLL"] = some (.list (base3.map pk), []) := by rfl
theorem b4 : F__law_pieces [F5 ((2, 0, 0, 0), 0), .str "RSSLLLSSLLS"] = some (.list (base4.map pk), []) := by rfl
theorem n1 : (endsA (base1.map some)).Nodup := by decide +kernel
theorem n2 : (endsA (base2.map some)).Nodup := by decide +kernel
theorem n3 : (endsA (((Kd.p, ((0, 0, 0, 0), 0)) :: base3).map some)).Nodup := by decide +kernel
theorem n4 : (endsA (((Kd.p, ((0, 0, 0, 0), 0)) :: base4).map some)).Nodup := by decide +kernel
theorem n5 (k : Kd) : (endsA [some (k, ((0, 0, 0, 0), 0))]).Nodup := by cases k <;> decide +kernel
/-! ### the law's layouts -/
abbrev hm : Ps := ((0, 0, 0, 0), 0)
theorem map_pk (xs : List (Kd × Ps)) : (xs.map some).map pcD = xs.map pk := by rw [List.map_map]; rfl
abbrev LL (B L : List D) (m : Int) (kd : D) (e5 e6 e7 e8 e9 : Option Ent) : En := [some (.ow true (.lst B)), some (.dat (.int m)), some (.dat (F5 hm)), some (.dat kd), some (.ow false (.lst L)), e5, e6, e7, e8, e9, none]
abbrev LCo : Fe := (fL (lLc [10] (gDat 10) (wOf (fCallB 1 F__law_all_ends_b 4 aNil)) (ofB (f2 isNd (fCallB 2 F__law_joined_b 4 (aCons (f2n ixX 10 (fC (.int 2))) aNil)) (fC .none))) E1__law_layout))
theorem isNo_jD (o : Option (Nat × Nat)) : isNo (jD o) = o.isNone := by
  cases o with
  | none => rfl
  | some x => rfl
theorem open_t {J : Fun'} (T : List D) (x : Nat × Nat × Ps) (o : Option (Nat × Nat)) (γ : En) (hv : view γ 10 = some (rowT x)) (hg : gt γ 4 = some (.ow false (.lst T))) (hs : γ.set 4 (some (.ow false (.lst T))) = γ) (hJ : J [.list T, F5 x.2.2] = some (jD o, T)) :
    (ofB (f2 isNd (fCallB 2 J 4 (aCons (f2n ixX 10 (fC (.int 2))) aNil)) (fC .none))) γ = some (o.isNone, γ) := by
  have r2 : (f2n ixX 10 (fC (.int 2))) γ = some (F5 x.2.2, γ) := f2n_t (x := rowT x) (y := .int 2) hv rfl hv (row_2 x)
  have b := bor_g (n := 2) (fa := aCons (f2n ixX 10 (fC (.int 2))) aNil) (i := 4) (F := J) (ds := [F5 x.2.2]) (γ := γ) (γ1 := γ) hg (cons_t r2 rfl) hg rfl hJ
  rw [hs] at b
  exact ofB_t (f2_t b rfl (by rw [← isNo_jD]; rfl))
theorem open_gen {F J : Fun'} (B T : List D) (m : Int) (kd : D) (e5 e6 e7 e8 e9 : Option Ent) (R : List (Nat × Nat × Ps)) (jn : Ps → Option (Nat × Nat)) (hF : F [.list T] = some (.list (R.map rowT), T)) (hJ : ∀ p, J [.list T, F5 p] = some (jD (jn p), T)) (hR : R.length ≤ 10000) :
    fL (lLc [10] (gDat 10) (wOf (fCallB 1 F 4 aNil)) (ofB (f2 isNd (fCallB 2 J 4 (aCons (f2n ixX 10 (fC (.int 2))) aNil)) (fC .none))) (f2n ixX 10 (fC (.int 2)))) (LL B T m kd e5 e6 e7 e8 e9) = some (.list ((R.filterMap fun x => if (jn x.2.2).isNone then some x.2.2 else none).map F5), LL B T m kd e5 e6 e7 e8 e9) := by
  let G : Option Ent → En := fun g => [some (.ow true (.lst B)), some (.dat (.int m)), some (.dat (F5 hm)), some (.dat kd), some (.ow false (.lst T)), e5, e6, e7, e8, e9, g]
  let h : Nat × Nat × Ps → Option Ps := fun x => if (jn x.2.2).isNone then some x.2.2 else none
  have := lLc_pure (enc := rowT) (js := [10]) (tg := gDat 10) (src := (wOf (fCallB 1 F 4 aNil))) (tt := (ofB (f2 isNd (fCallB 2 J 4 (aCons (f2n ixX 10 (fC (.int 2))) aNil)) (fC .none)))) (elt := (f2n ixX 10 (fC (.int 2)))) (γ := G none) (γ1 := G none) (ds := R) (fun x => (h x).map F5)
    (wof_t (bor_g (ds := []) (γ1 := G none) rfl rfl rfl rfl hF)) (by simp [G, noOwns]) (by simp [G, wipeE]) (by simp [G, putBack, wipeE]) (fun x _ => by
      have r2 : (f2n ixX 10 (fC (.int 2))) (G (some (.dat (rowT x)))) = some (F5 x.2.2, G (some (.dat (rowT x)))) := f2n_t (x := rowT x) (y := .int 2) rfl rfl rfl (row_2 x)
      have t := open_t (J := J) T x (jn x.2.2) (G (some (.dat (rowT x)))) rfl rfl rfl (hJ x.2.2)
      refine ⟨G (some (.dat (rowT x))), by simp [G], ?_⟩
      cases c : (jn x.2.2).isNone with
      | true =>
        rw [c] at t
        exact .inr ⟨F5 x.2.2, G (some (.dat (rowT x))), G (some (.dat (rowT x))), by simp only [h, c, if_true, Option.map_some], t, r2, by simp [noOwns, G], by simp [wipeE, G]⟩
      | false =>
        rw [c] at t
        exact .inl ⟨by simp only [h, c, if_false, Option.map_none, Bool.false_eq_true], G (some (.dat (rowT x))), t, by simp [noOwns, G], by simp [wipeE, G]⟩) (by omega)
  unfold fL
  rw [this, List.map_filterMap]
theorem open_lc (B : List D) (m : Int) (kd : D) (e5 e6 e7 e8 e9 : Option Ent) (l : List Pc) (hl : l.length ≤ 1000) : ∃ ps : List Ps, ps.length ≤ 4 * l.length ∧ LCo (LL B (l.map pcD) m kd e5 e6 e7 e8 e9) = some (.list (ps.map F5), LL B (l.map pcD) m kd e5 e6 e7 e8 e9) := by
  have h2 := allE_len l
  refine ⟨_, Nat.le_trans (List.length_filterMap_le _ _) h2, open_gen B (l.map pcD) m kd e5 e6 e7 e8 e9 (allE l) (joined l) (lallB l hl) (joined_b l hl) (by omega)⟩
theorem sort_ok (d : Int) (h0 : 0 ≤ d) (h1 : d < 8) : ∃ k, ixX (.str "SHCCCPQX") (.int d) = some (.str (kt k)) := by
  have : d = 0 ∨ d = 1 ∨ d = 2 ∨ d = 3 ∨ d = 4 ∨ d = 5 ∨ d = 6 ∨ d = 7 := by omega
  rcases this with rfl | rfl | rfl | rfl | rfl | rfl | rfl | rfl
  · exact ⟨.s, rfl⟩
  · exact ⟨.h, rfl⟩
  · exact ⟨.c, rfl⟩
  · exact ⟨.c, rfl⟩
  · exact ⟨.c, rfl⟩
  · exact ⟨.p, rfl⟩
  · exact ⟨.q, rfl⟩
  · exact ⟨.x, rfl⟩
theorem first_ok (d : Int) (h0 : 0 ≤ d) (h1 : d < 5) : ∃ k, ixX (.str "PQXSC") (.int d) = some (.str (kt k)) := by
  have : d = 0 ∨ d = 1 ∨ d = 2 ∨ d = 3 ∨ d = 4 := by omega
  rcases this with rfl | rfl | rfl | rfl | rfl
  · exact ⟨.p, rfl⟩
  · exact ⟨.q, rfl⟩
  · exact ⟨.x, rfl⟩
  · exact ⟨.s, rfl⟩
  · exact ⟨.c, rfl⟩
def Lay (xs : List (Kd × Ps)) (m : Nat) : Prop := 0 < xs.length ∧ xs.length ≤ m ∧ (endsA (xs.map some)).Nodup
theorem draw4 {ds : List Int} {i : Int} {B' : List D} {d : D} {m : Int} {f : Fe} {L : List D} {M : Int} {kd : D} {e5 e6 e7 e8 e9 : Option Ent} (hf : f (LL (bx ds i) L M kd e5 e6 e7 e8 e9) = some (.int m, LL (bx ds i) L M kd e5 e6 e7 e8 e9)) (h : F__law_draw [.list (bx ds i), .int m] = some (d, B')) :
    fCallB 2 F__law_draw 0 (aCons f aNil) (LL (bx ds i) L M kd e5 e6 e7 e8 e9) = some (d, LL B' L M kd e5 e6 e7 e8 e9) :=
  bor_g (ds := [.int m]) (γ1 := LL (bx ds i) L M kd e5 e6 e7 e8 e9) rfl (cons_t hf rfl) rfl rfl h
theorem modn (ps : List Ps) (d : Int) (h : 0 < ps.length) : ∃ p ∈ ps, ∃ j : Int, modD (.int d) (.int ((ps.map F5).length : Int)) = some (.int j) ∧ ixX (.list (ps.map F5)) (.int j) = some (F5 p) := by
  have m0 : 0 ≤ d % (ps.length : Int) := Int.emod_nonneg _ (by omega)
  have m1 : d % (ps.length : Int) < ps.length := Int.emod_lt_of_pos _ (by omega)
  have hi : (d % (ps.length : Int)).toNat < ps.length := by omega
  refine ⟨ps[(d % (ps.length : Int)).toNat]'hi, List.getElem_mem _, d % (ps.length : Int), ?_, ?_⟩
  · have : decide (0 < (ps.length : Int)) = true := decide_eq_true (by omega)
    simp only [modD, List.length_map, this, if_true]
  · have := ix_list (xs := ps.map F5) (n := (d % (ps.length : Int)).toNat) (d := F5 (ps[(d % (ps.length : Int)).toNat]'hi)) (by rw [List.getElem?_map, List.getElem?_eq_getElem hi]; rfl)
    rw [show (((d % (ps.length : Int)).toNat : Nat) : Int) = d % (ps.length : Int) by omega] at this
    exact this
theorem lap (ds : List Int) (i : Int) (h0 : 0 ≤ i) (m : Nat) (xs : List (Kd × Ps)) (hm' : m ≤ 100) (ok : Lay xs m) (kd : D) (e5 e6 e7 e8 e9 : Option Ent) :
    ∃ (j : Int) (ys : List (Kd × Ps)) (f6 f7 f8 f9 : Option Ent), L2__law_layout (LL (bx ds i) (xs.map pk) m kd e5 e6 e7 e8 e9) = some (.nx (LL (bx ds j) (ys.map pk) m kd e5 f6 f7 f8 f9)) ∧ 0 ≤ j ∧ Lay ys m := by
  obtain ⟨ok1, ok2, ok3⟩ := ok
  obtain ⟨ps, lp, lc⟩ := open_lc (bx ds i) m kd e5 e6 e7 e8 e9 (xs.map some) (by rw [List.length_map]; omega)
  rw [map_pk] at lc
  rw [List.length_map] at lp
  have s1 := asg_t (tg := gDat 6) lc (γ2 := LL (bx ds i) (xs.map pk) m kd e5 (some (.dat (.list (ps.map F5)))) e7 e8 e9) rfl
  let E6 : Option Ent := some (.dat (.list (ps.map F5)))
  have g1 : ofB (DN.f2 gtD (f1n lenD 6) (fC (.int 0))) (LL (bx ds i) (xs.map pk) m kd e5 E6 e7 e8 e9) = some (decide (((ps.map F5).length : Int) > 0), LL (bx ds i) (xs.map pk) m kd e5 E6 e7 e8 e9) := gt_t rfl rfl
  have g2 : ofB (DN.f2m ltD (f1n lenD 4) 1) (LL (bx ds i) (xs.map pk) m kd e5 E6 e7 e8 e9) = some (decide (((xs.map pk).length : Int) < m), LL (bx ds i) (xs.map pk) m kd e5 E6 e7 e8 e9) := ofB_t (f2m_t (x := .int ((xs.map pk).length : Int)) (y := .int m) rfl rfl rfl)
  unfold L2__law_layout
  by_cases c1 : ((ps.map F5).length : Int) > 0
  · rw [decide_eq_true c1] at g1
    by_cases c2 : ((xs.map pk).length : Int) < m
    · rw [decide_eq_true c2] at g2
      rw [List.length_map] at c1 c2
      obtain ⟨d1, h1, a1, b1⟩ := draw_ok ds i 90 h0 (by omega)
      obtain ⟨p, _, q, md, ix⟩ := modn ps d1 (by omega)
      obtain ⟨d2, h2, a2, b2⟩ := draw_ok ds (i + 1) 8 (by omega) (by omega)
      obtain ⟨k, hk⟩ := sort_ok d2 a2 b2
      have ek := ends_pos k hm
      obtain ⟨d3, h3, a3, b3⟩ := draw_ok ds (i + 1 + 1) (((ends k hm).map F5).length : Int) (by omega) (by rw [List.length_map]; omega)
      rw [List.length_map] at b3
      have b4 : d3.toNat < (ends k hm).length := by omega
      obtain ⟨t, ht⟩ := attached_ok k d3.toNat b4 (bk p)
      rw [show ((d3.toNat : Nat) : Int) = d3 by omega] at ht
      have lr : (xs ++ [(k, t)]).map pk = xs.map pk ++ [pcD (some (k, t))] := by rw [List.map_append]; rfl
      obtain ⟨b, hb, nb⟩ := can_lie_ok ((xs ++ [(k, t)]).map some) (by simp; omega)
      rw [map_pk, lr] at hb
      let E7 : Option Ent := some (.dat (F5 (bk p)))
      let E8 : Option Ent := some (.dat (.str (kt k)))
      let E9 : Option Ent := some (.dat (pcD (some (k, t))))
      have zl : (xs.map pk).length + [pcD (some (k, t))].length ≤ 1000000 := by simp; omega
      have s2 : sAsg (fCall 1 F__law_back (aCons (f2n ixX 6 (f2 modD (f1 intD (fCallB 2 F__law_draw 0 (aCons (fC (.int 90)) aNil))) (f1n lenD 6))) aNil)) (gDat 7) (LL (bx ds i) (xs.map pk) m kd e5 E6 e7 e8 e9) = some (.nx (LL (bx ds (i + 1)) (xs.map pk) m kd e5 E6 E7 e8 e9)) :=
        asg_t (call_t (ds := [F5 p]) (γ2 := LL (bx ds (i + 1)) (xs.map pk) m kd e5 E6 e7 e8 e9) (cons_t (f2n_t (x := .list (ps.map F5)) rfl (f2_t (f1_t (op := intD) (z := .int d1) (draw4 rfl h1) rfl) (f1n_t (op := lenD) (i := 6) (x := .list (ps.map F5)) rfl rfl) md) rfl ix) rfl) rfl (lpback p)) rfl
      have s3 : sAsg (f2 ixX (fC (.str "SHCCCPQX")) (fCallB 2 F__law_draw 0 (aCons (fC (.int 8)) aNil))) (gDat 8) (LL (bx ds (i + 1)) (xs.map pk) m kd e5 E6 E7 e8 e9) = some (.nx (LL (bx ds (i + 1 + 1)) (xs.map pk) m kd e5 E6 E7 E8 e9)) :=
        asg_t (f2_t (x := .str "SHCCCPQX") (y := .int d2) rfl (draw4 rfl h2) hk) rfl
      have s4 : sAsg (fCall 3 F__law_attached (aCons (fN 8) (aCons (fCallB 2 F__law_draw 0 (aCons (f1 lenD (fCall 1 F__law_ends (aCons (fTup (aCons (fN 8) (aCons (fN 2) aNil))) aNil))) aNil)) (aCons (fN 7) aNil)))) (gDat 9) (LL (bx ds (i + 1 + 1)) (xs.map pk) m kd e5 E6 E7 E8 e9) = some (.nx (LL (bx ds (i + 1 + 1 + 1)) (xs.map pk) m kd e5 E6 E7 E8 E9)) :=
        asg_t (call_t (ds := [.str (kt k), .int d3, F5 (bk p)]) (γ2 := LL (bx ds (i + 1 + 1 + 1)) (xs.map pk) m kd e5 E6 E7 E8 e9) (cons_t (d := .str (kt k)) rfl (cons_t (draw4 (f1_t (op := lenD) (call_t (ds := [.tuple [.str (kt k), F5 hm]]) rfl rfl (lends k hm)) rfl) h3) rfl)) rfl ht) rfl
      have ca : fCall 1 F__law_can_lie (aCons (f2n addD 4 (fL (lDisp (aCons (fN 9) aNil)))) aNil) (LL (bx ds (i + 1 + 1 + 1)) (xs.map pk) m kd e5 E6 E7 E8 E9) = some (.bool b, LL (bx ds (i + 1 + 1 + 1)) (xs.map pk) m kd e5 E6 E7 E8 E9) :=
        call_t (ds := [.list (xs.map pk ++ [pcD (some (k, t))])]) (cons_t (f2n_t (x := .list (xs.map pk)) (y := .list [pcD (some (k, t))]) rfl rfl rfl (addL _ _ zl)) rfl) rfl hb
      have pre : L2__law_layout (LL (bx ds i) (xs.map pk) m kd e5 e6 e7 e8 e9) = sIf (ofB (fCall 1 F__law_can_lie (aCons (f2n addD 4 (fL (lDisp (aCons (fN 9) aNil)))) aNil))) (sOwn 4 (lCatn 4 (fL (lDisp (aCons (fN 9) aNil))))) sNil (LL (bx ds (i + 1 + 1 + 1)) (xs.map pk) m kd e5 E6 E7 E8 E9) := by
        unfold L2__law_layout
        refine (seq_nx s1).trans ?_
        refine if_t (and_t g1 g2) ?_
        exact (seq_nx s2).trans ((seq_nx s3).trans (seq_nx s4))
      unfold L2__law_layout at pre
      cases b with
      | false => exact ⟨_, xs, _, _, _, _, pre.trans (if_f (ofB_t ca) rfl), by omega, ok1, ok2, ok3⟩
      | true =>
        refine ⟨i + 1 + 1 + 1, xs ++ [(k, t)], E6, E7, E8, E9, pre.trans (if_t (ofB_t ca) ?_), by omega, by simp, by simp; omega, nb rfl⟩
        · rw [lr]
          have cz : catL (.list (xs.map pk)) (.list [pcD (some (k, t))]) = some (xs.map pk ++ [pcD (some (k, t))]) := by simp only [catL, okN, zl, decide_true, if_true]
          have lc : lCatn 4 (fL (lDisp (aCons (fN 9) aNil))) (LL (bx ds (i + 1 + 1 + 1)) (xs.map pk) m kd e5 E6 E7 E8 E9) = some (xs.map pk ++ [pcD (some (k, t))], LL (bx ds (i + 1 + 1 + 1)) (xs.map pk) m kd e5 E6 E7 E8 E9) := by
            have r : fL (lDisp (aCons (fN 9) aNil)) (LL (bx ds (i + 1 + 1 + 1)) (xs.map pk) m kd e5 E6 E7 E8 E9) = some (.list [pcD (some (k, t))], LL (bx ds (i + 1 + 1 + 1)) (xs.map pk) m kd e5 E6 E7 E8 E9) := rfl
            have v : view (LL (bx ds (i + 1 + 1 + 1)) (xs.map pk) m kd e5 E6 E7 E8 E9) 4 = some (.list (xs.map pk)) := rfl
            unfold lCatn
            rw [v, r]
            simp only [v, cz]
          unfold sOwn
          rw [lc]
          rfl
    · rw [decide_eq_false c2] at g2
      exact ⟨i, xs, _, _, _, _, (seq_nx s1).trans (if_f (and_t g1 g2) rfl), h0, ok1, ok2, ok3⟩
  · rw [decide_eq_false c1] at g1
    exact ⟨i, xs, _, _, _, _, (seq_nx s1).trans (if_f (and_f g1) rfl), h0, ok1, ok2, ok3⟩
theorem laps (ds : List Int) (m : Nat) (hm' : m ≤ 100) (kd : D) : ∀ (ks : List D) (i : Int) (xs : List (Kd × Ps)) (e5 e6 e7 e8 e9 : Option Ent), 0 ≤ i → Lay xs m →
    ∃ (j : Int) (ys : List (Kd × Ps)) (f5 f6 f7 f8 f9 : Option Ent), forF (gDat 5) L2__law_layout ks (LL (bx ds i) (xs.map pk) m kd e5 e6 e7 e8 e9) = some (.nx (LL (bx ds j) (ys.map pk) m kd f5 f6 f7 f8 f9)) ∧ 0 ≤ j ∧ Lay ys m
  | [], i, xs, e5, e6, e7, e8, e9, h0, ok => ⟨i, xs, e5, e6, e7, e8, e9, rfl, h0, ok⟩
  | k :: ks, i, xs, e5, e6, e7, e8, e9, h0, ok => by
    obtain ⟨j, ys, f6, f7, f8, f9, e, j0, ok2⟩ := lap ds i h0 m xs hm' ok kd (some (.dat k)) e6 e7 e8 e9
    obtain ⟨j2, zs, g5, g6, g7, g8, g9, e2, j20, ok3⟩ := laps ds m hm' kd ks j ys (some (.dat k)) f6 f7 f8 f9 j0 ok2
    exact ⟨j2, zs, g5, g6, g7, g8, g9, (forF_nx rfl e).trans e2, j20, ok3⟩
/-! ### the whole of a drawn layout -/
theorem endsA_map_some (xs : List (Kd × Ps)) : endsA (xs.map some) = xs.flatMap fun x => ends x.1 x.2 := by
  rw [endsA, List.flatMap_map]
  rfl
theorem endsA_set_none : ∀ (l : List Pc) (n : Nat), (endsA (l.set n none)).Sublist (endsA l)
  | [], n => by simp [endsA]
  | x :: r, 0 => by
    show (endsP none ++ endsA r).Sublist (endsP x ++ endsA r)
    exact List.sublist_append_right _ _
  | x :: r, n + 1 => by
    show (endsP x ++ endsA (r.set n none)).Sublist (endsP x ++ endsA r)
    exact List.Sublist.append_left (endsA_set_none r n) _
def Lay2 (l : List Pc) (m : Nat) : Prop := 0 < l.length ∧ l.length ≤ m ∧ (endsA l).Nodup
theorem lay12 {xs : List (Kd × Ps)} {m : Nat} (h : Lay xs m) : Lay2 (xs.map some) m := ⟨by rw [List.length_map]; exact h.1, by rw [List.length_map]; exact h.2.1, h.2.2⟩
abbrev Sbase : Fs := (sIf (ofB (f2n eqD 3 (fC (.int 0)))) (sOwnX 4 2 F__law_pieces_o (aCons (fN 2) (aCons (fSl (f2 ixX (fL (lDisp (aCons (fC (.str "LLLLLLLL")) (aCons (fC (.str "SLLLLSLLLL")) aNil)))) (fCallB 2 F__law_draw 0 (aCons (fC (.int 2)) aNil))) pNo (pOf (fN 1))) aNil))) (sIf (ofB (f2n eqD 3 (fC (.int 1)))) (sOwn 4 (lCat (fL (lDisp (aCons (fTup (aCons (fC (.str "P")) (aCons (fN 2) aNil))) aNil))) (fCall 2 F__law_pieces (aCons (fTup (aCons (fC (.int 0)) (aCons (fC (.int 0)) (aCons (fC (.int 2)) (aCons (fNeg (fC (.int 2))) (aCons (fC (.int 1)) aNil)))))) (aCons (fSl (fC (.str "LLLLLLL")) pNo (pOf (f2n subD 1 (fC (.int 1))))) aNil))))) (sIf (ofB (f2n eqD 3 (fC (.int 2)))) (sOwn 4 (lCat (fL (lDisp (aCons (fTup (aCons (fC (.str "P")) (aCons (fN 2) aNil))) aNil))) (fCall 2 F__law_pieces (aCons (fTup (aCons (fC (.int 2)) (aCons (fC (.int 0)) (aCons (fC (.int 0)) (aCons (fC (.int 0)) (aCons (fC (.int 0)) aNil)))))) (aCons (fSl (fC (.str "RSSLLLSSLLSLSS")) pNo (pOf (f2n subD 1 (fC (.int 1))))) aNil))))) (sOwn 4 (lDisp (aCons (fTup (aCons (f2 ixX (fC (.str "PQXSC")) (fCallB 2 F__law_draw 0 (aCons (fC (.int 5)) aNil))) (aCons (fN 2) aNil))) aNil))))))
abbrev L0 (B : List D) (d : Int) : En := LL B [] 12 (.int d) none none none none none
theorem eqn_t {i : Nat} {γ : En} {a b : Int} (h : view γ i = some (.int a)) : ofB (f2n eqD i (fC (.int b))) γ = some (decide (a = b), γ) :=
  ofB_t (f2n_t (x := .int a) (y := .int b) h rfl h rfl)
theorem c1t : slD (.str "LLLLLLLL") none (some 12) = some (.str "LLLLLLLL") := by rfl
theorem c2t : slD (.str "SLLLLSLLLL") none (some 12) = some (.str "SLLLLSLLLL") := by rfl
theorem c3t : slD (.str "LLLLLLL") none (some 11) = some (.str "LLLLLLL") := by rfl
theorem c4t : slD (.str "RSSLLLSSLLSLSS") none (some 11) = some (.str "RSSLLLSSLLS") := by rfl
theorem ownX_t {i n : Nat} {F : FunX} {fa : Fa} {γ γ1 : En} {ds : List D} {y : Pay} (ha : fa γ = some (ds, γ1)) (hn : ds.length = n) (hF : F none ds = some (.ow y, none)) (hp : pinB γ1 i = false) : sOwnX i n F fa γ = some (.nx (γ1.set i (some (.ow false y)))) := by
  unfold sOwnX
  rw [ha]
  simp only [hn, if_true, hF, hp]
  rfl
theorem sl_t {f : Fe} {g : Fp} {γ γ1 γ2 : En} {x z : D} {hi : Option Int} (h : f γ = some (x, γ1)) (k : g γ1 = some (hi, γ2)) (o : slD x none hi = some z) : fSl f pNo g γ = some (z, γ2) := by
  simp only [fSl, h, pNo, k, o]
theorem cat_t {f g : Fe} {γ γ1 γ2 : En} {xs ys : List D} (h : f γ = some (.list xs, γ1)) (k : g γ1 = some (.list ys, γ2)) (hz : xs.length + ys.length ≤ 1000000) : lCat f g γ = some (xs ++ ys, γ2) := by
  simp only [lCat, h, k, catL, okN, hz, decide_true, if_true]
theorem own_t {i : Nat} {fl : Fa} {γ γ1 : En} {ds : List D} (h : fl γ = some (ds, γ1)) (hp : pinB γ1 i = false) : sOwn i fl γ = some (.nx (γ1.set i (some (.ow false (.lst ds))))) := by
  simp only [sOwn, h, hp]
  rfl
theorem base_ok (ds : List Int) (i d : Int) (h0 : 0 ≤ i) (d0 : 0 ≤ d) (d5 : d < 5) : ∃ (j : Int) (xs : List (Kd × Ps)), Sbase (L0 (bx ds i) d) = some (.nx (LL (bx ds j) (xs.map pk) 12 (.int d) none none none none none)) ∧ 0 ≤ j ∧ Lay xs 12 := by
  have t0 : ofB (f2n eqD 3 (fC (.int 0))) (L0 (bx ds i) d) = some (decide (d = 0), L0 (bx ds i) d) := eqn_t rfl
  have t1 : ofB (f2n eqD 3 (fC (.int 1))) (L0 (bx ds i) d) = some (decide (d = 1), L0 (bx ds i) d) := eqn_t rfl
  have t2 : ofB (f2n eqD 3 (fC (.int 2))) (L0 (bx ds i) d) = some (decide (d = 2), L0 (bx ds i) d) := eqn_t rfl
  unfold Sbase
  by_cases c0 : d = 0
  · rw [decide_eq_true c0] at t0
    obtain ⟨d1, h1, a1, b1⟩ := draw_ok ds i 2 h0 (by omega)
    have dr : fCallB 2 F__law_draw 0 (aCons (fC (.int 2)) aNil) (L0 (bx ds i) d) = some (.int d1, L0 (bx ds (i + 1)) d) := draw4 rfl h1
    have hd : d1 = 0 ∨ d1 = 1 := by omega
    rcases hd with rfl | rfl
    · refine ⟨i + 1, base1, if_t t0 ?_, by omega, by decide, by decide, n1⟩
      exact ownX_t (γ1 := L0 (bx ds (i + 1)) d) (ds := [F5 hm, .str "LLLLLLLL"]) (cons_t (d := F5 hm) rfl (cons_t (sl_t (f2_t (x := .list [.str "LLLLLLLL", .str "SLLLLSLLLL"]) (y := .int 0) rfl dr rfl) (g := pOf (fN 1)) (hi := some 12) rfl c1t) rfl)) rfl DN.b1 rfl
    · refine ⟨i + 1, base2, if_t t0 ?_, by omega, by decide, by decide, n2⟩
      exact ownX_t (γ1 := L0 (bx ds (i + 1)) d) (ds := [F5 hm, .str "SLLLLSLLLL"]) (cons_t (d := F5 hm) rfl (cons_t (sl_t (f2_t (x := .list [.str "LLLLLLLL", .str "SLLLLSLLLL"]) (y := .int 1) rfl dr rfl) (g := pOf (fN 1)) (hi := some 12) rfl c2t) rfl)) rfl DN.b2 rfl
  rw [decide_eq_false c0] at t0
  by_cases c1 : d = 1
  · rw [decide_eq_true c1] at t1
    refine ⟨i, (.p, hm) :: base3, if_f t0 (if_t t1 ?_), h0, by decide, by decide, n3⟩
    exact own_t (γ1 := L0 (bx ds i) d) (cat_t (xs := [pk (.p, hm)]) (ys := base3.map pk) rfl (call_t (ds := [F5 ((0, 0, 2, -2), 1), .str "LLLLLLL"]) (γ2 := L0 (bx ds i) d) (cons_t (d := F5 ((0, 0, 2, -2), 1)) rfl (cons_t (sl_t (x := .str "LLLLLLL") rfl (g := pOf (f2n subD 1 (fC (.int 1)))) (hi := some 11) rfl c3t) rfl)) rfl DN.b3) (by decide)) rfl
  rw [decide_eq_false c1] at t1
  by_cases c2 : d = 2
  · rw [decide_eq_true c2] at t2
    refine ⟨i, (.p, hm) :: base4, if_f t0 (if_f t1 (if_t t2 ?_)), h0, by decide, by decide, n4⟩
    exact own_t (γ1 := L0 (bx ds i) d) (cat_t (xs := [pk (.p, hm)]) (ys := base4.map pk) rfl (call_t (ds := [F5 ((2, 0, 0, 0), 0), .str "RSSLLLSSLLS"]) (γ2 := L0 (bx ds i) d) (cons_t (d := F5 ((2, 0, 0, 0), 0)) rfl (cons_t (sl_t (x := .str "RSSLLLSSLLSLSS") rfl (g := pOf (f2n subD 1 (fC (.int 1)))) (hi := some 11) rfl c4t) rfl)) rfl DN.b4) (by decide)) rfl
  rw [decide_eq_false c2] at t2
  obtain ⟨d1, h1, a1, b1⟩ := draw_ok ds i 5 h0 (by omega)
  obtain ⟨k, hk⟩ := first_ok d1 a1 b1
  have dr : fCallB 2 F__law_draw 0 (aCons (fC (.int 5)) aNil) (L0 (bx ds i) d) = some (.int d1, L0 (bx ds (i + 1)) d) := draw4 rfl h1
  refine ⟨i + 1, [(k, hm)], if_f t0 (if_f t1 (if_f t2 ?_)), by omega, by simp, by simp, n5 k⟩
  have e : fTup (aCons (f2 ixX (fC (.str "PQXSC")) (fCallB 2 F__law_draw 0 (aCons (fC (.int 5)) aNil))) (aCons (fN 2) aNil)) (L0 (bx ds i) d) = some (pk (k, hm), L0 (bx ds (i + 1)) d) :=
    tup_t (ds := [.str (kt k), F5 hm]) (cons_t (f2_t (x := .str "PQXSC") (y := .int d1) rfl dr hk) rfl) rfl
  have l : lDisp (aCons (fTup (aCons (f2 ixX (fC (.str "PQXSC")) (fCallB 2 F__law_draw 0 (aCons (fC (.int 5)) aNil))) (aCons (fN 2) aNil))) aNil) (L0 (bx ds i) d) = some ([pk (k, hm)], L0 (bx ds (i + 1)) d) := by
    unfold lDisp
    rw [cons_t e rfl]
    rfl
  exact own_t l rfl
theorem set_t (B L : List D) (m : Int) (kd : D) (e5 e6 e7 e8 e9 : Option Ent) (f : Fe) (j : Nat) (B' : List D) (h : f (LL B L m kd e5 e6 e7 e8 e9) = some (.int (j : Int), LL B' L m kd e5 e6 e7 e8 e9)) (hj : j < L.length) : sSet 4 (fC .none) f (LL B L m kd e5 e6 e7 e8 e9) = some (.nx (LL B' (L.set j .none) m kd e5 e6 e7 e8 e9)) := by
  have g4 : gt (LL B L m kd e5 e6 e7 e8 e9) 4 = some (.ow false (.lst L)) := rfl
  have g4' : gt (LL B' L m kd e5 e6 e7 e8 e9) 4 = some (.ow false (.lst L)) := rfl
  have ix : ixN L.length (j : Int) = some j := by
    unfold ixN
    simp
    omega
  unfold sSet fC
  simp only [g4, h, g4', ix]
  rfl
theorem set_map (l : List Pc) (j : Nat) : (l.map pcD).set j .none = (l.set j none).map pcD := by
  rw [List.map_set]
  rfl
theorem layout_ok (ds : List Int) (i : Int) (h0 : 0 ≤ i) : ∃ (j : Int) (l : List Pc), F__law_layout [.list (bx ds i), .int 12] = some (.tuple (l.map pcD), bx ds j) ∧ 0 ≤ j ∧ Lay2 l 12 := by
  obtain ⟨d, h1, a1, b1⟩ := draw_ok ds i 5 h0 (by omega)
  obtain ⟨j1, xs, sb, p1, ok1⟩ := base_ok ds (i + 1) d (by omega) a1 b1
  obtain ⟨n, h2, a2, b2⟩ := draw_ok ds j1 9 p1 (by omega)
  obtain ⟨j2, ys, f5, f6, f7, f8, f9, sl, p2, ok2⟩ := laps ds 12 (by omega) (.int d) (rngD 0 n.toNat) (j1 + 1) xs none none none none none (by omega) ok1
  obtain ⟨d4, h4, a4, b4⟩ := draw_ok ds j2 4 p2 (by omega)
  obtain ⟨d5, h5, a5, b5⟩ := draw_ok ds (j2 + 1) 90 (by omega) (by omega)
  have sm := small_n (n := n.toNat) (by omega)
  rw [show ((n.toNat : Nat) : Int) = n by omega] at sm
  have s1 : sFor (wR1 (fCallB 2 F__law_draw 0 (aCons (fC (.int 9)) aNil))) (gDat 5) L2__law_layout (LL (bx ds j1) (xs.map pk) 12 (.int d) none none none none none) = some (.nx (LL (bx ds j2) (ys.map pk) 12 (.int d) f5 f6 f7 f8 f9)) :=
    for_t (wr1_t (draw4 rfl h2) sm) sl
  have dr : ofB (f2 eqD (fCallB 2 F__law_draw 0 (aCons (fC (.int 4)) aNil)) (fC (.int 0))) (LL (bx ds j2) (ys.map pk) 12 (.int d) f5 f6 f7 f8 f9) = some (decide (d4 = 0), LL (bx ds (j2 + 1)) (ys.map pk) 12 (.int d) f5 f6 f7 f8 f9) :=
    eq_t (draw4 rfl h4) rfl rfl
  have fin : ∃ (j : Int) (l : List Pc), sIf (ofB (f2 eqD (fCallB 2 F__law_draw 0 (aCons (fC (.int 4)) aNil)) (fC (.int 0)))) (sSet 4 (fC .none) (f2 modD (f1 intD (fCallB 2 F__law_draw 0 (aCons (fC (.int 90)) aNil))) (f1n lenD 4))) sNil (LL (bx ds j2) (ys.map pk) 12 (.int d) f5 f6 f7 f8 f9) = some (.nx (LL (bx ds j) (l.map pcD) 12 (.int d) f5 f6 f7 f8 f9)) ∧ 0 ≤ j ∧ Lay2 l 12 := by
    by_cases c : d4 = 0
    · rw [decide_eq_true c] at dr
      have yl := ok2.1
      have m0 : 0 ≤ d5 % (ys.length : Int) := Int.emod_nonneg _ (by omega)
      have m1 : d5 % (ys.length : Int) < ys.length := Int.emod_lt_of_pos _ (by omega)
      have md : modD (.int d5) (.int ((ys.map pk).length : Int)) = some (.int (((d5 % (ys.length : Int)).toNat : Nat) : Int)) := by
        have : decide (0 < (ys.length : Int)) = true := decide_eq_true (by omega)
        rw [show (((d5 % (ys.length : Int)).toNat : Nat) : Int) = d5 % (ys.length : Int) by omega]
        simp only [modD, List.length_map, this, if_true]
      refine ⟨j2 + 1 + 1, (ys.map some).set (d5 % (ys.length : Int)).toNat none, if_t dr ?_, by omega, ?_⟩
      · rw [← set_map, map_pk]
        exact set_t (bx ds (j2 + 1)) (ys.map pk) 12 (.int d) f5 f6 f7 f8 f9 _ _ (bx ds (j2 + 1 + 1)) (f2_t (f1_t (op := intD) (z := .int d5) (draw4 rfl h5) rfl) (f1n_t (op := lenD) (i := 4) (x := .list (ys.map pk)) rfl rfl) md) (by rw [List.length_map]; omega)
      · obtain ⟨o1, o2, o3⟩ := lay12 ok2
        exact ⟨by rw [List.length_set]; exact o1, by rw [List.length_set]; exact o2, (endsA_set_none _ _).nodup o3⟩
    · rw [decide_eq_false c] at dr
      refine ⟨j2 + 1, ys.map some, ?_, by omega, lay12 ok2⟩
      rw [map_pk]
      exact if_f dr rfl
  obtain ⟨j, l, sf, pj, ok⟩ := fin
  refine ⟨j, l, ?_, pj, ok⟩
  refine run_b (γ0 := [some (.ow true (.lst (bx ds i))), some (.dat (.int 12)), none, none, none, none, none, none, none, none, none]) (γ := LL (bx ds j) (l.map pcD) 12 (.int d) f5 f6 f7 f8 f9) rfl ?_ rfl
  unfold B__law_layout
  refine (seq_nx (γ1 := [some (.ow true (.lst (bx ds i))), some (.dat (.int 12)), some (.dat (F5 hm)), none, none, none, none, none, none, none, none]) rfl).trans ?_
  refine (seq_nx (γ1 := [some (.ow true (.lst (bx ds (i + 1)))), some (.dat (.int 12)), some (.dat (F5 hm)), some (.dat (.int d)), none, none, none, none, none, none, none]) (asg_t (bor_g (ds := [.int 5]) (γ1 := [some (.ow true (.lst (bx ds i))), some (.dat (.int 12)), some (.dat (F5 hm)), none, none, none, none, none, none, none, none]) rfl rfl rfl rfl h1) rfl)).trans ?_
  refine (seq_nx (γ1 := L0 (bx ds (i + 1)) d) rfl).trans ?_
  refine (seq_nx sb).trans ?_
  refine (seq_nx s1).trans ?_
  refine (seq_nx sf).trans ?_
  exact ret_t (f1n_t (op := tupleD) (i := 4) (x := .list (l.map pcD)) rfl rfl)
/-! ### passes and trains -/
abbrev Tr := Nat × Nat × Nat
def pD (x : Nat × Nat) : D := .tuple [.int (x.1 : Int), .int (x.2 : Int)]
def trD (t : Tr) : D := .tuple [.int (t.1 : Int), .int (t.2.1 : Int), .int (t.2.2 : Int)]
def passes : Kd → List (Nat × Nat)
  | .s => [(0, 1), (1, 0)]
  | .h => [(0, 1), (1, 0)]
  | .c => [(0, 1), (1, 0)]
  | .p => [(0, 1), (0, 2), (1, 0), (2, 0)]
  | .q => [(0, 1), (0, 2), (1, 0), (2, 0)]
  | .x => [(0, 1), (1, 0), (2, 3), (3, 2)]
theorem lpasses (k : Kd) : F__law_passes [.str (kt k)] = some (.list ((passes k).map pD), []) := by cases k <;> rfl
theorem ppasses (k : Kd) : tabD c_PASSES (.str (kt k)) = some (.tuple ((passes k).map pD)) := by cases k <;> rfl
def trE (x : Nat × Kd × Ps) : List Tr := (passes x.2.1).map fun y => (x.1, y.1, y.2)
def trains (l : List Pc) : List Tr := (pl l).flatMap trE
theorem passes_len (k : Kd) : (passes k).length ≤ 4 := by cases k <;> simp [passes]
theorem trE_len (x : Nat × Kd × Ps) : (trE x).length ≤ 4 := by
  rw [trE, List.length_map]
  exact passes_len _
theorem trains_len (l : List Pc) : (trains l).length ≤ 4 * l.length := by
  have h1 := flat_len trE_len (pl l)
  have h2 := pl_len l
  unfold trains
  omega
/-! the law's -/
theorem tr_lc (T acc : D) (i : Nat) (k : Kd) (p : Ps) (h0 : ixX T (.int (i : Int)) = some (.tuple [.str (kt k), F5 p])) :
    lLc [3, 4] (gTp 2 (gsCons (gDat 3) (gsCons (gDat 4) gsNo))) (wOf (fCall 1 F__law_passes (aCons (f2 ixX (f2nn ixX 0 2) (fC (.int 0))) aNil))) tYe E1__law_trains [some (.dat T), some (.dat acc), some (.dat (.int (i : Int))), none, none] =
      some ((trE (i, k, p)).map trD, [some (.dat T), some (.dat acc), some (.dat (.int (i : Int))), none, none]) := by
  let G : Option Ent → Option Ent → En := fun a b => [some (.dat T), some (.dat acc), some (.dat (.int (i : Int))), a, b]
  have ht : f2 ixX (f2nn ixX 0 2) (fC (.int 0)) (G none none) = some (.str (kt k), G none none) := f2_t (x := .tuple [.str (kt k), F5 p]) (y := .int 0) (f2nn_t (x := T) (y := .int (i : Int)) rfl rfl h0) rfl rfl
  have := lLc_pure (enc := pD) (js := [3, 4]) (tg := gTp 2 (gsCons (gDat 3) (gsCons (gDat 4) gsNo))) (src := wOf (fCall 1 F__law_passes (aCons (f2 ixX (f2nn ixX 0 2) (fC (.int 0))) aNil))) (tt := tYe) (elt := E1__law_trains) (γ := G none none) (γ1 := G none none) (ds := passes k) (fun y => some (trD (i, y.1, y.2)))
    (wof_t (call_t (ds := [.str (kt k)]) (cons_t ht rfl) rfl (lpasses k))) (by simp [G, noOwns]) (by simp [G, wipeE]) (by simp [G, putBack, wipeE]) (fun y _ => by
      refine lcs (γ0 := G (some (.dat (.int y.1))) (some (.dat (.int y.2)))) (by simp [G, pD]) (γ2 := G (some (.dat (.int y.1))) (some (.dat (.int y.2)))) ?_ (by simp [noOwns, G]) (by simp [wipeE, G])
      rfl) (by have := passes_len k; omega)
  rw [fm_map] at this
  rw [trE, List.map_map]
  exact this
def trG (i : Nat) (r : List Pc) : List Tr := ((idxL i r).filterMap fun x => x.2.map fun kp => (x.1, kp)).flatMap trE
theorem ltr_some (T : D) (acc : List D) (i : Nat) (k : Kd) (p : Ps) (h0 : ixX T (.int (i : Int)) = some (.tuple [.str (kt k), F5 p])) (hl : acc.length ≤ 900000) :
    L2__law_trains [some (.dat T), some (.dat (.list acc)), some (.dat (.int (i : Int))), none, none] = some (.nx [some (.dat T), some (.dat (.list (acc ++ (trE (i, k, p)).map trD))), some (.dat (.int (i : Int))), none, none]) := by
  have t : ofB (DN.f2 notNd (DN.f2nn ixX 0 2) (fC .none)) [some (.dat T), some (.dat (.list acc)), some (.dat (.int (i : Int))), none, none] = some (true, [some (.dat T), some (.dat (.list acc)), some (.dat (.int (i : Int))), none, none]) :=
    ofB_t (f2_t (x := .tuple [.str (kt k), F5 p]) (y := .none) (f2nn_t (x := T) (y := .int (i : Int)) rfl rfl h0) rfl rfl)
  have e := trE_len (i, k, p)
  refine if_t t (asg_t (f2n_t (x := .list acc) (y := .list ((trE (i, k, p)).map trD)) rfl (fL_t (tr_lc T (.list acc) i k p h0)) rfl (addL _ _ (by rw [List.length_map]; omega))) rfl)
theorem ltr_none (T : D) (acc : List D) (i : Nat) (h0 : ixX T (.int (i : Int)) = some .none) :
    L2__law_trains [some (.dat T), some (.dat (.list acc)), some (.dat (.int (i : Int))), none, none] = some (.nx [some (.dat T), some (.dat (.list acc)), some (.dat (.int (i : Int))), none, none]) := by
  have t : ofB (DN.f2 notNd (DN.f2nn ixX 0 2) (fC .none)) [some (.dat T), some (.dat (.list acc)), some (.dat (.int (i : Int))), none, none] = some (false, [some (.dat T), some (.dat (.list acc)), some (.dat (.int (i : Int))), none, none]) :=
    ofB_t (f2_t (x := .none) (y := .none) (f2nn_t (x := T) (y := .int (i : Int)) rfl rfl h0) rfl rfl)
  exact if_f t rfl
theorem ltr_loop (T : D) (r : List Pc) : ∀ (i : Nat) (acc : List D) (e2 : Option Ent), (∀ (j : Nat) (d : D), (r.map pcD)[j]? = some d → ixX T (.int ((i + j : Nat) : Int)) = some d) → acc.length + 4 * r.length ≤ 900000 →
    ∃ r2, forF (gDat 2) L2__law_trains (rngD (i : Int) r.length) [some (.dat T), some (.dat (.list acc)), e2, none, none] = some (.nx [some (.dat T), some (.dat (.list (acc ++ (trG i r).map trD))), r2, none, none]) := by
  induction r with
  | nil => exact fun i acc e2 _ _ => ⟨e2, by simp [rngD, forF, trG, idxL]⟩
  | cons x r ih =>
    intro i acc e2 h hl
    rw [List.length_cons] at hl
    have h0 := h 0 (pcD x) rfl
    rw [Nat.add_zero] at h0
    have hr : ∀ (j : Nat) (d : D), (r.map pcD)[j]? = some d → ixX T (.int ((i + 1 + j : Nat) : Int)) = some d := fun j d e => by
      rw [show i + 1 + j = i + (j + 1) by omega]
      exact h (j + 1) d e
    rw [List.length_cons, rngD_cons, show (i : Int) + 1 = ((i + 1 : Nat) : Int) by omega]
    cases x with
    | none =>
      obtain ⟨r2, k⟩ := ih (i + 1) acc (some (.dat (.int (i : Int)))) hr (by omega)
      exact ⟨r2, (forF_nx rfl (ltr_none T acc i h0)).trans k⟩
    | some kp =>
      obtain ⟨kd, p⟩ := kp
      obtain ⟨r2, k⟩ := ih (i + 1) (acc ++ (trE (i, kd, p)).map trD) (some (.dat (.int (i : Int)))) hr (by
        have := trE_len (i, kd, p)
        rw [List.length_append, List.length_map]; omega)
      refine ⟨r2, (forF_nx rfl (ltr_some T acc i kd p h0 (by omega))).trans (k.trans ?_)⟩
      simp only [trG, idxL, List.filterMap_cons, Option.map_some, List.flatMap_cons, List.map_append, List.append_assoc]
theorem ltrains (l : List Pc) (hl : l.length ≤ 1000) : F__law_trains [.tuple (l.map pcD)] = some (.list ((trains l).map trD), []) := by
  obtain ⟨r2, e⟩ := ltr_loop (.tuple (l.map pcD)) l 0 [] none (fun j d q => by rw [Nat.zero_add]; exact ix_tuple q) (by simp; omega)
  have hsm := small_n (n := l.length) (by omega)
  refine run_d (γ0 := [some (.dat (.tuple (l.map pcD))), none, none, none, none]) (γ := [some (.dat (.tuple (l.map pcD))), some (.dat (.list ((trains l).map trD))), r2, none, none]) rfl ?_
  unfold B__law_trains
  refine (seq_nx (γ1 := [some (.dat (.tuple (l.map pcD))), some (.dat (.list [])), none, none, none]) rfl).trans ?_
  exact (seq_nx (γ1 := [some (.dat (.tuple (l.map pcD))), some (.dat (.list ((trains l).map trD))), r2, none, none]) (for_t (ds := rngD 0 l.length) (γ1 := [some (.dat (.tuple (l.map pcD))), some (.dat (.list [])), none, none, none]) (wr1_t (f1n_t (op := lenD) (x := .tuple (l.map pcD)) rfl (by simp)) hsm) e)).trans rfl
/-! the program's -/
def encK (x : Nat × Kd × Ps) : D := .tuple [.int (x.1 : Int), .str (kt x.2.1)]
theorem ptrains (l : List Pc) (hl : l.length ≤ 1000) : F_trains_of [.tuple (l.map pcD)] = some (.tuple ((trains l).map trD), []) := by
  let G : Option Ent → En := fun g => [some (.dat (.tuple (l.map pcD))), g, none, none, none, none, none]
  have c1 : lLc [2, 3] (gTp 2 (gsCons (gDat 2) (gsCons (gDat 3) gsNo))) (wEnum (fN 0)) (ofB (f2n notNd 3 (fC .none))) E1_trains_of (G none) = some ((pl l).map encK, G none) := by
    have := lLc_pure (enc := fun x : Nat × Pc => PyData.tuple [.int (x.1 : Int), pcD x.2]) (js := [2, 3]) (tg := gTp 2 (gsCons (gDat 2) (gsCons (gDat 3) gsNo))) (src := wEnum (fN 0)) (tt := ofB (f2n notNd 3 (fC .none))) (elt := E1_trains_of) (γ := G none) (γ1 := G none) (ds := idxL 0 l)
      (fun x => (x.2.map fun kp => (x.1, kp)).map encK) (by simp only [runF, ini, gt, view, fN, fC, f2, f2n, f2m, f2nn, okN, addD, subD, fdivD, modD, cmpI, isNo, isNd, notNd, ixD, tYe, ofB, cNot, cAnd, cOr, fAnd, fOr, fNot, fNeg, fIf, aNil, aCons, fTup, fL, lDisp, DN.f1, f1n, lenD, intD, absD, tupleD, listD, lOf, lOfn, pNo, pOf, slD, fSl, fSln, pinB, gDat, gsNo, gsCons, gTp, gLp, sNil, sSeq, sAsg, sOwn, sSet, sApp, sDrop, sRet, sRetN, sBk, sCt, sIf, wOf, wR1, wR2, small62, sFor, cTru, cTrun, truD, lRep, sAsg2, fCallL, aLend, allD, sumD, wEnum, revTD, sNone, fCall, fCallB, ownB, lLc, simp_ix1, simp_ix2, List.set, List.length_cons, List.length_nil, List.map_cons, List.map_nil, List.cons_append, List.nil_append, List.replicate, Option.bind_some, Option.map_some, if_true, if_false, Bool.false_eq_true, Bool.not_true, Bool.not_false, decide_true, decide_false, reduceIte, Nat.reduceAdd, Nat.reduceLeDiff, Nat.reduceEqDiff, Int.reduceLE, Int.reduceLT, Int.reduceToNat, List.getElem?_cons_zero, List.getElem?_cons_succ, Int.cast_ofNat_Int, Nat.zero_add, Int.zero_le_ofNat, ixX, inX, notInX, catL, lCat, lCatn, fTxt, fTxtGet, sTxtPut, sTxt, sDicNew, sDicPut, fGet1, fGet2, wKey, fDl, sOwnX, sRetO, runX, iniX, tellX, notInD, G, enumL_map]) (by simp [G, noOwns]) (by simp [G, wipeE]) (by simp [G, putBack, wipeE]) (fun d hd => by
        obtain ⟨n, x⟩ := d
        cases x with
        | none => exact ⟨[some (.dat (.tuple (l.map pcD))), none, some (.dat (.int n)), some (.dat .none), none, none, none], by simp [G, pcD], .inl ⟨rfl, [some (.dat (.tuple (l.map pcD))), none, some (.dat (.int n)), some (.dat .none), none, none, none], by simp [isNo], by simp [noOwns], by simp [wipeE, G]⟩⟩
        | some kp =>
          obtain ⟨k, p⟩ := kp
          let g : En := [some (.dat (.tuple (l.map pcD))), none, some (.dat (.int n)), some (.dat (pcD (some (k, p)))), none, none, none]
          exact ⟨g, by simp [G, pcD, g], .inr ⟨encK (n, k, p), g, g, rfl, by simp [g, pcD, isNo], by simp [E1_trains_of, g, pcD, encK], by simp [noOwns, g], by simp [wipeE, G, g]⟩⟩) (by rw [idxL_len]; omega)
    rw [this]
    congr 2
    unfold pl
    rw [List.map_filterMap]
  have c2 : lLc2 [2, 4, 5, 6] (gTp 2 (gsCons (gDat 2) (gsCons (gDat 4) gsNo))) (wOf (fN 1)) tYe W2_trains_of [5, 6] (gTp 2 (gsCons (gDat 5) (gsCons (gDat 6) gsNo))) tYe E3_trains_of (G (some (.dat (.list ((pl l).map encK))))) = some ((trains l).map trD, G (some (.dat (.list ((pl l).map encK))))) := by
    have := lLc2_pure (enc := encK) (js := [2, 4, 5, 6]) (tg := gTp 2 (gsCons (gDat 2) (gsCons (gDat 4) gsNo))) (src := wOf (fN 1)) (tt := tYe) (src1 := W2_trains_of) (js1 := [5, 6]) (tg1 := gTp 2 (gsCons (gDat 5) (gsCons (gDat 6) gsNo))) (tt1 := tYe) (elt := E3_trains_of) (γ := G (some (.dat (.list ((pl l).map encK))))) (γ1 := G (some (.dat (.list ((pl l).map encK))))) (ds := pl l)
      (fun x => (trE x).map trD) (by simp only [runF, ini, gt, view, fN, fC, f2, f2n, f2m, f2nn, okN, addD, subD, fdivD, modD, cmpI, isNo, isNd, notNd, ixD, tYe, ofB, cNot, cAnd, cOr, fAnd, fOr, fNot, fNeg, fIf, aNil, aCons, fTup, fL, lDisp, DN.f1, f1n, lenD, intD, absD, tupleD, listD, lOf, lOfn, pNo, pOf, slD, fSl, fSln, pinB, gDat, gsNo, gsCons, gTp, gLp, sNil, sSeq, sAsg, sOwn, sSet, sApp, sDrop, sRet, sRetN, sBk, sCt, sIf, wOf, wR1, wR2, small62, sFor, cTru, cTrun, truD, lRep, sAsg2, fCallL, aLend, allD, sumD, wEnum, revTD, sNone, fCall, fCallB, ownB, lLc, simp_ix1, simp_ix2, List.set, List.length_cons, List.length_nil, List.map_cons, List.map_nil, List.cons_append, List.nil_append, List.replicate, Option.bind_some, Option.map_some, if_true, if_false, Bool.false_eq_true, Bool.not_true, Bool.not_false, decide_true, decide_false, reduceIte, Nat.reduceAdd, Nat.reduceLeDiff, Nat.reduceEqDiff, Int.reduceLE, Int.reduceLT, Int.reduceToNat, List.getElem?_cons_zero, List.getElem?_cons_succ, Int.cast_ofNat_Int, Nat.zero_add, Int.zero_le_ofNat, ixX, inX, notInX, catL, lCat, lCatn, fTxt, fTxtGet, sTxtPut, sTxt, sDicNew, sDicPut, fGet1, fGet2, wKey, fDl, sOwnX, sRetO, runX, iniX, tellX, notInD, G]) (by simp [G, noOwns]) (by simp [G, wipeE]) (by simp [G, putBack, wipeE]) (fun d hd => by
        obtain ⟨n, k, p⟩ := d
        let g : En := [some (.dat (.tuple (l.map pcD))), some (.dat (.list ((pl l).map encK))), some (.dat (.int n)), none, some (.dat (.str (kt k))), none, none]
        have pe := ppasses k
        refine ⟨g, by simp [G, encK, g], .inr ⟨g, g, (passes k).map pD, rfl, ?_, by simp [noOwns, g], ?_, fun acc ha => ⟨g, ?_, by simp [noOwns, g], by simp [wipeE, G, g]⟩⟩⟩
        · exact woft_t (f1_t (x := .str (kt k)) rfl pe)
        · have := trE_len (n, k, p)
          simp; omega
        · have w : wipeE g [5, 6] = g := by simp [wipeE, g]
          rw [w]
          have := lcF_pure (enc := pD) (js := [5, 6]) (tg := gTp 2 (gsCons (gDat 5) (gsCons (gDat 6) gsNo))) (tt := tYe) (elt := E3_trains_of) (γ := g) (fun y => some (trD (n, y.1, y.2))) (passes k) acc (fun y hy => by
            refine lcs (γ0 := [some (.dat (.tuple (l.map pcD))), some (.dat (.list ((pl l).map encK))), some (.dat (.int n)), none, some (.dat (.str (kt k))), some (.dat (.int y.1)), some (.dat (.int y.2))]) (by simp [g, pD]) (γ2 := [some (.dat (.tuple (l.map pcD))), some (.dat (.list ((pl l).map encK))), some (.dat (.int n)), none, some (.dat (.str (kt k))), some (.dat (.int y.1)), some (.dat (.int y.2))]) ?_ (by simp [noOwns]) (by simp [wipeE, g])
            simp [E3_trains_of, trD]) (by have := passes_len k; omega)
          rw [this, fm_map]
          simp only [trE, List.map_map]
          rfl) (by
        have h1 : ∀ x, ((trE x).map trD).length ≤ 4 := fun x => by rw [List.length_map]; exact trE_len x
        have h2 := flat_len h1 (pl l)
        have h3 := pl_len l
        omega)
    rw [this]
    unfold trains
    rw [List.map_flatMap]
  simp only [G] at c1 c2
  simp only [F_trains_of, B_trains_of, runF, ini, gt, view, fN, fC, f2, f2n, f2m, f2nn, okN, addD, subD, fdivD, modD, cmpI, isNo, isNd, notNd, ixD, tYe, ofB, cNot, cAnd, cOr, fAnd, fOr, fNot, fNeg, fIf, aNil, aCons, fTup, fL, lDisp, DN.f1, f1n, lenD, intD, absD, tupleD, listD, lOf, lOfn, pNo, pOf, slD, fSl, fSln, pinB, gDat, gsNo, gsCons, gTp, gLp, sNil, sSeq, sAsg, sOwn, sSet, sApp, sDrop, sRet, sRetN, sBk, sCt, sIf, wOf, wR1, wR2, small62, sFor, cTru, cTrun, truD, lRep, sAsg2, fCallL, aLend, allD, sumD, wEnum, revTD, sNone, fCall, fCallB, ownB, simp_ix1, simp_ix2, List.set, List.length_cons, List.length_nil, List.map_cons, List.map_nil, List.cons_append, List.nil_append, List.replicate, Option.bind_some, Option.map_some, if_true, if_false, Bool.false_eq_true, Bool.not_true, Bool.not_false, decide_true, decide_false, reduceIte, Nat.reduceAdd, Nat.reduceLeDiff, Nat.reduceEqDiff, Int.reduceLE, Int.reduceLT, Int.reduceToNat, List.getElem?_cons_zero, List.getElem?_cons_succ, Int.cast_ofNat_Int, Nat.zero_add, Int.zero_le_ofNat, ixX, inX, notInX, catL, lCat, lCatn, fTxt, fTxtGet, sTxtPut, sTxt, sDicNew, sDicPut, fGet1, fGet2, wKey, fDl, sOwnX, sRetO, runX, iniX, tellX, notInD, c1, c2]
/-! ### turnouts -/
def isT : Kd → Bool
  | .p => true
  | .q => true
  | _ => false
def tnO (x : Nat × Pc) : Option Nat := match x.2 with
  | some (k, _) => if isT k then some x.1 else none
  | none => none
def tns (l : List Pc) : List Nat := (idxL 0 l).filterMap tnO
abbrev I (n : Nat) : D := .int (n : Int)
theorem in_PQ (k : Kd) : inX (.str (kt k)) (.tuple [.str "P", .str "Q"]) = some (.bool (isT k)) := by
  have h : inX (.str (kt k)) (.tuple [.str "P", .str "Q"]) = if SeqAt.shaped (.str (kt k)) && SeqAt.shaped (.list [.str "P", .str "Q"]) then some (.bool (([.str "P", .str "Q"] : List D).any fun z => PyData.eqv z (.str (kt k)))) else none := rfl
  have k1 : PyData.strOk (kt k) = true := by cases k <;> decide +kernel
  have k2 : PyData.strOk "P" = true := by decide +kernel
  have k3 : PyData.strOk "Q" = true := by decide +kernel
  have h1 : SeqAt.shaped (.str (kt k)) = true := by simp [SeqAt.shaped, PyData.canLay0, PyData.depth, k1]
  have h2 : SeqAt.shaped (.list [.str "P", .str "Q"]) = true := by simp [SeqAt.shaped, PyData.canLay0, PyData.canLayAll0, PyData.depth, PyData.depthAll, k2, k3]
  rw [h, h1, h2]
  cases k <;> simp [PyData.eqv, isT, kt] <;> decide
theorem inS_PQ (k : Kd) : inS (kt k) "PQ" = isT k := by cases k <;> decide +kernel
theorem in_PQs (k : Kd) : inSD (.str (kt k)) (.str "PQ") = some (.bool (isT k)) := by
  show some (PyData.bool (inS (kt k) "PQ")) = _
  rw [inS_PQ]
theorem tns_len (l : List Pc) : (tns l).length ≤ l.length := by
  have := List.length_filterMap_le tnO (idxL 0 l)
  rw [idxL_len] at this
  exact this
theorem lturn (l : List Pc) (hl : l.length ≤ 1000) : F__law_turnouts [.tuple (l.map pcD)] = some (.list ((tns l).map I), []) := by
  let G : Option Ent → En := fun g => [some (.dat (.tuple (l.map pcD))), g]
  have hsm := small_n (n := l.length) (by omega)
  have := lLc_pure (enc := fun x : Nat × Pc => PyData.int (x.1 : Int)) (js := [1]) (tg := gDat 1) (src := (wR1 (f1n lenD 0))) (tt := (cAnd (ofB (f2 notNd (f2nn ixX 0 1) (fC .none))) (ofB (f2 inX (f2 ixX (f2nn ixX 0 1) (fC (.int 0))) (fTup (aCons (fC (.str "P")) (aCons (fC (.str "Q")) aNil))))))) (elt := E1__law_turnouts) (γ := G none) (γ1 := G none) (ds := idxL 0 l)
    (fun x => (tnO x).map I) (by
      rw [← rngD_idx l 0]
      exact wr1_t (n := (l.length : Int)) (f1n_t (x := .tuple (l.map pcD)) rfl (by simp)) hsm) (by simp [G, noOwns]) (by simp [G, wipeE]) (by simp [G, putBack, wipeE]) (fun d hd => by
        obtain ⟨_, h2⟩ := idxL_mem hd
        obtain ⟨n, x⟩ := d
        simp only [Nat.sub_zero] at h2
        have ix : ixX (.tuple (l.map pcD)) (.int (n : Int)) = some (pcD x) := ix_tuple (by rw [List.getElem?_map, h2]; rfl)
        let g := G (some (.dat (.int n)))
        have v : f2nn ixX 0 1 g = some (pcD x, g) := f2nn_t (x := .tuple (l.map pcD)) (y := .int (n : Int)) rfl rfl ix
        refine ⟨g, rfl, ?_⟩
        cases x with
        | none => exact .inl ⟨rfl, g, and_f (ofB_t (f2_t (y := .none) v rfl rfl)), by simp [noOwns, g, G], by simp [wipeE, G, g]⟩
        | some kp =>
          obtain ⟨k, p⟩ := kp
          have t : (cAnd (ofB (f2 notNd (f2nn ixX 0 1) (fC .none))) (ofB (f2 inX (f2 ixX (f2nn ixX 0 1) (fC (.int 0))) (fTup (aCons (fC (.str "P")) (aCons (fC (.str "Q")) aNil)))))) g = some (isT k, g) :=
            and_t (ofB_t (f2_t (y := .none) v rfl rfl)) (ofB_t (f2_t (y := .tuple [.str "P", .str "Q"]) (f2_t (y := .int 0) v rfl rfl) rfl (in_PQ k)))
          cases c : isT k with
          | true =>
            rw [c] at t
            exact .inr ⟨I n, g, g, by simp [tnO, c], t, rfl, by simp [noOwns, g, G], by simp [wipeE, G, g]⟩
          | false =>
            rw [c] at t
            exact .inl ⟨by simp [tnO, c], g, t, by simp [noOwns, g, G], by simp [wipeE, G, g]⟩) (by rw [idxL_len]; omega)
  have e : (idxL 0 l).filterMap (fun x => (tnO x).map I) = (tns l).map I := by
    unfold tns
    rw [List.map_filterMap]
  rw [e] at this
  exact run_d rfl (ret_t (fL_t this))
theorem pturn (l : List Pc) (hl : l.length ≤ 1000) : F_turnouts_in [.tuple (l.map pcD)] = some (.list ((tns l).map I), []) := by
  let G : Option Ent → Option Ent → En := fun g h => [some (.dat (.tuple (l.map pcD))), g, h]
  have := lLc_pure (enc := fun x : Nat × Pc => PyData.tuple [.int (x.1 : Int), pcD x.2]) (js := [1, 2]) (tg := (gTp 2 (gsCons (gDat 1) (gsCons (gDat 2) gsNo)))) (src := (wEnum (fN 0))) (tt := (cAnd (ofB (f2n notNd 2 (fC .none))) (ofB (f2 inSD (f2n ixX 2 (fC (.int 0))) (fC (.str "PQ")))))) (elt := E1_turnouts_in) (γ := G none none) (γ1 := G none none) (ds := idxL 0 l)
    (fun x => (tnO x).map I) (by simp only [runF, ini, gt, view, fN, fC, f2, f2n, f2m, f2nn, okN, addD, subD, fdivD, modD, cmpI, isNo, isNd, notNd, ixD, tYe, ofB, cNot, cAnd, cOr, fAnd, fOr, fNot, fNeg, fIf, aNil, aCons, fTup, fL, lDisp, DN.f1, f1n, lenD, intD, absD, tupleD, listD, lOf, lOfn, pNo, pOf, slD, fSl, fSln, pinB, gDat, gsNo, gsCons, gTp, gLp, sNil, sSeq, sAsg, sOwn, sSet, sApp, sDrop, sRet, sRetN, sBk, sCt, sIf, wOf, wR1, wR2, small62, sFor, cTru, cTrun, truD, lRep, sAsg2, fCallL, aLend, allD, sumD, wEnum, revTD, sNone, fCall, fCallB, ownB, lLc, simp_ix1, simp_ix2, List.set, List.length_cons, List.length_nil, List.map_cons, List.map_nil, List.cons_append, List.nil_append, List.replicate, Option.bind_some, Option.map_some, if_true, if_false, Bool.false_eq_true, Bool.not_true, Bool.not_false, decide_true, decide_false, reduceIte, Nat.reduceAdd, Nat.reduceLeDiff, Nat.reduceEqDiff, Int.reduceLE, Int.reduceLT, Int.reduceToNat, List.getElem?_cons_zero, List.getElem?_cons_succ, Int.cast_ofNat_Int, Nat.zero_add, Int.zero_le_ofNat, ixX, inX, notInX, catL, lCat, lCatn, fTxt, fTxtGet, sTxtPut, sTxt, sDicNew, sDicPut, fGet1, fGet2, wKey, fDl, sOwnX, sRetO, runX, iniX, tellX, notInD, G, enumL_map]) (by simp [G, noOwns]) (by simp [G, wipeE]) (by simp [G, putBack, wipeE]) (fun d hd => by
        obtain ⟨n, x⟩ := d
        let g := G (some (.dat (.int n))) (some (.dat (pcD x)))
        refine ⟨g, rfl, ?_⟩
        cases x with
        | none => exact .inl ⟨rfl, g, and_f (ofB_t (f2n_t (x := .none) (y := .none) rfl rfl rfl rfl)), by simp [noOwns, g, G], by simp [wipeE, G, g]⟩
        | some kp =>
          obtain ⟨k, p⟩ := kp
          have t : (cAnd (ofB (f2n notNd 2 (fC .none))) (ofB (f2 inSD (f2n ixX 2 (fC (.int 0))) (fC (.str "PQ"))))) g = some (isT k, g) :=
            and_t (ofB_t (f2n_t (x := pcD (some (k, p))) (y := .none) rfl rfl rfl rfl)) (ofB_t (f2_t (x := .str (kt k)) (y := .str "PQ") (f2n_t (x := pcD (some (k, p))) (y := .int 0) rfl rfl rfl rfl) rfl (in_PQs k)))
          cases c : isT k with
          | true =>
            rw [c] at t
            exact .inr ⟨I n, g, g, by simp [tnO, c], t, rfl, by simp [noOwns, g, G], by simp [wipeE, G, g]⟩
          | false =>
            rw [c] at t
            exact .inl ⟨by simp [tnO, c], g, t, by simp [noOwns, g, G], by simp [wipeE, G, g]⟩) (by rw [idxL_len]; omega)
  have e : (idxL 0 l).filterMap (fun x => (tnO x).map I) = (tns l).map I := by
    unfold tns
    rw [List.map_filterMap]
  rw [e] at this
  exact run_d rfl (ret_t (fL_t this))
/-! ### numbers as data -/
theorem ints_lay : ∀ l : List Nat, PyData.canLayAll0 (l.map I) = true ∧ PyData.depthAll (l.map I) ≤ 1
  | [] => by simp [PyData.canLayAll0, PyData.depthAll]
  | x :: r => by
    obtain ⟨h1, h2⟩ := ints_lay r
    simp only [List.map_cons, PyData.canLayAll0, PyData.depthAll, PyData.canLay0, PyData.depth, h1, Bool.and_self, true_and]
    omega
theorem ints_shaped (l : List Nat) : SeqAt.shaped (.list (l.map I)) = true := by
  obtain ⟨h1, h2⟩ := ints_lay l
  unfold SeqAt.shaped
  rw [Bool.and_eq_true, decide_eq_true_eq]
  exact ⟨by simpa only [PyData.canLay0] using h1, by simp only [PyData.depth]; omega⟩
theorem intt_shaped (l : List Nat) : SeqAt.shaped (.tuple (l.map I)) = true := by
  obtain ⟨h1, h2⟩ := ints_lay l
  unfold SeqAt.shaped
  rw [Bool.and_eq_true, decide_eq_true_eq]
  exact ⟨by simpa only [PyData.canLay0] using h1, by simp only [PyData.depth]; omega⟩
theorem int_shaped (i : Int) : SeqAt.shaped (.int i) = true := by simp [SeqAt.shaped, PyData.canLay0, PyData.depth]
theorem eqv_I (m n : Nat) : PyData.eqv (I m) (I n) = decide (m = n) := by
  simp only [PyData.eqv]
  by_cases h : m = n
  · subst h; simp
  · have : ¬ ((m : Int) = (n : Int)) := by omega
    simp [h, this]
theorem in_ints (n : Nat) (l : List Nat) : inX (I n) (.tuple (l.map I)) = some (.bool (decide (n ∈ l))) := by
  have e : ((l.map I).any fun z => PyData.eqv z (I n)) = decide (n ∈ l) := by
    induction l with
    | nil => simp
    | cons x r ih =>
      rw [List.map_cons, List.any_cons, ih, eqv_I]
      by_cases h : x = n
      · subst h; simp
      · have : ¬ n = x := fun z => h z.symm
        simp [h, this]
  have h : inX (I n) (.tuple (l.map I)) = if SeqAt.shaped (I n) && SeqAt.shaped (.list (l.map I)) then some (.bool ((l.map I).any fun z => PyData.eqv z (I n))) else none := rfl
  rw [h, int_shaped, ints_shaped, e]
  rfl
theorem eqv_ints : ∀ l : List Nat, PyData.eqvAll (l.map I) (l.map I) = true
  | [] => by simp [PyData.eqvAll]
  | x :: r => by
    rw [List.map_cons, PyData.eqvAll, eqv_ints r, eqv_I]
    simp
theorem ne_ints (l : List Nat) : neD (.tuple (l.map I)) (.tuple (l.map I)) = some (.bool false) := by
  have h : neD (.tuple (l.map I)) (.tuple (l.map I)) = if SeqAt.shaped (.tuple (l.map I)) && SeqAt.shaped (.tuple (l.map I)) then some (.bool (!PyData.eqv (.tuple (l.map I)) (.tuple (l.map I)))) else none := rfl
  rw [h, intt_shaped, PyData.eqv, eqv_ints]
  rfl
/-! ### thrown turnouts -/
theorem thr_lc (ds : List Int) (L : D) : ∀ (ts : List Nat) (i : Int) (acc : List D), 0 ≤ i → acc.length + ts.length ≤ 10000 →
    ∃ (ths : List Nat) (j : Int), 0 ≤ j ∧ ths.Sublist ts ∧ lcF [2] (gDat 2) (ofB (f2 eqD (fCallB 2 F__law_draw 0 (aCons (fC (.int 2)) aNil)) (fC (.int 0)))) E1__law_thrown (ts.map I) [some (.ow true (.lst (bx ds i))), some (.dat L), none] acc = some (acc ++ ths.map I, [some (.ow true (.lst (bx ds j))), some (.dat L), none])
  | [], i, acc, h0, _ => ⟨[], i, h0, .slnil, by simp [lcF]⟩
  | t :: ts, i, acc, h0, hl => by
    rw [List.length_cons] at hl
    let G : Int → Option Ent → En := fun i g => [some (.ow true (.lst (bx ds i))), some (.dat L), g]
    obtain ⟨d, h1, a1, b1⟩ := draw_ok ds i 2 h0 (by omega)
    have tt : ofB (f2 eqD (fCallB 2 F__law_draw 0 (aCons (fC (.int 2)) aNil)) (fC (.int 0))) (G i (some (.dat (I t)))) = some (decide (d = 0), G (i + 1) (some (.dat (I t)))) :=
      eq_t (bor_g (ds := [.int 2]) (γ1 := G i (some (.dat (I t)))) rfl rfl rfl rfl h1) rfl rfl
    have g0 : gDat 2 (I t) (G i none) = some (G i (some (.dat (I t)))) := rfl
    have hz : acc.length ≤ 1000000 := by omega
    by_cases c : d = 0
    · rw [decide_eq_true c] at tt
      obtain ⟨ths, j, j0, sb, e⟩ := thr_lc ds L ts (i + 1) (acc ++ [I t]) (by omega) (by simp; omega)
      refine ⟨t :: ths, j, j0, .cons₂ t sb, ?_⟩
      have el : E1__law_thrown (G (i + 1) (some (.dat (I t)))) = some (I t, G (i + 1) (some (.dat (I t)))) := rfl
      have n2 : noOwns (G (i + 1) (some (.dat (I t)))) [2] = true := rfl
      have w2 : wipeE (G (i + 1) (some (.dat (I t)))) [2] = G (i + 1) none := rfl
      show lcF _ _ _ _ (I t :: ts.map I) (G i none) acc = _
      simp only [lcF, g0, tt, el, n2, okN, hz, decide_true, Bool.and_self, if_true, w2]
      rw [e]
      simp
    · rw [decide_eq_false c] at tt
      obtain ⟨ths, j, j0, sb, e⟩ := thr_lc ds L ts (i + 1) acc (by omega) (by omega)
      refine ⟨ths, j, j0, .cons t sb, ?_⟩
      have n2 : noOwns (G (i + 1) (some (.dat (I t)))) [2] = true := rfl
      have w2 : wipeE (G (i + 1) (some (.dat (I t)))) [2] = G (i + 1) none := rfl
      show lcF _ _ _ _ (I t :: ts.map I) (G i none) acc = _
      simp only [lcF, g0, tt, n2, if_true, w2]
      exact e
theorem lLc_of {js : List Nat} {tg : Fg} {src : Fa} {tt : Ft} {elt : Fe} {γ γ1 γ2 w v : En} {ds out : List D} (s : src γ = some (ds, γ1)) (n : noOwns γ1 js = true) (hw : wipeE γ1 js = w) (e : lcF js tg tt elt ds w [] = some (out, γ2)) (hv : putBack γ1 γ2 js = v) : lLc js tg src tt elt γ = some (out, v) := by
  subst hw hv
  simp only [lLc, s, n, if_true, e]
theorem thrown_ok (ds : List Int) (i : Int) (h0 : 0 ≤ i) (l : List Pc) (hl : l.length ≤ 1000) : ∃ (ths : List Nat) (j : Int), 0 ≤ j ∧ ths.Sublist (tns l) ∧ F__law_thrown [.list (bx ds i), .tuple (l.map pcD)] = some (.tuple (ths.map I), bx ds j) := by
  have tl := tns_len l
  obtain ⟨ths, j, j0, sb, e⟩ := thr_lc ds (.tuple (l.map pcD)) (tns l) i [] h0 (by simp; omega)
  refine ⟨ths, j, j0, sb, ?_⟩
  let G : Int → En := fun i => [some (.ow true (.lst (bx ds i))), some (.dat (.tuple (l.map pcD))), none]
  have s : wOf (fCall 1 F__law_turnouts (aCons (fN 1) aNil)) (G i) = some ((tns l).map I, G i) := wof_t (call_t (ds := [.tuple (l.map pcD)]) rfl rfl (lturn l hl))
  rw [List.nil_append] at e
  have c := lLc_of (γ2 := G j) s (w := G i) rfl rfl e (v := G j) rfl
  exact run_b (γ0 := G i) (γ := G j) rfl (ret_t (f1_t (op := tupleD) (fL_t c) rfl)) rfl
theorem filter_sub : ∀ {ths ts : List Nat}, ths.Sublist ts → ts.Nodup → ts.filter (fun n => decide (n ∈ ths)) = ths := by
  intro ths ts h
  induction h with
  | slnil => exact fun _ => rfl
  | @cons l1 l2 a h ih =>
    intro nd
    rw [List.nodup_cons] at nd
    rw [List.filter_cons, if_neg (by simp only [decide_eq_true_eq]; exact fun z => nd.1 (h.subset z))]
    exact ih nd.2
  | @cons_cons l1 l2 a h ih =>
    intro nd
    rw [List.nodup_cons] at nd
    rw [List.filter_cons, if_pos (by simp)]
    congr 1
    refine Eq.trans (List.filter_congr fun x hx => ?_) (ih nd.2)
    have : x ≠ a := fun e => nd.1 (e ▸ hx)
    simp [this]
theorem tns_nodup (l : List Pc) : (tns l).Nodup := by
  have h : ∀ (l : List Pc) (i : Nat), ((idxL i l).filterMap tnO).Nodup ∧ ∀ n ∈ (idxL i l).filterMap tnO, i ≤ n := by
    intro l
    induction l with
    | nil => exact fun i => ⟨List.nodup_nil, fun n h => by cases h⟩
    | cons x r ih =>
      intro i
      obtain ⟨h1, h2⟩ := ih (i + 1)
      rw [idxL, List.filterMap_cons]
      have : tnO (i, x) = none ∨ tnO (i, x) = some i := by
        unfold tnO
        cases x with
        | none => exact .inl rfl
        | some kp =>
          obtain ⟨k, p⟩ := kp
          cases c : isT k <;> simp [c]
      rcases this with e | e
      · rw [e]
        exact ⟨h1, fun n hn => by have := h2 n hn; omega⟩
      · rw [e]
        refine ⟨List.nodup_cons.mpr ⟨fun hi => by have := h2 i hi; omega, h1⟩, fun n hn => ?_⟩
        rcases List.mem_cons.mp hn with rfl | hn
        · omega
        · have := h2 n hn; omega
  exact (h l 0).1
theorem refuse_ok (l : List Pc) (hl : l.length ≤ 1000) (ths : List Nat) (sb : ths.Sublist (tns l)) : F_refuse_no_turnouts [.tuple (l.map pcD), .tuple (ths.map I)] = some (.none, []) := by
  let G : Option Ent → En := fun g => [some (.dat (.tuple (l.map pcD))), some (.dat (.tuple (ths.map I))), g]
  have tl := tns_len l
  have := lLc_pure (enc := I) (js := [2]) (tg := gDat 2) (src := wOf (fCall 1 F_turnouts_in (aCons (fN 0) aNil))) (tt := ofB (f2nn inX 2 1)) (elt := E1_refuse_no_turnouts) (γ := G none) (γ1 := G none) (ds := tns l) (fun n => if decide (n ∈ ths) then some (I n) else none)
    (wof_t (call_t (ds := [.tuple (l.map pcD)]) rfl rfl (pturn l hl))) (by simp [G, noOwns]) (by simp [G, wipeE]) (by simp [G, putBack, wipeE]) (fun n _ => by
      have t : ofB (f2nn inX 2 1) (G (some (.dat (I n)))) = some (decide (n ∈ ths), G (some (.dat (I n)))) := ofB_t (f2nn_t (x := I n) (y := .tuple (ths.map I)) rfl rfl (in_ints _ _))
      refine ⟨G (some (.dat (I n))), rfl, ?_⟩
      cases c : decide (n ∈ ths) with
      | true =>
        rw [c] at t
        exact .inr ⟨I n, _, _, rfl, t, rfl, rfl, rfl⟩
      | false =>
        rw [c] at t
        exact .inl ⟨rfl, _, t, rfl, rfl⟩) (by omega)
  have e : (tns l).filterMap (fun n => if decide (n ∈ ths) then some (I n) else none) = ths.map I := by
    have h := filter_sub sb (tns_nodup l)
    have : ∀ ts : List Nat, ts.filterMap (fun n => if decide (n ∈ ths) then some (I n) else none) = (ts.filter (fun n => decide (n ∈ ths))).map I := by
      intro ts
      induction ts with
      | nil => rfl
      | cons x r ih =>
        rw [List.filterMap_cons, List.filter_cons]
        by_cases c : x ∈ ths
        · rw [if_pos (decide_eq_true c), if_pos (decide_eq_true c), ih, List.map_cons]
        · rw [if_neg (by simpa using c), if_neg (by simpa using c), ih]
    rw [this, h]
  rw [e] at this
  have t : ofB (f2n neD 1 (f1 tupleD (fL (lLc [2] (gDat 2) (wOf (fCall 1 F_turnouts_in (aCons (fN 0) aNil))) (ofB (f2nn inX 2 1)) E1_refuse_no_turnouts)))) (G none) = some (false, G none) :=
    ofB_t (f2n_t (x := .tuple (ths.map I)) rfl (f1_t (op := tupleD) (fL_t this) rfl) rfl (ne_ints ths))
  have b : B_refuse_no_turnouts (G none) = some (.nx (G none)) := if_f t rfl
  have i0 : ini false 1 [.tuple (l.map pcD), .tuple (ths.map I)] = G none := rfl
  unfold F_refuse_no_turnouts runF
  rw [i0, b]
  rfl
/-! ### a train drawn -/
theorem train_ok (ds : List Int) (i : Int) (h0 : 0 ≤ i) (l : List Pc) (hl : l.length ≤ 1000) (ht : trains l ≠ []) : ∃ t ∈ trains l, F__law_train [.list (bx ds i), .tuple (l.map pcD)] = some (trD t, bx ds (i + 1)) := by
  have tp : 0 < (trains l).length := List.length_pos_iff.mpr ht
  obtain ⟨d, h1, a1, b1⟩ := draw_ok ds i 900 h0 (by omega)
  have m0 : 0 ≤ d % ((trains l).length : Int) := Int.emod_nonneg _ (by omega)
  have m1 : d % ((trains l).length : Int) < (trains l).length := Int.emod_lt_of_pos _ (by omega)
  have hi : (d % ((trains l).length : Int)).toNat < (trains l).length := by omega
  let G : Int → Option Ent → En := fun i g => [some (.ow true (.lst (bx ds i))), some (.dat (.tuple (l.map pcD))), g]
  let T : Option Ent := some (.dat (.list ((trains l).map trD)))
  have md : modD (.int d) (.int (((trains l).map trD).length : Int)) = some (.int (((d % ((trains l).length : Int)).toNat : Nat) : Int)) := by
    have : decide (0 < ((trains l).length : Int)) = true := decide_eq_true (by omega)
    rw [show (((d % ((trains l).length : Int)).toNat : Nat) : Int) = d % ((trains l).length : Int) by omega]
    simp only [modD, List.length_map, this, if_true]
  have ix : ixX (.list ((trains l).map trD)) (.int (((d % ((trains l).length : Int)).toNat : Nat) : Int)) = some (trD ((trains l)[(d % ((trains l).length : Int)).toNat]'hi)) :=
    ix_list (by rw [List.getElem?_map, List.getElem?_eq_getElem hi]; rfl)
  refine ⟨(trains l)[(d % ((trains l).length : Int)).toNat]'hi, List.getElem_mem _, ?_⟩
  refine run_b (γ0 := G i none) (γ := G (i + 1) T) rfl ((seq_nx (asg_t (call_t (ds := [.tuple (l.map pcD)]) (γ2 := G i none) rfl rfl (ltrains l hl)) (γ2 := G i T) rfl)).trans (ret_t ?_)) rfl
  exact f2n_t (x := .list ((trains l).map trD)) rfl (f2_t (f1_t (op := intD) (z := .int d) (bor_g (ds := [.int 900]) (γ1 := G i T) rfl rfl rfl rfl h1) rfl) (f1n_t (op := lenD) (i := 2) (x := .list ((trains l).map trD)) rfl rfl) md) rfl ix
/-! ### dicts as data -/
def kF (p : Ps) : NestedKey := .tup [.num p.1.1, .num p.1.2.1, .num p.1.2.2.1, .num p.1.2.2.2, .num p.2]
def kP (x : Nat × Nat) : NestedKey := .tup [.num (x.1 : Int), .num (x.2 : Int)]
def kT (t : Tr) : NestedKey := .tup [.num (t.1 : Int), .num (t.2.1 : Int), .num (t.2.2 : Int)]
theorem key_F5 (p : Ps) : keyD (F5 p) = some (kF p) := rfl
theorem key_pD (x : Nat × Nat) : keyD (pD x) = some (kP x) := rfl
theorem key_trD (t : Tr) : keyD (trD t) = some (kT t) := rfl
theorem kF_inj {p q : Ps} (h : kF p = kF q) : p = q := by
  obtain ⟨⟨a, b, c, d⟩, e⟩ := p
  obtain ⟨⟨a', b', c', d'⟩, e'⟩ := q
  simp only [kF, NestedKey.tup.injEq, List.cons.injEq, NestedKey.num.injEq, and_true] at h
  obtain ⟨rfl, rfl, rfl, rfl, rfl⟩ := h
  rfl
theorem kP_inj {p q : Nat × Nat} (h : kP p = kP q) : p = q := by
  obtain ⟨a, b⟩ := p
  obtain ⟨a', b'⟩ := q
  simp only [kP, NestedKey.tup.injEq, List.cons.injEq, NestedKey.num.injEq, and_true] at h
  have h1 : a = a' := by omega
  have h2 : b = b' := by omega
  rw [h1, h2]
theorem kT_inj {p q : Tr} (h : kT p = kT q) : p = q := by
  obtain ⟨a, b, c⟩ := p
  obtain ⟨a', b', c'⟩ := q
  simp only [kT, NestedKey.tup.injEq, List.cons.injEq, NestedKey.num.injEq, and_true] at h
  have h1 : a = a' := by omega
  have h2 : b = b' := by omega
  have h3 : c = c' := by omega
  rw [h1, h2, h3]
theorem look_cons (q : D × D) (r : Kvs) (k : NestedKey) : lookN (q :: r) k = if keyD q.1 = some k then some q.2 else lookN r k := by
  unfold lookN
  rw [List.find?_cons]
  by_cases c : keyD q.1 = some k
  · rw [if_pos c, decide_eq_true c]
    rfl
  · rw [if_neg c, decide_eq_false c]
theorem look_map {k k' : NestedKey} {d : D} : ∀ kvs : Kvs, lookN (kvs.map fun q => if keyD q.1 = some k then (q.1, d) else q) k' = if k' = k then (lookN kvs k).map fun _ => d else lookN kvs k'
  | [] => by simp [lookN]
  | q :: r => by
    have ih := look_map (k := k) (k' := k') (d := d) r
    rw [List.map_cons, look_cons, look_cons, look_cons, ih]
    by_cases c : keyD q.1 = some k
    · rw [if_pos c, if_pos c]
      show (if keyD q.1 = some k' then some d else _) = _
      by_cases e : k' = k
      · subst e
        rw [if_pos c, if_pos rfl]
        rfl
      · have : ¬ keyD q.1 = some k' := fun z => e (by rw [c] at z; exact (Option.some.inj z).symm)
        rw [if_neg this, if_neg e, if_neg e, if_neg this]
    · rw [if_neg c, if_neg c]
      by_cases e : k' = k
      · subst e
        rw [if_neg c, if_pos rfl, if_pos rfl]
      · rw [if_neg e, if_neg e]
theorem look_store {kvs : Kvs} {kd d : D} {k k' : NestedKey} (hk : keyD kd = some k) : lookN (storeN kvs kd k d) k' = if k' = k then some d else lookN kvs k' := by
  unfold storeN
  split
  · rename_i h
    rw [look_map]
    split
    · obtain ⟨x, hx⟩ := Option.isSome_iff_exists.mp h
      rw [hx]
      rfl
    · rfl
  · rename_i h
    have hn : lookN kvs k = none := by simpa using h
    unfold lookN at hn ⊢
    rw [List.find?_append, List.find?_cons, List.find?_nil]
    by_cases e : k' = k
    · subst e
      rw [if_pos rfl]
      rw [Option.map_eq_none_iff] at hn
      rw [hn]
      simp [hk]
    · rw [if_neg e]
      have : ¬ (some k = some k') := fun z => e (Option.some.inj z).symm
      simp only [hk, this, decide_false, Option.or_none]
abbrev Wr := D × NestedKey × D
def foldS : Kvs → List Wr → Kvs
  | kvs, [] => kvs
  | kvs, w :: ws => foldS (storeN kvs w.1 w.2.1 w.2.2) ws
theorem foldS_hit {k : NestedKey} {v : D} : ∀ (ws : List Wr) (kvs : Kvs), (∀ w ∈ ws, keyD w.1 = some w.2.1) → (lookN kvs k = some v ∨ ∃ w ∈ ws, w.2.1 = k) → (∀ w ∈ ws, w.2.1 = k → w.2.2 = v) → lookN (foldS kvs ws) k = some v
  | [], kvs, _, h, _ => by
    rcases h with h | ⟨w, hw, _⟩
    · exact h
    · cases hw
  | w :: ws, kvs, hk, h, hv => by
    refine foldS_hit ws _ (fun x hx => hk x (by simp [hx])) ?_ (fun x hx => hv x (by simp [hx]))
    rw [look_store (hk w (by simp))]
    by_cases e : k = w.2.1
    · rw [if_pos e]
      exact .inl (congrArg some (hv w (by simp) e.symm))
    · rw [if_neg e]
      rcases h with h | ⟨x, hx, ex⟩
      · exact .inl h
      · rcases List.mem_cons.mp hx with rfl | hx
        · exact absurd ex.symm e
        · exact .inr ⟨x, hx, ex⟩
theorem foldS_miss {k : NestedKey} : ∀ (ws : List Wr) (kvs : Kvs), (∀ w ∈ ws, keyD w.1 = some w.2.1) → (∀ w ∈ ws, w.2.1 ≠ k) → lookN (foldS kvs ws) k = lookN kvs k
  | [], kvs, _, _ => rfl
  | w :: ws, kvs, hk, hn => by
    rw [foldS, foldS_miss ws _ (fun x hx => hk x (by simp [hx])) (fun x hx => hn x (by simp [hx])), look_store (hk w (by simp)), if_neg]
    exact fun e => hn w (by simp) e.symm
theorem foldS_new : ∀ (ws : List Wr) (kvs : Kvs), (∀ w ∈ ws, keyD w.1 = some w.2.1) → (ws.map (·.2.1)).Nodup → (∀ w ∈ ws, lookN kvs w.2.1 = none) → foldS kvs ws = kvs ++ ws.map fun w => (w.1, w.2.2)
  | [], kvs, _, _, _ => by simp [foldS]
  | w :: ws, kvs, hk, nd, hn => by
    rw [List.map_cons, List.nodup_cons] at nd
    have e : storeN kvs w.1 w.2.1 w.2.2 = kvs ++ [(w.1, w.2.2)] := by
      unfold storeN
      rw [hn w (by simp)]
      rfl
    rw [foldS, e, foldS_new ws _ (fun x hx => hk x (by simp [hx])) nd.2 (fun x hx => ?_)]
    · simp
    · have hx1 := hn x (by simp [hx])
      have ne : ¬ (some w.2.1 = some x.2.1) := fun z => nd.1 (by rw [Option.some.inj z]; exact List.mem_map_of_mem hx)
      unfold lookN at hx1 ⊢
      rw [Option.map_eq_none_iff] at hx1
      rw [List.find?_append, hx1, List.find?_cons, List.find?_nil, hk w (by simp)]
      simp only [ne, decide_false, Option.or_none, Option.map_none]
theorem foldS_len : ∀ (ws : List Wr) (kvs : Kvs), (foldS kvs ws).length ≤ kvs.length + ws.length
  | [], kvs => by simp [foldS]
  | w :: ws, kvs => by
    have h1 := foldS_len ws (storeN kvs w.1 w.2.1 w.2.2)
    have h2 := storeN_len kvs w.1 w.2.1 w.2.2
    rw [foldS, List.length_cons]
    omega
def DcStep (js : List Nat) (tg : Fg) (tt : Ft) (kf vf : Fe) (γ : En) (d : D) (o : Option Wr) : Prop :=
  ∃ γ0, tg d γ = some γ0 ∧ ((o = none ∧ ∃ γ1, tt γ0 = some (false, γ1) ∧ noOwns γ1 js = true ∧ wipeE γ1 js = γ) ∨
    (∃ w γ1 γ2 γ3, o = some w ∧ tt γ0 = some (true, γ1) ∧ kf γ1 = some (w.1, γ2) ∧ vf γ2 = some (w.2.2, γ3) ∧ keyD w.1 = some w.2.1 ∧ noOwns γ3 js = true ∧ wipeE γ3 js = γ))
theorem dcF_pure {α : Type} {enc : α → D} {js : List Nat} {tg : Fg} {tt : Ft} {kf vf : Fe} {γ : En} (h : α → Option Wr) : ∀ (ds : List α) (acc : Kvs), (∀ d ∈ ds, DcStep js tg tt kf vf γ (enc d) (h d)) → acc.length + ds.length ≤ 1000000 →
    dcF js tg tt kf vf (ds.map enc) γ acc = some (foldS acc (ds.filterMap h), γ)
  | [], acc, _, _ => by simp [dcF, foldS]
  | d :: ds, acc, hs, hl => by
    rw [List.length_cons] at hl
    obtain ⟨γ0, e0, r⟩ := hs d (by simp)
    have ih := fun acc hl => dcF_pure (enc := enc) (js := js) (tg := tg) (tt := tt) (kf := kf) (vf := vf) (γ := γ) h ds acc (fun x hx => hs x (by simp [hx])) hl
    rcases r with ⟨eo, γ1, e1, n1, w1⟩ | ⟨w, γ1, γ2, γ3, eo, e1, e2, e3, ek, n3, w3⟩
    · have := ih acc (by omega)
      simp only [List.map_cons, dcF, e0, e1, n1, if_true, w1, this, List.filterMap_cons, eo]
    · have := ih (storeN acc w.1 w.2.1 w.2.2) (by have := storeN_len acc w.1 w.2.1 w.2.2; omega)
      have hz : acc.length ≤ 1000000 := by omega
      simp only [List.map_cons, dcF, e0, e1, e2, e3, ek, n3, okN, hz, decide_true, Bool.and_self, if_true, w3, this, List.filterMap_cons, eo, foldS]
theorem lDc_pure {α : Type} {enc : α → D} {js : List Nat} {tg : Fg} {src : Fa} {tt : Ft} {kf vf : Fe} {γ γ1 : En} {ds : List α} (h : α → Option Wr) (hs : src γ = some (ds.map enc, γ1)) (hn : noOwns γ1 js = true) (hw : wipeE γ1 js = γ1) (hp : putBack γ1 γ1 js = γ1)
    (hst : ∀ d ∈ ds, DcStep js tg tt kf vf γ1 (enc d) (h d)) (hl : ds.length ≤ 1000000) : lDc js tg src tt kf vf γ = some (foldS [] (ds.filterMap h), γ1) := by
  have e := dcF_pure (enc := enc) (js := js) (tg := tg) (tt := tt) (kf := kf) (vf := vf) (γ := γ1) h ds [] hst (by simpa using hl)
  simp only [lDc, hs, hn, if_true, hw, e, hp]
/-! ### where things are -/
theorem idxL_iff {α : Type} {l : List α} {y : Nat × α} : y ∈ idxL 0 l ↔ l[y.1]? = some y.2 := by
  constructor
  · intro h
    have := (idxL_mem h).2
    simpa using this
  · intro h
    obtain ⟨hl, e⟩ := List.getElem?_eq_some_iff.mp h
    have := idxL_in (i := 0) hl
    rw [Nat.zero_add, e] at this
    exact this
theorem pl_mem {l : List Pc} {x : Nat × Kd × Ps} : x ∈ pl l ↔ l[x.1]? = some (some x.2) := by
  unfold pl
  rw [List.mem_filterMap]
  constructor
  · rintro ⟨y, hy, e⟩
    rw [idxL_iff] at hy
    obtain ⟨n, z⟩ := y
    cases z with
    | none => cases e
    | some kp =>
      simp only [Option.map_some, Option.some.injEq] at e
      subst e
      exact hy
  · intro h
    exact ⟨(x.1, some x.2), idxL_iff.mpr h, rfl⟩
theorem allE_mem {l : List Pc} {x : Nat × Nat × Ps} : x ∈ allE l ↔ ∃ k p, l[x.1]? = some (some (k, p)) ∧ (ends k p)[x.2.1]? = some x.2.2 := by
  unfold allE
  rw [List.mem_flatMap]
  constructor
  · rintro ⟨y, hy, hx⟩
    rw [pl_mem] at hy
    unfold eE at hx
    obtain ⟨z, hz, rfl⟩ := List.mem_map.mp hx
    rw [idxL_iff] at hz
    exact ⟨y.2.1, y.2.2, hy, hz⟩
  · rintro ⟨k, p, h1, h2⟩
    refine ⟨(x.1, k, p), pl_mem.mpr h1, ?_⟩
    unfold eE
    exact List.mem_map.mpr ⟨(x.2.1, x.2.2), idxL_iff.mpr h2, rfl⟩
theorem allE_uniq {l : List Pc} {x y : Nat × Nat × Ps} (hx : x ∈ allE l) (hy : y ∈ allE l) (h : (x.1, x.2.1) = (y.1, y.2.1)) : x = y := by
  obtain ⟨k, p, h1, h2⟩ := allE_mem.mp hx
  obtain ⟨k', p', g1, g2⟩ := allE_mem.mp hy
  obtain ⟨a, b, c⟩ := x
  obtain ⟨a', b', c'⟩ := y
  simp only [Prod.mk.injEq] at h
  obtain ⟨rfl, rfl⟩ := h
  rw [h1] at g1
  cases g1
  rw [h2] at g2
  cases g2
  rfl
theorem trains_mem {l : List Pc} {t : Tr} : t ∈ trains l ↔ ∃ k p, l[t.1]? = some (some (k, p)) ∧ (t.2.1, t.2.2) ∈ passes k := by
  unfold trains
  rw [List.mem_flatMap]
  constructor
  · rintro ⟨y, hy, hx⟩
    rw [pl_mem] at hy
    unfold trE at hx
    obtain ⟨z, hz, rfl⟩ := List.mem_map.mp hx
    exact ⟨y.2.1, y.2.2, hy, hz⟩
  · rintro ⟨k, p, h1, h2⟩
    refine ⟨(t.1, k, p), pl_mem.mpr h1, ?_⟩
    unfold trE
    exact List.mem_map.mpr ⟨(t.2.1, t.2.2), h2, rfl⟩
theorem joined_mem {l : List Pc} {p : Ps} {o : Nat × Nat} (h : joined l p = some o) : (o.1, o.2, bk p) ∈ allE l := by
  unfold joined at h
  cases e : (allE l).find? fun x => decide (x.2.2 = bk p) with
  | none => rw [e] at h; cases h
  | some x =>
    rw [e] at h
    cases h
    have h1 := List.mem_of_find?_eq_some e
    have h2 := List.find?_some e
    simp only [decide_eq_true_eq] at h2
    rw [← h2]
    exact h1
/-! ### joints -/
def atK (l : List Pc) : Kvs := (allE l).map fun x => (F5 x.2.2, pD (x.1, x.2.1))
theorem look_at (l : List Pc) (p : Ps) : lookN (atK l) (kF p) = ((allE l).find? fun x => decide (x.2.2 = p)).map fun x => pD (x.1, x.2.1) := by
  unfold atK
  induction allE l with
  | nil => rfl
  | cons x r ih =>
    unfold lookN at ih ⊢
    rw [List.map_cons, List.find?_cons, List.find?_cons]
    have : decide (keyD (F5 x.2.2) = some (kF p)) = decide (x.2.2 = p) := by
      rw [key_F5]
      by_cases c : x.2.2 = p
      · rw [c]; simp
      · have : ¬ (some (kF x.2.2) = some (kF p)) := fun z => c (kF_inj (Option.some.inj z))
        simp only [this, c, decide_false]
    rw [this]
    cases c : decide (x.2.2 = p) with
    | true => rfl
    | false => exact ih
theorem look_bk (l : List Pc) (p : Ps) : lookN (atK l) (kF (bk p)) = (joined l p).map pD := by
  rw [look_at, joined, Option.map_map]
  rfl
theorem find_own : ∀ {L : List (Nat × Nat × Ps)}, (L.map (·.2.2)).Nodup → ∀ {x}, x ∈ L → L.find? (fun y => decide (y.2.2 = x.2.2)) = some x
  | y :: r, nd, x, hx => by
    rw [List.map_cons, List.nodup_cons] at nd
    rw [List.find?_cons]
    rcases List.mem_cons.mp hx with rfl | hx
    · simp
    · have : ¬ y.2.2 = x.2.2 := fun e => nd.1 (by rw [e]; exact List.mem_map_of_mem hx)
      rw [decide_eq_false this]
      exact find_own nd.2 hx
theorem look_own (l : List Pc) (nd : (endsA l).Nodup) {x : Nat × Nat × Ps} (hx : x ∈ allE l) : lookN (atK l) (kF x.2.2) = some (pD (x.1, x.2.1)) := by
  rw [look_at, find_own (by rw [allE_pose]; exact nd) hx]
  rfl
def jW (l : List Pc) (x : Nat × Nat × Ps) : Option Wr := (joined l x.2.2).map fun o => (pD (x.1, x.2.1), kP (x.1, x.2.1), pD o)
def jts (l : List Pc) : Kvs := foldS [] ((allE l).filterMap (jW l))
theorem jts_look (l : List Pc) {x : Nat × Nat × Ps} (hx : x ∈ allE l) : lookN (jts l) (kP (x.1, x.2.1)) = (joined l x.2.2).map pD := by
  have hk : ∀ w ∈ (allE l).filterMap (jW l), keyD w.1 = some w.2.1 := by
    intro w hw
    obtain ⟨y, hy, e⟩ := List.mem_filterMap.mp hw
    unfold jW at e
    cases c : joined l y.2.2 with
    | none => rw [c] at e; cases e
    | some o => rw [c] at e; cases e; rfl
  have hv : ∀ w ∈ (allE l).filterMap (jW l), w.2.1 = kP (x.1, x.2.1) → jW l x = some w := by
    intro w hw ek
    obtain ⟨y, hy, e⟩ := List.mem_filterMap.mp hw
    have : x = y := by
      unfold jW at e
      cases c : joined l y.2.2 with
      | none => rw [c] at e; cases e
      | some o =>
        rw [c] at e
        cases e
        exact allE_uniq hx hy (kP_inj ek).symm
    rw [this]
    exact e
  unfold jts
  cases c : joined l x.2.2 with
  | none =>
    rw [foldS_miss _ _ hk (fun w hw e => by
      have := hv w hw e
      unfold jW at this
      rw [c] at this
      cases this)]
    rfl
  | some o =>
    have hw : jW l x = some (pD (x.1, x.2.1), kP (x.1, x.2.1), pD o) := by unfold jW; rw [c]; rfl
    exact foldS_hit _ _ hk (.inr ⟨_, List.mem_filterMap.mpr ⟨x, hx, hw⟩, rfl⟩) (fun w hw' e => by
      have := hv w hw' e
      rw [hw] at this
      cases this
      rfl)
theorem joints_ok (l : List Pc) (hl : l.length ≤ 1000) (nd : (endsA l).Nodup) : F_joints_in [.tuple (l.map pcD)] = some (.dict (jts l), []) := by
  have az := allE_len l
  let G : Option Ent → Option Ent → Option Ent → Option Ent → En := fun a b c d => [some (.dat (.tuple (l.map pcD))), a, b, c, d]
  have c1 : lDc [2, 3, 4] (gTp 3 (gsCons (gDat 2) (gsCons (gDat 3) (gsCons (gDat 4) gsNo)))) (wOf (fCall 1 F_ends_in (aCons (fN 0) aNil))) tYe E1_joints_in E2_joints_in (G none none none none) = some (atK l, G none none none none) := by
    have := lDc_pure (enc := rowT) (js := [2, 3, 4]) (tg := (gTp 3 (gsCons (gDat 2) (gsCons (gDat 3) (gsCons (gDat 4) gsNo))))) (src := (wOf (fCall 1 F_ends_in (aCons (fN 0) aNil)))) (tt := tYe) (kf := E1_joints_in) (vf := E2_joints_in) (γ := G none none none none) (γ1 := G none none none none) (ds := allE l)
      (fun x => some (F5 x.2.2, kF x.2.2, pD (x.1, x.2.1))) (woft_t (call_t (ds := [.tuple (l.map pcD)]) rfl rfl (ends_in_eq l hl))) (by simp [G, noOwns]) (by simp [G, wipeE]) (by simp [G, putBack, wipeE]) (fun x _ => by
        let g := G none (some (.dat (.int x.1))) (some (.dat (.int x.2.1))) (some (.dat (F5 x.2.2)))
        exact ⟨g, rfl, .inr ⟨_, g, g, g, rfl, rfl, rfl, rfl, rfl, rfl, rfl⟩⟩) (by omega)
    rw [this, fm_map, foldS_new _ _ (fun w hw => by
      obtain ⟨x, _, rfl⟩ := List.mem_map.mp hw
      rfl) (by
      rw [List.map_map]
      have : (allE l).map ((fun w : Wr => w.2.1) ∘ fun x => (F5 x.2.2, kF x.2.2, pD (x.1, x.2.1))) = (endsA l).map kF := by
        rw [← allE_pose, List.map_map]
        rfl
      rw [this]
      exact List.Pairwise.map kF (fun a b h e => h (kF_inj e)) nd) (fun w _ => rfl)]
    rw [List.nil_append, List.map_map]
    rfl
  let A : Option Ent := some (.dat (.dict (atK l)))
  have c2 : lDc [4] (gDat 4) (wKey (fN 1)) (ofB (f2m inX (fCall 1 F_back (aCons (fN 4) aNil)) 1)) E3_joints_in E4_joints_in (G A none none none) = some (jts l, G A none none none) := by
    exact lDc_pure (enc := fun x : Nat × Nat × Ps => F5 x.2.2) (js := [4]) (tg := gDat 4) (src := wKey (fN 1)) (tt := (ofB (f2m inX (fCall 1 F_back (aCons (fN 4) aNil)) 1))) (kf := E3_joints_in) (vf := E4_joints_in) (γ := G A none none none) (γ1 := G A none none none) (ds := allE l)
      (jW l) (by
        have : (atK l).map (·.1) = (allE l).map fun x : Nat × Nat × Ps => F5 x.2.2 := by unfold atK; rw [List.map_map]; rfl
        rw [← this]
        rfl) rfl rfl rfl (fun x hx => by
        let g := G A none none (some (.dat (F5 x.2.2)))
        have cb : fCall 1 F_back (aCons (fN 4) aNil) g = some (F5 (bk x.2.2), g) := call_t (ds := [F5 x.2.2]) rfl rfl (pback x.2.2)
        have ib : inX (F5 (bk x.2.2)) (.dict (atK l)) = some (.bool (joined l x.2.2).isSome) := by
          show (match keyD (F5 (bk x.2.2)) with | some k => some (PyData.bool (lookN (atK l) k).isSome) | none => none) = _
          rw [key_F5]
          show some (PyData.bool (lookN (atK l) (kF (bk x.2.2))).isSome) = _
          rw [look_bk, Option.isSome_map]
        have t : ofB (f2m inX (fCall 1 F_back (aCons (fN 4) aNil)) 1) g = some ((joined l x.2.2).isSome, g) := ofB_t (f2m_t (y := .dict (atK l)) cb rfl ib)
        refine ⟨g, rfl, ?_⟩
        unfold jW
        cases c : joined l x.2.2 with
        | none =>
          rw [c] at t
          exact .inl ⟨rfl, g, t, rfl, rfl⟩
        | some o =>
          rw [c] at t
          have v1 : ixX (.dict (atK l)) (F5 x.2.2) = some (pD (x.1, x.2.1)) := by
            show (match keyD (F5 x.2.2) with | some k => lookN (atK l) k | none => none) = _
            rw [key_F5]
            exact look_own l nd hx
          have v2 : ixX (.dict (atK l)) (F5 (bk x.2.2)) = some (pD o) := by
            show (match keyD (F5 (bk x.2.2)) with | some k => lookN (atK l) k | none => none) = _
            rw [key_F5]
            show lookN (atK l) (kF (bk x.2.2)) = _
            rw [look_bk, c]
            rfl
          exact .inr ⟨_, g, g, g, rfl, t, f2nn_t (x := .dict (atK l)) (y := F5 x.2.2) rfl rfl v1, f2n_t (x := .dict (atK l)) rfl cb rfl v2, rfl, rfl, rfl⟩) (by omega)
  refine run_d (γ0 := G none none none none) (γ := G A none none none) rfl ?_
  unfold B_joints_in
  refine (seq_nx (γ1 := G A none none none) (asg_t (d := .dict (atK l)) (γ1 := G none none none none) (by unfold fDl; rw [c1]) rfl)).trans (ret_t (by unfold fDl; rw [c2]))
/-! ### the steps' table -/
def ne : Kd → Nat
  | .s => 2
  | .h => 2
  | .c => 2
  | .p => 3
  | .q => 3
  | .x => 4
theorem ends_ne (k : Kd) (p : Ps) : (ends k p).length = ne k := by cases k <;> rfl
theorem pass_lt (k : Kd) : ∀ y ∈ passes k, y.1 < ne k ∧ y.2 < ne k := by cases k <;> decide
theorem pass_from (k : Kd) : ∀ e < ne k, ∃ y ∈ passes k, y.1 = e := by cases k <;> decide
def outE (l : List Pc) (t : Tr) : Option Ps := match l[t.1]? with
  | some (some (k, p)) => (ends k p)[t.2.2]?
  | _ => none
def hd (l : List Pc) (t : Tr) : Option (Nat × Nat) := (outE l t).bind (joined l)
def nexts (l : List Pc) (t : Tr) : List Tr := match hd l t with
  | none => []
  | some o => (trains l).filter fun s => decide ((s.1, s.2.1) = o)
theorem out_mem {l : List Pc} {t : Tr} (h : t ∈ trains l) : ∃ q, outE l t = some q ∧ (t.1, t.2.2, q) ∈ allE l := by
  obtain ⟨k, p, h1, h2⟩ := trains_mem.mp h
  have hlt := (pass_lt k _ h2).2
  rw [← ends_ne k p] at hlt
  have e : (ends k p)[t.2.2]? = some ((ends k p)[t.2.2]'hlt) := List.getElem?_eq_getElem hlt
  refine ⟨_, ?_, allE_mem.mpr ⟨k, p, h1, e⟩⟩
  unfold outE
  rw [h1]
  exact e
/-! groups -/
def lookG (kvs : Gkv) (k : NestedKey) : Option (List D) := (kvs.find? fun q => decide (keyD q.1 = some k)).map (·.2)
theorem lookG_cons (q : D × List D) (r : Gkv) (k : NestedKey) : lookG (q :: r) k = if keyD q.1 = some k then some q.2 else lookG r k := by
  unfold lookG
  rw [List.find?_cons]
  by_cases c : keyD q.1 = some k
  · rw [if_pos c, decide_eq_true c]
    rfl
  · rw [if_neg c, decide_eq_false c]
theorem lookG_put {kd x : D} {k k' : NestedKey} (hk : keyD kd = some k) : ∀ kvs : Gkv, lookG (putN kvs kd k x) k' = if k' = k then some ((lookG kvs k).getD [] ++ [x]) else lookG kvs k'
  | [] => by
    rw [putN, lookG_cons]
    by_cases e : k' = k
    · subst e
      rw [if_pos hk, if_pos rfl]
      rfl
    · have : ¬ keyD kd = some k' := fun z => e (by rw [hk] at z; exact (Option.some.inj z).symm)
      rw [if_neg this, if_neg e]
  | q :: r => by
    have ih := lookG_put (x := x) (k' := k') hk r
    rw [putN]
    by_cases c : keyD q.1 = some k
    · rw [if_pos c, lookG_cons, lookG_cons, lookG_cons, if_pos c]
      show (if keyD q.1 = some k' then some (q.2 ++ [x]) else _) = _
      by_cases e : k' = k
      · subst e
        rw [if_pos c, if_pos rfl]
        rfl
      · have : ¬ keyD q.1 = some k' := fun z => e (by rw [c] at z; exact (Option.some.inj z).symm)
        rw [if_neg this, if_neg e, if_neg this]
    · rw [if_neg c, lookG_cons, lookG_cons, lookG_cons, if_neg c, ih]
      by_cases e : k' = k
      · subst e
        rw [if_neg c, if_pos rfl, if_pos rfl]
      · rw [if_neg e, if_neg e]
theorem frozen_look (k : NestedKey) : ∀ kvs : Gkv, lookN (frozenN kvs) k = (lookG kvs k).map .list
  | [] => rfl
  | q :: r => by
    have ih := frozen_look k r
    unfold frozenN at ih ⊢
    rw [List.map_cons, look_cons, lookG_cons, ih]
    split <;> rfl
def grpS : Gkv → List Tr → Gkv
  | kvs, [] => kvs
  | kvs, t :: ts => grpS (putN kvs (pD (t.1, t.2.1)) (kP (t.1, t.2.1)) (trD t)) ts
theorem grpS_look (o : Nat × Nat) : ∀ (ts : List Tr) (kvs : Gkv), lookG (grpS kvs ts) (kP o) = if ts.filter (fun s => decide ((s.1, s.2.1) = o)) = [] then lookG kvs (kP o) else some ((lookG kvs (kP o)).getD [] ++ (ts.filter fun s => decide ((s.1, s.2.1) = o)).map trD)
  | [], kvs => by simp [grpS]
  | t :: ts, kvs => by
    have ih := grpS_look o ts (putN kvs (pD (t.1, t.2.1)) (kP (t.1, t.2.1)) (trD t))
    by_cases c : (t.1, t.2.1) = o
    · have ck : kP o = kP (t.1, t.2.1) := by rw [c]
      have ef : (t :: ts).filter (fun s => decide ((s.1, s.2.1) = o)) = t :: ts.filter (fun s => decide ((s.1, s.2.1) = o)) := by rw [List.filter_cons, if_pos (decide_eq_true c)]
      rw [grpS, ih, lookG_put (key_pD _), ef, if_pos ck, if_neg (List.cons_ne_nil _ _), ← ck]
      split
      · rename_i h
        rw [h]
        rfl
      · rw [Option.getD_some, List.map_cons, List.append_assoc]
        rfl
    · have ck : ¬ kP o = kP (t.1, t.2.1) := fun z => c (kP_inj z).symm
      have ef : (t :: ts).filter (fun s => decide ((s.1, s.2.1) = o)) = ts.filter (fun s => decide ((s.1, s.2.1) = o)) := by rw [List.filter_cons, if_neg (fun z => c (of_decide_eq_true z))]
      rw [grpS, ih, lookG_put (key_pD _), ef, if_neg ck]
theorem putN_len (kd x : D) (k : NestedKey) (n : Nat) : ∀ kvs : Gkv, (∀ kv ∈ kvs, kv.2.length ≤ n) → (putN kvs kd k x).length ≤ kvs.length + 1 ∧ ∀ kv ∈ putN kvs kd k x, kv.2.length ≤ n + 1
  | [], _ => ⟨by simp [putN], fun kv h => by
    rw [putN] at h
    rw [List.mem_singleton.mp h]
    simp⟩
  | q :: r, h => by
    obtain ⟨h1, h2⟩ := putN_len kd x k n r (fun kv hkv => h kv (by simp [hkv]))
    rw [putN]
    split
    · refine ⟨by simp, fun kv hkv => ?_⟩
      rcases List.mem_cons.mp hkv with rfl | hkv
      · have := h q (by simp)
        simp
        omega
      · have := h kv (by simp [hkv])
        omega
    · refine ⟨by simp; omega, fun kv hkv => ?_⟩
      rcases List.mem_cons.mp hkv with rfl | hkv
      · have := h kv (by simp)
        omega
      · exact h2 kv hkv
abbrev SG (L T J : D) (e4 : Option Ent) : En := [some (.dat L), some (.dat T), some (.dat J), none, e4, none, none, none, none, none]
theorem grp_run (L T J : D) : ∀ (ts : List Tr) (n : Nat) (kvs : Gkv) (e4 : Option Ent), kvs.length ≤ n → (∀ kv ∈ kvs, kv.2.length ≤ n) → n + ts.length ≤ 100000 →
    ∃ f4, grpN 4 E2_steps_table (ts.map trD) (SG L T J e4) kvs = some (grpS kvs ts, SG L T J f4) ∧ (grpS kvs ts).length ≤ n + ts.length
  | [], n, kvs, e4, h1, _, _ => ⟨e4, rfl, by simpa [grpS] using h1⟩
  | t :: ts, n, kvs, e4, h1, h2, hl => by
    rw [List.length_cons] at hl
    obtain ⟨p1, p2⟩ := putN_len (pD (t.1, t.2.1)) (trD t) (kP (t.1, t.2.1)) n kvs h2
    obtain ⟨f4, e, le⟩ := grp_run L T J ts (n + 1) (putN kvs (pD (t.1, t.2.1)) (kP (t.1, t.2.1)) (trD t)) (some (.dat (trD t))) (by omega) p2 (by omega)
    have g : gDat 4 (trD t) (SG L T J e4) = some (SG L T J (some (.dat (trD t)))) := rfl
    have kf : E2_steps_table (SG L T J (some (.dat (trD t)))) = some (pD (t.1, t.2.1), SG L T J (some (.dat (trD t)))) := rfl
    have z1 : okN kvs.length = true := by unfold okN; exact decide_eq_true (by omega)
    have z2 : (kvs.all fun kv => okN kv.2.length) = true := by
      rw [List.all_eq_true]
      intro kv hkv
      have := h2 kv hkv
      unfold okN
      exact decide_eq_true (by omega)
    refine ⟨f4, ?_, by rw [grpS, List.length_cons]; omega⟩
    rw [List.map_cons]
    simp only [grpN, g, kf, key_pD, z1, z2, Bool.and_self, if_true]
    exact e
theorem get1_t {i : Nat} {f : Fe} {γ γ1 : En} {kd : D} {k : NestedKey} {kvs kvs0 : Kvs} (hv : view γ i = some (.dict kvs0)) (hf : f γ = some (kd, γ1)) (hv1 : view γ1 i = some (.dict kvs)) (hk : keyD kd = some k) : fGet1 i f γ = some ((lookN kvs k).getD .none, γ1) := by
  simp only [fGet1, hv, hf, hv1, hk]
theorem dicPut_t {i : Nat} {f g : Fe} {γ γ1 γ2 : En} {d kd : D} {k : NestedKey} {kvs kvs0 : Kvs} {b b0 : Bool} (hf : f γ = some (d, γ1)) (h1 : gt γ1 i = some (.ow b0 (.dic kvs0))) (hg : g γ1 = some (kd, γ2)) (h2 : gt γ2 i = some (.ow b (.dic kvs))) (hk : keyD kd = some k) (hz : kvs.length ≤ 1000000) :
    sDicPut i f g γ = some (.nx (γ2.set i (some (.ow b (.dic (storeN kvs kd k d)))))) := by
  have z : okN kvs.length = true := by unfold okN; exact decide_eq_true (by omega)
  simp only [sDicPut, hf, h1, hg, h2, hk, z, if_true]
theorem fIf_t {c : Ft} {f g : Fe} {γ γ1 : En} {o : Option (D × En)} (h : c γ = some (true, γ1)) (k : f γ1 = o) : fIf c f g γ = o := by
  simp only [fIf, h, k]
theorem fIf_f {c : Ft} {f g : Fe} {γ γ1 : En} {o : Option (D × En)} (h : c γ = some (false, γ1)) (k : g γ1 = o) : fIf c f g γ = o := by
  simp only [fIf, h, k]
abbrev SS (L T J C : D) (kvs : Kvs) (e4 e6 e7 e8 e9 : Option Ent) : En := [some (.dat L), some (.dat T), some (.dat J), some (.dat C), e4, some (.ow false (.dic kvs)), e6, e7, e8, e9]
def nxW (l : List Pc) (t : Tr) : Wr := (trD t, kT t, .tuple ((nexts l t).map trD))
theorem step_row (l : List Pc) (L T : D) (t : Tr) (ht : t ∈ trains l) (kvs : Kvs) (hz : kvs.length ≤ 100000) (e4 e6 e7 e8 e9 : Option Ent) :
    ∃ f6 f7 f8 f9, L1_steps_table (SS L T (.dict (jts l)) (.dict (frozenN (grpS [] (trains l)))) kvs (some (.dat (trD t))) e6 e7 e8 e9) = some (.nx (SS L T (.dict (jts l)) (.dict (frozenN (grpS [] (trains l)))) (storeN kvs (nxW l t).1 (nxW l t).2.1 (nxW l t).2.2) (some (.dat (trD t))) f6 f7 f8 f9)) := by
  obtain ⟨q, hq, hm⟩ := out_mem ht
  have jl := jts_look l hm
  let C : D := .dict (frozenN (grpS [] (trains l)))
  let E7 : Option Ent := some (.dat (.int t.1))
  let E8 : Option Ent := some (.dat (.int t.2.1))
  let E9 : Option Ent := some (.dat (.int t.2.2))
  have s1 : sAsg (fN 4) (gTp 3 (gsCons (gDat 7) (gsCons (gDat 8) (gsCons (gDat 9) gsNo)))) (SS L T (.dict (jts l)) C kvs (some (.dat (trD t))) e6 e7 e8 e9) = some (.nx (SS L T (.dict (jts l)) C kvs (some (.dat (trD t))) e6 E7 E8 E9)) := rfl
  have g1 : fGet1 2 (fTup (aCons (fN 7) (aCons (fN 9) aNil))) (SS L T (.dict (jts l)) C kvs (some (.dat (trD t))) e6 E7 E8 E9) = some (((joined l q).map pD).getD .none, SS L T (.dict (jts l)) C kvs (some (.dat (trD t))) e6 E7 E8 E9) := by
    rw [← jl]
    exact get1_t (kd := pD (t.1, t.2.2)) rfl rfl rfl (key_pD _)
  have hh : hd l t = joined l q := by
    unfold hd
    rw [hq]
    rfl
  cases c : joined l q with
  | none =>
    rw [c] at g1
    have nx : nexts l t = [] := by unfold nexts; rw [hh, c]
    refine ⟨some (.dat .none), E7, E8, E9, ?_⟩
    unfold L1_steps_table
    refine (seq_nx s1).trans ((seq_nx (asg_t g1 rfl)).trans ?_)
    have v : fIf (ofB (f2n isNd 6 (fC .none))) (fTup aNil) (f1 tupleD (f2nn ixX 3 6)) (SS L T (.dict (jts l)) C kvs (some (.dat (trD t))) (some (.dat .none)) E7 E8 E9) = some (.tuple [], SS L T (.dict (jts l)) C kvs (some (.dat (trD t))) (some (.dat .none)) E7 E8 E9) :=
      fIf_t (ofB_t (b := true) (f2n_t (x := .none) (y := .none) rfl rfl rfl rfl)) rfl
    have := dicPut_t (i := 5) (g := fN 4) (k := kT t) (kd := trD t) v rfl rfl rfl (key_trD t) (Nat.le_trans hz (by decide))
    unfold nxW
    rw [nx]
    exact this
  | some o =>
    rw [c] at g1
    have nx : nexts l t = (trains l).filter fun s => decide ((s.1, s.2.1) = o) := by unfold nexts; rw [hh, c]
    obtain ⟨k, p, h1, h2⟩ := allE_mem.mp (joined_mem c)
    have hlt : o.2 < ne k := by
      rw [← ends_ne k p]
      exact (List.getElem?_eq_some_iff.mp h2).1
    obtain ⟨y, hy, ey⟩ := pass_from k o.2 hlt
    have hin : (o.1, y.1, y.2) ∈ (trains l).filter fun s => decide ((s.1, s.2.1) = o) := by
      rw [List.mem_filter]
      refine ⟨trains_mem.mpr ⟨k, p, h1, hy⟩, ?_⟩
      simp only [decide_eq_true_eq]
      rw [ey]
    have hne : ¬ ((trains l).filter fun s => decide ((s.1, s.2.1) = o)) = [] := fun z => by rw [z] at hin; cases hin
    have lk : ixX C (pD o) = some (.list ((nexts l t).map trD)) := by
      show (match keyD (pD o) with | some k => lookN (frozenN (grpS [] (trains l))) k | none => none) = _
      rw [key_pD]
      show lookN (frozenN (grpS [] (trains l))) (kP o) = _
      rw [frozen_look, grpS_look, if_neg hne, nx]
      rfl
    refine ⟨some (.dat (pD o)), E7, E8, E9, ?_⟩
    unfold L1_steps_table
    refine (seq_nx s1).trans ((seq_nx (asg_t g1 rfl)).trans ?_)
    have v : fIf (ofB (f2n isNd 6 (fC .none))) (fTup aNil) (f1 tupleD (f2nn ixX 3 6)) (SS L T (.dict (jts l)) C kvs (some (.dat (trD t))) (some (.dat (pD o))) E7 E8 E9) = some (.tuple ((nexts l t).map trD), SS L T (.dict (jts l)) C kvs (some (.dat (trD t))) (some (.dat (pD o))) E7 E8 E9) :=
      fIf_f (ofB_t (b := false) (f2n_t (x := pD o) (y := .none) rfl rfl rfl rfl)) (f1_t (op := tupleD) (f2nn_t (x := C) (y := pD o) rfl rfl lk) rfl)
    exact dicPut_t (i := 5) (g := fN 4) (k := kT t) (kd := trD t) v rfl rfl rfl (key_trD t) (Nat.le_trans hz (by decide))
theorem step_rows (l : List Pc) (L T : D) : ∀ (ts : List Tr) (kvs : Kvs) (e4 e6 e7 e8 e9 : Option Ent), (∀ t ∈ ts, t ∈ trains l) → kvs.length + ts.length ≤ 100000 →
    ∃ f4 f6 f7 f8 f9, forF (gDat 4) L1_steps_table (ts.map trD) (SS L T (.dict (jts l)) (.dict (frozenN (grpS [] (trains l)))) kvs e4 e6 e7 e8 e9) = some (.nx (SS L T (.dict (jts l)) (.dict (frozenN (grpS [] (trains l)))) (foldS kvs (ts.map (nxW l))) f4 f6 f7 f8 f9))
  | [], kvs, e4, e6, e7, e8, e9, _, _ => ⟨e4, e6, e7, e8, e9, rfl⟩
  | t :: ts, kvs, e4, e6, e7, e8, e9, hm, hl => by
    rw [List.length_cons] at hl
    obtain ⟨f6, f7, f8, f9, e⟩ := step_row l L T t (hm t (by simp)) kvs (by omega) (some (.dat (trD t))) e6 e7 e8 e9
    have sl := storeN_len kvs (nxW l t).1 (nxW l t).2.1 (nxW l t).2.2
    obtain ⟨g4, g6, g7, g8, g9, e2⟩ := step_rows l L T ts (storeN kvs (nxW l t).1 (nxW l t).2.1 (nxW l t).2.2) (some (.dat (trD t))) f6 f7 f8 f9 (fun x hx => hm x (by simp [hx])) (by omega)
    exact ⟨g4, g6, g7, g8, g9, (forF_nx rfl e).trans e2⟩
def tabK (l : List Pc) : Kvs := foldS [] ((trains l).map (nxW l))
theorem tab_look (l : List Pc) {t : Tr} (ht : t ∈ trains l) : lookN (tabK l) (kT t) = some (.tuple ((nexts l t).map trD)) := by
  refine foldS_hit _ _ (fun w hw => ?_) (.inr ⟨nxW l t, List.mem_map_of_mem ht, rfl⟩) (fun w hw e => ?_)
  · obtain ⟨s, _, rfl⟩ := List.mem_map.mp hw
    rfl
  · obtain ⟨s, _, rfl⟩ := List.mem_map.mp hw
    have : s = t := kT_inj e
    subst this
    rfl
theorem grp_t {i j : Nat} {src : Fa} {kf : Fe} {γ γ1 γ2 : En} {ds : List D} {kvs : Gkv} (h0 : gt γ i = none) (hi : i < γ.length) (hj : j < γ.length) (hs : src γ = some (ds, γ1)) (hg : grpN j kf ds γ1 [] = some (kvs, γ2)) (hp : pinB γ2 i = false) (hz : kvs.length ≤ 1000000) :
    sGrpN i j src kf γ = some (.nx (γ2.set i (some (.dat (.dict (frozenN kvs)))))) := by
  have z : okN kvs.length = true := by unfold okN; exact decide_eq_true (by omega)
  have n0 : (none : Option Ent).isNone = true := rfl
  simp only [sGrpN, h0, hi, hj, hs, hg, hp, z, n0, decide_true, Bool.and_self, Bool.not_false, if_true]
theorem table_ok (l : List Pc) (hl : l.length ≤ 1000) (nd : (endsA l).Nodup) : F_steps_table [.tuple (l.map pcD)] = some (.dict (tabK l), []) := by
  have tl := trains_len l
  let L : D := .tuple (l.map pcD)
  let T : D := .tuple ((trains l).map trD)
  let J : D := .dict (jts l)
  let C : D := .dict (frozenN (grpS [] (trains l)))
  obtain ⟨f4, eg, lg⟩ := grp_run L T J (trains l) 0 [] none (by simp) (fun kv h => by cases h) (by omega)
  obtain ⟨g4, g6, g7, g8, g9, es⟩ := step_rows l L T (trains l) [] f4 none none none none (fun t h => h) (by simp; omega)
  refine run_d (γ0 := [some (.dat L), none, none, none, none, none, none, none, none, none]) (γ := [some (.dat L), some (.dat T), some (.dat J), some (.dat C), g4, some (.dat (.dict (tabK l))), g6, g7, g8, g9]) rfl ?_
  unfold B_steps_table
  refine (seq_nx (asg_t (call_t (ds := [L]) (γ2 := [some (.dat L), none, none, none, none, none, none, none, none, none]) rfl rfl (ptrains l hl)) (γ2 := [some (.dat L), some (.dat T), none, none, none, none, none, none, none, none]) rfl)).trans ?_
  refine (seq_nx (asg_t (call_t (ds := [L]) (γ2 := [some (.dat L), some (.dat T), none, none, none, none, none, none, none, none]) rfl rfl (joints_ok l hl nd)) (γ2 := SG L T J none) rfl)).trans ?_
  refine (seq_nx (grp_t (γ1 := SG L T J none) rfl (by show 3 < 10; decide) (by show 4 < 10; decide) rfl eg rfl (by omega))).trans ?_
  refine (seq_nx (γ1 := SS L T J C [] f4 none none none none) rfl).trans ?_
  exact (seq_nx (for_t (ds := (trains l).map trD) (γ1 := SS L T J C [] f4 none none none none) rfl es)).trans rfl
/-! ### a train's step -/
theorem trG_lo : ∀ (r : List Pc) (i : Nat), ∀ s ∈ trG i r, i ≤ s.1 := by
  intro r i s hs
  unfold trG at hs
  obtain ⟨x, hx, hs⟩ := List.mem_flatMap.mp hs
  obtain ⟨y, hy, e⟩ := List.mem_filterMap.mp hx
  have := (idxL_mem hy).1
  cases c : y.2 with
  | none => rw [c] at e; cases e
  | some kp =>
    rw [c] at e
    cases e
    unfold trE at hs
    obtain ⟨z, _, rfl⟩ := List.mem_map.mp hs
    exact this
theorem trE_filter (n e : Nat) (k : Kd) (p : Ps) : (trE (n, k, p)).filter (fun s => decide ((s.1, s.2.1) = (n, e))) = ((passes k).filter fun y => decide (y.1 = e)).map fun y => (n, y.1, y.2) := by
  unfold trE
  rw [List.filter_map]
  congr 1
  refine List.filter_congr fun y _ => ?_
  simp
theorem trG_filter (e : Nat) : ∀ (r : List Pc) (i m : Nat) (k : Kd) (p : Ps), r[m]? = some (some (k, p)) → (trG i r).filter (fun s => decide ((s.1, s.2.1) = (i + m, e))) = ((passes k).filter fun y => decide (y.1 = e)).map fun y => (i + m, y.1, y.2)
  | x :: r, i, 0, k, p, h => by
    have hx : x = some (k, p) := by simpa using h
    subst hx
    have e1 : trG i (some (k, p) :: r) = trE (i, k, p) ++ trG (i + 1) r := rfl
    have e2 : (trG (i + 1) r).filter (fun s => decide ((s.1, s.2.1) = (i, e))) = [] := by
      rw [List.filter_eq_nil_iff]
      intro s hs
      have := trG_lo r (i + 1) s hs
      simp only [decide_eq_true_eq, Prod.mk.injEq]
      omega
    rw [Nat.add_zero, e1, List.filter_append, e2, List.append_nil]
    exact trE_filter i e k p
  | x :: r, i, m + 1, k, p, h => by
    have h' : r[m]? = some (some (k, p)) := by simpa using h
    have ih := trG_filter e r (i + 1) m k p h'
    rw [show i + 1 + m = i + (m + 1) by omega] at ih
    cases x with
    | none => exact ih
    | some kp =>
      obtain ⟨k1, p1⟩ := kp
      have e1 : trG i (some (k1, p1) :: r) = trE (i, k1, p1) ++ trG (i + 1) r := rfl
      have e2 : (trE (i, k1, p1)).filter (fun s => decide ((s.1, s.2.1) = (i + (m + 1), e))) = [] := by
        rw [List.filter_eq_nil_iff]
        intro s hs
        unfold trE at hs
        obtain ⟨z, _, rfl⟩ := List.mem_map.mp hs
        simp only [decide_eq_true_eq, Prod.mk.injEq]
        omega
      rw [e1, List.filter_append, e2, List.nil_append]
      exact ih
theorem trains_filter {l : List Pc} {n : Nat} {k : Kd} {p : Ps} (e : Nat) (h : l[n]? = some (some (k, p))) : (trains l).filter (fun s => decide ((s.1, s.2.1) = (n, e))) = ((passes k).filter fun y => decide (y.1 = e)).map fun y => (n, y.1, y.2) := by
  have := trG_filter e l 0 n k p h
  rw [Nat.zero_add] at this
  exact this
theorem nexts_sub {l : List Pc} {t s : Tr} (h : s ∈ nexts l t) : s ∈ trains l := by
  unfold nexts at h
  cases c : hd l t with
  | none => rw [c] at h; cases h
  | some o =>
    rw [c] at h
    exact (List.mem_filter.mp h).1
theorem two_at (k : Kd) : ∀ e < ne k, ((passes k).filter fun y => decide (y.1 = e)).length ≤ 2 := by cases k <;> decide
theorem hd_at {l : List Pc} {t : Tr} {o : Nat × Nat} (h : hd l t = some o) : ∃ k p, l[o.1]? = some (some (k, p)) ∧ o.2 < ne k := by
  unfold hd at h
  cases c : outE l t with
  | none => rw [c] at h; cases h
  | some q =>
    rw [c] at h
    obtain ⟨k, p, h1, h2⟩ := allE_mem.mp (joined_mem (p := q) h)
    refine ⟨k, p, h1, ?_⟩
    rw [← ends_ne k p]
    exact (List.getElem?_eq_some_iff.mp h2).1
theorem nexts_two (l : List Pc) (t : Tr) : (nexts l t).length ≤ 2 := by
  unfold nexts
  cases c : hd l t with
  | none => simp
  | some o =>
    obtain ⟨k, p, h1, h2⟩ := hd_at c
    show ((trains l).filter fun s => decide ((s.1, s.2.1) = (o.1, o.2))).length ≤ 2
    rw [trains_filter o.2 h1, List.length_map]
    exact two_at k o.2 h2
def stp (l : List Pc) (ths : List Nat) (t : Tr) : Option Tr := match nexts l t with
  | [] => none
  | [a] => some a
  | a :: b :: _ => some (if a.1 ∈ ths then b else a)
theorem stp_sub {l : List Pc} {ths : List Nat} {t s : Tr} (h : stp l ths t = some s) : s ∈ trains l := by
  unfold stp at h
  split at h
  · cases h
  · rename_i a e
    cases h
    exact nexts_sub (t := t) (by rw [e]; simp)
  · rename_i a b r e
    have : s = b ∨ s = a := by
      split at h <;> cases h
      · exact .inl rfl
      · exact .inr rfl
    rcases this with rfl | rfl
    · exact nexts_sub (t := t) (by rw [e]; simp)
    · exact nexts_sub (t := t) (by rw [e]; simp)
def oD : Option Tr → D
  | none => .none
  | some t => trD t
theorem ixDic {kvs : Kvs} {d : D} {k : NestedKey} (h : keyD d = some k) : ixX (.dict kvs) d = lookN kvs k := by
  show (match keyD d with | some k => lookN kvs k | none => none) = _
  rw [h]
theorem tr0 (t : Tr) : ixX (trD t) (.int 0) = some (I t.1) := rfl
/-! the program's -/
theorem pstep (l : List Pc) (ths : List Nat) {t : Tr} (ht : t ∈ trains l) : F_step_in [.dict (tabK l), .tuple (ths.map I), trD t] = some (oD (stp l ths t), []) := by
  let G : Option Ent → En := fun g => [some (.dat (.dict (tabK l))), some (.dat (.tuple (ths.map I))), some (.dat (trD t)), g]
  have s1 : sAsg (f2nn ixX 0 2) (gDat 3) (G none) = some (.nx (G (some (.dat (.tuple ((nexts l t).map trD)))))) := asg_t (f2nn_t (x := .dict (tabK l)) (y := trD t) rfl rfl ((ixDic (key_trD t)).trans (tab_look l ht))) rfl
  have two := nexts_two l t
  refine run_d (γ0 := G none) (γ := G (some (.dat (.tuple ((nexts l t).map trD))))) rfl ((seq_nx s1).trans ?_)
  unfold stp
  have cc : ∀ (a : Tr) (X : List D), (fIf (ofB (f2m inX (f2 ixX (f2n ixX 3 (fC (.int 0))) (fC (.int 0))) 1)) (f2n ixX 3 (fNeg (fC (.int 1)))) (f2n ixX 3 (fC (.int 0)))) (G (some (.dat (.tuple (trD a :: X))))) =
      if a.1 ∈ ths then (f2n ixX 3 (fNeg (fC (.int 1)))) (G (some (.dat (.tuple (trD a :: X))))) else (f2n ixX 3 (fC (.int 0))) (G (some (.dat (.tuple (trD a :: X))))) := fun a X => by
    have i0 : ixX (.tuple (trD a :: X)) (.int 0) = some (trD a) := ix_tuple (n := 0) rfl
    have c : ofB (f2m inX (f2 ixX (f2n ixX 3 (fC (.int 0))) (fC (.int 0))) 1) (G (some (.dat (.tuple (trD a :: X))))) = some (decide (a.1 ∈ ths), G (some (.dat (.tuple (trD a :: X))))) :=
      ofB_t (f2m_t (x := I a.1) (y := .tuple (ths.map I)) (f2_t (x := trD a) (y := .int 0) (f2n_t (x := .tuple (trD a :: X)) (y := .int 0) rfl rfl rfl i0) rfl rfl) rfl (in_ints _ _))
    by_cases h : a.1 ∈ ths
    · rw [decide_eq_true h] at c
      rw [if_pos h]
      exact fIf_t c rfl
    · rw [decide_eq_false h] at c
      rw [if_neg h]
      exact fIf_f c rfl
  have i0 : ∀ (a : Tr) (X : List D), (f2n ixX 3 (fC (.int 0))) (G (some (.dat (.tuple (trD a :: X))))) = some (trD a, G (some (.dat (.tuple (trD a :: X))))) := fun a X => f2n_t (x := .tuple (trD a :: X)) (y := .int 0) rfl rfl rfl (ix_tuple (n := 0) rfl)
  cases c : nexts l t with
  | nil => rfl
  | cons a r =>
    cases r with
    | nil =>
      refine (seq_nx (γ1 := G (some (.dat (.tuple [trD a])))) (if_f (γ1 := G (some (.dat (.tuple [trD a])))) rfl rfl)).trans (ret_t ?_)
      have := cc a []
      rw [i0] at this
      refine this.trans ?_
      split <;> rfl
    | cons b q =>
      have hq : q = [] := by
        rw [c, List.length_cons, List.length_cons] at two
        exact List.length_eq_zero_iff.mp (by omega)
      subst hq
      refine (seq_nx (γ1 := G (some (.dat (.tuple [trD a, trD b])))) (if_f (γ1 := G (some (.dat (.tuple [trD a, trD b])))) rfl rfl)).trans (ret_t ?_)
      refine (cc a [trD b]).trans ?_
      show _ = some (oD (some (if a.1 ∈ ths then b else a)), _)
      by_cases h : a.1 ∈ ths
      · rw [if_pos h, if_pos h]
        exact f2n_t (x := .tuple [trD a, trD b]) (y := .int (-1)) rfl rfl rfl rfl
      · rw [if_neg h, if_neg h]
        exact i0 a [trD b]
/-! ### where a train comes, step by step -/
def orb (l : List Pc) (ths : List Nat) (t : Tr) : Nat → Option Tr
  | 0 => some t
  | n + 1 => (orb l ths t n).bind (stp l ths)
section
variable {l : List Pc} {ths : List Nat} {t : Tr}
theorem orb_add (a : Nat) : ∀ b, orb l ths t (a + b) = (orb l ths t a).bind fun u => orb l ths u b
  | 0 => by
    show orb l ths t a = _
    cases orb l ths t a <;> rfl
  | b + 1 => by
    show (orb l ths t (a + b)).bind (stp l ths) = _
    rw [orb_add a b]
    cases orb l ths t a <;> rfl
theorem orb_mem (ht : t ∈ trains l) : ∀ {n : Nat} {u : Tr}, orb l ths t n = some u → u ∈ trains l
  | 0, u, h => by cases h; exact ht
  | n + 1, u, h => by
    unfold orb at h
    cases e : orb l ths t n with
    | none => rw [e] at h; cases h
    | some v =>
      rw [e] at h
      exact stp_sub (t := v) h
theorem orb_none {m : Nat} (h : orb l ths t m = none) (k : Nat) : orb l ths t (m + k) = none := by
  rw [orb_add, h]
  rfl
theorem orb_none' {m n : Nat} (h : orb l ths t m = none) (hn : m ≤ n) : orb l ths t n = none := by
  have := orb_none h (n - m)
  rwa [show m + (n - m) = n by omega] at this
theorem orb_shift {a : Tr} (h : orb l ths t 1 = some a) (i : Nat) : orb l ths a i = orb l ths t (i + 1) := by
  rw [Nat.add_comm i 1, orb_add, h]
  rfl
theorem orb_per {s p : Nat} (hp : 0 < p) (h : orb l ths t (s + p) = orb l ths t s) : ∀ k, orb l ths t (s + k) = orb l ths t (s + k % p) := by
  intro k
  induction k using Nat.strongRecOn with
  | ind k ih =>
    by_cases c : k < p
    · rw [Nat.mod_eq_of_lt c]
    · have e := ih (k - p) (by omega)
      rw [← Nat.mod_eq_sub_mod (by omega)] at e
      rw [← e]
      have e2 : s + k = (s + p) + (k - p) := by omega
      rw [e2, orb_add (s + p), h, ← orb_add]
/-- the train comes round: s steps before, p steps round -/
structure Cy (l : List Pc) (ths : List Nat) (t : Tr) (s p : Nat) : Prop where
  pos : 0 < p
  inj : ∀ i j, i < j → j < s + p → orb l ths t i ≠ orb l ths t j
  som : ∀ i, i < s + p → orb l ths t i ≠ none
  rnd : orb l ths t (s + p) = orb l ths t s
theorem Cy.never {s p : Nat} (c : Cy l ths t s p) (n : Nat) : orb l ths t n ≠ none := by
  by_cases h : n < s + p
  · exact c.som n h
  · have e := orb_per c.pos c.rnd (n - s)
    rw [show s + (n - s) = n by omega] at e
    rw [e]
    have := Nat.mod_lt (n - s) c.pos
    exact c.som _ (by omega)
theorem Cy.uniq {s p s' p' : Nat} (c : Cy l ths t s p) (c' : Cy l ths t s' p') : s = s' ∧ p = p' := by
  have p0 := c.pos
  have p0' := c'.pos
  have hm : s + p = s' + p' := by
    rcases Nat.lt_trichotomy (s + p) (s' + p') with h | h | h
    · exact absurd c.rnd.symm (c'.inj s (s + p) (by omega) h)
    · exact h
    · exact absurd c'.rnd.symm (c.inj s' (s' + p') (by omega) h)
  have e : orb l ths t s = orb l ths t s' := by rw [← c.rnd, hm, c'.rnd]
  have hs : s = s' := by
    rcases Nat.lt_trichotomy s s' with h | h | h
    · exact absurd e (c.inj s s' h (by omega))
    · exact h
    · exact absurd e.symm (c.inj s' s h (by omega))
  exact ⟨hs, by omega⟩
theorem Cy.shift {s p : Nat} {a : Tr} (c : Cy l ths t s p) (h : orb l ths t 1 = some a) : Cy l ths a (s - 1) p := by
  have p0 := c.pos
  have sh := orb_shift h
  by_cases hs : s = 0
  · subst hs
    have r := c.rnd
    rw [Nat.zero_add] at r
    refine ⟨p0, fun i j hij hj => ?_, fun i hi => ?_, ?_⟩
    · rw [sh, sh]
      by_cases hp : j + 1 < 0 + p
      · exact c.inj _ _ (by omega) hp
      · have : j + 1 = p := by omega
        rw [this, r]
        exact (c.inj 0 (i + 1) (by omega) (by omega)).symm
    · rw [sh]
      exact c.never _
    · rw [sh, sh]
      show orb l ths t (0 - 1 + p + 1) = orb l ths t 1
      rw [show 0 - 1 + p + 1 = p + 1 by omega, orb_add p 1, r]
      rfl
  · refine ⟨p0, fun i j hij hj => ?_, fun i hi => ?_, ?_⟩
    · rw [sh, sh]
      exact c.inj _ _ (by omega) (by omega)
    · rw [sh]
      exact c.never _
    · rw [sh, sh, show s - 1 + p + 1 = s + p by omega, show s - 1 + 1 = s by omega]
      exact c.rnd
theorem nodup_le {α : Type} [DecidableEq α] : ∀ {a b : List α}, a.Nodup → (∀ x ∈ a, x ∈ b) → a.length ≤ b.length
  | [], _, _, _ => Nat.zero_le _
  | x :: r, b, nd, h => by
    rw [List.nodup_cons] at nd
    have hx := h x (by simp)
    have := nodup_le (b := b.erase x) nd.2 fun y hy => (List.mem_erase_of_ne (fun e : y = x => nd.1 (by rw [← e]; exact hy))).mpr (h y (by simp [hy]))
    rw [List.length_erase_of_mem hx] at this
    have := List.length_pos_of_mem hx
    rw [List.length_cons]
    omega
/-- the way so far, and where the train is -/
structure Way (l : List Pc) (ths : List Nat) (t : Tr) (w : List Tr) (h : Option Tr) : Prop where
  get : ∀ i, i < w.length → w[i]? = orb l ths t i
  nd : w.Nodup
  here : h = orb l ths t w.length
theorem Way.mem {w : List Tr} {h : Option Tr} (W : Way l ths t w h) (ht : t ∈ trains l) : ∀ x ∈ w, x ∈ trains l := by
  intro x hx
  obtain ⟨i, hi, e⟩ := List.mem_iff_getElem.mp hx
  have := W.get i hi
  rw [List.getElem?_eq_getElem hi, e] at this
  exact orb_mem ht this.symm
theorem Way.step {w : List Tr} {u : Tr} (W : Way l ths t w (some u)) (hu : u ∉ w) : Way l ths t (w ++ [u]) (stp l ths u) := by
  refine ⟨fun i hi => ?_, List.nodup_append.mpr ⟨W.nd, by simp, fun a ha b hb => ?_⟩, ?_⟩
  · rw [List.length_append, List.length_singleton] at hi
    by_cases c : i < w.length
    · rw [List.getElem?_append_left c]
      exact W.get i c
    · have : i = w.length := by omega
      subst this
      rw [List.getElem?_concat_length]
      exact W.here
  · rw [List.mem_singleton.mp hb]
    exact fun e => hu (e ▸ ha)
  · rw [List.length_append, List.length_singleton, orb, ← W.here]
    rfl
def stopped (w : List Tr) (h : Option Tr) : Prop := h = none ∨ ∃ u ∈ w, h = some u
theorem Way.cy {w : List Tr} {u : Tr} (W : Way l ths t w (some u)) {s : Nat} (hs : s < w.length) (e : w[s]? = some u) : Cy l ths t s (w.length - s) := by
  have hl : s + (w.length - s) = w.length := by omega
  refine ⟨by omega, fun i j hij hj z => ?_, fun i hi z => ?_, ?_⟩
  · rw [hl] at hj
    rw [← W.get i (by omega), ← W.get j hj, List.getElem?_eq_getElem (by omega), List.getElem?_eq_getElem hj] at z
    exact List.pairwise_iff_getElem.mp W.nd i j (by omega) hj hij (Option.some.inj z)
  · rw [hl] at hi
    rw [← W.get i hi, List.getElem?_eq_getElem hi] at z
    cases z
  · rw [hl, ← W.here, ← W.get s hs, e]
end
/-! ### the way that the program goes -/
def wd (w : List Tr) : Kvs := w.map fun u => (trD u, .bool true)
theorem wd_look (u : Tr) : ∀ w : List Tr, lookN (wd w) (kT u) = if u ∈ w then some (.bool true) else none
  | [] => rfl
  | x :: r => by
    show lookN ((trD x, .bool true) :: wd r) (kT u) = _
    rw [look_cons, wd_look u r, key_trD]
    by_cases c : x = u
    · subst c
      rw [if_pos rfl, if_pos (by simp)]
    · rw [if_neg (fun z => c (kT_inj (Option.some.inj z)))]
      by_cases d : u ∈ r
      · rw [if_pos d, if_pos (by simp [d])]
      · rw [if_neg d, if_neg (by simp [d]; exact fun z => c z.symm)]
theorem wd_store {w : List Tr} {u : Tr} (h : u ∉ w) : storeN (wd w) (trD u) (kT u) (.bool true) = wd (w ++ [u]) := by
  unfold storeN
  rw [wd_look, if_neg h]
  unfold wd
  rw [List.map_append]
  rfl
theorem isNo_oD (o : Option Tr) : isNo (oD o) = o.isNone := by
  cases o with
  | none => rfl
  | some t => rfl
theorem way_run (l : List Pc) (hl : l.length ≤ 1000) (ths : List Nat) (t : Tr) (ht : t ∈ trains l) : ∀ (k n : Nat) (w : List Tr) (h : Option Tr), Way l ths t w h → (trains l).length + 1 ≤ k + w.length → k ≤ n →
    ∃ (w' : List Tr) (h' : Option Tr), Way l ths t w' h' ∧ stopped w' h' ∧ whileF (cAnd (ofB (f2n notNd 4 (fC .none))) (ofB (f2nn notInX 4 3))) L1_way_in n [some (.dat (.dict (tabK l))), some (.dat (.tuple (ths.map I))), some (.dat (trD t)), some (.ow false (.dic (wd w))), some (.dat (oD h))] =
      some (.nx [some (.dat (.dict (tabK l))), some (.dat (.tuple (ths.map I))), some (.dat (trD t)), some (.ow false (.dic (wd w'))), some (.dat (oD h'))])
  | 0, n, w, h, W, hk, _ => by
    have := nodup_le W.nd (W.mem ht)
    omega
  | k + 1, n, w, h, W, hk, hn => by
    obtain ⟨n, rfl⟩ : ∃ m, n = m + 1 := ⟨n - 1, by omega⟩
    let S : List Tr → Option Tr → En := fun w h => [some (.dat (.dict (tabK l))), some (.dat (.tuple (ths.map I))), some (.dat (trD t)), some (.ow false (.dic (wd w))), some (.dat (oD h))]
    have t1 : ofB (f2n notNd 4 (fC .none)) (S w h) = some (h.isSome, S w h) := ofB_t (f2n_t (x := oD h) (y := .none) rfl rfl rfl (by cases h <;> rfl))
    cases h with
    | none =>
      refine ⟨w, none, W, .inl rfl, ?_⟩
      have c : cAnd (ofB (f2n notNd 4 (fC .none))) (ofB (f2nn notInX 4 3)) (S w none) = some (false, S w none) := and_f t1
      show whileF _ _ (n + 1) (S w none) = _
      rw [whileF, c]
    | some u =>
      have ni : notInX (trD u) (.dict (wd w)) = some (.bool (decide (u ∉ w))) := by
        show (match keyD (trD u) with | some k => some (PyData.bool (!(lookN (wd w) k).isSome)) | none => none) = _
        rw [key_trD]
        show some (PyData.bool (!(lookN (wd w) (kT u)).isSome)) = _
        rw [wd_look]
        by_cases c : u ∈ w
        · rw [if_pos c]; simp [c]
        · rw [if_neg c]; simp [c]
      have t2 : ofB (f2nn notInX 4 3) (S w (some u)) = some (decide (u ∉ w), S w (some u)) := ofB_t (f2nn_t (x := trD u) (y := .dict (wd w)) rfl rfl ni)
      have c := and_t t1 t2
      show ∃ w' h', _ ∧ _ ∧ whileF _ _ (n + 1) (S w (some u)) = _
      by_cases hu : u ∈ w
      · rw [decide_eq_false (by simpa using hu)] at c
        exact ⟨w, some u, W, .inr ⟨u, hu, rfl⟩, by rw [whileF, c]⟩
      · rw [decide_eq_true hu] at c
        have hm := W.mem ht
        have hz := nodup_le W.nd hm
        have tl := trains_len l
        have um : u ∈ trains l := orb_mem ht W.here.symm
        have s1 : sDicPut 3 (fC (.bool true)) (fN 4) (S w (some u)) = some (.nx (S (w ++ [u]) (some u))) := by
          have := dicPut_t (i := 3) (f := fC (.bool true)) (g := fN 4) (d := .bool true) (kd := trD u) (k := kT u) (γ := S w (some u)) (γ1 := S w (some u)) (γ2 := S w (some u)) (kvs := wd w) rfl rfl rfl rfl (key_trD u) (by unfold wd; rw [List.length_map]; omega)
          rw [wd_store hu] at this
          exact this
        have s2 : sAsg (fCall 3 F_step_in (aCons (fN 0) (aCons (fN 1) (aCons (fN 4) aNil)))) (gDat 4) (S (w ++ [u]) (some u)) = some (.nx (S (w ++ [u]) (stp l ths u))) :=
          asg_t (call_t (ds := [.dict (tabK l), .tuple (ths.map I), trD u]) (γ2 := S (w ++ [u]) (some u)) rfl rfl (pstep l ths um)) rfl
        have body : L1_way_in (S w (some u)) = some (.nx (S (w ++ [u]) (stp l ths u))) := (seq_nx s1).trans s2
        obtain ⟨w', h', W', st, e⟩ := way_run l hl ths t ht k n (w ++ [u]) (stp l ths u) (W.step hu) (by rw [List.length_append, List.length_singleton]; omega) (by omega)
        refine ⟨w', h', W', st, ?_⟩
        rw [whileF, c]
        simp only [body]
        exact e
theorem way_ok (l : List Pc) (hl : l.length ≤ 1000) (ths : List Nat) (t : Tr) (ht : t ∈ trains l) : ∃ (w : List Tr) (h : Option Tr), Way l ths t w h ∧ stopped w h ∧ F_way_in [.dict (tabK l), .tuple (ths.map I), trD t] = some (.tuple [.list (w.map trD), oD h], []) := by
  have tl := trains_len l
  obtain ⟨w, h, W, st, e⟩ := way_run l hl ths t ht ((trains l).length + 1) 1000000 [] (some t) ⟨fun i hi => absurd hi (Nat.not_lt_zero _), List.nodup_nil, rfl⟩ (Nat.le_refl _) (by omega)
  have hz := nodup_le W.nd (W.mem ht)
  refine ⟨w, h, W, st, ?_⟩
  let S : List Tr → Option Tr → En := fun w h => [some (.dat (.dict (tabK l))), some (.dat (.tuple (ths.map I))), some (.dat (trD t)), some (.ow false (.dic (wd w))), some (.dat (oD h))]
  refine run_d (γ0 := [some (.dat (.dict (tabK l))), some (.dat (.tuple (ths.map I))), some (.dat (trD t)), none, none]) (γ := S w h) rfl ?_
  unfold B_way_in
  refine (seq_nx (γ1 := [some (.dat (.dict (tabK l))), some (.dat (.tuple (ths.map I))), some (.dat (trD t)), some (.ow false (.dic [])), none]) rfl).trans ?_
  refine (seq_nx (γ1 := S [] (some t)) rfl).trans ?_
  refine (seq_nx e).trans ?_
  have k : (wd w).map (·.1) = w.map trD := by unfold wd; rw [List.map_map]; rfl
  have lk : fL (lKeysn 3) (S w h) = some (.list (w.map trD), S w h) := by
    rw [← k]
    rfl
  exact ret_t (tup_t (ds := [.list (w.map trD), oD h]) (cons_t lk (cons_t (d := oD h) rfl rfl)) rfl)
/-! ### refusals, runs, cycles -/
theorem drop_t {f : Fe} {γ γ1 : En} {d : D} (h : f γ = some (d, γ1)) : sDrop f γ = some (.nx γ1) := by
  simp only [sDrop, h]
theorem eq_I (m n : Nat) : eqD (I m) (I n) = some (.bool (decide (m = n))) := by
  show some (PyData.bool (decide ((m : Int) = (n : Int)))) = _
  by_cases e : m = n
  · rw [e]; simp
  · have : ¬ ((m : Int) = (n : Int)) := by omega
    simp [e, this]
theorem eqv_trD (a b : Tr) : PyData.eqv (trD a) (trD b) = decide (a = b) := by
  obtain ⟨x, y, z⟩ := a
  obtain ⟨x', y', z'⟩ := b
  simp only [trD, PyData.eqv, PyData.eqvAll, Bool.and_true]
  by_cases h1 : x = x'
  · subst h1
    by_cases h2 : y = y'
    · subst h2
      by_cases h3 : z = z'
      · subst h3; simp
      · have : ¬ ((z : Int) = (z' : Int)) := by omega
        simp [h3, this]
    · have : ¬ ((y : Int) = (y' : Int)) := by omega
      simp [h2, this]
  · have : ¬ ((x : Int) = (x' : Int)) := by omega
    simp [h1, this]
theorem trs_lay : ∀ l : List Tr, PyData.canLayAll0 (l.map trD) = true ∧ PyData.depthAll (l.map trD) ≤ 2
  | [] => by simp [PyData.canLayAll0, PyData.depthAll]
  | x :: r => by
    obtain ⟨h1, h2⟩ := trs_lay r
    simp only [List.map_cons, trD, PyData.canLayAll0, PyData.depthAll, PyData.canLay0, PyData.depth, h1, Bool.and_self, true_and]
    omega
theorem trs_shaped (l : List Tr) : SeqAt.shaped (.list (l.map trD)) = true := by
  obtain ⟨h1, h2⟩ := trs_lay l
  unfold SeqAt.shaped
  rw [Bool.and_eq_true, decide_eq_true_eq]
  exact ⟨by simpa only [PyData.canLay0] using h1, by simp only [PyData.depth]; omega⟩
theorem trD_shaped (t : Tr) : SeqAt.shaped (trD t) = true := by simp [trD, SeqAt.shaped, PyData.canLay0, PyData.canLayAll0, PyData.depth, PyData.depthAll]
theorem ne_trD (t : Tr) : neD (trD t) (trD t) = some (.bool false) := by
  have h : neD (trD t) (trD t) = if SeqAt.shaped (trD t) && SeqAt.shaped (trD t) then some (.bool (!PyData.eqv (trD t) (trD t))) else none := rfl
  rw [h, trD_shaped, eqv_trD]
  simp
theorem not_in_trs {t : Tr} {ts : List Tr} (h : t ∈ ts) : notInX (trD t) (.tuple (ts.map trD)) = some (.bool false) := by
  have e : ((ts.map trD).any fun z => PyData.eqv z (trD t)) = true := by
    rw [List.any_eq_true]
    exact ⟨trD t, List.mem_map_of_mem h, by rw [eqv_trD]; simp⟩
  have h' : notInX (trD t) (.tuple (ts.map trD)) = if SeqAt.shaped (trD t) && SeqAt.shaped (.list (ts.map trD)) then some (.bool (!(ts.map trD).any fun z => PyData.eqv z (trD t))) else none := rfl
  rw [h', trD_shaped, trs_shaped, e]
  rfl
section
variable {l : List Pc} {ths : List Nat} {t : Tr}
theorem refuse_tr (ht : t ∈ trains l) : F_refuse_no_train [.tuple ((trains l).map trD), trD t] = some (.none, []) := by
  let G : En := [some (.dat (.tuple ((trains l).map trD))), some (.dat (trD t))]
  have b : B_refuse_no_train G = some (.nx G) := if_f (ofB_t (f2nn_t (x := trD t) (y := .tuple ((trains l).map trD)) rfl rfl (not_in_trs ht))) rfl
  have i0 : ini false 0 [.tuple ((trains l).map trD), trD t] = G := rfl
  unfold F_refuse_no_train runF
  rw [i0, b]
  rfl
theorem wrong_ok (hl : l.length ≤ 1000) (sb : ths.Sublist (tns l)) (ht : t ∈ trains l) : F__refuse_wrong [.tuple (l.map pcD), .tuple (ths.map I), trD t] = some (.none, []) := by
  let G : En := [some (.dat (.tuple (l.map pcD))), some (.dat (.tuple (ths.map I))), some (.dat (trD t))]
  have s1 : sDrop (fCall 2 F_refuse_no_turnouts (aCons (fN 0) (aCons (fN 1) aNil))) G = some (.nx G) := drop_t (call_t (ds := [.tuple (l.map pcD), .tuple (ths.map I)]) rfl rfl (refuse_ok l hl ths sb))
  have s2 : sDrop (fCall 2 F_refuse_no_train (aCons (fCall 1 F_trains_of (aCons (fN 0) aNil)) (aCons (fN 2) aNil))) G = some (.nx G) :=
    drop_t (call_t (ds := [.tuple ((trains l).map trD), trD t]) (cons_t (call_t (ds := [.tuple (l.map pcD)]) (γ2 := G) rfl rfl (ptrains l hl)) rfl) rfl (refuse_tr ht))
  have b : B__refuse_wrong G = some (.nx G) := (seq_nx s1).trans s2
  have i0 : ini false 0 [.tuple (l.map pcD), .tuple (ths.map I), trD t] = G := rfl
  unfold F__refuse_wrong runF
  rw [i0, b]
  rfl
theorem step_train_ok (hl : l.length ≤ 1000) (nd : (endsA l).Nodup) (sb : ths.Sublist (tns l)) (ht : t ∈ trains l) : F_step_train [.tuple (l.map pcD), .tuple (ths.map I), trD t] = some (oD (orb l ths t 1), []) := by
  let G : En := [some (.dat (.tuple (l.map pcD))), some (.dat (.tuple (ths.map I))), some (.dat (trD t))]
  have s1 : sDrop (fCall 3 F__refuse_wrong (aCons (fN 0) (aCons (fN 1) (aCons (fN 2) aNil)))) G = some (.nx G) := drop_t (call_t (ds := [.tuple (l.map pcD), .tuple (ths.map I), trD t]) rfl rfl (wrong_ok hl sb ht))
  exact run_d (γ0 := G) (γ := G) rfl ((seq_nx s1).trans (ret_t (call_t (ds := [.dict (tabK l), .tuple (ths.map I), trD t]) (cons_t (call_t (ds := [.tuple (l.map pcD)]) (γ2 := G) rfl rfl (table_ok l hl nd)) rfl) rfl (pstep l ths ht))))
theorem keys_of : ∀ w : List Tr, keysOf (w.map trD) = some (w.map kT)
  | [] => rfl
  | x :: r => by
    rw [List.map_cons, keysOf, keys_of r]
    rfl
theorem idx_of {w : List Tr} {u : Tr} (h : u ∈ w) : ∃ s, s < w.length ∧ w[s]? = some u ∧ (w.map kT).idxOf (kT u) = s ∧ kT u ∈ w.map kT := by
  have hm : kT u ∈ w.map kT := List.mem_map_of_mem h
  have hs := List.idxOf_lt_length_iff.mpr hm
  refine ⟨_, by rw [List.length_map] at hs; exact hs, ?_, rfl, hm⟩
  have e := List.getElem_idxOf hs
  rw [List.getElem_map] at e
  have hs' : (w.map kT).idxOf (kT u) < w.length := by rw [List.length_map] at hs; exact hs
  rw [List.getElem?_eq_getElem hs', kT_inj e]
theorem idx_t {i : Nat} {f : Fe} {γ γ1 : En} {w : List Tr} {u : Tr} {s : Nat} (hv : view γ i = some (.list (w.map trD))) (hf : f γ = some (trD u, γ1)) (hv1 : view γ1 i = some (.list (w.map trD))) (hs : (w.map kT).idxOf (kT u) = s) (hm : kT u ∈ w.map kT) : fIdx i f γ = some (I s, γ1) := by
  subst hs
  simp only [fIdx, hv, hf, hv1, keys_of, key_trD, hm, if_true]
theorem sub_I {a b : Nat} (h : b ≤ a) : subD (I a) (I b) = some (I (a - b)) := by
  show some (PyData.int ((a : Int) - (b : Int))) = some (PyData.int ((a - b : Nat) : Int))
  rw [show ((a : Int) - (b : Int)) = ((a - b : Nat) : Int) by omega]
theorem mod_I {a b : Nat} (h : 0 < b) : modD (I a) (I b) = some (I (a % b)) := by
  have : decide (0 < (b : Int)) = true := decide_eq_true (by omega)
  simp only [modD, this, if_true]
  rfl
theorem add_I (a b : Nat) : addD (I a) (I b) = some (I (a + b)) := by
  show some (PyData.int ((a : Int) + (b : Int))) = some (PyData.int ((a + b : Nat) : Int))
  rw [show ((a : Int) + (b : Int)) = ((a + b : Nat) : Int) by omega]
theorem lt_I (a b : Nat) : ltD (I a) (I b) = some (.bool (decide (a < b))) := by
  show some (PyData.bool (decide ((a : Int) < (b : Int)))) = _
  have : decide ((a : Int) < (b : Int)) = decide (a < b) := decide_eq_decide.mpr (by omega)
  rw [this]
abbrev RT (l : List Pc) (ths : List Nat) (t : Tr) (n : Nat) (e4 e5 e6 : Option Ent) : En := [some (.dat (.tuple (l.map pcD))), some (.dat (.tuple (ths.map I))), some (.dat (trD t)), some (.dat (I n)), e4, e5, e6]
theorem isN_oD {i : Nat} {γ : En} {o : Option Tr} (h : view γ i = some (oD o)) : f2n isNd i (fC .none) γ = some (.bool o.isNone, γ) :=
  f2n_t h rfl h (by cases o <;> rfl)
theorem run_ok (hl : l.length ≤ 1000) (nd : (endsA l).Nodup) (sb : ths.Sublist (tns l)) (ht : t ∈ trains l) (n : Nat) : F_run_train [.tuple (l.map pcD), .tuple (ths.map I), trD t, I n] = some (oD (orb l ths t n), []) := by
  obtain ⟨w, h, W, st, ew⟩ := way_ok l hl ths t ht
  let G := RT l ths t n
  let E4 : Option Ent := some (.dat (.list (w.map trD)))
  let E5 : Option Ent := some (.dat (oD h))
  have s1 : sDrop (fCall 3 F__refuse_wrong (aCons (fN 0) (aCons (fN 1) (aCons (fN 2) aNil)))) (G none none none) = some (.nx (G none none none)) := drop_t (call_t (ds := [.tuple (l.map pcD), .tuple (ths.map I), trD t]) rfl rfl (wrong_ok hl sb ht))
  have s2 : sAsg (fCall 3 F_way_in (aCons (fCall 1 F_steps_table (aCons (fN 0) aNil)) (aCons (fN 1) (aCons (fN 2) aNil)))) (gTp 2 (gsCons (gDat 4) (gsCons (gDat 5) gsNo))) (G none none none) = some (.nx (G E4 E5 none)) :=
    asg_t (call_t (ds := [.dict (tabK l), .tuple (ths.map I), trD t]) (γ2 := G none none none) (cons_t (call_t (ds := [.tuple (l.map pcD)]) (γ2 := G none none none) rfl rfl (table_ok l hl nd)) rfl) rfl ew) rfl
  have l4 : f1n lenD 4 (G E4 E5 none) = some (I w.length, G E4 E5 none) := f1n_t (x := .list (w.map trD)) rfl (by simp [lenD])
  have l4' : ∀ e6, f1n lenD 4 (G E4 E5 e6) = some (I w.length, G E4 E5 e6) := fun e6 => f1n_t (x := .list (w.map trD)) rfl (by simp [lenD])
  have t3 : ofB (f2n ltD 3 (f1n lenD 4)) (G E4 E5 none) = some (decide (n < w.length), G E4 E5 none) := ofB_t (f2n_t (x := I n) (y := I w.length) rfl l4 rfl (lt_I n w.length))
  have wix : ∀ i, i < w.length → ixX (.list (w.map trD)) (I i) = some (oD (orb l ths t i)) := fun i hi => by
    rw [← W.get i hi]
    exact ix_list (by rw [List.getElem?_map, List.getElem?_eq_getElem hi]; rfl)
  have i0 : ini false 3 [.tuple (l.map pcD), .tuple (ths.map I), trD t, I n] = G none none none := rfl
  by_cases c : n < w.length
  · rw [decide_eq_true c] at t3
    exact run_d i0 ((seq_nx s1).trans ((seq_nx s2).trans (seq_rt (if_t t3 (ret_t (f2nn_t (x := .list (w.map trD)) (y := I n) rfl rfl (wix n c)))))))
  · rw [decide_eq_false c] at t3
    have t4 : ofB (f2n isNd 5 (fC .none)) (G E4 E5 none) = some (h.isNone, G E4 E5 none) := ofB_t (isN_oD rfl)
    rcases st with hn | ⟨u, hu, rfl⟩
    · subst hn
      have e : orb l ths t n = none := orb_none' (W.here.symm) (by omega)
      rw [e]
      exact run_d (γ := G E4 E5 none) i0 ((seq_nx s1).trans ((seq_nx s2).trans ((seq_nx (if_f t3 rfl)).trans (seq_rt (if_t t4 rfl)))))
    · obtain ⟨s, hs, es, ei, em⟩ := idx_of hu
      have cy := W.cy hs es
      have p0 := cy.pos
      have e : orb l ths t n = orb l ths t (s + (n - s) % (w.length - s)) := by
        have := orb_per cy.pos cy.rnd (n - s)
        rw [show s + (n - s) = n by omega] at this
        exact this
      rw [e]
      let E6 : Option Ent := some (.dat (I s))
      have s6 : sAsg (fIdx 4 (fN 5)) (gDat 6) (G E4 E5 none) = some (.nx (G E4 E5 E6)) := asg_t (idx_t (w := w) (u := u) rfl rfl rfl ei em) rfl
      have lm := Nat.mod_lt (n - s) p0
      refine run_d (γ := G E4 E5 E6) i0 ((seq_nx s1).trans ((seq_nx s2).trans ((seq_nx (if_f t3 rfl)).trans ((seq_nx (if_f t4 rfl)).trans ((seq_nx s6).trans (ret_t ?_))))))
      refine f2n_t (x := .list (w.map trD)) (y := I (s + (n - s) % (w.length - s))) rfl ?_ rfl (wix _ (by omega))
      refine f2n_t (x := I s) (y := I ((n - s) % (w.length - s))) rfl ?_ rfl (add_I _ _)
      exact f2_t (f2nn_t (x := I n) (y := I s) rfl rfl (sub_I (by omega))) (f2m_t (y := I s) (l4' E6) rfl (sub_I (by omega))) (mod_I p0)
def cyD : Option (Nat × Nat) → D
  | none => .none
  | some x => pD x
/-- what cycle tells -/
def CyIs (l : List Pc) (ths : List Nat) (t : Tr) : Option (Nat × Nat) → Prop
  | none => ∃ m, m ≤ (trains l).length ∧ orb l ths t m = none
  | some x => Cy l ths t x.1 x.2 ∧ x.1 + x.2 ≤ (trains l).length
theorem cycle_ok (hl : l.length ≤ 1000) (nd : (endsA l).Nodup) (sb : ths.Sublist (tns l)) (ht : t ∈ trains l) : ∃ c, CyIs l ths t c ∧ F_cycle [.tuple (l.map pcD), .tuple (ths.map I), trD t] = some (cyD c, []) := by
  obtain ⟨w, h, W, st, ew⟩ := way_ok l hl ths t ht
  have hz := nodup_le W.nd (W.mem ht)
  let G : Option Ent → Option Ent → Option Ent → En := fun a b c => [some (.dat (.tuple (l.map pcD))), some (.dat (.tuple (ths.map I))), some (.dat (trD t)), a, b, c]
  let E4 : Option Ent := some (.dat (.list (w.map trD)))
  let E5 : Option Ent := some (.dat (oD h))
  have s1 : sDrop (fCall 3 F__refuse_wrong (aCons (fN 0) (aCons (fN 1) (aCons (fN 2) aNil)))) (G none none none) = some (.nx (G none none none)) := drop_t (call_t (ds := [.tuple (l.map pcD), .tuple (ths.map I), trD t]) rfl rfl (wrong_ok hl sb ht))
  have s2 : sAsg (fCall 3 F_way_in (aCons (fCall 1 F_steps_table (aCons (fN 0) aNil)) (aCons (fN 1) (aCons (fN 2) aNil)))) (gTp 2 (gsCons (gDat 3) (gsCons (gDat 4) gsNo))) (G none none none) = some (.nx (G E4 E5 none)) :=
    asg_t (call_t (ds := [.dict (tabK l), .tuple (ths.map I), trD t]) (γ2 := G none none none) (cons_t (call_t (ds := [.tuple (l.map pcD)]) (γ2 := G none none none) rfl rfl (table_ok l hl nd)) rfl) rfl ew) rfl
  have t4 : ofB (f2n isNd 4 (fC .none)) (G E4 E5 none) = some (h.isNone, G E4 E5 none) := ofB_t (isN_oD rfl)
  have i0 : ini false 3 [.tuple (l.map pcD), .tuple (ths.map I), trD t] = G none none none := rfl
  rcases st with hn | ⟨u, hu, rfl⟩
  · subst hn
    exact ⟨none, ⟨w.length, hz, W.here.symm⟩, run_d (γ := G E4 E5 none) i0 ((seq_nx s1).trans ((seq_nx s2).trans (seq_rt (if_t t4 rfl))))⟩
  · obtain ⟨s, hs, es, ei, em⟩ := idx_of hu
    refine ⟨some (s, w.length - s), ⟨W.cy hs es, by show s + (w.length - s) ≤ _; omega⟩, ?_⟩
    let E6 : Option Ent := some (.dat (I s))
    have s6 : sAsg (fIdx 3 (fN 4)) (gDat 5) (G E4 E5 none) = some (.nx (G E4 E5 E6)) := asg_t (idx_t (w := w) (u := u) rfl rfl rfl ei em) rfl
    have l4 : f1n lenD 3 (G E4 E5 E6) = some (I w.length, G E4 E5 E6) := f1n_t (x := .list (w.map trD)) rfl (by simp [lenD])
    refine run_d (γ := G E4 E5 E6) i0 ((seq_nx s1).trans ((seq_nx s2).trans ((seq_nx (if_f t4 rfl)).trans ((seq_nx s6).trans (ret_t ?_)))))
    exact tup_t (ds := [I s, I (w.length - s)]) (cons_t (d := I s) rfl (cons_t (f2m_t (y := I s) l4 rfl (sub_I (by omega))) rfl)) rfl
end
/-! ### the law -/
theorem rngD_nat (n : Nat) : rngD 0 n = (List.range n).map I := by
  unfold rngD
  exact List.map_congr_left fun k _ => by
    show PyData.int (0 + (k : Int)) = PyData.int (k : Int)
    rw [Int.zero_add]
theorem range_ix {n k : Nat} {f : Nat → D} (h : k < n) : ((List.range n).map f)[k]? = some (f k) := by
  rw [List.getElem?_map, List.getElem?_range h]
  rfl
abbrev LW (s : D) (B : List D) (L : D) (many : Nat) (e4 e5 e6 e7 e8 e9 e10 e11 e12 e13 e14 : Option Ent) : En := [some (.dat s), some (.ow false (.lst B)), some (.dat L), some (.dat (I many)), e4, e5, e6, e7, e8, e9, e10, e11, e12, e13, e14, none]
theorem bound_tr {l : List Pc} (hl : l.length ≤ 12) {u : Tr} (h : u ∈ trains l) : u.1 ≤ 1000 ∧ u.2.1 ≤ 1000 ∧ u.2.2 ≤ 1000 := by
  obtain ⟨k, p, h1, h2⟩ := trains_mem.mp h
  have hi := (List.getElem?_eq_some_iff.mp h1).1
  have hp := pass_lt k _ h2
  have hn : ne k ≤ 4 := by cases k <;> decide
  simp only at hp
  omega
theorem same_oD {o : Option Tr} (h : ∀ u, o = some u → u.1 ≤ 1000 ∧ u.2.1 ≤ 1000 ∧ u.2.2 ≤ 1000) : F__law_same [oD o, oD o] = some (.bool true, []) := by
  cases o with
  | none => exact same_ok (by simp [oD, Sm]) (by simp [oD, nod]) (by simp [oD, PyData.depth])
  | some u =>
    obtain ⟨h1, h2, h3⟩ := h u rfl
    refine same_ok ?_ (by simp [oD, trD, nod, nods]) (by simp [oD, trD, PyData.depth, PyData.depthAll])
    simp only [oD, trD, Sm, SmAll, and_true]
    omega
theorem same_cyD {o : Option (Nat × Nat)} (h : ∀ x, o = some x → x.1 ≤ 1000 ∧ x.2 ≤ 1000) : F__law_same [cyD o, cyD o] = some (.bool true, []) := by
  cases o with
  | none => exact same_ok (by simp [cyD, Sm]) (by simp [cyD, nod]) (by simp [cyD, PyData.depth])
  | some u =>
    obtain ⟨h1, h2⟩ := h u rfl
    refine same_ok ?_ (by simp [cyD, pD, nod, nods]) (by simp [cyD, pD, PyData.depth, PyData.depthAll])
    simp only [cyD, pD, Sm, SmAll, and_true]
    omega
def t3 (t : Tr) : List Int := [(t.1 : Int), (t.2.1 : Int), (t.2.2 : Int)]
theorem t3_inj {a b : Tr} (h : t3 a = t3 b) : a = b := by
  obtain ⟨x, y, z⟩ := a
  obtain ⟨x', y', z'⟩ := b
  simp only [t3, List.cons.injEq, and_true] at h
  have h1 : x = x' := by omega
  have h2 : y = y' := by omega
  have h3 : z = z' := by omega
  rw [h1, h2, h3]
theorem tups_of : ∀ w : List Tr, tupsOf (w.map trD) = some (w.map t3)
  | [] => rfl
  | x :: r => by
    have e : intsOf [.int (x.1 : Int), .int (x.2.1 : Int), .int (x.2.2 : Int)] = some (t3 x) := rfl
    show tupsOf (.tuple [.int (x.1 : Int), .int (x.2.1 : Int), .int (x.2.2 : Int)] :: r.map trD) = _
    rw [tupsOf, e]
    simp only [tups_of r]
    rfl
theorem isN_cyD {i : Nat} {γ : En} {o : Option (Nat × Nat)} (h : view γ i = some (cyD o)) : f2n isNd i (fC .none) γ = some (.bool o.isNone, γ) :=
  f2n_t h rfl h (by cases o <;> rfl)
theorem notN_cyD {i : Nat} {γ : En} {o : Option (Nat × Nat)} (h : view γ i = some (cyD o)) : ofB (f2n notNd i (fC .none)) γ = some (o.isSome, γ) :=
  ofB_t (f2n_t h rfl h (by cases o <;> rfl))
theorem notN_oD {i : Nat} {γ : En} {o : Option Tr} (h : view γ i = some (oD o)) : ofB (f2n notNd i (fC .none)) γ = some (o.isSome, γ) :=
  ofB_t (f2n_t h rfl h (by cases o <;> rfl))
theorem or_ff {u v : Ft} {γ γ1 γ2 : En} (h : u γ = some (false, γ1)) (k : v γ1 = some (false, γ2)) : cOr u v γ = some (false, γ2) := by
  simp only [cOr, h, k]
theorem neB_t {f g : Fe} {γ γ1 γ2 : En} {b : Bool} (h : f γ = some (.bool b, γ1)) (k : g γ1 = some (.bool b, γ2)) : ofB (f2 neD f g) γ = some (false, γ2) := by
  refine ofB_t (f2_t h k ?_)
  cases b <;> rfl
theorem draw20 {s L : D} {ds : List Int} {i : Int} {B' : List D} {d : D} {m : Int} {f : Fe} {many : Nat} {e4 e5 e6 e7 e8 e9 e10 e11 e12 e13 e14 : Option Ent} (hf : f (LW s (bx ds i) L many e4 e5 e6 e7 e8 e9 e10 e11 e12 e13 e14) = some (.int m, LW s (bx ds i) L many e4 e5 e6 e7 e8 e9 e10 e11 e12 e13 e14)) (h : F__law_draw [.list (bx ds i), .int m] = some (d, B')) :
    fCallB 2 F__law_draw 1 (aCons f aNil) (LW s (bx ds i) L many e4 e5 e6 e7 e8 e9 e10 e11 e12 e13 e14) = some (d, LW s B' L many e4 e5 e6 e7 e8 e9 e10 e11 e12 e13 e14) :=
  bor_g (ds := [.int m]) (γ1 := LW s (bx ds i) L many e4 e5 e6 e7 e8 e9 e10 e11 e12 e13 e14) rfl (cons_t hf rfl) rfl rfl h
/-- the part behind 'if told is not None' -/
abbrev S20 : Fs := (sIf (ofB (f2n notNd 7 (fC .none))) (sSeq (sAsg (f2 addD (f2n ixX 7 (fC (.int 0))) (f2n ixX 7 (fC (.int 1)))) (gDat 14))
    (sSeq (sIf (cOr (ofB (f2 ltD (f2n ixX 7 (fC (.int 0))) (fC (.int 0)))) (cOr (ofB (f2 ltD (f2n ixX 7 (fC (.int 1))) (fC (.int 1)))) (cOr (ofB (f2nn gtD 14 3)) (cOr (ofB (f2 neD (f2nn ixX 8 14) (f2n ixX 8 (f2n ixX 7 (fC (.int 0)))))) (ofB (f2m neD (fLenSet (fSln 8 pNo (pOf (fN 14)))) 14)))))) (sRet (fC (.bool false))) sNil)
    (sAsg (fTup (aCons (f2 maxD (f2 subD (f2n ixX 7 (fC (.int 0))) (fC (.int 1))) (fC (.int 0))) (aCons (f2n ixX 7 (fC (.int 1))) aNil))) (gDat 9)))) sNil)
abbrev rowD (l : List Pc) (ths : List Nat) (t : Tr) (n : Nat) : D := .list ((List.range n).map fun k => oD (orb l ths t k))
theorem row_ix {l : List Pc} {ths : List Nat} {t : Tr} {n k : Nat} (h : k < n) : ixX (rowD l ths t n) (I k) = some (oD (orb l ths t k)) := ix_list (range_ix h)
theorem s20 (s : D) (B : List D) (l : List Pc) (hl : l.length ≤ 12) (ths : List Nat) (t : Tr) (ht : t ∈ trains l) (c : Option (Nat × Nat)) (hc : CyIs l ths t c) (e4 e5 e6 e10 e11 e12 e13 e14 : Option Ent) :
    ∃ f14, S20 (LW s B (.tuple (l.map pcD)) (trains l).length e4 e5 e6 (some (.dat (cyD c))) (some (.dat (rowD l ths t ((trains l).length + 1)))) (some (.dat .none)) e10 e11 e12 e13 e14) =
      some (.nx (LW s B (.tuple (l.map pcD)) (trains l).length e4 e5 e6 (some (.dat (cyD c))) (some (.dat (rowD l ths t ((trains l).length + 1)))) (some (.dat (cyD (c.map fun x => (x.1 - 1, x.2))))) e10 e11 e12 e13 f14)) := by
  have tl := trains_len l
  let many := (trains l).length
  let E7 : Option Ent := some (.dat (cyD c))
  let E8 : Option Ent := some (.dat (rowD l ths t (many + 1)))
  have tt := notN_cyD (i := 7) (o := c) (γ := LW s B (.tuple (l.map pcD)) many e4 e5 e6 E7 E8 (some (.dat .none)) e10 e11 e12 e13 e14) rfl
  unfold S20
  cases c with
  | none => exact ⟨e14, if_f tt rfl⟩
  | some x =>
    obtain ⟨s0, p⟩ := x
    obtain ⟨cy, hm⟩ := hc
    simp only at cy hm
    have p0 := cy.pos
    let F14 : Option Ent := some (.dat (I (s0 + p)))
    let G := LW s B (.tuple (l.map pcD)) many e4 e5 e6 E7 E8 (some (.dat .none)) e10 e11 e12 e13
    have i70 : ∀ e, f2n ixX 7 (fC (.int 0)) (G e) = some (I s0, G e) := fun e => f2n_t (x := pD (s0, p)) (y := .int 0) rfl rfl rfl rfl
    have i71 : ∀ e, f2n ixX 7 (fC (.int 1)) (G e) = some (I p, G e) := fun e => f2n_t (x := pD (s0, p)) (y := .int 1) rfl rfl rfl rfl
    have s1 : sAsg (f2 addD (f2n ixX 7 (fC (.int 0))) (f2n ixX 7 (fC (.int 1)))) (gDat 14) (G e14) = some (.nx (G F14)) := asg_t (f2_t (i70 e14) (i71 e14) (add_I _ _)) rfl
    have c1 : ofB (f2 ltD (f2n ixX 7 (fC (.int 0))) (fC (.int 0))) (G F14) = some (false, G F14) := ofB_t (f2_t (y := I 0) (i70 F14) rfl ((lt_I s0 0).trans (by rw [decide_eq_false (by omega)])))
    have c2 : ofB (f2 ltD (f2n ixX 7 (fC (.int 1))) (fC (.int 1))) (G F14) = some (false, G F14) := ofB_t (f2_t (y := I 1) (i71 F14) rfl ((lt_I p 1).trans (by rw [decide_eq_false (by omega)])))
    have c3 : ofB (f2nn gtD 14 3) (G F14) = some (false, G F14) := by
      have e : gtD (I (s0 + p)) (I many) = some (.bool false) := by
        show some (PyData.bool (decide ((many : Int) < ((s0 + p : Nat) : Int)))) = _
        rw [decide_eq_false (by omega)]
      exact ofB_t (f2nn_t (x := I (s0 + p)) (y := I many) rfl rfl e)
    obtain ⟨u, hu⟩ : ∃ u, orb l ths t s0 = some u := Option.ne_none_iff_exists'.mp (cy.som s0 (by omega))
    have c4 : ofB (f2 neD (f2nn ixX 8 14) (f2n ixX 8 (f2n ixX 7 (fC (.int 0))))) (G F14) = some (false, G F14) := by
      have a1 : f2nn ixX 8 14 (G F14) = some (trD u, G F14) := by
        have := row_ix (l := l) (ths := ths) (t := t) (n := many + 1) (k := s0 + p) (by omega)
        rw [cy.rnd, hu] at this
        exact f2nn_t (x := rowD l ths t (many + 1)) (y := I (s0 + p)) rfl rfl this
      have a2 : f2n ixX 8 (f2n ixX 7 (fC (.int 0))) (G F14) = some (trD u, G F14) := by
        have := row_ix (l := l) (ths := ths) (t := t) (n := many + 1) (k := s0) (by omega)
        rw [hu] at this
        exact f2n_t (x := rowD l ths t (many + 1)) (y := I s0) rfl (i70 F14) rfl this
      exact ofB_t (f2_t a1 a2 (ne_trD u))
    have c5 : ofB (f2m neD (fLenSet (fSln 8 pNo (pOf (fN 14)))) 14) (G F14) = some (false, G F14) := by
      let ws : List Tr := (List.range (s0 + p)).filterMap (orb l ths t)
      have ew : ∀ n, n ≤ s0 + p → (List.range n).map (fun k => oD (orb l ths t k)) = ((List.range n).filterMap (orb l ths t)).map trD ∧ ((List.range n).filterMap (orb l ths t)).length = n := by
        intro n hn
        induction n with
        | zero => exact ⟨rfl, rfl⟩
        | succ n ih =>
          obtain ⟨i1, i2⟩ := ih (by omega)
          obtain ⟨v, hv⟩ : ∃ v, orb l ths t n = some v := Option.ne_none_iff_exists'.mp (cy.som n (by omega))
          rw [List.range_succ, List.map_append, List.filterMap_append, List.map_append, i1]
          refine ⟨by simp [hv, oD], ?_⟩
          rw [List.length_append, i2]
          simp [hv]
      obtain ⟨e1, e2⟩ := ew (s0 + p) (Nat.le_refl _)
      have nd : ∀ n, n ≤ s0 + p → ((List.range n).filterMap (orb l ths t)).Nodup ∧ ∀ x ∈ (List.range n).filterMap (orb l ths t), ∃ i, i < n ∧ orb l ths t i = some x := by
        intro n hn
        refine ⟨?_, fun x hx => ?_⟩
        · induction n with
          | zero => exact List.nodup_nil
          | succ n ih =>
            obtain ⟨v, hv⟩ : ∃ v, orb l ths t n = some v := Option.ne_none_iff_exists'.mp (cy.som n (by omega))
            rw [List.range_succ, List.filterMap_append]
            have e : [n].filterMap (orb l ths t) = [v] := by simp [hv]
            rw [e]
            refine List.nodup_append.mpr ⟨ih (by omega), by simp, fun a ha b hb => ?_⟩
            rw [List.mem_singleton.mp hb]
            obtain ⟨i, hi, ei⟩ := List.mem_filterMap.mp ha
            rintro rfl
            exact cy.inj i n (List.mem_range.mp hi) (by omega) (ei.trans hv.symm)
        · obtain ⟨i, hi, ei⟩ := List.mem_filterMap.mp hx
          exact ⟨i, List.mem_range.mp hi, ei⟩
      have sl : fSln 8 pNo (pOf (fN 14)) (G F14) = some (.list (((List.range (s0 + p)).filterMap (orb l ths t)).map trD), G F14) := by
        have ct := cut_take (fun k : Nat => oD (orb l ths t k)) (List.range (many + 1)) (s0 + p) (by rw [List.length_range]; omega)
        rw [List.take_range, Nat.min_eq_left (by omega), e1] at ct
        rw [← ct]
        rfl
      have hz : (((List.range (s0 + p)).filterMap (orb l ths t)).map t3).length < 64 := by rw [List.length_map, e2]; omega
      have hd : dist (((List.range (s0 + p)).filterMap (orb l ths t)).map t3) = s0 + p := by
        rw [dist_nodup (List.Pairwise.map t3 (fun a b h e => h (t3_inj e)) (nd _ (Nat.le_refl _)).1), List.length_map, e2]
      have ls : fLenSet (fSln 8 pNo (pOf (fN 14))) (G F14) = some (I (s0 + p), G F14) := by
        simp only [fLenSet, sl, tups_of, hz, if_true, hd]
      have e : neD (I (s0 + p)) (I (s0 + p)) = some (.bool false) := by
        show some (PyData.bool (!decide (((s0 + p : Nat) : Int) = ((s0 + p : Nat) : Int)))) = _
        rw [decide_eq_true rfl]
        rfl
      exact ofB_t (f2m_t (x := I (s0 + p)) (y := I (s0 + p)) ls rfl e)
    have ck := or_ff c1 (or_ff c2 (or_ff c3 (or_ff c4 c5)))
    have mx : f2 maxD (f2 subD (f2n ixX 7 (fC (.int 0))) (fC (.int 1))) (fC (.int 0)) (G F14) = some (I (s0 - 1), G F14) := by
      have e : maxD (.int ((s0 : Int) - 1)) (.int 0) = some (I (s0 - 1)) := by
        show some (PyData.int (if (0 : Int) > (s0 : Int) - 1 then 0 else (s0 : Int) - 1)) = some (PyData.int ((s0 - 1 : Nat) : Int))
        by_cases h : s0 = 0
        · subst h; rfl
        · rw [if_neg (by omega), show ((s0 - 1 : Nat) : Int) = (s0 : Int) - 1 by omega]
      exact f2_t (x := .int ((s0 : Int) - 1)) (y := .int 0) (f2_t (y := .int 1) (i70 F14) rfl rfl) rfl e
    refine ⟨F14, if_t tt ((seq_nx s1).trans ((seq_nx (if_f ck rfl)).trans (asg_t (d := pD (s0 - 1, p)) (γ1 := G F14) (tup_t (ds := [I (s0 - 1), I p]) (cons_t mx (cons_t (i71 F14) rfl)) rfl) rfl)))⟩
theorem cy_same {l : List Pc} {ths : List Nat} {t a : Tr} {c c' : Option (Nat × Nat)} (hc : CyIs l ths t c) (h : orb l ths t 1 = some a) (hc' : CyIs l ths a c') : c' = c.map fun x => (x.1 - 1, x.2) := by
  have sh := orb_shift h
  cases c with
  | none =>
    obtain ⟨m, _, hm⟩ := hc
    cases c' with
    | none => rfl
    | some x' =>
      refine absurd ?_ (hc'.1.never m)
      rw [sh]
      exact orb_none hm 1
  | some x =>
    have cs := hc.1.shift h
    cases c' with
    | none =>
      obtain ⟨m, _, hm⟩ := hc'
      exact absurd hm (cs.never m)
    | some x' =>
      obtain ⟨e1, e2⟩ := hc'.1.uniq cs
      show some x' = some (x.1 - 1, x.2)
      rw [← e1, ← e2]
theorem lap20 (s : D) (ds : List Int) (i : Int) (h0 : 0 ≤ i) (l : List Pc) (ok : Lay2 l 12) (hne : trains l ≠ []) (e4 e5 e6 e7 e8 e9 e10 e11 e12 e13 e14 : Option Ent) :
    ∃ (j : Int) (f5 f6 f7 f8 f9 f10 f11 f12 f13 f14 : Option Ent), L2_law (LW s (bx ds i) (.tuple (l.map pcD)) (trains l).length e4 e5 e6 e7 e8 e9 e10 e11 e12 e13 e14) = some (.nx (LW s (bx ds j) (.tuple (l.map pcD)) (trains l).length e4 f5 f6 f7 f8 f9 f10 f11 f12 f13 f14)) ∧ 0 ≤ j := by
  obtain ⟨o1, o2, nd⟩ := ok
  have hl : l.length ≤ 1000 := by omega
  have tl := trains_len l
  have tp : 0 < (trains l).length := List.length_pos_iff.mpr hne
  let L : D := .tuple (l.map pcD)
  let many := (trains l).length
  obtain ⟨ths, j1, p1, sb, d1⟩ := thrown_ok ds i h0 l hl
  obtain ⟨t, ht, d2⟩ := train_ok ds j1 p1 l hl hne
  obtain ⟨c, hc, ec⟩ := cycle_ok (ths := ths) hl nd sb ht
  let E5 : Option Ent := some (.dat (.tuple (ths.map I)))
  let E6 : Option Ent := some (.dat (trD t))
  let E7 : Option Ent := some (.dat (cyD c))
  let E8 : Option Ent := some (.dat (rowD l ths t (many + 1)))
  let N : Option Ent := some (.dat .none)
  let E9 : Option Ent := some (.dat (cyD (c.map fun x => (x.1 - 1, x.2))))
  let E10 : Option Ent := some (.dat (oD (orb l ths t 1)))
  have run := fun n => run_ok (ths := ths) hl nd sb ht n
  have s1 : sAsg (fCallB 2 F__law_thrown 1 (aCons (fN 2) aNil)) (gDat 5) (LW s (bx ds i) L many e4 e5 e6 e7 e8 e9 e10 e11 e12 e13 e14) = some (.nx (LW s (bx ds j1) L many e4 E5 e6 e7 e8 e9 e10 e11 e12 e13 e14)) :=
    asg_t (γ1 := LW s (bx ds j1) L many e4 e5 e6 e7 e8 e9 e10 e11 e12 e13 e14) (bor_g (ds := [L]) (γ1 := LW s (bx ds i) L many e4 e5 e6 e7 e8 e9 e10 e11 e12 e13 e14) rfl rfl rfl rfl d1) rfl
  have s2 : sAsg (fCallB 2 F__law_train 1 (aCons (fN 2) aNil)) (gDat 6) (LW s (bx ds j1) L many e4 E5 e6 e7 e8 e9 e10 e11 e12 e13 e14) = some (.nx (LW s (bx ds (j1 + 1)) L many e4 E5 E6 e7 e8 e9 e10 e11 e12 e13 e14)) :=
    asg_t (γ1 := LW s (bx ds (j1 + 1)) L many e4 E5 e6 e7 e8 e9 e10 e11 e12 e13 e14) (bor_g (ds := [L]) (γ1 := LW s (bx ds j1) L many e4 E5 e6 e7 e8 e9 e10 e11 e12 e13 e14) rfl rfl rfl rfl d2) rfl
  let G : Option Ent → Option Ent → Option Ent → Option Ent → Option Ent → Option Ent → Option Ent → Option Ent → En := fun e7 e8 e9 e10 e11 e12 e13 e14 => LW s (bx ds (j1 + 1)) L many e4 E5 E6 e7 e8 e9 e10 e11 e12 e13 e14
  have s3 : sAsg (fCall 3 F_cycle (aCons (fN 2) (aCons (fN 5) (aCons (fN 6) aNil)))) (gDat 7) (G e7 e8 e9 e10 e11 e12 e13 e14) = some (.nx (G E7 e8 e9 e10 e11 e12 e13 e14)) :=
    asg_t (call_t (ds := [L, .tuple (ths.map I), trD t]) (γ2 := G e7 e8 e9 e10 e11 e12 e13 e14) rfl rfl ec) rfl
  have s4 : sAsg (fL (lLc [15] (gDat 15) (wR1 (f2n addD 3 (fC (.int 1)))) tYe E1_law)) (gDat 8) (G E7 e8 e9 e10 e11 e12 e13 e14) = some (.nx (G E7 E8 e9 e10 e11 e12 e13 e14)) := by
    let GG : Option Ent → En := fun g => [some (.dat s), some (.ow false (.lst (bx ds (j1 + 1)))), some (.dat L), some (.dat (I many)), e4, E5, E6, E7, e8, e9, e10, e11, e12, e13, e14, g]
    have z := small_n (n := many + 1) (by omega)
    have src : wR1 (f2n addD 3 (fC (.int 1))) (GG none) = some ((List.range (many + 1)).map I, GG none) := by
      rw [← rngD_nat]
      exact wr1_t (n := ((many + 1 : Nat) : Int)) (f2n_t (x := I many) (y := I 1) rfl rfl rfl (add_I many 1)) z
    have := lLc_pure (enc := I) (js := [15]) (tg := gDat 15) (src := wR1 (f2n addD 3 (fC (.int 1)))) (tt := tYe) (elt := E1_law) (γ := GG none) (γ1 := GG none) (ds := List.range (many + 1)) (fun k => some (oD (orb l ths t k))) src (by simp [GG, noOwns]) (by simp [GG, wipeE]) (by simp [GG, putBack, wipeE]) (fun k _ => by
      exact lcs (γ0 := GG (some (.dat (I k)))) rfl (γ2 := GG (some (.dat (I k)))) (call_t (ds := [L, .tuple (ths.map I), trD t, I k]) rfl rfl (run k)) (by simp [noOwns, GG]) (by simp [wipeE, GG])) (by rw [List.length_range]; omega)
    rw [fm_map] at this
    exact asg_t (fL_t this) rfl
  have n8 : (f2 isNd (f2nn ixX 8 3) (fC .none)) (G E7 E8 e9 e10 e11 e12 e13 e14) = some (.bool (orb l ths t many).isNone, G E7 E8 e9 e10 e11 e12 e13 e14) :=
    f2_t (y := .none) (f2nn_t (x := rowD l ths t (many + 1)) (y := I many) rfl rfl (row_ix (by omega))) rfl (by cases orb l ths t many <;> rfl)
  have bn : c.isNone = (orb l ths t many).isNone := by
    cases c with
    | none =>
      obtain ⟨m, hm, e⟩ := hc
      rw [orb_none' e hm]
      rfl
    | some x =>
      obtain ⟨u, hu⟩ := Option.ne_none_iff_exists'.mp (hc.1.never many)
      rw [hu]
      rfl
  have n7 := isN_cyD (i := 7) (o := c) (γ := G E7 E8 e9 e10 e11 e12 e13 e14) rfl
  rw [bn] at n7
  have s5 : sIf (ofB (f2 neD (f2n isNd 7 (fC .none)) (f2 isNd (f2nn ixX 8 3) (fC .none)))) (sRet (fC (.bool false))) sNil (G E7 E8 e9 e10 e11 e12 e13 e14) = some (.nx (G E7 E8 e9 e10 e11 e12 e13 e14)) := if_f (neB_t n7 n8) rfl
  have s6 : sAsg (fC .none) (gDat 9) (G E7 E8 e9 e10 e11 e12 e13 e14) = some (.nx (G E7 E8 N e10 e11 e12 e13 e14)) := rfl
  obtain ⟨f14, s7⟩ := s20 s (bx ds (j1 + 1)) l o2 ths t ht c hc e4 E5 E6 e10 e11 e12 e13 e14
  have s8 : sAsg (fCall 3 F_step_train (aCons (fN 2) (aCons (fN 5) (aCons (fN 6) aNil)))) (gDat 10) (G E7 E8 E9 e10 e11 e12 e13 f14) = some (.nx (G E7 E8 E9 E10 e11 e12 e13 f14)) :=
    asg_t (call_t (ds := [L, .tuple (ths.map I), trD t]) (γ2 := G E7 E8 E9 e10 e11 e12 e13 f14) rfl rfl (step_train_ok hl nd sb ht)) rfl
  have bt : ∀ {n : Nat} (u : Tr), orb l ths t n = some u → u.1 ≤ 1000 ∧ u.2.1 ≤ 1000 ∧ u.2.2 ≤ 1000 := fun u h => bound_tr o2 (orb_mem ht h)
  have s9 : sIf (cOr (cNot (ofB (fCall 2 F__law_same (aCons (fN 10) (aCons (f2n ixX 8 (fC (.int 1))) aNil))))) (ofB (f2m neD (f2n ixX 8 (fC (.int 0))) 6))) (sRet (fC (.bool false))) sNil (G E7 E8 E9 E10 e11 e12 e13 f14) = some (.nx (G E7 E8 E9 E10 e11 e12 e13 f14)) := by
    have a1 : f2n ixX 8 (fC (.int 1)) (G E7 E8 E9 E10 e11 e12 e13 f14) = some (oD (orb l ths t 1), G E7 E8 E9 E10 e11 e12 e13 f14) := f2n_t (x := rowD l ths t (many + 1)) (y := I 1) rfl rfl rfl (row_ix (by omega))
    have a2 : f2n ixX 8 (fC (.int 0)) (G E7 E8 E9 E10 e11 e12 e13 f14) = some (trD t, G E7 E8 E9 E10 e11 e12 e13 f14) := f2n_t (x := rowD l ths t (many + 1)) (y := I 0) rfl rfl rfl (row_ix (k := 0) (by omega))
    have q1 := not_t (b := true) (ofB_t (call_t (n := 2) (F := F__law_same) (ds := [oD (orb l ths t 1), oD (orb l ths t 1)]) (fa := aCons (fN 10) (aCons (f2n ixX 8 (fC (.int 1))) aNil)) (γ := G E7 E8 E9 E10 e11 e12 e13 f14) (cons_t (d := oD (orb l ths t 1)) (γ1 := G E7 E8 E9 E10 e11 e12 e13 f14) rfl (cons_t a1 rfl)) rfl (same_oD bt)))
    exact if_f (or_ff q1 (ofB_t (f2m_t (y := trD t) a2 rfl (ne_trD t)))) rfl
  have s10 : sIf (cAnd (ofB (f2n notNd 10 (fC .none))) (cNot (ofB (fCall 2 F__law_same (aCons (fCall 3 F_cycle (aCons (fN 2) (aCons (fN 5) (aCons (fN 10) aNil)))) (aCons (fN 9) aNil)))))) (sRet (fC (.bool false))) sNil (G E7 E8 E9 E10 e11 e12 e13 f14) = some (.nx (G E7 E8 E9 E10 e11 e12 e13 f14)) := by
    have q0 := notN_oD (i := 10) (o := orb l ths t 1) (γ := G E7 E8 E9 E10 e11 e12 e13 f14) rfl
    cases ea : orb l ths t 1 with
    | none =>
      rw [ea] at q0
      exact if_f (and_f q0) rfl
    | some a =>
      rw [ea] at q0
      have ha := orb_mem (ths := ths) ht ea
      obtain ⟨c', hc', ec'⟩ := cycle_ok (ths := ths) hl nd sb ha
      have e := cy_same hc ea hc'
      rw [e] at ec'
      have hE10 : E10 = some (.dat (trD a)) := by simp only [E10, ea]; rfl
      have cl : fCall 3 F_cycle (aCons (fN 2) (aCons (fN 5) (aCons (fN 10) aNil))) (G E7 E8 E9 E10 e11 e12 e13 f14) = some (cyD (c.map fun x => (x.1 - 1, x.2)), G E7 E8 E9 E10 e11 e12 e13 f14) := by
        rw [hE10]
        exact call_t (ds := [L, .tuple (ths.map I), trD a]) rfl rfl ec'
      have bc : ∀ x, (c.map fun x => (x.1 - 1, x.2)) = some x → x.1 ≤ 1000 ∧ x.2 ≤ 1000 := fun x hx => by
        cases c with
        | none => cases hx
        | some y =>
          cases hx
          have := hc.2
          show y.1 - 1 ≤ 1000 ∧ y.2 ≤ 1000
          omega
      have q1 := not_t (b := true) (ofB_t (call_t (n := 2) (F := F__law_same) (ds := [cyD (c.map fun x => (x.1 - 1, x.2)), cyD (c.map fun x => (x.1 - 1, x.2))]) (fa := aCons (fCall 3 F_cycle (aCons (fN 2) (aCons (fN 5) (aCons (fN 10) aNil)))) (aCons (fN 9) aNil)) (γ := G E7 E8 E9 E10 e11 e12 e13 f14) (cons_t cl (cons_t (d := cyD (c.map fun x => (x.1 - 1, x.2))) rfl rfl)) rfl (same_cyD bc)))
      exact if_f (and_t q0 q1) rfl
  obtain ⟨a, d11, u1, u2⟩ := draw_ok ds (j1 + 1) ((many + 1 : Nat) : Int) (by omega) (by omega)
  obtain ⟨b, d12, v1, v2⟩ := draw_ok ds (j1 + 1 + 1) 30 (by omega) (by omega)
  obtain ⟨na, rfl⟩ : ∃ n : Nat, a = (n : Int) := ⟨a.toNat, by omega⟩
  obtain ⟨nb, rfl⟩ : ∃ n : Nat, b = (n : Int) := ⟨b.toNat, by omega⟩
  let G2 : Option Ent → Option Ent → Option Ent → En := fun e11 e12 e13 => LW s (bx ds (j1 + 1 + 1 + 1)) L many e4 E5 E6 E7 E8 E9 E10 e11 e12 e13 f14
  let E11 : Option Ent := some (.dat (I na))
  let E12 : Option Ent := some (.dat (I nb))
  have s11 : sAsg (fCallB 2 F__law_draw 1 (aCons (f2n addD 3 (fC (.int 1))) aNil)) (gDat 11) (G E7 E8 E9 E10 e11 e12 e13 f14) = some (.nx (LW s (bx ds (j1 + 1 + 1)) L many e4 E5 E6 E7 E8 E9 E10 E11 e12 e13 f14)) :=
    asg_t (γ1 := LW s (bx ds (j1 + 1 + 1)) L many e4 E5 E6 E7 E8 E9 E10 e11 e12 e13 f14) (draw20 (f2n_t (x := I many) (y := I 1) rfl rfl rfl (add_I many 1)) d11) rfl
  have s12 : sAsg (fCallB 2 F__law_draw 1 (aCons (fC (.int 30)) aNil)) (gDat 12) (LW s (bx ds (j1 + 1 + 1)) L many e4 E5 E6 E7 E8 E9 E10 E11 e12 e13 f14) = some (.nx (G2 E11 E12 e13)) :=
    asg_t (γ1 := LW s (bx ds (j1 + 1 + 1 + 1)) L many e4 E5 E6 E7 E8 E9 E10 E11 e12 e13 f14) (draw20 rfl d12) rfl
  have s13 : sAsg (fC .none) (gDat 13) (G2 E11 E12 e13) = some (.nx (G2 E11 E12 N)) := rfl
  let E13 : Option Ent := some (.dat (oD (orb l ths t (na + nb))))
  have ri : f2nn ixX 8 11 (G2 E11 E12 N) = some (oD (orb l ths t na), G2 E11 E12 N) := f2nn_t (x := rowD l ths t (many + 1)) (y := I na) rfl rfl (row_ix (by omega))
  have s14 : sIf (ofB (f2 notNd (f2nn ixX 8 11) (fC .none))) (sAsg (fCall 4 F_run_train (aCons (fN 2) (aCons (fN 5) (aCons (f2nn ixX 8 11) (aCons (fN 12) aNil))))) (gDat 13)) sNil (G2 E11 E12 N) = some (.nx (G2 E11 E12 E13)) := by
    have q0 : ofB (f2 notNd (f2nn ixX 8 11) (fC .none)) (G2 E11 E12 N) = some ((orb l ths t na).isSome, G2 E11 E12 N) := ofB_t (f2_t (y := .none) ri rfl (by cases orb l ths t na <;> rfl))
    have ad := orb_add (l := l) (ths := ths) (t := t) na nb
    cases ea : orb l ths t na with
    | none =>
      rw [ea] at q0 ad
      have : E13 = N := by
        simp only [E13, ad]
        rfl
      rw [this]
      exact if_f q0 rfl
    | some u =>
      rw [ea] at q0 ad ri
      have hu := orb_mem (ths := ths) ht ea
      have ru := run_ok (ths := ths) hl nd sb hu nb
      have e : orb l ths u nb = orb l ths t (na + nb) := ad.symm
      rw [e] at ru
      exact if_t q0 (asg_t (call_t (ds := [L, .tuple (ths.map I), trD u, I nb]) (γ2 := G2 E11 E12 N) (cons_t (d := L) rfl (cons_t (d := .tuple (ths.map I)) rfl (cons_t ri (cons_t (d := I nb) rfl rfl)))) rfl ru) rfl)
  have s15 : sIf (cNot (ofB (fCall 2 F__law_same (aCons (fCall 4 F_run_train (aCons (fN 2) (aCons (fN 5) (aCons (fN 6) (aCons (f2nn addD 11 12) aNil))))) (aCons (fN 13) aNil))))) (sRet (fC (.bool false))) sNil (G2 E11 E12 E13) = some (.nx (G2 E11 E12 E13)) :=
    same_if (γ1 := G2 E11 E12 E13) (call_t (ds := [L, .tuple (ths.map I), trD t, I (na + nb)]) (γ2 := G2 E11 E12 E13) (cons_t (d := L) rfl (cons_t (d := .tuple (ths.map I)) rfl (cons_t (d := trD t) rfl (cons_t (f2nn_t (x := I na) (y := I nb) rfl rfl (add_I na nb)) rfl)))) rfl (run (na + nb))) rfl (same_oD bt)
  refine ⟨j1 + 1 + 1 + 1, E5, E6, E7, E8, E9, E10, E11, E12, E13, f14, ?_, by omega⟩
  unfold L2_law
  exact (seq_nx s1).trans ((seq_nx s2).trans ((seq_nx s3).trans ((seq_nx s4).trans ((seq_nx s5).trans ((seq_nx s6).trans ((seq_nx s7).trans ((seq_nx s8).trans ((seq_nx s9).trans ((seq_nx s10).trans ((seq_nx s11).trans ((seq_nx s12).trans ((seq_nx s13).trans ((seq_nx s14).trans s15)))))))))))))
theorem laps20 (s : D) (ds : List Int) (l : List Pc) (ok : Lay2 l 12) (hne : trains l ≠ []) : ∀ (ks : List D) (i : Int) (e4 e5 e6 e7 e8 e9 e10 e11 e12 e13 e14 : Option Ent), 0 ≤ i →
    ∃ (j : Int) (f4 f5 f6 f7 f8 f9 f10 f11 f12 f13 f14 : Option Ent), forF (gDat 4) L2_law ks (LW s (bx ds i) (.tuple (l.map pcD)) (trains l).length e4 e5 e6 e7 e8 e9 e10 e11 e12 e13 e14) = some (.nx (LW s (bx ds j) (.tuple (l.map pcD)) (trains l).length f4 f5 f6 f7 f8 f9 f10 f11 f12 f13 f14))
  | [], i, e4, e5, e6, e7, e8, e9, e10, e11, e12, e13, e14, _ => ⟨i, e4, e5, e6, e7, e8, e9, e10, e11, e12, e13, e14, rfl⟩
  | k :: ks, i, e4, e5, e6, e7, e8, e9, e10, e11, e12, e13, e14, h0 => by
    obtain ⟨j, f5, f6, f7, f8, f9, f10, f11, f12, f13, f14, e, j0⟩ := lap20 s ds i h0 l ok hne (some (.dat k)) e5 e6 e7 e8 e9 e10 e11 e12 e13 e14
    obtain ⟨j2, g4, g5, g6, g7, g8, g9, g10, g11, g12, g13, g14, e2⟩ := laps20 s ds l ok hne ks j (some (.dat k)) f5 f6 f7 f8 f9 f10 f11 f12 f13 f14 j0
    exact ⟨j2, g4, g5, g6, g7, g8, g9, g10, g11, g12, g13, g14, (forF_nx rfl e).trans e2⟩
theorem law_true (ns : List Int) (_ : ns.length ≤ 63) : ∃ out, F_law [scriptD ns] = some (.bool true, out) := by
  obtain ⟨ds, ed⟩ := digits_ok ns
  let s : D := scriptD ns
  obtain ⟨j1, l, l1, i1, ok⟩ := layout_ok ds 0 (by omega)
  have hl : l.length ≤ 1000 := by have := ok.2.1; omega
  let L : D := .tuple (l.map pcD)
  let many := (trains l).length
  have lt := ltrains l hl
  let X : Option Ent := none
  let G0 : En := [some (.dat s), X, X, X, X, X, X, X, X, X, X, X, X, X, X, X]
  have s1 : sOwn 1 (lDisp (aCons (fCall 3 F__law_digits (aCons (fN 0) (aCons (fC (.int 0)) (aCons (fC (.int 60)) aNil)))) (aCons (fC (.int 0)) aNil))) G0 = some (.nx [some (.dat s), some (.ow false (.lst (bx ds 0))), X, X, X, X, X, X, X, X, X, X, X, X, X, X]) := by
    have c : fCall 3 F__law_digits (aCons (fN 0) (aCons (fC (.int 0)) (aCons (fC (.int 60)) aNil))) G0 = some (.list (ds.map .int), G0) := call_t (ds := [s, .int 0, .int 60]) rfl rfl ed
    unfold sOwn lDisp
    rw [cons_t c (cons_t (d := .int 0) rfl rfl)]
    rfl
  have s2 : sAsg (fCallB 2 F__law_layout 1 (aCons (fC (.int 12)) aNil)) (gDat 2) [some (.dat s), some (.ow false (.lst (bx ds 0))), X, X, X, X, X, X, X, X, X, X, X, X, X, X] = some (.nx [some (.dat s), some (.ow false (.lst (bx ds j1))), some (.dat L), X, X, X, X, X, X, X, X, X, X, X, X, X]) :=
    asg_t (γ1 := [some (.dat s), some (.ow false (.lst (bx ds j1))), X, X, X, X, X, X, X, X, X, X, X, X, X, X]) (bor_g (ds := [.int 12]) (γ1 := [some (.dat s), some (.ow false (.lst (bx ds 0))), X, X, X, X, X, X, X, X, X, X, X, X, X, X]) rfl rfl rfl rfl l1) rfl
  have ln : lenD (.list ((trains l).map trD)) = some (I many) := by
    show some (PyData.int (((trains l).map trD).length : Int)) = _
    rw [List.length_map]
  have s3 : sAsg (f1 lenD (fCall 1 F__law_trains (aCons (fN 2) aNil))) (gDat 3) [some (.dat s), some (.ow false (.lst (bx ds j1))), some (.dat L), X, X, X, X, X, X, X, X, X, X, X, X, X] = some (.nx (LW s (bx ds j1) L many X X X X X X X X X X X)) :=
    asg_t (f1_t (op := lenD) (call_t (ds := [L]) (γ2 := [some (.dat s), some (.ow false (.lst (bx ds j1))), some (.dat L), X, X, X, X, X, X, X, X, X, X, X, X, X]) rfl rfl lt) ln) rfl
  have ei : ini false 15 [scriptD ns] = G0 := rfl
  have gt0 : gtD (I many) (.int 0) = some (.bool (decide (0 < many))) := by
    show some (PyData.bool (decide ((0 : Int) < (many : Int)))) = _
    have : decide ((0 : Int) < (many : Int)) = decide (0 < many) := decide_eq_decide.mpr (by omega)
    rw [this]
  have src : ∃ n : Nat, (many = 0 → n = 0) ∧ wR1 (f2 mulD (fC (.int 3)) (f1 intD (f2n gtD 3 (fC (.int 0))))) (LW s (bx ds j1) L many X X X X X X X X X X X) = some (rngD 0 n, LW s (bx ds j1) L many X X X X X X X X X X X) := by
    have g : f2n gtD 3 (fC (.int 0)) (LW s (bx ds j1) L many X X X X X X X X X X X) = some (.bool (decide (0 < many)), LW s (bx ds j1) L many X X X X X X X X X X X) := f2n_t (x := I many) (y := .int 0) rfl rfl rfl gt0
    by_cases c : 0 < many
    · rw [decide_eq_true c] at g
      exact ⟨3, fun z => by omega, wr1_t (n := 3) (f2_t (x := .int 3) (y := .int 1) rfl (f1_t (op := intD) g rfl) rfl) (by decide)⟩
    · rw [decide_eq_false c] at g
      exact ⟨0, fun _ => rfl, wr1_t (n := 0) (f2_t (x := .int 3) (y := .int 0) rfl (f1_t (op := intD) g rfl) rfl) (by decide)⟩
  obtain ⟨n, hn, src⟩ := src
  have loop : ∃ γ, forF (gDat 4) L2_law (rngD 0 n) (LW s (bx ds j1) L many X X X X X X X X X X X) = some (.nx γ) := by
    by_cases c : trains l = []
    · have : many = 0 := by show (trains l).length = 0; rw [c]; rfl
      rw [hn this]
      exact ⟨_, rfl⟩
    · obtain ⟨j, f4, f5, f6, f7, f8, f9, f10, f11, f12, f13, f14, e⟩ := laps20 s ds l ok c (rngD 0 n) j1 X X X X X X X X X X X i1
      exact ⟨_, e⟩
  obtain ⟨γ, e⟩ := loop
  exact ⟨[], run_d ei ((seq_nx s1).trans ((seq_nx s2).trans ((seq_nx s3).trans ((seq_nx (for_t src e)).trans rfl))))⟩
/-! ### what the top has written -/
theorem all_mk {l : PySem.W.OpenLaw} {w : World} {K : PySem.W.Frag} {h : Heap} {mg : Str → Option Value} {fa : Addr} (KX : K.In h) (G : h.Ns mainGlobals mg) (hfa : mg "law" = some (.ref fa))
    {od__law_turned an__law_turned : Option Addr} {sl__law_turned : Array (Option Value)} {oc__law_turned kV__law_turned dc__law_turned pm__law_turned cd__law_turned ct__law_turned : Value} {f__law_turned : Addr} {od__law_laid an__law_laid : Option Addr} {sl__law_laid : Array (Option Value)} {oc__law_laid kV__law_laid dc__law_laid pm__law_laid cd__law_laid ct__law_laid : Value} {f__law_laid : Addr} {od__law_lead an__law_lead : Option Addr} {sl__law_lead : Array (Option Value)} {oc__law_lead kV__law_lead dc__law_lead pm__law_lead cd__law_lead ct__law_lead : Value} {f__law_lead : Addr} {od__law_back an__law_back : Option Addr} {sl__law_back : Array (Option Value)} {oc__law_back kV__law_back dc__law_back pm__law_back cd__law_back ct__law_back : Value} {f__law_back : Addr} {od__law_draw an__law_draw : Option Addr} {sl__law_draw : Array (Option Value)} {oc__law_draw kV__law_draw dc__law_draw pm__law_draw cd__law_draw ct__law_draw : Value} {f__law_draw : Addr} {od__law_pieces an__law_pieces : Option Addr} {sl__law_pieces : Array (Option Value)} {oc__law_pieces kV__law_pieces dc__law_pieces pm__law_pieces cd__law_pieces ct__law_pieces : Value} {f__law_pieces : Addr} {od__law_ends an__law_ends : Option Addr} {sl__law_ends : Array (Option Value)} {oc__law_ends kV__law_ends dc__law_ends pm__law_ends cd__law_ends ct__law_ends : Value} {f__law_ends : Addr} {od__law_seen an__law_seen : Option Addr} {sl__law_seen : Array (Option Value)} {oc__law_seen kV__law_seen dc__law_seen pm__law_seen cd__law_seen ct__law_seen : Value} {f__law_seen : Addr} {od__law_attached an__law_attached : Option Addr} {sl__law_attached : Array (Option Value)} {oc__law_attached kV__law_attached dc__law_attached pm__law_attached cd__law_attached ct__law_attached : Value} {f__law_attached : Addr} {od__law_all_ends an__law_all_ends : Option Addr} {sl__law_all_ends : Array (Option Value)} {oc__law_all_ends kV__law_all_ends dc__law_all_ends pm__law_all_ends cd__law_all_ends ct__law_all_ends : Value} {f__law_all_ends : Addr} {od__law_can_lie an__law_can_lie : Option Addr} {sl__law_can_lie : Array (Option Value)} {oc__law_can_lie kV__law_can_lie dc__law_can_lie pm__law_can_lie cd__law_can_lie ct__law_can_lie : Value} {f__law_can_lie : Addr} {od__law_joined an__law_joined : Option Addr} {sl__law_joined : Array (Option Value)} {oc__law_joined kV__law_joined dc__law_joined pm__law_joined cd__law_joined ct__law_joined : Value} {f__law_joined : Addr} {od__law_layout an__law_layout : Option Addr} {sl__law_layout : Array (Option Value)} {oc__law_layout kV__law_layout dc__law_layout pm__law_layout cd__law_layout ct__law_layout : Value} {f__law_layout : Addr} {od__law_cell an__law_cell : Option Addr} {sl__law_cell : Array (Option Value)} {oc__law_cell kV__law_cell dc__law_cell pm__law_cell cd__law_cell ct__law_cell : Value} {f__law_cell : Addr} {od__law_digits an__law_digits : Option Addr} {sl__law_digits : Array (Option Value)} {oc__law_digits kV__law_digits dc__law_digits pm__law_digits cd__law_digits ct__law_digits : Value} {f__law_digits : Addr} {od__law_passes an__law_passes : Option Addr} {sl__law_passes : Array (Option Value)} {oc__law_passes kV__law_passes dc__law_passes pm__law_passes cd__law_passes ct__law_passes : Value} {f__law_passes : Addr} {od__law_trains an__law_trains : Option Addr} {sl__law_trains : Array (Option Value)} {oc__law_trains kV__law_trains dc__law_trains pm__law_trains cd__law_trains ct__law_trains : Value} {f__law_trains : Addr} {od__law_turnouts an__law_turnouts : Option Addr} {sl__law_turnouts : Array (Option Value)} {oc__law_turnouts kV__law_turnouts dc__law_turnouts pm__law_turnouts cd__law_turnouts ct__law_turnouts : Value} {f__law_turnouts : Addr} {od__law_thrown an__law_thrown : Option Addr} {sl__law_thrown : Array (Option Value)} {oc__law_thrown kV__law_thrown dc__law_thrown pm__law_thrown cd__law_thrown ct__law_thrown : Value} {f__law_thrown : Addr} {od__law_train an__law_train : Option Addr} {sl__law_train : Array (Option Value)} {oc__law_train kV__law_train dc__law_train pm__law_train cd__law_train ct__law_train : Value} {f__law_train : Addr} {od_turnouts_in an_turnouts_in : Option Addr} {sl_turnouts_in : Array (Option Value)} {oc_turnouts_in kV_turnouts_in dc_turnouts_in pm_turnouts_in cd_turnouts_in ct_turnouts_in : Value} {f_turnouts_in : Addr} {od_refuse_no_turnouts an_refuse_no_turnouts : Option Addr} {sl_refuse_no_turnouts : Array (Option Value)} {oc_refuse_no_turnouts kV_refuse_no_turnouts dc_refuse_no_turnouts pm_refuse_no_turnouts cd_refuse_no_turnouts ct_refuse_no_turnouts : Value} {f_refuse_no_turnouts : Addr} {od_refuse_no_train an_refuse_no_train : Option Addr} {sl_refuse_no_train : Array (Option Value)} {oc_refuse_no_train kV_refuse_no_train dc_refuse_no_train pm_refuse_no_train cd_refuse_no_train ct_refuse_no_train : Value} {f_refuse_no_train : Addr} {od_trains_of an_trains_of : Option Addr} {sl_trains_of : Array (Option Value)} {oc_trains_of kV_trains_of dc_trains_of pm_trains_of cd_trains_of ct_trains_of : Value} {f_trains_of : Addr} {od__refuse_wrong an__refuse_wrong : Option Addr} {sl__refuse_wrong : Array (Option Value)} {oc__refuse_wrong kV__refuse_wrong dc__refuse_wrong pm__refuse_wrong cd__refuse_wrong ct__refuse_wrong : Value} {f__refuse_wrong : Addr} {od_step_in an_step_in : Option Addr} {sl_step_in : Array (Option Value)} {oc_step_in kV_step_in dc_step_in pm_step_in cd_step_in ct_step_in : Value} {f_step_in : Addr} {od_way_in an_way_in : Option Addr} {sl_way_in : Array (Option Value)} {oc_way_in kV_way_in dc_way_in pm_way_in cd_way_in ct_way_in : Value} {f_way_in : Addr} {od_back an_back : Option Addr} {sl_back : Array (Option Value)} {oc_back kV_back dc_back pm_back cd_back ct_back : Value} {f_back : Addr} {od_moved an_moved : Option Addr} {sl_moved : Array (Option Value)} {oc_moved kV_moved dc_moved pm_moved cd_moved ct_moved : Value} {f_moved : Addr} {od_turned an_turned : Option Addr} {sl_turned : Array (Option Value)} {oc_turned kV_turned dc_turned pm_turned cd_turned ct_turned : Value} {f_turned : Addr} {od_laid an_laid : Option Addr} {sl_laid : Array (Option Value)} {oc_laid kV_laid dc_laid pm_laid cd_laid ct_laid : Value} {f_laid : Addr} {od_ends_of an_ends_of : Option Addr} {sl_ends_of : Array (Option Value)} {oc_ends_of kV_ends_of dc_ends_of pm_ends_of cd_ends_of ct_ends_of : Value} {f_ends_of : Addr} {od_ends_in an_ends_in : Option Addr} {sl_ends_in : Array (Option Value)} {oc_ends_in kV_ends_in dc_ends_in pm_ends_in cd_ends_in ct_ends_in : Value} {f_ends_in : Addr} {od_joints_in an_joints_in : Option Addr} {sl_joints_in : Array (Option Value)} {oc_joints_in kV_joints_in dc_joints_in pm_joints_in cd_joints_in ct_joints_in : Value} {f_joints_in : Addr} {od_steps_table an_steps_table : Option Addr} {sl_steps_table : Array (Option Value)} {oc_steps_table kV_steps_table dc_steps_table pm_steps_table cd_steps_table ct_steps_table : Value} {f_steps_table : Addr} {od_cycle an_cycle : Option Addr} {sl_cycle : Array (Option Value)} {oc_cycle kV_cycle dc_cycle pm_cycle cd_cycle ct_cycle : Value} {f_cycle : Addr} {od_step_train an_step_train : Option Addr} {sl_step_train : Array (Option Value)} {oc_step_train kV_step_train dc_step_train pm_step_train cd_step_train ct_step_train : Value} {f_step_train : Addr} {od_run_train an_run_train : Option Addr} {sl_run_train : Array (Option Value)} {oc_run_train kV_run_train dc_run_train pm_run_train cd_run_train ct_run_train : Value} {f_run_train : Addr} {od__law_same an__law_same : Option Addr} {sl__law_same : Array (Option Value)} {oc__law_same kV__law_same dc__law_same pm__law_same cd__law_same ct__law_same : Value} {f__law_same : Addr} {od_law an_law : Option Addr} {sl_law : Array (Option Value)} {oc_law kV_law dc_law pm_law cd_law ct_law : Value} {f_law : Addr} {u_ENDS_AHEAD : Value} {u_PASSES : Value}
    (a__law_turned : PySem.W.nsIn K mainGlobals "_law_turned" = some (some (.ref f__law_turned))) (l__law_turned : K.lookup f__law_turned = some ⟨oc__law_turned, od__law_turned, .func (PySem.W.fnOf "_law_turned" "_law_turned" (defArgs s__law_turned) (defBody s__law_turned) (defScope s__law_turned) .none kV__law_turned dc__law_turned pm__law_turned an__law_turned cd__law_turned ct__law_turned), sl__law_turned⟩) (c__law_turned : PySem.W.codeIn K cd__law_turned "_law_turned" = true) (k__law_turned : PySem.W.keepIn K (.ref f__law_turned) = true)
    (a__law_laid : PySem.W.nsIn K mainGlobals "_law_laid" = some (some (.ref f__law_laid))) (l__law_laid : K.lookup f__law_laid = some ⟨oc__law_laid, od__law_laid, .func (PySem.W.fnOf "_law_laid" "_law_laid" (defArgs s__law_laid) (defBody s__law_laid) (defScope s__law_laid) .none kV__law_laid dc__law_laid pm__law_laid an__law_laid cd__law_laid ct__law_laid), sl__law_laid⟩) (c__law_laid : PySem.W.codeIn K cd__law_laid "_law_laid" = true) (k__law_laid : PySem.W.keepIn K (.ref f__law_laid) = true)
    (a__law_lead : PySem.W.nsIn K mainGlobals "_law_lead" = some (some (.ref f__law_lead))) (l__law_lead : K.lookup f__law_lead = some ⟨oc__law_lead, od__law_lead, .func (PySem.W.fnOf "_law_lead" "_law_lead" (defArgs s__law_lead) (defBody s__law_lead) (defScope s__law_lead) .none kV__law_lead dc__law_lead pm__law_lead an__law_lead cd__law_lead ct__law_lead), sl__law_lead⟩) (c__law_lead : PySem.W.codeIn K cd__law_lead "_law_lead" = true) (k__law_lead : PySem.W.keepIn K (.ref f__law_lead) = true)
    (a__law_back : PySem.W.nsIn K mainGlobals "_law_back" = some (some (.ref f__law_back))) (l__law_back : K.lookup f__law_back = some ⟨oc__law_back, od__law_back, .func (PySem.W.fnOf "_law_back" "_law_back" (defArgs s__law_back) (defBody s__law_back) (defScope s__law_back) .none kV__law_back dc__law_back pm__law_back an__law_back cd__law_back ct__law_back), sl__law_back⟩) (c__law_back : PySem.W.codeIn K cd__law_back "_law_back" = true) (k__law_back : PySem.W.keepIn K (.ref f__law_back) = true)
    (a__law_draw : PySem.W.nsIn K mainGlobals "_law_draw" = some (some (.ref f__law_draw))) (l__law_draw : K.lookup f__law_draw = some ⟨oc__law_draw, od__law_draw, .func (PySem.W.fnOf "_law_draw" "_law_draw" (defArgs s__law_draw) (defBody s__law_draw) (defScope s__law_draw) .none kV__law_draw dc__law_draw pm__law_draw an__law_draw cd__law_draw ct__law_draw), sl__law_draw⟩) (c__law_draw : PySem.W.codeIn K cd__law_draw "_law_draw" = true) (k__law_draw : PySem.W.keepIn K (.ref f__law_draw) = true)
    (a__law_pieces : PySem.W.nsIn K mainGlobals "_law_pieces" = some (some (.ref f__law_pieces))) (l__law_pieces : K.lookup f__law_pieces = some ⟨oc__law_pieces, od__law_pieces, .func (PySem.W.fnOf "_law_pieces" "_law_pieces" (defArgs s__law_pieces) (defBody s__law_pieces) (defScope s__law_pieces) .none kV__law_pieces dc__law_pieces pm__law_pieces an__law_pieces cd__law_pieces ct__law_pieces), sl__law_pieces⟩) (c__law_pieces : PySem.W.codeIn K cd__law_pieces "_law_pieces" = true) (k__law_pieces : PySem.W.keepIn K (.ref f__law_pieces) = true)
    (a__law_ends : PySem.W.nsIn K mainGlobals "_law_ends" = some (some (.ref f__law_ends))) (l__law_ends : K.lookup f__law_ends = some ⟨oc__law_ends, od__law_ends, .func (PySem.W.fnOf "_law_ends" "_law_ends" (defArgs s__law_ends) (defBody s__law_ends) (defScope s__law_ends) .none kV__law_ends dc__law_ends pm__law_ends an__law_ends cd__law_ends ct__law_ends), sl__law_ends⟩) (c__law_ends : PySem.W.codeIn K cd__law_ends "_law_ends" = true) (k__law_ends : PySem.W.keepIn K (.ref f__law_ends) = true)
    (a__law_seen : PySem.W.nsIn K mainGlobals "_law_seen" = some (some (.ref f__law_seen))) (l__law_seen : K.lookup f__law_seen = some ⟨oc__law_seen, od__law_seen, .func (PySem.W.fnOf "_law_seen" "_law_seen" (defArgs s__law_seen) (defBody s__law_seen) (defScope s__law_seen) .none kV__law_seen dc__law_seen pm__law_seen an__law_seen cd__law_seen ct__law_seen), sl__law_seen⟩) (c__law_seen : PySem.W.codeIn K cd__law_seen "_law_seen" = true) (k__law_seen : PySem.W.keepIn K (.ref f__law_seen) = true)
    (a__law_attached : PySem.W.nsIn K mainGlobals "_law_attached" = some (some (.ref f__law_attached))) (l__law_attached : K.lookup f__law_attached = some ⟨oc__law_attached, od__law_attached, .func (PySem.W.fnOf "_law_attached" "_law_attached" (defArgs s__law_attached) (defBody s__law_attached) (defScope s__law_attached) .none kV__law_attached dc__law_attached pm__law_attached an__law_attached cd__law_attached ct__law_attached), sl__law_attached⟩) (c__law_attached : PySem.W.codeIn K cd__law_attached "_law_attached" = true) (k__law_attached : PySem.W.keepIn K (.ref f__law_attached) = true)
    (a__law_all_ends : PySem.W.nsIn K mainGlobals "_law_all_ends" = some (some (.ref f__law_all_ends))) (l__law_all_ends : K.lookup f__law_all_ends = some ⟨oc__law_all_ends, od__law_all_ends, .func (PySem.W.fnOf "_law_all_ends" "_law_all_ends" (defArgs s__law_all_ends) (defBody s__law_all_ends) (defScope s__law_all_ends) .none kV__law_all_ends dc__law_all_ends pm__law_all_ends an__law_all_ends cd__law_all_ends ct__law_all_ends), sl__law_all_ends⟩) (c__law_all_ends : PySem.W.codeIn K cd__law_all_ends "_law_all_ends" = true) (k__law_all_ends : PySem.W.keepIn K (.ref f__law_all_ends) = true)
    (a__law_can_lie : PySem.W.nsIn K mainGlobals "_law_can_lie" = some (some (.ref f__law_can_lie))) (l__law_can_lie : K.lookup f__law_can_lie = some ⟨oc__law_can_lie, od__law_can_lie, .func (PySem.W.fnOf "_law_can_lie" "_law_can_lie" (defArgs s__law_can_lie) (defBody s__law_can_lie) (defScope s__law_can_lie) .none kV__law_can_lie dc__law_can_lie pm__law_can_lie an__law_can_lie cd__law_can_lie ct__law_can_lie), sl__law_can_lie⟩) (c__law_can_lie : PySem.W.codeIn K cd__law_can_lie "_law_can_lie" = true) (k__law_can_lie : PySem.W.keepIn K (.ref f__law_can_lie) = true)
    (a__law_joined : PySem.W.nsIn K mainGlobals "_law_joined" = some (some (.ref f__law_joined))) (l__law_joined : K.lookup f__law_joined = some ⟨oc__law_joined, od__law_joined, .func (PySem.W.fnOf "_law_joined" "_law_joined" (defArgs s__law_joined) (defBody s__law_joined) (defScope s__law_joined) .none kV__law_joined dc__law_joined pm__law_joined an__law_joined cd__law_joined ct__law_joined), sl__law_joined⟩) (c__law_joined : PySem.W.codeIn K cd__law_joined "_law_joined" = true) (k__law_joined : PySem.W.keepIn K (.ref f__law_joined) = true)
    (a__law_layout : PySem.W.nsIn K mainGlobals "_law_layout" = some (some (.ref f__law_layout))) (l__law_layout : K.lookup f__law_layout = some ⟨oc__law_layout, od__law_layout, .func (PySem.W.fnOf "_law_layout" "_law_layout" (defArgs s__law_layout) (defBody s__law_layout) (defScope s__law_layout) .none kV__law_layout dc__law_layout pm__law_layout an__law_layout cd__law_layout ct__law_layout), sl__law_layout⟩) (c__law_layout : PySem.W.codeIn K cd__law_layout "_law_layout" = true) (k__law_layout : PySem.W.keepIn K (.ref f__law_layout) = true)
    (a__law_cell : PySem.W.nsIn K mainGlobals "_law_cell" = some (some (.ref f__law_cell))) (l__law_cell : K.lookup f__law_cell = some ⟨oc__law_cell, od__law_cell, .func (PySem.W.fnOf "_law_cell" "_law_cell" (defArgs s__law_cell) (defBody s__law_cell) (defScope s__law_cell) .none kV__law_cell dc__law_cell pm__law_cell an__law_cell cd__law_cell ct__law_cell), sl__law_cell⟩) (c__law_cell : PySem.W.codeIn K cd__law_cell "_law_cell" = true) (k__law_cell : PySem.W.keepIn K (.ref f__law_cell) = true)
    (a__law_digits : PySem.W.nsIn K mainGlobals "_law_digits" = some (some (.ref f__law_digits))) (l__law_digits : K.lookup f__law_digits = some ⟨oc__law_digits, od__law_digits, .func (PySem.W.fnOf "_law_digits" "_law_digits" (defArgs s__law_digits) (defBody s__law_digits) (defScope s__law_digits) .none kV__law_digits dc__law_digits pm__law_digits an__law_digits cd__law_digits ct__law_digits), sl__law_digits⟩) (c__law_digits : PySem.W.codeIn K cd__law_digits "_law_digits" = true) (k__law_digits : PySem.W.keepIn K (.ref f__law_digits) = true)
    (a__law_passes : PySem.W.nsIn K mainGlobals "_law_passes" = some (some (.ref f__law_passes))) (l__law_passes : K.lookup f__law_passes = some ⟨oc__law_passes, od__law_passes, .func (PySem.W.fnOf "_law_passes" "_law_passes" (defArgs s__law_passes) (defBody s__law_passes) (defScope s__law_passes) .none kV__law_passes dc__law_passes pm__law_passes an__law_passes cd__law_passes ct__law_passes), sl__law_passes⟩) (c__law_passes : PySem.W.codeIn K cd__law_passes "_law_passes" = true) (k__law_passes : PySem.W.keepIn K (.ref f__law_passes) = true)
    (a__law_trains : PySem.W.nsIn K mainGlobals "_law_trains" = some (some (.ref f__law_trains))) (l__law_trains : K.lookup f__law_trains = some ⟨oc__law_trains, od__law_trains, .func (PySem.W.fnOf "_law_trains" "_law_trains" (defArgs s__law_trains) (defBody s__law_trains) (defScope s__law_trains) .none kV__law_trains dc__law_trains pm__law_trains an__law_trains cd__law_trains ct__law_trains), sl__law_trains⟩) (c__law_trains : PySem.W.codeIn K cd__law_trains "_law_trains" = true) (k__law_trains : PySem.W.keepIn K (.ref f__law_trains) = true)
    (a__law_turnouts : PySem.W.nsIn K mainGlobals "_law_turnouts" = some (some (.ref f__law_turnouts))) (l__law_turnouts : K.lookup f__law_turnouts = some ⟨oc__law_turnouts, od__law_turnouts, .func (PySem.W.fnOf "_law_turnouts" "_law_turnouts" (defArgs s__law_turnouts) (defBody s__law_turnouts) (defScope s__law_turnouts) .none kV__law_turnouts dc__law_turnouts pm__law_turnouts an__law_turnouts cd__law_turnouts ct__law_turnouts), sl__law_turnouts⟩) (c__law_turnouts : PySem.W.codeIn K cd__law_turnouts "_law_turnouts" = true) (k__law_turnouts : PySem.W.keepIn K (.ref f__law_turnouts) = true)
    (a__law_thrown : PySem.W.nsIn K mainGlobals "_law_thrown" = some (some (.ref f__law_thrown))) (l__law_thrown : K.lookup f__law_thrown = some ⟨oc__law_thrown, od__law_thrown, .func (PySem.W.fnOf "_law_thrown" "_law_thrown" (defArgs s__law_thrown) (defBody s__law_thrown) (defScope s__law_thrown) .none kV__law_thrown dc__law_thrown pm__law_thrown an__law_thrown cd__law_thrown ct__law_thrown), sl__law_thrown⟩) (c__law_thrown : PySem.W.codeIn K cd__law_thrown "_law_thrown" = true) (k__law_thrown : PySem.W.keepIn K (.ref f__law_thrown) = true)
    (a__law_train : PySem.W.nsIn K mainGlobals "_law_train" = some (some (.ref f__law_train))) (l__law_train : K.lookup f__law_train = some ⟨oc__law_train, od__law_train, .func (PySem.W.fnOf "_law_train" "_law_train" (defArgs s__law_train) (defBody s__law_train) (defScope s__law_train) .none kV__law_train dc__law_train pm__law_train an__law_train cd__law_train ct__law_train), sl__law_train⟩) (c__law_train : PySem.W.codeIn K cd__law_train "_law_train" = true) (k__law_train : PySem.W.keepIn K (.ref f__law_train) = true)
    (a_turnouts_in : PySem.W.nsIn K mainGlobals "turnouts_in" = some (some (.ref f_turnouts_in))) (l_turnouts_in : K.lookup f_turnouts_in = some ⟨oc_turnouts_in, od_turnouts_in, .func (PySem.W.fnOf "turnouts_in" "turnouts_in" (defArgs s_turnouts_in) (defBody s_turnouts_in) (defScope s_turnouts_in) .none kV_turnouts_in dc_turnouts_in pm_turnouts_in an_turnouts_in cd_turnouts_in ct_turnouts_in), sl_turnouts_in⟩) (c_turnouts_in : PySem.W.codeIn K cd_turnouts_in "turnouts_in" = true) (k_turnouts_in : PySem.W.keepIn K (.ref f_turnouts_in) = true)
    (a_refuse_no_turnouts : PySem.W.nsIn K mainGlobals "refuse_no_turnouts" = some (some (.ref f_refuse_no_turnouts))) (l_refuse_no_turnouts : K.lookup f_refuse_no_turnouts = some ⟨oc_refuse_no_turnouts, od_refuse_no_turnouts, .func (PySem.W.fnOf "refuse_no_turnouts" "refuse_no_turnouts" (defArgs s_refuse_no_turnouts) (defBody s_refuse_no_turnouts) (defScope s_refuse_no_turnouts) .none kV_refuse_no_turnouts dc_refuse_no_turnouts pm_refuse_no_turnouts an_refuse_no_turnouts cd_refuse_no_turnouts ct_refuse_no_turnouts), sl_refuse_no_turnouts⟩) (c_refuse_no_turnouts : PySem.W.codeIn K cd_refuse_no_turnouts "refuse_no_turnouts" = true) (k_refuse_no_turnouts : PySem.W.keepIn K (.ref f_refuse_no_turnouts) = true)
    (a_refuse_no_train : PySem.W.nsIn K mainGlobals "refuse_no_train" = some (some (.ref f_refuse_no_train))) (l_refuse_no_train : K.lookup f_refuse_no_train = some ⟨oc_refuse_no_train, od_refuse_no_train, .func (PySem.W.fnOf "refuse_no_train" "refuse_no_train" (defArgs s_refuse_no_train) (defBody s_refuse_no_train) (defScope s_refuse_no_train) .none kV_refuse_no_train dc_refuse_no_train pm_refuse_no_train an_refuse_no_train cd_refuse_no_train ct_refuse_no_train), sl_refuse_no_train⟩) (c_refuse_no_train : PySem.W.codeIn K cd_refuse_no_train "refuse_no_train" = true) (k_refuse_no_train : PySem.W.keepIn K (.ref f_refuse_no_train) = true)
    (a_trains_of : PySem.W.nsIn K mainGlobals "trains_of" = some (some (.ref f_trains_of))) (l_trains_of : K.lookup f_trains_of = some ⟨oc_trains_of, od_trains_of, .func (PySem.W.fnOf "trains_of" "trains_of" (defArgs s_trains_of) (defBody s_trains_of) (defScope s_trains_of) .none kV_trains_of dc_trains_of pm_trains_of an_trains_of cd_trains_of ct_trains_of), sl_trains_of⟩) (c_trains_of : PySem.W.codeIn K cd_trains_of "trains_of" = true) (k_trains_of : PySem.W.keepIn K (.ref f_trains_of) = true)
    (a__refuse_wrong : PySem.W.nsIn K mainGlobals "_refuse_wrong" = some (some (.ref f__refuse_wrong))) (l__refuse_wrong : K.lookup f__refuse_wrong = some ⟨oc__refuse_wrong, od__refuse_wrong, .func (PySem.W.fnOf "_refuse_wrong" "_refuse_wrong" (defArgs s__refuse_wrong) (defBody s__refuse_wrong) (defScope s__refuse_wrong) .none kV__refuse_wrong dc__refuse_wrong pm__refuse_wrong an__refuse_wrong cd__refuse_wrong ct__refuse_wrong), sl__refuse_wrong⟩) (c__refuse_wrong : PySem.W.codeIn K cd__refuse_wrong "_refuse_wrong" = true) (k__refuse_wrong : PySem.W.keepIn K (.ref f__refuse_wrong) = true)
    (a_step_in : PySem.W.nsIn K mainGlobals "step_in" = some (some (.ref f_step_in))) (l_step_in : K.lookup f_step_in = some ⟨oc_step_in, od_step_in, .func (PySem.W.fnOf "step_in" "step_in" (defArgs s_step_in) (defBody s_step_in) (defScope s_step_in) .none kV_step_in dc_step_in pm_step_in an_step_in cd_step_in ct_step_in), sl_step_in⟩) (c_step_in : PySem.W.codeIn K cd_step_in "step_in" = true) (k_step_in : PySem.W.keepIn K (.ref f_step_in) = true)
    (a_way_in : PySem.W.nsIn K mainGlobals "way_in" = some (some (.ref f_way_in))) (l_way_in : K.lookup f_way_in = some ⟨oc_way_in, od_way_in, .func (PySem.W.fnOf "way_in" "way_in" (defArgs s_way_in) (defBody s_way_in) (defScope s_way_in) .none kV_way_in dc_way_in pm_way_in an_way_in cd_way_in ct_way_in), sl_way_in⟩) (c_way_in : PySem.W.codeIn K cd_way_in "way_in" = true) (k_way_in : PySem.W.keepIn K (.ref f_way_in) = true)
    (a_back : PySem.W.nsIn K mainGlobals "back" = some (some (.ref f_back))) (l_back : K.lookup f_back = some ⟨oc_back, od_back, .func (PySem.W.fnOf "back" "back" (defArgs s_back) (defBody s_back) (defScope s_back) .none kV_back dc_back pm_back an_back cd_back ct_back), sl_back⟩) (c_back : PySem.W.codeIn K cd_back "back" = true) (k_back : PySem.W.keepIn K (.ref f_back) = true)
    (a_moved : PySem.W.nsIn K mainGlobals "moved" = some (some (.ref f_moved))) (l_moved : K.lookup f_moved = some ⟨oc_moved, od_moved, .func (PySem.W.fnOf "moved" "moved" (defArgs s_moved) (defBody s_moved) (defScope s_moved) .none kV_moved dc_moved pm_moved an_moved cd_moved ct_moved), sl_moved⟩) (c_moved : PySem.W.codeIn K cd_moved "moved" = true) (k_moved : PySem.W.keepIn K (.ref f_moved) = true)
    (a_turned : PySem.W.nsIn K mainGlobals "turned" = some (some (.ref f_turned))) (l_turned : K.lookup f_turned = some ⟨oc_turned, od_turned, .func (PySem.W.fnOf "turned" "turned" (defArgs s_turned) (defBody s_turned) (defScope s_turned) .none kV_turned dc_turned pm_turned an_turned cd_turned ct_turned), sl_turned⟩) (c_turned : PySem.W.codeIn K cd_turned "turned" = true) (k_turned : PySem.W.keepIn K (.ref f_turned) = true)
    (a_laid : PySem.W.nsIn K mainGlobals "laid" = some (some (.ref f_laid))) (l_laid : K.lookup f_laid = some ⟨oc_laid, od_laid, .func (PySem.W.fnOf "laid" "laid" (defArgs s_laid) (defBody s_laid) (defScope s_laid) .none kV_laid dc_laid pm_laid an_laid cd_laid ct_laid), sl_laid⟩) (c_laid : PySem.W.codeIn K cd_laid "laid" = true) (k_laid : PySem.W.keepIn K (.ref f_laid) = true)
    (a_ends_of : PySem.W.nsIn K mainGlobals "ends_of" = some (some (.ref f_ends_of))) (l_ends_of : K.lookup f_ends_of = some ⟨oc_ends_of, od_ends_of, .func (PySem.W.fnOf "ends_of" "ends_of" (defArgs s_ends_of) (defBody s_ends_of) (defScope s_ends_of) .none kV_ends_of dc_ends_of pm_ends_of an_ends_of cd_ends_of ct_ends_of), sl_ends_of⟩) (c_ends_of : PySem.W.codeIn K cd_ends_of "ends_of" = true) (k_ends_of : PySem.W.keepIn K (.ref f_ends_of) = true)
    (a_ends_in : PySem.W.nsIn K mainGlobals "ends_in" = some (some (.ref f_ends_in))) (l_ends_in : K.lookup f_ends_in = some ⟨oc_ends_in, od_ends_in, .func (PySem.W.fnOf "ends_in" "ends_in" (defArgs s_ends_in) (defBody s_ends_in) (defScope s_ends_in) .none kV_ends_in dc_ends_in pm_ends_in an_ends_in cd_ends_in ct_ends_in), sl_ends_in⟩) (c_ends_in : PySem.W.codeIn K cd_ends_in "ends_in" = true) (k_ends_in : PySem.W.keepIn K (.ref f_ends_in) = true)
    (a_joints_in : PySem.W.nsIn K mainGlobals "joints_in" = some (some (.ref f_joints_in))) (l_joints_in : K.lookup f_joints_in = some ⟨oc_joints_in, od_joints_in, .func (PySem.W.fnOf "joints_in" "joints_in" (defArgs s_joints_in) (defBody s_joints_in) (defScope s_joints_in) .none kV_joints_in dc_joints_in pm_joints_in an_joints_in cd_joints_in ct_joints_in), sl_joints_in⟩) (c_joints_in : PySem.W.codeIn K cd_joints_in "joints_in" = true) (k_joints_in : PySem.W.keepIn K (.ref f_joints_in) = true)
    (a_steps_table : PySem.W.nsIn K mainGlobals "steps_table" = some (some (.ref f_steps_table))) (l_steps_table : K.lookup f_steps_table = some ⟨oc_steps_table, od_steps_table, .func (PySem.W.fnOf "steps_table" "steps_table" (defArgs s_steps_table) (defBody s_steps_table) (defScope s_steps_table) .none kV_steps_table dc_steps_table pm_steps_table an_steps_table cd_steps_table ct_steps_table), sl_steps_table⟩) (c_steps_table : PySem.W.codeIn K cd_steps_table "steps_table" = true) (k_steps_table : PySem.W.keepIn K (.ref f_steps_table) = true)
    (a_cycle : PySem.W.nsIn K mainGlobals "cycle" = some (some (.ref f_cycle))) (l_cycle : K.lookup f_cycle = some ⟨oc_cycle, od_cycle, .func (PySem.W.fnOf "cycle" "cycle" (defArgs s_cycle) (defBody s_cycle) (defScope s_cycle) .none kV_cycle dc_cycle pm_cycle an_cycle cd_cycle ct_cycle), sl_cycle⟩) (c_cycle : PySem.W.codeIn K cd_cycle "cycle" = true) (k_cycle : PySem.W.keepIn K (.ref f_cycle) = true)
    (a_step_train : PySem.W.nsIn K mainGlobals "step_train" = some (some (.ref f_step_train))) (l_step_train : K.lookup f_step_train = some ⟨oc_step_train, od_step_train, .func (PySem.W.fnOf "step_train" "step_train" (defArgs s_step_train) (defBody s_step_train) (defScope s_step_train) .none kV_step_train dc_step_train pm_step_train an_step_train cd_step_train ct_step_train), sl_step_train⟩) (c_step_train : PySem.W.codeIn K cd_step_train "step_train" = true) (k_step_train : PySem.W.keepIn K (.ref f_step_train) = true)
    (a_run_train : PySem.W.nsIn K mainGlobals "run_train" = some (some (.ref f_run_train))) (l_run_train : K.lookup f_run_train = some ⟨oc_run_train, od_run_train, .func (PySem.W.fnOf "run_train" "run_train" (defArgs s_run_train) (defBody s_run_train) (defScope s_run_train) .none kV_run_train dc_run_train pm_run_train an_run_train cd_run_train ct_run_train), sl_run_train⟩) (c_run_train : PySem.W.codeIn K cd_run_train "run_train" = true) (k_run_train : PySem.W.keepIn K (.ref f_run_train) = true)
    (a__law_same : PySem.W.nsIn K mainGlobals "_law_same" = some (some (.ref f__law_same))) (l__law_same : K.lookup f__law_same = some ⟨oc__law_same, od__law_same, .func (PySem.W.fnOf "_law_same" "_law_same" (defArgs s__law_same) (defBody s__law_same) (defScope s__law_same) .none kV__law_same dc__law_same pm__law_same an__law_same cd__law_same ct__law_same), sl__law_same⟩) (c__law_same : PySem.W.codeIn K cd__law_same "_law_same" = true) (k__law_same : PySem.W.keepIn K (.ref f__law_same) = true)
    (a_law : PySem.W.nsIn K mainGlobals "law" = some (some (.ref f_law))) (l_law : K.lookup f_law = some ⟨oc_law, od_law, .func (PySem.W.fnOf "law" "law" (defArgs s_law) (defBody s_law) (defScope s_law) .none kV_law dc_law pm_law an_law cd_law ct_law), sl_law⟩) (c_law : PySem.W.codeIn K cd_law "law" = true) (k_law : PySem.W.keepIn K (.ref f_law) = true)
    (z_enumerate : PySem.W.nsIn K mainGlobals "enumerate" = some none) (z_int : PySem.W.nsIn K mainGlobals "int" = some none) (z_len : PySem.W.nsIn K mainGlobals "len" = some none) (z_list : PySem.W.nsIn K mainGlobals "list" = some none) (z_max : PySem.W.nsIn K mainGlobals "max" = some none) (z_range : PySem.W.nsIn K mainGlobals "range" = some none) (z_repr : PySem.W.nsIn K mainGlobals "repr" = some none) (z_set : PySem.W.nsIn K mainGlobals "set" = some none) (z_tuple : PySem.W.nsIn K mainGlobals "tuple" = some none) (z_zip : PySem.W.nsIn K mainGlobals "zip" = some none)
    (a_ENDS_AHEAD : PySem.W.nsIn K mainGlobals "ENDS_AHEAD" = some (some u_ENDS_AHEAD)) (V_ENDS_AHEAD : Tab K w u_ENDS_AHEAD c_ENDS_AHEAD)
    (a_PASSES : PySem.W.nsIn K mainGlobals "PASSES" = some (some u_PASSES)) (V_PASSES : Tab K w u_PASSES c_PASSES) :
    ∃ fd : FuncData, (∀ (s : Shared) (v : Value), BindsTo s fd ⟨[v], []⟩ [("script", v)]) ∧ ∀ base : Heap, K.In base → base.Ns mainGlobals mg → FnG l.prog w K mg base 8 fa fd ["script"] false F_law := by
  have e := hfa.symm.trans (PySem.W.mg_of KX G a_law)
  cases e
  have y_enumerate := PySem.W.mg_none_of KX G z_enumerate
  have y_int := PySem.W.mg_none_of KX G z_int
  have y_len := PySem.W.mg_none_of KX G z_len
  have y_list := PySem.W.mg_none_of KX G z_list
  have y_max := PySem.W.mg_none_of KX G z_max
  have y_range := PySem.W.mg_none_of KX G z_range
  have y_repr := PySem.W.mg_none_of KX G z_repr
  have y_set := PySem.W.mg_none_of KX G z_set
  have y_tuple := PySem.W.mg_none_of KX G z_tuple
  have y_zip := PySem.W.mg_none_of KX G z_zip
  refine ⟨PySem.W.fnOf "law" "law" (defArgs s_law) (defBody s_law) (defScope s_law) .none kV_law dc_law pm_law an_law cd_law ct_law, fun s v => .of_eq rfl, fun base _ _ => ?_⟩
  have Fu__law_turned := fun_mk (st := s__law_turned) l__law_turned c__law_turned k__law_turned
  have C__law_turned : Cal l.prog w K mg base "_law_turned" 1 ["position", "eighths"] false F__law_turned := ⟨_, _, fn__law_turned Fu__law_turned y_int y_range y_tuple  , PySem.W.mg_of KX G a__law_turned, k__law_turned, Fu__law_turned.binds (ps := ["position", "eighths"]) fun _ _ _ _ _ _ us hl => match us, hl with | [_, _], _ => rfl⟩
  have Fu__law_laid := fun_mk (st := s__law_laid) l__law_laid c__law_laid k__law_laid
  have C__law_laid : Cal l.prog w K mg base "_law_laid" 2 ["pose", "other"] false F__law_laid := ⟨_, _, fn__law_laid Fu__law_laid y_int y_range y_tuple  C__law_turned, PySem.W.mg_of KX G a__law_laid, k__law_laid, Fu__law_laid.binds (ps := ["pose", "other"]) fun _ _ _ _ _ _ us hl => match us, hl with | [_, _], _ => rfl⟩
  have Fu__law_lead := fun_mk (st := s__law_lead) l__law_lead c__law_lead k__law_lead
  have C__law_lead : Cal l.prog w K mg base "_law_lead" 3 ["pose", "row"] false F__law_lead := ⟨_, _, fn__law_lead Fu__law_lead   C__law_laid, PySem.W.mg_of KX G a__law_lead, k__law_lead, Fu__law_lead.binds (ps := ["pose", "row"]) fun _ _ _ _ _ _ us hl => match us, hl with | [_, _], _ => rfl⟩
  have Fu__law_back := fun_mk (st := s__law_back) l__law_back c__law_back k__law_back
  have C__law_back : Cal l.prog w K mg base "_law_back" 1 ["pose"] false F__law_back := ⟨_, _, fn__law_back Fu__law_back y_int  , PySem.W.mg_of KX G a__law_back, k__law_back, Fu__law_back.binds (ps := ["pose"]) fun _ _ _ _ _ _ us hl => match us, hl with | [_], _ => rfl⟩
  have Fu__law_pieces_o := fun_mk (st := s__law_pieces_o) l__law_pieces c__law_pieces k__law_pieces
  have C__law_pieces_o : CalX l.prog w K mg base "_law_pieces" 4 ["pose", "row"] F__law_pieces_o := ⟨_, _, fn__law_pieces_o Fu__law_pieces_o y_int  C__law_lead C__law_back, PySem.W.mg_of KX G a__law_pieces, k__law_pieces, Fu__law_pieces_o.binds (ps := ["pose", "row"]) fun _ _ _ _ _ _ us hl => match us, hl with | [_, _], _ => rfl⟩
  have Fu__law_draw := fun_mk (st := s__law_draw) l__law_draw c__law_draw k__law_draw
  have C__law_draw : Cal l.prog w K mg base "_law_draw" 1 ["box", "many"] true F__law_draw := ⟨_, _, fn__law_draw Fu__law_draw y_int y_len  , PySem.W.mg_of KX G a__law_draw, k__law_draw, Fu__law_draw.binds (ps := ["box", "many"]) fun _ _ _ _ _ _ us hl => match us, hl with | [_, _], _ => rfl⟩
  have Fu__law_pieces := fun_mk (st := s__law_pieces) l__law_pieces c__law_pieces k__law_pieces
  have C__law_pieces : Cal l.prog w K mg base "_law_pieces" 4 ["pose", "row"] false F__law_pieces := ⟨_, _, fn__law_pieces Fu__law_pieces y_int  C__law_lead C__law_back, PySem.W.mg_of KX G a__law_pieces, k__law_pieces, Fu__law_pieces.binds (ps := ["pose", "row"]) fun _ _ _ _ _ _ us hl => match us, hl with | [_, _], _ => rfl⟩
  have Fu__law_ends := fun_mk (st := s__law_ends) l__law_ends c__law_ends k__law_ends
  have C__law_ends : Cal l.prog w K mg base "_law_ends" 3 ["piece"] false F__law_ends := ⟨_, _, fn__law_ends Fu__law_ends   C__law_laid, PySem.W.mg_of KX G a__law_ends, k__law_ends, Fu__law_ends.binds (ps := ["piece"]) fun _ _ _ _ _ _ us hl => match us, hl with | [_], _ => rfl⟩
  have Fu__law_all_ends_b := fun_mk (st := s__law_all_ends_b) l__law_all_ends c__law_all_ends k__law_all_ends
  have C__law_all_ends_b : Cal l.prog w K mg base "_law_all_ends" 4 ["layout"] true F__law_all_ends_b := ⟨_, _, fn__law_all_ends_b Fu__law_all_ends_b y_int y_len y_range  C__law_ends, PySem.W.mg_of KX G a__law_all_ends, k__law_all_ends, Fu__law_all_ends_b.binds (ps := ["layout"]) fun _ _ _ _ _ _ us hl => match us, hl with | [_], _ => rfl⟩
  have Fu__law_seen := fun_mk (st := s__law_seen) l__law_seen c__law_seen k__law_seen
  have C__law_seen : Cal l.prog w K mg base "_law_seen" 2 ["pose", "other"] false F__law_seen := ⟨_, _, fn__law_seen Fu__law_seen y_int y_range  C__law_turned, PySem.W.mg_of KX G a__law_seen, k__law_seen, Fu__law_seen.binds (ps := ["pose", "other"]) fun _ _ _ _ _ _ us hl => match us, hl with | [_, _], _ => rfl⟩
  have Fu__law_attached := fun_mk (st := s__law_attached) l__law_attached c__law_attached k__law_attached
  have C__law_attached : Cal l.prog w K mg base "_law_attached" 4 ["kind", "end", "target"] false F__law_attached := ⟨_, _, fn__law_attached Fu__law_attached   C__law_ends C__law_laid C__law_seen, PySem.W.mg_of KX G a__law_attached, k__law_attached, Fu__law_attached.binds (ps := ["kind", "end", "target"]) fun _ _ _ _ _ _ us hl => match us, hl with | [_, _, _], _ => rfl⟩
  have Fu__law_all_ends := fun_mk (st := s__law_all_ends) l__law_all_ends c__law_all_ends k__law_all_ends
  have C__law_all_ends : Cal l.prog w K mg base "_law_all_ends" 4 ["layout"] false F__law_all_ends := ⟨_, _, fn__law_all_ends Fu__law_all_ends y_int y_len y_range  C__law_ends, PySem.W.mg_of KX G a__law_all_ends, k__law_all_ends, Fu__law_all_ends.binds (ps := ["layout"]) fun _ _ _ _ _ _ us hl => match us, hl with | [_], _ => rfl⟩
  have Fu__law_can_lie := fun_mk (st := s__law_can_lie) l__law_can_lie c__law_can_lie k__law_can_lie
  have C__law_can_lie : Cal l.prog w K mg base "_law_can_lie" 5 ["layout"] false F__law_can_lie := ⟨_, _, fn__law_can_lie Fu__law_can_lie y_len y_range  C__law_all_ends, PySem.W.mg_of KX G a__law_can_lie, k__law_can_lie, Fu__law_can_lie.binds (ps := ["layout"]) fun _ _ _ _ _ _ us hl => match us, hl with | [_], _ => rfl⟩
  have Fu__law_joined_b := fun_mk (st := s__law_joined_b) l__law_joined c__law_joined k__law_joined
  have C__law_joined_b : Cal l.prog w K mg base "_law_joined" 5 ["layout", "pose"] true F__law_joined_b := ⟨_, _, fn__law_joined_b Fu__law_joined_b   C__law_back C__law_all_ends_b, PySem.W.mg_of KX G a__law_joined, k__law_joined, Fu__law_joined_b.binds (ps := ["layout", "pose"]) fun _ _ _ _ _ _ us hl => match us, hl with | [_, _], _ => rfl⟩
  have Fu__law_joined := fun_mk (st := s__law_joined) l__law_joined c__law_joined k__law_joined
  have C__law_joined : Cal l.prog w K mg base "_law_joined" 5 ["layout", "pose"] false F__law_joined := ⟨_, _, fn__law_joined Fu__law_joined   C__law_back C__law_all_ends, PySem.W.mg_of KX G a__law_joined, k__law_joined, Fu__law_joined.binds (ps := ["layout", "pose"]) fun _ _ _ _ _ _ us hl => match us, hl with | [_, _], _ => rfl⟩
  have Fu__law_layout := fun_mk (st := s__law_layout) l__law_layout c__law_layout k__law_layout
  have C__law_layout : Cal l.prog w K mg base "_law_layout" 6 ["box", "most"] true F__law_layout := ⟨_, _, fn__law_layout Fu__law_layout y_int y_len y_range y_tuple  C__law_draw C__law_pieces_o C__law_pieces C__law_all_ends_b C__law_joined_b C__law_back C__law_attached C__law_ends C__law_can_lie, PySem.W.mg_of KX G a__law_layout, k__law_layout, Fu__law_layout.binds (ps := ["box", "most"]) fun _ _ _ _ _ _ us hl => match us, hl with | [_, _], _ => rfl⟩
  have Fu__law_cell := fun_mk (st := s__law_cell) l__law_cell c__law_cell k__law_cell
  have C__law_cell : Cal l.prog w K mg base "_law_cell" 1 ["script", "k"] false F__law_cell := ⟨_, _, fn__law_cell Fu__law_cell y_len  , PySem.W.mg_of KX G a__law_cell, k__law_cell, Fu__law_cell.binds (ps := ["script", "k"]) fun _ _ _ _ _ _ us hl => match us, hl with | [_, _], _ => rfl⟩
  have Fu__law_digits := fun_mk (st := s__law_digits) l__law_digits c__law_digits k__law_digits
  have C__law_digits : Cal l.prog w K mg base "_law_digits" 2 ["script", "first", "last"] false F__law_digits := ⟨_, _, fn__law_digits Fu__law_digits y_int y_range  C__law_cell, PySem.W.mg_of KX G a__law_digits, k__law_digits, Fu__law_digits.binds (ps := ["script", "first", "last"]) fun _ _ _ _ _ _ us hl => match us, hl with | [_, _, _], _ => rfl⟩
  have Fu__law_passes := fun_mk (st := s__law_passes) l__law_passes c__law_passes k__law_passes
  have C__law_passes : Cal l.prog w K mg base "_law_passes" 1 ["kind"] false F__law_passes := ⟨_, _, fn__law_passes Fu__law_passes   , PySem.W.mg_of KX G a__law_passes, k__law_passes, Fu__law_passes.binds (ps := ["kind"]) fun _ _ _ _ _ _ us hl => match us, hl with | [_], _ => rfl⟩
  have Fu__law_trains := fun_mk (st := s__law_trains) l__law_trains c__law_trains k__law_trains
  have C__law_trains : Cal l.prog w K mg base "_law_trains" 2 ["layout"] false F__law_trains := ⟨_, _, fn__law_trains Fu__law_trains y_int y_len y_range  C__law_passes, PySem.W.mg_of KX G a__law_trains, k__law_trains, Fu__law_trains.binds (ps := ["layout"]) fun _ _ _ _ _ _ us hl => match us, hl with | [_], _ => rfl⟩
  have Fu__law_turnouts := fun_mk (st := s__law_turnouts) l__law_turnouts c__law_turnouts k__law_turnouts
  have C__law_turnouts : Cal l.prog w K mg base "_law_turnouts" 1 ["layout"] false F__law_turnouts := ⟨_, _, fn__law_turnouts Fu__law_turnouts y_int y_len y_range  , PySem.W.mg_of KX G a__law_turnouts, k__law_turnouts, Fu__law_turnouts.binds (ps := ["layout"]) fun _ _ _ _ _ _ us hl => match us, hl with | [_], _ => rfl⟩
  have Fu__law_thrown := fun_mk (st := s__law_thrown) l__law_thrown c__law_thrown k__law_thrown
  have C__law_thrown : Cal l.prog w K mg base "_law_thrown" 2 ["box", "layout"] true F__law_thrown := ⟨_, _, fn__law_thrown Fu__law_thrown y_tuple  C__law_turnouts C__law_draw, PySem.W.mg_of KX G a__law_thrown, k__law_thrown, Fu__law_thrown.binds (ps := ["box", "layout"]) fun _ _ _ _ _ _ us hl => match us, hl with | [_, _], _ => rfl⟩
  have Fu__law_train := fun_mk (st := s__law_train) l__law_train c__law_train k__law_train
  have C__law_train : Cal l.prog w K mg base "_law_train" 3 ["box", "layout"] true F__law_train := ⟨_, _, fn__law_train Fu__law_train y_int y_len  C__law_trains C__law_draw, PySem.W.mg_of KX G a__law_train, k__law_train, Fu__law_train.binds (ps := ["box", "layout"]) fun _ _ _ _ _ _ us hl => match us, hl with | [_, _], _ => rfl⟩
  have Fu_turnouts_in := fun_mk (st := s_turnouts_in) l_turnouts_in c_turnouts_in k_turnouts_in
  have C_turnouts_in : Cal l.prog w K mg base "turnouts_in" 1 ["layout"] false F_turnouts_in := ⟨_, _, fn_turnouts_in Fu_turnouts_in y_enumerate  , PySem.W.mg_of KX G a_turnouts_in, k_turnouts_in, Fu_turnouts_in.binds (ps := ["layout"]) fun _ _ _ _ _ _ us hl => match us, hl with | [_], _ => rfl⟩
  have Fu_refuse_no_turnouts := fun_mk (st := s_refuse_no_turnouts) l_refuse_no_turnouts c_refuse_no_turnouts k_refuse_no_turnouts
  have C_refuse_no_turnouts : Cal l.prog w K mg base "refuse_no_turnouts" 2 ["layout", "thrown"] false F_refuse_no_turnouts := ⟨_, _, fn_refuse_no_turnouts Fu_refuse_no_turnouts y_tuple  C_turnouts_in, PySem.W.mg_of KX G a_refuse_no_turnouts, k_refuse_no_turnouts, Fu_refuse_no_turnouts.binds (ps := ["layout", "thrown"]) fun _ _ _ _ _ _ us hl => match us, hl with | [_, _], _ => rfl⟩
  have Fu_refuse_no_train := fun_mk (st := s_refuse_no_train) l_refuse_no_train c_refuse_no_train k_refuse_no_train
  have C_refuse_no_train : Cal l.prog w K mg base "refuse_no_train" 1 ["table", "train"] false F_refuse_no_train := ⟨_, _, fn_refuse_no_train Fu_refuse_no_train   , PySem.W.mg_of KX G a_refuse_no_train, k_refuse_no_train, Fu_refuse_no_train.binds (ps := ["table", "train"]) fun _ _ _ _ _ _ us hl => match us, hl with | [_, _], _ => rfl⟩
  have Fu_trains_of := fun_mk (st := s_trains_of) l_trains_of c_trains_of k_trains_of
  have C_trains_of : Cal l.prog w K mg base "trains_of" 1 ["layout"] false F_trains_of := ⟨_, _, fn_trains_of Fu_trains_of y_enumerate y_tuple V_PASSES (PySem.W.mg_of KX G a_PASSES) , PySem.W.mg_of KX G a_trains_of, k_trains_of, Fu_trains_of.binds (ps := ["layout"]) fun _ _ _ _ _ _ us hl => match us, hl with | [_], _ => rfl⟩
  have Fu__refuse_wrong := fun_mk (st := s__refuse_wrong) l__refuse_wrong c__refuse_wrong k__refuse_wrong
  have C__refuse_wrong : Cal l.prog w K mg base "_refuse_wrong" 3 ["layout", "thrown", "train"] false F__refuse_wrong := ⟨_, _, fn__refuse_wrong Fu__refuse_wrong   C_refuse_no_turnouts C_refuse_no_train C_trains_of, PySem.W.mg_of KX G a__refuse_wrong, k__refuse_wrong, Fu__refuse_wrong.binds (ps := ["layout", "thrown", "train"]) fun _ _ _ _ _ _ us hl => match us, hl with | [_, _, _], _ => rfl⟩
  have Fu_step_in := fun_mk (st := s_step_in) l_step_in c_step_in k_step_in
  have C_step_in : Cal l.prog w K mg base "step_in" 1 ["table", "thrown", "train"] false F_step_in := ⟨_, _, fn_step_in Fu_step_in   , PySem.W.mg_of KX G a_step_in, k_step_in, Fu_step_in.binds (ps := ["table", "thrown", "train"]) fun _ _ _ _ _ _ us hl => match us, hl with | [_, _, _], _ => rfl⟩
  have Fu_way_in := fun_mk (st := s_way_in) l_way_in c_way_in k_way_in
  have C_way_in : Cal l.prog w K mg base "way_in" 2 ["table", "thrown", "train"] false F_way_in := ⟨_, _, fn_way_in Fu_way_in y_list  C_step_in, PySem.W.mg_of KX G a_way_in, k_way_in, Fu_way_in.binds (ps := ["table", "thrown", "train"]) fun _ _ _ _ _ _ us hl => match us, hl with | [_, _, _], _ => rfl⟩
  have Fu_back := fun_mk (st := s_back) l_back c_back k_back
  have C_back : Cal l.prog w K mg base "back" 1 ["pose"] false F_back := ⟨_, _, fn_back Fu_back   , PySem.W.mg_of KX G a_back, k_back, Fu_back.binds (ps := ["pose"]) fun _ _ _ _ _ _ us hl => match us, hl with | [_], _ => rfl⟩
  have Fu_moved := fun_mk (st := s_moved) l_moved c_moved k_moved
  have C_moved : Cal l.prog w K mg base "moved" 1 ["position", "other"] false F_moved := ⟨_, _, fn_moved Fu_moved y_tuple y_zip  , PySem.W.mg_of KX G a_moved, k_moved, Fu_moved.binds (ps := ["position", "other"]) fun _ _ _ _ _ _ us hl => match us, hl with | [_, _], _ => rfl⟩
  have Fu_turned := fun_mk (st := s_turned) l_turned c_turned k_turned
  have C_turned : Cal l.prog w K mg base "turned" 1 ["position", "eighths"] false F_turned := ⟨_, _, fn_turned Fu_turned y_range y_tuple  , PySem.W.mg_of KX G a_turned, k_turned, Fu_turned.binds (ps := ["position", "eighths"]) fun _ _ _ _ _ _ us hl => match us, hl with | [_, _], _ => rfl⟩
  have Fu_laid := fun_mk (st := s_laid) l_laid c_laid k_laid
  have C_laid : Cal l.prog w K mg base "laid" 2 ["pose", "other"] false F_laid := ⟨_, _, fn_laid Fu_laid   C_moved C_turned, PySem.W.mg_of KX G a_laid, k_laid, Fu_laid.binds (ps := ["pose", "other"]) fun _ _ _ _ _ _ us hl => match us, hl with | [_, _], _ => rfl⟩
  have Fu_ends_of := fun_mk (st := s_ends_of) l_ends_of c_ends_of k_ends_of
  have C_ends_of : Cal l.prog w K mg base "ends_of" 3 ["kind", "pose"] false F_ends_of := ⟨_, _, fn_ends_of Fu_ends_of y_tuple V_ENDS_AHEAD (PySem.W.mg_of KX G a_ENDS_AHEAD) C_back C_laid, PySem.W.mg_of KX G a_ends_of, k_ends_of, Fu_ends_of.binds (ps := ["kind", "pose"]) fun _ _ _ _ _ _ us hl => match us, hl with | [_, _], _ => rfl⟩
  have Fu_ends_in := fun_mk (st := s_ends_in) l_ends_in c_ends_in k_ends_in
  have C_ends_in : Cal l.prog w K mg base "ends_in" 4 ["layout"] false F_ends_in := ⟨_, _, fn_ends_in Fu_ends_in y_enumerate y_tuple  C_ends_of, PySem.W.mg_of KX G a_ends_in, k_ends_in, Fu_ends_in.binds (ps := ["layout"]) fun _ _ _ _ _ _ us hl => match us, hl with | [_], _ => rfl⟩
  have Fu_joints_in := fun_mk (st := s_joints_in) l_joints_in c_joints_in k_joints_in
  have C_joints_in : Cal l.prog w K mg base "joints_in" 5 ["layout"] false F_joints_in := ⟨_, _, fn_joints_in Fu_joints_in   C_ends_in C_back, PySem.W.mg_of KX G a_joints_in, k_joints_in, Fu_joints_in.binds (ps := ["layout"]) fun _ _ _ _ _ _ us hl => match us, hl with | [_], _ => rfl⟩
  have Fu_steps_table := fun_mk (st := s_steps_table) l_steps_table c_steps_table k_steps_table
  have C_steps_table : Cal l.prog w K mg base "steps_table" 6 ["layout"] false F_steps_table := ⟨_, _, fn_steps_table Fu_steps_table y_tuple  C_trains_of C_joints_in, PySem.W.mg_of KX G a_steps_table, k_steps_table, Fu_steps_table.binds (ps := ["layout"]) fun _ _ _ _ _ _ us hl => match us, hl with | [_], _ => rfl⟩
  have Fu_cycle := fun_mk (st := s_cycle) l_cycle c_cycle k_cycle
  have C_cycle : Cal l.prog w K mg base "cycle" 7 ["layout", "thrown", "train"] false F_cycle := ⟨_, _, fn_cycle Fu_cycle y_len  C__refuse_wrong C_way_in C_steps_table, PySem.W.mg_of KX G a_cycle, k_cycle, Fu_cycle.binds (ps := ["layout", "thrown", "train"]) fun _ _ _ _ _ _ us hl => match us, hl with | [_, _, _], _ => rfl⟩
  have Fu_step_train := fun_mk (st := s_step_train) l_step_train c_step_train k_step_train
  have C_step_train : Cal l.prog w K mg base "step_train" 7 ["layout", "thrown", "train"] false F_step_train := ⟨_, _, fn_step_train Fu_step_train   C__refuse_wrong C_step_in C_steps_table, PySem.W.mg_of KX G a_step_train, k_step_train, Fu_step_train.binds (ps := ["layout", "thrown", "train"]) fun _ _ _ _ _ _ us hl => match us, hl with | [_, _, _], _ => rfl⟩
  have Fu_run_train := fun_mk (st := s_run_train) l_run_train c_run_train k_run_train
  have C_run_train : Cal l.prog w K mg base "run_train" 7 ["layout", "thrown", "train", "steps"] false F_run_train := ⟨_, _, fn_run_train Fu_run_train y_len  C__refuse_wrong C_way_in C_steps_table, PySem.W.mg_of KX G a_run_train, k_run_train, Fu_run_train.binds (ps := ["layout", "thrown", "train", "steps"]) fun _ _ _ _ _ _ us hl => match us, hl with | [_, _, _, _], _ => rfl⟩
  have Fu__law_same := fun_mk (st := s__law_same) l__law_same c__law_same k__law_same
  have C__law_same : Cal l.prog w K mg base "_law_same" 1 ["actual", "due"] false F__law_same := ⟨_, _, fn__law_same Fu__law_same y_repr  , PySem.W.mg_of KX G a__law_same, k__law_same, Fu__law_same.binds (ps := ["actual", "due"]) fun _ _ _ _ _ _ us hl => match us, hl with | [_, _], _ => rfl⟩
  exact fn_law (fun_mk (st := s_law) l_law c_law k_law) y_int y_len y_max y_range y_set  C__law_digits C__law_layout C__law_trains C__law_thrown C__law_train C_cycle C_run_train C_step_train C__law_same C__law_draw
end DN
open PySem PySem.W PyProof.Rows
set_option maxRecDepth 100000 in
set_option maxHeartbeats 0 in
theorem PySem.Challenge.cw_railshut_k20_cycles_and_runs_holds : PySem.Challenge.rw_railshut_k20_cycles_and_runs.Holds := by
  w_on; o_law; k_head; (case hw => w_witness2)
  k_fill
  refine DN.walkG (l := PySem.Challenge.rw_railshut_k20_cycles_and_runs) (n := 63) (k := 8) (x := "script") (F := DN.F_law) rfl (by decide) rfl ⟨rfl, by decide, by decide⟩ (fun w h Y => PySem.W.kIn_of Y) ?G DN.law_true
  case G =>
    intro w mg fa h KX Gm hmg
    refine' DN.all_mk KX Gm hmg ?a__law_turned ?l__law_turned ?c__law_turned ?k__law_turned ?a__law_laid ?l__law_laid ?c__law_laid ?k__law_laid ?a__law_lead ?l__law_lead ?c__law_lead ?k__law_lead ?a__law_back ?l__law_back ?c__law_back ?k__law_back ?a__law_draw ?l__law_draw ?c__law_draw ?k__law_draw ?a__law_pieces ?l__law_pieces ?c__law_pieces ?k__law_pieces ?a__law_ends ?l__law_ends ?c__law_ends ?k__law_ends ?a__law_seen ?l__law_seen ?c__law_seen ?k__law_seen ?a__law_attached ?l__law_attached ?c__law_attached ?k__law_attached ?a__law_all_ends ?l__law_all_ends ?c__law_all_ends ?k__law_all_ends ?a__law_can_lie ?l__law_can_lie ?c__law_can_lie ?k__law_can_lie ?a__law_joined ?l__law_joined ?c__law_joined ?k__law_joined ?a__law_layout ?l__law_layout ?c__law_layout ?k__law_layout ?a__law_cell ?l__law_cell ?c__law_cell ?k__law_cell ?a__law_digits ?l__law_digits ?c__law_digits ?k__law_digits ?a__law_passes ?l__law_passes ?c__law_passes ?k__law_passes ?a__law_trains ?l__law_trains ?c__law_trains ?k__law_trains ?a__law_turnouts ?l__law_turnouts ?c__law_turnouts ?k__law_turnouts ?a__law_thrown ?l__law_thrown ?c__law_thrown ?k__law_thrown ?a__law_train ?l__law_train ?c__law_train ?k__law_train ?a_turnouts_in ?l_turnouts_in ?c_turnouts_in ?k_turnouts_in ?a_refuse_no_turnouts ?l_refuse_no_turnouts ?c_refuse_no_turnouts ?k_refuse_no_turnouts ?a_refuse_no_train ?l_refuse_no_train ?c_refuse_no_train ?k_refuse_no_train ?a_trains_of ?l_trains_of ?c_trains_of ?k_trains_of ?a__refuse_wrong ?l__refuse_wrong ?c__refuse_wrong ?k__refuse_wrong ?a_step_in ?l_step_in ?c_step_in ?k_step_in ?a_way_in ?l_way_in ?c_way_in ?k_way_in ?a_back ?l_back ?c_back ?k_back ?a_moved ?l_moved ?c_moved ?k_moved ?a_turned ?l_turned ?c_turned ?k_turned ?a_laid ?l_laid ?c_laid ?k_laid ?a_ends_of ?l_ends_of ?c_ends_of ?k_ends_of ?a_ends_in ?l_ends_in ?c_ends_in ?k_ends_in ?a_joints_in ?l_joints_in ?c_joints_in ?k_joints_in ?a_steps_table ?l_steps_table ?c_steps_table ?k_steps_table ?a_cycle ?l_cycle ?c_cycle ?k_cycle ?a_step_train ?l_step_train ?c_step_train ?k_step_train ?a_run_train ?l_run_train ?c_run_train ?k_run_train ?a__law_same ?l__law_same ?c__law_same ?k__law_same ?a_law ?l_law ?c_law ?k_law ?z_enumerate ?z_int ?z_len ?z_list ?z_max ?z_range ?z_repr ?z_set ?z_tuple ?z_zip ?a_ENDS_AHEAD ?V_ENDS_AHEAD ?a_PASSES ?V_PASSES
    (case a__law_turned => k_is); (case l__law_turned => k_is); (case c__law_turned => k_is); (case k__law_turned => k_is)
    (case a__law_laid => k_is); (case l__law_laid => k_is); (case c__law_laid => k_is); (case k__law_laid => k_is)
    (case a__law_lead => k_is); (case l__law_lead => k_is); (case c__law_lead => k_is); (case k__law_lead => k_is)
    (case a__law_back => k_is); (case l__law_back => k_is); (case c__law_back => k_is); (case k__law_back => k_is)
    (case a__law_draw => k_is); (case l__law_draw => k_is); (case c__law_draw => k_is); (case k__law_draw => k_is)
    (case a__law_pieces => k_is); (case l__law_pieces => k_is); (case c__law_pieces => k_is); (case k__law_pieces => k_is)
    (case a__law_ends => k_is); (case l__law_ends => k_is); (case c__law_ends => k_is); (case k__law_ends => k_is)
    (case a__law_seen => k_is); (case l__law_seen => k_is); (case c__law_seen => k_is); (case k__law_seen => k_is)
    (case a__law_attached => k_is); (case l__law_attached => k_is); (case c__law_attached => k_is); (case k__law_attached => k_is)
    (case a__law_all_ends => k_is); (case l__law_all_ends => k_is); (case c__law_all_ends => k_is); (case k__law_all_ends => k_is)
    (case a__law_can_lie => k_is); (case l__law_can_lie => k_is); (case c__law_can_lie => k_is); (case k__law_can_lie => k_is)
    (case a__law_joined => k_is); (case l__law_joined => k_is); (case c__law_joined => k_is); (case k__law_joined => k_is)
    (case a__law_layout => k_is); (case l__law_layout => k_is); (case c__law_layout => k_is); (case k__law_layout => k_is)
    (case a__law_cell => k_is); (case l__law_cell => k_is); (case c__law_cell => k_is); (case k__law_cell => k_is)
    (case a__law_digits => k_is); (case l__law_digits => k_is); (case c__law_digits => k_is); (case k__law_digits => k_is)
    (case a__law_passes => k_is); (case l__law_passes => k_is); (case c__law_passes => k_is); (case k__law_passes => k_is)
    (case a__law_trains => k_is); (case l__law_trains => k_is); (case c__law_trains => k_is); (case k__law_trains => k_is)
    (case a__law_turnouts => k_is); (case l__law_turnouts => k_is); (case c__law_turnouts => k_is); (case k__law_turnouts => k_is)
    (case a__law_thrown => k_is); (case l__law_thrown => k_is); (case c__law_thrown => k_is); (case k__law_thrown => k_is)
    (case a__law_train => k_is); (case l__law_train => k_is); (case c__law_train => k_is); (case k__law_train => k_is)
    (case a_turnouts_in => k_is); (case l_turnouts_in => k_is); (case c_turnouts_in => k_is); (case k_turnouts_in => k_is)
    (case a_refuse_no_turnouts => k_is); (case l_refuse_no_turnouts => k_is); (case c_refuse_no_turnouts => k_is); (case k_refuse_no_turnouts => k_is)
    (case a_refuse_no_train => k_is); (case l_refuse_no_train => k_is); (case c_refuse_no_train => k_is); (case k_refuse_no_train => k_is)
    (case a_trains_of => k_is); (case l_trains_of => k_is); (case c_trains_of => k_is); (case k_trains_of => k_is)
    (case a__refuse_wrong => k_is); (case l__refuse_wrong => k_is); (case c__refuse_wrong => k_is); (case k__refuse_wrong => k_is)
    (case a_step_in => k_is); (case l_step_in => k_is); (case c_step_in => k_is); (case k_step_in => k_is)
    (case a_way_in => k_is); (case l_way_in => k_is); (case c_way_in => k_is); (case k_way_in => k_is)
    (case a_back => k_is); (case l_back => k_is); (case c_back => k_is); (case k_back => k_is)
    (case a_moved => k_is); (case l_moved => k_is); (case c_moved => k_is); (case k_moved => k_is)
    (case a_turned => k_is); (case l_turned => k_is); (case c_turned => k_is); (case k_turned => k_is)
    (case a_laid => k_is); (case l_laid => k_is); (case c_laid => k_is); (case k_laid => k_is)
    (case a_ends_of => k_is); (case l_ends_of => k_is); (case c_ends_of => k_is); (case k_ends_of => k_is)
    (case a_ends_in => k_is); (case l_ends_in => k_is); (case c_ends_in => k_is); (case k_ends_in => k_is)
    (case a_joints_in => k_is); (case l_joints_in => k_is); (case c_joints_in => k_is); (case k_joints_in => k_is)
    (case a_steps_table => k_is); (case l_steps_table => k_is); (case c_steps_table => k_is); (case k_steps_table => k_is)
    (case a_cycle => k_is); (case l_cycle => k_is); (case c_cycle => k_is); (case k_cycle => k_is)
    (case a_step_train => k_is); (case l_step_train => k_is); (case c_step_train => k_is); (case k_step_train => k_is)
    (case a_run_train => k_is); (case l_run_train => k_is); (case c_run_train => k_is); (case k_run_train => k_is)
    (case a__law_same => k_is); (case l__law_same => k_is); (case c__law_same => k_is); (case k__law_same => k_is)
    (case a_law => k_is); (case l_law => k_is); (case c_law => k_is); (case k_law => k_is)
    (case z_enumerate => k_is)
    (case z_int => k_is)
    (case z_len => k_is)
    (case z_list => k_is)
    (case z_max => k_is)
    (case z_range => k_is)
    (case z_repr => k_is)
    (case z_set => k_is)
    (case z_tuple => k_is)
    (case z_zip => k_is)
    (case a_ENDS_AHEAD => k_is)
    case V_ENDS_AHEAD =>
      refine' DN.tab_of ?l ?k ?lo ?t
      (case l => k_is)
      (case k => k_keys)
      (case lo => decide)
      case t =>
        refine' DN.tabk_cons ?n0 ?v0 (DN.tabk_cons ?n1 ?v1 (DN.tabk_cons ?n2 ?v2 (DN.tabk_cons ?n3 ?v3 (DN.tabk_cons ?n4 ?v4 (DN.tabk_cons ?n5 ?v5 (DN.tabk_nil))))))
        (case n0 => k_is)
        case v0 =>
          refine' DN.vd_tup ?l ?z ?v
          (case l => k_is)
          (case z => decide)
          case v =>
            refine' (DN.vds_cons ?q0 DN.vds_nil)
            case q0 =>
              refine' DN.vd_tup ?l ?z ?v
              (case l => k_is)
              (case z => decide)
              (case v => exact (DN.vds_cons DN.vd_int (DN.vds_cons DN.vd_int (DN.vds_cons DN.vd_int (DN.vds_cons DN.vd_int (DN.vds_cons DN.vd_int DN.vds_nil))))))
        (case n1 => k_is)
        case v1 =>
          refine' DN.vd_tup ?l ?z ?v
          (case l => k_is)
          (case z => decide)
          case v =>
            refine' (DN.vds_cons ?q0 DN.vds_nil)
            case q0 =>
              refine' DN.vd_tup ?l ?z ?v
              (case l => k_is)
              (case z => decide)
              (case v => exact (DN.vds_cons DN.vd_int (DN.vds_cons DN.vd_int (DN.vds_cons DN.vd_int (DN.vds_cons DN.vd_int (DN.vds_cons DN.vd_int DN.vds_nil))))))
        (case n2 => k_is)
        case v2 =>
          refine' DN.vd_tup ?l ?z ?v
          (case l => k_is)
          (case z => decide)
          case v =>
            refine' (DN.vds_cons ?q0 DN.vds_nil)
            case q0 =>
              refine' DN.vd_tup ?l ?z ?v
              (case l => k_is)
              (case z => decide)
              (case v => exact (DN.vds_cons DN.vd_int (DN.vds_cons DN.vd_int (DN.vds_cons DN.vd_int (DN.vds_cons DN.vd_int (DN.vds_cons DN.vd_int DN.vds_nil))))))
        (case n3 => k_is)
        case v3 =>
          refine' DN.vd_tup ?l ?z ?v
          (case l => k_is)
          (case z => decide)
          case v =>
            refine' (DN.vds_cons ?q0 (DN.vds_cons ?q1 DN.vds_nil))
            case q0 =>
              refine' DN.vd_tup ?l ?z ?v
              (case l => k_is)
              (case z => decide)
              (case v => exact (DN.vds_cons DN.vd_int (DN.vds_cons DN.vd_int (DN.vds_cons DN.vd_int (DN.vds_cons DN.vd_int (DN.vds_cons DN.vd_int DN.vds_nil))))))
            case q1 =>
              refine' DN.vd_tup ?l ?z ?v
              (case l => k_is)
              (case z => decide)
              (case v => exact (DN.vds_cons DN.vd_int (DN.vds_cons DN.vd_int (DN.vds_cons DN.vd_int (DN.vds_cons DN.vd_int (DN.vds_cons DN.vd_int DN.vds_nil))))))
        (case n4 => k_is)
        case v4 =>
          refine' DN.vd_tup ?l ?z ?v
          (case l => k_is)
          (case z => decide)
          case v =>
            refine' (DN.vds_cons ?q0 (DN.vds_cons ?q1 DN.vds_nil))
            case q0 =>
              refine' DN.vd_tup ?l ?z ?v
              (case l => k_is)
              (case z => decide)
              (case v => exact (DN.vds_cons DN.vd_int (DN.vds_cons DN.vd_int (DN.vds_cons DN.vd_int (DN.vds_cons DN.vd_int (DN.vds_cons DN.vd_int DN.vds_nil))))))
            case q1 =>
              refine' DN.vd_tup ?l ?z ?v
              (case l => k_is)
              (case z => decide)
              (case v => exact (DN.vds_cons DN.vd_int (DN.vds_cons DN.vd_int (DN.vds_cons DN.vd_int (DN.vds_cons DN.vd_int (DN.vds_cons DN.vd_int DN.vds_nil))))))
        (case n5 => k_is)
        case v5 =>
          refine' DN.vd_tup ?l ?z ?v
          (case l => k_is)
          (case z => decide)
          case v =>
            refine' (DN.vds_cons ?q0 (DN.vds_cons ?q1 (DN.vds_cons ?q2 DN.vds_nil)))
            case q0 =>
              refine' DN.vd_tup ?l ?z ?v
              (case l => k_is)
              (case z => decide)
              (case v => exact (DN.vds_cons DN.vd_int (DN.vds_cons DN.vd_int (DN.vds_cons DN.vd_int (DN.vds_cons DN.vd_int (DN.vds_cons DN.vd_int DN.vds_nil))))))
            case q1 =>
              refine' DN.vd_tup ?l ?z ?v
              (case l => k_is)
              (case z => decide)
              (case v => exact (DN.vds_cons DN.vd_int (DN.vds_cons DN.vd_int (DN.vds_cons DN.vd_int (DN.vds_cons DN.vd_int (DN.vds_cons DN.vd_int DN.vds_nil))))))
            case q2 =>
              refine' DN.vd_tup ?l ?z ?v
              (case l => k_is)
              (case z => decide)
              (case v => exact (DN.vds_cons DN.vd_int (DN.vds_cons DN.vd_int (DN.vds_cons DN.vd_int (DN.vds_cons DN.vd_int (DN.vds_cons DN.vd_int DN.vds_nil))))))
    (case a_PASSES => k_is)
    case V_PASSES =>
      refine' DN.tab_of ?l ?k ?lo ?t
      (case l => k_is)
      (case k => k_keys)
      (case lo => decide)
      case t =>
        refine' DN.tabk_cons ?n0 ?v0 (DN.tabk_cons ?n1 ?v1 (DN.tabk_cons ?n2 ?v2 (DN.tabk_cons ?n3 ?v3 (DN.tabk_cons ?n4 ?v4 (DN.tabk_cons ?n5 ?v5 (DN.tabk_nil))))))
        (case n0 => k_is)
        case v0 =>
          refine' DN.vd_tup ?l ?z ?v
          (case l => k_is)
          (case z => decide)
          case v =>
            refine' (DN.vds_cons ?q0 (DN.vds_cons ?q1 DN.vds_nil))
            case q0 =>
              refine' DN.vd_tup ?l ?z ?v
              (case l => k_is)
              (case z => decide)
              (case v => exact (DN.vds_cons DN.vd_int (DN.vds_cons DN.vd_int DN.vds_nil)))
            case q1 =>
              refine' DN.vd_tup ?l ?z ?v
              (case l => k_is)
              (case z => decide)
              (case v => exact (DN.vds_cons DN.vd_int (DN.vds_cons DN.vd_int DN.vds_nil)))
        (case n1 => k_is)
        case v1 =>
          refine' DN.vd_tup ?l ?z ?v
          (case l => k_is)
          (case z => decide)
          case v =>
            refine' (DN.vds_cons ?q0 (DN.vds_cons ?q1 DN.vds_nil))
            case q0 =>
              refine' DN.vd_tup ?l ?z ?v
              (case l => k_is)
              (case z => decide)
              (case v => exact (DN.vds_cons DN.vd_int (DN.vds_cons DN.vd_int DN.vds_nil)))
            case q1 =>
              refine' DN.vd_tup ?l ?z ?v
              (case l => k_is)
              (case z => decide)
              (case v => exact (DN.vds_cons DN.vd_int (DN.vds_cons DN.vd_int DN.vds_nil)))
        (case n2 => k_is)
        case v2 =>
          refine' DN.vd_tup ?l ?z ?v
          (case l => k_is)
          (case z => decide)
          case v =>
            refine' (DN.vds_cons ?q0 (DN.vds_cons ?q1 DN.vds_nil))
            case q0 =>
              refine' DN.vd_tup ?l ?z ?v
              (case l => k_is)
              (case z => decide)
              (case v => exact (DN.vds_cons DN.vd_int (DN.vds_cons DN.vd_int DN.vds_nil)))
            case q1 =>
              refine' DN.vd_tup ?l ?z ?v
              (case l => k_is)
              (case z => decide)
              (case v => exact (DN.vds_cons DN.vd_int (DN.vds_cons DN.vd_int DN.vds_nil)))
        (case n3 => k_is)
        case v3 =>
          refine' DN.vd_tup ?l ?z ?v
          (case l => k_is)
          (case z => decide)
          case v =>
            refine' (DN.vds_cons ?q0 (DN.vds_cons ?q1 (DN.vds_cons ?q2 (DN.vds_cons ?q3 DN.vds_nil))))
            case q0 =>
              refine' DN.vd_tup ?l ?z ?v
              (case l => k_is)
              (case z => decide)
              (case v => exact (DN.vds_cons DN.vd_int (DN.vds_cons DN.vd_int DN.vds_nil)))
            case q1 =>
              refine' DN.vd_tup ?l ?z ?v
              (case l => k_is)
              (case z => decide)
              (case v => exact (DN.vds_cons DN.vd_int (DN.vds_cons DN.vd_int DN.vds_nil)))
            case q2 =>
              refine' DN.vd_tup ?l ?z ?v
              (case l => k_is)
              (case z => decide)
              (case v => exact (DN.vds_cons DN.vd_int (DN.vds_cons DN.vd_int DN.vds_nil)))
            case q3 =>
              refine' DN.vd_tup ?l ?z ?v
              (case l => k_is)
              (case z => decide)
              (case v => exact (DN.vds_cons DN.vd_int (DN.vds_cons DN.vd_int DN.vds_nil)))
        (case n4 => k_is)
        case v4 =>
          refine' DN.vd_tup ?l ?z ?v
          (case l => k_is)
          (case z => decide)
          case v =>
            refine' (DN.vds_cons ?q0 (DN.vds_cons ?q1 (DN.vds_cons ?q2 (DN.vds_cons ?q3 DN.vds_nil))))
            case q0 =>
              refine' DN.vd_tup ?l ?z ?v
              (case l => k_is)
              (case z => decide)
              (case v => exact (DN.vds_cons DN.vd_int (DN.vds_cons DN.vd_int DN.vds_nil)))
            case q1 =>
              refine' DN.vd_tup ?l ?z ?v
              (case l => k_is)
              (case z => decide)
              (case v => exact (DN.vds_cons DN.vd_int (DN.vds_cons DN.vd_int DN.vds_nil)))
            case q2 =>
              refine' DN.vd_tup ?l ?z ?v
              (case l => k_is)
              (case z => decide)
              (case v => exact (DN.vds_cons DN.vd_int (DN.vds_cons DN.vd_int DN.vds_nil)))
            case q3 =>
              refine' DN.vd_tup ?l ?z ?v
              (case l => k_is)
              (case z => decide)
              (case v => exact (DN.vds_cons DN.vd_int (DN.vds_cons DN.vd_int DN.vds_nil)))
        (case n5 => k_is)
        case v5 =>
          refine' DN.vd_tup ?l ?z ?v
          (case l => k_is)
          (case z => decide)
          case v =>
            refine' (DN.vds_cons ?q0 (DN.vds_cons ?q1 (DN.vds_cons ?q2 (DN.vds_cons ?q3 DN.vds_nil))))
            case q0 =>
              refine' DN.vd_tup ?l ?z ?v
              (case l => k_is)
              (case z => decide)
              (case v => exact (DN.vds_cons DN.vd_int (DN.vds_cons DN.vd_int DN.vds_nil)))
            case q1 =>
              refine' DN.vd_tup ?l ?z ?v
              (case l => k_is)
              (case z => decide)
              (case v => exact (DN.vds_cons DN.vd_int (DN.vds_cons DN.vd_int DN.vds_nil)))
            case q2 =>
              refine' DN.vd_tup ?l ?z ?v
              (case l => k_is)
              (case z => decide)
              (case v => exact (DN.vds_cons DN.vd_int (DN.vds_cons DN.vd_int DN.vds_nil)))
            case q3 =>
              refine' DN.vd_tup ?l ?z ?v
              (case l => k_is)
              (case z => decide)
              (case v => exact (DN.vds_cons DN.vd_int (DN.vds_cons DN.vd_int DN.vds_nil)))
