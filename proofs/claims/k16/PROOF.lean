import PyProof.Rows.All
import Wide.All
import OpenK.AllK
import Wide.FinOn
import HandS.ForMost
import HandS.Wide
import HandS.TupAny
import HandS.Ends
import HandS.Zip
import HandS.Style
import HandS.Iter
import HandS.More
import HandS.SortInts
import HandS.Deep
import HandS.Flow
import HandS.NoneIn
import HandS.SortKw
import HandS.Exc
import HandS.ExcField
import HandS.ExcIs
import HandS.TryOnly
import HandS.DictComp
import HandS.WordsExc
import HandS.ExcOwn
import HandS.IsInst
import HandS.TupSets
import HandS.ExcInit
import HandS.FStr
import KE.KExcSuper
import HandS.TryMany
import KE.KDictList
import KE.KDictDisplayH
import PyProof.SeqIndex
import KE.KeyNested
import KE.SortData
import KE.DataMinMax
import KE.SortLaws
import KE.KDictKeyed
import PyProof.StrOps2
import PyProof.SumAny
import PyProof.FactsAll.dict_0
import PyProof.FactsAll.dict_3
import PyProof.Rows.StrCountLaw
import PyProof.ReprLen
import PyProof.ReprRoads
import PyProof.CallFns
import PyProof.Draws
import PyProof.EnumStmt
import PyProof.EnumMake
import KE.GoesMore
import KE.KExcIs
import HandS.Strs
import HandS.SetBool
import KE.GoesSet
import HandS.SetFor
import KE.KDictWalk
import PyProof.MinMaxWalk
import PyProof.WalkInts
import PyProof.SeqI3
import KE.KDictPairs
import HandS.Text
import PyProof.StrLawsIn
import PySem.Challenge.RW_railshut_k16_short_texts
set_option Elab.async false
set_option linter.all false
set_option maxRecDepth 100000
/-! A def's meaning as a plain function over data: the state of a frame is a list of data (or of lists that the frame owns and may change). -/
namespace DN
open PySem PySem.Spec PyProof.Rows L2

abbrev D := PyData
/-- a dict that lasts: with text keys; with keys that are tuples of whole numbers -/
inductive Tabs where
  | txt (kvs : List (Str × D))
  | key (kvs : List (List Int × D))
instance : Coe (List (Str × D)) Tabs := ⟨.txt⟩
/-- what a frame owns and may change: a list, a dict, an instance (with its fields) -/
inductive Pay where
  | dat (d : D)
  | lst (ds : List D)
  | dic (kvs : List (D × D))
  | txt (kvs : List (Str × D))
  | ins (c : Str) (fs : List (Str × Pay))
inductive Ent where
  | dat (d : D)
  | ow (pinned : Bool) (y : Pay)
  | tab (t : Tabs)
abbrev Ent.own (b : Bool) (ds : List D) : Ent := .ow b (.lst ds)
abbrev En := List (Option Ent)
@[simp] def gt : En → Nat → Option Ent
  | [], _ => none
  | e :: _, 0 => e
  | _ :: r, n + 1 => gt r n
theorem gt_eq : ∀ (γ : En) (i : Nat), gt γ i = (γ[i]?).join
  | [], i => by simp [gt]
  | e :: r, 0 => by simp [gt]
  | e :: r, n + 1 => by simpa [gt] using gt_eq r n
theorem gt_set (γ : En) (i j : Nat) (e : Option Ent) : gt (γ.set i e) j = if i = j ∧ i < γ.length then e else gt γ j := by
  rw [gt_eq, gt_eq, List.getElem?_set]
  by_cases h : i = j
  · subst h
    by_cases h2 : i < γ.length
    · simp [h2]
    · simp [h2]
  · simp [h]
theorem gt_lt {γ : En} {i : Nat} {e : Ent} (h : gt γ i = some e) : i < γ.length := by
  rw [gt_eq] at h
  by_cases h2 : i < γ.length
  · exact h2
  · have : γ[i]? = none := by simp; omega
    rw [this] at h; cases h

theorem rd_mono {H H' : Hp} {a : Addr} {u : HO} (s : Same H H') (h : Rd H a u) : Rd H' a u := by
  rcases h with h | ⟨o, h⟩
  · exact .inl (s _ _ h)
  · exact .inr ⟨o, s _ _ h⟩
theorem sql_mono {K : PySem.W.Frag} {H H' : Hp} {a : Addr} {xs : List V} (s : Same H H') (h : SqL K H a xs) : SqL K H' a xs := by
  rcases h with h | h
  · exact .inl (rd_mono s h)
  · exact .inr h
theorem sqt_mono {K : PySem.W.Frag} {H H' : Hp} {a : Addr} {xs : List V} (s : Same H H') (h : SqT K H a xs) : SqT K H' a xs := by
  rcases h with h | h
  · exact .inl (rd_mono s h)
  · exact .inr h

/-! ### keys: tuples of whole numbers, None and such tuples -/
mutual
def keyOf : D → Option NestedKey
  | .none => some .none
  | .int i => some (.num i)
  | .tuple ds => (keysOf ds).map .tup
  | .bool _ => none
  | .str _ => none
  | .list _ => none
  | .dict _ => none
def keysOf : List D → Option (List NestedKey)
  | [] => some []
  | d :: ds => match keyOf d, keysOf ds with
    | some k, some ks => some (k :: ks)
    | _, _ => none
end
mutual
def hashF : NestedKey → Int
  | .none => reduceHash 0xFCA86420
  | .num i => hashInt i
  | .text _ => 0
  | .tup ks => reduceHash (Builtin.Tuple.tupleHashOf (hashFs ks))
def hashFs : List NestedKey → List Int
  | [] => []
  | k :: ks => hashF k :: hashFs ks
end
mutual
theorem hash_eq (w : World) : ∀ {d : D} {k : NestedKey}, keyOf d = some k → k.hash w = hashF k
  | .none, k, h => by rw [keyOf] at h; cases h; rfl
  | .int i, k, h => by rw [keyOf] at h; cases h; rfl
  | .tuple ds, k, h => by
    rw [keyOf] at h
    obtain ⟨ks, e, rfl⟩ := Option.map_eq_some_iff.mp h
    rw [NestedKey.hash, hashF, hashes_eq w e]
  | .bool _, k, h => by rw [keyOf] at h; cases h
  | .str _, k, h => by rw [keyOf] at h; cases h
  | .list _, k, h => by rw [keyOf] at h; cases h
  | .dict _, k, h => by rw [keyOf] at h; cases h
theorem hashes_eq (w : World) : ∀ {ds : List D} {ks : List NestedKey}, keysOf ds = some ks → NestedKey.hashes w ks = hashFs ks
  | [], ks, h => by rw [keysOf] at h; cases h; rfl
  | d :: ds, ks, h => by
    rw [keysOf] at h
    split at h
    · rename_i k ks' e1 e2
      cases h
      rw [NestedKey.hashes, hashFs, hash_eq w e1, hashes_eq w e2]
    · cases h
end
mutual
theorem key_inj : ∀ {d e : D} {k : NestedKey}, keyOf d = some k → keyOf e = some k → d = e
  | .none, e, k, h, h' => by
    rw [keyOf] at h; cases h
    cases e <;> rw [keyOf] at h' <;> first | rfl | cases h' | (obtain ⟨_, _, q⟩ := Option.map_eq_some_iff.mp h'; cases q)
  | .int i, e, k, h, h' => by
    rw [keyOf] at h; cases h
    cases e <;> rw [keyOf] at h' <;> first | (cases h'; rfl) | cases h' | (obtain ⟨_, _, q⟩ := Option.map_eq_some_iff.mp h'; cases q)
  | .tuple ds, e, k, h, h' => by
    rw [keyOf] at h
    obtain ⟨ks, e1, rfl⟩ := Option.map_eq_some_iff.mp h
    cases e with
    | tuple es =>
      rw [keyOf] at h'
      obtain ⟨ks', e2, q⟩ := Option.map_eq_some_iff.mp h'
      cases q
      rw [keys_inj e1 e2]
    | none => rw [keyOf] at h'; cases h'
    | int _ => rw [keyOf] at h'; cases h'
    | bool _ => rw [keyOf] at h'; cases h'
    | str _ => rw [keyOf] at h'; cases h'
    | list _ => rw [keyOf] at h'; cases h'
    | dict _ => rw [keyOf] at h'; cases h'
  | .bool _, e, k, h, _ => by rw [keyOf] at h; cases h
  | .str _, e, k, h, _ => by rw [keyOf] at h; cases h
  | .list _, e, k, h, _ => by rw [keyOf] at h; cases h
  | .dict _, e, k, h, _ => by rw [keyOf] at h; cases h
theorem keys_inj : ∀ {ds es : List D} {ks : List NestedKey}, keysOf ds = some ks → keysOf es = some ks → ds = es
  | [], [], ks, _, _ => rfl
  | [], e :: es, ks, h, h' => by
    rw [keysOf] at h
    cases h
    rw [keysOf] at h'
    split at h' <;> cases h'
  | d :: ds, [], ks, h, h' => by
    rw [keysOf] at h'
    cases h'
    rw [keysOf] at h
    split at h <;> cases h
  | d :: ds, e :: es, ks, h, h' => by
    rw [keysOf] at h
    rw [keysOf] at h'
    split at h
    · rename_i k ks' e1 e2
      cases h
      split at h'
      · rename_i k2 ks2 f1 f2
        cases h'
        rw [key_inj e1 f1, keys_inj e2 f2]
      · cases h'
    · cases h
end
/-- a key as it stands in a dict: a tuple, not too deep -/
def keyD : D → Option NestedKey
  | .tuple ds => match keyOf (.tuple ds) with
    | some k => if k.depth ≤ 8 then some k else none
    | none => none
  | _ => none
theorem keyD_of {d : D} {k : NestedKey} (h : keyD d = some k) : (∃ ds, d = .tuple ds) ∧ keyOf d = some k ∧ k.depth ≤ 8 := by
  unfold keyD at h
  split at h
  · split at h
    · split at h <;> cases h
      rename_i e c
      exact ⟨⟨_, rfl⟩, e, c⟩
    · cases h
  · cases h
def entN (x : NestedKey × Addr × Value) : DictEntry := ⟨hashF x.1, .ref x.2.1, x.2.2⟩
/-- the thing at p is just this object -/
def dnO (p : Addr) (o : Obj) : HO := .ext fun h => h.get? p = some o
/-- the object is a dict with these entries (key, where the key's tuple stands, value) -/
def DictO (o : Obj) (xs : List (NestedKey × Addr × Value)) : Prop := o.ExactDict ∧ ∃ es ep, o.data = .dict es ep ∧ es.toList = xs.map entN
/-! ### values that are data and last -/
mutual
inductive Dp (K : PySem.W.Frag) (H : Hp) : V → PyData → Prop
  | non : Dp K H .non .none
  | bl (b : Bool) : Dp K H (.bl b) (.bool b)
  | int (i : Int) : Dp K H (.int i) (.int i)
  | str (x : Str) : Dp K H (.str x) (.str x)
  | lst {a : Addr} {xs : List V} {ds : List PyData} : SqL K H a xs → DpAll K H xs ds → Dp K H (.ref a) (.list ds)
  | tup {a : Addr} {xs : List V} {ds : List PyData} : SqT K H a xs → DpAll K H xs ds → Dp K H (.ref a) (.tuple ds)
  | dct {a : Addr} {o : Obj} {xs : List (NestedKey × Addr × Value)} {kvs : List (PyData × PyData)} : H a = some (dnO a o) → DictO o xs → DpEnts K H xs kvs → (xs.map (·.1)).Nodup → (a == sysModules) = false → xs.length ≤ sizeLine → Dp K H (.ref a) (.dict kvs)
inductive DpAll (K : PySem.W.Frag) (H : Hp) : List V → List PyData → Prop
  | nil : DpAll K H [] []
  | cons {v : V} {vs : List V} {d : PyData} {ds : List PyData} : Dp K H v d → DpAll K H vs ds → DpAll K H (v :: vs) (d :: ds)
inductive DpEnts (K : PySem.W.Frag) (H : Hp) : List (NestedKey × Addr × Value) → List (PyData × PyData) → Prop
  | nil : DpEnts K H [] []
  | cons {k : NestedKey} {a : Addr} {u : Value} {v : V} {kd d : PyData} {xs : List (NestedKey × Addr × Value)} {kvs : List (PyData × PyData)} : keyD kd = some k → Dp K H (.ref a) kd → RelV v u → Dp K H v d → DpEnts K H xs kvs → DpEnts K H ((k, a, u) :: xs) ((kd, d) :: kvs)
end
mutual
theorem dp_mono {K : PySem.W.Frag} {H H' : Hp} (s : Same H H') : ∀ {v : V} {d : D}, Dp K H v d → Dp K H' v d
  | _, _, .non => .non
  | _, _, .bl b => .bl b
  | _, _, .int i => .int i
  | _, _, .str x => .str x
  | _, _, .lst h a => .lst (sql_mono s h) (dps_mono s a)
  | _, _, .tup h a => .tup (sqt_mono s h) (dps_mono s a)
  | _, _, .dct h1 h2 h3 h4 h5 h6 => .dct (s _ _ h1) h2 (dpe_mono s h3) h4 h5 h6
theorem dps_mono {K : PySem.W.Frag} {H H' : Hp} (s : Same H H') : ∀ {vs : List V} {ds : List D}, DpAll K H vs ds → DpAll K H' vs ds
  | _, _, .nil => .nil
  | _, _, .cons h t => .cons (dp_mono s h) (dps_mono s t)
theorem dpe_mono {K : PySem.W.Frag} {H H' : Hp} (s : Same H H') : ∀ {xs : List (NestedKey × Addr × Value)} {kvs : List (D × D)}, DpEnts K H xs kvs → DpEnts K H' xs kvs
  | _, _, .nil => .nil
  | _, _, .cons h1 h2 h3 h4 t => .cons h1 (dp_mono s h2) h3 (dp_mono s h4) (dpe_mono s t)
end
section
variable {K : PySem.W.Frag} {H : Hp}
theorem dps_len : ∀ {vs : List V} {ds : List D}, DpAll K H vs ds → vs.length = ds.length
  | _, _, .nil => rfl
  | _, _, .cons _ t => congrArg (· + 1) (dps_len t)
theorem dps_app : ∀ {vs us : List V} {ds es : List D}, DpAll K H vs ds → DpAll K H us es → DpAll K H (vs ++ us) (ds ++ es)
  | _, _, _, _, .nil, h => h
  | _, _, _, _, .cons a t, h => .cons a (dps_app t h)
theorem dps_at : ∀ {vs : List V} {ds : List D} {i : Nat} {d : D}, DpAll K H vs ds → ds[i]? = some d → ∃ v, vs[i]? = some v ∧ Dp K H v d
  | _, _, _, _, .nil, e => by simp at e
  | _, _, 0, _, .cons h _, e => by simp at e; subst e; exact ⟨_, rfl, h⟩
  | _, _, i + 1, d, .cons _ t, e => by
    obtain ⟨v, h1, h2⟩ := dps_at (i := i) (d := d) t (by simpa using e)
    exact ⟨v, by simpa using h1, h2⟩
theorem dps_set : ∀ {vs : List V} {ds : List D} {v : V} {d : D} (i : Nat), DpAll K H vs ds → Dp K H v d → DpAll K H (vs.set i v) (ds.set i d)
  | _, _, _, _, _, .nil, _ => .nil
  | _, _, _, _, 0, .cons _ t, h => .cons h t
  | _, _, _, _, i + 1, .cons a t, h => .cons a (dps_set i t h)
theorem dps_take : ∀ {vs : List V} {ds : List D} (n : Nat), DpAll K H vs ds → DpAll K H (vs.take n) (ds.take n)
  | _, _, 0, _ => .nil
  | _, _, _ + 1, .nil => .nil
  | _, _, n + 1, .cons a t => .cons a (dps_take n t)
theorem dps_drop : ∀ {vs : List V} {ds : List D} (n : Nat), DpAll K H vs ds → DpAll K H (vs.drop n) (ds.drop n)
  | _, _, 0, h => h
  | _, _, _ + 1, .nil => .nil
  | _, _, n + 1, .cons _ t => dps_drop n t
end

/-- the last of the pairs with the key -/
@[simp] def tabM : List (Str × D) → Str → Option D → Option D
  | [], _, o => o
  | p :: r, z, o => tabM r z (if p.1 = z then some p.2 else o)
/-- the dict at p, with these entries (key, where the key's tuple stands, value) -/
def dnt (P : Program) (w : World) (p : Addr) (xs : List (List Int × Addr × Value)) : HO := .ext fun h => ∃ o es ep, h.get? p = some o ∧ o.ExactDict ∧ o.data = .dict es ep ∧ es.toList = xs.map (entryOfKey (tupleKind (intKind P w)))
theorem dnt_any {P P' : Program} {w w' : World} {p : Addr} {xs : List (List Int × Addr × Value)} : dnt P w p xs = dnt P' w' p xs := rfl
/-- an entry of a dict that lasts -/
def EntK (K : PySem.W.Frag) (Hk : Hp) (x : List Int × Addr × Value) (kv : List Int × D) : Prop := x.1 = kv.1 ∧ Dp K Hk (.ref x.2.1) (.tuple (kv.1.map .int)) ∧ ∃ v, RelV v x.2.2 ∧ Dp K Hk v kv.2
/-- v is a dict that lasts -/
def Tb (K : PySem.W.Frag) (Hk : Hp) (v : V) : Tabs → Prop
  | .txt kvs => ∃ p kvs', v = .ref p ∧ Hk p = some (.dK kvs') ∧ ∀ z x, tabM kvs z none = some x → ∃ u, valV kvs' (Sum.inr z) = some u ∧ Dp K Hk u x
  | .key kvs => ∃ P w p xs, v = .ref p ∧ Hk p = some (dnt P w p xs) ∧ PySem.W.EachIs (EntK K Hk) xs kvs ∧ (xs.map (·.1)).Nodup ∧ (p == sysModules) = false ∧ xs.length ≤ sizeLine
theorem Tb.mono {K : PySem.W.Frag} {H H' : Hp} {v : V} {t : Tabs} (s : Same H H') (h : Tb K H v t) : Tb K H' v t := by
  cases t with
  | txt kvs =>
    obtain ⟨p, kvs', e, hp, t⟩ := h
    refine ⟨p, kvs', e, s _ _ hp, fun z x q => ?_⟩
    obtain ⟨u, e1, r⟩ := t z x q
    exact ⟨u, e1, dp_mono s r⟩
  | key kvs =>
    obtain ⟨P, w, p, xs, e, hp, r, n, q, z⟩ := h
    exact ⟨P, w, p, xs, e, s _ _ hp, r.mono fun x kv ⟨a, b, v, c, d⟩ => ⟨a, dp_mono s b, v, c, dp_mono s d⟩, n, q, z⟩
/-- a dict with text keys, as it stands -/
def TxtIs (K : PySem.W.Frag) (Hk : Hp) (kvs' : List (Key × V)) (kvs : List (Str × D)) : Prop := kvs'.length ≤ kvs.length ∧ ∀ z, (∀ x, tabM kvs z none = some x → ∃ u, valV kvs' (Sum.inr z) = some u ∧ Dp K Hk u x) ∧ (tabM kvs z none = none → valV kvs' (Sum.inr z) = none)
theorem TxtIs.mono {K : PySem.W.Frag} {H H' : Hp} {kvs' : List (Key × V)} {kvs : List (Str × D)} (s : Same H H') (h : TxtIs K H kvs' kvs) : TxtIs K H' kvs' kvs :=
  ⟨h.1, fun z => ⟨fun x e => let ⟨u, e1, r⟩ := (h.2 z).1 x e; ⟨u, e1, dp_mono s r⟩, (h.2 z).2⟩⟩
/-- the class at C has the name c -/
def ClsIs (K : PySem.W.Frag) (c : Str) (C : Addr) : Prop := PySem.W.nsIn K mainGlobals c = some (some (.ref C))
/-! ### what is owned: v is the payload y; the addresses that belong to it -/
mutual
inductive OwnV (K : PySem.W.Frag) (H Hk : Hp) : V → Pay → List Addr → Prop
  | dat {v : V} {d : D} : Dp K Hk v d → OwnV K H Hk v (.dat d) []
  | lst {p : Addr} {vs : List V} {ds : List D} : H p = some (.lst vs) → Hk p = none → DpAll K Hk vs ds → OwnV K H Hk (.ref p) (.lst ds) [p]
  | dic {p : Addr} {o : Obj} {xs : List (NestedKey × Addr × Value)} {kvs : List (D × D)} : H p = some (dnO p o) → Hk p = none → DictO o xs → DpEnts K Hk xs kvs → (xs.map (·.1)).Nodup → (p == sysModules) = false → xs.length ≤ sizeLine → OwnV K H Hk (.ref p) (.dic kvs) [p]
  | txt {p : Addr} {kvs' : List (Key × V)} {kvs : List (Str × D)} : H p = some (.dK kvs') → Hk p = none → TxtIs K Hk kvs' kvs → OwnV K H Hk (.ref p) (.txt kvs) [p]
  | ins {p C dx : Addr} {fvs : List (Str × V)} {c : Str} {fs : List (Str × Pay)} {fp : List Addr} : H p = some (.ins C dx fvs) → H dx = some (.own p) → Hk p = none → Hk dx = none → ClsIs K c C → OwnFs K H Hk fvs fs fp → p ∉ fp → dx ∉ fp → p ≠ dx → OwnV K H Hk (.ref p) (.ins c fs) (p :: dx :: fp)
inductive OwnFs (K : PySem.W.Frag) (H Hk : Hp) : List (Str × V) → List (Str × Pay) → List Addr → Prop
  | nil : OwnFs K H Hk [] [] []
  | cons {f : Str} {v : V} {y : Pay} {fvs : List (Str × V)} {fs : List (Str × Pay)} {fp fq : List Addr} : OwnV K H Hk v y fp → OwnFs K H Hk fvs fs fq → (∀ a ∈ fp, a ∉ fq) → OwnFs K H Hk ((f, v) :: fvs) ((f, y) :: fs) (fp ++ fq)
end
section
variable {K : PySem.W.Frag} {H Hk H' Hk' : Hp}
mutual
theorem OwnV.det : ∀ {v : V} {y : Pay} {fp fq : List Addr}, OwnV K H Hk v y fp → OwnV K H Hk v y fq → fp = fq
  | _, _, _, _, .dat _, .dat _ => rfl
  | _, _, _, _, .lst _ _ _, .lst _ _ _ => rfl
  | _, _, _, _, .dic _ _ _ _ _ _ _, .dic _ _ _ _ _ _ _ => rfl
  | _, _, _, _, .txt _ _ _, .txt _ _ _ => rfl
  | _, _, _, _, .ins a1 _ _ _ _ a6 _ _ _, .ins b1 _ _ _ _ b6 _ _ _ => by
    rw [a1] at b1
    cases b1
    rw [OwnFs.det a6 b6]
theorem OwnFs.det : ∀ {vs : List (Str × V)} {fs : List (Str × Pay)} {fp fq : List Addr}, OwnFs K H Hk vs fs fp → OwnFs K H Hk vs fs fq → fp = fq
  | _, _, _, _, .nil, .nil => rfl
  | _, _, _, _, .cons a1 a2 _, .cons b1 b2 _ => by rw [OwnV.det a1 b1, OwnFs.det a2 b2]
end
mutual
theorem OwnV.at : ∀ {v : V} {y : Pay} {fp : List Addr}, OwnV K H Hk v y fp → ∀ a ∈ fp, (∃ u, H a = some u) ∧ Hk a = none
  | _, _, _, .dat _, a, h => by cases h
  | _, _, _, .lst h1 h2 _, a, h => by
    obtain rfl := List.mem_singleton.mp h
    exact ⟨⟨_, h1⟩, h2⟩
  | _, _, _, .dic h1 h2 _ _ _ _ _, a, h => by
    obtain rfl := List.mem_singleton.mp h
    exact ⟨⟨_, h1⟩, h2⟩
  | _, _, _, .txt h1 h2 _, a, h => by
    obtain rfl := List.mem_singleton.mp h
    exact ⟨⟨_, h1⟩, h2⟩
  | _, _, _, .ins h1 h2 h3 h4 _ h6 _ _ _, a, h => by
    rcases List.mem_cons.mp h with rfl | h
    · exact ⟨⟨_, h1⟩, h3⟩
    · rcases List.mem_cons.mp h with rfl | h
      · exact ⟨⟨_, h2⟩, h4⟩
      · exact OwnFs.at h6 a h
theorem OwnFs.at : ∀ {vs : List (Str × V)} {fs : List (Str × Pay)} {fp : List Addr}, OwnFs K H Hk vs fs fp → ∀ a ∈ fp, (∃ u, H a = some u) ∧ Hk a = none
  | _, _, _, .nil, a, h => by cases h
  | _, _, _, .cons h1 h2 _, a, h => by
    rcases List.mem_append.mp h with h | h
    · exact OwnV.at h1 a h
    · exact OwnFs.at h2 a h
end
mutual
theorem OwnV.to (s : Same Hk Hk') : ∀ {v : V} {y : Pay} {fp : List Addr}, OwnV K H Hk v y fp → (∀ a ∈ fp, ∀ u, H a = some u → H' a = some u) → (∀ a ∈ fp, Hk' a = none) → OwnV K H' Hk' v y fp
  | _, _, _, .dat h, _, _ => .dat (dp_mono s h)
  | _, _, _, .lst h1 h2 h3, k, n => .lst (k _ (by simp) _ h1) (n _ (by simp)) (dps_mono s h3)
  | _, _, _, .dic h1 h2 h3 h4 h5 h6 h7, k, n => .dic (k _ (by simp) _ h1) (n _ (by simp)) h3 (dpe_mono s h4) h5 h6 h7
  | _, _, _, .txt h1 h2 h3, k, n => .txt (k _ (by simp) _ h1) (n _ (by simp)) (h3.mono s)
  | _, _, _, .ins h1 h2 h3 h4 h5 h6 h7 h8 h9, k, n => .ins (k _ (by simp) _ h1) (k _ (by simp) _ h2) (n _ (by simp)) (n _ (by simp)) h5 (OwnFs.to s h6 (fun a ha => k a (by simp [ha])) (fun a ha => n a (by simp [ha]))) h7 h8 h9
theorem OwnFs.to (s : Same Hk Hk') : ∀ {vs : List (Str × V)} {fs : List (Str × Pay)} {fp : List Addr}, OwnFs K H Hk vs fs fp → (∀ a ∈ fp, ∀ u, H a = some u → H' a = some u) → (∀ a ∈ fp, Hk' a = none) → OwnFs K H' Hk' vs fs fp
  | _, _, _, .nil, _, _ => .nil
  | _, _, _, .cons h1 h2 h3, k, n => .cons (OwnV.to s h1 (fun a ha => k a (by simp [ha])) (fun a ha => n a (by simp [ha]))) (OwnFs.to s h2 (fun a ha => k a (by simp [ha])) (fun a ha => n a (by simp [ha]))) h3
end
end
/-- the frame's slots σ, the heap H and its lasting part Hk are as γ tells -/
structure Ok (K : PySem.W.Frag) (σ : L2.St) (H Hk : Hp) (γ : En) : Prop where
  len : σ.length = γ.length
  sub : Same Hk H
  dat : ∀ i d, gt γ i = some (.dat d) → ∃ v, σ[i]? = some (some v) ∧ Dp K Hk v d
  ow : ∀ i b y, gt γ i = some (.ow b y) → ∃ v fp, σ[i]? = some (some v) ∧ OwnV K H Hk v y fp
  pin : ∀ i y, gt γ i = some (.ow true y) → i = 0
  sep : ∀ i j b c y z v u fp fq, gt γ i = some (.ow b y) → gt γ j = some (.ow c z) → σ[i]? = some (some v) → σ[j]? = some (some u) → OwnV K H Hk v y fp → OwnV K H Hk u z fq → ∀ a, a ∈ fp → a ∈ fq → i = j
  tab : ∀ i kvs, gt γ i = some (.tab kvs) → ∃ v, σ[i]? = some (some v) ∧ Tb K Hk v kvs
theorem Ok.own {K : PySem.W.Frag} {σ : L2.St} {H Hk : Hp} {γ : En} (o : Ok K σ H Hk γ) (i : Nat) (b : Bool) (ds : List D) (h : gt γ i = some (.own b ds)) : ∃ p vs, σ[i]? = some (some (.ref p)) ∧ H p = some (.lst vs) ∧ Hk p = none ∧ DpAll K Hk vs ds := by
  obtain ⟨v, fp, e, r⟩ := o.ow i b _ h
  cases r with
  | lst h1 h2 h3 => exact ⟨_, _, e, h1, h2, h3⟩
/-- the addresses that the frame owns -/
def OwnA (K : PySem.W.Frag) (σ : L2.St) (H Hk : Hp) (γ : En) (a : Addr) : Prop := ∃ i b y v fp, gt γ i = some (.ow b y) ∧ σ[i]? = some (some v) ∧ OwnV K H Hk v y fp ∧ a ∈ fp
theorem OwnA.at {K : PySem.W.Frag} {σ : L2.St} {H Hk : Hp} {γ : En} {a : Addr} (h : OwnA K σ H Hk γ a) : (∃ u, H a = some u) ∧ Hk a = none := by
  obtain ⟨i, b, y, v, fp, _, _, r, m⟩ := h
  exact r.at a m
theorem own_mine {K : PySem.W.Frag} {σ : L2.St} {H Hk : Hp} {γ : En} {i : Nat} {b : Bool} {ds : List D} {p : Addr} (o : Ok K σ H Hk γ) (h : gt γ i = some (.own b ds)) (e : σ[i]? = some (some (.ref p))) : OwnA K σ H Hk γ p := by
  obtain ⟨v, fp, e', r⟩ := o.ow i b _ h
  rw [e] at e'; cases e'
  cases r with
  | lst h1 h2 h3 => exact ⟨i, b, _, _, _, h, e, .lst h1 h2 h3, by simp⟩
/-- from one situation to a later one -/
structure Go (K : PySem.W.Frag) (σ : L2.St) (H Hk : Hp) (γ : En) (σ2 : L2.St) (H2 Hk2 : Hp) (γ2 : En) : Prop where
  ok : Ok K σ2 H2 Hk2 γ2
  kk : Same Hk Hk2
  nw : ∀ a u, Hk2 a = some u → Hk a = none → H a = none ∨ OwnA K σ H Hk γ a
  kp : ∀ a u, H a = some u → ¬ OwnA K σ H Hk γ a → H2 a = some u
  sh : ∀ a, OwnA K σ2 H2 Hk2 γ2 a → OwnA K σ H Hk γ a ∨ H a = none
  pn : ∀ i y, gt γ i = some (.ow true y) → σ2[i]? = σ[i]? ∧ ∃ z, gt γ2 i = some (.ow true z)
theorem Go.refl {K : PySem.W.Frag} {σ : L2.St} {H Hk : Hp} {γ : En} (o : Ok K σ H Hk γ) : Go K σ H Hk γ σ H Hk γ :=
  ⟨o, Same.refl _, fun a u h n => (by rw [h] at n; cases n), fun _ _ h _ => h, fun _ h => .inl h, fun i y h => ⟨rfl, y, h⟩⟩
theorem Go.trans {K : PySem.W.Frag} {σ σ1 σ2 : L2.St} {H Hk H1 Hk1 H2 Hk2 : Hp} {γ γ1 γ2 : En} (a : Go K σ H Hk γ σ1 H1 Hk1 γ1) (b : Go K σ1 H1 Hk1 γ1 σ2 H2 Hk2 γ2) : Go K σ H Hk γ σ2 H2 Hk2 γ2 := by
  have back : ∀ x, H1 x = none → H x = none ∨ OwnA K σ H Hk γ x := fun x h => by
    by_cases ho : OwnA K σ H Hk γ x
    · exact .inr ho
    · cases e : H x with
      | none => exact .inl rfl
      | some u => have := a.kp x u e ho; rw [h] at this; cases this
  refine ⟨b.ok, a.kk.trans b.kk, fun x u h n => ?_, fun x u h no => ?_, fun x h => ?_, fun i ds h => ?_⟩
  · cases e : Hk1 x with
    | some u' => exact a.nw x u' e n
    | none =>
      rcases b.nw x u h e with z | z
      · exact back x z
      · rcases a.sh x z with z | z
        · exact .inr z
        · exact .inl z
  · refine b.kp x u (a.kp x u h no) fun z => ?_
    rcases a.sh x z with z | z
    · exact no z
    · rw [h] at z; cases z
  · rcases b.sh x h with z | z
    · exact a.sh x z
    · rcases back x z with z | z
      · exact .inr z
      · exact .inl z
  · obtain ⟨e1, es, h1⟩ := a.pn i ds h
    obtain ⟨e2, es2, h2⟩ := b.pn i es h1
    exact ⟨e2.trans e1, es2, h2⟩
/-- the heap grows, nothing is changed -/
structure Grow (H Hk H2 Hk2 : Hp) : Prop where
  hh : Same H H2
  kk : Same Hk Hk2
  sub : Same Hk2 H2
  nw : ∀ a u, Hk2 a = some u → Hk a = none → H a = none
theorem Grow.refl {H Hk : Hp} (s : Same Hk H) : Grow H Hk H Hk := ⟨Same.refl _, Same.refl _, s, fun a u h n => (by rw [h] at n; cases n)⟩
theorem same_upd {H : Hp} {p : Addr} {o : HO} (h : H p = none) : Same H (upd H p o) := fun b x e => by
  rw [upd_ne (ne_of_none e h)]; exact e
theorem Grow.new {H Hk : Hp} {p : Addr} {o : HO} (s : Same Hk H) (h : H p = none) : Grow H Hk (upd H p o) (upd Hk p o) := by
  have hk : Hk p = none := s.free h
  refine ⟨same_upd h, same_upd hk, fun b x e => ?_, fun a u e n => ?_⟩
  · by_cases hb : b = p
    · subst hb; rw [upd_same] at e ⊢; exact e
    · rw [upd_ne hb] at e ⊢; exact s _ _ e
  · by_cases hb : a = p
    · subst hb; exact h
    · rw [upd_ne hb, n] at e; cases e
theorem Grow.newH {H Hk : Hp} {p : Addr} {o : HO} (s : Same Hk H) (h : H p = none) : Grow H Hk (upd H p o) Hk :=
  ⟨same_upd h, Same.refl _, s.trans (same_upd h), fun a u e n => (by rw [e] at n; cases n)⟩
theorem Grow.trans {H Hk H1 Hk1 H2 Hk2 : Hp} (a : Grow H Hk H1 Hk1) (b : Grow H1 Hk1 H2 Hk2) : Grow H Hk H2 Hk2 :=
  ⟨a.hh.trans b.hh, a.kk.trans b.kk, b.sub, fun x u h n => (by
    cases e : Hk1 x with
    | some u' => exact a.nw x u' e n
    | none => exact a.hh.free (b.nw x u h e))⟩
theorem Grow.free {H Hk H2 Hk2 : Hp} (g : Grow H Hk H2 Hk2) {a : Addr} (h : ∃ u, H a = some u) (n : Hk a = none) : Hk2 a = none := by
  obtain ⟨u, h⟩ := h
  cases q : Hk2 a with
  | none => rfl
  | some u' => have := g.nw a u' q n; rw [h] at this; cases this
theorem OwnV.grow {K : PySem.W.Frag} {H Hk H2 Hk2 : Hp} (g : Grow H Hk H2 Hk2) {v : V} {y : Pay} {fp : List Addr} (h : OwnV K H Hk v y fp) : OwnV K H2 Hk2 v y fp :=
  h.to g.kk (fun a _ u e => g.hh a u e) fun a ha => g.free (h.at a ha).1 (h.at a ha).2
theorem Ok.grow {K : PySem.W.Frag} {σ : L2.St} {H Hk H2 Hk2 : Hp} {γ : En} (o : Ok K σ H Hk γ) (g : Grow H Hk H2 Hk2) : Ok K σ H2 Hk2 γ := by
  refine ⟨o.len, g.sub, fun i d h => ?_, fun i b y h => ?_, o.pin, fun i j b c y z v u fp fq ei ej vi vj ri rj a hi hj => ?_, fun i kvs h => (let ⟨v, e, r⟩ := o.tab i kvs h; ⟨v, e, r.mono g.kk⟩)⟩
  · obtain ⟨v, e, r⟩ := o.dat i d h
    exact ⟨v, e, dp_mono g.kk r⟩
  · obtain ⟨v, fp, e, r⟩ := o.ow i b y h
    exact ⟨v, fp, e, r.grow g⟩
  · obtain ⟨v', fp', e1, r1⟩ := o.ow i b y ei
    obtain ⟨u', fq', e2, r2⟩ := o.ow j c z ej
    rw [vi] at e1; cases e1
    rw [vj] at e2; cases e2
    rw [ri.det (r1.grow g)] at hi
    rw [rj.det (r2.grow g)] at hj
    exact o.sep _ _ _ _ _ _ _ _ _ _ ei ej vi vj r1 r2 a hi hj
theorem OwnA.grown {K : PySem.W.Frag} {σ : L2.St} {H Hk H2 Hk2 : Hp} {γ : En} (o : Ok K σ H Hk γ) (g : Grow H Hk H2 Hk2) {a : Addr} (h : OwnA K σ H2 Hk2 γ a) : OwnA K σ H Hk γ a := by
  obtain ⟨i, b, y, v, fp, e, ev, r, m⟩ := h
  obtain ⟨v', fp', e1, r1⟩ := o.ow i b y e
  rw [ev] at e1; cases e1
  exact ⟨i, b, y, v, fp', e, ev, r1, by rw [← r.det (r1.grow g)]; exact m⟩
theorem Ok.go {K : PySem.W.Frag} {σ : L2.St} {H Hk H2 Hk2 : Hp} {γ : En} (o : Ok K σ H Hk γ) (g : Grow H Hk H2 Hk2) : Go K σ H Hk γ σ H2 Hk2 γ :=
  ⟨o.grow g, g.kk, fun a u h n => .inl (g.nw a u h n), fun a u h _ => g.hh _ _ h, fun _ h => .inl (h.grown o g), fun i ds h => ⟨rfl, ds, h⟩⟩

/-- an owned dict, seen -/
def VwD (K : PySem.W.Frag) (H Hk : Hp) (v : V) (d : D) : Prop := ∃ p o xs kvs, v = .ref p ∧ d = .dict kvs ∧ H p = some (dnO p o) ∧ DictO o xs ∧ DpEnts K Hk xs kvs ∧ (xs.map (·.1)).Nodup ∧ (p == sysModules) = false ∧ xs.length ≤ sizeLine
/-- a value seen as data: lasting, or a list or a dict that is owned -/
def Vw (K : PySem.W.Frag) (H Hk : Hp) (v : V) (d : D) : Prop := Dp K Hk v d ∨ (∃ p vs ds, v = .ref p ∧ d = .list ds ∧ H p = some (.lst vs) ∧ DpAll K Hk vs ds) ∨ VwD K H Hk v d
section
variable {K : PySem.W.Frag} {H Hk : Hp} {v : V}
theorem Vw.own {p : Addr} {vs : List V} {ds : List D} (h : H p = some (.lst vs)) (r : DpAll K Hk vs ds) : Vw K H Hk (.ref p) (.list ds) := .inr (.inl ⟨p, vs, ds, rfl, rfl, h, r⟩)
theorem Vw.flat {d : D} (h : Vw K H Hk v d) (n1 : ∀ ds, d ≠ .list ds) (n2 : ∀ ds, d ≠ .dict ds) : Dp K Hk v d := by
  rcases h with h | ⟨p, vs, ds, _, e, _⟩ | ⟨p, o, xs, kvs, _, e, _⟩
  · exact h
  · exact absurd e (n1 _)
  · exact absurd e (n2 _)
theorem Vw.int {i : Int} (h : Vw K H Hk v (.int i)) : v = .int i := by
  have h := h.flat (fun _ => nofun) (fun _ => nofun)
  cases h; rfl
theorem Vw.str {i : Str} (h : Vw K H Hk v (.str i)) : v = .str i := by
  have h := h.flat (fun _ => nofun) (fun _ => nofun)
  cases h; rfl
theorem Vw.bl {i : Bool} (h : Vw K H Hk v (.bool i)) : v = .bl i := by
  have h := h.flat (fun _ => nofun) (fun _ => nofun)
  cases h; rfl
theorem Vw.non (h : Vw K H Hk v .none) : v = .non := by
  have h := h.flat (fun _ => nofun) (fun _ => nofun)
  cases h; rfl
theorem Vw.tup {ds : List D} (s : Same Hk H) (h : Vw K H Hk v (.tuple ds)) : ∃ p vs, v = .ref p ∧ SqT K H p vs ∧ DpAll K Hk vs ds := by
  have h := h.flat (fun _ => nofun) (fun _ => nofun)
  cases h with
  | tup k a => exact ⟨_, _, rfl, sqt_mono s k, a⟩
theorem Vw.lst {ds : List D} (s : Same Hk H) (h : Vw K H Hk v (.list ds)) : ∃ p vs, v = .ref p ∧ SqL K H p vs ∧ DpAll K Hk vs ds := by
  rcases h with h | ⟨p, vs, ds, e1, e, hp, a⟩ | ⟨p, o, xs, kvs, _, e, _⟩
  · cases h with
    | lst h a => exact ⟨_, _, rfl, sql_mono s h, a⟩
  · cases e; exact ⟨p, vs, e1, .inl (.inl hp), a⟩
  · cases e
theorem Vw.dct {kvs : List (D × D)} (s : Same Hk H) (h : Vw K H Hk v (.dict kvs)) : ∃ p o xs, v = .ref p ∧ H p = some (dnO p o) ∧ DictO o xs ∧ DpEnts K Hk xs kvs ∧ (xs.map (·.1)).Nodup ∧ (p == sysModules) = false ∧ xs.length ≤ sizeLine := by
  rcases h with h | ⟨p, vs, ds, e1, e, hp, a⟩ | ⟨p, o, xs, kvs, e1, e, r⟩
  · cases h with
    | dct h1 h2 h3 h4 h5 h6 => exact ⟨_, _, _, rfl, s _ _ h1, h2, h3, h4, h5, h6⟩
  · cases e
  · cases e; exact ⟨p, o, xs, e1, r⟩
theorem Vw.dp {d : D} (s : Same Hk H) (h : Vw K H Hk v d) : Dp K H v d := by
  rcases h with h | ⟨p, vs, ds, rfl, rfl, hp, a⟩ | ⟨p, o, xs, kvs, rfl, rfl, h1, h2, h3, h4, h5, h6⟩
  · exact dp_mono s h
  · exact .lst (SqL.of hp) (dps_mono s a)
  · exact .dct h1 h2 (dpe_mono s h3) h4 h5 h6
end
/-! ### readings by functions -/
abbrev Fe := En → Option (D × En)
def tI (K : PySem.W.Frag) (f : Fe) : TE := fun σ H Q => ∃ γ Hk d γ2, Ok K σ H Hk γ ∧ f γ = some (d, γ2) ∧ ∀ v H2 Hk2, Go K σ H Hk γ σ H2 Hk2 γ2 → Dp K Hk2 v d → Q v H2
theorem PE.imp {X : Cx} {e : Expr} {t t' : TE} (h : PE X e t) (i : ∀ σ H Q, t' σ H Q → t σ H Q) : PE X e t' := ⟨fun pins s σ H Q I q => h.run pins s σ H Q I (i _ _ _ q)⟩
theorem PT.imp {X : Cx} {e : Expr} {t t' : TT} (h : PT X e t) (i : ∀ σ H Q, t' σ H Q → t σ H Q) : PT X e t' := ⟨fun pins s σ H Q I q => h.run pins s σ H Q I (i _ _ _ q)⟩
theorem PA.imp {X : Cx} {e : List Expr} {t t' : TA} (h : PA X e t) (i : ∀ σ H Q, t' σ H Q → t σ H Q) : PA X e t' := ⟨fun pos pins s σ H Q I q => h.run pos pins s σ H Q I (i _ _ _ q)⟩
theorem PS.imp {X : Cx} {e : Stmt} {t t' : TS} (h : PS X e t) (i : ∀ D σ H, t' D σ H → t D σ H) : PS X e t' := ⟨fun pins s σ H D I q => h.run pins s σ H D I (i _ _ _ q)⟩
theorem PSs.imp {X : Cx} {e : List Stmt} {t t' : TS} (h : PSs X e t) (i : ∀ D σ H, t' D σ H → t D σ H) : PSs X e t' := ⟨fun pins s σ H D I q => h.run pins s σ H D I (i _ _ _ q)⟩
def EV (X : Cx) (e : Expr) (f : Fe) : Prop := PE X e (tI X.K f)
/-- names -/
@[simp] def view (γ : En) (i : Nat) : Option D := match gt γ i with
  | some (.dat d) => some d
  | some (.ow _ (.lst ds)) => some (.list ds)
  | some (.ow _ (.dic kvs)) => some (.dict kvs)
  | _ => none
theorem Ok.view {K : PySem.W.Frag} {σ : L2.St} {H Hk : Hp} {γ : En} (o : Ok K σ H Hk γ) {i : Nat} {d : D} (h : DN.view γ i = some d) : ∃ v, σ[i]? = some (some v) ∧ Vw K H Hk v d := by
  unfold DN.view at h
  split at h
  · rename_i d' e
    cases h
    obtain ⟨v, e1, r⟩ := o.dat i _ e
    exact ⟨v, e1, .inl r⟩
  · rename_i b ds e
    cases h
    obtain ⟨v, fp, e1, r⟩ := o.ow i _ _ e
    cases r with
    | lst h1 h2 h3 => exact ⟨_, e1, .own h1 h3⟩
  · rename_i b ds e
    cases h
    obtain ⟨v, fp, e1, r⟩ := o.ow i _ _ e
    cases r with
    | dic h1 h2 h3 h4 h5 h6 h7 => exact ⟨_, e1, .inr (.inr ⟨_, _, _, _, rfl, rfl, h1, h3, h4, h5, h6, h7⟩)⟩
  · cases h
@[simp] def fN (i : Nat) : Fe := fun γ => match gt γ i with
  | some (.dat d) => some (d, γ)
  | some (.ow false (.lst ds)) => some (.list ds, γ.set i (some (.dat (.list ds))))
  | some (.ow false (.dic kvs)) => some (.dict kvs, γ.set i (some (.dat (.dict kvs))))
  | _ => none
/-- what an owned thing is that is given away for good -/
def payD : Pay → Option D
  | .lst ds => some (.list ds)
  | .dic kvs => some (.dict kvs)
  | _ => none
theorem OwnV.give {K : PySem.W.Frag} {H Hk : Hp} {v : V} {y : Pay} {fp : List Addr} {d : D} (h : OwnV K H Hk v y fp) (e : payD y = some d) (s : Same Hk H) : ∃ p u, v = .ref p ∧ fp = [p] ∧ H p = some u ∧ Hk p = none ∧ Dp K (upd Hk p u) v d := by
  cases h with
  | dat _ => cases e
  | txt _ _ _ => cases e
  | ins _ _ _ _ _ _ _ _ _ => cases e
  | lst h1 h2 h3 => cases e; exact ⟨_, _, rfl, rfl, h1, h2, .lst (SqL.of upd_same) (dps_mono (same_upd h2) h3)⟩
  | dic h1 h2 h3 h4 h5 h6 h7 => cases e; exact ⟨_, _, rfl, rfl, h1, h2, .dct upd_same h3 (dpe_mono (same_upd h2) h4) h5 h6 h7⟩
theorem Ok.release {K : PySem.W.Frag} {σ : L2.St} {H Hk : Hp} {γ : En} (o : Ok K σ H Hk γ) {i : Nat} {y : Pay} {d : D} (h : gt γ i = some (.ow false y)) (ed : payD y = some d) :
    ∃ v Hk2, σ[i]? = some (some v) ∧ Go K σ H Hk γ σ H Hk2 (γ.set i (some (.dat d))) ∧ Dp K Hk2 v d := by
  obtain ⟨v, fp, e1, r⟩ := o.ow i _ _ h
  obtain ⟨p, u, rfl, rfl, hp, hn, hd⟩ := r.give ed o.sub
  have hs : Same Hk (upd Hk p u) := same_upd hn
  have hi := gt_lt h
  have old : ∀ {j b z w fq}, gt γ j = some (.ow b z) → ¬ (i = j ∧ i < γ.length) → σ[j]? = some (some w) → OwnV K H Hk w z fq → OwnV K H (upd Hk p u) w z fq := fun {j b z w fq} e c e2 r2 => by
    refine r2.to hs (fun _ _ _ q => q) fun a ha => ?_
    rw [upd_ne ?_]
    · exact (r2.at a ha).2
    · rintro rfl
      exact c ⟨o.sep _ _ _ _ _ _ _ _ _ _ h e e1 e2 r r2 _ (by simp) ha, hi⟩
  have get : ∀ {j b z}, gt (γ.set i (some (.dat d))) j = some (.ow b z) → gt γ j = some (.ow b z) ∧ ¬ (i = j ∧ i < γ.length) := fun {j b z} e => by
    rw [gt_set] at e
    split at e
    · cases e
    · rename_i c; exact ⟨e, c⟩
  have back : ∀ {j b z w fq}, gt (γ.set i (some (.dat d))) j = some (.ow b z) → σ[j]? = some (some w) → OwnV K H (upd Hk p u) w z fq → OwnV K H Hk w z fq := fun {j b z w fq} e e2 r2 => by
    obtain ⟨e, c⟩ := get e
    obtain ⟨w', fq', e3, r3⟩ := o.ow j b z e
    rw [e2] at e3; cases e3
    rw [r2.det (old e c e2 r3)]
    exact r3
  refine ⟨.ref p, upd Hk p u, e1, ⟨⟨by rw [List.length_set]; exact o.len, fun b x e => ?_, fun j d e => ?_, fun j b es e => ?_, fun j es e => ?_, fun j k b c y z w w' fq fr ej ek vj vk rj rk => ?_, fun j kvs e => ?_⟩, hs, fun a u e n => ?_, fun _ _ e _ => e, fun a e => ?_, fun j es e => ?_⟩, hd⟩
  · by_cases hb : b = p
    · subst hb; rw [upd_same] at e; cases e; exact hp
    · rw [upd_ne hb] at e; exact o.sub _ _ e
  · rw [gt_set] at e
    split at e
    · rename_i c; obtain ⟨rfl, _⟩ := c
      cases e
      exact ⟨_, e1, hd⟩
    · obtain ⟨v, e2, r2⟩ := o.dat j d e
      exact ⟨v, e2, dp_mono hs r2⟩
  · obtain ⟨e, c⟩ := get e
    obtain ⟨w, fq, e2, r2⟩ := o.ow j b es e
    exact ⟨w, fq, e2, old e c e2 r2⟩
  · exact o.pin _ _ (get e).1
  · exact o.sep _ _ _ _ _ _ _ _ _ _ (get ej).1 (get ek).1 vj vk (back ej vj rj) (back ek vk rk)
  · rw [gt_set] at e
    split at e
    · cases e
    · obtain ⟨v, e2, r2⟩ := o.tab j kvs e
      exact ⟨v, e2, r2.mono hs⟩
  · by_cases ha : a = p
    · subst ha; exact .inr ⟨i, _, _, _, _, h, e1, r, by simp⟩
    · rw [upd_ne ha, n] at e; cases e
  · obtain ⟨j, b, z, w, fq, e, ej, rj, m⟩ := e
    exact .inl ⟨j, b, z, w, fq, (get e).1, ej, back e ej rj, m⟩
  · refine ⟨rfl, es, ?_⟩
    rw [gt_set, if_neg ?_]; exact e
    rintro ⟨rfl, _⟩
    rw [h] at e; cases e
theorem ev_name {X : Cx} (i : Nat) {x : Str} {pos : Pos} (hN : X.N[i]? = some x := by rfl) (hv : Vis X.env.scope x := by first | exact Or.inl rfl | exact Or.inr (Or.inl rfl) | exact Or.inr (Or.inr rfl))
    (hd : (x == ("__debug__" : Str)) = false := by decide) (hcd : (x == ("__classdict__" : Str)) = false := by decide) : EV X (.Name x pos) (fN i) := by
  refine PE.imp (pe_var hN hv hd hcd) fun σ H Q ⟨γ, Hk, d, γ2, o, e, q⟩ => ?_
  unfold fN at e
  split at e
  · rename_i d' e'
    cases e
    obtain ⟨v, e1, r⟩ := o.dat i _ e'
    exact ⟨v, e1, q v H Hk (Go.refl o) r⟩
  · rename_i ds e'
    cases e
    obtain ⟨v, Hk2, e1, g, r⟩ := o.release e' rfl
    exact ⟨_, e1, q _ H Hk2 g r⟩
  · rename_i ds e'
    cases e
    obtain ⟨v, Hk2, e1, g, r⟩ := o.release e' rfl
    exact ⟨_, e1, q _ H Hk2 g r⟩
  · cases e
/-- constants -/
@[simp] def fC (d : D) : Fe := fun γ => some (d, γ)
theorem ev_int {X : Cx} {i j pos} : EV X (.Constant (.int i) j pos) (fC (.int i)) := PE.imp pe_int fun σ H Q ⟨γ, Hk, d, γ2, o, e, q⟩ => by
  cases e; exact q _ H Hk (Go.refl o) (.int i)
theorem ev_str {X : Cx} {x j pos} : EV X (.Constant (.str x) j pos) (fC (.str x)) := PE.imp pe_str fun σ H Q ⟨γ, Hk, d, γ2, o, e, q⟩ => by
  cases e; exact q _ H Hk (Go.refl o) (.str x)
theorem ev_bl {X : Cx} {b j pos} : EV X (.Constant (.bool b) j pos) (fC (.bool b)) := PE.imp pe_bl fun σ H Q ⟨γ, Hk, d, γ2, o, e, q⟩ => by
  cases e; exact q _ H Hk (Go.refl o) (.bl b)
theorem ev_non {X : Cx} {j pos} : EV X (.Constant .none j pos) (fC .none) := PE.imp pe_non fun σ H Q ⟨γ, Hk, d, γ2, o, e, q⟩ => by
  cases e; exact q _ H Hk (Go.refl o) .non
end DN
namespace DN
open PySem PySem.Spec PyProof.Rows L2
/-! ### two operands -/
/-- an operation by values, as data -/
def Op2 (K : PySem.W.Frag) (r : R2) (op : D → D → Option D) : Prop :=
  ∀ H Hk x y dx dy dz (Q : VK), Same Hk H → Vw K H Hk x dx → Vw K H Hk y dy → op dx dy = some dz → (∀ v H2 Hk2, Grow H Hk H2 Hk2 → Dp K Hk2 v dz → Q v H2) → r x y H Q
@[simp] def f2 (op : D → D → Option D) (f g : Fe) : Fe := fun γ => match f γ with
  | some (x, γ1) => match g γ1 with
    | some (y, γ2) => match op x y with
      | some z => some (z, γ2)
      | none => none
    | none => none
  | none => none
/-- the first a name -/
@[simp] def f2n (op : D → D → Option D) (i : Nat) (g : Fe) : Fe := fun γ => match view γ i with
  | some _ => match g γ with
    | some (y, γ2) => match view γ2 i with
      | some x => match op x y with
        | some z => some (z, γ2)
        | none => none
      | none => none
    | none => none
  | none => none
@[simp] def f2m (op : D → D → Option D) (f : Fe) (j : Nat) : Fe := fun γ => match f γ with
  | some (x, γ2) => match view γ2 j with
    | some y => match op x y with
      | some z => some (z, γ2)
      | none => none
    | none => none
  | none => none
@[simp] def f2nn (op : D → D → Option D) (i j : Nat) : Fe := fun γ => match view γ i with
  | some x => match view γ j with
    | some y => match op x y with
      | some z => some (z, γ)
      | none => none
    | none => none
  | none => none
section
variable {K : PySem.W.Frag} {r : R2} {op : D → D → Option D} {f g : Fe} {σ : L2.St} {H : Hp} {Q : VK}
theorem t2 (o : Op2 K r op) (h : tI K (f2 op f g) σ H Q) : tOp r (tI K f) (tI K g) σ H Q := by
  obtain ⟨γ, Hk, d, γ2, ok, e, q⟩ := h
  unfold f2 at e
  split at e
  · rename_i x γ1 ef
    split at e
    · rename_i y γ2' eg
      split at e
      · rename_i z eo
        cases e
        refine ⟨γ, Hk, x, γ1, ok, ef, fun v H1 Hk1 g1 r1 => ⟨γ1, Hk1, y, γ2, g1.ok, eg, fun u H2 Hk2 g2 r2 => ?_⟩⟩
        exact o H2 Hk2 v u x y d Q g2.ok.sub (.inl (dp_mono g2.kk r1)) (.inl r2) eo fun w H3 Hk3 g3 r3 => q w H3 Hk3 ((g1.trans g2).trans (g2.ok.go g3)) r3
      · cases e
    · cases e
  · cases e
theorem t2n {i : Nat} (o : Op2 K r op) (h : tI K (f2n op i g) σ H Q) : tOp r (tVar i) (tI K g) σ H Q := by
  obtain ⟨γ, Hk, d, γ2, ok, e, q⟩ := h
  unfold f2n at e
  split at e
  · rename_i x0 ev0
    split at e
    · rename_i y γ2' eg
      split at e
      · rename_i x ev
        split at e
        · rename_i z eo
          cases e
          obtain ⟨v, e1, _⟩ := ok.view ev0
          refine ⟨v, e1, γ, Hk, y, γ2, ok, eg, fun u H2 Hk2 g2 r2 => ?_⟩
          obtain ⟨v', e2, w⟩ := g2.ok.view ev
          rw [e1] at e2; cases e2
          exact o H2 Hk2 v u x y d Q g2.ok.sub w (.inl r2) eo fun w H3 Hk3 g3 r3 => q w H3 Hk3 (g2.trans (g2.ok.go g3)) r3
        · cases e
      · cases e
    · cases e
  · cases e
theorem t2m {j : Nat} (o : Op2 K r op) (h : tI K (f2m op f j) σ H Q) : tOp r (tI K f) (tVar j) σ H Q := by
  obtain ⟨γ, Hk, d, γ2, ok, e, q⟩ := h
  unfold f2m at e
  split at e
  · rename_i x γ2' ef
    split at e
    · rename_i y ev
      split at e
      · rename_i z eo
        cases e
        refine ⟨γ, Hk, x, γ2, ok, ef, fun v H1 Hk1 g1 r1 => ?_⟩
        obtain ⟨u, e2, w⟩ := g1.ok.view ev
        exact ⟨u, e2, o H1 Hk1 v u x y d Q g1.ok.sub (.inl r1) w eo fun w H3 Hk3 g3 r3 => q w H3 Hk3 (g1.trans (g1.ok.go g3)) r3⟩
      · cases e
    · cases e
  · cases e
theorem t2nn {i j : Nat} (o : Op2 K r op) (h : tI K (f2nn op i j) σ H Q) : tOp r (tVar i) (tVar j) σ H Q := by
  obtain ⟨γ, Hk, d, γ2, ok, e, q⟩ := h
  unfold f2nn at e
  split at e
  · rename_i x ex
    split at e
    · rename_i y ey
      split at e
      · rename_i z eo
        cases e
        obtain ⟨v, e1, w1⟩ := ok.view ex
        obtain ⟨u, e2, w2⟩ := ok.view ey
        exact ⟨v, e1, u, e2, o H Hk v u x y d Q ok.sub w1 w2 eo fun w H3 Hk3 g3 r3 => q w H3 Hk3 (ok.go g3) r3⟩
      · cases e
    · cases e
  · cases e
end

/-! ### what is read of values that are data -/
section
variable {X : Cx} {pins : List (Addr × Obj)} {σ : L2.St} {H : Hp} {s : Shared}
mutual
theorem Dp.reads (I : Inv X pins σ H s) : ∀ {d : D} {v : V} {u : Value}, Dp X.K H v d → RelV v u → ∃ as, Reads s.heap u d as
  | _, _, _, .non, r => by
    cases r
    exact ⟨_, Reads.none⟩
  | _, _, _, .bl b, r => by
    cases r
    exact ⟨_, Reads.bool b⟩
  | _, _, _, .int i, r => by
    obtain ⟨t, rfl⟩ := r
    exact ⟨_, Reads.int i t⟩
  | _, _, _, .str x, r => by
    obtain ⟨t, rfl⟩ := r
    exact ⟨_, Reads.str x t⟩
  | _, _, _, .lst hs ha, r => by
    cases r
    obtain ⟨its, rv, ⟨o, n, ho, hc, _, hd⟩, _⟩ := I.list hs
    obtain ⟨as, hr⟩ := Dp.readsAll I ha rv
    exact ⟨_, Reads.list ho hc hd hr⟩
  | _, _, _, .tup hs ha, r => by
    cases r
    obtain ⟨its, rv, ⟨o, ho, hc, n, hd⟩, _⟩ := I.tuple hs
    obtain ⟨as, hr⟩ := Dp.readsAll I ha rv
    exact ⟨_, Reads.tuple ho hc hd hr⟩
  | _, _, _, .dct h1 h2 h3 h4 h5 h6, r => by
    cases r
    obtain ⟨ho, _, _⟩ := I.hok _ _ h1
    obtain ⟨hx, es, ep, hd, he⟩ := h2
    obtain ⟨as, bs, r1, r2⟩ := Dp.readsEnts I h3
    exact ⟨_, Reads.dict ho hx.1 hd (by rw [he, List.map_map]; exact r1) (by rw [he, List.map_map]; exact r2)⟩
theorem Dp.readsAll (I : Inv X pins σ H s) : ∀ {ds : List D} {vs : List V} {us : List Value}, DpAll X.K H vs ds → Vals vs us → ∃ as, ReadsAll s.heap us ds as
  | _, _, _, .nil, r => by
    cases r
    exact ⟨_, ReadsAll.nil⟩
  | _, _, _, .cons h1 h2, r => by
    cases r with
    | cons r1 r2 =>
      obtain ⟨as, q1⟩ := Dp.reads I h1 r1
      obtain ⟨bs, q2⟩ := Dp.readsAll I h2 r2
      exact ⟨_, ReadsAll.cons q1 q2⟩
theorem Dp.readsEnts (I : Inv X pins σ H s) : ∀ {xs : List (NestedKey × Addr × Value)} {kvs : List (D × D)}, DpEnts X.K H xs kvs → ∃ as bs, ReadsAll s.heap (xs.map ((fun e : DictEntry => e.key) ∘ entN)) (kvs.map (·.1)) as ∧ ReadsAll s.heap (xs.map ((fun e : DictEntry => e.val) ∘ entN)) (kvs.map (·.2)) bs
  | _, _, .nil => ⟨_, _, ReadsAll.nil, ReadsAll.nil⟩
  | _, _, .cons (a := a) h1 h2 h3 h4 h5 => by
    obtain ⟨as, q1⟩ := Dp.reads I h2 (u := .ref a) rfl
    obtain ⟨bs, q2⟩ := Dp.reads I h4 h3
    obtain ⟨cs, ds, q3, q4⟩ := Dp.readsEnts I h5
    exact ⟨_, _, ReadsAll.cons q1 q3, ReadsAll.cons q2 q4⟩
end
end
section
variable {X : Cx}
def rEqN (K : PySem.W.Frag) : R2 := fun x y H Q => ∃ d e, Dp K H x d ∧ Dp K H y e ∧ SeqAt.shaped d = true ∧ SeqAt.shaped e = true ∧ Q (.bl (PyData.eqv d e)) H
def rNeN (K : PySem.W.Frag) : R2 := fun x y H Q => ∃ d e, Dp K H x d ∧ Dp K H y e ∧ SeqAt.shaped d = true ∧ SeqAt.shaped e = true ∧ Q (.bl (!PyData.eqv d e)) H
theorem op_eqN (hu : X.A.units + 64 < cLine) : OpR X (compareOp .Eq) (rEqN X.K) := by
  intro pins s σ H x y v u Q I rx ry h
  obtain ⟨d, e, hd, he, sd, se, q⟩ := h
  obtain ⟨as, r1⟩ := Dp.reads I hd rx
  obtain ⟨bs, r2⟩ := Dp.reads I he ry
  exact SeqAt.compareEq_shaped r1 r2 sd se hu ⟨.bl _, H, I, rfl, q⟩
theorem op_neN (hu : X.A.units + 64 < cLine) : OpR X (compareOp .NotEq) (rNeN X.K) := by
  intro pins s σ H x y v u Q I rx ry h
  obtain ⟨d, e, hd, he, sd, se, q⟩ := h
  obtain ⟨as, r1⟩ := Dp.reads I hd rx
  obtain ⟨bs, r2⟩ := Dp.reads I he ry
  exact SeqAt.compareNe_shaped r1 r2 sd se hu ⟨.bl _, H, I, rfl, q⟩
end
/-! ### the operations -/
@[simp] def okN (n : Nat) : Bool := decide (n ≤ 1000000)
theorem okN_line {n : Nat} (h : okN n = true) : n ≤ sizeLine := Nat.le_trans (of_decide_eq_true h) (by decide)
theorem okN_lt {n : Nat} (h : okN n = true) : n < sizeLine := Nat.lt_of_le_of_lt (of_decide_eq_true h) (by decide)
@[simp] def addD : D → D → Option D
  | .int i, .int j => some (.int (i + j))
  | .str a, .str b => if okN (a.length + b.length) then some (.str (a ++ b)) else none
  | .tuple a, .tuple b => if okN (a.length + b.length) then some (.tuple (a ++ b)) else none
  | .list a, .list b => if okN (a.length + b.length) then some (.list (a ++ b)) else none
  | _, _ => none
@[simp] def subD : D → D → Option D
  | .int i, .int j => some (.int (i - j))
  | _, _ => none
def mulD : D → D → Option D
  | .int i, .int j => if decide (i.natAbs < 2 ^ 64) || decide (j.natAbs < 2 ^ 64) || decide (i.natAbs.log2 + j.natAbs.log2 < 1000000) then some (.int (i * j)) else none
  | _, _ => none
@[simp] def fdivD : D → D → Option D
  | .int i, .int j => if decide (0 < j) && decide (j < 1073741824) then some (.int (i / j)) else none
  | _, _ => none
@[simp] def modD : D → D → Option D
  | .int i, .int j => if decide (0 < j) then some (.int (i % j)) else none
  | _, _ => none
@[simp] def powD : D → D → Option D
  | .int i, .int j => if decide (0 ≤ j) && decide (j ≤ 64) && decide (i.natAbs < 1000) then some (.int (i ^ j.toNat)) else none
  | _, _ => none
@[simp] def cmpI (p : Int → Int → Bool) (ps : Str → Str → Bool) : D → D → Option D
  | .int i, .int j => some (.bool (p i j))
  | .str a, .str b => some (.bool (ps a b))
  | _, _ => none
abbrev ltD := cmpI (fun i j => decide (i < j)) fun a b => decide (a.cps.toList < b.cps.toList)
abbrev leD := cmpI (fun i j => decide (i ≤ j)) fun a b => !decide (b.cps.toList < a.cps.toList)
abbrev gtD := cmpI (fun i j => decide (j < i)) fun a b => decide (b.cps.toList < a.cps.toList)
abbrev geD := cmpI (fun i j => decide (j ≤ i)) fun a b => !decide (a.cps.toList < b.cps.toList)
def eqD : D → D → Option D
  | .int i, .int j => some (.bool (decide (i = j)))
  | .str a, .str b => some (.bool (decide (a = b)))
  | .bool a, .bool b => some (.bool (decide (a = b)))
  | x, y => if SeqAt.shaped x && SeqAt.shaped y then some (.bool (PyData.eqv x y)) else none
def neD : D → D → Option D
  | .int i, .int j => some (.bool (!decide (i = j)))
  | .str a, .str b => some (.bool (!decide (a = b)))
  | .bool a, .bool b => some (.bool (!decide (a = b)))
  | x, y => if SeqAt.shaped x && SeqAt.shaped y then some (.bool (!PyData.eqv x y)) else none
def isNo : D → Bool
  | .none => true
  | _ => false
@[simp] def isNd : D → D → Option D
  | x, .none => some (.bool (isNo x))
  | _, _ => none
@[simp] def notNd : D → D → Option D
  | x, .none => some (.bool (!isNo x))
  | _, _ => none
@[simp] def ixD : D → D → Option D
  | .list xs, .int i => atI xs i
  | .tuple xs, .int i => atI xs i
  | .str z, .int i => if okN z.length then (atI z.cps.toList i).map fun c => .str ⟨#[c]⟩ else none
  | _, _ => none
def rCatL (K : PySem.W.Frag) : R2 := fun x y H Q => ∃ l b xs ys, x = .ref l ∧ y = .ref b ∧ SqL K H l xs ∧ SqL K H b ys ∧ xs.length + ys.length ≤ sizeLine ∧ ∀ p, H p = none → Q (.ref p) (upd H p (.lst (xs ++ ys)))
theorem op_catL {X : Cx} : OpR X (binaryOp .Add) (rCatL X.K) := by
  intro pins s σ H x y v u Q I rx ry h
  obtain ⟨l, b, xs, ys, rfl, rfl, hl, hb, hz, q⟩ := h
  cases rx
  cases ry
  obtain ⟨its, r1, p1, _⟩ := I.list hl
  obtain ⟨its2, r2, p2, _⟩ := I.list hb
  have l1 := r1.length
  have l2 := r2.length
  obtain ⟨⟨cls, dd, data, sl⟩, ho, hc, n, hd⟩ := id p1.isList
  obtain ⟨⟨cls2, dd2, data2, sl2⟩, ho2, hc2, n2, hd2⟩ := id p2.isList
  simp only at hc hd hc2 hd2
  subst hc hd hc2 hd2
  have e : its.toArray ++ its2.toArray = (its ++ its2).toArray := by simp
  refine concat_meets ⟨_, ho, rfl⟩ ⟨_, ho2, rfl⟩ noFill_list_add seq_list_add PySem.F.slot_list_add PySem.F.entry_list_add (PySem.F.args_list_add_2 _ _) (list_addW l b its.toArray its2.toArray n n2 dd dd2 sl sl2 (by simp; omega)) ⟨ho, ho2, ?_⟩
  rw [e]
  refine ⟨.ref _, _, I.laid (t' := s.toks) (o := .lst (xs ++ ys)) (fun b ob q => Heap.get?_push_of_some _ q) (Nat.le_refl _) ?_, rfl, q _ (I.hok.fresh (Nat.le_refl _))⟩
  exact ⟨by rw [List.length_append]; omega, _, 0, r1.append r2, Heap.get?_push_size _ rfl⟩
abbrev rAdd (K : PySem.W.Frag) : R2 := fun x y H Q => rI0 (fun i j => .int (i + j)) x y H Q ∨ (∃ i j, x = .str i ∧ y = .str j ∧ i.length + j.length ≤ sizeLine ∧ Q (.str (i ++ j)) H) ∨ rCatA K x y H Q ∨ rCatL K x y H Q
section
variable {K : PySem.W.Frag}
theorem nil_of {vs : List V} {ds : List D} {H : Hp} (h : DpAll K H vs ds) : vs = [] ↔ ds = [] := by
  cases h <;> simp
theorem o_add : Op2 K (rAdd K) addD := by
  intro H Hk x y dx dy dz Q s vx vy e q
  unfold addD at e
  split at e
  · cases e
    cases vx.int; cases vy.int
    exact .inl ⟨_, _, rfl, rfl, q _ H Hk (Grow.refl s) (.int _)⟩
  · split at e
    · rename_i c
      cases e
      cases vx.str; cases vy.str
      exact .inr (.inl ⟨_, _, rfl, rfl, okN_line c, q _ H Hk (Grow.refl s) (.str _)⟩)
    · cases e
  · rename_i as bs
    split at e
    · rename_i c
      cases e
      obtain ⟨p, vs, rfl, sp, ap⟩ := vx.tup s
      obtain ⟨u, ws, rfl, su, au⟩ := vy.tup s
      refine .inr (.inr (.inl ⟨p, u, vs, ws, rfl, rfl, sp, su, by rw [dps_len ap, dps_len au]; exact okN_line c, fun n => ?_, fun _ n => ?_, fun _ _ t ht => ?_⟩))
      · cases (nil_of ap).1 n
        rw [List.nil_append] at q
        exact q _ H Hk (Grow.refl s) (vy.flat (fun _ => nofun) (fun _ => nofun))
      · cases (nil_of au).1 n
        rw [List.append_nil] at q
        exact q _ H Hk (Grow.refl s) (vx.flat (fun _ => nofun) (fun _ => nofun))
      · have g : Grow H Hk (upd H t (.tup (vs ++ ws))) (upd Hk t (.tup (vs ++ ws))) := Grow.new s ht
        exact q _ _ _ g (.tup (SqT.of upd_same) (dps_mono g.kk (dps_app ap au)))
    · cases e
  · rename_i as bs
    split at e
    · rename_i c
      cases e
      obtain ⟨p, vs, rfl, sp, ap⟩ := vx.lst s
      obtain ⟨u, ws, rfl, su, au⟩ := vy.lst s
      refine .inr (.inr (.inr ⟨p, u, vs, ws, rfl, rfl, sp, su, by rw [dps_len ap, dps_len au]; exact okN_line c, fun t ht => ?_⟩))
      have g : Grow H Hk (upd H t (.lst (vs ++ ws))) (upd Hk t (.lst (vs ++ ws))) := Grow.new s ht
      exact q _ _ _ g (.lst (SqL.of upd_same) (dps_mono g.kk (dps_app ap au)))
    · cases e
  · cases e
theorem o_I0 {k : Int → Int → V} {op : D → D → Option D} (h : ∀ dx dy dz, op dx dy = some dz → ∃ i j, dx = .int i ∧ dy = .int j ∧ ∀ H, Dp K H (k i j) dz) : Op2 K (rI0 k) op := by
  intro H Hk x y dx dy dz Q s vx vy e q
  obtain ⟨i, j, rfl, rfl, hd⟩ := h _ _ _ e
  cases vx.int; cases vy.int
  exact ⟨i, j, rfl, rfl, q _ H Hk (Grow.refl s) (hd _)⟩
theorem o_I {C : Int → Int → Prop} {k : Int → Int → V} {op : D → D → Option D} (h : ∀ dx dy dz, op dx dy = some dz → ∃ i j, dx = .int i ∧ dy = .int j ∧ C i j ∧ ∀ H, Dp K H (k i j) dz) : Op2 K (rI C k) op := by
  intro H Hk x y dx dy dz Q s vx vy e q
  obtain ⟨i, j, rfl, rfl, hc, hd⟩ := h _ _ _ e
  cases vx.int; cases vy.int
  exact ⟨i, j, rfl, rfl, hc, q _ H Hk (Grow.refl s) (hd _)⟩
theorem o_sub : Op2 K (rI0 fun i j => .int (i - j)) subD := o_I0 fun dx dy dz e => by
  unfold subD at e
  split at e <;> cases e
  exact ⟨_, _, rfl, rfl, fun _ => .int _⟩
abbrev CMul2 (i j : Int) : Prop := CMul i j ∨ CMulW i j
theorem o_mul : Op2 K (rI CMul2 fun i j => .int (i * j)) mulD := o_I fun dx dy dz e => by
  unfold mulD at e
  split at e
  · split at e <;> cases e
    rename_i c
    simp only [Bool.or_eq_true, decide_eq_true_eq] at c
    refine ⟨_, _, rfl, rfl, ?_, fun _ => .int _⟩
    rcases c with (c | c) | c
    · exact .inl (.inl ⟨by omega, by omega⟩)
    · exact .inl (.inr ⟨by omega, by omega⟩)
    · exact .inr c
  · cases e
theorem o_fdiv : Op2 K (rI CDiv fun i j => .int (i / j)) fdivD := o_I fun dx dy dz e => by
  unfold fdivD at e
  split at e
  · split at e <;> cases e
    rename_i c
    simp only [Bool.and_eq_true, decide_eq_true_eq] at c
    exact ⟨_, _, rfl, rfl, c, fun _ => .int _⟩
  · cases e
theorem o_mod : Op2 K (rI (fun _ j => 0 < j) fun i j => .int (i % j)) modD := o_I fun dx dy dz e => by
  unfold modD at e
  split at e
  · split at e <;> cases e
    rename_i c
    exact ⟨_, _, rfl, rfl, of_decide_eq_true c, fun _ => .int _⟩
  · cases e
theorem o_pow : Op2 K (rI CPow fun i j => .int (i ^ j.toNat)) powD := o_I fun dx dy dz e => by
  unfold powD at e
  split at e
  · split at e <;> cases e
    rename_i c
    simp only [Bool.and_eq_true, decide_eq_true_eq] at c
    exact ⟨_, _, rfl, rfl, ⟨c.1.1, by omega, by have := c.2; omega⟩, fun _ => .int _⟩
  · cases e
abbrev rCm (p : Int → Int → Bool) (ps : Str → Str → Bool) : R2 := fun x y H Q => rI0 (fun i j => .bl (p i j)) x y H Q ∨ ∃ i j, x = .str i ∧ y = .str j ∧ Q (.bl (ps i j)) H
theorem o_cmp {p : Int → Int → Bool} {ps : Str → Str → Bool} : Op2 K (rCm p ps) (cmpI p ps) := by
  intro H Hk x y dx dy dz Q s vx vy e q
  unfold cmpI at e
  split at e
  · cases e
    cases vx.int; cases vy.int
    exact .inl ⟨_, _, rfl, rfl, q _ H Hk (Grow.refl s) (.bl _)⟩
  · cases e
    cases vx.str; cases vy.str
    exact .inr ⟨_, _, rfl, rfl, q _ H Hk (Grow.refl s) (.bl _)⟩
  · cases e
abbrev rEq2 (K : PySem.W.Frag) : R2 := fun x y H Q => rEq x y H Q ∨ rEqN K x y H Q
abbrev rNe2 (K : PySem.W.Frag) : R2 := fun x y H Q => rNe x y H Q ∨ rNeN K x y H Q
theorem o_eq : Op2 K (rEq2 K) eqD := by
  intro H Hk x y dx dy dz Q s vx vy e q
  unfold eqD at e
  split at e
  · cases e; cases vx.int; cases vy.int
    exact .inl ⟨rfl, by simpa using q _ H Hk (Grow.refl s) (.bl _)⟩
  · cases e; cases vx.str; cases vy.str
    exact .inl ⟨rfl, by simpa using q _ H Hk (Grow.refl s) (.bl _)⟩
  · cases e; cases vx.bl; cases vy.bl
    exact .inl ⟨rfl, by simpa using q _ H Hk (Grow.refl s) (.bl _)⟩
  · split at e <;> cases e
    rename_i c
    rw [Bool.and_eq_true] at c
    exact .inr ⟨_, _, vx.dp s, vy.dp s, c.1, c.2, q _ H Hk (Grow.refl s) (.bl _)⟩
theorem o_ne : Op2 K (rNe2 K) neD := by
  intro H Hk x y dx dy dz Q s vx vy e q
  unfold neD at e
  split at e
  · cases e; cases vx.int; cases vy.int
    exact .inl ⟨rfl, by simpa using q _ H Hk (Grow.refl s) (.bl _)⟩
  · cases e; cases vx.str; cases vy.str
    exact .inl ⟨rfl, by simpa using q _ H Hk (Grow.refl s) (.bl _)⟩
  · cases e; cases vx.bl; cases vy.bl
    exact .inl ⟨rfl, by simpa using q _ H Hk (Grow.refl s) (.bl _)⟩
  · split at e <;> cases e
    rename_i c
    rw [Bool.and_eq_true] at c
    exact .inr ⟨_, _, vx.dp s, vy.dp s, c.1, c.2, q _ H Hk (Grow.refl s) (.bl _)⟩
theorem Vw.isNo {H Hk : Hp} {v : V} {d : D} (h : Vw K H Hk v d) : decide (v = .non) = isNo d := by
  rcases h with h | ⟨p, vs, ds, rfl, rfl, hp, a⟩ | ⟨p, o, xs, kvs, rfl, rfl, _⟩
  · cases h <;> first | rfl | (simp <;> rfl)
  · simp <;> rfl
  · simp <;> rfl
theorem o_isN : Op2 K (fun x y H Q => y = .non ∧ Q (.bl (decide (x = .non))) H) isNd := by
  intro H Hk x y dx dy dz Q s vx vy e q
  unfold isNd at e
  split at e <;> cases e
  refine ⟨vy.non, ?_⟩
  rw [vx.isNo]
  exact q _ H Hk (Grow.refl s) (.bl _)
theorem o_notN : Op2 K (fun x y H Q => y = .non ∧ Q (.bl (!decide (x = .non))) H) notNd := by
  intro H Hk x y dx dy dz Q s vx vy e q
  unfold notNd at e
  split at e <;> cases e
  refine ⟨vy.non, ?_⟩
  rw [vx.isNo]
  exact q _ H Hk (Grow.refl s) (.bl _)
theorem atI_dps {H : Hp} {vs : List V} {ds : List D} {i : Int} {d : D} (a : DpAll K H vs ds) (e : atI ds i = some d) : ∃ v, atI vs i = some v ∧ Dp K H v d := by
  unfold atI at e ⊢
  rw [dps_len a]
  cases h : ixN ds.length i with
  | none => rw [h] at e; cases e
  | some j =>
    rw [h] at e
    exact dps_at a e
theorem o_ix : Op2 K (rIx K) ixD := by
  intro H Hk x y dx dy dz Q s vx vy e q
  unfold ixD at e
  split at e
  · cases vy.int
    obtain ⟨p, vs, rfl, sp, ap⟩ := vx.lst s
    obtain ⟨v, ev, r⟩ := atI_dps ap e
    exact .inl ⟨p, vs, _, v, rfl, rfl, sp, ev, q _ H Hk (Grow.refl s) r⟩
  · cases vy.int
    obtain ⟨p, vs, rfl, sp, ap⟩ := vx.tup s
    obtain ⟨v, ev, r⟩ := atI_dps ap e
    exact .inr (.inl ⟨p, vs, _, v, rfl, rfl, sp, ev, q _ H Hk (Grow.refl s) r⟩)
  · cases vy.int; cases vx.str
    split at e
    · rename_i c
      obtain ⟨ch, e1, e2⟩ := Option.map_eq_some_iff.mp e
      cases e2
      exact .inr (.inr ⟨_, _, ch, rfl, rfl, okN_line c, e1, q _ H Hk (Grow.refl s) (.str _)⟩)
    · cases e
  · cases e
end
/-! ### for simp -/
@[simp] theorem simp_ix1 {α : Type} (xs : List α) (i : Int) : atI xs i = (ixN xs.length i).bind fun j => xs[j]? := rfl
@[simp] theorem simp_ix2 (n : Nat) (i : Int) : ixN n i = if 0 ≤ i then (if i < n then some i.toNat else none) else if -(n : Int) ≤ i then some (i + n).toNat else none := rfl
@[simp] theorem mulD_l (i j : Int) (h : i.natAbs < 2 ^ 64) : mulD (.int i) (.int j) = some (.int (i * j)) := by
  simp [mulD, h]
@[simp] theorem mulD_r (i j : Int) (h : j.natAbs < 2 ^ 64) : mulD (.int i) (.int j) = some (.int (i * j)) := by
  simp [mulD, h]
end DN
namespace DN
open PySem PySem.Spec PyProof.Rows L2
/-! ### expressions of two operands -/
section
variable {X : Cx} {a b : Expr} {f g : Fe} {r : R2} {fop : D → D → Option D} {pos : Pos}
theorem ev2 {op : Operator} (o : OpR X (binaryOp op) r) (s : Op2 X.K r fop) (ha : EV X a f) (hb : EV X b g) : EV X (.BinOp a op b pos) (f2 fop f g) := PE.imp (pe_op o ha hb) fun _ _ _ h => t2 s h
theorem ev2n {op : Operator} {i : Nat} (o : OpR X (binaryOp op) r) (s : Op2 X.K r fop) (ha : PE X a (tVar i)) (hb : EV X b g) : EV X (.BinOp a op b pos) (f2n fop i g) := PE.imp (pe_op o ha hb) fun _ _ _ h => t2n s h
theorem ev2m {op : Operator} {j : Nat} (o : OpR X (binaryOp op) r) (s : Op2 X.K r fop) (ha : EV X a f) (hb : PE X b (tVar j)) : EV X (.BinOp a op b pos) (f2m fop f j) := PE.imp (pe_op o ha hb) fun _ _ _ h => t2m s h
theorem ev2nn {op : Operator} {i j : Nat} (o : OpR X (binaryOp op) r) (s : Op2 X.K r fop) (ha : PE X a (tVar i)) (hb : PE X b (tVar j)) : EV X (.BinOp a op b pos) (f2nn fop i j) := PE.imp (pe_op o ha hb) fun _ _ _ h => t2nn s h
theorem ec2 {op : CmpOp} (o : OpR X (compareOp op) r) (s : Op2 X.K r fop) (hm : behindInMarks op b = false) (ha : EV X a f) (hb : EV X b g) : EV X (.Compare a [op] [b] pos) (f2 fop f g) := PE.imp (pe_cmpR o ha hb hm) fun _ _ _ h => t2 s h
theorem ec2n {op : CmpOp} {i : Nat} (o : OpR X (compareOp op) r) (s : Op2 X.K r fop) (hm : behindInMarks op b = false) (ha : PE X a (tVar i)) (hb : EV X b g) : EV X (.Compare a [op] [b] pos) (f2n fop i g) := PE.imp (pe_cmpR o ha hb hm) fun _ _ _ h => t2n s h
theorem ec2m {op : CmpOp} {j : Nat} (o : OpR X (compareOp op) r) (s : Op2 X.K r fop) (hm : behindInMarks op b = false) (ha : EV X a f) (hb : PE X b (tVar j)) : EV X (.Compare a [op] [b] pos) (f2m fop f j) := PE.imp (pe_cmpR o ha hb hm) fun _ _ _ h => t2m s h
theorem ec2nn {op : CmpOp} {i j : Nat} (o : OpR X (compareOp op) r) (s : Op2 X.K r fop) (hm : behindInMarks op b = false) (ha : PE X a (tVar i)) (hb : PE X b (tVar j)) : EV X (.Compare a [op] [b] pos) (f2nn fop i j) := PE.imp (pe_cmpR o ha hb hm) fun _ _ _ h => t2nn s h
theorem eix (ha : EV X a f) (hb : EV X b g) (hs : PlainIx b) : EV X (.Subscript a b pos) (f2 ixD f g) := PE.imp (pe_ix ix_seq ha hb hs) fun _ _ _ h => t2 o_ix h
theorem eixn {i : Nat} (ha : PE X a (tVar i)) (hb : EV X b g) (hs : PlainIx b) : EV X (.Subscript a b pos) (f2n ixD i g) := PE.imp (pe_ix ix_seq ha hb hs) fun _ _ _ h => t2n o_ix h
theorem eixm {j : Nat} (ha : EV X a f) (hb : PE X b (tVar j)) (hs : PlainIx b) : EV X (.Subscript a b pos) (f2m ixD f j) := PE.imp (pe_ix ix_seq ha hb hs) fun _ _ _ h => t2m o_ix h
theorem eixnn {i j : Nat} (ha : PE X a (tVar i)) (hb : PE X b (tVar j)) (hs : PlainIx b) : EV X (.Subscript a b pos) (f2nn ixD i j) := PE.imp (pe_ix ix_seq ha hb hs) fun _ _ _ h => t2nn o_ix h
end
theorem x_add {X : Cx} : OpR X (binaryOp .Add) (rAdd X.K) := op_add.or (op_add_str.or (op_catA.or op_catL))
theorem x_mul {X : Cx} : OpR X (binaryOp .Mult) (rI CMul2 fun i j => .int (i * j)) := by
  intro pins s σ H x y v u Q I rx ry h
  obtain ⟨i, j, e1, e2, c | c, q⟩ := h
  · exact op_mul pins s σ H x y v u Q I rx ry ⟨i, j, e1, e2, c, q⟩
  · exact op_mulW pins s σ H x y v u Q I rx ry ⟨i, j, e1, e2, c, q⟩
theorem x_eq {X : Cx} (hu : X.A.units + 64 < cLine) : OpR X (compareOp .Eq) (rEq2 X.K) := op_eq.or (op_eqN hu)
theorem x_ne {X : Cx} (hu : X.A.units + 64 < cLine) : OpR X (compareOp .NotEq) (rNe2 X.K) := op_ne.or (op_neN hu)
theorem x_lt {X : Cx} : OpR X (compareOp .Lt) (rCm (fun i j => decide (i < j)) fun a b => decide (a.cps.toList < b.cps.toList)) := op_lt.or op_lt_str
theorem x_le {X : Cx} : OpR X (compareOp .LtE) (rCm (fun i j => decide (i ≤ j)) fun a b => !decide (b.cps.toList < a.cps.toList)) := op_le.or op_le_str
theorem x_gt {X : Cx} : OpR X (compareOp .Gt) (rCm (fun i j => decide (j < i)) fun a b => decide (b.cps.toList < a.cps.toList)) := op_gt.or op_gt_str
theorem x_ge {X : Cx} : OpR X (compareOp .GtE) (rCm (fun i j => decide (j ≤ i)) fun a b => !decide (a.cps.toList < b.cps.toList)) := op_ge.or op_ge_str

/-! ### tests -/
abbrev Ft := En → Option (Bool × En)
def tT (K : PySem.W.Frag) (c : Ft) : TT := fun σ H Q => ∃ γ Hk b γ2, Ok K σ H Hk γ ∧ c γ = some (b, γ2) ∧ ∀ H2 Hk2, Go K σ H Hk γ σ H2 Hk2 γ2 → Q b H2
def ET (X : Cx) (e : Expr) (c : Ft) : Prop := PT X e (tT X.K c)
def EW (X : Cx) (e : Expr) (c : Ft) : Prop := PW X e (tT X.K c)
@[simp] def ofB (f : Fe) : Ft := fun γ => match f γ with
  | some (.bool b, γ2) => some (b, γ2)
  | _ => none
theorem ofB_I {K : PySem.W.Frag} {f : Fe} {σ : L2.St} {H : Hp} {Q : Bool → Hp → Prop} (h : tT K (ofB f) σ H Q) : tI K f σ H fun x H' => ∃ k, x = .bl k ∧ Q k H' := by
  obtain ⟨γ, Hk, b, γ2, o, e, q⟩ := h
  unfold ofB at e
  split at e <;> cases e
  rename_i ef
  refine ⟨γ, Hk, _, γ2, o, ef, fun v H2 Hk2 g r => ?_⟩
  cases r
  exact ⟨_, rfl, q H2 Hk2 g⟩
section
variable {X : Cx} {a b c : Expr} {rest : List Expr} {f g : Fe} {u v : Ft} {r : R2} {fop : D → D → Option D} {pos : Pos}
theorem et2 {op : CmpOp} (o : OpR X (compareOp op) r) (s : Op2 X.K r fop) (hm : behindInMarks op b = false) (ha : EV X a f) (hb : EV X b g) : ET X (.Compare a [op] [b] pos) (ofB (f2 fop f g)) := PT.imp (pt_cmpR o ha hb hm) fun _ _ _ h => t2 s (ofB_I h)
theorem et2n {op : CmpOp} {i : Nat} (o : OpR X (compareOp op) r) (s : Op2 X.K r fop) (hm : behindInMarks op b = false) (ha : PE X a (tVar i)) (hb : EV X b g) : ET X (.Compare a [op] [b] pos) (ofB (f2n fop i g)) := PT.imp (pt_cmpR o ha hb hm) fun _ _ _ h => t2n s (ofB_I h)
theorem et2m {op : CmpOp} {j : Nat} (o : OpR X (compareOp op) r) (s : Op2 X.K r fop) (hm : behindInMarks op b = false) (ha : EV X a f) (hb : PE X b (tVar j)) : ET X (.Compare a [op] [b] pos) (ofB (f2m fop f j)) := PT.imp (pt_cmpR o ha hb hm) fun _ _ _ h => t2m s (ofB_I h)
theorem et2nn {op : CmpOp} {i j : Nat} (o : OpR X (compareOp op) r) (s : Op2 X.K r fop) (hm : behindInMarks op b = false) (ha : PE X a (tVar i)) (hb : PE X b (tVar j)) : ET X (.Compare a [op] [b] pos) (ofB (f2nn fop i j)) := PT.imp (pt_cmpR o ha hb hm) fun _ _ _ h => t2nn s (ofB_I h)
/-- a value that is a bool, as a test -/
theorem et_val (h : EV X c f) (he : ∀ whole, isTrue c X.env whole = (do let v ← whole; standAt c.pos; holding [v] (truthy v)) := by intro _; rfl) : ET X c (ofB f) := PT.imp (pt_val h he) fun _ _ _ h => ofB_I h
@[simp] def cNot (u : Ft) : Ft := fun γ => match u γ with
  | some (b, γ2) => some (!b, γ2)
  | none => none
@[simp] def cAnd (u v : Ft) : Ft := fun γ => match u γ with
  | some (true, γ1) => v γ1
  | some (false, γ1) => some (false, γ1)
  | none => none
@[simp] def cOr (u v : Ft) : Ft := fun γ => match u γ with
  | some (false, γ1) => v γ1
  | some (true, γ1) => some (true, γ1)
  | none => none
theorem et_not (h : ET X a u) : ET X (.UnaryOp .Not a pos) (cNot u) := PT.imp (pt_not h) fun σ H Q ⟨γ, Hk, b, γ2, o, e, q⟩ => by
  unfold cNot at e
  split at e <;> cases e
  rename_i eu
  exact ⟨γ, Hk, _, γ2, o, eu, q⟩
theorem PW.imp {e : Expr} {t t' : TT} (h : PW X e t) (i : ∀ σ H Q, t' σ H Q → t σ H Q) : PW X e t' := ⟨fun w pins s σ H Q I q => h.run w pins s σ H Q I (i _ _ _ q)⟩
theorem and_imp' {K : PySem.W.Frag} {σ : L2.St} {H : Hp} {Q : Bool → Hp → Prop} (h : tT K (cAnd u v) σ H Q) : tAnd (tT K u) (tT K v) σ H Q := by
  obtain ⟨γ, Hk, b, γ2, o, e, q⟩ := h
  unfold cAnd at e
  split at e
  · rename_i γ1 eu
    exact ⟨γ, Hk, true, γ1, o, eu, fun H1 Hk1 g1 => iteT ⟨γ1, Hk1, b, γ2, g1.ok, e, fun H2 Hk2 g2 => q H2 Hk2 (g1.trans g2)⟩⟩
  · rename_i γ1 eu
    cases e
    exact ⟨γ, Hk, false, _, o, eu, fun H1 Hk1 g1 => iteF (q H1 Hk1 g1)⟩
  · cases e
theorem or_imp' {K : PySem.W.Frag} {σ : L2.St} {H : Hp} {Q : Bool → Hp → Prop} (h : tT K (cOr u v) σ H Q) : tOr (tT K u) (tT K v) σ H Q := by
  obtain ⟨γ, Hk, b, γ2, o, e, q⟩ := h
  unfold cOr at e
  split at e
  · rename_i γ1 eu
    exact ⟨γ, Hk, false, γ1, o, eu, fun H1 Hk1 g1 => iteF ⟨γ1, Hk1, b, γ2, g1.ok, e, fun H2 Hk2 g2 => q H2 Hk2 (g1.trans g2)⟩⟩
  · rename_i γ1 eu
    cases e
    exact ⟨γ, Hk, true, _, o, eu, fun H1 Hk1 g1 => iteT (q H1 Hk1 g1)⟩
  · cases e
theorem ew_and1 (h : ET X a u) : EW X (.BoolOp .And [a] pos) u := pw_and1 h
theorem ew_or1 (h : ET X a u) : EW X (.BoolOp .Or [a] pos) u := pw_or1 h
theorem ew_and (h : ET X a u) (hr : EW X (.BoolOp .And (b :: rest) pos) v) : EW X (.BoolOp .And (a :: b :: rest) pos) (cAnd u v) := PW.imp (pw_and h hr) fun _ _ _ h => and_imp' h
theorem ew_or (h : ET X a u) (hr : EW X (.BoolOp .Or (b :: rest) pos) v) : EW X (.BoolOp .Or (a :: b :: rest) pos) (cOr u v) := PW.imp (pw_or h hr) fun _ _ _ h => or_imp' h
theorem et_w (h : EW X c u) : ET X c u := h.pt
/-- and, or, not as values -/
@[simp] def fAnd (f g : Fe) : Fe := fun γ => match f γ with
  | some (.bool true, γ1) => g γ1
  | some (.bool false, γ1) => some (.bool false, γ1)
  | _ => none
@[simp] def fOr (f g : Fe) : Fe := fun γ => match f γ with
  | some (.bool false, γ1) => g γ1
  | some (.bool true, γ1) => some (.bool true, γ1)
  | _ => none
@[simp] def fNot (f : Fe) : Fe := fun γ => match f γ with
  | some (.bool b, γ1) => some (.bool (!b), γ1)
  | _ => none
theorem ev_one {op} (h : EV X a f) : EV X (.BoolOp op [a] pos) f := pe_one h
theorem ev_and (h : EV X a f) (hr : EV X (.BoolOp .And (b :: rest) pos) g) : EV X (.BoolOp .And (a :: b :: rest) pos) (fAnd f g) := PE.imp (pe_and h hr) fun σ H Q ⟨γ, Hk, d, γ2, o, e, q⟩ => by
  unfold fAnd at e
  split at e
  · rename_i γ1 ef
    exact ⟨γ, Hk, _, γ1, o, ef, fun w H1 Hk1 g1 r1 => by cases r1; exact ⟨true, rfl, iteT ⟨γ1, Hk1, d, γ2, g1.ok, e, fun z H2 Hk2 g2 r2 => q z H2 Hk2 (g1.trans g2) r2⟩⟩⟩
  · rename_i γ1 ef
    cases e
    exact ⟨γ, Hk, _, _, o, ef, fun w H1 Hk1 g1 r1 => by cases r1; exact ⟨false, rfl, iteF (q _ H1 Hk1 g1 (.bl _))⟩⟩
  · cases e
theorem ev_or (h : EV X a f) (hr : EV X (.BoolOp .Or (b :: rest) pos) g) : EV X (.BoolOp .Or (a :: b :: rest) pos) (fOr f g) := PE.imp (pe_or h hr) fun σ H Q ⟨γ, Hk, d, γ2, o, e, q⟩ => by
  unfold fOr at e
  split at e
  · rename_i γ1 ef
    exact ⟨γ, Hk, _, γ1, o, ef, fun w H1 Hk1 g1 r1 => by cases r1; exact ⟨false, rfl, iteF ⟨γ1, Hk1, d, γ2, g1.ok, e, fun z H2 Hk2 g2 r2 => q z H2 Hk2 (g1.trans g2) r2⟩⟩⟩
  · rename_i γ1 ef
    cases e
    exact ⟨γ, Hk, _, _, o, ef, fun w H1 Hk1 g1 r1 => by cases r1; exact ⟨true, rfl, iteT (q _ H1 Hk1 g1 (.bl _))⟩⟩
  · cases e
theorem ev_not (h : EV X a f) : EV X (.UnaryOp .Not a pos) (fNot f) := PE.imp (pe_not h) fun σ H Q ⟨γ, Hk, d, γ2, o, e, q⟩ => by
  unfold fNot at e
  split at e <;> cases e
  rename_i ef
  exact ⟨γ, Hk, _, _, o, ef, fun w H1 Hk1 g1 r1 => by cases r1; exact ⟨_, rfl, q _ H1 Hk1 g1 (.bl _)⟩⟩
@[simp] def fNeg (f : Fe) : Fe := fun γ => match f γ with
  | some (.int i, γ1) => some (.int (-i), γ1)
  | _ => none
theorem ev_neg (h : EV X a f) : EV X (.UnaryOp .USub a pos) (fNeg f) := PE.imp (pe_un un_neg h) fun σ H Q ⟨γ, Hk, d, γ2, o, e, q⟩ => by
  unfold fNeg at e
  split at e <;> cases e
  rename_i ef
  exact ⟨γ, Hk, _, _, o, ef, fun w H1 Hk1 g1 r1 => by cases r1; exact ⟨_, rfl, q _ H1 Hk1 g1 (.int _)⟩⟩
@[simp] def fIf (c : Ft) (f g : Fe) : Fe := fun γ => match c γ with
  | some (true, γ1) => f γ1
  | some (false, γ1) => g γ1
  | none => none
theorem ev_if (hc : ET X c u) (ha : EV X a f) (hb : EV X b g) : EV X (.IfExp c a b pos) (fIf u f g) := PE.imp (pe_ifExp hc ha hb) fun σ H Q ⟨γ, Hk, d, γ2, o, e, q⟩ => by
  unfold fIf at e
  split at e
  · rename_i γ1 eu
    exact ⟨γ, Hk, true, γ1, o, eu, fun H1 Hk1 g1 => iteT ⟨γ1, Hk1, d, γ2, g1.ok, e, fun z H2 Hk2 g2 r2 => q z H2 Hk2 (g1.trans g2) r2⟩⟩
  · rename_i γ1 eu
    exact ⟨γ, Hk, false, γ1, o, eu, fun H1 Hk1 g1 => iteF ⟨γ1, Hk1, d, γ2, g1.ok, e, fun z H2 Hk2 g2 r2 => q z H2 Hk2 (g1.trans g2) r2⟩⟩
  · cases e
end

/-! ### several values -/
abbrev Fa := En → Option (List D × En)
def tAd (K : PySem.W.Frag) (fa : Fa) : TA := fun σ H Q => ∃ γ Hk ds γ2, Ok K σ H Hk γ ∧ fa γ = some (ds, γ2) ∧ ∀ vs H2 Hk2, Go K σ H Hk γ σ H2 Hk2 γ2 → DpAll K Hk2 vs ds → Q vs H2
def EA (X : Cx) (es : List Expr) (fa : Fa) : Prop := PA X es (tAd X.K fa)
@[simp] def aNil : Fa := fun γ => some ([], γ)
@[simp] def aCons (f : Fe) (fa : Fa) : Fa := fun γ => match f γ with
  | some (d, γ1) => match fa γ1 with
    | some (ds, γ2) => some (d :: ds, γ2)
    | none => none
  | none => none
section
variable {X : Cx} {e a : Expr} {es : List Expr} {f : Fe} {fa : Fa} {pos : Pos}
theorem ea_nil : EA X [] aNil := PA.imp pa_nil fun σ H Q ⟨γ, Hk, ds, γ2, o, e, q⟩ => by
  cases e
  exact q [] H Hk (Go.refl o) .nil
theorem ea_cons (h : EV X e f) (hr : EA X es fa) (hs : starEach (e :: es) X.env = (false, eval e X.env) :: starEach es X.env := by rfl) : EA X (e :: es) (aCons f fa) := PA.imp (pa_cons h hr hs) fun σ H Q ⟨γ, Hk, ds, γ2, o, ee, q⟩ => by
  unfold aCons at ee
  split at ee
  · rename_i d γ1 ef
    split at ee <;> cases ee
    rename_i ds' efa
    exact ⟨γ, Hk, d, γ1, o, ef, fun v H1 Hk1 g1 r1 => ⟨γ1, Hk1, ds', γ2, g1.ok, efa, fun vs H2 Hk2 g2 r2 => q _ H2 Hk2 (g1.trans g2) (.cons (dp_mono g2.kk r1) r2)⟩⟩
  · cases ee
@[simp] def fTup (fa : Fa) : Fe := fun γ => match fa γ with
  | some (ds, γ2) => if okN ds.length then some (.tuple ds, γ2) else none
  | none => none
theorem ev_tup {x1} (h : EA X es fa) : EV X (.Tuple es x1 pos) (fTup fa) := PE.imp (pe_tup h) fun σ H Q ⟨γ, Hk, d, γ2, o, ee, q⟩ => by
  unfold fTup at ee
  split at ee
  · rename_i ds γ1 efa
    split at ee <;> cases ee
    rename_i c
    refine ⟨γ, Hk, ds, γ2, o, efa, fun vs H1 Hk1 g1 r1 => ⟨by rw [dps_len r1]; exact okN_line c, fun p hp => ?_⟩⟩
    have g2 : Grow H1 Hk1 (upd H1 p (.tup vs)) (upd Hk1 p (.tup vs)) := Grow.new g1.ok.sub hp
    exact q _ _ _ (g1.trans (g1.ok.go g2)) (.tup (SqT.of upd_same) (dps_mono g2.kk r1))
  · cases ee
/-- a new list -/
def tL (K : PySem.W.Frag) (fl : Fa) : TE := fun σ H Q => ∃ γ Hk ds γ2, Ok K σ H Hk γ ∧ fl γ = some (ds, γ2) ∧ ∀ p vs H2 Hk2, Go K σ H Hk γ σ H2 Hk2 γ2 → H2 p = none → DpAll K Hk2 vs ds → Q (.ref p) (upd H2 p (.lst vs))
def EL (X : Cx) (e : Expr) (fl : Fa) : Prop := PE X e (tL X.K fl)
@[simp] def fL (fl : Fa) : Fe := fun γ => match fl γ with
  | some (ds, γ2) => some (.list ds, γ2)
  | none => none
theorem ev_L (h : EL X e fa) : EV X e (fL fa) := PE.imp h fun σ H Q ⟨γ, Hk, d, γ2, o, ee, q⟩ => by
  unfold fL at ee
  split at ee <;> cases ee
  rename_i ds efa
  refine ⟨γ, Hk, ds, γ2, o, efa, fun p vs H2 Hk2 g hp r => ?_⟩
  have g2 : Grow H2 Hk2 (upd H2 p (.lst vs)) (upd Hk2 p (.lst vs)) := Grow.new g.ok.sub hp
  exact q _ _ _ (g.trans (g.ok.go g2)) (.lst (SqL.of upd_same) (dps_mono g2.kk r))
@[simp] def lDisp (fa : Fa) : Fa := fun γ => match fa γ with
  | some (ds, γ2) => if okN ds.length then some (ds, γ2) else none
  | none => none
theorem el_disp (h : EA X es fa) : EL X (.List es pos) (lDisp fa) := PE.imp (pe_lst h) fun σ H Q ⟨γ, Hk, d, γ2, o, ee, q⟩ => by
  unfold lDisp at ee
  split at ee
  · rename_i ds γ1 efa
    split at ee <;> cases ee
    rename_i c
    exact ⟨γ, Hk, _, γ2, o, efa, fun vs H1 Hk1 g1 r1 => ⟨by rw [dps_len r1]; exact okN_line c, fun p hp => q p vs H1 Hk1 g1 hp r1⟩⟩
  · cases ee

/-! ### built-in functions of one value -/
def Op1 (K : PySem.W.Frag) (r : V → Hp → VK → Prop) (op : D → Option D) : Prop :=
  ∀ H Hk x dx dz (Q : VK), Same Hk H → Vw K H Hk x dx → op dx = some dz → (∀ v H2 Hk2, Grow H Hk H2 Hk2 → Dp K Hk2 v dz → Q v H2) → r x H Q
@[simp] def f1 (op : D → Option D) (f : Fe) : Fe := fun γ => match f γ with
  | some (x, γ1) => match op x with
    | some z => some (z, γ1)
    | none => none
  | none => none
@[simp] def f1n (op : D → Option D) (i : Nat) : Fe := fun γ => match view γ i with
  | some x => match op x with
    | some z => some (z, γ)
    | none => none
  | none => none
theorem t1 {K : PySem.W.Frag} {r : List V → Hp → VK → Prop} {op : D → Option D} {σ : L2.St} {H : Hp} {Q : VK} (o : Op1 K (fun x => r [x]) op) (h : tI K (f1 op f) σ H Q) : tCB r (tCons (tI K f) tNil) σ H Q := by
  obtain ⟨γ, Hk, d, γ2, ok, e, q⟩ := h
  unfold f1 at e
  split at e
  · rename_i x γ1 ef
    split at e <;> cases e
    rename_i eo
    exact ⟨γ, Hk, x, _, ok, ef, fun v H1 Hk1 g1 r1 => o H1 Hk1 v x d Q g1.ok.sub (.inl r1) eo fun w H3 Hk3 g3 r3 => q w H3 Hk3 (g1.trans (g1.ok.go g3)) r3⟩
  · cases e
theorem t1n {K : PySem.W.Frag} {r : List V → Hp → VK → Prop} {op : D → Option D} {σ : L2.St} {H : Hp} {Q : VK} {i : Nat} (o : Op1 K (fun x => r [x]) op) (h : tI K (f1n op i) σ H Q) : tCB r (tCons (tVar i) tNil) σ H Q := by
  obtain ⟨γ, Hk, d, γ2, ok, e, q⟩ := h
  unfold f1n at e
  split at e
  · rename_i x ev
    split at e <;> cases e
    rename_i eo
    obtain ⟨v, e1, w⟩ := ok.view ev
    exact ⟨v, e1, o H Hk v x d Q ok.sub w eo fun w H3 Hk3 g3 r3 => q w H3 Hk3 (ok.go g3) r3⟩
  · cases e
@[simp] def lenD : D → Option D
  | .list ds => some (.int ds.length)
  | .tuple ds => some (.int ds.length)
  | .str z => if okN z.length then some (.int z.length) else none
  | _ => none
@[simp] def intD : D → Option D
  | .int i => some (.int i)
  | .bool b => some (.int (if b then 1 else 0))
  | _ => none
@[simp] def absD : D → Option D
  | .int i => some (.int (if i < 0 then -i else i))
  | _ => none
@[simp] def tupleD : D → Option D
  | .list ds => some (.tuple ds)
  | .tuple ds => some (.tuple ds)
  | _ => none
variable {K : PySem.W.Frag}
abbrev rLen (K : PySem.W.Frag) : List V → Hp → VK → Prop := fun xs H Q => (∃ p ys, xs = [.ref p] ∧ (SqL K H p ys ∨ SqT K H p ys) ∧ Q (.int ys.length) H) ∨ ∃ x n, xs = [x] ∧ LenV K x H n ∧ Q (.int n) H
theorem o_len : Op1 K (fun x => rLen K [x]) lenD := by
  intro H Hk x dx dz Q s vx e q
  unfold lenD at e
  split at e
  · cases e
    obtain ⟨p, vs, rfl, sp, ap⟩ := vx.lst s
    exact .inl ⟨p, vs, rfl, .inl sp, by rw [dps_len ap]; exact q _ H Hk (Grow.refl s) (.int _)⟩
  · cases e
    obtain ⟨p, vs, rfl, sp, ap⟩ := vx.tup s
    exact .inl ⟨p, vs, rfl, .inr sp, by rw [dps_len ap]; exact q _ H Hk (Grow.refl s) (.int _)⟩
  · split at e <;> cases e
    rename_i c
    cases vx.str
    exact .inr ⟨_, _, rfl, ⟨okN_line c, rfl⟩, q _ H Hk (Grow.refl s) (.int _)⟩
  · cases e
theorem o_int : Op1 K (fun x H Q => (fun xs H Q => (∃ i, xs = [V.int i] ∧ Q (.int i) H) ∨ ∃ k, xs = [V.bl k] ∧ Q (.int (if k then 1 else 0)) H) [x] H Q) intD := by
  intro H Hk x dx dz Q s vx e q
  unfold intD at e
  split at e <;> cases e
  · cases vx.int
    exact .inl ⟨_, rfl, q _ H Hk (Grow.refl s) (.int _)⟩
  · cases vx.bl
    exact .inr ⟨_, rfl, q _ H Hk (Grow.refl s) (.int _)⟩
theorem o_abs : Op1 K (fun x H Q => (fun xs H Q => ∃ i, xs = [V.int i] ∧ Q (.int (if i < 0 then -i else i)) H) [x] H Q) absD := by
  intro H Hk x dx dz Q s vx e q
  unfold absD at e
  split at e <;> cases e
  cases vx.int
  exact ⟨_, rfl, q _ H Hk (Grow.refl s) (.int _)⟩
theorem o_tuple : Op1 K (fun x H Q => (fun xs H Q => ∃ p ys, xs = [V.ref p] ∧ ((SqL K H p ys ∧ ∀ l, H l = none → Q (.ref l) (upd H l (.tup ys))) ∨ (SqT K H p ys ∧ Q (.ref p) H))) [x] H Q) tupleD := by
  intro H Hk x dx dz Q s vx e q
  unfold tupleD at e
  split at e <;> cases e
  · obtain ⟨p, vs, rfl, sp, ap⟩ := vx.lst s
    refine ⟨p, vs, rfl, .inl ⟨sp, fun l hl => ?_⟩⟩
    have g : Grow H Hk (upd H l (.tup vs)) (upd Hk l (.tup vs)) := Grow.new s hl
    exact q _ _ _ g (.tup (SqT.of upd_same) (dps_mono g.kk ap))
  · have vx := vx.flat (fun _ => nofun) (fun _ => nofun)
    cases vx with
    | tup h ap => exact ⟨_, _, rfl, .inr ⟨sqt_mono s h, q _ H Hk (Grow.refl s) (.tup h ap)⟩⟩
/-- f(e), f a built-in function, a built-in type -/
theorem ev_callB {x : Str} {id : String} {p : Pos} {r : List V → Hp → VK → Prop} {op : D → Option D} (o : Op1 X.K (fun x => r [x]) op) (hc : CallR X (.builtin id) r) (hm : X.mg x = none) (hg : Gl X x) (hv : bootBuiltins x = some (.builtin id)) (ha : EV X a f)
    (hn : x ≠ "__name__" := by decide) (hdb : (x == ("__debug__" : Str)) = false := by decide) (he : starEach [a] X.env = (false, eval a X.env) :: starEach [] X.env := by rfl) (hpl : (backTo pos (starEach [] X.env)).any (·.1) = false := by rfl) :
    EV X (.Call (.Name x p) [a] [] pos) (f1 op f) := PE.imp (pe_callB hc hg hm hv (pa_cons ha pa_nil he) hn hdb he hpl) fun _ _ _ h => t1 o h
theorem ev_callBn {x : Str} {id : String} {p : Pos} {i : Nat} {r : List V → Hp → VK → Prop} {op : D → Option D} (o : Op1 X.K (fun x => r [x]) op) (hc : CallR X (.builtin id) r) (hm : X.mg x = none) (hg : Gl X x) (hv : bootBuiltins x = some (.builtin id)) (ha : PE X a (tVar i))
    (hn : x ≠ "__name__" := by decide) (hdb : (x == ("__debug__" : Str)) = false := by decide) (he : starEach [a] X.env = (false, eval a X.env) :: starEach [] X.env := by rfl) (hpl : (backTo pos (starEach [] X.env)).any (·.1) = false := by rfl) :
    EV X (.Call (.Name x p) [a] [] pos) (f1n op i) := PE.imp (pe_callB hc hg hm hv (pa_cons ha pa_nil he) hn hdb he hpl) fun _ _ _ h => t1n o h
theorem ev_callT {x : Str} {id : String} {p : Pos} {r : List V → Hp → VK → Prop} {op : D → Option D} (o : Op1 X.K (fun x => r [x]) op) (hc : CallR X (.type id) r) (hm : X.mg x = none) (hg : Gl X x) (hv : bootBuiltins x = some (.type id)) (ha : EV X a f)
    (hn : x ≠ "__name__" := by decide) (hdb : (x == ("__debug__" : Str)) = false := by decide) (he : starEach [a] X.env = (false, eval a X.env) :: starEach [] X.env := by rfl) (hpl : (backTo pos (starEach [] X.env)).any (·.1) = false := by rfl) :
    EV X (.Call (.Name x p) [a] [] pos) (f1 op f) := PE.imp (pe_callTy hc hg hm hv (pa_cons ha pa_nil he) hn hdb he hpl) fun _ _ _ h => t1 o h
theorem ev_callTn {x : Str} {id : String} {p : Pos} {i : Nat} {r : List V → Hp → VK → Prop} {op : D → Option D} (o : Op1 X.K (fun x => r [x]) op) (hc : CallR X (.type id) r) (hm : X.mg x = none) (hg : Gl X x) (hv : bootBuiltins x = some (.type id)) (ha : PE X a (tVar i))
    (hn : x ≠ "__name__" := by decide) (hdb : (x == ("__debug__" : Str)) = false := by decide) (he : starEach [a] X.env = (false, eval a X.env) :: starEach [] X.env := by rfl) (hpl : (backTo pos (starEach [] X.env)).any (·.1) = false := by rfl) :
    EV X (.Call (.Name x p) [a] [] pos) (f1n op i) := PE.imp (pe_callTy hc hg hm hv (pa_cons ha pa_nil he) hn hdb he hpl) fun _ _ _ h => t1n o h
theorem x_len : CallR X (.builtin "len") (rLen X.K) := call_len_seq.or call_len
/-- list(e) -/
@[simp] def listD : D → Option (List D)
  | .list ds => some ds
  | .tuple ds => some ds
  | _ => none
@[simp] def lOf (f : Fe) : Fa := fun γ => match f γ with
  | some (x, γ1) => match listD x with
    | some z => some (z, γ1)
    | none => none
  | none => none
@[simp] def lOfn (i : Nat) : Fa := fun γ => match view γ i with
  | some x => match listD x with
    | some z => some (z, γ)
    | none => none
  | none => none
theorem listD_vw {H Hk : Hp} {v : V} {d : D} {ds : List D} (s : Same Hk H) (h : Vw K H Hk v d) (e : listD d = some ds) : ∃ p vs, v = .ref p ∧ (SqL K H p vs ∨ SqT K H p vs) ∧ DpAll K Hk vs ds := by
  unfold listD at e
  split at e <;> cases e
  · obtain ⟨p, vs, h1, h2, h3⟩ := h.lst s
    exact ⟨p, vs, h1, .inl h2, h3⟩
  · obtain ⟨p, vs, h1, h2, h3⟩ := h.tup s
    exact ⟨p, vs, h1, .inr h2, h3⟩
theorem el_list {p : Pos} (hm : X.mg "list" = none) (hg : Gl X "list") (ha : EV X a f) (he : starEach [a] X.env = (false, eval a X.env) :: starEach [] X.env := by rfl) (hpl : (backTo pos (starEach [] X.env)).any (·.1) = false := by rfl) :
    EL X (.Call (.Name "list" p) [a] [] pos) (lOf f) := PE.imp (pe_callTy call_list_of hg hm (by decide +kernel) (pa_cons ha pa_nil he) (he := he) (hpl := hpl)) fun σ H Q ⟨γ, Hk, d, γ2, o, ee, q⟩ => by
  unfold lOf at ee
  split at ee
  · rename_i x γ1 ef
    split at ee <;> cases ee
    rename_i el
    refine ⟨γ, Hk, x, γ2, o, ef, fun v H1 Hk1 g1 r1 => ?_⟩
    obtain ⟨t, vs, rfl, h1, h2⟩ := listD_vw g1.ok.sub (.inl r1) el
    exact ⟨t, vs, rfl, h1, fun l hl => q l vs H1 Hk1 g1 hl h2⟩
  · cases ee
theorem el_listn {p : Pos} {i : Nat} (hm : X.mg "list" = none) (hg : Gl X "list") (ha : PE X a (tVar i)) (he : starEach [a] X.env = (false, eval a X.env) :: starEach [] X.env := by rfl) (hpl : (backTo pos (starEach [] X.env)).any (·.1) = false := by rfl) :
    EL X (.Call (.Name "list" p) [a] [] pos) (lOfn i) := PE.imp (pe_callTy call_list_of hg hm (by decide +kernel) (pa_cons ha pa_nil he) (he := he) (hpl := hpl)) fun σ H Q ⟨γ, Hk, d, γ2, o, ee, q⟩ => by
  unfold lOfn at ee
  split at ee
  · rename_i x ev
    split at ee <;> cases ee
    rename_i el
    obtain ⟨v, e1, w⟩ := o.view ev
    obtain ⟨t, vs, rfl, h1, h2⟩ := listD_vw o.sub w el
    exact ⟨_, e1, t, vs, rfl, h1, fun l hl => q l vs H Hk (Go.refl o) hl h2⟩
  · cases ee
end

/-! ### slices -/
def cutD {α : Type} (xs : List α) (lo hi : Option Int) : List α := (xs.drop (HT.sIx xs.length 0 lo)).take (HT.sIx xs.length xs.length hi - HT.sIx xs.length 0 lo)
theorem cutD_whole {α : Type} {xs : List α} {lo hi : Option Int} (h : HT.sIx xs.length 0 lo = 0 ∧ HT.sIx xs.length xs.length hi = xs.length) : cutD xs lo hi = xs := by
  unfold cutD
  rw [h.1, h.2]
  simp
abbrev Fp := En → Option (Option Int × En)
def tPp (K : PySem.W.Frag) (fp : Fp) : TO := fun σ H Q => ∃ γ Hk o γ2, Ok K σ H Hk γ ∧ fp γ = some (o, γ2) ∧ ∀ H2 Hk2, Go K σ H Hk γ σ H2 Hk2 γ2 → Q o H2
def EP' (X : Cx) (e : Option Expr) (fp : Fp) : Prop := PO X e (tPp X.K fp)
@[simp] def pNo : Fp := fun γ => some (none, γ)
@[simp] def pOf (f : Fe) : Fp := fun γ => match f γ with
  | some (.int i, γ1) => some (some i, γ1)
  | _ => none
section
variable {X : Cx} {e : Expr} {es : List Expr} {f : Fe} {lo hi : Option Expr} {fl fh : Fp} {pos p2 : Pos} {K : PySem.W.Frag}
theorem PO.imp {e : Option Expr} {t t' : TO} (h : PO X e t) (i : ∀ σ H Q, t' σ H Q → t σ H Q) : PO X e t' := ⟨fun pins s σ H Q I q => h.run pins s σ H Q I (i _ _ _ q)⟩
theorem ep_no : EP' X none pNo := PO.imp po_none fun σ H Q ⟨γ, Hk, d, γ2, o, ee, q⟩ => by
  cases ee
  exact q H Hk (Go.refl o)
theorem ep_of (h : EV X e f) : EP' X (some e) (pOf f) := PO.imp (po_some h) fun σ H Q ⟨γ, Hk, d, γ2, o, ee, q⟩ => by
  unfold pOf at ee
  split at ee <;> cases ee
  rename_i ef
  exact ⟨γ, Hk, _, _, o, ef, fun v H1 Hk1 g1 r1 => by cases r1; exact ⟨_, rfl, q H1 Hk1 g1⟩⟩
@[simp] def slD : D → Option Int → Option Int → Option D
  | .tuple ds, lo, hi => some (.tuple (cutD ds lo hi))
  | .list ds, lo, hi => some (.list (cutD ds lo hi))
  | .str z, lo, hi => if okN z.length then some (.str (cutS z lo hi)) else none
  | _, _, _ => none
@[simp] def fSl (f : Fe) (fl fh : Fp) : Fe := fun γ => match f γ with
  | some (x, γ1) => match fl γ1 with
    | some (lo, γ2) => match fh γ2 with
      | some (hi, γ3) => match slD x lo hi with
        | some z => some (z, γ3)
        | none => none
      | none => none
    | none => none
  | none => none
@[simp] def fSln (i : Nat) (fl fh : Fp) : Fe := fun γ => match view γ i with
  | some _ => match fl γ with
    | some (lo, γ2) => match fh γ2 with
      | some (hi, γ3) => match view γ3 i with
        | some x => match slD x lo hi with
          | some z => some (z, γ3)
          | none => none
        | none => none
      | none => none
    | none => none
  | none => none
abbrev rSl (K : PySem.W.Frag) : V → Option Int → Option Int → Hp → VK → Prop := fun x lo hi H Q => rSlA K x lo hi H Q ∨ rSlL K x lo hi H Q ∨ rSlS x lo hi H Q
theorem o_sl {H Hk : Hp} {x : V} {dx dz : D} {a b : Option Int} {Q : VK} (s : Same Hk H) (vx : Vw K H Hk x dx) (e : slD dx a b = some dz) (q : ∀ v H2 Hk2, Grow H Hk H2 Hk2 → Dp K Hk2 v dz → Q v H2) : rSl K x a b H Q := by
  unfold slD at e
  split at e
  · cases e
    obtain ⟨p, vs, rfl, sp, ap⟩ := vx.tup s
    have hl := dps_len ap
    refine .inl ⟨p, vs, rfl, sp, fun hw => ?_, fun hw l hl' => ?_⟩
    · rw [hl] at hw
      rw [cutD_whole hw] at q
      exact q _ H Hk (Grow.refl s) (vx.flat (fun _ => nofun) (fun _ => nofun))
    · have g : Grow H Hk (upd H l (.tup (cutV vs a b))) (upd Hk l (.tup (cutV vs a b))) := Grow.new s hl'
      refine q _ _ _ g (.tup (SqT.of upd_same) (dps_mono g.kk ?_))
      unfold cutV cutD
      rw [hl]
      exact dps_take _ (dps_drop _ ap)
  · cases e
    obtain ⟨p, vs, rfl, sp, ap⟩ := vx.lst s
    have hl := dps_len ap
    refine .inr (.inl ⟨p, vs, rfl, sp, fun l hl' => ?_⟩)
    have g : Grow H Hk (upd H l (.lst (cutV vs a b))) (upd Hk l (.lst (cutV vs a b))) := Grow.new s hl'
    refine q _ _ _ g (.lst (SqL.of upd_same) (dps_mono g.kk ?_))
    unfold cutV cutD
    rw [hl]
    exact dps_take _ (dps_drop _ ap)
  · split at e <;> cases e
    rename_i c
    cases vx.str
    exact .inr (.inr ⟨_, rfl, okN_line c, q _ H Hk (Grow.refl s) (.str _)⟩)
  · cases e
theorem x_sl : SlR X (rSl X.K) := sl_tupA.or (sl_list.or sl_str)
theorem ev_sl (he : EV X e f) (hl : EP' X lo fl) (hh : EP' X hi fh) : EV X (.Subscript e (.Slice lo hi none p2) pos) (fSl f fl fh) := PE.imp (pe_slice x_sl he hl hh) fun σ H Q ⟨γ, Hk, d, γ2, o, ee, q⟩ => by
  unfold fSl at ee
  split at ee
  · rename_i x γ1 ef
    split at ee
    · rename_i a γa ea
      split at ee
      · rename_i b γb eb
        split at ee <;> cases ee
        rename_i es
        exact ⟨γ, Hk, x, γ1, o, ef, fun v H1 Hk1 g1 r1 => ⟨γ1, Hk1, a, γa, g1.ok, ea, fun H2 Hk2 g2 => ⟨γa, Hk2, b, _, g2.ok, eb, fun H3 Hk3 g3 =>
          o_sl g3.ok.sub (.inl (dp_mono (g2.kk.trans g3.kk) r1)) es fun w H4 Hk4 g4 r4 => q w H4 Hk4 (((g1.trans g2).trans g3).trans (g3.ok.go g4)) r4⟩⟩⟩
      · cases ee
    · cases ee
  · cases ee
theorem ev_sln {i : Nat} (he : PE X e (tVar i)) (hl : EP' X lo fl) (hh : EP' X hi fh) : EV X (.Subscript e (.Slice lo hi none p2) pos) (fSln i fl fh) := PE.imp (pe_slice x_sl he hl hh) fun σ H Q ⟨γ, Hk, d, γ2, o, ee, q⟩ => by
  unfold fSln at ee
  split at ee
  · rename_i x0 ev0
    split at ee
    · rename_i a γa ea
      split at ee
      · rename_i b γb eb
        split at ee
        · rename_i x ev
          split at ee <;> cases ee
          rename_i es
          obtain ⟨v, e1, _⟩ := o.view ev0
          refine ⟨v, e1, γ, Hk, a, γa, o, ea, fun H2 Hk2 g2 => ⟨γa, Hk2, b, _, g2.ok, eb, fun H3 Hk3 g3 => ?_⟩⟩
          obtain ⟨v', e2, w⟩ := g3.ok.view ev
          rw [e1] at e2; cases e2
          exact o_sl g3.ok.sub w es fun w H4 Hk4 g4 r4 => q w H4 Hk4 ((g2.trans g3).trans (g3.ok.go g4)) r4
        · cases ee
      · cases ee
    · cases ee
  · cases ee
end
end DN
namespace DN
open PySem PySem.Spec PyProof.Rows L2
/-! ### storing -/
def NoPin (γ : En) (i : Nat) : Prop := ∀ y, gt γ i ≠ some (.ow true y)
/-- only the first slot can be pinned -/
@[simp] def pinB (γ : En) : Nat → Bool
  | 0 => match gt γ 0 with
    | some (.ow true _) => true
    | _ => false
  | _ + 1 => false
theorem noPin_of {K : PySem.W.Frag} {σ : L2.St} {H Hk : Hp} {γ : En} (o : Ok K σ H Hk γ) {i : Nat} (h : pinB γ i = false) : NoPin γ i := fun ds e => by
  obtain rfl := o.pin i ds e
  unfold pinB at h
  rw [e] at h
  cases h
theorem set_here {σ : L2.St} {γ : En} {i : Nat} (l : σ.length = γ.length) (h : i < γ.length) (x : Option V) : (σ.set i x)[i]? = some x := by
  rw [List.getElem?_set_self (by rw [l]; exact h)]
theorem set_there {σ : L2.St} {i j : Nat} (h : i ≠ j) (x : Option V) : (σ.set i x)[j]? = σ[j]? := List.getElem?_set_ne h
section
variable {K : PySem.W.Frag} {σ : L2.St} {H Hk : Hp} {γ : En} {i : Nat}
theorem set_ne {j : Nat} {e : Ent} (h : gt γ j = some e) (n : ¬ (i = j ∧ i < γ.length)) : i ≠ j := fun z => n ⟨z, by rw [z]; exact gt_lt h⟩
/-- slot i gets a thing that is not owned, or nothing -/
theorem Ok.setAny {x : Option V} {n : Option Ent} (o : Ok K σ H Hk γ) (np : NoPin γ i) (n1 : ∀ b y, n ≠ some (.ow b y)) (n2 : ∀ d, n = some (.dat d) → ∃ v, x = some v ∧ Dp K Hk v d) (n3 : ∀ t, n = some (.tab t) → ∃ v, x = some v ∧ Tb K Hk v t) :
    Go K σ H Hk γ (σ.set i x) H Hk (γ.set i n) := by
  have get : ∀ {j b y}, gt (γ.set i n) j = some (.ow b y) → gt γ j = some (.ow b y) ∧ i ≠ j := fun {j b y} e => by
    rw [gt_set] at e
    split at e
    · exact absurd e (n1 b y)
    · rename_i c; exact ⟨e, set_ne e c⟩
  refine ⟨⟨by rw [List.length_set, List.length_set]; exact o.len, o.sub, fun j d' e => ?_, fun j b y e => ?_, fun j y e => o.pin _ _ (get e).1, fun j k b c y z v u fp fq ej ek vj vk rj rk a hj hk => ?_, fun j kvs e => ?_⟩, Same.refl _, fun a u h n => (by rw [h] at n; cases n), fun _ _ h _ => h, fun a h => ?_, fun j y h => ?_⟩
  · rw [gt_set] at e
    split at e
    · rename_i c
      obtain ⟨v, rfl, r⟩ := n2 _ e
      exact ⟨v, by rw [← c.1]; exact set_here o.len c.2 _, r⟩
    · rename_i c
      obtain ⟨v', e', r'⟩ := o.dat j d' e
      exact ⟨v', by rw [set_there (set_ne e c)]; exact e', r'⟩
  · obtain ⟨e, c⟩ := get e
    obtain ⟨v, fp, e', q⟩ := o.ow j b y e
    exact ⟨v, fp, by rw [set_there c]; exact e', q⟩
  · obtain ⟨ej, cj⟩ := get ej
    obtain ⟨ek, ck⟩ := get ek
    rw [set_there cj] at vj
    rw [set_there ck] at vk
    exact o.sep _ _ _ _ _ _ _ _ _ _ ej ek vj vk rj rk a hj hk
  · rw [gt_set] at e
    split at e
    · rename_i c
      obtain ⟨v, rfl, r⟩ := n3 _ e
      exact ⟨v, by rw [← c.1]; exact set_here o.len c.2 _, r⟩
    · rename_i c
      obtain ⟨v', e', r'⟩ := o.tab j kvs e
      exact ⟨v', by rw [set_there (set_ne e c)]; exact e', r'⟩
  · obtain ⟨j, b, y, v, fp, e, h1, r, m⟩ := h
    obtain ⟨e, c⟩ := get e
    rw [set_there c] at h1
    exact .inl ⟨j, b, y, v, fp, e, h1, r, m⟩
  · have hij : i ≠ j := fun z => np y (by rw [z]; exact h)
    refine ⟨set_there hij _, y, ?_⟩
    rw [gt_set, if_neg (fun c => hij c.1)]
    exact h
theorem Ok.setDat {v : V} {d : D} (o : Ok K σ H Hk γ) (r : Dp K Hk v d) (np : NoPin γ i) : Go K σ H Hk γ (σ.set i (some v)) H Hk (γ.set i (some (.dat d))) :=
  o.setAny np (fun _ _ => nofun) (fun d' e => by cases e; exact ⟨v, rfl, r⟩) (fun _ => nofun)
/-- slot i gets a new thing that the frame owns -/
theorem Ok.setNew {v : V} {y : Pay} {fp : List Addr} {H' : Hp} (o : Ok K σ H Hk γ) (s : Same H H') (r : OwnV K H' Hk v y fp) (new : ∀ a ∈ fp, H a = none) (np : NoPin γ i) :
    Go K σ H Hk γ (σ.set i (some v)) H' Hk (γ.set i (some (.ow false y))) := by
  have up : ∀ {w z fq}, OwnV K H Hk w z fq → OwnV K H' Hk w z fq := fun {w z fq} r => r.to (Same.refl _) (fun a _ u e => s a u e) fun a ha => (r.at a ha).2
  -- what an owned slot is behind it
  have get : ∀ {j b z w fq}, gt (γ.set i (some (.ow false y))) j = some (.ow b z) → (σ.set i (some v))[j]? = some (some w) → OwnV K H' Hk w z fq → (i = j ∧ fq = fp) ∨ (i ≠ j ∧ gt γ j = some (.ow b z) ∧ σ[j]? = some (some w) ∧ OwnV K H Hk w z fq) := fun {j b z w fq} e ew rw' => by
    rw [gt_set] at e
    split at e
    · rename_i c
      cases e
      rw [← c.1, set_here o.len c.2] at ew
      cases ew
      exact .inl ⟨c.1, rw'.det r⟩
    · rename_i c
      have ne := set_ne e c
      rw [set_there ne] at ew
      obtain ⟨w', fq', e', r'⟩ := o.ow j b z e
      rw [ew] at e'; cases e'
      exact .inr ⟨ne, e, ew, by rw [rw'.det (up r')]; exact r'⟩
  refine ⟨⟨by rw [List.length_set, List.length_set]; exact o.len, o.sub.trans s, fun j d' e => ?_, fun j b z e => ?_, fun j z e => ?_, fun j k b c z z' w w' fq fr ej ek vj vk rj rk a hj hk => ?_, fun j kvs e => ?_⟩, Same.refl _, fun a u h n => (by rw [h] at n; cases n), fun _ _ h _ => s _ _ h, fun a h => ?_, fun j z h => ?_⟩
  · rw [gt_set] at e
    split at e
    · cases e
    · rename_i c
      obtain ⟨v', e', r'⟩ := o.dat j d' e
      exact ⟨v', by rw [set_there (set_ne e c)]; exact e', r'⟩
  · rw [gt_set] at e
    split at e
    · rename_i c
      cases e
      exact ⟨v, fp, by rw [← c.1]; exact set_here o.len c.2 _, r⟩
    · rename_i c
      obtain ⟨w, fq, e', r'⟩ := o.ow j b z e
      exact ⟨w, fq, by rw [set_there (set_ne e c)]; exact e', up r'⟩
  · rw [gt_set] at e
    split at e
    · cases e
    · exact o.pin _ _ e
  · rcases get ej vj rj with ⟨c1, rfl⟩ | ⟨c1, e1, v1, r1⟩
    · rcases get ek vk rk with ⟨c2, rfl⟩ | ⟨c2, e2, v2, r2⟩
      · rw [← c1, ← c2]
      · obtain ⟨⟨u, hu⟩, _⟩ := r2.at a hk
        rw [new a hj] at hu; cases hu
    · rcases get ek vk rk with ⟨c2, rfl⟩ | ⟨c2, e2, v2, r2⟩
      · obtain ⟨⟨u, hu⟩, _⟩ := r1.at a hj
        rw [new a hk] at hu; cases hu
      · exact o.sep _ _ _ _ _ _ _ _ _ _ e1 e2 v1 v2 r1 r2 a hj hk
  · rw [gt_set] at e
    split at e
    · cases e
    · rename_i c
      obtain ⟨v', e', r'⟩ := o.tab j kvs e
      exact ⟨v', by rw [set_there (set_ne e c)]; exact e', r'⟩
  · obtain ⟨j, b, z, w, fq, e, h1, r', m⟩ := h
    rcases get e h1 r' with ⟨_, rfl⟩ | ⟨_, e1, v1, r1⟩
    · exact .inr (new a m)
    · exact .inl ⟨j, b, z, w, fq, e1, v1, r1, m⟩
  · have hij : i ≠ j := fun q => np z (by rw [q]; exact h)
    refine ⟨set_there hij _, z, ?_⟩
    rw [gt_set, if_neg (fun c => hij c.1)]
    exact h
theorem Ok.setOwn {p : Addr} {vs : List V} {ds : List D} (o : Ok K σ H Hk γ) (hp : H p = none) (r : DpAll K Hk vs ds) (np : NoPin γ i) :
    Go K σ H Hk γ (σ.set i (some (.ref p))) (upd H p (.lst vs)) Hk (γ.set i (some (.own false ds))) :=
  o.setNew (same_upd hp) (.lst upd_same (o.sub.free hp) r) (fun a ha => by rw [List.mem_singleton.mp ha]; exact hp) np
/-- what slot i owns is changed -/
theorem Ok.change {b : Bool} {v : V} {y z : Pay} {fp fq : List Addr} {H' : Hp} (o : Ok K σ H Hk γ) (h : gt γ i = some (.ow b y)) (hs : σ[i]? = some (some v)) (r : OwnV K H Hk v y fp) (kp : ∀ a u, H a = some u → a ∉ fp → H' a = some u) (r' : OwnV K H' Hk v z fq)
    (new : ∀ a ∈ fq, a ∈ fp ∨ H a = none) : Go K σ H Hk γ σ H' Hk (γ.set i (some (.ow b z))) := by
  have hi := gt_lt h
  have mine : ∀ a ∈ fp, OwnA K σ H Hk γ a := fun a ha => ⟨i, b, y, v, fp, h, hs, r, ha⟩
  have up : ∀ {j c w x fr}, i ≠ j → gt γ j = some (.ow c x) → σ[j]? = some (some w) → OwnV K H Hk w x fr → OwnV K H' Hk w x fr := fun {j c w x fr} ne e ew rw' =>
    rw'.to (Same.refl _) (fun a ha u q => kp a u q fun m => ne (o.sep _ _ _ _ _ _ _ _ _ _ h e hs ew r rw' a m ha)) fun a ha => (rw'.at a ha).2
  have get : ∀ {j c x w fr}, gt (γ.set i (some (.ow b z))) j = some (.ow c x) → σ[j]? = some (some w) → OwnV K H' Hk w x fr → (i = j ∧ fr = fq) ∨ (i ≠ j ∧ gt γ j = some (.ow c x) ∧ OwnV K H Hk w x fr) := fun {j c x w fr} e ew rw' => by
    rw [gt_set] at e
    split at e
    · rename_i cc
      cases e
      rw [← cc.1, hs] at ew
      cases ew
      exact .inl ⟨cc.1, rw'.det r'⟩
    · rename_i cc
      have ne := set_ne e cc
      obtain ⟨w', fr', e', q'⟩ := o.ow j c x e
      rw [ew] at e'; cases e'
      exact .inr ⟨ne, e, by rw [rw'.det (up ne e ew q')]; exact q'⟩
  have sub : Same Hk H' := fun a u e => kp a u (o.sub _ _ e) fun m => by
    have := (r.at a m).2
    rw [e] at this; cases this
  refine ⟨⟨by rw [List.length_set]; exact o.len, sub, fun j d' e => ?_, fun j c x e => ?_, fun j x e => ?_, fun j k c c' x x' w w' fr ft ej ek vj vk rj rk a hj hk => ?_, fun j kvs e => ?_⟩, Same.refl _, fun a u h n => (by rw [h] at n; cases n), fun a u e n => ?_, fun a e => ?_, fun j x e => ?_⟩
  · rw [gt_set] at e
    split at e
    · cases e
    · exact o.dat j d' e
  · rw [gt_set] at e
    split at e
    · rename_i cc
      cases e
      exact ⟨v, fq, by rw [← cc.1]; exact hs, r'⟩
    · rename_i cc
      obtain ⟨w, fr, e2, q⟩ := o.ow j c x e
      exact ⟨w, fr, e2, up (set_ne e cc) e e2 q⟩
  · rw [gt_set] at e
    split at e
    · rename_i cc
      cases e
      rw [← cc.1]
      exact o.pin _ _ h
    · exact o.pin _ _ e
  · rcases get ej vj rj with ⟨c1, rfl⟩ | ⟨c1, e1, r1⟩
    · rcases get ek vk rk with ⟨c2, rfl⟩ | ⟨c2, e2, r2⟩
      · rw [← c1, ← c2]
      · rcases new a hj with m | m
        · exact o.sep _ _ _ _ _ _ _ _ _ _ (by rw [← c1]; exact h) e2 (by rw [← c1]; exact hs) vk r r2 a m hk
        · obtain ⟨⟨u, hu⟩, _⟩ := r2.at a hk
          rw [m] at hu; cases hu
    · rcases get ek vk rk with ⟨c2, rfl⟩ | ⟨c2, e2, r2⟩
      · rcases new a hk with m | m
        · exact (o.sep _ _ _ _ _ _ _ _ _ _ (by rw [← c2]; exact h) e1 (by rw [← c2]; exact hs) vj r r1 a m hj).symm
        · obtain ⟨⟨u, hu⟩, _⟩ := r1.at a hj
          rw [m] at hu; cases hu
      · exact o.sep _ _ _ _ _ _ _ _ _ _ e1 e2 vj vk r1 r2 a hj hk
  · rw [gt_set] at e
    split at e
    · cases e
    · exact o.tab j kvs e
  · exact kp a u e fun m => n (mine a m)
  · obtain ⟨j, c, x, w, fr, e, h1, r1, m⟩ := e
    rcases get e h1 r1 with ⟨_, rfl⟩ | ⟨_, e1, r2⟩
    · rcases new a m with q | q
      · exact .inl (mine a q)
      · exact .inr q
    · exact .inl ⟨j, c, x, w, fr, e1, h1, r2, m⟩
  · refine ⟨rfl, ?_⟩
    by_cases hij : i = j
    · subst hij
      rw [h] at e; cases e
      exact ⟨z, by rw [gt_set, if_pos ⟨rfl, hi⟩]⟩
    · exact ⟨x, by rw [gt_set, if_neg (fun c => hij c.1)]; exact e⟩
theorem Ok.write {b : Bool} {p : Addr} {vs : List V} {ds es : List D} (o : Ok K σ H Hk γ) (h : gt γ i = some (.own b ds)) (hs : σ[i]? = some (some (.ref p))) (r : DpAll K Hk vs es) :
    Go K σ H Hk γ σ (upd H p (.lst vs)) Hk (γ.set i (some (.own b es))) := by
  obtain ⟨p', ws, e1, hp, hkp, ra⟩ := o.own i b ds h
  rw [hs] at e1; cases e1
  exact o.change h hs (.lst hp hkp ra) (fun a u e n => by rw [upd_ne (fun q => n (by simp [q]))]; exact e) (.lst upd_same hkp r) (fun a ha => .inl ha)
/-- a slot is forgotten -/
theorem Ok.drop (o : Ok K σ H Hk γ) (no : ∀ b y, gt γ i ≠ some (.ow b y)) : Go K σ H Hk γ (σ.set i none) H Hk (γ.set i none) :=
  o.setAny (fun y => no true y) (fun _ _ => nofun) (fun _ => nofun) (fun _ => nofun)
end

/-! ### targets -/
abbrev Fg := D → En → Option En
def tGt (K : PySem.W.Frag) (tg : Fg) : TG := fun v σ H Q => ∃ γ Hk d γ2, Ok K σ H Hk γ ∧ Dp K Hk v d ∧ tg d γ = some γ2 ∧ ∀ σ2, Go K σ H Hk γ σ2 H Hk γ2 → Q σ2 H
def EG (X : Cx) (e : Expr) (tg : Fg) : Prop := PG X e (tGt X.K tg)
abbrev Fgs := List D → En → Option En
def tGts (K : PySem.W.Frag) (tg : Fgs) : TGs := fun vs σ H Q => ∃ γ Hk ds γ2, Ok K σ H Hk γ ∧ DpAll K Hk vs ds ∧ tg ds γ = some γ2 ∧ ∀ σ2, Go K σ H Hk γ σ2 H Hk γ2 → Q σ2 H
def EGs (X : Cx) (es : List Expr) (tg : Fgs) : Prop := PGs X es (tGts X.K tg)
@[simp] def gDat (i : Nat) : Fg := fun d γ => if pinB γ i then none else some (γ.set i (some (.dat d)))
@[simp] def gsNo : Fgs := fun ds γ => match ds with
  | [] => some γ
  | _ => none
@[simp] def gsCons (tg : Fg) (tgs : Fgs) : Fgs := fun ds γ => match ds with
  | d :: r => match tg d γ with
    | some γ1 => tgs r γ1
    | none => none
  | [] => none
@[simp] def gTp (n : Nat) (tgs : Fgs) : Fg := fun d γ => match d with
  | .tuple ds => if ds.length = n then tgs ds γ else none
  | _ => none
section
variable {W : WX} {X : Cx} {e : Expr} {es : List Expr} {tg : Fg} {tgs : Fgs} {pos : Pos}
theorem PG.imp {e : Expr} {t t' : TG} (h : PG X e t) (i : ∀ v σ H Q, t' v σ H Q → t v σ H Q) : PG X e t' := ⟨fun pins s σ H v u Q I r q => h.run pins s σ H v u Q I r (i _ _ _ _ q)⟩
theorem PGs.imp {e : List Expr} {t t' : TGs} (h : PGs X e t) (i : ∀ v σ H Q, t' v σ H Q → t v σ H Q) : PGs X e t' := ⟨fun pins s σ H v u Q I r q => h.run pins s σ H v u Q I r (i _ _ _ _ q)⟩
theorem gDat_imp {K : PySem.W.Frag} {i : Nat} {v : V} {σ : L2.St} {H : Hp} {Q : L2.St → Hp → Prop} (h : tGt K (gDat i) v σ H Q) : gName i v σ H Q := by
  obtain ⟨γ, Hk, d, γ2, o, r, e, q⟩ := h
  unfold gDat at e
  split at e <;> cases e
  rename_i c
  exact q _ (o.setDat r (noPin_of o (by simpa using c)))
theorem eg_name (i : Nat) {x : Str} (hN : X.N.Nodup) (hi : X.N[i]? = some x) (hx : Loc X.env.scope x) (hf : X.fn x = true ∨ X.env.scope.names.lookup x = some .local := by first | exact .inl rfl | exact .inr rfl | assumption) : EG X (.Name x pos) (gDat i) :=
  PG.imp (pg_name hN hi hx hf) fun _ _ _ _ h => gDat_imp h
theorem egs_nil : EGs X [] gsNo := PGs.imp pgs_nil fun v σ H Q ⟨γ, Hk, ds, γ2, o, r, e, q⟩ => by
  unfold gsNo at e
  split at e <;> cases e
  cases r
  exact ⟨rfl, q σ (Go.refl o)⟩
theorem egs_cons (h1 : EG X e tg) (h2 : EGs X es tgs) (hs : (assignEach (e :: es) X.env).map (·.2) = assign e X.env :: (assignEach es X.env).map (·.2) := by rfl) : EGs X (e :: es) (gsCons tg tgs) :=
  PGs.imp (pgs_cons h1 h2 hs) fun v σ H Q ⟨γ, Hk, ds, γ2, o, r, e, q⟩ => by
  unfold gsCons at e
  split at e
  · rename_i d r'
    split at e
    · rename_i γ1 e1
      cases r with
      | cons ra rb => exact ⟨_, _, rfl, γ, Hk, d, γ1, o, ra, e1, fun σ1 g1 => ⟨γ1, Hk, r', γ2, g1.ok, rb, e, fun σ2 g2 => q σ2 (g1.trans g2)⟩⟩
    · cases e
  · cases e
theorem eg_tup (n : Nat) {k : Nat} (hc : X.calm = true) (h : EGs X es tgs) (hn : (assignEach es X.env).length = n := by rfl) (hst : (assignEach es X.env).findIdx? (·.1) = none := by rfl) : EG X (.Tuple es k pos) (gTp n tgs) :=
  PG.imp (pg_tup hc h hn hst) fun v σ H Q ⟨γ, Hk, d, γ2, o, r, e, q⟩ => by
  unfold gTp at e
  split at e
  · rename_i ds
    split at e
    · rename_i hl
      cases r with
      | tup hs ra => exact ⟨_, _, rfl, sqt_mono o.sub hs, by rw [dps_len ra]; exact hl, γ, Hk, ds, γ2, o, ra, e, q⟩
    · cases e
  · cases e
end

/-! ### statements -/
inductive Out where
  | nx (γ : En)
  | rt (d : D) (γ : En)
  | bk (γ : En)
  | ct (γ : En)
  | rs (c : Str) (fs : List (Str × D)) (γ : En)
  | ro (y : Pay) (γ : En)
/-- the fields of an exception -/
inductive FldsIs (K : PySem.W.Frag) (H : Hp) : List (Str × V) → List (Str × D) → Prop
  | nil : FldsIs K H [] []
  | cons {f : Str} {v : V} {d : D} {vs : List (Str × V)} {ds : List (Str × D)} : Dp K H v d → FldsIs K H vs ds → FldsIs K H ((f, v) :: vs) ((f, d) :: ds)
theorem FldsIs.mono {K : PySem.W.Frag} {H H' : Hp} (s : Same H H') : ∀ {vs : List (Str × V)} {ds : List (Str × D)}, FldsIs K H vs ds → FldsIs K H' vs ds
  | _, _, .nil => .nil
  | _, _, .cons h t => .cons (dp_mono s h) (t.mono s)
/-- an exception of the class c with these fields -/
def XcIs (K : PySem.W.Frag) (Hk : Hp) (cls : Value) (dd : Option Addr) (c : Str) (fs : List (Str × D)) : Prop := ∃ C a vs, cls = .ref C ∧ ClsIs K c C ∧ dd = some a ∧ Hk a = some (.xd vs) ∧ FldsIs K Hk vs fs
abbrev Fs := En → Option Out
def Fin (K : PySem.W.Frag) (W : WX) (Z : Ends) (σ : L2.St) (H Hk : Hp) (γ : En) : Out → Prop
  | .nx γ2 => ∀ σ2 H2 Hk2, Go K σ H Hk γ σ2 H2 Hk2 γ2 → Z.nx σ2 H2
  | .rt d γ2 => ∀ v σ2 H2 Hk2, Go K σ H Hk γ σ2 H2 Hk2 γ2 → Dp K Hk2 v d → Z.rt v H2
  | .bk γ2 => ∀ σ2 H2 Hk2, Go K σ H Hk γ σ2 H2 Hk2 γ2 → Z.bk σ2 H2
  | .ct γ2 => ∀ σ2 H2 Hk2, Go K σ H Hk γ σ2 H2 Hk2 γ2 → Z.ct σ2 H2
  | .rs c fs γ2 => ∀ σ2 H2 Hk2 cls dd, Go K σ H Hk γ σ2 H2 Hk2 γ2 → XcIs K Hk2 cls dd c fs → W cls dd σ2 H2
  | .ro y γ2 => ∀ v fp σ2 H2 Hk2, Go K σ H Hk γ σ2 H2 Hk2 γ2 → OwnV K H2 Hk2 v y fp → (∀ a ∈ fp, ¬ OwnA K σ2 H2 Hk2 γ2 a ∧ (H a = none ∨ OwnA K σ H Hk γ a)) → Z.rt v H2
def tS (K : PySem.W.Frag) (W : WX) (F : Fs) : TS := fun Z σ H => ∃ γ Hk o, Ok K σ H Hk γ ∧ F γ = some o ∧ Fin K W Z σ H Hk γ o
def ES (X : Cx) (W : WX) (s : Stmt) (F : Fs) : Prop := PS X s (tS X.K W F)
def ESs (X : Cx) (W : WX) (s : List Stmt) (F : Fs) : Prop := PSs X s (tS X.K W F)
theorem Go.older {K : PySem.W.Frag} {σ σ1 : L2.St} {H Hk H1 Hk1 : Hp} {γ γ1 : En} (g : Go K σ H Hk γ σ1 H1 Hk1 γ1) {a : Addr} (h : H1 a = none ∨ OwnA K σ1 H1 Hk1 γ1 a) : H a = none ∨ OwnA K σ H Hk γ a := by
  rcases h with h | h
  · by_cases ho : OwnA K σ H Hk γ a
    · exact .inr ho
    · cases e : H a with
      | none => exact .inl rfl
      | some u => have := g.kp a u e ho; rw [h] at this; cases this
  · rcases g.sh a h with z | z
    · exact .inr z
    · exact .inl z
theorem Fin.back {K : PySem.W.Frag} {W : WX} {Z : Ends} {σ σ1 : L2.St} {H Hk H1 Hk1 : Hp} {γ γ1 : En} (g : Go K σ H Hk γ σ1 H1 Hk1 γ1) : ∀ {o : Out}, Fin K W Z σ H Hk γ o → Fin K W Z σ1 H1 Hk1 γ1 o
  | .nx _, h => fun σ2 H2 Hk2 g2 => h σ2 H2 Hk2 (g.trans g2)
  | .rt _ _, h => fun v σ2 H2 Hk2 g2 => h v σ2 H2 Hk2 (g.trans g2)
  | .bk _, h => fun σ2 H2 Hk2 g2 => h σ2 H2 Hk2 (g.trans g2)
  | .ct _, h => fun σ2 H2 Hk2 g2 => h σ2 H2 Hk2 (g.trans g2)
  | .rs _ _ _, h => fun σ2 H2 Hk2 cls dd g2 => h σ2 H2 Hk2 cls dd (g.trans g2)
  | .ro _ _, h => fun v fp σ2 H2 Hk2 g2 r n => h v fp σ2 H2 Hk2 (g.trans g2) r fun a ha => ⟨(n a ha).1, g.older (n a ha).2⟩
@[simp] def sNil : Fs := fun γ => some (.nx γ)
@[simp] def sSeq (F G : Fs) : Fs := fun γ => match F γ with
  | some (.nx γ1) => G γ1
  | o => o
theorem seq_nx {F G : Fs} {γ γ1 : En} (h : F γ = some (.nx γ1)) : sSeq F G γ = G γ1 := by
  unfold sSeq
  rw [h]
theorem seq_rt {F G : Fs} {γ γ1 : En} {d : D} (h : F γ = some (.rt d γ1)) : sSeq F G γ = some (.rt d γ1) := by
  unfold sSeq
  rw [h]
@[simp] def sAsg (f : Fe) (tg : Fg) : Fs := fun γ => match f γ with
  | some (d, γ1) => match tg d γ1 with
    | some γ2 => some (.nx γ2)
    | none => none
  | none => none
@[simp] def sOwn (i : Nat) (fl : Fa) : Fs := fun γ => match fl γ with
  | some (ds, γ1) => if pinB γ1 i then none else some (.nx (γ1.set i (some (.own false ds))))
  | none => none
@[simp] def sSet (i : Nat) (f g : Fe) : Fs := fun γ => match f γ with
  | some (d, γ1) => match gt γ1 i with
    | some (.ow _ (.lst _)) => match g γ1 with
      | some (.int k, γ2) => match gt γ2 i with
        | some (.ow b (.lst ds)) => match ixN ds.length k with
          | some j => some (.nx (γ2.set i (some (.own b (ds.set j d)))))
          | none => none
        | _ => none
      | _ => none
    | _ => none
  | none => none
@[simp] def sApp (i : Nat) (f : Fe) : Fs := fun γ => match gt γ i with
  | some (.ow _ (.lst _)) => match f γ with
    | some (d, γ1) => match gt γ1 i with
      | some (.ow b (.lst ds)) => if okN ds.length then some (.nx (γ1.set i (some (.own b (ds ++ [d]))))) else none
      | _ => none
    | none => none
  | _ => none
@[simp] def sDrop (f : Fe) : Fs := fun γ => match f γ with
  | some (_, γ1) => some (.nx γ1)
  | none => none
@[simp] def sRet (f : Fe) : Fs := fun γ => match f γ with
  | some (d, γ1) => some (.rt d γ1)
  | none => none
@[simp] def sRetN : Fs := fun γ => some (.rt .none γ)
@[simp] def sBk : Fs := fun γ => some (.bk γ)
@[simp] def sCt : Fs := fun γ => some (.ct γ)
@[simp] def sIf (c : Ft) (F G : Fs) : Fs := fun γ => match c γ with
  | some (true, γ1) => F γ1
  | some (false, γ1) => G γ1
  | none => none
section
variable {W : WX} {X : Cx} {e a i' : Expr} {s : Stmt} {ss : List Stmt} {f g : Fe} {fl : Fa} {tg : Fg} {F G : Fs} {pos : Pos}
theorem ess_nil : ESs X W [] sNil := PSs.imp pss_nil fun Z σ H ⟨γ, Hk, o, k, e, q⟩ => by
  cases e
  exact q σ H Hk (Go.refl k)
theorem ess_cons (h : ES X W s F) (hs : ESs X W ss G) : ESs X W (s :: ss) (sSeq F G) := PSs.imp (pss_cons h hs) fun Z σ H ⟨γ, Hk, o, k, e, q⟩ => by
  unfold sSeq at e
  split at e
  · rename_i γ1 eF
    exact ⟨γ, Hk, _, k, eF, fun σ2 H2 Hk2 g2 => ⟨γ1, Hk2, o, g2.ok, e, q.back g2⟩⟩
  · rename_i o' hn
    refine ⟨γ, Hk, o, k, e, ?_⟩
    cases o with
    | nx γ1 => exact absurd e (hn γ1)
    | rt d γ1 => exact q
    | bk γ1 => exact q
    | ct γ1 => exact q
    | rs c fs γ1 => exact q
    | ro y γ1 => exact q
theorem ess_one (h : ES X W s F) : ESs X W [s] F := pss_one h
theorem es_pass : ES X W (.Pass pos) sNil := PS.imp ps_pass fun Z σ H ⟨γ, Hk, o, k, e, q⟩ => by
  cases e
  exact q σ H Hk (Go.refl k)
theorem es_break : ES X W (.Break pos) sBk := PS.imp ps_break fun Z σ H ⟨γ, Hk, o, k, e, q⟩ => by
  cases e
  exact q σ H Hk (Go.refl k)
theorem es_continue : ES X W (.Continue pos) sCt := PS.imp ps_continue fun Z σ H ⟨γ, Hk, o, k, e, q⟩ => by
  cases e
  exact q σ H Hk (Go.refl k)
theorem asg_imp {K : PySem.W.Frag} {Z : Ends} {σ : L2.St} {H : Hp} (h : tS K W (sAsg f tg) Z σ H) : tAsg (tI K f) (tGt K tg) Z σ H := by
  obtain ⟨γ, Hk, o, k, e, q⟩ := h
  unfold sAsg at e
  split at e
  · rename_i d γ1 ef
    split at e <;> cases e
    rename_i γ2 et
    exact ⟨γ, Hk, d, γ1, k, ef, fun v H1 Hk1 g1 r1 => ⟨γ1, Hk1, d, γ2, g1.ok, r1, et, fun σ2 g2 => q σ2 H1 Hk1 (g1.trans g2)⟩⟩
  · cases e
theorem es_asg (he : EV X e f) (hg : EG X a tg) (hs : swapsWithSole [a] e pos.line X.env = pure false := by rfl) (hw : swappedStores [a] e X.env = pure none := by rfl)
    (h1 : (assignEach [a] X.env).map (·.2) = [assign a X.env] := by rfl) : ES X W (.Assign [a] e pos) (sAsg f tg) := PS.imp (ps_asg he hg hs hw h1) fun _ _ _ h => asg_imp h
theorem es_set (i : Nat) {x : Str} {p' : Pos} (hN : X.N.Nodup) (hi : X.N[i]? = some x) (hx : Loc X.env.scope x) (he : EV X e f) (hs : swapsWith e (some (.Name x p')) pos.line X.env = pure false := by rfl) (hf : X.fn x = true ∨ X.env.scope.names.lookup x = some .local := by first | exact .inl rfl | exact .inr rfl | assumption) :
    ES X W (.Assign [.Name x p'] e pos) (sAsg f (gDat i)) := PS.imp (ps_set hN hi hx he hs hf) fun Z σ H h => by
  obtain ⟨γ, Hk, d, γ2, k, ef, q⟩ := asg_imp h
  exact ⟨γ, Hk, d, γ2, k, ef, fun v H1 Hk1 g1 r1 => gDat_imp (q v H1 Hk1 g1 r1)⟩
theorem own_imp {K : PySem.W.Frag} {i : Nat} {Z : Ends} {σ : L2.St} {H : Hp} (h : tS K W (sOwn i fl) Z σ H) : tAsg (tL K fl) (gName i) Z σ H := by
  obtain ⟨γ, Hk, o, k, e, q⟩ := h
  unfold sOwn at e
  split at e
  · rename_i ds γ1 ef
    split at e <;> cases e
    rename_i c
    exact ⟨γ, Hk, ds, γ1, k, ef, fun p vs H1 Hk1 g1 hp r1 => q _ _ _ (g1.trans (g1.ok.setOwn hp r1 (noPin_of g1.ok (by simpa using c))))⟩
  · cases e
theorem es_own (i : Nat) {x : Str} {p' : Pos} (hN : X.N.Nodup) (hi : X.N[i]? = some x) (hx : Loc X.env.scope x) (he : EL X e fl) (hs : swapsWith e (some (.Name x p')) pos.line X.env = pure false := by rfl) (hf : X.fn x = true ∨ X.env.scope.names.lookup x = some .local := by first | exact .inl rfl | exact .inr rfl | assumption) :
    ES X W (.Assign [.Name x p'] e pos) (sOwn i fl) := PS.imp (ps_set hN hi hx he hs hf) fun _ _ _ h => own_imp h
theorem es_item (i : Nat) {p' : Pos} (he : EV X e f) (ho : PE X a (tVar i)) (hi : EV X i' g)
    (ha : ∀ v, assign (.Subscript a i' p') X.env v = (do
      let ov ← holding [v] (eval a X.env)
      let iv ← holding [v, ov] (eval i' X.env)
      standAt p'
      holding [v, ov, iv] (setItem ov iv v)
      release [v, ov, iv] []) := by intro _; rfl)
    (hs : swapsWithSole [.Subscript a i' p'] e pos.line X.env = pure false := by rfl) (hw : swappedStores [.Subscript a i' p'] e X.env = pure none := by rfl)
    (h1 : (assignEach [.Subscript a i' p'] X.env).map (·.2) = [assign (.Subscript a i' p') X.env] := by rfl) : ES X W (.Assign [.Subscript a i' p'] e pos) (sSet i f g) :=
  PS.imp (ps_asg he (pg_sub ho hi set_list ha) hs hw h1) fun Z σ H ⟨γ, Hk, o, k, e, q⟩ => by
  unfold sSet at e
  split at e
  · rename_i d γ1 ef
    split at e
    · rename_i b0 ds0 e0
      split at e
      · rename_i kk γ2 eg
        split at e
        · rename_i b ds eo
          split at e <;> cases e
          rename_i j ej
          refine ⟨γ, Hk, d, γ1, k, ef, fun v H1 Hk1 g1 r1 => ?_⟩
          obtain ⟨p, vs0, e1, _⟩ := g1.ok.own i _ _ e0
          refine ⟨_, e1, γ1, Hk1, _, γ2, g1.ok, eg, fun w H2 Hk2 g2 r2 => ?_⟩
          cases r2
          obtain ⟨p', vs, e2, hp, _, ra⟩ := g2.ok.own i _ _ eo
          rw [e1] at e2; cases e2
          refine ⟨p, vs, kk, j, rfl, rfl, hp, by rw [dps_len ra]; exact ej, ?_⟩
          exact q _ _ _ ((g1.trans g2).trans (g2.ok.write eo e1 (dps_set j ra (dp_mono g2.kk r1))))
        · cases e
      · cases e
    · cases e
  · cases e
theorem es_app (i : Nat) {apos cpos : Pos} (ho : PE X a (tVar i)) (he : EV X e f)
    (hbase : attributeBase a "append" X.env (eval a X.env) = eval a X.env := by rfl)
    (hfew : ((backTo cpos (starEach [e] X.env)).all (fun x => !x.1) && (backToKw cpos (keywordEach [] X.env)).all (fun x => x.1.isSome)
      && decide ([e].length + ([] : List Keyword).length + (if ([] : List Keyword).isEmpty then 0 else 1) < 30)) = true := by rfl)
    (hline : (apos.endLine == cpos.line) = true := by rfl) (hs : starEach [e] X.env = (false, eval e X.env) :: starEach [] X.env := by rfl) (hplain : (backTo cpos (starEach [] X.env)).any (·.1) = false := by rfl)
    (hsw : swapsWith (.Call (.Attribute a "append" apos) [e] [] cpos) none pos.line X.env = pure false := by rfl) :
    ES X W (.Expr (.Call (.Attribute a "append" apos) [e] [] cpos) pos) (sApp i f) :=
  PS.imp (ps_expr (pe_bm PySem.F.plainAttrs_list PySem.F.slot_list_append PySem.F.type_list_append mt_append ho (pa_cons he pa_nil hs) hbase hfew hline hs hplain) hsw) fun Z σ H ⟨γ, Hk, o, k, e, q⟩ => by
  unfold sApp at e
  split at e
  · rename_i b0 ds0 e0
    split at e
    · rename_i d γ1 ef
      split at e
      · rename_i b ds eo
        split at e <;> cases e
        rename_i c
        obtain ⟨p, vs0, e1, hp0, _⟩ := k.own i _ _ e0
        refine ⟨_, e1, .inl ⟨rfl, _, SqL.of hp0⟩, γ, Hk, d, γ1, k, ef, fun v H1 Hk1 g1 r1 => ?_⟩
        obtain ⟨p', vs, e2, hp, _, ra⟩ := g1.ok.own i _ _ eo
        rw [e1] at e2; cases e2
        exact ⟨p, vs, v, rfl, rfl, hp, by rw [dps_len ra]; exact okN_lt c, q _ _ _ (g1.trans (g1.ok.write eo e1 (dps_app ra (.cons r1 .nil))))⟩
      · cases e
    · cases e
  · cases e
theorem es_expr (he : EV X e f) (hs : swapsWith e none pos.line X.env = pure false := by rfl) : ES X W (.Expr e pos) (sDrop f) := PS.imp (ps_expr he hs) fun Z σ H ⟨γ, Hk, o, k, e, q⟩ => by
  unfold sDrop at e
  split at e <;> cases e
  rename_i d γ1 ef
  exact ⟨γ, Hk, d, γ1, k, ef, fun v H1 Hk1 g1 r1 => q _ _ _ g1⟩
theorem es_ret (he : EV X e f) : ES X W (.Return (some e) pos) (sRet f) := PS.imp (ps_ret he) fun Z σ H ⟨γ, Hk, o, k, e, q⟩ => by
  unfold sRet at e
  split at e <;> cases e
  rename_i d γ1 ef
  exact ⟨γ, Hk, d, γ1, k, ef, fun v H1 Hk1 g1 r1 => q _ _ _ _ g1 r1⟩
theorem es_retN : ES X W (.Return none pos) sRetN := PS.imp ps_retN fun Z σ H ⟨γ, Hk, o, k, e, q⟩ => by
  cases e
  exact q _ _ _ _ (Go.refl k) .non
theorem es_if {c : Expr} {A B : List Stmt} {u : Ft} (hc : ET X c u) (ha : ESs X W A F) (hb : ESs X W B G) : ES X W (.If c A B pos) (sIf u F G) := PS.imp (ps_if hc ha hb) fun Z σ H ⟨γ, Hk, o, k, e, q⟩ => by
  unfold sIf at e
  split at e
  · rename_i γ1 ec
    exact ⟨γ, Hk, true, γ1, k, ec, fun H1 Hk1 g1 => iteT ⟨γ1, Hk1, o, g1.ok, e, q.back g1⟩⟩
  · rename_i γ1 ec
    exact ⟨γ, Hk, false, γ1, k, ec, fun H1 Hk1 g1 => iteF ⟨γ1, Hk1, o, g1.ok, e, q.back g1⟩⟩
  · cases e
/-- return x, x owned: the caller owns it then -/
@[simp] def sRetO (i : Nat) : Fs := fun γ => match gt γ i with
  | some (.ow false y) => some (.ro y (γ.set i none))
  | _ => none
theorem Ok.forget {K : PySem.W.Frag} {σ : L2.St} {H Hk : Hp} {γ : En} (k : Ok K σ H Hk γ) {i : Nat} {y : Pay} (h : gt γ i = some (.ow false y)) : ∃ v fp, σ[i]? = some (some v) ∧ OwnV K H Hk v y fp ∧ Go K σ H Hk γ σ H Hk (γ.set i none) ∧ ∀ a ∈ fp, ¬ OwnA K σ H Hk (γ.set i none) a ∧ OwnA K σ H Hk γ a := by
  obtain ⟨v, fp, e, r⟩ := k.ow i _ _ h
  have get : ∀ {j : Nat} {x : Ent}, gt (γ.set i none) j = some x → gt γ j = some x ∧ i ≠ j := fun {j x} q => by
    rw [gt_set] at q
    split at q
    · cases q
    · rename_i c; exact ⟨q, set_ne q c⟩
  refine ⟨v, fp, e, r, ⟨⟨by rw [List.length_set]; exact k.len, k.sub, fun j d q => k.dat j d (get q).1, fun j b z q => k.ow j b z (get q).1, fun j z q => k.pin j z (get q).1, fun j l b c y z v u fp fq ej el => k.sep _ _ _ _ _ _ _ _ _ _ (get ej).1 (get el).1, fun j t q => k.tab j t (get q).1⟩, Same.refl _, fun a u h n => (by rw [h] at n; cases n), fun _ _ h _ => h, fun a ⟨j, b, z, w, fr, q, qv, rr, m⟩ => .inl ⟨j, b, z, w, fr, (get q).1, qv, rr, m⟩, fun j z q => ⟨rfl, z, ?_⟩⟩, fun a ha => ⟨fun ⟨j, b, z, w, fr, q, qv, rr, m⟩ => ?_, ⟨i, _, _, v, fp, h, e, r, ha⟩⟩⟩
  · rw [gt_set, if_neg (fun c => by rw [← c.1, h] at q; cases q)]
    exact q
  · obtain ⟨q, ne⟩ := get q
    exact ne (k.sep _ _ _ _ _ _ _ _ _ _ h q e qv r rr a ha m)
theorem es_retO (i : Nat) (he : PE X e (tVar i)) : ES X W (.Return (some e) pos) (sRetO i) := PS.imp (ps_ret he) fun Z σ H ⟨γ, Hk, o, k, ee, q⟩ => by
  unfold sRetO at ee
  split at ee <;> cases ee
  rename_i y h
  obtain ⟨v, fp, ev, r, g, n⟩ := k.forget h
  exact ⟨v, ev, q v fp σ H Hk g r fun a ha => ⟨(n a ha).1, .inr (n a ha).2⟩⟩
end
end DN
namespace DN
open PySem PySem.Spec PyProof.Rows L2
/-! ### what is walked -/
/-- J hands on the data ds, one by one, as long as what lasts (Hk) lasts; what it makes on the way lasts -/
def Walks (K : PySem.W.Frag) (J : It) (ds : List D) (Hk : Hp) : Prop := ∀ H Hc, Same Hk Hc → Same Hc H → (∀ (i : Nat) (h : i < ds.length), J.go i H ∧ ∀ x H', J.yld i H x H' → ∃ Hc', Grow H Hc H' Hc' ∧ Dp K Hc' x ds[i]) ∧ ∀ (i : Nat), ds.length ≤ i → J.stop i H
def tIt (K : PySem.W.Frag) (src : Fa) : TI := fun σ H R => ∃ γ Hk ds γ2, Ok K σ H Hk γ ∧ src γ = some (ds, γ2) ∧ ∀ J H2 Hk2, Go K σ H Hk γ σ H2 Hk2 γ2 → Walks K J ds Hk2 → R J H2
def EI (X : Cx) (tg it : Expr) (src : Fa) : Prop := PI X tg it (tIt X.K src)
theorem PI.imp {X : Cx} {tg e : Expr} {t t' : TI} (h : PI X tg e t) (i : ∀ σ H Q, t' σ H Q → t σ H Q) : PI X tg e t' := ⟨fun pins s σ H Q I q => h.run pins s σ H Q I (i _ _ _ q)⟩
@[simp] def wOf (f : Fe) : Fa := fun γ => match f γ with
  | some (.list ds, γ1) => some (ds, γ1)
  | some (.tuple ds, γ1) => some (ds, γ1)
  | some (.str z, γ1) => some (z.cps.toList.map fun c => .str ⟨#[c]⟩, γ1)
  | _ => none
def rngD (lo : Int) (n : Nat) : List D := (List.range n).map fun (k : Nat) => .int (lo + (k : Int))
@[simp] def small62 (j : Int) : Bool := decide (-(2 ^ 62) ≤ j) && decide (j < 2 ^ 62)
@[simp] def wR1 (f : Fe) : Fa := fun γ => match f γ with
  | some (.int n, γ1) => if small62 n then some (rngD 0 n.toNat, γ1) else none
  | _ => none
@[simp] def wR2 (fa : Fa) : Fa := fun γ => match fa γ with
  | some ([.int m, .int n], γ1) => if small62 m && small62 n then some (rngD m (n - m).toNat, γ1) else none
  | _ => none
section
variable {W : WX} {X : Cx} {tg e a b : Expr} {f : Fe} {fa : Fa} {pos p : Pos} {K : PySem.W.Frag}
theorem walks_l {Hk : Hp} {q : Addr} {vs : List V} {ds : List D} (h : SqL K Hk q vs) (r : DpAll K Hk vs ds) : Walks K (Itl K q) ds Hk := fun H Hc s1 s2 => by
  have hh := sql_mono (s1.trans s2) h
  have hl := dps_len r
  refine ⟨fun i hi => ?_, fun i hi => ⟨vs, hh, by omega⟩⟩
  obtain ⟨v, ev, rv⟩ := dps_at r (List.getElem?_eq_getElem hi)
  refine ⟨⟨vs, v, hh, ev⟩, fun x H' y => ?_⟩
  obtain ⟨rfl, y⟩ := y
  have := y vs hh
  rw [ev] at this; cases this
  exact ⟨Hc, Grow.refl s2, dp_mono s1 rv⟩
theorem walks_t {Hk : Hp} {q : Addr} {vs : List V} {ds : List D} (h : SqT K Hk q vs) (r : DpAll K Hk vs ds) : Walks K (Itt K q) ds Hk := fun H Hc s1 s2 => by
  have hh := sqt_mono (s1.trans s2) h
  have hl := dps_len r
  refine ⟨fun i hi => ?_, fun i hi => ⟨vs, hh, by omega⟩⟩
  obtain ⟨v, ev, rv⟩ := dps_at r (List.getElem?_eq_getElem hi)
  refine ⟨⟨vs, v, hh, ev⟩, fun x H' y => ?_⟩
  obtain ⟨rfl, y⟩ := y
  have := y vs hh
  rw [ev] at this; cases this
  exact ⟨Hc, Grow.refl s2, dp_mono s1 rv⟩
theorem walks_r {Hk : Hp} {lo : Int} {n : Nat} : Walks K (Itr lo n) (rngD lo n) Hk := fun H Hc s1 s2 => by
  have hl : (rngD lo n).length = n := by simp [rngD]
  refine ⟨fun i hi => ?_, fun i hi => ?_⟩
  · rw [hl] at hi
    refine ⟨hi, fun x H' y => ?_⟩
    obtain ⟨rfl, rfl⟩ := y
    refine ⟨Hc, Grow.refl s2, ?_⟩
    have e : (rngD lo n)[i]'(by rw [hl]; exact hi) = .int (lo + (i : Int)) := by simp [rngD]
    rw [e]
    exact .int _
  · rw [hl] at hi
    exact hi
theorem dps_map {α : Type} {Hk : Hp} (g : α → V) (k : α → D) (h : ∀ a, Dp K Hk (g a) (k a)) : ∀ l : List α, DpAll K Hk (l.map g) (l.map k)
  | [] => .nil
  | a :: r => .cons (h a) (dps_map g k h r)
theorem walks_s {Hk : Hp} {z : Str} : Walks K (Its z) (z.cps.toList.map fun c => .str ⟨#[c]⟩) Hk := fun H Hc s1 s2 => by
  have hl : (z.cps.toList.map fun c => PyData.str ⟨#[c]⟩).length = z.cps.size := by simp
  refine ⟨fun i hi => ?_, fun i hi => ?_⟩
  · rw [hl] at hi
    refine ⟨hi, fun x H' y => ?_⟩
    obtain ⟨rfl, c, hc, rfl⟩ := y
    refine ⟨Hc, Grow.refl s2, ?_⟩
    have e1 : z.cps[i] = c := by
      rw [Array.getElem?_eq_getElem hi] at hc
      exact Option.some.inj hc
    rw [List.getElem_map, Array.getElem_toList, e1]
    exact .str _
  · rw [hl] at hi
    exact hi
theorem ei_seq (h : EV X e f) : EI X tg e (wOf f) := PI.imp (t := fun σ H R => iStr (tI X.K f) σ H R ∨ iList X.K (tI X.K f) σ H R ∨ iTup X.K (tI X.K f) σ H R)
    ⟨fun pins s σ H R I q => q.elim ((pi_str h).run pins s σ H R I) fun q => q.elim ((pi_list h).run pins s σ H R I) ((pi_tup h).run pins s σ H R I)⟩ fun σ H R ⟨γ, Hk, ds, γ2, o, ee, q⟩ => by
  unfold wOf at ee
  split at ee <;> cases ee
  · rename_i ef
    refine .inr <| .inl ⟨γ, Hk, _, _, o, ef, fun v H1 Hk1 g1 r1 => ?_⟩
    cases r1 with
    | lst hs ra => exact ⟨_, rfl, ⟨_, sql_mono g1.ok.sub hs⟩, q _ H1 Hk1 g1 (walks_l hs ra)⟩
  · rename_i ef
    refine .inr <| .inr ⟨γ, Hk, _, _, o, ef, fun v H1 Hk1 g1 r1 => ?_⟩
    cases r1 with
    | tup hs ra => exact ⟨_, rfl, ⟨_, sqt_mono g1.ok.sub hs⟩, q _ H1 Hk1 g1 (walks_t hs ra)⟩
  · rename_i ef
    refine .inl ⟨γ, Hk, _, _, o, ef, fun v H1 Hk1 g1 r1 => ?_⟩
    cases r1
    exact ⟨_, rfl, q _ H1 Hk1 g1 walks_s⟩
def zipD : D → D → Option (List D)
  | .list a, .list b => some (List.zipWith (fun x y => .tuple [x, y]) a b)
  | .tuple a, .tuple b => some (List.zipWith (fun x y => .tuple [x, y]) a b)
  | _, _ => none
@[simp] def wZip (fa : Fa) : Fa := fun γ => match fa γ with
  | some ([a, b], γ1) => match zipD a b with
    | some ds => some (ds, γ1)
    | none => none
  | _ => none
theorem zip_turn {xs ys : List V} {as bs : List D} {Hk H Hc : Hp} (ra : DpAll K Hk xs as) (rb : DpAll K Hk ys bs) (s1 : Same Hk Hc) (s2 : Same Hc H) {i : Nat} (hi : i < (List.zipWith (fun x y => PyData.tuple [x, y]) as bs).length) :
    ∃ x y, xs[i]? = some x ∧ ys[i]? = some y ∧ ∀ T, H T = none → ∃ Hc', Grow H Hc (upd H T (.tup [x, y])) Hc' ∧ Dp K Hc' (.ref T) ((List.zipWith (fun x y => PyData.tuple [x, y]) as bs)[i]) := by
  have hi' : i < as.length ∧ i < bs.length := by
    rw [List.length_zipWith] at hi
    omega
  obtain ⟨x, ex, rx⟩ := dps_at ra (List.getElem?_eq_getElem hi'.1)
  obtain ⟨y, ey, ry⟩ := dps_at rb (List.getElem?_eq_getElem hi'.2)
  refine ⟨x, y, ex, ey, fun T hT => ⟨upd Hc T (.tup [x, y]), Grow.new s2 hT, ?_⟩⟩
  have sm : Same Hc (upd Hc T (.tup [x, y])) := same_upd (s2.free hT)
  rw [List.getElem_zipWith]
  exact .tup (SqT.of upd_same) (.cons (dp_mono (s1.trans sm) rx) (.cons (dp_mono (s1.trans sm) ry) .nil))
theorem walks_zl {Hk : Hp} {p q : Addr} {xs ys : List V} {as bs : List D} (hx : SqL K Hk p xs) (hy : SqL K Hk q ys) (ra : DpAll K Hk xs as) (rb : DpAll K Hk ys bs) : Walks K (Itz K p q) (List.zipWith (fun x y => .tuple [x, y]) as bs) Hk := fun H Hc s1 s2 => by
  have h1 := sql_mono (s1.trans s2) hx
  have h2 := sql_mono (s1.trans s2) hy
  refine ⟨fun i hi => ?_, fun i hi => ?_⟩
  · obtain ⟨x, y, ex, ey, mk⟩ := zip_turn ra rb s1 s2 hi
    refine ⟨⟨xs, ys, x, y, h1, h2, ex, ey⟩, fun v H' yl => ?_⟩
    obtain ⟨T, x', y', rfl, hT, rfl, fx, fy⟩ := yl
    have e1 := fx xs h1
    have e2 := fy ys h2
    rw [ex] at e1; cases e1
    rw [ey] at e2; cases e2
    exact mk T hT
  · rw [List.length_zipWith, ← dps_len ra, ← dps_len rb] at hi
    exact ⟨xs, ys, h1, h2, by omega⟩
theorem walks_zt {Hk : Hp} {p q : Addr} {xs ys : List V} {as bs : List D} (hx : SqT K Hk p xs) (hy : SqT K Hk q ys) (ra : DpAll K Hk xs as) (rb : DpAll K Hk ys bs) : Walks K (RZ.ItzT K p q) (List.zipWith (fun x y => .tuple [x, y]) as bs) Hk := fun H Hc s1 s2 => by
  have h1 := sqt_mono (s1.trans s2) hx
  have h2 := sqt_mono (s1.trans s2) hy
  refine ⟨fun i hi => ?_, fun i hi => ?_⟩
  · obtain ⟨x, y, ex, ey, mk⟩ := zip_turn ra rb s1 s2 hi
    refine ⟨⟨xs, ys, x, y, h1, h2, ex, ey⟩, fun v H' yl => ?_⟩
    obtain ⟨T, x', y', rfl, hT, rfl, fx, fy⟩ := yl
    have e1 := fx xs h1
    have e2 := fy ys h2
    rw [ex] at e1; cases e1
    rw [ey] at e2; cases e2
    exact mk T hT
  · rw [List.length_zipWith, ← dps_len ra, ← dps_len rb] at hi
    exact ⟨xs, ys, h1, h2, by omega⟩
theorem ei_zip {es : List Expr} {kk : Nat} {tp : Pos} (hm : X.mg "zip" = none) (hg : Gl X "zip") (h : EA X [a, b] fa) (hs : starEach [a, b] X.env = (false, eval a X.env) :: starEach [b] X.env := by rfl) (hpl : (backTo pos (starEach [b] X.env)).any (·.1) = false := by rfl) :
    EI X (.Tuple es kk tp) (.Call (.Name "zip" p) [a, b] [] pos) (wZip fa) :=
  PI.imp (RZ.pi_zipA hg hm h hs hpl) fun σ H R ⟨γ, Hk, ds, γ2, o, ee, q⟩ => by
  unfold wZip at ee
  split at ee
  · rename_i da db γ1 ea
    split at ee <;> cases ee
    rename_i ez
    refine ⟨γ, Hk, [da, db], _, o, ea, fun vs H1 Hk1 g1 r1 => ?_⟩
    cases r1 with
    | cons ra rb =>
      cases rb with
      | cons rb rn =>
        cases rn
        unfold zipD at ez
        split at ez <;> cases ez
        · cases ra with
          | lst hx ra =>
            cases rb with
            | lst hy rb => exact ⟨_, _, _, _, rfl, .inl ⟨sql_mono g1.ok.sub hx, sql_mono g1.ok.sub hy, q _ H1 Hk1 g1 (walks_zl hx hy ra rb)⟩⟩
        · cases ra with
          | tup hx ra =>
            cases rb with
            | tup hy rb => exact ⟨_, _, _, _, rfl, .inr ⟨sqt_mono g1.ok.sub hx, sqt_mono g1.ok.sub hy, q _ H1 Hk1 g1 (walks_zt hx hy ra rb)⟩⟩
  · cases ee
theorem small_of {j : Int} (h : small62 j = true) : -(2 ^ 62) ≤ j ∧ j < 2 ^ 62 := by
  unfold small62 at h
  simpa using h
theorem ei_r1 (hm : X.mg "range" = none) (hg : Gl X "range") (h : EV X a f) (hs : starEach [a] X.env = [(false, eval a X.env)] := by rfl) : EI X tg (.Call (.Name "range" p) [a] [] pos) (wR1 f) :=
  PI.imp (pi_range1 hg hm (pa_cons h pa_nil hs) hs) fun σ H R ⟨γ, Hk, ds, γ2, o, ee, q⟩ => by
  unfold wR1 at ee
  split at ee
  · split at ee <;> cases ee
    rename_i c ef
    obtain ⟨c1, c2⟩ := small_of c
    refine ⟨γ, Hk, _, _, o, ef, fun v H1 Hk1 g1 r1 => ?_⟩
    cases r1
    exact ⟨_, rfl, c1, c2, q _ H1 Hk1 g1 walks_r⟩
  · cases ee
theorem ei_r2 (hm : X.mg "range" = none) (hg : Gl X "range") (h : EA X [a, b] fa) (hs : starEach [a, b] X.env = [(false, eval a X.env), (false, eval b X.env)] := by rfl) (hs2 : starEach [b] X.env = [(false, eval b X.env)] := by rfl) :
    EI X tg (.Call (.Name "range" p) [a, b] [] pos) (wR2 fa) :=
  PI.imp (pi_range2 hg hm h hs hs2) fun σ H R ⟨γ, Hk, ds, γ2, o, ee, q⟩ => by
  unfold wR2 at ee
  split at ee
  · split at ee <;> cases ee
    rename_i c ef
    rw [Bool.and_eq_true] at c
    obtain ⟨c1, c2⟩ := small_of c.1
    obtain ⟨c3, c4⟩ := small_of c.2
    refine ⟨γ, Hk, _, _, o, ef, fun v H1 Hk1 g1 r1 => ?_⟩
    cases r1 with
    | cons ra rb =>
      cases ra
      cases rb with
      | cons rc rd =>
        cases rc
        cases rd
        exact ⟨_, _, rfl, ⟨c1, c2, c3, c4⟩, q _ H1 Hk1 g1 walks_r⟩
  · cases ee
end
/-! ### for -/
def forF (tg : Fg) (body : Fs) : List D → En → Option Out
  | [], γ => some (.nx γ)
  | d :: ds, γ => match tg d γ with
    | some γ1 => match body γ1 with
      | some (.nx γ2) => forF tg body ds γ2
      | some (.ct γ2) => forF tg body ds γ2
      | some (.bk γ2) => some (.nx γ2)
      | some (.rt v γ2) => some (.rt v γ2)
      | some (.rs c fs γ2) => some (.rs c fs γ2)
      | some (.ro y γ2) => some (.ro y γ2)
      | none => none
    | none => none
theorem forF_nx {tg : Fg} {body : Fs} {d : D} {ds : List D} {γ γ1 γ2 : En} (h1 : tg d γ = some γ1) (h2 : body γ1 = some (.nx γ2)) : forF tg body (d :: ds) γ = forF tg body ds γ2 := by
  simp only [forF, h1, h2]
theorem forF_rt {tg : Fg} {body : Fs} {d v : D} {ds : List D} {γ γ1 γ2 : En} (h1 : tg d γ = some γ1) (h2 : body γ1 = some (.rt v γ2)) : forF tg body (d :: ds) γ = some (.rt v γ2) := by
  simp only [forF, h1, h2]
@[simp] def sFor (src : Fa) (tg : Fg) (body : Fs) : Fs := fun γ => match src γ with
  | some (ds, γ1) => forF tg body ds γ1
  | none => none
theorem es_for {X : Cx} {t it : Expr} {ss : List Stmt} {src : Fa} {tg : Fg} {body : Fs} {pos : Pos} (hp : PassesOwn (model X.prog X.w) X.A X.env X.xe) (hc : X.calm = true) (hi : EI X t it src) (hg : EG X t tg) (hb : ESs X W ss body)
    (hs : ∀ x, foldedSetIterable it X.env x = pure x := by intro _; rfl) : ES X W (.For t it ss [] pos) (sFor src tg body) := PS.imp (ps_for hp hc hi hg hb hs) fun Z σ H ⟨γ, Hk, out, k, e, q⟩ => by
  unfold sFor at e
  split at e
  · rename_i ds γ1 es
    refine ⟨γ, Hk, ds, γ1, k, es, fun J H1 Hk1 g1 wk => ?_⟩
    let W : Nat → Nat → L2.St → Hp → Prop := fun i m σ' H' => m = ds.length - i ∧ i ≤ ds.length ∧ ∃ γ' Hk', Go X.K σ H Hk γ σ' H' Hk' γ' ∧ Same Hk1 Hk' ∧ forF tg body (ds.drop i) γ' = some out
    refine ⟨W, ⟨ds.length, by simp, Nat.zero_le _, γ1, Hk1, g1, Same.refl _, by simpa using e⟩, ?_⟩
    rintro i m σ' H' ⟨rfl, hi, γ', Hk', g, sk, ef⟩
    obtain ⟨w1, w2⟩ := wk H' Hk' sk g.ok.sub
    by_cases hlt : i < ds.length
    · obtain ⟨go, yl⟩ := w1 i hlt
      rw [List.drop_eq_getElem_cons hlt] at ef
      unfold forF at ef
      split at ef
      · rename_i γ2 et
        have next : ∀ {γ3 : En} {σ3 : L2.St} {H3 Hk3 : Hp}, Go X.K σ' H' Hk' γ' σ3 H3 Hk3 γ3 → forF tg body (ds.drop (i + 1)) γ3 = some out → W (i + 1) (ds.length - (i + 1)) σ3 H3 := fun g3 e3 => ⟨rfl, hlt, _, _, g.trans g3, sk.trans g3.kk, e3⟩
        refine .inr ⟨go, W (i + 1) (ds.length - (i + 1)), fun σ3 H3 w => ⟨_, by omega, w⟩, fun x H'' y => ?_⟩
        obtain ⟨Hc, gr, rv⟩ := yl x H'' y
        have gy := g.ok.go gr
        refine ⟨γ', Hc, ds[i], γ2, gy.ok, rv, et, fun σ2 g2' => ?_⟩
        have g2 := gy.trans g2'
        split at ef
        · rename_i γ3 eb
          exact ⟨γ2, Hc, _, g2.ok, eb, fun σ3 H3 Hk3 g3 => next (g2.trans g3) ef⟩
        · rename_i γ3 eb
          exact ⟨γ2, Hc, _, g2.ok, eb, fun σ3 H3 Hk3 g3 => next (g2.trans g3) ef⟩
        · rename_i γ3 eb
          cases ef
          exact ⟨γ2, Hc, _, g2.ok, eb, fun σ3 H3 Hk3 g3 => q _ _ _ ((g.trans g2).trans g3)⟩
        · rename_i v γ3 eb
          cases ef
          exact ⟨γ2, Hc, _, g2.ok, eb, fun w σ3 H3 Hk3 g3 r3 => q _ _ _ _ ((g.trans g2).trans g3) r3⟩
        · rename_i c fs γ3 eb
          cases ef
          exact ⟨γ2, Hc, _, g2.ok, eb, fun σ3 H3 Hk3 cls dd g3 r3 => q _ _ _ _ _ ((g.trans g2).trans g3) r3⟩
        · rename_i y γ3 eb
          cases ef
          exact ⟨γ2, Hc, _, g2.ok, eb, fun v fp σ3 H3 Hk3 g3 r3 n => q _ _ _ _ _ ((g.trans g2).trans g3) r3 fun a ha => ⟨(n a ha).1, (g.trans g2).older (n a ha).2⟩⟩
        · cases ef
      · cases ef
    · have e0 : i = ds.length := by omega
      subst e0
      rw [List.drop_length] at ef
      cases ef
      exact .inl ⟨w2 _ (Nat.le_refl _), q _ _ _ g⟩
  · cases e
/-! ### while -/
def whileF (c : Ft) (body : Fs) : Nat → En → Option Out
  | 0, _ => none
  | n + 1, γ => match c γ with
    | some (true, γ1) => match body γ1 with
      | some (.nx γ2) => whileF c body n γ2
      | some (.ct γ2) => whileF c body n γ2
      | some (.bk γ2) => some (.nx γ2)
      | some (.rt v γ2) => some (.rt v γ2)
      | some (.rs c fs γ2) => some (.rs c fs γ2)
      | some (.ro y γ2) => some (.ro y γ2)
      | none => none
    | some (false, γ1) => some (.nx γ1)
    | none => none
theorem es_while (n : Nat) {X : Cx} {c : Expr} {ss : List Stmt} {u : Ft} {body : Fs} {pos : Pos} (hp : PassesOwn (model X.prog X.w) X.A X.env X.xe) (hc : ET X c u) (hb : ESs X W ss body) : ES X W (.While c ss [] pos) (whileF u body n) := PS.imp (ps_while hp hc hb) fun Z σ H ⟨γ, Hk, out, k, e, q⟩ => by
  let W : Nat → L2.St → Hp → Prop := fun m σ' H' => ∃ γ' Hk', Go X.K σ H Hk γ σ' H' Hk' γ' ∧ whileF u body m γ' = some out
  refine ⟨W, ⟨n, γ, Hk, Go.refl k, e⟩, ?_⟩
  rintro m σ' H' ⟨γ', Hk', g, ef⟩
  cases m with
  | zero => cases ef
  | succ m =>
    unfold whileF at ef
    split at ef
    · rename_i γ1 ec
      refine ⟨γ', Hk', true, γ1, g.ok, ec, fun H1 Hk1 g1 => iteT ⟨W m, fun σ3 H3 w => ⟨m, Nat.lt_succ_self _, w⟩, ?_⟩⟩
      split at ef
      · rename_i γ3 eb
        exact ⟨γ1, Hk1, _, g1.ok, eb, fun σ3 H3 Hk3 g3 => ⟨γ3, Hk3, (g.trans g1).trans g3, ef⟩⟩
      · rename_i γ3 eb
        exact ⟨γ1, Hk1, _, g1.ok, eb, fun σ3 H3 Hk3 g3 => ⟨γ3, Hk3, (g.trans g1).trans g3, ef⟩⟩
      · rename_i γ3 eb
        cases ef
        exact ⟨γ1, Hk1, _, g1.ok, eb, fun σ3 H3 Hk3 g3 => q _ _ _ ((g.trans g1).trans g3)⟩
      · rename_i v γ3 eb
        cases ef
        exact ⟨γ1, Hk1, _, g1.ok, eb, fun w σ3 H3 Hk3 g3 r3 => q _ _ _ _ ((g.trans g1).trans g3) r3⟩
      · rename_i c fs γ3 eb
        cases ef
        exact ⟨γ1, Hk1, _, g1.ok, eb, fun σ3 H3 Hk3 cls dd g3 r3 => q _ _ _ _ _ ((g.trans g1).trans g3) r3⟩
      · rename_i y γ3 eb
        cases ef
        exact ⟨γ1, Hk1, _, g1.ok, eb, fun v fp σ3 H3 Hk3 g3 r3 n => q _ _ _ _ _ ((g.trans g1).trans g3) r3 fun a ha => ⟨(n a ha).1, (g.trans g1).older (n a ha).2⟩⟩
      · cases ef
    · rename_i γ1 ec
      cases ef
      exact ⟨γ', Hk', false, γ1, g.ok, ec, fun H1 Hk1 g1 => iteF (q _ _ _ (g.trans g1))⟩
    · cases ef

/-! ### list comprehensions -/
@[simp] def ownB (γ : En) (i : Nat) : Bool := match gt γ i with
  | some (.ow _ _) => true
  | _ => false
theorem noOwn_of {γ : En} {i : Nat} (h : ownB γ i = false) : ∀ b ds, gt γ i ≠ some (.ow b ds) := fun b ds e => by
  unfold ownB at h
  rw [e] at h
  cases h
@[simp] def wipeE (γ : En) : List Nat → En
  | [] => γ
  | v :: vs => (wipeE γ vs).set v none
@[simp] def noOwns (γ : En) : List Nat → Bool
  | [] => true
  | v :: vs => !ownB γ v && noOwns γ vs
@[simp] def putBack (γ0 γ : En) : List Nat → En
  | [] => γ
  | v :: vs => putBack γ0 (γ.set v (gt (wipeE γ0 vs) v)) vs
def lcF (js : List Nat) (tg : Fg) (tt : Ft) (elt : Fe) : List D → En → List D → Option (List D × En)
  | [], γ, acc => some (acc, γ)
  | d :: ds, γ, acc => match tg d γ with
    | some γ0 => match tt γ0 with
      | some (true, γ1) => match elt γ1 with
        | some (y, γ2) => if okN acc.length && noOwns γ2 js then lcF js tg tt elt ds (wipeE γ2 js) (acc ++ [y]) else none
        | none => none
      | some (false, γ1) => if noOwns γ1 js then lcF js tg tt elt ds (wipeE γ1 js) acc else none
      | none => none
    | none => none
@[simp] def lLc (js : List Nat) (tg : Fg) (src : Fa) (tt : Ft) (elt : Fe) : Fa := fun γ => match src γ with
  | some (ds, γ1) => if noOwns γ1 js then match lcF js tg tt elt ds (wipeE γ1 js) [] with
    | some (out, γ2) => some (out, putBack γ1 γ2 js)
    | none => none
    else none
  | none => none
@[simp] def tYe : Ft := fun γ => some (true, γ)
theorem ets_nil {X : Cx} : PTs X [] (tT X.K tYe) := ⟨fun pins s σ H Q I ⟨γ, Hk, b, γ2, o, e, q⟩ => pts_nil.run pins s σ H Q I (by cases e; exact q H Hk (Go.refl o))⟩
theorem ets_one {X : Cx} {c : Expr} {u : Ft} (h : ET X c u) : PTs X [c] (tT X.K u) := pts_one h
/-- what holds within and behind the block at the comprehension's own slot -/
theorem gt_none (γ : En) (j : Nat) : gt (γ.set j none) j = none := by
  rw [gt_set]
  split
  · rfl
  · rename_i c
    cases h : gt γ j with
    | none => rfl
    | some e => exact absurd ⟨rfl, gt_lt h⟩ c
theorem Ok.restore {K : PySem.W.Frag} {σ : L2.St} {H Hk H2 Hk2 : Hp} {γ γ2 : En} {j : Nat} (o : Ok K σ H Hk γ) (g : Go K (σ.set j none) H Hk (γ.set j none) (σ.set j none) H2 Hk2 γ2) (no : ownB γ j = false) (e2 : gt γ2 j = none) :
    Go K σ H Hk γ σ H2 Hk2 (γ2.set j (gt γ j)) := by
  have hlen : γ2.length = γ.length := by
    have := g.ok.len
    rw [List.length_set] at this
    exact this.symm.trans o.len
  have nj := noOwn_of no
  have ow : ∀ a, OwnA K (σ.set j none) H Hk (γ.set j none) a → OwnA K σ H Hk γ a := fun a ⟨i, b, y, v, fp, e, h, r, m⟩ => by
    rw [gt_set] at e
    split at e
    · cases e
    · rename_i c
      have hij : j ≠ i := fun z => c ⟨z, by rw [z]; exact gt_lt e⟩
      rw [set_there hij] at h
      exact ⟨i, b, y, v, fp, e, h, r, m⟩
  have at2 : ∀ {i : Nat} {e : Ent}, gt (γ2.set j (gt γ j)) i = some e → (j = i ∧ gt γ j = some e) ∨ (j ≠ i ∧ gt γ2 i = some e) := fun {i e} h => by
    rw [gt_set] at h
    split at h
    · rename_i c; exact .inl ⟨c.1, h⟩
    · rename_i c
      refine .inr ⟨fun z => c ⟨z, by rw [z]; exact gt_lt h⟩, h⟩
  have at3 : ∀ {i : Nat} {b : Bool} {y : Pay}, gt (γ2.set j (gt γ j)) i = some (.ow b y) → j ≠ i ∧ gt γ2 i = some (.ow b y) := fun {i b y} h => by
    rcases at2 h with ⟨rfl, e⟩ | r
    · exact absurd e (nj b y)
    · exact r
  refine ⟨⟨by rw [List.length_set, hlen]; exact o.len, g.ok.sub, fun i d h => ?_, fun i b y h => ?_, fun i y h => g.ok.pin _ _ (at3 h).2, fun i k b c y z v u fp fq hi hk vi vk ri rk a mi mk => ?_, fun i kvs h => ?_⟩, g.kk, fun a u h n => ?_, fun a u h n => g.kp a u h fun z => n (ow a z), fun a h => ?_, fun i y h => ?_⟩
  · rcases at2 h with ⟨rfl, e⟩ | ⟨hij, e⟩
    · obtain ⟨v, e1, r⟩ := o.dat _ d e
      exact ⟨v, e1, dp_mono g.kk r⟩
    · obtain ⟨v, e1, r⟩ := g.ok.dat i d e
      rw [set_there hij] at e1
      exact ⟨v, e1, r⟩
  · obtain ⟨hij, e⟩ := at3 h
    obtain ⟨v, fp, e1, r⟩ := g.ok.ow i b y e
    rw [set_there hij] at e1
    exact ⟨v, fp, e1, r⟩
  · obtain ⟨hij, e⟩ := at3 hi
    obtain ⟨hkj, e'⟩ := at3 hk
    exact g.ok.sep i k b c y z v u fp fq e e' (by rw [set_there hij]; exact vi) (by rw [set_there hkj]; exact vk) ri rk a mi mk
  · rcases at2 h with ⟨rfl, e⟩ | ⟨hij, e⟩
    · obtain ⟨v, e1, r⟩ := o.tab _ kvs e
      exact ⟨v, e1, r.mono g.kk⟩
    · obtain ⟨v, e1, r⟩ := g.ok.tab i kvs e
      rw [set_there hij] at e1
      exact ⟨v, e1, r⟩
  · rcases g.nw a u h n with z | z
    · exact .inl z
    · exact .inr (ow a z)
  · obtain ⟨i, b, y, v, fp, e, h1, r, m⟩ := h
    obtain ⟨hij, e'⟩ := at3 e
    rcases g.sh a ⟨i, b, y, v, fp, e', by rw [set_there hij]; exact h1, r, m⟩ with z | z
    · exact .inl (ow a z)
    · exact .inr z
  · have hij : j ≠ i := fun z => nj true y (by rw [z]; exact h)
    obtain ⟨_, es, e'⟩ := g.pn i y (by rw [gt_set, if_neg (fun c => hij c.1)]; exact h)
    exact ⟨rfl, es, by rw [gt_set, if_neg (fun c => hij c.1)]; exact e'⟩
theorem gt_wipe (γ : En) : ∀ (js : List Nat) (j : Nat), gt (wipeE γ js) j = none ∨ gt (wipeE γ js) j = gt γ j
  | [], _ => .inr rfl
  | v :: vs, j => by
    show gt ((wipeE γ vs).set v none) j = none ∨ gt ((wipeE γ vs).set v none) j = gt γ j
    rw [gt_set]
    split
    · exact .inl rfl
    · exact gt_wipe γ vs j
theorem gt_wipe_in (γ : En) : ∀ {js : List Nat} {j : Nat}, j ∈ js → gt (wipeE γ js) j = none
  | v :: vs, j, h => by
    show gt ((wipeE γ vs).set v none) j = none
    rw [gt_set]
    split
    · rfl
    · rename_i c
      rcases List.mem_cons.mp h with e | h
      · subst e
        cases q : gt (wipeE γ vs) j with
        | none => rfl
        | some e => exact absurd ⟨rfl, gt_lt q⟩ c
      · exact gt_wipe_in γ h
theorem own_wipe {γ : En} {js : List Nat} {v : Nat} (h : ownB γ v = false) : ownB (wipeE γ js) v = false := by
  unfold ownB at h ⊢
  rcases gt_wipe γ js v with e | e
  · rw [e]
  · rw [e]; exact h
theorem dropAll {K : PySem.W.Frag} {σ : L2.St} {H Hk : Hp} {γ : En} (o : Ok K σ H Hk γ) : ∀ js : List Nat, noOwns γ js = true → Go K σ H Hk γ (wipe σ js) H Hk (wipeE γ js)
  | [], _ => Go.refl o
  | v :: vs, h => by
    simp only [noOwns, Bool.and_eq_true, Bool.not_eq_true'] at h
    have g := dropAll o vs h.2
    exact g.trans (g.ok.drop (noOwn_of (own_wipe h.1)))
theorem restoreAll {K : PySem.W.Frag} {σ : L2.St} {H Hk H2 Hk2 : Hp} {γ : En} (o : Ok K σ H Hk γ) : ∀ (js : List Nat) (γ2 : En), noOwns γ js = true → Go K (wipe σ js) H Hk (wipeE γ js) (wipe σ js) H2 Hk2 γ2 → (∀ j ∈ js, gt γ2 j = none) → Go K σ H Hk γ σ H2 Hk2 (putBack γ γ2 js)
  | [], _, _, g, _ => g
  | v :: vs, γ2, h, g, n => by
    simp only [noOwns, Bool.and_eq_true, Bool.not_eq_true'] at h
    have gd := dropAll o vs h.2
    have gr := gd.ok.restore g (own_wipe h.1) (n v (by simp))
    refine restoreAll o vs _ h.2 gr fun j hj => ?_
    rw [gt_set]
    split
    · rename_i c
      rw [c.1]
      exact gt_wipe_in γ hj
    · exact n j (by simp [hj])
theorem wipe_wipe (σ : L2.St) : ∀ js : List Nat, wipe (wipe σ js) js = wipe σ js := by
  have at1 : ∀ (τ : L2.St) (js : List Nat) (i : Nat), (wipe τ js)[i]? = if i ∈ js ∧ i < τ.length then some none else τ[i]? := by
    intro τ js
    induction js with
    | nil => intro i; simp [wipe]
    | cons v vs ih =>
      intro i
      show ((wipe τ vs).set v none)[i]? = _
      rw [List.getElem?_set, ih, wipe_length]
      by_cases e : v = i
      · subst e
        by_cases l : v < τ.length
        · simp [l]
        · simp [l]
      · have e' : ¬ i = v := fun z => e z.symm
        simp [e, e']
  intro js
  apply List.ext_getElem?
  intro i
  rw [at1, wipe_length, at1]
  split <;> rfl
/-- what a target does, by data, and that it stores at js alone -/
def TgOk (K : PySem.W.Frag) (g : TG) (tg : Fg) (js : List Nat) : Prop := ∀ v d σ H Hk γ γ2 (Q : L2.St → Hp → Prop), Ok K σ H Hk γ → Dp K Hk v d → tg d γ = some γ2 → (∀ σ2, Go K σ H Hk γ σ2 H Hk γ2 → wipe σ2 js = wipe σ js → Q σ2 H) → g v σ H Q
theorem tg_name {K : PySem.W.Frag} (j : Nat) : TgOk K (gName j) (gDat j) [j] := by
  intro v d σ H Hk γ γ2 Q o r e q
  unfold gDat at e
  split at e <;> cases e
  rename_i c
  refine q _ (o.setDat r (noPin_of o (by simpa using c))) ?_
  show (σ.set j (some v)).set j none = σ.set j none
  rw [List.set_set]
theorem tg_pair {K : PySem.W.Frag} (i j : Nat) : TgOk K (gTup K 2 (gCons (gName i) (gCons (gName j) gNil))) (gTp 2 (gsCons (gDat i) (gsCons (gDat j) gsNo))) [i, j] := by
  intro v d σ H Hk γ γ2 Q o r e q
  unfold gTp at e
  split at e
  · rename_i ds
    split at e
    · match ds, r, e with
      | [d1, d2], r, e =>
        cases r with
        | tup hs ra =>
          cases ra with
          | cons r1 ra =>
            cases ra with
            | cons r2 ra =>
              cases ra
              simp only [gsCons, gsNo] at e
              unfold gDat at e
              split at e
              · rename_i γa ea
                split at ea <;> cases ea
                rename_i c1
                split at e
                · rename_i γb eb
                  split at eb <;> cases eb
                  rename_i c2
                  cases e
                  have g1 := o.setDat r1 (noPin_of o (by simpa using c1))
                  have g2 := g1.ok.setDat r2 (noPin_of g1.ok (by simpa using c2))
                  refine ⟨_, _, rfl, sqt_mono o.sub hs, rfl, _, _, rfl, _, _, rfl, rfl, q _ (g1.trans g2) ?_⟩
                  show ((((σ.set i _).set j _).set j none).set i none) = (σ.set j none).set i none
                  apply List.ext_getElem?
                  intro k
                  simp only [List.getElem?_set, List.length_set]
                  by_cases h1 : i = k <;> by_cases h2 : j = k <;> simp [h1, h2]
                · cases e
              · cases e
    · cases e
  · cases e
/-- a new object beside the situation -/
theorem OwnV.off {K : PySem.W.Frag} {H Hk : Hp} {p : Addr} {o : HO} {v : V} {y : Pay} {fp : List Addr} (r : OwnV K H Hk v y fp) (n : p ∉ fp) : OwnV K (upd H p o) Hk v y fp :=
  r.to (Same.refl _) (fun a ha u e => by rw [upd_ne (fun z => n (by rw [← z]; exact ha))]; exact e) fun a ha => (r.at a ha).2
theorem OwnV.offBack {K : PySem.W.Frag} {H Hk : Hp} {p : Addr} {o : HO} {v : V} {y : Pay} {fp : List Addr} (r : OwnV K (upd H p o) Hk v y fp) (n : p ∉ fp) : OwnV K H Hk v y fp :=
  r.to (Same.refl _) (fun a ha u e => by rw [upd_ne (fun z => n (by rw [← z]; exact ha))] at e; exact e) fun a ha => (r.at a ha).2
/-- what is owned beside a thing that is not -/
theorem Ok.offA {K : PySem.W.Frag} {σ : L2.St} {H Hk : Hp} {γ : En} {p : Addr} {o : HO} (k : Ok K σ H Hk γ) (no : ¬ OwnA K σ H Hk γ p) {a : Addr} : OwnA K σ (upd H p o) Hk γ a ↔ OwnA K σ H Hk γ a := by
  constructor
  · rintro ⟨i, b, y, v, fp, e, h, r, m⟩
    obtain ⟨v', fp', e1, r1⟩ := k.ow i b y e
    rw [h] at e1; cases e1
    have n : p ∉ fp' := fun z => no ⟨i, b, y, v, fp', e, h, r1, z⟩
    exact ⟨i, b, y, v, fp', e, h, r1, by rw [← r.det (r1.off n)]; exact m⟩
  · rintro ⟨i, b, y, v, fp, e, h, r, m⟩
    exact ⟨i, b, y, v, fp, e, h, r.off fun z => no ⟨i, b, y, v, fp, e, h, r, z⟩, m⟩
theorem Ok.offS {K : PySem.W.Frag} {σ : L2.St} {H Hk : Hp} {γ : En} {p : Addr} {o : HO} (k : Ok K σ H Hk γ) (hk : Hk p = none) (no : ¬ OwnA K σ H Hk γ p) : Ok K σ (upd H p o) Hk γ := by
  have bk : ∀ {i b y v fp}, gt γ i = some (.ow b y) → σ[i]? = some (some v) → OwnV K (upd H p o) Hk v y fp → OwnV K H Hk v y fp := fun {i b y v fp} e h r => by
    obtain ⟨v', fp', e1, r1⟩ := k.ow i b y e
    rw [h] at e1; cases e1
    rw [r.det (r1.off fun z => no ⟨i, b, y, v, fp', e, h, r1, z⟩)]
    exact r1
  refine ⟨k.len, fun a u e => ?_, k.dat, fun i b y e => ?_, k.pin, fun i j b c y z v u fp fq ei ej vi vj ri rj a mi mj => k.sep i j b c y z v u fp fq ei ej vi vj (bk ei vi ri) (bk ej vj rj) a mi mj, k.tab⟩
  · have : a ≠ p := fun z => by rw [z, hk] at e; cases e
    rw [upd_ne this]
    exact k.sub a u e
  · obtain ⟨v, fp, e1, r⟩ := k.ow i b y e
    exact ⟨v, fp, e1, r.off fun z => no ⟨i, b, y, v, fp, e, e1, r, z⟩⟩
theorem Go.beside {K : PySem.W.Frag} {σ σ2 : L2.St} {H Hk H2 Hk2 : Hp} {γ γ2 : En} {p : Addr} {o o2 : HO} (k : Ok K σ H Hk γ) (hp : H p = none) (g : Go K σ (upd H p o) Hk γ σ2 (upd H2 p o2) Hk2 γ2) (h2 : H2 p = none) (hk2 : Hk2 p = none) (no2 : ¬ OwnA K σ2 (upd H2 p o2) Hk2 γ2 p) : Go K σ H Hk γ σ2 H2 Hk2 γ2 := by
  have nown : ¬ OwnA K σ H Hk γ p := fun h => by
    obtain ⟨⟨u, hu⟩, _⟩ := h.at
    rw [hp] at hu; cases hu
  have un : upd (upd H2 p o2) p o2 = upd H2 p o2 := upd_upd
  have b2 : ∀ {i b y v fp}, gt γ2 i = some (.ow b y) → σ2[i]? = some (some v) → OwnV K (upd H2 p o2) Hk2 v y fp → OwnV K H2 Hk2 v y fp := fun {i b y v fp} e h r => r.offBack fun z => no2 ⟨i, b, y, v, fp, e, h, r, z⟩
  have f2 : ∀ {i b y v fp}, gt γ2 i = some (.ow b y) → σ2[i]? = some (some v) → OwnV K H2 Hk2 v y fp → OwnV K (upd H2 p o2) Hk2 v y fp := fun {i b y v fp} e h r => r.off fun z => by
    obtain ⟨⟨u, hu⟩, _⟩ := r.at p z
    rw [h2] at hu; cases hu
  refine ⟨⟨g.ok.len, fun a u e => ?_, g.ok.dat, fun i b y e => ?_, g.ok.pin, fun i j b c y z v u fp fq ei ej vi vj ri rj a mi mj => g.ok.sep i j b c y z v u fp fq ei ej vi vj (f2 ei vi ri) (f2 ej vj rj) a mi mj, g.ok.tab⟩, g.kk, fun a u e n => ?_, fun a u e n => ?_, fun a e => ?_, g.pn⟩
  · have := g.ok.sub a u e
    by_cases ha : a = p
    · subst ha; rw [hk2] at e; cases e
    · rw [upd_ne ha] at this; exact this
  · obtain ⟨v, fp, e1, r⟩ := g.ok.ow i b y e
    exact ⟨v, fp, e1, b2 e e1 r⟩
  · rcases g.nw a u e n with z | z
    · by_cases ha : a = p
      · subst ha; rw [upd_same] at z; cases z
      · rw [upd_ne ha] at z; exact .inl z
    · exact .inr ((k.offA nown).mp z)
  · have ha : a ≠ p := ne_of_none e hp
    have := g.kp a u (by rw [upd_ne ha]; exact e) fun z => n ((k.offA nown).mp z)
    rw [upd_ne ha] at this; exact this
  · obtain ⟨i, b, y, v, fp, e1, e2, r, m⟩ := e
    rcases g.sh a ⟨i, b, y, v, fp, e1, e2, f2 e1 e2 r, m⟩ with z | z
    · exact .inl ((k.offA nown).mp z)
    · by_cases ha : a = p
      · subst ha; exact .inr hp
      · rw [upd_ne ha] at z; exact .inr z
mutual
/-- what stands at the addresses that are owned -/
theorem OwnV.kind {K : PySem.W.Frag} {H Hk : Hp} : ∀ {v : V} {y : Pay} {fp : List Addr}, OwnV K H Hk v y fp → ∀ a ∈ fp, (∃ vs, H a = some (.lst vs)) ∨ (∃ o, H a = some (dnO a o)) ∨ (∃ kvs, H a = some (.dK kvs)) ∨ (∃ C dx fs, H a = some (.ins C dx fs)) ∨ ∃ x, H a = some (.own x)
  | _, _, _, .dat _, a, h => by cases h
  | _, _, _, .lst h1 h2 _, a, h => by
    obtain rfl := List.mem_singleton.mp h
    exact .inl ⟨_, h1⟩
  | _, _, _, .dic h1 h2 _ _ _ _ _, a, h => by
    obtain rfl := List.mem_singleton.mp h
    exact .inr (.inl ⟨_, h1⟩)
  | _, _, _, .txt h1 h2 _, a, h => by
    obtain rfl := List.mem_singleton.mp h
    exact .inr (.inr (.inl ⟨_, h1⟩))
  | _, _, _, .ins h1 h2 h3 h4 _ h6 _ _ _, a, h => by
    rcases List.mem_cons.mp h with rfl | h
    · exact .inr (.inr (.inr (.inl ⟨_, _, _, h1⟩)))
    · rcases List.mem_cons.mp h with rfl | h
      · exact .inr (.inr (.inr (.inr ⟨_, h2⟩)))
      · exact OwnFs.kind h6 a h
theorem OwnFs.kind {K : PySem.W.Frag} {H Hk : Hp} : ∀ {vs : List (Str × V)} {fs : List (Str × Pay)} {fp : List Addr}, OwnFs K H Hk vs fs fp → ∀ a ∈ fp, (∃ vs, H a = some (.lst vs)) ∨ (∃ o, H a = some (dnO a o)) ∨ (∃ kvs, H a = some (.dK kvs)) ∨ (∃ C dx fs, H a = some (.ins C dx fs)) ∨ ∃ x, H a = some (.own x)
  | _, _, _, .nil, a, h => by cases h
  | _, _, _, .cons h1 h2 _, a, h => by
    rcases List.mem_append.mp h with h | h
    · exact OwnV.kind h1 a h
    · exact OwnFs.kind h2 a h
end
theorem OwnA.noN {K : PySem.W.Frag} {σ : L2.St} {H Hk : Hp} {γ : En} {a : Addr} (h : OwnA K σ H Hk γ a) (e : H a = none) : False := by
  obtain ⟨⟨u, hu⟩, _⟩ := h.at
  rw [e] at hu; cases hu
/-- what is not owned stays so -/
theorem Go.noA {K : PySem.W.Frag} {σ σ2 : L2.St} {H Hk H2 Hk2 : Hp} {γ γ2 : En} {p : Addr} {u : HO} (g : Go K σ H Hk γ σ2 H2 Hk2 γ2) (n : ¬ OwnA K σ H Hk γ p) (h : H p = some u) : ¬ OwnA K σ2 H2 Hk2 γ2 p := fun z => by
  rcases g.sh p z with z | z
  · exact n z
  · rw [h] at z; cases z
theorem Ok.noNew {K : PySem.W.Frag} {σ : L2.St} {H Hk : Hp} {γ : En} {p : Addr} {o : HO} (k : Ok K σ H Hk γ) (hp : H p = none) : ¬ OwnA K σ (upd H p o) Hk γ p := fun z => ((k.offA fun z => z.noN hp).mp z).noN hp
end DN
namespace DN
open PySem PySem.Spec PyProof.Rows L2
section
variable {K : PySem.W.Frag}
/-- an evaluation beside an object that it does not know -/
theorem aside {σ2 σ3 : L2.St} {H0 Hk H4 Hk4 : Hp} {γb γ4 : En} {L : Addr} {o : HO} (k : Ok K σ2 H0 Hk γb) (hL : H0 L = none) (hk : Hk L = none) (g : Go K σ2 (upd H0 L o) Hk γb σ3 H4 Hk4 γ4) :
    ∃ H04, H4 = upd H04 L o ∧ H04 L = none ∧ Hk4 L = none ∧ Go K σ2 H0 Hk γb σ3 H04 Hk4 γ4 := by
  have nown0 : ¬ OwnA K σ2 H0 Hk γb L := fun h => by
    obtain ⟨⟨u, hu⟩, _⟩ := h.at
    rw [hL] at hu; cases hu
  have nown : ¬ OwnA K σ2 (upd H0 L o) Hk γb L := fun z => nown0 ((k.offA nown0).mp z)
  have h4 : H4 L = some o := g.kp L o upd_same nown
  have hk4 : Hk4 L = none := by
    cases e : Hk4 L with
    | none => rfl
    | some u =>
      rcases g.nw L u e hk with z | z
      · rw [upd_same] at z; cases z
      · exact absurd z nown
  have no4 : ¬ OwnA K σ3 H4 Hk4 γ4 L := fun z => by
    rcases g.sh L z with z | z
    · exact nown z
    · rw [upd_same] at z; cases z
  refine ⟨fun a => if a = L then none else H4 a, ?_, by simp, hk4, ?_⟩
  · funext a
    by_cases ha : a = L
    · subst ha; rw [upd_same]; exact h4
    · rw [upd_ne ha]; simp [ha]
  · have e : upd (fun a => if a = L then none else H4 a) L o = H4 := by
      funext a
      by_cases ha : a = L
      · subst ha; rw [upd_same]; exact h4.symm
      · rw [upd_ne ha]; simp [ha]
    refine Go.beside (o := o) (o2 := o) k hL ?_ (by simp) hk4 ?_
    · rw [e]
      exact g
    · rw [e]
      exact no4
theorem lc_imp {js : List Nat} {g : TG} {tg : Fg} {src : Fa} {tt : Ft} {elt : Fe} {σ : L2.St} {H : Hp} {Q : VK} (hg : TgOk K g tg js) (h : tL K (lLc js tg src tt elt) σ H Q) : tLc (tIt K src) g (tT K tt) (tI K elt) js σ H Q := by
  obtain ⟨γ, Hk, out, γr, k, e, q⟩ := h
  unfold lLc at e
  split at e
  · rename_i ds γ1 es
    split at e
    · rename_i no
      split at e <;> cases e
      rename_i γ2 el
      refine ⟨γ, Hk, ds, γ1, k, es, fun J H1 Hk1 g1 wk L hL => ?_⟩
      have gd := dropAll g1.ok js no
      have hk1L : Hk1 L = none := g1.ok.sub.free hL
      let W : Nat → Nat → Hp → Prop := fun i m H' => m = ds.length - i ∧ i ≤ ds.length ∧ ∃ γ' Hk' acc av H0, H' = upd H0 L (.lst av) ∧ H0 L = none ∧ Go K (wipe σ js) H1 Hk1 (wipeE γ1 js) (wipe σ js) H0 Hk' γ' ∧ (∀ j ∈ js, gt γ' j = none) ∧ Hk' L = none ∧ Same Hk1 Hk' ∧ DpAll K Hk' av acc ∧ lcF js tg tt elt (ds.drop i) γ' acc = some (out, γ2)
      refine ⟨W, ⟨ds.length, by simp, Nat.zero_le _, wipeE γ1 js, Hk1, [], [], H1, rfl, hL, Go.refl gd.ok, fun j hj => gt_wipe_in _ hj, hk1L, Same.refl _, .nil, by simpa using el⟩, ?_⟩
      rintro i m H' ⟨rfl, hi, γ', Hk', acc, av, H0, rfl, h0L, gg, gj, hkL, sk, ra, ef⟩
      obtain ⟨w1, w2⟩ := wk (upd H0 L (.lst av)) Hk' sk (gg.ok.sub.trans (same_upd h0L))
      by_cases hlt : i < ds.length
      · obtain ⟨go, yl⟩ := w1 i hlt
        rw [List.drop_eq_getElem_cons hlt] at ef
        unfold lcF at ef
        refine .inr ⟨go, W (i + 1) (ds.length - (i + 1)), fun H3 w => ⟨_, by omega, w⟩, fun x H'' y => ?_⟩
        obtain ⟨Hc, gr, rv⟩ := yl x H'' y
        have ok0 : Ok K (wipe σ js) (upd H0 L (.lst av)) Hk' γ' := gg.ok.grow (Grow.newH gg.ok.sub h0L)
        have gy := ok0.go gr
        split at ef
        · rename_i γ0 etg
          refine hg x ds[i] _ _ Hc γ' γ0 _ gy.ok rv etg fun σ2 gt2 hw => ?_
          rw [wipe_wipe] at hw
          have ga := gy.trans gt2
          -- back to the block's beginning
          have back : ∀ {H3 Hk3 : Hp} {γ3 : En}, Go K (wipe σ js) H0 Hk' γ' σ2 H3 Hk3 γ3 → noOwns γ3 js = true → Go K (wipe σ js) H1 Hk1 (wipeE γ1 js) (wipe σ js) H3 Hk3 (wipeE γ3 js) := fun {H3 Hk3 γ3} g3 n3 => by
            have := (gg.trans g3).trans (dropAll g3.ok js n3)
            rw [hw] at this
            exact this
          refine ⟨hw, ?_⟩
          split at ef
          · rename_i γ3 et
            refine ⟨γ0, Hc, true, γ3, gt2.ok, et, fun H3 Hk3 g3 => iteT ?_⟩
            split at ef
            · rename_i y γ4 ee
              split at ef
              · rename_i c
                rw [Bool.and_eq_true] at c
                refine ⟨γ3, Hk3, y, γ4, g3.ok, ee, fun u H4 Hk4 g4 r4 => ?_⟩
                obtain ⟨H04, rfl, h04, hk4, g5⟩ := aside gg.ok h0L hkL ((ga.trans g3).trans g4)
                have hla : av.length = acc.length := dps_len ra
                have kk4 : Same Hk' Hk4 := g5.kk
                refine ⟨av, upd_same, by rw [hla]; exact okN_lt c.1, rfl, hlt, _, Hk4, acc ++ [y], av ++ [u], H04, upd_upd, h04, back g5 c.2, fun j hj => gt_wipe_in _ hj, hk4, sk.trans kk4, ?_, ef⟩
                exact dps_app (dps_mono kk4 ra) (.cons r4 .nil)
              · cases ef
            · cases ef
          · rename_i γ3 et
            refine ⟨γ0, Hc, false, γ3, gt2.ok, et, fun H3 Hk3 g3 => iteF ?_⟩
            split at ef
            · rename_i c
              obtain ⟨H03, rfl, h03, hk3, g5⟩ := aside gg.ok h0L hkL (ga.trans g3)
              exact ⟨rfl, hlt, _, Hk3, acc, av, H03, rfl, h03, back g5 c, fun j hj => gt_wipe_in _ hj, hk3, sk.trans g5.kk, dps_mono g5.kk ra, ef⟩
            · cases ef
          · cases ef
        · cases ef
      · have e0 : i = ds.length := by omega
        subst e0
        rw [List.drop_length] at ef
        cases ef
        exact .inl ⟨w2 _ (Nat.le_refl _), q L av H0 Hk' (g1.trans (restoreAll g1.ok js _ no gg gj)) h0L ra⟩
    · cases e
  · cases e
end
end DN
namespace DN
open PySem PySem.Spec PyProof.Rows L2
/-! ### list comprehensions as rules -/
section
variable {W : WX} {X : Cx} {elt it tge : Expr} {ifs : List Expr} {scope : Scope} {own : List (Str × Nat)} {src : Fa} {g : TG} {tg : Fg} {tt : Ft} {ef : Fe} {pos : Pos} {js : List Nat} {y : Str}
theorem el_lc (hj : own.map (·.2) = js) (htg : TgOk X.K g tg js) (hc : X.calm = true) (hN : X.N.Nodup) (hi : EI X tge it src) (ok : BlkOk X.N X.env.scope scope own)
    (hg : ∀ (s : Shared) (H : Hp) (C : Addr) (cl : List (Str × Addr)) (fp : List Addr), PG (X.blk s H scope (compEnvC scope cl C X.env) fp) tge g)
    (ht : ∀ (s : Shared) (H : Hp) (C : Addr) (cl : List (Str × Addr)) (fp : List Addr), PTs (X.blk s H scope (compEnvC scope cl C X.env) fp) ifs (tT X.K tt))
    (he : ∀ (s : Shared) (H : Hp) (C : Addr) (cl : List (Str × Addr)) (fp : List Addr), EV (X.blk s H scope (compEnvC scope cl C X.env) fp) elt ef) (hs : ∀ x, foldedSetIterable it X.env x = pure x := by intro _; rfl) :
    EL X (.ListComp elt [⟨tge, it, ifs, 0⟩] scope pos) (lLc js tg src tt ef) := by
  subst hj
  exact PE.imp (pe_lc (te := tI X.K ef) hc hN hi ok hg ht he hs) fun _ _ _ h => lc_imp htg h
theorem es_lcOwn (i : Nat) {py spos : Pos} (hj : own.map (·.2) = js) (htg : TgOk X.K g tg js) (hc : X.calm = true) (hN : X.N.Nodup) (hy : X.N[i]? = some y) (hyl : X.env.scope.names.lookup y = some .local)
    (hsw : swapsWith (.ListComp elt [⟨tge, it, ifs, 0⟩] scope pos) (some (.Name y py)) spos.line X.env = pure true) (hi : EI X tge it src) (ok : BlkOk X.N X.env.scope scope own)
    (hg : ∀ (s : Shared) (H : Hp) (C : Addr) (cl : List (Str × Addr)) (fp : List Addr), PG (X.blk s H scope (compEnvC scope cl C X.env) fp) tge g)
    (ht : ∀ (s : Shared) (H : Hp) (C : Addr) (cl : List (Str × Addr)) (fp : List Addr), PTs (X.blk s H scope (compEnvC scope cl C X.env) fp) ifs (tT X.K tt))
    (he : ∀ (s : Shared) (H : Hp) (C : Addr) (cl : List (Str × Addr)) (fp : List Addr), EV (X.blk s H scope (compEnvC scope cl C X.env) fp) elt ef) (hs : ∀ x, foldedSetIterable it X.env x = pure x := by intro _; rfl) :
    ES X W (.Assign [.Name y py] (.ListComp elt [⟨tge, it, ifs, 0⟩] scope pos) spos) (sOwn i (lLc js tg src tt ef)) := by
  subst hj
  refine PS.imp (ps_setLc (te := tI X.K ef) hc hN hy hyl hsw hi ok hg ht he hs) fun Z σ H h => ?_
  have h2 := own_imp h
  exact lc_imp htg h2
theorem es_lcDat (i : Nat) {py spos : Pos} (hj : own.map (·.2) = js) (htg : TgOk X.K g tg js) (hc : X.calm = true) (hN : X.N.Nodup) (hy : X.N[i]? = some y) (hyl : X.env.scope.names.lookup y = some .local)
    (hsw : swapsWith (.ListComp elt [⟨tge, it, ifs, 0⟩] scope pos) (some (.Name y py)) spos.line X.env = pure true) (hi : EI X tge it src) (ok : BlkOk X.N X.env.scope scope own)
    (hg : ∀ (s : Shared) (H : Hp) (C : Addr) (cl : List (Str × Addr)) (fp : List Addr), PG (X.blk s H scope (compEnvC scope cl C X.env) fp) tge g)
    (ht : ∀ (s : Shared) (H : Hp) (C : Addr) (cl : List (Str × Addr)) (fp : List Addr), PTs (X.blk s H scope (compEnvC scope cl C X.env) fp) ifs (tT X.K tt))
    (he : ∀ (s : Shared) (H : Hp) (C : Addr) (cl : List (Str × Addr)) (fp : List Addr), EV (X.blk s H scope (compEnvC scope cl C X.env) fp) elt ef) (hs : ∀ x, foldedSetIterable it X.env x = pure x := by intro _; rfl) :
    ES X W (.Assign [.Name y py] (.ListComp elt [⟨tge, it, ifs, 0⟩] scope pos) spos) (sAsg (fL (lLc js tg src tt ef)) (gDat i)) := by
  subst hj
  refine PS.imp (ps_setLc (te := tI X.K ef) hc hN hy hyl hsw hi ok hg ht he hs) fun Z σ H h => ?_
  obtain ⟨γ, Hk, o, k, e, q⟩ := h
  unfold sAsg fL at e
  refine lc_imp (K := X.K) (tg := tg) (src := src) (tt := tt) (elt := ef) (Q := fun x H1 => gName i x σ H1 Z.nx) htg ?_
  cases el : lLc (own.map (·.2)) tg src tt ef γ with
  | none => rw [el] at e; cases e
  | some r =>
    obtain ⟨ds, γ1⟩ := r
    rw [el] at e
    simp only at e
    cases eg : gDat i (.list ds) γ1 with
    | none => rw [eg] at e; cases e
    | some γ2 =>
      rw [eg] at e; cases e
      refine ⟨γ, Hk, ds, γ1, k, el, fun p vs H2 Hk2 g hp r => ?_⟩
      have g2 : Grow H2 Hk2 (upd H2 p (.lst vs)) (upd Hk2 p (.lst vs)) := Grow.new g.ok.sub hp
      have g3 := g.trans (g.ok.go g2)
      exact gDat_imp ⟨γ1, _, .list ds, γ2, g3.ok, .lst (SqL.of upd_same) (dps_mono g2.kk r), eg, fun σ2 g4 => q σ2 _ _ (g3.trans g4)⟩
end

/-! ### a def's contract: a function of data; the first argument may be a list of the caller's that the def changes -/
def Args (K : PySem.W.Frag) (bor : Bool) (H Hk : Hp) (vs : List V) (ds : List D) : Prop := match bor with
  | false => DpAll K Hk vs ds
  | true => ∃ p ws bs vs' ds', vs = .ref p :: vs' ∧ ds = .list bs :: ds' ∧ H p = some (.lst ws) ∧ Hk p = none ∧ DpAll K Hk ws bs ∧ DpAll K Hk vs' ds'
abbrev Fun' := List D → Option (D × List D)
def spD (K : PySem.W.Frag) (bor : Bool) (n : Nat) (F : Fun') (vs : List V) (H : Hp) (Q : VK) : Prop := vs.length = n ∧ ∃ Hk ds d out, Same Hk H ∧ Args K bor H Hk vs ds ∧ F ds = some (d, out) ∧
  ∀ v H2 Hk2, Same Hk2 H2 → Same Hk Hk2 → (∀ a u, Hk2 a = some u → Hk a = none → H a = none) → (∀ a u, H a = some u → (bor = true → vs[0]? ≠ some (.ref a)) → H2 a = some u) → Dp K Hk2 v d →
    (bor = true → ∃ p ws, vs[0]? = some (.ref p) ∧ H2 p = some (.lst ws) ∧ Hk2 p = none ∧ DpAll K Hk2 ws out) → Q v H2
structure FnG (P : Program) (w : World) (K : PySem.W.Frag) (mg : Str → Option Value) (base : Heap) (k : Nat) (f : Addr) (fd : FuncData) (ps : List Str) (bor : Bool) (F : Fun') : Prop where
  run : ∀ (A : Around) (outer : List Env) (s : Shared) (H : Hp) (args : PySem.Args) (us : List Value) (vs : List V) (Q : VK), Room k A → A.guards = some [] → Env0 P w K mg base A outer s H → BindsTo s fd args (ps.zip us) → Vals vs us →
    spD K bor ps.length F vs H Q → codeAny (model P w) A (.call (.ref f) args) (CR CX0 outer P w H s Q E0) s
@[simp] def ini (bor : Bool) (m : Nat) (ds : List D) : En := (match bor, ds with
  | true, .list bs :: r => some (.own true bs) :: r.map fun d => some (.dat d)
  | _, ds => ds.map fun d => some (.dat d)) ++ List.replicate m none
/-- the body B does what F tells -/
def Does (bor : Bool) (m : Nat) (B : Fs) (F : Fun') : Prop := ∀ ds d out, F ds = some (d, out) → ∃ γ2, (B (ini bor m ds) = some (.rt d γ2) ∨ (d = .none ∧ B (ini bor m ds) = some (.nx γ2))) ∧ (bor = true → gt γ2 0 = some (.own true out))
theorem gt_map : ∀ (ds : List D) (r : En) (i : Nat), gt ((ds.map fun d => some (Ent.dat d)) ++ r) i = if h : i < ds.length then some (.dat ds[i]) else gt r (i - ds.length)
  | [], r, i => by simp
  | d :: ds, r, 0 => by simp [gt]
  | d :: ds, r, i + 1 => by
    have := gt_map ds r i
    simp only [List.map_cons, List.cons_append, gt, this, List.length_cons, Nat.add_lt_add_iff_right, Nat.add_sub_add_right, List.getElem_cons_succ]
theorem gt_rep : ∀ (m i : Nat), gt (List.replicate m none) i = none
  | 0, _ => rfl
  | m + 1, 0 => rfl
  | m + 1, i + 1 => gt_rep m i
theorem start_at {N : List Str} {vs : List V} {i : Nat} {v : V} (h : vs[i]? = some v) : (L2.start N vs)[i]? = some (some v) := by
  have hi := (List.getElem?_eq_some_iff.mp h).1
  unfold L2.start
  rw [List.getElem?_append_left (by simpa using hi), List.getElem?_map, h]
  rfl
theorem ini_dat {K : PySem.W.Frag} {N : List Str} {vs : List V} {ds : List D} {H Hk : Hp} {m : Nat} (s : Same Hk H) (a : DpAll K Hk vs ds) (hl : vs.length + m = N.length) : Ok K (L2.start N vs) H Hk ((ds.map fun d => some (Ent.dat d)) ++ List.replicate m none) := by
  have no : ∀ {i b y}, gt ((ds.map fun d => some (Ent.dat d)) ++ List.replicate m none) i = some (.ow b y) → False := fun {i b y} e => by
    rw [gt_map] at e
    split at e
    · cases e
    · rw [gt_rep] at e; cases e
  have nt : ∀ {i kvs}, gt ((ds.map fun d => some (Ent.dat d)) ++ List.replicate m none) i = some (.tab kvs) → False := fun {i kvs} e => by
    rw [gt_map] at e
    split at e
    · cases e
    · rw [gt_rep] at e; cases e
  refine ⟨?_, s, fun i d e => ?_, fun i b y e => (no e).elim, fun i y e => (no e).elim, fun i _ b _ y _ _ _ _ _ e _ => (no e).elim, fun i kvs e => (nt e).elim⟩
  · unfold L2.start
    simp [← dps_len a]
    omega
  · rw [gt_map] at e
    split at e
    · rename_i h
      cases e
      obtain ⟨v, ev, r⟩ := dps_at a (List.getElem?_eq_getElem h)
      exact ⟨v, start_at ev, r⟩
    · rw [gt_rep] at e; cases e
theorem ini_ok {K : PySem.W.Frag} {N : List Str} {bor : Bool} {vs : List V} {ds : List D} {H Hk : Hp} {m : Nat} (s : Same Hk H) (a : Args K bor H Hk vs ds) (hl : vs.length + m = N.length) : Ok K (L2.start N vs) H Hk (ini bor m ds) := by
  cases bor with
  | false => exact ini_dat s a hl
  | true =>
    obtain ⟨p, ws, bs, vs', ds', rfl, rfl, hp, hk, aw, a'⟩ := a
    have hs : L2.start N (.ref p :: vs') = some (.ref p) :: L2.start (N.drop 1) vs' := by
      unfold L2.start
      simp only [List.map_cons, List.cons_append, List.length_cons, List.length_drop]
      rw [show N.length - (vs'.length + 1) = N.length - 1 - vs'.length by omega]
    have hi : ini true m (.list bs :: ds') = some (.own true bs) :: ((ds'.map fun d => some (Ent.dat d)) ++ List.replicate m none) := rfl
    have k := ini_dat (N := N.drop 1) (m := m) s a' (by rw [List.length_drop]; simp only [List.length_cons] at hl; omega)
    rw [hs, hi]
    have no : ∀ {i b y}, gt ((ds'.map fun d => some (Ent.dat d)) ++ List.replicate m none) i = some (.ow b y) → False := fun {i b y} e => by
      rw [gt_map] at e
      split at e
      · cases e
      · rw [gt_rep] at e; cases e
    refine ⟨by simp only [List.length_cons]; rw [k.len], s, fun i d e => ?_, fun i b y e => ?_, fun i y e => ?_, fun i j b c y z v u fp fq ei ej => ?_, fun i kvs e => ?_⟩
    · cases i with
      | zero => cases e
      | succ i =>
        obtain ⟨v, ev, r⟩ := k.dat i d e
        exact ⟨v, by simpa using ev, r⟩
    · cases i with
      | zero => cases e; exact ⟨.ref p, [p], rfl, .lst hp hk aw⟩
      | succ i => exact (no e).elim
    · cases i with
      | zero => rfl
      | succ i => exact (no e).elim
    · cases i with
      | zero =>
        cases j with
        | zero => intros; rfl
        | succ j => exact (no ej).elim
      | succ i => exact (no ei).elim
    · cases i with
      | zero => cases e
      | succ i =>
        obtain ⟨v, ev, r⟩ := k.tab i kvs e
        exact ⟨v, by simpa using ev, r⟩
@[simp] def runF (bor : Bool) (m : Nat) (B : Fs) : Fun' := fun ds => match B (ini bor m ds) with
  | some (.rt d γ2) => if bor then match gt γ2 0 with
    | some (.ow true (.lst out)) => some (d, out)
    | _ => none
    else some (d, [])
  | some (.nx γ2) => if bor then match gt γ2 0 with
    | some (.ow true (.lst out)) => some (.none, out)
    | _ => none
    else some (.none, [])
  | _ => none
theorem does_run (bor : Bool) (m : Nat) (B : Fs) : Does bor m B (runF bor m B) := by
  intro ds d out e
  unfold runF at e
  split at e
  · rename_i d' γ2 eB
    refine ⟨γ2, ?_⟩
    split at e
    · split at e <;> cases e
      rename_i eo
      exact ⟨.inl eB, fun _ => eo⟩
    · rename_i c
      cases e
      exact ⟨.inl eB, fun z => absurd z c⟩
  · rename_i γ2 eB
    refine ⟨γ2, ?_⟩
    split at e
    · split at e <;> cases e
      rename_i eo
      exact ⟨.inr ⟨rfl, eB⟩, fun _ => eo⟩
    · rename_i c
      cases e
      exact ⟨.inr ⟨rfl, eB⟩, fun z => absurd z c⟩
  · cases e
/-- a def by its body's function -/
theorem fnG_of {P : Program} {w : World} {K : PySem.W.Frag} {mg : Str → Option Value} {base : Heap} {x qual : Str} {st : Stmt} {f : Addr} {fd : FuncData} {N ps : List Str} {k m : Nat} {bor : Bool} {F : Fun'} {B : Fs} (Fu : Fun K x qual st f fd) (S : FnScope N ps (defScope st))
    (hm : ps.length + m = N.length) (hF : Does bor m B F)
    (hb : ∀ (cdv : Value) (A : Around) (outer : List Env) (s : Shared) (H : Hp), (A.deeper (envOfC qual (defScope st) s.heap.objs.size f cdv)).guards = some [] → Room k (A.deeper (envOfC qual (defScope st) s.heap.objs.size f cdv)) →
      ESs (cxOf CX0 P w K mg base N qual (defScope st) f cdv A outer s H E0).nox (fun _ _ _ _ => False) (defBody st) B) :
    FnG P w K mg base (k + 1) f fd ps bor F := by
  obtain ⟨oc, od, kV, doc, pm, an, cdv, ct, osl, rfl, lk, hcd⟩ := Fu.ex
  refine ⟨fun A outer s H args us vs Q hr hG e0 bd rv sp => ?_⟩
  obtain ⟨hlen, Hk, ds, d, out, hsub, ha, eF, post⟩ := sp
  have inK : K.In s.heap := e0.mod.kin.keeps fun b o e => (e0.bs b o e).1
  have noLim : s.heap.NoLimit := e0.mod.nolimit.keeps fun b o e => (e0.bs b o e).1
  have kinds : ∀ y ∈ ps.zip us, (defScope st).names.lookup y.1 = some .local ∨ ((defScope st).names.lookup y.1 = some .cell ∧ ((cellsFrom (s.heap.objs.size + 1) (defScope st).names []).lookup y.1).isSome = true) := by
    rintro ⟨nm, vl⟩ hy
    rcases S.par nm (List.of_mem_zip hy).1 with z | z
    · exact .inl z
    · exact .inr ⟨z, PySem.W.cellsFrom_some _ _ _ (.inl z)⟩
  refine codeAny_call_function hr.depth (inK _ _ lk) rfl S.co S.gen rfl (PySem.W.codeRec_of inK hcd) (bd _ _ _ _ ?_)
  refine wpAny_newFunctionEnv_cells S.kind kinds fun env henv s1 ic => ?_
  subst henv
  refine ⟨noLim.keeps ic.toInCall.keep, codeAny_func ?_⟩
  have J0 : Inv (cxOf CX0 P w K mg base N qual (defScope st) f cdv A outer s H E0) [] (L2.start N vs) H s1 := inv_start S hr.hd e0 hlen rv ic
  have body := hb cdv A outer s H (by simpa [Around.deeper] using hG) (hr.deeper _)
  obtain ⟨γ2, eB, eO⟩ := hF ds d out eF
  have ok0 : Ok K (L2.start N vs) H Hk (ini bor m ds) := ini_ok hsub ha (by rw [hlen]; exact hm)
  -- what the caller is told
  have tell : ∀ {v : V} {σ2 : L2.St} {H2 Hk2 : Hp}, Go K (L2.start N vs) H Hk (ini bor m ds) σ2 H2 Hk2 γ2 → Dp K Hk2 v d → Q v H2 := by
    intro v σ2 H2 Hk2 g r
    have own0 : ∀ a, OwnA K (L2.start N vs) H Hk (ini bor m ds) a → bor = true ∧ vs[0]? = some (.ref a) ∧ Hk2 a = none := by
      rintro a ⟨i, b, y, w, fp, e, h1, rr, mm⟩
      cases bor with
      | false =>
        exfalso
        have e : gt ((ds.map fun d => some (Ent.dat d)) ++ List.replicate m none) i = some (.ow b y) := e
        rw [gt_map] at e
        split at e
        · cases e
        · rw [gt_rep] at e; cases e
      | true =>
        obtain ⟨p, ws, bs, vs', ds', rfl, rfl, hp, hk, aw, a'⟩ := ha
        cases i with
        | zero =>
          have h1 : some (some (V.ref p)) = some (some w) := h1
          cases h1
          have e : some (Ent.ow true (.lst bs)) = some (.ow b y) := e
          cases e
          cases rr
          obtain rfl := List.mem_singleton.mp mm
          refine ⟨rfl, rfl, ?_⟩
          obtain ⟨e2, es2, h2⟩ := g.pn 0 (.lst bs) rfl
          obtain ⟨q, us2, e3, e4, e5, e6⟩ := g.ok.own 0 _ _ (eO rfl)
          rw [e2] at e3
          have e3 : some (some (V.ref a)) = some (some (V.ref q)) := e3
          cases e3
          exact e5
        | succ i =>
          exfalso
          have e : gt ((ds'.map fun d => some (Ent.dat d)) ++ List.replicate m none) i = some (.ow b y) := e
          rw [gt_map] at e
          split at e
          · cases e
          · rw [gt_rep] at e; cases e
    refine post v H2 Hk2 g.ok.sub g.kk (fun a u h n => ?_) (fun a u h n => g.kp a u h fun z => ?_) r (fun hbor => ?_)
    · rcases g.nw a u h n with z | z
      · exact z
      · have := (own0 a z).2.2
        rw [h] at this; cases this
    · obtain ⟨z1, z2, _⟩ := own0 a z
      exact n z1 z2
    · subst hbor
      obtain ⟨p, ws, bs, vs', ds', rfl, rfl, hp, hk, aw, a'⟩ := ha
      obtain ⟨e2, _⟩ := g.pn 0 (.lst bs) rfl
      obtain ⟨q, us2, e3, e4, e5, e6⟩ := g.ok.own 0 _ _ (eO rfl)
      rw [e2] at e3
      have e3 : some (some (V.ref p)) = some (some (V.ref q)) := e3
      cases e3
      exact ⟨p, us2, rfl, e4, e5, e6⟩
  have run : wpAny (model P w) (A.deeper (envOfC qual (defScope st) s.heap.objs.size f cdv)) (execs (defBody st) (envOfC qual (defScope st) s.heap.objs.size f cdv))
      (SP (cxOf CX0 P w K mg base N qual (defScope st) f cdv A outer s H E0) [] { nx := fun _ H' => Q .non H', rt := Q }) (cxOf CX0 P w K mg base N qual (defScope st) f cdv A outer s H E0).xe s1 := by
    refine body.nox.run [] s1 (L2.start N vs) H { nx := fun _ H' => Q .non H', rt := Q } J0 ?_
    rcases eB with eB | ⟨rfl, eB⟩
    · exact ⟨_, Hk, _, ok0, eB, fun v σ2 H2 Hk2 g r => tell g r⟩
    · exact ⟨_, Hk, _, ok0, eB, fun σ2 H2 Hk2 g => tell g .non⟩
  refine wpAny_mono run (fun fl s' hs => ?_) fun e s' hs => hs
  have done : ∀ {σ' : L2.St} {H' : Hp} {v : V} {u : Value}, Inv (cxOf CX0 P w K mg base N qual (defScope st) f cdv A outer s H E0) [] σ' H' s' → RelV v u → Q v H' → CE outer P w H s Q u s' := by
    intro σ' H' v u J r q
    exact ⟨v, H', J.os, J.bare, J.base, J.hok, r, q⟩
  cases fl with
  | ret u =>
    obtain ⟨v, σ', H', J, r, q⟩ := hs
    exact done J r q
  | next =>
    obtain ⟨σ', H', J, q⟩ := hs
    exact done (v := V.non) (u := Value.none) J rfl q
  | brk =>
    obtain ⟨_, _, _, q⟩ := hs
    exact q.elim
  | cont =>
    obtain ⟨_, _, _, q⟩ := hs
    exact q.elim
end DN
namespace DN
open PySem PySem.Spec PyProof.Rows L2
/-! ### calls of the text's own defs -/
def Cal (P : Program) (w : World) (K : PySem.W.Frag) (mg : Str → Option Value) (base : Heap) (x : Str) (k : Nat) (ps : List Str) (bor : Bool) (F : Fun') : Prop :=
  ∃ f fd, FnG P w K mg base k f fd ps bor F ∧ mg x = some (.ref f) ∧ PySem.W.keepIn K (.ref f) = true ∧ Binds K fd ps []
@[simp] def fCall (n : Nat) (F : Fun') (fa : Fa) : Fe := fun γ => match fa γ with
  | some (ds, γ1) => if ds.length = n then match F ds with
    | some (d, _) => some (d, γ1)
    | none => none
    else none
  | none => none
@[simp] def fCallB (n : Nat) (F : Fun') (i : Nat) (fa : Fa) : Fe := fun γ => match gt γ i with
  | some (.ow _ (.lst _)) => match fa γ with
    | some (ds, γ1) => match gt γ1 i with
      | some (.ow b (.lst bs)) => if ds.length + 1 = n then match F (.list bs :: ds) with
        | some (d, out) => some (d, γ1.set i (some (.own b out)))
        | none => none
        else none
      | _ => none
    | none => none
  | _ => none
theorem Ok.borrow {K : PySem.W.Frag} {σ : L2.St} {H Hk H2 Hk2 : Hp} {γ : En} {i : Nat} {b : Bool} {ds out : List D} {p : Addr} {ws : List V} (o : Ok K σ H Hk γ) (h : gt γ i = some (.own b ds)) (hs : σ[i]? = some (some (.ref p))) (sub : Same Hk2 H2) (kk : Same Hk Hk2)
    (nw : ∀ a u, Hk2 a = some u → Hk a = none → H a = none) (kp : ∀ a u, H a = some u → a ≠ p → H2 a = some u) (hp : H2 p = some (.lst ws)) (hk : Hk2 p = none) (r : DpAll K Hk2 ws out) : Go K σ H Hk γ σ H2 Hk2 (γ.set i (some (.own b out))) := by
  obtain ⟨p', vs, e1, hp1, _⟩ := o.own i b ds h
  rw [hs] at e1; cases e1
  have g : Grow H Hk (upd H2 p (.lst vs)) Hk2 := by
    refine ⟨fun a u e => ?_, kk, fun a u e => ?_, nw⟩
    · by_cases ha : a = p
      · subst ha; rw [upd_same]; rw [hp1] at e; exact e
      · rw [upd_ne ha]; exact kp a u e ha
    · rw [upd_ne (ne_of_none e hk)]
      exact sub a u e
  have g1 := o.go g
  have g2 := g1.ok.write h hs r
  have e : upd (upd H2 p (.lst vs)) p (.lst ws) = H2 := by
    rw [upd_upd]
    funext a
    by_cases ha : a = p
    · subst ha; rw [upd_same, hp]
    · rw [upd_ne ha]
  rw [e] at g2
  exact g1.trans g2
section
variable {W : WX} {X : Cx} {x : Str} {k n : Nat} {ps : List Str} {F : Fun'} {e : Expr} {es : List Expr} {fa : Fa} {p pos : Pos}
theorem runG {f : Addr} {fd : FuncData} {bor : Bool} {pins : List (Addr × Obj)} {σ : L2.St} {H : Hp} {s : Shared} {Q : VK} {us : List Value} {vs : List V} (G : FnG X.prog X.w X.K X.mg X.base k f fd ps bor F) (hr : Room k X.A) (hG : X.A.guards = some []) (hb : Binds X.K fd ps [])
    (I : Inv X pins σ H s) (r : Vals vs us) (h : spD X.K bor ps.length F vs H Q) : wpAny (model X.prog X.w) X.A (call (.ref f) us) (EP X pins σ Q) X.xe s := by
  have hl : us.length = ps.length := by rw [← r.length]; exact h.1
  have bd := hb s us I.kIn (by rw [List.append_nil]; exact hl)
  rw [List.append_nil] at bd
  refine wpAny_call (codeAny_mono (G.run X.A X.stack s H ⟨us, []⟩ us vs Q hr hG I.env0 bd r h) fun res s' hq => ?_)
  cases res with
  | error ex => exact hq.elim
  | ok fl =>
    cases fl with
    | ret u => exact I.after hq
    | next => exact hq.elim
    | brk => exact hq.elim
    | cont => exact hq.elim
theorem ev_call (C : Cal X.prog X.w X.K X.mg X.base x k ps false F) (hr : Room k X.A) (hG : X.A.guards = some []) (hg : Gl X x) (ha : EA X (e :: es) fa) (hn : ps.length = n := by rfl)
    (hdb : (x == ("__debug__" : Str)) = false := by decide) (he : starEach (e :: es) X.env = (false, eval e X.env) :: starEach es X.env := by rfl) (hpl : (backTo pos (starEach es X.env)).any (·.1) = false := by rfl) :
    EV X (.Call (.Name x p) (e :: es) [] pos) (fCall n F fa) := by
  subst hn
  obtain ⟨f, fd, G, hm, hk, hb⟩ := C
  refine ⟨fun pins s σ H Q I h => ?_⟩
  obtain ⟨γ, Hk, d, γ2, ok, ee, q⟩ := h
  unfold fCall at ee
  split at ee
  · rename_i ds γ1 ea
    split at ee
    · rename_i hl
      split at ee <;> cases ee
      rename_i out eF
      refine wpAny_Call_Name_kw (ld_glob I hg hm ?_ hdb)
      refine PySem.W.callWith_K (h₀ := X.base) I.ok.mod.kin hk (thn (ha.run pos pins s σ H (fun vs H1 => spD X.K false ps.length F vs H1 Q) I ⟨γ, Hk, ds, _, ok, ea, fun vs H1 Hk1 g1 r1 => ?_⟩) fun us s1 ⟨vs, H1, I1, r, q1⟩ => ⟨I1.kIn, ?_⟩) he hpl
      · refine ⟨by rw [dps_len r1]; exact hl, Hk1, ds, d, out, g1.ok.sub, r1, eF, fun v H2 Hk2 s2 k2 nw kp r2 _ => ?_⟩
        exact q v H2 Hk2 (g1.trans (g1.ok.go ⟨fun a u h => kp a u h fun z => absurd z Bool.false_ne_true, k2, s2, nw⟩)) r2
      · exact runG G hr hG hb I1 r q1
    · cases ee
  · cases ee
theorem ev_call0 (C : Cal X.prog X.w X.K X.mg X.base x k ps false F) (hr : Room k X.A) (hG : X.A.guards = some []) (hg : Gl X x) (hn : ps.length = n := by rfl)
    (hdb : (x == ("__debug__" : Str)) = false := by decide) : EV X (.Call (.Name x p) [] [] pos) (fCall n F aNil) := by
  subst hn
  obtain ⟨f, fd, G, hm, hk, hb⟩ := C
  refine ⟨fun pins s σ H Q I h => ?_⟩
  obtain ⟨γ, Hk, d, γ2, ok, ee, q⟩ := h
  unfold fCall aNil at ee
  simp only at ee
  split at ee
  · rename_i hl
    split at ee <;> cases ee
    rename_i out eF
    refine wpAny_Call_Name_kw (ld_glob I hg hm ?_ hdb)
    refine PySem.W.callWith_K0 I.kIn hk (runG (us := []) (vs := []) G hr hG hb I .nil ?_)
    exact ⟨hl, Hk, [], d, out, ok.sub, .nil, eF, fun v H2 Hk2 s2 k2 nw kp r2 _ => q v H2 Hk2 (ok.go ⟨fun a u h => kp a u h fun z => absurd z Bool.false_ne_true, k2, s2, nw⟩) r2⟩
  · cases ee
theorem ev_callO (i : Nat) (C : Cal X.prog X.w X.K X.mg X.base x k ps true F) (hr : Room k X.A) (hG : X.A.guards = some []) (hg : Gl X x) (hv : PE X e (tVar i)) (ha : EA X es fa) (hn : ps.length = n := by rfl)
    (hdb : (x == ("__debug__" : Str)) = false := by decide) (he : starEach (e :: es) X.env = (false, eval e X.env) :: starEach es X.env := by rfl) (hpl : (backTo pos (starEach es X.env)).any (·.1) = false := by rfl) :
    EV X (.Call (.Name x p) (e :: es) [] pos) (fCallB n F i fa) := by
  subst hn
  obtain ⟨f, fd, G, hm, hk, hb⟩ := C
  refine ⟨fun pins s σ H Q I h => ?_⟩
  obtain ⟨γ, Hk, d, γ2, ok, ee, q⟩ := h
  unfold fCallB at ee
  split at ee
  · rename_i b0 bs0 e0
    split at ee
    · rename_i ds γ1 ea
      split at ee
      · rename_i b bs eo
        split at ee
        · rename_i hl
          split at ee <;> cases ee
          rename_i out eF
          obtain ⟨p0, vs0, e1, _⟩ := ok.own i _ _ e0
          refine wpAny_Call_Name_kw (ld_glob I hg hm ?_ hdb)
          refine PySem.W.callWith_K (h₀ := X.base) I.ok.mod.kin hk (thn ((pa_cons hv ha he).run pos pins s σ H (fun vs H1 => spD X.K true ps.length F vs H1 Q) I ⟨_, e1, γ, Hk, ds, γ1, ok, ea, fun vs H1 Hk1 g1 r1 => ?_⟩) fun us s1 ⟨vs, H1, I1, r, q1⟩ => ⟨I1.kIn, ?_⟩) he hpl
          · obtain ⟨p1, ws, e2, hp, hkp, rw'⟩ := g1.ok.own i _ _ eo
            rw [e1] at e2; cases e2
            refine ⟨by rw [List.length_cons, dps_len r1]; exact hl, Hk1, .list bs :: ds, d, out, g1.ok.sub, ⟨p0, ws, bs, vs, ds, rfl, rfl, hp, hkp, rw', r1⟩, eF, fun v H2 Hk2 s2 k2 nw kp r2 ho => ?_⟩
            obtain ⟨p2, us, e3, h3, h4, h5⟩ := ho rfl
            cases e3
            exact q v H2 Hk2 (g1.trans (g1.ok.borrow eo e1 s2 k2 nw (fun a u h n => kp a u h fun _ z => n (by cases z; rfl)) h3 h4 h5)) r2
          · exact runG G hr hG hb I1 r q1
        · cases ee
      · cases ee
    · cases ee
  · cases ee
end
/-! ### repr -/
def reprD (d : D) : Option D := if d.showable && !d.hasDict && okN d.shown.length && decide (d.depth ≤ 60) then some (.str d.shown) else none
def rRepr (K : PySem.W.Frag) : List V → Hp → VK → Prop := fun xs H Q => ∃ x d, xs = [x] ∧ Dp K H x d ∧ d.showable = true ∧ d.hasDict = false ∧ d.shown.length ≤ sizeLine ∧ d.depth ≤ 60 ∧ Q (.str d.shown) H
theorem x_repr {X : Cx} (hG : X.A.guards = some []) (hu : X.A.units + 64 < cLine) : CallR X (.builtin "repr") (rRepr X.K) := by
  intro pins s σ H xs us Q I r h
  obtain ⟨x, d, rfl, hd, h1, h2, h3, h4, q⟩ := h
  cases r with
  | cons r rr =>
    cases rr
    have fin : ∀ (h' : Heap) (u tk : Tok), (∀ b o, s.heap.get? b = some o → h'.get? b = some o) → EP X pins σ Q (.str d.shown u) { s with heap := h', toks := tk } := fun h' u tk hk => ⟨V.str d.shown, H, I.kept hk, ⟨u, rfl⟩, q⟩
    cases hd with
    | non => cases r; exact PySem.P.repr_of_none (fin s.heap _ _ fun _ _ e => e)
    | bl b => cases r; exact PySem.P.repr_of_bool (by have := fin s.heap s.toks (s.toks + 1) fun _ _ e => e; cases b <;> exact this)
    | int i => obtain ⟨t, rfl⟩ := r; exact PySem.P.repr_of_int (by simpa [PyData.showable] using h1) (fin s.heap _ _ fun _ _ e => e)
    | str z => obtain ⟨t, rfl⟩ := r; exact PySem.P.repr_of_str (fin s.heap _ _ fun _ _ e => e) (by simpa only [PyData.shown] using h3)
    | @lst a vs ds hs ha =>
      cases r
      obtain ⟨as, hr⟩ := Dp.reads I (u := .ref a) (.lst hs ha) rfl
      exact repr_of_reads' hr h1 (PyData.noDict_hsm h2) hG (by omega) (fun _ _ e => e) (fun h' u tk hk => fin h' u tk hk) h3
    | @tup a vs ds hs ha =>
      cases r
      obtain ⟨as, hr⟩ := Dp.reads I (u := .ref a) (.tup hs ha) rfl
      exact repr_of_reads' hr h1 (PyData.noDict_hsm h2) hG (by omega) (fun _ _ e => e) (fun h' u tk hk => fin h' u tk hk) h3
    | dct _ _ _ _ _ _ => cases h2
theorem o_repr {K : PySem.W.Frag} : Op1 K (fun x => rRepr K [x]) reprD := by
  intro H Hk x dx dz Q s vx e q
  unfold reprD at e
  split at e <;> cases e
  rename_i c
  simp only [Bool.and_eq_true, Bool.not_eq_true', decide_eq_true_eq] at c
  exact ⟨x, dx, rfl, vx.dp s, c.1.1.1, c.1.1.2, okN_line c.1.2, c.2, q _ H Hk (Grow.refl s) (.str _)⟩
end DN
namespace DN
open PySem PySem.Spec PyProof.Rows L2
/-! ### the law's own call -/
@[simp] def scriptD (ns : List Int) : D := .list (ns.map .int)
theorem lawG {P : Program} {w : World} {K : PySem.W.Frag} {mg mb : Str → Option Value} {k : Nat} {fa a : Addr} {fd : FuncData} {x : Str} {F : Fun'} {s₁ : Shared} {vs : List Value} {ns : List Int} {out : List D}
    (inK : K.In s₁.heap) (gl : s₁.heap.Ns mainGlobals mg) (bl : s₁.heap.Ns builtinsNs mb) (bb : ∀ x : Str, x ≠ "__name__" → mb x = bootBuiltins x) (nl : s₁.heap.NoLimit) (gn : s₁.gens = #[])
    (oa : s₁.heap.get? a = some { cls := .type "list", data := .seq vs.toArray }) (ia : IntsAre vs ns) (sz : ns.length ≤ sizeLine) (rm : Room k callerA)
    (G : ∀ base : Heap, K.In base → base.Ns mainGlobals mg → FnG P w K mg base k fa fd [x] false F) (bd : ∀ (s : Shared) (u : Value), BindsTo s fd ⟨[u], []⟩ [(x, u)])
    (hF : F [scriptD ns] = some (.bool true, out)) :
    codeAny (model P w) callerA (.call (.ref fa) ⟨[.ref a], []⟩) (fun r s' => r = .ok (.ret (.bool true)) ∧ OldK s₁.heap s'.heap ∧ s'.os = s₁.os ∧ AllBare s'.gens) s₁ := by
  have vi := vals_ints ia
  -- the script's object, tracked as known where it is none of the module's own
  let T : HO := .frz { cls := .type "list", data := .seq vs.toArray } (.lst (ns.map V.int))
  let H : Hp := fun b => if b = a ∧ K.lookup a = none then some T else none
  have Hone : ∀ {b : Addr} {u : HO}, H b = some u → b = a ∧ K.lookup a = none ∧ u = T := by
    intro b u e
    by_cases c : b = a ∧ K.lookup a = none
    · have e' : (if b = a ∧ K.lookup a = none then some T else none) = some u := e
      rw [if_pos c] at e'
      cases e'
      exact ⟨c.1, c.2, rfl⟩
    · have e' : (if b = a ∧ K.lookup a = none then some T else none) = some u := e
      rw [if_neg c] at e'
      cases e'
  have seen : SqL K H a (ns.map V.int) := by
    cases ek : K.lookup a with
    | none => exact .inl (.inr ⟨_, if_pos ⟨rfl, ek⟩⟩)
    | some o =>
      have eo := inK a o ek
      rw [oa] at eo
      cases eo
      refine .inr ⟨_, vs.toArray, _, ek, rfl, rfl, rfl, ?_, by simpa using vi⟩
      rw [List.size_toArray, ia.length]
      exact sz
  have held : HOk P w H s₁.heap := by
    intro b u e
    obtain ⟨rfl, _, rfl⟩ := Hone e
    refine ⟨oa, ?_, vs, _, vi, oa⟩
    rw [List.length_map]
    exact sz
  have bare : ∀ {b : Addr} {o : Obj}, s₁.heap.get? b = some o → H b = none → (hidT s₁.heap H).get? b = some o := fun e n => hidT_get e n
  have free : ∀ {b : Addr} {o : Obj} {es : Array DictEntry} {ep : Nat}, s₁.heap.get? b = some o → o.data = .dict es ep → H b = none := by
    intro b o es ep e d
    cases q : H b with
    | none => rfl
    | some u =>
      obtain ⟨rfl, _, _⟩ := Hone q
      rw [oa] at e
      cases e
      have d' : Data.seq vs.toArray _ = Data.dict es ep := d
      cases d'
  have names : ∀ {b : Addr} {m : Str → Option Value}, s₁.heap.Ns b m → (hidT s₁.heap H).Ns b m := by
    rintro b m ⟨o, es, ep, e, d, r⟩
    exact ⟨o, es, ep, bare e (free e d), d, r⟩
  have kb : K.In (hidT s₁.heap H) := by
    intro b o e
    refine bare (inK b o e) ?_
    cases q : H b with
    | none => rfl
    | some u =>
      obtain ⟨rfl, z, _⟩ := Hone q
      rw [z] at e
      cases e
  have md : Mod K mg (hidT s₁.heap H) := by
    obtain ⟨mc, h1, h2⟩ := nl
    exact ⟨kb, names gl, ⟨mb, names bl, bb⟩, ⟨mc, names h1, h2⟩⟩
  have e0 : Env0 P w K mg (hidT s₁.heap H) callerA [] s₁ H := by
    refine ⟨rfl, md, fun b o e => of_hidT e, Nat.le_of_eq (hidT_size _ _), trivial, fun b hb => ?_, held, .of_eq gn⟩
    exact absurd (show b ∈ ([] : List Addr) from hb) (by simp)
  have want : spD K false [x].length F [.ref a] H (fun v _ => v = .bl true) := by
    refine ⟨rfl, H, [scriptD ns], .bool true, out, Same.refl _, .cons (.lst seen (dps_map _ _ (fun n => .int n) _)) .nil, hF, fun v H2 Hk2 _ _ _ _ r _ => ?_⟩
    cases r
    rfl
  refine codeAny_mono ((G _ kb (names gl)).run callerA [] s₁ H ⟨[.ref a], []⟩ [.ref a] [.ref a] _ rm rfl e0 (bd s₁ (.ref a)) (.cons rfl .nil) want) fun r s' hq => ?_
  cases r with
  | error e => exact hq.elim
  | ok fl =>
    cases fl with
    | next => exact hq.elim
    | brk => exact hq.elim
    | cont => exact hq.elim
    | ret u =>
      obtain ⟨v, H', eos, ebare, un, hok', rv, q⟩ := hq
      have q : v = .bl true := q
      subst q
      obtain rfl : u = Value.bool true := rv
      refine ⟨rfl, OldK.of_keep fun b o e => ?_, eos, ebare⟩
      cases z : H b with
      | none => exact un.keep b o e z (by intro z; exact absurd (show b ∈ ([] : List Addr) from z) (by simp)) (by simp)
      | some u =>
        obtain ⟨rfl, _, rfl⟩ := Hone z
        obtain ⟨e2, _⟩ := hok' b _ (un.frzs b _ _ z)
        rw [oa] at e
        cases e
        exact e2
theorem walkG {l : PySem.W.OpenLaw} {n k : Nat} {q : Program} {loose : List Str} {XP : (Str → Option Value) → Heap → Prop} {YP : World → Heap → Prop} {d : DefRec} {K : Params → PySem.W.Frag} {x : Str} {F : Fun'}
    (hn : l.most = some n) (hn2 : n ≤ sizeLine) (hdf : d.params.defaults = []) (hr : Room k callerA)
    (hY : ∀ (w : World) (h : Heap), YP w h → (K w.params).In h)
    (G : ∀ (w : World) (mg : Str → Option Value) (fa : Addr) (h : Heap), (K w.params).In h → h.Ns mainGlobals mg → mg d.name = some (.ref fa) →
      ∃ fd : FuncData, (∀ (s : Shared) (u : Value), BindsTo s fd ⟨[u], []⟩ [(x, u)]) ∧ ∀ base : Heap, (K w.params).In base → base.Ns mainGlobals mg → FnG l.prog w (K w.params) mg base k fa fd [x] false F)
    (hF : ∀ ns : List Int, ns.length ≤ n → ∃ out, F [scriptD ns] = some (.bool true, out)) :
    PySem.W.WalkO q loose XP YP l.row.toRowW d [] (fun f vs => PySem.call f vs) := by
  refine Att.attach_call hn hdf fun w s₀ s₁ mg mb fa o pm cd doc a vs ns Gr Y ho hd hcd hmg hobj hints hlen hg => ?_
  have kx := hY w _ Y
  obtain ⟨fd, hb, hG⟩ := G w mg fa _ kx Gr.T.g hmg
  obtain ⟨out, e⟩ := hF ns hlen
  exact lawG kx Gr.T.g Gr.T.b Gr.T.builtins Gr.T.nolimit hg hobj hints (Nat.le_trans hlen hn2) hr hG hb e
end DN
namespace DN
open PySem PySem.Spec PyProof.Rows L2
/-! ### what the module's names hold -/
/-- the value u stands for the data d, lastingly -/
def VD (K : PySem.W.Frag) (u : Value) (d : D) : Prop := ∃ v, RelV v u ∧ ∀ H, Dp K H v d
def VDs (K : PySem.W.Frag) (us : List Value) (ds : List D) : Prop := ∃ vs, Vals vs us ∧ ∀ H, DpAll K H vs ds
section
variable {K : PySem.W.Frag}
theorem vd_int {i : Int} {t : Tok} : VD K (.int i t) (.int i) := ⟨.int i, ⟨t, rfl⟩, fun _ => .int i⟩
theorem vd_str {z : Str} {t : Tok} : VD K (.str z t) (.str z) := ⟨.str z, ⟨t, rfl⟩, fun _ => .str z⟩
theorem vds_nil : VDs K [] [] := ⟨[], .nil, fun _ => .nil⟩
theorem vds_cons {u : Value} {d : D} {us : List Value} {ds : List D} (h : VD K u d) (t : VDs K us ds) : VDs K (u :: us) (d :: ds) := by
  obtain ⟨v, r, a⟩ := h
  obtain ⟨vs, rs, b⟩ := t
  exact ⟨v :: vs, .cons r rs, fun H => .cons (a H) (b H)⟩
theorem vd_tup {a : Addr} {od : Option Addr} {its : Array Value} {n : Nat} {sl : Array (Option Value)} {ds : List D} (l : K.lookup a = some ⟨.type "tuple", od, .seq its n, sl⟩) (hz : its.size ≤ sizeLine) (h : VDs K its.toList ds) : VD K (.ref a) (.tuple ds) := by
  obtain ⟨vs, rs, b⟩ := h
  exact ⟨.ref a, rfl, fun H => .tup (.inr ⟨_, its, n, l, rfl, rfl, hz, rs⟩) (b H)⟩
theorem ev_glob {X : Cx} {x : Str} {u : Value} {d : D} {pos : Pos} (V : VD X.K u d) (hm : X.mg x = some u) (hg : Gl X x) (hd : (x == ("__debug__" : Str)) = false := by decide) : EV X (.Name x pos) (fC d) := by
  obtain ⟨v, r, a⟩ := V
  exact PE.imp (pe_glob hg hm r hd) fun σ H Q ⟨γ, Hk, d', γ2, o, e, q⟩ => by
    cases e
    exact q v H Hk (Go.refl o) (a Hk)
/-- a table of the module with text keys -/
def TabK (K : PySem.W.Frag) (d : Addr) : List (Str × D) → Prop
  | [] => True
  | p :: r => (∃ u, PySem.W.nsIn K d p.1 = some (some u) ∧ VD K u p.2) ∧ TabK K d r
theorem tabk_nil {K : PySem.W.Frag} {d : Addr} : TabK K d [] := True.intro
theorem tabk_cons {d : Addr} {k : Str} {x : D} {r : List (Str × D)} {u : Value} (h : PySem.W.nsIn K d k = some (some u)) (v : VD K u x) (t : TabK K d r) : TabK K d ((k, x) :: r) := ⟨⟨u, h, v⟩, t⟩
def tabOf : List (Str × D) → Str → Option D
  | [], _ => none
  | p :: r, z => if p.1 = z then some p.2 else tabOf r z
theorem TabK.get {d : Addr} : ∀ {kvs : List (Str × D)} {z : Str} {x : D}, TabK K d kvs → tabOf kvs z = some x → ∃ u, PySem.W.nsIn K d z = some (some u) ∧ VD K u x
  | [], _, _, _, e => by cases e
  | p :: r, z, x, ⟨h, t⟩, e => by
    unfold tabOf at e
    split at e
    · rename_i c; subst c; cases e; exact h
    · exact TabK.get t e
@[simp] def tabD (kvs : List (Str × D)) : D → Option D
  | .str z => tabOf kvs z
  | _ => none
structure Tab (K : PySem.W.Frag) (w : World) (u : Value) (kvs : List (Str × D)) : Prop where
  h : ∃ d es n, u = .ref d ∧ KDict K w d es n ∧ TabK K d kvs
theorem tab_of {w : World} {d : Addr} {es : Array DictEntry} {n : Nat} {kvs : List (Str × D)} (l : K.lookup d = some ⟨.type "dict", none, .dict es n, #[]⟩) (k : PySem.W.KeysLit w.params es.toList) (lo : (d == sysModules) = false) (t : TabK K d kvs) : Tab K w (.ref d) kvs :=
  ⟨d, es, n, rfl, ⟨l, k, lo⟩, t⟩
end
section
variable {W : WX} {X : Cx} {e : Expr} {f g : Fe} {x : Str} {kvs : List (Str × D)} {u : Value} {p pos : Pos}
theorem ix_kd {d : Addr} {es : Array DictEntry} {n : Nat} (T : KDict X.K X.w d es n) : IxR X (fun x y H Q => ∃ (z : Str) (u0 : Value) (v0 : V), x = .ref d ∧ y = .str z ∧ PySem.W.nsIn X.K d z = some (some u0) ∧ RelV v0 u0 ∧ Q v0 H) := by
  intro value slice pins s σ H x y v u Q I rx ry h hs
  have h' := h
  obtain ⟨z, u0, v0, rfl, rfl, en, r, q⟩ := h
  cases (show v = Value.ref d from rx)
  exact tail_any (ops := [.ref d, u]) (kd_type T I) PySem.slot_dict_getitem.lookup (op_item_kd T pins s σ H (.ref d) (.str z) (.ref d) u Q I rfl ry h') hs
theorem ev_tab (T : Tab X.K X.w u kvs) (hm : X.mg x = some u) (hg : Gl X x) (he : EV X e f) (hs : PlainIx e) (hd : (x == ("__debug__" : Str)) = false := by decide) : EV X (.Subscript (.Name x p) e pos) (f1 (tabD kvs) f) := by
  obtain ⟨d, es, n, rfl, T1, T2⟩ := T.h
  refine PE.imp (pe_ix (ix_kd T1) (pe_glob (v := .ref d) hg hm rfl hd) he hs) fun σ H Q ⟨γ, Hk, dd, γ2, ok, ee, q⟩ => ?_
  unfold f1 at ee
  split at ee
  · rename_i dx γ1 ef
    split at ee
    · rename_i z eo
      cases ee
      refine ⟨γ, Hk, dx, _, ok, ef, fun v2 H2 Hk2 g2 r2 => ?_⟩
      unfold tabD at eo
      split at eo
      · cases r2
        obtain ⟨u0, en, v0, rv, hv⟩ := T2.get eo
        exact ⟨_, u0, v0, rfl, rfl, en, rv, q v0 H2 Hk2 g2 (hv Hk2)⟩
      · cases eo
    · cases ee
  · cases ee
/-! ### texts: join, count, turned round -/
def strsD : List D → Option (List Str)
  | [] => some []
  | .str z :: r => (strsD r).map (z :: ·)
  | _ => none
theorem strsD_dps {K : PySem.W.Frag} {H : Hp} : ∀ {vs : List V} {ds : List D} {ys : List Str}, DpAll K H vs ds → strsD ds = some ys → vs = ys.map V.str
  | _, _, ys, .nil, e => by cases e; rfl
  | _, _, ys, .cons h t, e => by
    unfold strsD at e
    split at e
    · rename_i e2; cases e2
    · rename_i e2; cases e2
      obtain ⟨zs, e3, e4⟩ := Option.map_eq_some_iff.mp e
      subst e4
      cases h
      rw [strsD_dps t e3]; rfl
    · cases e
@[simp] def joinL (a : Str) (ds : List D) : Option D := match strsD ds with
  | some ys => if okN ((ys.map (·.length)).sum + ys.length * a.length) then some (.str (Txt.join a ys)) else none
  | none => none
@[simp] def joinD (a : Str) : D → Option D
  | .list ds => joinL a ds
  | .tuple ds => joinL a ds
  | _ => none
theorem joinL_eq {a : Str} {ds : List D} {z : D} (e : joinL a ds = some z) : ∃ ys, strsD ds = some ys ∧ (ys.map (·.length)).sum + ys.length * a.length ≤ 16777216 ∧ z = .str (Txt.join a ys) := by
  unfold joinL at e
  split at e
  · split at e <;> cases e
    rename_i ys es c
    exact ⟨ys, es, Nat.le_trans (of_decide_eq_true c) (by decide), rfl⟩
  · cases e
theorem ev_join {a : Str} {j p0 apos} (he : EV X e f) (hs : starEach [e] X.env = [(false, eval e X.env)] := by rfl) (hbase : attributeBase (.Constant (.str a) j p0) "join" X.env (eval (.Constant (.str a) j p0) X.env) = eval (.Constant (.str a) j p0) X.env := by rfl) (hline : (apos.endLine == pos.line) = true := by rfl) :
    EV X (.Call (.Attribute (.Constant (.str a) j p0) "join" apos) [e] [] pos) (f1 (joinD a) f) := PE.imp (pe_join pe_str he hs hbase hline) fun σ H Q ⟨γ, Hk, dd, γ2, ok, ee, q⟩ => by
  unfold f1 at ee
  split at ee
  · rename_i dx γ1 ef
    split at ee
    · rename_i z eo
      cases ee
      refine ⟨⟨a, rfl⟩, γ, Hk, dx, _, ok, ef, fun v2 H2 Hk2 g2 r2 => ?_⟩
      unfold joinD at eo
      split at eo
      · obtain ⟨ys, e1, e2, rfl⟩ := joinL_eq eo
        cases r2 with
        | lst h t =>
          cases strsD_dps t e1
          exact ⟨a, _, ys, rfl, rfl, .inl (sql_mono g2.ok.sub h), e2, q _ H2 Hk2 g2 (.str _)⟩
      · obtain ⟨ys, e1, e2, rfl⟩ := joinL_eq eo
        cases r2 with
        | tup h t =>
          cases strsD_dps t e1
          exact ⟨a, _, ys, rfl, rfl, .inr (sqt_mono g2.ok.sub h), e2, q _ H2 Hk2 g2 (.str _)⟩
      · cases eo
    · cases ee
  · cases ee
@[simp] def countD : D → D → Option D
  | .str a, .str b => some (.int (Txt.count a b))
  | _, _ => none
theorem ev_count {o : Expr} {apos} (ho : EV X o f) (he : EV X e g) (hs : starEach [e] X.env = [(false, eval e X.env)] := by rfl) (hbase : attributeBase o "count" X.env (eval o X.env) = eval o X.env := by rfl) (hline : (apos.endLine == pos.line) = true := by rfl) :
    EV X (.Call (.Attribute o "count" apos) [e] [] pos) (f2 countD f g) := PE.imp (pe_m1 F.slot_str_count F.type_str_count mt_count ho he hs hbase hline) fun σ H Q ⟨γ, Hk, dd, γ2, ok, ee, q⟩ => by
  unfold f2 at ee
  split at ee
  · rename_i dx γ1 ef
    split at ee
    · rename_i dy γ2' eg
      split at ee
      · rename_i z eo
        cases ee
        unfold countD at eo
        split at eo
        · cases eo
          refine ⟨γ, Hk, _, γ1, ok, ef, fun v1 H1 Hk1 g1 r1 => ?_⟩
          cases r1
          refine ⟨⟨_, rfl⟩, γ1, Hk1, _, _, g1.ok, eg, fun v2 H2 Hk2 g2 r2 => ?_⟩
          cases r2
          exact ⟨_, _, rfl, rfl, q _ H2 Hk2 (g1.trans g2) (.int _)⟩
        · cases eo
      · cases ee
    · cases ee
  · cases ee
def revS (z : Str) : Str := ⟨z.cps.toList.reverse.toArray⟩
@[simp] def revD : D → Option D
  | .str z => if okN z.length then some (.str (revS z)) else none
  | _ => none
theorem rev_pick (z : Str) : (⟨((Builtin.Str.strSliceIndices none none (-1) z.length).filterMap (z.cps[·]?)).toArray⟩ : Str) = revS z := by
  have e1 : Builtin.Str.strSliceIndices none none (-1) z.length = sliceRange ((z.length : Int) - 1) (-1) (-1) := by
    simp only [Builtin.Str.strSliceIndices]
    rfl
  have e2 : sliceRange ((z.length : Int) - 1) (-1) (-1) = (List.range z.length).reverse := by
    rw [PySem.W.krv_sliceRange, PySem.W.krv_range]
  have e3 : (List.range z.length).filterMap (z.cps[·]?) = z.cps.toList := PySem.W.krv_all z.cps
  rw [e1, e2, List.filterMap_reverse, e3]
  rfl
theorem ev_rev {k : Nat} {p1 p2 p3 : Pos} (he : EV X e f) : EV X (.Subscript e (.Slice none none (some (.UnaryOp .USub (.Constant (.int 1) k p1) p2)) p3) pos) (f1 revD f) := by
  refine ⟨fun pins s σ H Q I h => ?_⟩
  obtain ⟨γ, Hk, dd, γ2, ok, ee, q⟩ := h
  unfold f1 at ee
  split at ee
  · rename_i dx γ1 ef
    split at ee
    · rename_i z eo
      cases ee
      unfold revD at eo
      split at eo
      · rename_i str
        split at eo <;> cases eo
        rename_i c
        refine Subscript_ (thn (he.run pins s σ H (fun v2 H2 => v2 = .str str ∧ ∃ Hk2, Go X.K σ H Hk γ σ H2 Hk2 γ2) I ⟨γ, Hk, _, _, ok, ef, fun v2 H2 Hk2 g2 r2 => ⟨by cases r2; rfl, Hk2, g2⟩⟩) fun v s1 ⟨x, H1, I1, r1, ex, Hk2, g2⟩ => ?_)
        subst ex
        obtain ⟨t, rfl⟩ := r1
        have hst : PO X (some (.UnaryOp .USub (.Constant (.int 1) k p1) p2)) (tPart (tUn (rU fun i => .int (-i)) (tC (.int 1)))) := po_some (pe_un un_neg pe_int)
        refine wpAny_Slice (thn (po_none.run pins s1 σ H1 (fun o H2 => o = none ∧ H2 = H1) I1 ⟨rfl, rfl⟩) fun vl s2 ⟨l, H2, I2, pl, el, e2⟩ => ?_)
        subst el e2
        refine thn (po_none.run pins s2 σ H2 (fun o H3 => o = none ∧ H3 = H2) I2 ⟨rfl, rfl⟩) fun vu s3 ⟨u, H3, I3, pu, eu, e3⟩ => ?_
        subst eu e3
        refine thn (hst.run pins s3 σ H3 (fun o H4 => o = some (-1) ∧ H4 = H3) I3 ⟨1, rfl, -1, rfl, rfl, rfl⟩) fun vs s4 ⟨o, H4, I4, ps, eo, e4⟩ => ?_
        subst eo e4
        have I5 : Inv X pins σ H4 { s4 with heap := s4.heap.push { cls := .type "slice", data := .fields #[vl, vu, vs] } } := I4.kept (t' := s4.toks) fun b ob q => Heap.get?_push_of_some _ q
        show wpAny (model X.prog X.w) X.A (subscriptTail e (.Slice none none (some (.UnaryOp .USub (.Constant (.int 1) k p1) p2)) p3) (.str str t) (.ref s4.heap.objs.size)) (EP X pins σ Q) X.xe { s4 with heap := s4.heap.push { cls := .type "slice", data := .fields #[vl, vu, vs] } }
        refine tail_any (ops := [.ref s4.heap.objs.size, .str str t]) (typeIs_str _ _ _) F.slot_str_getitem.lookup ?_ (by with_unfolding_all rfl)
        obtain ⟨l, rfl, hl1⟩ := IsPart.raw pl
        obtain ⟨u, rfl, hu1⟩ := IsPart.raw pu
        obtain ⟨st, rfl, hs1⟩ := IsPart.raw ps
        refine wpAny_getItem_str_slice (l := l) (u := u) (st := st) ⟨_, Heap.get?_push_size _ rfl, rfl, rfl⟩ (by rw [hs1]; rfl) ?_
        have ep : slicePicked str l u st = Builtin.Str.strSliceIndices none none (-1) str.length := by
          unfold slicePicked
          rw [hl1, hu1, hs1]
          rfl
        unfold sliceMade
        rw [hs1, ep, rev_pick]
        have hlen : (revS str).length ≤ sizeLine := by
          have : (revS str).length = str.length := by simp [revS, Str.length]
          rw [this]
          exact okN_line c
        exact ⟨hlen, .str _, H4, I5.tok _, ⟨_, rfl⟩, q _ H4 Hk2 g2 (.str _)⟩
      · cases eo
    · cases ee
  · cases ee
@[simp] def isBd : D → D → Option D
  | .bool a, .bool b => some (.bool (decide (a = b)))
  | _, _ => none
@[simp] def notBd : D → D → Option D
  | .bool a, .bool b => some (.bool (!decide (a = b)))
  | _, _ => none
theorem o_isB {K : PySem.W.Frag} : Op2 K rIsB isBd := by
  intro H Hk x y dx dy dz Q s vx vy e q
  unfold isBd at e
  split at e <;> cases e
  exact ⟨_, _, vx.bl, vy.bl, q _ H Hk (Grow.refl s) (.bl _)⟩
theorem o_notB {K : PySem.W.Frag} : Op2 K rNotB notBd := by
  intro H Hk x y dx dy dz Q s vx vy e q
  unfold notBd at e
  split at e <;> cases e
  exact ⟨_, _, vx.bl, vy.bl, q _ H Hk (Grow.refl s) (.bl _)⟩
/-! ### {"a": "b", ..}.get(k, x) -/
def prK (kvs : List (Str × Str)) : List (TE × TE) := kvs.map fun p => (tC (.str p.1), tC (.str p.2))
def kvK (kvs : List (Str × Str)) : List (Key × V) := kvs.map fun p => (Sum.inr p.1, V.str p.2)
theorem tPairs_prK {σ : L2.St} {H : Hp} : ∀ {kvs : List (Str × Str)} {Q : List (V × V) → Hp → Prop}, Q ((kvK kvs).map fun kv => (kV kv.1, kv.2)) H → tPairs (prK kvs) σ H Q
  | [], _, q => q
  | p :: r, Q, q => by
    show tPairs (prK r) σ H fun ps H3 => Q ((V.str p.1, V.str p.2) :: ps) H3
    exact tPairs_prK q
/-- the last of the pairs with the key -/
def lastOf (kvs : List (Str × Str)) (z : Str) : Option Str := tabOf (kvs.reverse.map fun p => (p.1, PyData.str p.2)) z |>.bind fun | .str y => some y | _ => none
@[simp] def getD2 (get : Str → Option Str) : D → D → Option D
  | .str z, y => match get z with
    | some x => some (.str x)
    | none => some y
  | _, _ => none
theorem ev_dget2 {keys : List (Option Expr)} {values : List Expr} {kvs : List (Str × Str)} {get : Str → Option Str} {apos dpos} {e2 : Expr} (hu : X.A.units + 64 < cLine) (h : PPs X dpos keys values (prK kvs)) (hall : keys.all (·.isSome) = true) (hl : keys.length = values.length) (h0 : keys ≠ []) (h15 : keys.length ≤ 15) (hk : kvs.length ≤ 15)
    (hg : ∀ z, valV (mergeK [] (kvK kvs)) (Sum.inr z) = (get z).map V.str) (he : EV X e f) (hf : EV X e2 g) (m : M2 X (.Dict keys values dpos) "get" apos e e2 pos) :
    EV X (.Call (.Attribute (.Dict keys values dpos) "get" apos) [e, e2] [] pos) (f2 (getD2 get) f g) := PE.imp (pe_dget2 (by omega) (pe_disp h hall hl h0 h15) he hf m) fun σ H Q ⟨γ, Hk, dd, γ2, ok, ee, q⟩ => by
  unfold f2 at ee
  split at ee
  · rename_i dx γ1 ef
    split at ee
    · rename_i dy γ2' eg
      split at ee
      · rename_i z eo
        cases ee
        obtain ⟨z0, rfl⟩ : ∃ z0, dx = .str z0 := by
          cases dx with
          | str z0 => exact ⟨z0, rfl⟩
          | _ => cases eo
        · intro p hp
          refine tPairs_prK ⟨upd_same, kvK kvs, rfl, by simpa [kvK] using hk, ?_⟩
          have gr : Grow H Hk (upd (upd H p (.dK [])) p (.dK (mergeK [] (kvK kvs)))) Hk := by
            have e1 : upd (upd H p (.dK [])) p (.dK (mergeK [] (kvK kvs))) = upd H p (.dK (mergeK [] (kvK kvs))) := by
              funext a
              by_cases ha : a = p
              · subst ha; rw [upd_same, upd_same]
              · rw [upd_ne ha, upd_ne ha, upd_ne ha]
            rw [e1]
            exact Grow.newH ok.sub hp
          have ok1 := ok.grow gr
          refine ⟨p, rfl, .inl ⟨_, .inl upd_same⟩, γ, Hk, _, γ1, ok1, ef, fun v1 H1 Hk1 g1 r1 => ?_⟩
          cases r1
          refine ⟨γ1, Hk1, _, _, g1.ok, eg, fun v2 H2 Hk2 g2 r2 => ?_⟩
          have e0 : upd (upd H p (.dK [])) p (.dK (mergeK [] (kvK kvs))) = upd H p (.dK (mergeK [] (kvK kvs))) := upd_upd
          have no1 : ¬ OwnA X.K σ (upd (upd H p (.dK [])) p (.dK (mergeK [] (kvK kvs)))) Hk γ p := by rw [e0]; exact ok.noNew hp
          have h1 : H1 p = some (.dK (mergeK [] (kvK kvs))) := g1.kp _ _ upd_same no1
          have h2 : H2 p = some (.dK (mergeK [] (kvK kvs))) := g2.kp _ _ h1 (g1.noA no1 upd_same)
          refine ⟨valV (mergeK [] (kvK kvs)) (Sum.inr z0), DGet.k (k := Sum.inr z0) h2, ?_⟩
          rw [hg]
          have gg := ((ok.go gr).trans g1).trans g2
          cases ex : get z0 with
          | some x0 =>
            simp only [getD2, ex] at eo
            cases eo
            exact q _ H2 Hk2 gg (.str _)
          | none =>
            simp only [getD2, ex] at eo
            cases eo
            exact q _ H2 Hk2 gg r2
      · cases ee
    · cases ee
  · cases ee
end
/-! ### a dict kept in a local name -/
section
variable {K : PySem.W.Frag} {σ : L2.St} {H Hk : Hp} {γ : En} {i : Nat}
theorem Ok.setTab {v : V} {t : Tabs} (o : Ok K σ H Hk γ) (r : Tb K Hk v t) (np : NoPin γ i) : Go K σ H Hk γ (σ.set i (some v)) H Hk (γ.set i (some (.tab t))) :=
  o.setAny np (fun _ _ => nofun) (fun _ => nofun) (fun t' e => by cases e; exact ⟨v, rfl, r⟩)
/-- a new dict, filled when all its values are there -/
theorem Go.fill {H2 Hk2 : Hp} {γ2 : En} {p : Addr} (k : Ok K σ H Hk γ) (hp : H p = none) (g : Go K σ (upd H p (.dK [])) Hk γ σ H2 Hk2 γ2) :
    H2 p = some (.dK []) ∧ Hk2 p = none ∧ ∀ kvs : List (Key × V), Go K σ H Hk γ σ (upd H2 p (.dK kvs)) (upd Hk2 p (.dK kvs)) γ2 := by
  have no0 : ¬ OwnA K σ H Hk γ p := fun z => z.noN hp
  have no1 : ¬ OwnA K σ (upd H p (.dK [])) Hk γ p := k.noNew hp
  have h2 : H2 p = some (.dK []) := g.kp _ _ upd_same no1
  have hk2 : Hk2 p = none := by
    cases e : Hk2 p with
    | none => rfl
    | some u =>
      rcases g.nw p u e (k.sub.free hp) with z | z
      · rw [upd_same] at z; cases z
      · exact absurd z no1
  refine ⟨h2, hk2, fun kvs => ?_⟩
  have sm : Same Hk2 (upd Hk2 p (.dK kvs)) := same_upd hk2
  have no2 : ¬ OwnA K σ H2 Hk2 γ2 p := g.noA no1 upd_same
  have up : ∀ {i b y v fp}, gt γ2 i = some (.ow b y) → σ[i]? = some (some v) → OwnV K H2 Hk2 v y fp → OwnV K (upd H2 p (.dK kvs)) (upd Hk2 p (.dK kvs)) v y fp := fun {i b y v fp} e ev r => by
    have np : p ∉ fp := fun m => no2 ⟨i, b, y, v, fp, e, ev, r, m⟩
    exact r.to sm (fun a m u e => by rw [upd_ne (fun z => np (by rw [← z]; exact m))]; exact e) fun a m => by
      rw [upd_ne (fun z => np (by rw [← z]; exact m))]; exact (r.at a m).2
  have dn : ∀ {i b y v fp}, gt γ2 i = some (.ow b y) → σ[i]? = some (some v) → OwnV K (upd H2 p (.dK kvs)) (upd Hk2 p (.dK kvs)) v y fp → OwnV K H2 Hk2 v y fp := fun {i b y v fp} e ev r => by
    obtain ⟨v', fp', e1, r1⟩ := g.ok.ow i b y e
    rw [ev] at e1; cases e1
    rw [r.det (up e ev r1)]
    exact r1
  refine ⟨⟨g.ok.len, fun a u e => ?_, fun i d e => ?_, fun i b y e => ?_, g.ok.pin, fun i j b c y z v u fp fq ei ej vi vj ri rj a mi mj => g.ok.sep i j b c y z v u fp fq ei ej vi vj (dn ei vi ri) (dn ej vj rj) a mi mj, fun i t e => ?_⟩, g.kk.trans sm, fun a u e n => ?_, fun a u e n => ?_, fun a e => ?_, g.pn⟩
  · by_cases ha : a = p
    · subst ha; rw [upd_same] at e ⊢; exact e
    · rw [upd_ne ha] at e ⊢; exact g.ok.sub _ _ e
  · obtain ⟨v, e1, r⟩ := g.ok.dat i d e
    exact ⟨v, e1, dp_mono sm r⟩
  · obtain ⟨v, fp, e1, r⟩ := g.ok.ow i b y e
    exact ⟨v, fp, e1, up e e1 r⟩
  · obtain ⟨v, e1, r⟩ := g.ok.tab i t e
    exact ⟨v, e1, r.mono sm⟩
  · by_cases ha : a = p
    · subst ha; exact .inl hp
    · rw [upd_ne ha] at e
      rcases g.nw a u e n with z | z
      · rw [upd_ne ha] at z; exact .inl z
      · exact .inr ((k.offA no0).mp z)
  · have ha : a ≠ p := ne_of_none e hp
    rw [upd_ne ha]
    exact g.kp a u (by rw [upd_ne ha]; exact e) fun z => n ((k.offA no0).mp z)
  · obtain ⟨i, b, y, v, fp, e1, e2, r, m⟩ := e
    rcases g.sh a ⟨i, b, y, v, fp, e1, e2, dn e1 e2 r, m⟩ with z | z
    · exact .inl ((k.offA no0).mp z)
    · by_cases ha : a = p
      · subst ha; exact .inr hp
      · rw [upd_ne ha] at z; exact .inr z
end
def pairsF : List (Str × Fe) → En → Option (List (Str × D) × En)
  | [], γ => some ([], γ)
  | p :: r, γ => match p.2 γ with
    | some (d, γ1) => match pairsF r γ1 with
      | some (ds, γ2) => some ((p.1, d) :: ds, γ2)
      | none => none
    | none => none
@[simp] def sTab (i : Nat) (fs : List (Str × Fe)) : Fs := fun γ => match pairsF fs γ with
  | some (kvs, γ1) => if decide (kvs.length ≤ 15) && !pinB γ1 i then some (.nx (γ1.set i (some (.tab (.txt kvs))))) else none
  | none => none
def PR (K : PySem.W.Frag) (Hk : Hp) : List (Key × V) → List (Str × D) → Prop
  | [], [] => True
  | p :: r, q :: s => p.1 = Sum.inr q.1 ∧ Dp K Hk p.2 q.2 ∧ PR K Hk r s
  | _, _ => False
section
variable {K : PySem.W.Frag} {σ : L2.St}
theorem PR.mono {H H' : Hp} (s : Same H H') : ∀ {a : List (Key × V)} {b : List (Str × D)}, PR K H a b → PR K H' a b
  | [], [], _ => True.intro
  | _ :: _, _ :: _, ⟨h, d, t⟩ => ⟨h, dp_mono s d, PR.mono s t⟩
theorem PR.len {H : Hp} : ∀ {a : List (Key × V)} {b : List (Str × D)}, PR K H a b → a.length = b.length
  | [], [], _ => rfl
  | _ :: _, _ :: _, ⟨_, _, t⟩ => congrArg (· + 1) (PR.len t)
theorem PR.get {H : Hp} (z : Str) : ∀ {a : List (Key × V)} {b : List (Str × D)} {acc : List (Key × V)} {o : Option D}, PR K H a b → (∀ x, o = some x → ∃ u, valV acc (Sum.inr z) = some u ∧ Dp K H u x) →
    ∀ x, tabM b z o = some x → ∃ u, valV (mergeK acc a) (Sum.inr z) = some u ∧ Dp K H u x
  | [], [], acc, o, _, h, x, e => h x e
  | p :: r, q :: s, acc, o, ⟨hk, d, t⟩, h, x, e => by
    refine PR.get z (acc := putK acc p.1 p.2) (o := if q.1 = z then some q.2 else o) t (fun y ey => ?_) x e
    rw [valV_put, hk]
    by_cases c : q.1 = z
    · rw [if_pos c] at ey
      cases ey
      exact ⟨p.2, by rw [if_pos (by rw [c])], d⟩
    · rw [if_neg c] at ey
      obtain ⟨u, e1, r1⟩ := h y ey
      exact ⟨u, by rw [if_neg (fun w => c (by cases w; rfl))]; exact e1, r1⟩
def trsF (K : PySem.W.Frag) (fs : List (Str × Fe)) : List (TE × TE) := fs.map fun p => (tC (.str p.1), tI K p.2)
theorem tPairs_F : ∀ {fs : List (Str × Fe)} {γ γ2 : En} {H Hk : Hp} {kvs : List (Str × D)} {Q : List (V × V) → Hp → Prop}, Ok K σ H Hk γ → pairsF fs γ = some (kvs, γ2) →
    (∀ (ks : List (Key × V)) (H2 Hk2 : Hp), Go K σ H Hk γ σ H2 Hk2 γ2 → PR K Hk2 ks kvs → Q (ks.map fun kv => (kV kv.1, kv.2)) H2) → tPairs (trsF K fs) σ H Q
  | [], γ, γ2, H, Hk, kvs, Q, o, e, q => by
    cases e
    exact q [] H Hk (Go.refl o) True.intro
  | p :: r, γ, γ2, H, Hk, kvs, Q, o, e, q => by
    unfold pairsF at e
    split at e
    · rename_i d γ1 ef
      split at e
      · rename_i ds γ2' er
        cases e
        refine ⟨γ, Hk, d, γ1, o, ef, fun v H1 Hk1 g1 r1 => ?_⟩
        refine tPairs_F (γ := γ1) g1.ok er fun ks H2 Hk2 g2 pr => ?_
        exact q ((Sum.inr p.1, v) :: ks) H2 Hk2 (g1.trans g2) ⟨rfl, dp_mono g2.kk r1, pr⟩
      · cases e
    · cases e
end
section
variable {W : WX} {X : Cx} {e : Expr} {f : Fe} {pos p : Pos}
theorem es_tab (i : Nat) {x : Str} {p' dpos : Pos} {keys : List (Option Expr)} {values : List Expr} {fs : List (Str × Fe)} (hN : X.N.Nodup) (hi : X.N[i]? = some x) (hx : Loc X.env.scope x) (h : PPs X dpos keys values (trsF X.K fs)) (hall : keys.all (·.isSome) = true) (hl : keys.length = values.length) (h0 : keys ≠ []) (h15 : keys.length ≤ 15)
    (hs : swapsWith (.Dict keys values dpos) (some (.Name x p')) pos.line X.env = pure false := by rfl) (hf : X.fn x = true ∨ X.env.scope.names.lookup x = some .local := by first | exact .inl rfl | exact .inr rfl | assumption) :
    ES X W (.Assign [.Name x p'] (.Dict keys values dpos) pos) (sTab i fs) := PS.imp (ps_set hN hi hx (pe_disp h hall hl h0 h15) hs hf) fun Z σ H ⟨γ, Hk, o, k, ee, q⟩ => by
  unfold sTab at ee
  split at ee
  · rename_i kvs γ1 ef
    split at ee <;> cases ee
    rename_i c
    rw [Bool.and_eq_true] at c
    intro p hp
    have gr : Grow H Hk (upd H p (.dK [])) Hk := Grow.newH k.sub hp
    refine tPairs_F (k.grow gr) ef fun ks H2 Hk2 g pr => ?_
    obtain ⟨h2, hk2, fill⟩ := Go.fill k hp g
    have gg := fill (mergeK [] ks)
    refine ⟨h2, ks, rfl, by rw [pr.len]; exact of_decide_eq_true c.1, ?_⟩
    have t : Tb X.K (upd Hk2 p (.dK (mergeK [] ks))) (.ref p) (.txt kvs) := ⟨p, mergeK [] ks, rfl, upd_same, fun z x ez => PR.get z (pr.mono (same_upd hk2)) (fun y ey => by cases ey) x ez⟩
    exact q _ _ _ (gg.trans (gg.ok.setTab t (noPin_of gg.ok (by simpa using c.2))))
  · cases ee
@[simp] def fTabL (i : Nat) (f : Fe) : Fe := fun γ => match gt γ i with
  | some (.tab _) => match f γ with
    | some (.str z, γ1) => match gt γ1 i with
      | some (.tab (.txt kvs)) => match tabM kvs z none with
        | some x => some (x, γ1)
        | none => none
      | _ => none
    | _ => none
  | _ => none
theorem ev_tabL {o : Expr} {i : Nat} (hu : X.A.units + 64 < cLine) (ho : PE X o (tVar i)) (he : EV X e f) (hs : NoSl e) : EV X (.Subscript o e pos) (fTabL i f) := PE.imp (pe_dget (by omega) ho he hs) fun σ H Q ⟨γ, Hk, d, γ2, k, ee, q⟩ => by
  unfold fTabL at ee
  split at ee
  · rename_i kv0 e0
    split at ee
    · rename_i z γ1 ef
      split at ee
      · rename_i kvs ei
        split at ee <;> cases ee
        rename_i x ex
        obtain ⟨v0, ev0, _⟩ := k.tab i kv0 e0
        refine ⟨v0, ev0, γ, Hk, _, γ2, k, ef, fun v H1 Hk1 g1 r1 => ?_⟩
        obtain ⟨v1, ev1, p, kvs', rfl, hp, t⟩ := g1.ok.tab i (.txt kvs) ei
        rw [ev0] at ev1
        cases ev1
        obtain ⟨u, eu, ru⟩ := t z d ex
        cases r1
        exact ⟨p, u, rfl, .inl ⟨kvs', Sum.inr z, .inl (g1.ok.sub _ _ hp), rfl, eu.symm⟩, q u H1 Hk1 g1 ru⟩
      · cases ee
    · cases ee
  · cases ee
/-! ### sorted of whole numbers -/
def insI (x : Int) : List Int → List Int
  | [] => [x]
  | y :: r => if x ≤ y then x :: y :: r else y :: insI x r
def sortI : List Int → List Int
  | [] => []
  | x :: r => insI x (sortI r)
theorem insI_perm (x : Int) : ∀ l : List Int, (insI x l).Perm (x :: l)
  | [] => .refl _
  | y :: r => by
    unfold insI
    split
    · exact .refl _
    · exact ((insI_perm x r).cons y).trans (.swap x y r)
theorem sortI_perm : ∀ l : List Int, (sortI l).Perm l
  | [] => .refl _
  | x :: r => (insI_perm x _).trans ((sortI_perm r).cons x)
theorem insI_sorted (x : Int) : ∀ l : List Int, l.Pairwise (· ≤ ·) → (insI x l).Pairwise (· ≤ ·)
  | [], _ => by simp [insI]
  | y :: r, h => by
    rw [List.pairwise_cons] at h
    unfold insI
    split
    · rename_i c
      rw [List.pairwise_cons]
      refine ⟨fun z hz => ?_, List.pairwise_cons.mpr h⟩
      rcases List.mem_cons.mp hz with rfl | hz
      · exact c
      · exact Int.le_trans c (h.1 z hz)
    · rename_i c
      rw [List.pairwise_cons]
      refine ⟨fun z hz => ?_, insI_sorted x r h.2⟩
      rcases List.mem_cons.mp ((insI_perm x r).mem_iff.mp hz) with rfl | hz
      · omega
      · exact h.1 z hz
theorem sortI_sorted : ∀ l : List Int, (sortI l).Pairwise (· ≤ ·)
  | [] => .nil
  | x :: r => insI_sorted x _ (sortI_sorted r)
theorem sorted_eq : ∀ {a b : List Int}, a.Perm b → a.Pairwise (· ≤ ·) → b.Pairwise (· ≤ ·) → a = b
  | [], b, h, _, _ => (List.Perm.eq_nil h.symm).symm
  | x :: a, [], h, _, _ => List.Perm.eq_nil h
  | x :: a, y :: b, h, ha, hb => by
    rw [List.pairwise_cons] at ha hb
    have h1 : x ≤ y := by
      rcases List.mem_cons.mp (h.mem_iff.mpr List.mem_cons_self) with e | m
      · omega
      · exact ha.1 y m
    have h2 : y ≤ x := by
      rcases List.mem_cons.mp (h.mem_iff.mp List.mem_cons_self) with e | m
      · omega
      · exact hb.1 x m
    obtain rfl : x = y := by omega
    rw [sorted_eq h.cons_inv ha.2 hb.2]
def intsD : List D → Option (List Int)
  | [] => some []
  | .int i :: r => (intsD r).map (i :: ·)
  | _ => none
theorem intsD_dps {K : PySem.W.Frag} {H : Hp} : ∀ {vs : List V} {ds : List D} {ns : List Int}, DpAll K H vs ds → intsD ds = some ns → vs = ns.map V.int
  | _, _, ys, .nil, e => by cases e; rfl
  | _, _, ys, .cons h t, e => by
    unfold intsD at e
    split at e
    · rename_i e2; cases e2
    · rename_i e2; cases e2
      obtain ⟨zs, e3, e4⟩ := Option.map_eq_some_iff.mp e
      subst e4
      cases h
      rw [intsD_dps t e3]; rfl
    · cases e
theorem intsD_map : ∀ ns : List Int, intsD (ns.map .int) = some ns
  | [] => rfl
  | n :: r => by
    show (intsD (r.map .int)).map (n :: ·) = _
    rw [intsD_map r]; rfl
@[simp] def lSort (f : Fe) : Fa := fun γ => match f γ with
  | some (.list ds, γ1) => match intsD ds with
    | some ns => some ((sortI ns).map .int, γ1)
    | none => none
  | _ => none
theorem el_sorted {a : Expr} (hm : X.mg "sorted" = none) (hg : Gl X "sorted") (ha : EV X a f) (he : starEach [a] X.env = (false, eval a X.env) :: starEach [] X.env := by rfl) (hpl : (backTo pos (starEach [] X.env)).any (·.1) = false := by rfl) :
    EL X (.Call (.Name "sorted" p) [a] [] pos) (lSort f) := PE.imp (pe_callB cr_sortedI hg hm (by decide +kernel) (pa_cons ha pa_nil he) (he := he) (hpl := hpl)) fun σ H Q ⟨γ, Hk, d, γ2, o, ee, q⟩ => by
  unfold lSort at ee
  split at ee
  · rename_i ds γ1 ef
    split at ee <;> cases ee
    rename_i ns en
    refine ⟨γ, Hk, _, γ2, o, ef, fun v H1 Hk1 g1 r1 => ?_⟩
    cases r1 with
    | lst h t =>
      cases intsD_dps t en
      refine ⟨_, ns, rfl, sql_mono g1.ok.sub h, fun ns' p hp hs hn => ?_⟩
      cases sorted_eq (hp.trans (sortI_perm ns).symm) hs (sortI_sorted ns)
      exact q p _ H1 Hk1 g1 hn (dps_map (K := X.K) V.int PyData.int (fun i => .int i) _)
  · cases ee
end
end DN
namespace DN
open PySem PySem.Spec PyProof.Rows L2
/-! ### a text in a text; max, min of two ints; str of an int -/
def inS (a b : Str) : Bool := !(Builtin.Str.occurrences b a 0 b.length 1).isEmpty
@[simp] def inSD : D → D → Option D
  | .str a, .str b => some (.bool (inS a b))
  | _, _ => none
@[simp] def notInSD : D → D → Option D
  | .str a, .str b => some (.bool (!inS a b))
  | _, _ => none
section
variable {K : PySem.W.Frag}
theorem o_inS : Op2 K (fun x y H Q => ∃ i j, x = .str i ∧ y = .str j ∧ Q (.bl (!(Builtin.Str.occurrences j i 0 j.length 1).isEmpty)) H) inSD := by
  intro H Hk x y dx dy dz Q s vx vy e q
  unfold inSD at e
  split at e <;> cases e
  exact ⟨_, _, vx.str, vy.str, q _ H Hk (Grow.refl s) (.bl _)⟩
theorem o_notInS : Op2 K (fun x y H Q => ∃ i j, x = .str i ∧ y = .str j ∧ Q (.bl (!(!(Builtin.Str.occurrences j i 0 j.length 1).isEmpty))) H) notInSD := by
  intro H Hk x y dx dy dz Q s vx vy e q
  unfold notInSD at e
  split at e <;> cases e
  exact ⟨_, _, vx.str, vy.str, q _ H Hk (Grow.refl s) (.bl _)⟩
@[simp] def maxD : D → D → Option D
  | .int i, .int j => some (.int (if j > i then j else i))
  | _, _ => none
@[simp] def minD : D → D → Option D
  | .int i, .int j => some (.int (if j < i then j else i))
  | _, _ => none
theorem o_max : Op2 K (fun x y H Q => (fun xs H Q => ∃ i j, xs = [V.int i, V.int j] ∧ Q (.int (if j > i then j else i)) H) [x, y] H Q) maxD := by
  intro H Hk x y dx dy dz Q s vx vy e q
  unfold maxD at e
  split at e <;> cases e
  cases vx.int; cases vy.int
  exact ⟨_, _, rfl, q _ H Hk (Grow.refl s) (.int _)⟩
theorem o_min : Op2 K (fun x y H Q => (fun xs H Q => ∃ i j, xs = [V.int i, V.int j] ∧ Q (.int (if j < i then j else i)) H) [x, y] H Q) minD := by
  intro H Hk x y dx dy dz Q s vx vy e q
  unfold minD at e
  split at e <;> cases e
  cases vx.int; cases vy.int
  exact ⟨_, _, rfl, q _ H Hk (Grow.refl s) (.int _)⟩
@[simp] def strD : D → Option D
  | .int i => if decide (i.natAbs < 2 ^ 1900) then some (.str (toString i)) else none
  | _ => none
theorem o_str : Op1 K (fun x H Q => (fun xs H Q => ∃ i, xs = [V.int i] ∧ i.natAbs.log2 < 1920 ∧ Q (.str (toString i)) H) [x] H Q) strD := by
  intro H Hk x dx dz Q s vx e q
  unfold strD at e
  split at e
  · rename_i i
    split at e <;> cases e
    rename_i c
    cases vx.int
    refine ⟨_, rfl, ?_, q _ H Hk (Grow.refl s) (.str _)⟩
    have := of_decide_eq_true c
    by_cases h : i.natAbs = 0
    · rw [h]; decide
    · exact Nat.lt_trans ((Nat.log2_lt h).mpr this) (by decide)
  · cases e
end
section
variable {W : WX} {X : Cx} {a b : Expr} {f g : Fe} {pos : Pos}
theorem ev_callB2 {x : Str} {id : String} {p : Pos} {r : List V → Hp → VK → Prop} {op : D → D → Option D} (o : Op2 X.K (fun x y => r [x, y]) op) (hc : CallR X (.builtin id) r) (hm : X.mg x = none) (hg : Gl X x) (hv : bootBuiltins x = some (.builtin id)) (ha : EV X a f) (hb : EV X b g)
    (hn : x ≠ "__name__" := by decide) (hdb : (x == ("__debug__" : Str)) = false := by decide) (he : starEach [a, b] X.env = (false, eval a X.env) :: starEach [b] X.env := by rfl) (he2 : starEach [b] X.env = (false, eval b X.env) :: starEach [] X.env := by rfl) (hpl : (backTo pos (starEach [b] X.env)).any (·.1) = false := by rfl) :
    EV X (.Call (.Name x p) [a, b] [] pos) (f2 op f g) := PE.imp (pe_callB hc hg hm hv (pa_cons ha (pa_cons hb pa_nil he2) he) hn hdb he hpl) fun _ _ _ h => t2 o h
end
/-! ### x += e, x -= e, whole numbers -/
@[simp] def sAug (op : Int → Int → Int) (i : Nat) (f : Fe) : Fs := fun γ => match gt γ i with
  | some (.dat (.int a)) => match f γ with
    | some (.int b, γ1) => if pinB γ1 i then none else some (.nx (γ1.set i (some (.dat (.int (op a b))))))
    | _ => none
  | _ => none
section
variable {W : WX} {X : Cx} {e : Expr} {f : Fe} {pos : Pos}
theorem es_aug {op : Operator} {o : Int → Int → Int} (ho : PIp X op (ipI o)) (i : Nat) {x : Str} {p' : Pos} (hN : X.N.Nodup) (hi : X.N[i]? = some x) (hx : Loc X.env.scope x) (he : EV X e f) (hf : X.fn x = true ∨ X.env.scope.names.lookup x = some .local := by first | exact .inl rfl | exact .inr rfl | assumption) :
    ES X W (.AugAssign (.Name x p') op e pos) (sAug o i f) := PS.imp (ps_aug hN hi hx he ho hf) fun Z σ H ⟨γ, Hk, oo, k, ee, q⟩ => by
  unfold sAug at ee
  split at ee
  · rename_i a ea
    split at ee
    · rename_i b γ1 ef
      split at ee <;> cases ee
      rename_i c
      obtain ⟨v, ev, rv⟩ := k.dat i _ ea
      cases rv
      refine ⟨_, ev, γ, Hk, _, γ1, k, ef, fun v H1 Hk1 g1 r1 => ?_⟩
      cases r1
      exact ⟨a, b, rfl, rfl, q _ _ _ (g1.trans (g1.ok.setDat (.int _) (noPin_of g1.ok (by simpa using c))))⟩
    · cases ee
  · cases ee
end
end DN
namespace DN
open PySem PySem.Spec PyProof.Rows L2
/-! ### enumerate of a tuple -/
section
open AutoSeq1 (wpAny_loadPart')
theorem meets_enumT (l : Addr) (items : Array Value) (n : Nat) (dct : Option Addr) (sl : Array (Option Value)) :
    Meets (Builtin.«enumerate.__new__» ⟨[.type "enumerate", .ref l], []⟩) (fun _ R s => s.heap.get? l = some { cls := .type "tuple", dict := dct, data := .seq items n, slots := sl } ∧
      R (.ok (.ret (.ref (s.heap.push { cls := .type "tuple_iterator", data := .fields #[.ref l, .int 0 0] }).objs.size)))
        { s with heap := (s.heap.push { cls := .type "tuple_iterator", data := .fields #[.ref l, .int 0 0] }).push { cls := .type "enumerate", data := .fields #[.none, .bool false, .ref s.heap.objs.size, rawInt 0, .none, .none] } }) :=
  .of_wp fun prog w A R s h => by
    obtain ⟨hp, g, d, tk, os⟩ := s; obtain ⟨hl, h⟩ := h
    have hsub := sub_enumerate
    have hL : Heap.IsTuple (Shared.heap ⟨hp, g, d, tk, os⟩) l items := ⟨_, hl, rfl, n, rfl⟩
    wp_walk using wpAny_loadPart' hl
    refine wpAny_stack_any fun st => wpAny_pure ?_
    split
    · rename_i c _ _ _ _ _
      cases (c == Value.type "enumerate")
      · wp_walk using wpAny_loadPart' hl, wpAny_pyIter_tuple hL
        exact ⟨_, rfl, h⟩
      · wp_walk using wpAny_loadPart' hl, wpAny_pyIter_tuple hL
        exact ⟨_, rfl, h⟩
    · wp_walk using wpAny_loadPart' hl, wpAny_pyIter_tuple hL
      exact ⟨_, rfl, h⟩
end
section
variable {prog : Program} {w : World} {A : Around} {E : Value → Shared → Prop} {s : Shared}
theorem call_enumT {l : Addr} {items : Array Value} {Q : Value → Shared → Prop} (hL : s.heap.IsTuple l items)
    (h : ∀ h', IsEnum h' (s.heap.objs.size + 1) s.heap.objs.size 0 .none → h'.IsTupleIter s.heap.objs.size l 0 → h'.objs.size = s.heap.objs.size + 2 →
      (∀ b o, s.heap.get? b = some o → h'.get? b = some o) → Q (.ref (s.heap.objs.size + 1)) { s with heap := h' }) :
    wpAny (model prog w) A (call (.type "enumerate") [.ref l]) Q E s := by
  obtain ⟨⟨c, dct, dt, sl⟩, hl, hc, n, hd⟩ := hL
  replace hc : c = .type "tuple" := hc
  replace hd : dt = .seq items n := hd
  subst hc hd
  refine callType_new F.called_enumerate (by decide) (F.typeCall_enumerate_1 _) (F.newCall_enumerate_1 _) (fun obj => F.args_object_init_2 obj _) F.entry_enumerate_new
    (meets_enumT l items n dct sl) ⟨hl, ?_⟩
  have hz : (s.heap.push { cls := .type "tuple_iterator", data := .fields #[.ref l, .int 0 0] }).objs.size = s.heap.objs.size + 1 := Heap.size_push ..
  show _ ∧ _
  rw [hz]
  have he : IsEnum ((s.heap.push { cls := .type "tuple_iterator", data := .fields #[.ref l, .int 0 0] }).push
      { cls := .type "enumerate", data := .fields #[.none, .bool false, .ref s.heap.objs.size, rawInt 0, .none, .none] }) (s.heap.objs.size + 1) s.heap.objs.size 0 .none := by
    have := Heap.get?_push_size (s.heap.push { cls := .type "tuple_iterator", data := .fields #[.ref l, .int 0 0] })
      (o := { cls := .type "enumerate", data := .fields #[.none, .bool false, .ref s.heap.objs.size, rawInt 0, .none, .none] }) rfl
    rw [hz] at this; exact this
  refine ⟨⟨_, he, rfl⟩, h _ he ⟨_, Heap.get?_push_of_some _ (Heap.get?_push_size _ rfl), rfl, rfl⟩ (by rw [Heap.size_push, hz]) fun b o x => Heap.get?_push_of_some _ (Heap.get?_push_of_some _ x)⟩
theorem enumT_end {e it t : Addr} {i : Nat} {k : Int} {items : Array Value} {old : Value} {Q : Option Value → Shared → Prop} (hh : A.handled = none)
    (he : IsEnum s.heap e it k old) (hit : s.heap.IsTupleIter it t i) (hl : s.heap.IsTuple t items) (hx : items[i]? = none)
    (hQ : ∀ h', Heap.ExtBut it s.heap h' → Q none { s with heap := h' }) : wpAny (model prog w) A (pyNext (.ref e)) Q E s := by
  have hT : s.TypeIs (.ref e) "enumerate" := ⟨_, he, rfl⟩
  unfold pyNext
  refine wpAny_bind (wpAny_attempt (wpAny_callSpecial?_slot (name := Str.ofString "__next__") hT F.slot_enumerate_next
    (wpAny_call_entry F.slot_enumerate_next hT F.entry_enumerate_next ?_ (F.args_enumerate_next_1 _))))
  show wpAny _ _ (field (.ref e) 2 >>= _) _ _ _
  refine wpAny_bind (wpAny_field he rfl (x := .ref it) rfl ?_)
  refine wpAny_bind (wpAny_nextOf_tuple_end hh hit hl hx fun h' x he' hx' => ?_)
  obtain ⟨o, ho, hc⟩ := hx'
  refine wpAny_bind (wpAny_isInstance (T := "StopIteration") (b := true) ⟨o, ho, hc⟩ isSubtype_stop ?_)
  exact wpAny_pure (hQ _ he')
end
/-- the tuple at a, each item in a new pair -/
def IteT (K : PySem.W.Frag) (a : Addr) : It :=
  ⟨fun i H => ∃ (xs : List V) (x : V), SqT K H a xs ∧ xs[i]? = some x, fun i H v H' => ∃ T x, v = .ref T ∧ H T = none ∧ H' = upd H T (.tup [.int (i : Nat), x]) ∧ ∀ xs, SqT K H a xs → xs[i]? = some x, fun i H => ∃ xs : List V, SqT K H a xs ∧ xs.length ≤ i⟩
theorem turn_enumT {P : Program} {w : World} {K : PySem.W.Frag} {elts : List Expr} {kk : Nat} {tpos : Pos} (a e it : Addr) :
    Turn P w K (.Tuple elts kk tpos) (IteT K a) [e, it] e (fun i h => (∃ old, IsEnum h e it ((i : Nat) : Int) old) ∧ h.IsTupleIter it a i ∧ e ≠ it) where
  mem := by simp
  obj := fun i h st b hb => by
    obtain ⟨⟨old, he⟩, ⟨o, ho, hc, hd⟩, _⟩ := st
    have e' : b = e ∨ b = it := by simpa using hb
    rcases e' with z | z
    · rw [z]; exact ⟨_, he, fun v q => nomatch q⟩
    · rw [z]; exact ⟨o, ho, fun v q => by rw [hd] at q; cases q⟩
  keep := fun i h h' st k => let ⟨⟨old, he⟩, hi, hne⟩ := st; ⟨⟨old, k e (by simp) _ he⟩, hi.at fun o q => k it (by simp) o q, hne⟩
  item := by
    intro X hP hw hK hc i pins s σ H E I hf st hg
    subst hP hw hK
    obtain ⟨⟨old, he⟩, hit, hne⟩ := st
    obtain ⟨xs, x, hq, hx⟩ := hg
    obtain ⟨its, rv, p, hz⟩ := I.tuple hq
    obtain ⟨u, hu, ru⟩ := rv.get hx
    have hel : e < s.heap.objs.size := Heap.lt_size he
    have hil : it < s.heap.objs.size := by obtain ⟨_, q, _⟩ := hit; exact Heap.lt_size q
    have ht : s.heap.IsTuple a its.toArray := p
    have hai : a ≠ it := by
      rintro rfl
      obtain ⟨o1, e1, c1, _⟩ := hit
      obtain ⟨o2, e2, c2, _⟩ := ht
      rw [e1] at e2; cases e2
      rw [c1] at c2; injection c2 with z; exact absurd z (by decide)
    have hae : a ≠ e := by
      rintro rfl
      obtain ⟨o2, e2, c2, _⟩ := ht
      rw [he] at e2; cases e2
      injection c2 with z; exact absurd z (by decide)
    have hlt : i < its.toArray.size := by
      have := rv.length
      have := (List.getElem?_eq_some_iff.mp hx).1
      simp; omega
    refine wpAny_pyNext_enum_itemD (Draws.tuple (show X.A.in1.handled = none from I.ok.hd hc) it a hai its.toArray) he ⟨hit, ht⟩ hlt hne (by simp [hne, Ne.symm hae]) fun x' h' tk hx' ho hit' hT hsz hk => ?_
    obtain rfl : u = x' := by
      have : its.toArray[i]? = some u := by simpa using hu
      rw [this] at hx'; exact Option.some.inj hx'
    refine ⟨_, rfl, wpAny_letOwnedTupleGo_enum (s := { s with heap := h', toks := tk + 1 }) ho fun h'' he' sb => ?_⟩
    have hT2 : h''.get? s.heap.objs.size = some { cls := .type "tuple", data := .seq #[.int i tk, u] } := (sb.2 _ (Nat.ne_of_gt hel)).trans hT
    have new : ObjOk X.prog X.w (upd H s.heap.objs.size (.tup [.int (i : Nat), x])) h'' s.heap.objs.size (.tup [.int (i : Nat), x]) :=
      ⟨by show 2 ≤ sizeLine; decide, [.int i tk, u], .cons ⟨_, rfl⟩ (.cons ru .nil), ⟨_, hT2, rfl, _, rfl⟩⟩
    have I1 : Inv X pins σ (upd H s.heap.objs.size (.tup [.int (i : Nat), x])) { s with heap := h'', toks := tk + 1 } :=
      I.turnedNew (ch := [e, it]) (fun b ob hb q => (sb.2 b (fun z => hb (by simp [z]))).trans (hk b ob (fun z => hb (by simp [z])) (fun z => hb (by simp [z])) q)) hf (Nat.le_refl _) new
    refine ⟨.ref s.heap.objs.size, _, I1, rfl, ⟨_, x, rfl, I.hok.fresh (Nat.le_refl _), rfl, fun ys hy => by rw [I.tuple_inj hy hq]; exact hx⟩, ⟨⟨u, ?_⟩, hit'.1.at fun o q => (sb.2 it (Ne.symm hne)).trans q, hne⟩, fun b hb => ?_⟩
    · have e1 : ((i + 1 : Nat) : Int) = (i : Int) + 1 := by omega
      rw [e1]; exact he'
    · have hb' : b < s.heap.objs.size := by
        have e' : b = e ∨ b = it := by simpa using hb
        rcases e' with z | z
        · rw [z]; exact hel
        · rw [z]; exact hil
      rw [upd_ne (Nat.ne_of_lt hb')]
      exact (hf b hb).1
  done := by
    intro X hP hw hK hc i pins s σ H E I hf st hg
    subst hP hw hK
    obtain ⟨⟨old, he⟩, hit, hne⟩ := st
    obtain ⟨xs, hq, hx⟩ := hg
    obtain ⟨its, rv, p, hz⟩ := I.tuple hq
    obtain ⟨f0, f1, f2, f3, f4, f5⟩ := hf it (by simp)
    have hl := rv.length
    exact enumT_end (I.ok.hd hc) he hit (show s.heap.IsTuple a its.toArray from p) (by simp; omega) fun h' eb => ⟨rfl, I.turned (t' := s.toks) (fun b o hb q => eb b o hb q) f0 f1 f3 f4 f5⟩
  self := fun A i s Q E st h => let ⟨⟨_, he⟩, _⟩ := st; wpAny_pyIter_enum he h
def iEnumA (K : PySem.W.Frag) (ta : TA) : TI := fun σ H R => ta σ H fun vs H1 => ∃ a xs, vs = [.ref a] ∧ ((SqL K H1 a xs ∧ R (Ite K a) H1) ∨ (SqT K H1 a xs ∧ R (IteT K a) H1))
theorem pi_enumA {X : Cx} {e : Expr} {ta : TA} {p pos tpos : Pos} {elts : List Expr} {kk : Nat} (hg : Gl X "enumerate") (hm : X.mg "enumerate" = none) (ha : PA X [e] ta) (hs : starEach [e] X.env = [(false, eval e X.env)] := by rfl) :
    PI X (.Tuple elts kk tpos) (.Call (.Name "enumerate" p) [e] [] pos) (iEnumA X.K ta) := by
  refine ⟨fun pins s σ H R I h => ?_⟩
  refine Call_ (ld_blt I hg hm boot_enumerate (PyProof.Rows.callWith_type1 (thn (ha.run pos pins s σ H _ I h) fun us s1 ⟨vs, H1, I1, r1, q1⟩ => ?_) hs rfl))
  obtain ⟨a, xs, ex, q⟩ := q1
  subst ex
  have hfp : ∀ b, b ∈ [s1.heap.objs.size + 1, s1.heap.objs.size] → FpOk X pins H1 b := fun b hb => by
    have e' : b = s1.heap.objs.size + 1 ∨ b = s1.heap.objs.size := by simpa using hb
    have hle : s1.heap.objs.size ≤ b := by
      rcases e' with z | z
      · rw [z]; exact Nat.le_add_right _ _
      · rw [z]; exact Nat.le_refl _
    exact I1.fpOk hle (I1.hok.fresh hle)
  cases r1 with
  | cons r rr =>
    cases rr
    cases r
    rcases q with ⟨hq, q⟩ | ⟨hq, q⟩
    · obtain ⟨its, rv, p', hz⟩ := I1.list hq
      refine call_enumerate_list p'.isList fun h' he hit hsz hk => wpAny_pyIter_enum he ?_
      have I2 : Inv X pins σ H1 { s1 with heap := h' } := I1.kept (t' := s1.toks) hk
      exact ⟨s1.heap.objs.size + 1, [s1.heap.objs.size + 1, s1.heap.objs.size], _, _, H1, rfl, I2, turn_enum a (s1.heap.objs.size + 1) s1.heap.objs.size, ⟨⟨.none, he⟩, hit, Nat.succ_ne_self _⟩, hfp, q⟩
    · obtain ⟨its, rv, p', hz⟩ := I1.tuple hq
      refine call_enumT (show s1.heap.IsTuple a its.toArray from p') fun h' he hit hsz hk => wpAny_pyIter_enum he ?_
      have I2 : Inv X pins σ H1 { s1 with heap := h' } := I1.kept (t' := s1.toks) hk
      exact ⟨s1.heap.objs.size + 1, [s1.heap.objs.size + 1, s1.heap.objs.size], _, _, H1, rfl, I2, turn_enumT a (s1.heap.objs.size + 1) s1.heap.objs.size, ⟨⟨.none, he⟩, hit, Nat.succ_ne_self _⟩, hfp, q⟩
def enumL (i : Nat) : List D → List D
  | [] => []
  | d :: r => .tuple [.int (i : Int), d] :: enumL (i + 1) r
theorem enumL_len : ∀ (ds : List D) (i : Nat), (enumL i ds).length = ds.length
  | [], _ => rfl
  | _ :: r, i => congrArg (· + 1) (enumL_len r (i + 1))
theorem enumL_at : ∀ (ds : List D) (i j : Nat) (h : j < ds.length), (enumL i ds)[j]? = some (.tuple [.int ((i + j : Nat) : Int), ds[j]])
  | d :: r, i, 0, _ => rfl
  | d :: r, i, j + 1, h => by
    have := enumL_at r (i + 1) j (by simpa using h)
    simp only [enumL, List.getElem?_cons_succ, List.getElem_cons_succ]
    rw [this, show i + 1 + j = i + (j + 1) by omega]
@[simp] def wEnum (f : Fe) : Fa := fun γ => match f γ with
  | some (.list ds, γ1) => some (enumL 0 ds, γ1)
  | some (.tuple ds, γ1) => some (enumL 0 ds, γ1)
  | _ => none
section
variable {W : WX} {X : Cx} {e : Expr} {f : Fe} {p pos tpos : Pos} {elts : List Expr} {kk : Nat} {K : PySem.W.Frag}
theorem enum_turn {xs : List V} {ds : List D} {Hk H Hc : Hp} (ra : DpAll K Hk xs ds) (s1 : Same Hk Hc) (s2 : Same Hc H) {i : Nat} (hi : i < (enumL 0 ds).length) :
    ∃ x, xs[i]? = some x ∧ ∀ T, H T = none → ∃ Hc', Grow H Hc (upd H T (.tup [.int (i : Nat), x])) Hc' ∧ Dp K Hc' (.ref T) ((enumL 0 ds)[i]) := by
  have hi' : i < ds.length := by rw [enumL_len] at hi; exact hi
  obtain ⟨x, ex, rx⟩ := dps_at ra (List.getElem?_eq_getElem hi')
  refine ⟨x, ex, fun T hT => ⟨upd Hc T (.tup [.int (i : Nat), x]), Grow.new s2 hT, ?_⟩⟩
  have sm : Same Hc (upd Hc T (.tup [.int (i : Nat), x])) := same_upd (s2.free hT)
  have e1 : (enumL 0 ds)[i] = .tuple [.int ((i : Nat) : Int), ds[i]] := by
    have := enumL_at ds 0 i hi'
    rw [List.getElem?_eq_getElem hi] at this
    have := Option.some.inj this
    rw [this, Nat.zero_add]
  rw [e1]
  exact .tup (SqT.of upd_same) (.cons (.int _) (.cons (dp_mono (s1.trans sm) rx) .nil))
theorem walks_el {Hk : Hp} {q : Addr} {xs : List V} {ds : List D} (hx : SqL K Hk q xs) (ra : DpAll K Hk xs ds) : Walks K (Ite K q) (enumL 0 ds) Hk := fun H Hc s1 s2 => by
  have h1 := sql_mono (s1.trans s2) hx
  refine ⟨fun i hi => ?_, fun i hi => ?_⟩
  · obtain ⟨x, ex, mk⟩ := enum_turn ra s1 s2 hi
    refine ⟨⟨xs, x, h1, ex⟩, fun v H' yl => ?_⟩
    obtain ⟨T, x', rfl, hT, rfl, fx⟩ := yl
    have e1 := fx xs h1
    rw [ex] at e1; cases e1
    exact mk T hT
  · rw [enumL_len, ← dps_len ra] at hi
    exact ⟨xs, h1, hi⟩
theorem walks_et {Hk : Hp} {q : Addr} {xs : List V} {ds : List D} (hx : SqT K Hk q xs) (ra : DpAll K Hk xs ds) : Walks K (IteT K q) (enumL 0 ds) Hk := fun H Hc s1 s2 => by
  have h1 := sqt_mono (s1.trans s2) hx
  refine ⟨fun i hi => ?_, fun i hi => ?_⟩
  · obtain ⟨x, ex, mk⟩ := enum_turn ra s1 s2 hi
    refine ⟨⟨xs, x, h1, ex⟩, fun v H' yl => ?_⟩
    obtain ⟨T, x', rfl, hT, rfl, fx⟩ := yl
    have e1 := fx xs h1
    rw [ex] at e1; cases e1
    exact mk T hT
  · rw [enumL_len, ← dps_len ra] at hi
    exact ⟨xs, h1, hi⟩
theorem ei_enum (hm : X.mg "enumerate" = none) (hg : Gl X "enumerate") (h : EV X e f) (hs : starEach [e] X.env = [(false, eval e X.env)] := by rfl) :
    EI X (.Tuple elts kk tpos) (.Call (.Name "enumerate" p) [e] [] pos) (wEnum f) :=
  PI.imp (pi_enumA hg hm (pa_cons h pa_nil hs) hs) fun σ H R ⟨γ, Hk, ds, γ2, o, ee, q⟩ => by
  unfold wEnum at ee
  split at ee <;> cases ee
  · rename_i ds' ef
    refine ⟨γ, Hk, _, _, o, ef, fun v H1 Hk1 g1 r1 => ?_⟩
    cases r1 with
    | lst hx ra => exact ⟨_, _, rfl, .inl ⟨sql_mono g1.ok.sub hx, q _ H1 Hk1 g1 (walks_el hx ra)⟩⟩
  · rename_i ds' ef
    refine ⟨γ, Hk, _, _, o, ef, fun v H1 Hk1 g1 r1 => ?_⟩
    cases r1 with
    | tup hx ra => exact ⟨_, _, rfl, .inr ⟨sqt_mono g1.ok.sub hx, q _ H1 Hk1 g1 (walks_et hx ra)⟩⟩
end
/-! ### targets of comprehensions: tuples of names -/
def TgsOk (K : PySem.W.Frag) (g : TGs) (tg : Fgs) (js : List Nat) : Prop := ∀ vs ds σ H Hk γ γ2 (Q : L2.St → Hp → Prop), Ok K σ H Hk γ → DpAll K Hk vs ds → tg ds γ = some γ2 → (∀ σ2, Go K σ H Hk γ σ2 H Hk γ2 → wipe σ2 js = wipe σ js → Q σ2 H) → g vs σ H Q
theorem wipe_at (τ : L2.St) (js : List Nat) (i : Nat) : (wipe τ js)[i]? = if i ∈ js ∧ i < τ.length then some none else τ[i]? := by
  induction js with
  | nil => simp [wipe]
  | cons v vs ih =>
    show ((wipe τ vs).set v none)[i]? = _
    rw [List.getElem?_set, ih, wipe_length]
    by_cases e : v = i
    · subst e
      by_cases l : v < τ.length
      · simp [l]
      · simp [l]
    · have e' : ¬ i = v := fun z => e z.symm
      simp [e, e']
theorem wipe_set {σ : L2.St} {js : List Nat} {j : Nat} {x : Option V} (h : j ∈ js) : wipe (σ.set j x) js = wipe σ js := by
  apply List.ext_getElem?
  intro i
  rw [wipe_at, wipe_at, List.length_set]
  by_cases c : i ∈ js ∧ i < σ.length
  · rw [if_pos c, if_pos c]
  · rw [if_neg c, if_neg c, List.getElem?_set]
    by_cases e : j = i
    · subst e
      have : ¬ j < σ.length := fun z => c ⟨h, z⟩
      simp [this]
    · simp [e]
theorem wipe_sub {σ : L2.St} {js js1 : List Nat} (h : ∀ j ∈ js1, j ∈ js) : wipe (wipe σ js1) js = wipe σ js := by
  apply List.ext_getElem?
  intro i
  rw [wipe_at, wipe_at, wipe_length, wipe_at]
  by_cases c : i ∈ js ∧ i < σ.length
  · rw [if_pos c, if_pos c]
  · rw [if_neg c, if_neg c, if_neg fun z => c ⟨h i z.1, z.2⟩]
section
variable {K : PySem.W.Frag} {js : List Nat}
theorem tg_n (j : Nat) (h : j ∈ js) : TgOk K (gName j) (gDat j) js := by
  intro v d σ H Hk γ γ2 Q o r e q
  unfold gDat at e
  split at e <;> cases e
  rename_i c
  exact q _ (o.setDat r (noPin_of o (by simpa using c))) (wipe_set h)
theorem tgs_nil : TgsOk K gNil gsNo js := by
  intro vs ds σ H Hk γ γ2 Q o r e q
  unfold gsNo at e
  split at e <;> cases e
  cases r
  exact ⟨rfl, q σ (Go.refl o) rfl⟩
theorem tgs_cons {g : TG} {gs : TGs} {tg : Fg} {tgs : Fgs} (h1 : TgOk K g tg js) (h2 : TgsOk K gs tgs js) : TgsOk K (gCons g gs) (gsCons tg tgs) js := by
  intro vs ds σ H Hk γ γ2 Q o r e q
  unfold gsCons at e
  split at e
  · rename_i d r'
    split at e
    · rename_i γ1 e1
      cases r with
      | cons ra rb => exact ⟨_, _, rfl, h1 _ _ _ _ _ _ _ _ o ra e1 fun σ1 g1 w1 => h2 _ _ _ _ _ _ _ _ g1.ok rb e fun σ2 g2 w2 => q σ2 (g1.trans g2) (w2.trans w1)⟩
    · cases e
  · cases e
theorem tg_t {n : Nat} {gs : TGs} {tgs : Fgs} (h : TgsOk K gs tgs js) : TgOk K (gTup K n gs) (gTp n tgs) js := by
  intro v d σ H Hk γ γ2 Q o r e q
  unfold gTp at e
  split at e
  · rename_i ds
    split at e
    · rename_i hl
      cases r with
      | tup hs ra => exact ⟨_, _, rfl, sqt_mono o.sub hs, by rw [dps_len ra]; exact hl, h _ _ _ _ _ _ _ _ o ra e q⟩
    · cases e
  · cases e
end
/-! ### comprehensions with two clauses -/
def lcF2 (js : List Nat) (tg : Fg) (tt : Ft) (src1 : Fa) (js1 : List Nat) (tg1 : Fg) (tt1 : Ft) (elt : Fe) : List D → En → List D → Option (List D × En)
  | [], γ, acc => some (acc, γ)
  | d :: ds, γ, acc => match tg d γ with
    | some γ0 => match tt γ0 with
      | some (true, γ1) => match src1 γ1 with
        | some (es, γ2) => if noOwns γ2 js1 then match lcF js1 tg1 tt1 elt es (wipeE γ2 js1) acc with
          | some (acc', γ3) => if noOwns γ3 js then lcF2 js tg tt src1 js1 tg1 tt1 elt ds (wipeE γ3 js) acc' else none
          | none => none
          else none
        | none => none
      | some (false, γ1) => if noOwns γ1 js then lcF2 js tg tt src1 js1 tg1 tt1 elt ds (wipeE γ1 js) acc else none
      | none => none
    | none => none
@[simp] def lLc2 (js : List Nat) (tg : Fg) (src : Fa) (tt : Ft) (src1 : Fa) (js1 : List Nat) (tg1 : Fg) (tt1 : Ft) (elt : Fe) : Fa := fun γ => match src γ with
  | some (ds, γ1) => if noOwns γ1 js then match lcF2 js tg tt src1 js1 tg1 tt1 elt ds (wipeE γ1 js) [] with
    | some (out, γ2) => some (out, putBack γ1 γ2 js)
    | none => none
    else none
  | none => none
section
variable {K : PySem.W.Frag}
theorem lc2_imp {js js1 : List Nat} {g g1 : TG} {tg tg1 : Fg} {src src1 : Fa} {tt tt1 : Ft} {elt : Fe} {σ : L2.St} {H : Hp} {Q : VK} (hjs : ∀ j ∈ js1, j ∈ js) (hg : TgOk K g tg js) (hg1 : TgOk K g1 tg1 js1)
    (h : tL K (lLc2 js tg src tt src1 js1 tg1 tt1 elt) σ H Q) : tLc2 (tIt K src) g (tT K tt) (tIt K src1) g1 (tT K tt1) (tI K elt) js js1 σ H Q := by
  obtain ⟨γ, Hk, out, γr, k, e, q⟩ := h
  unfold lLc2 at e
  split at e
  · rename_i ds γ1 es
    split at e
    · rename_i no
      split at e <;> cases e
      rename_i γ2 el
      refine ⟨γ, Hk, ds, γ1, k, es, fun J H1 Hk1 g1' wk L hL => ?_⟩
      have gd := dropAll g1'.ok js no
      have hk1L : Hk1 L = none := g1'.ok.sub.free hL
      let W : Nat → Nat → Hp → Prop := fun i m H' => m = ds.length - i ∧ i ≤ ds.length ∧ ∃ γ' Hk' acc av H0, H' = upd H0 L (.lst av) ∧ H0 L = none ∧ Go K (wipe σ js) H1 Hk1 (wipeE γ1 js) (wipe σ js) H0 Hk' γ' ∧ (∀ j ∈ js, gt γ' j = none) ∧ Hk' L = none ∧ Same Hk1 Hk' ∧ DpAll K Hk' av acc ∧ lcF2 js tg tt src1 js1 tg1 tt1 elt (ds.drop i) γ' acc = some (out, γ2)
      refine ⟨W, ⟨ds.length, by simp, Nat.zero_le _, wipeE γ1 js, Hk1, [], [], H1, rfl, hL, Go.refl gd.ok, fun j hj => gt_wipe_in _ hj, hk1L, Same.refl _, .nil, by simpa using el⟩, ?_⟩
      rintro i m H' ⟨rfl, hi, γ', Hk', acc, av, H0, rfl, h0L, gg, gj, hkL, sk, ra, ef⟩
      obtain ⟨w1, w2⟩ := wk (upd H0 L (.lst av)) Hk' sk (gg.ok.sub.trans (same_upd h0L))
      by_cases hlt : i < ds.length
      · obtain ⟨go, yl⟩ := w1 i hlt
        rw [List.drop_eq_getElem_cons hlt] at ef
        unfold lcF2 at ef
        refine .inr ⟨go, W (i + 1) (ds.length - (i + 1)), fun H3 w => ⟨_, by omega, w⟩, fun x H'' y => ?_⟩
        obtain ⟨Hc, gr, rv⟩ := yl x H'' y
        have ok0 : Ok K (wipe σ js) (upd H0 L (.lst av)) Hk' γ' := gg.ok.grow (Grow.newH gg.ok.sub h0L)
        have gy := ok0.go gr
        split at ef
        · rename_i γ0 etg
          refine hg x ds[i] _ _ Hc γ' γ0 _ gy.ok rv etg fun σ2 gt2 hw => ?_
          rw [wipe_wipe] at hw
          have ga := gy.trans gt2
          refine ⟨hw, ?_⟩
          split at ef
          · rename_i γ3 et
            refine ⟨γ0, Hc, true, γ3, gt2.ok, et, fun H3 Hk3 g3 => iteT ?_⟩
            split at ef
            · rename_i es1 γ4 esrc
              refine ⟨γ3, Hk3, es1, γ4, g3.ok, esrc, fun J1 H4 Hk4 g4 wk1 => ?_⟩
              split at ef
              · rename_i no1
                split at ef
                · rename_i acc' γ6 el1
                  split at ef
                  · rename_i no6
                    obtain ⟨H04, rfl, h04, hk4, g5⟩ := aside gg.ok h0L hkL ((ga.trans g3).trans g4)
                    have gd1 := dropAll g5.ok js1 no1
                    have gB := gg.trans (g5.trans gd1)
                    let W1 : Nat → Nat → Hp → Prop := fun j k H' => k = es1.length - j ∧ j ≤ es1.length ∧ ∃ γ5 Hk5 acc5 av5 H05, H' = upd H05 L (.lst av5) ∧ H05 L = none ∧ Go K (wipe σ js) H1 Hk1 (wipeE γ1 js) (wipe σ2 js1) H05 Hk5 γ5 ∧ (∀ j ∈ js1, gt γ5 j = none) ∧ Hk5 L = none ∧ Same Hk4 Hk5 ∧ DpAll K Hk5 av5 acc5 ∧ lcF js1 tg1 tt1 elt (es1.drop j) γ5 acc5 = some (acc', γ6)
                    have kk4 : Same Hk1 Hk4 := sk.trans g5.kk
                    refine ⟨W1, ⟨es1.length, by simp, Nat.zero_le _, wipeE γ4 js1, Hk4, acc, av, H04, rfl, h04, gB, fun j hj => gt_wipe_in _ hj, hk4, Same.refl _, dps_mono g5.kk ra, by simpa using el1⟩, ?_⟩
                    rintro j k H' ⟨rfl, hj, γ5, Hk5, acc5, av5, H05, rfl, h05L, gg5, gj5, hk5L, sk5, ra5, ef5⟩
                    obtain ⟨v1, v2⟩ := wk1 (upd H05 L (.lst av5)) Hk5 sk5 (gg5.ok.sub.trans (same_upd h05L))
                    by_cases hlt1 : j < es1.length
                    · obtain ⟨go1, yl1⟩ := v1 j hlt1
                      rw [List.drop_eq_getElem_cons hlt1] at ef5
                      unfold lcF at ef5
                      refine .inr ⟨go1, W1 (j + 1) (es1.length - (j + 1)), fun H6 w => ⟨_, by omega, w⟩, fun x1 H6 y1 => ?_⟩
                      obtain ⟨Hc1, gr1, rv1⟩ := yl1 x1 H6 y1
                      have ok5 : Ok K (wipe σ2 js1) (upd H05 L (.lst av5)) Hk5 γ5 := gg5.ok.grow (Grow.newH gg5.ok.sub h05L)
                      have gy1 := ok5.go gr1
                      split at ef5
                      · rename_i γ7 etg1
                        refine hg1 x1 es1[j] _ _ Hc1 γ5 γ7 _ gy1.ok rv1 etg1 fun σ3 gt3 hw1 => ?_
                        rw [wipe_wipe] at hw1
                        have ga1 := gy1.trans gt3
                        have back : ∀ {H8 Hk8 : Hp} {γ8 : En}, Go K (wipe σ2 js1) H05 Hk5 γ5 σ3 H8 Hk8 γ8 → noOwns γ8 js1 = true → Go K (wipe σ js) H1 Hk1 (wipeE γ1 js) (wipe σ2 js1) H8 Hk8 (wipeE γ8 js1) := fun {H8 Hk8 γ8} g8 n8 => by
                          have := (gg5.trans g8).trans (dropAll g8.ok js1 n8)
                          rw [hw1] at this
                          exact this
                        refine ⟨hw1, ?_⟩
                        split at ef5
                        · rename_i γ8 et1
                          refine ⟨γ7, Hc1, true, γ8, gt3.ok, et1, fun H8 Hk8 g8 => iteT ?_⟩
                          split at ef5
                          · rename_i y γ9 ee
                            split at ef5
                            · rename_i c
                              rw [Bool.and_eq_true] at c
                              refine ⟨γ8, Hk8, y, γ9, g8.ok, ee, fun u H9 Hk9 g9 r9 => ?_⟩
                              obtain ⟨H09, rfl, h09, hk9, g10⟩ := aside gg5.ok h05L hk5L ((ga1.trans g8).trans g9)
                              have hla : av5.length = acc5.length := dps_len ra5
                              have kk9 : Same Hk5 Hk9 := g10.kk
                              refine ⟨av5, upd_same, by rw [hla]; exact okN_lt c.1, rfl, hlt1, _, Hk9, acc5 ++ [y], av5 ++ [u], H09, upd_upd, h09, back g10 c.2, fun j hj => gt_wipe_in _ hj, hk9, sk5.trans kk9, ?_, ef5⟩
                              exact dps_app (dps_mono kk9 ra5) (.cons r9 .nil)
                            · cases ef5
                          · cases ef5
                        · rename_i γ8 et1
                          refine ⟨γ7, Hc1, false, γ8, gt3.ok, et1, fun H8 Hk8 g8 => iteF ?_⟩
                          split at ef5
                          · rename_i c
                            obtain ⟨H03, rfl, h03, hk3, g10⟩ := aside gg5.ok h05L hk5L (ga1.trans g8)
                            exact ⟨rfl, hlt1, _, Hk8, acc5, av5, H03, rfl, h03, back g10 c, fun j hj => gt_wipe_in _ hj, hk3, sk5.trans g10.kk, dps_mono g10.kk ra5, ef5⟩
                          · cases ef5
                        · cases ef5
                      · cases ef5
                    · have e0 : j = es1.length := by omega
                      subst e0
                      rw [List.drop_length] at ef5
                      cases ef5
                      refine .inl ⟨v2 _ (Nat.le_refl _), rfl, hlt, wipeE γ6 js, Hk5, acc', av5, H05, rfl, h05L, ?_, fun j hj => gt_wipe_in _ hj, hk5L, kk4.trans sk5, ra5, ef⟩
                      have := gg5.trans (dropAll gg5.ok js no6)
                      rw [wipe_sub hjs, hw] at this
                      exact this
                  · cases ef
                · cases ef
              · cases ef
            · cases ef
          · rename_i γ3 et
            refine ⟨γ0, Hc, false, γ3, gt2.ok, et, fun H3 Hk3 g3 => iteF ?_⟩
            split at ef
            · rename_i c
              obtain ⟨H03, rfl, h03, hk3, g5⟩ := aside gg.ok h0L hkL (ga.trans g3)
              have := (gg.trans g5).trans (dropAll g5.ok js c)
              rw [hw] at this
              exact ⟨rfl, hlt, _, Hk3, acc, av, H03, rfl, h03, this, fun j hj => gt_wipe_in _ hj, hk3, sk.trans g5.kk, dps_mono g5.kk ra, ef⟩
            · cases ef
          · cases ef
        · cases ef
      · have e0 : i = ds.length := by omega
        subst e0
        rw [List.drop_length] at ef
        cases ef
        exact .inl ⟨w2 _ (Nat.le_refl _), q L av H0 Hk' (g1'.trans (restoreAll g1'.ok js _ no gg gj)) h0L ra⟩
    · cases e
  · cases e
end
end DN
namespace DN
open PySem PySem.Spec PyProof.Rows L2
/-! ### comprehensions with two clauses, as rules -/
section
variable {W : WX} {X : Cx} {elt it tge it1 tge1 : Expr} {ifs ifs1 : List Expr} {scope : Scope} {own : List (Str × Nat)} {src src1 : Fa} {g g1 : TG} {tg tg1 : Fg} {tt tt1 : Ft} {ef : Fe} {pos : Pos} {js js1 : List Nat} {y : Str}
theorem el_lc2 (hj : own.map (·.2) = js) (hjs : ∀ j ∈ js1, j ∈ js) (htg : TgOk X.K g tg js) (htg1 : TgOk X.K g1 tg1 js1) (hc : X.calm = true) (hN : X.N.Nodup) (hi : EI X tge it src) (ok : BlkOk X.N X.env.scope scope own)
    (hg : ∀ (s : Shared) (H : Hp) (C : Addr) (cl : List (Str × Addr)) (fp : List Addr), PG (X.blk s H scope (compEnvC scope cl C X.env) fp) tge g)
    (ht : ∀ (s : Shared) (H : Hp) (C : Addr) (cl : List (Str × Addr)) (fp : List Addr), PTs (X.blk s H scope (compEnvC scope cl C X.env) fp) ifs (tT X.K tt))
    (hi1 : ∀ (s : Shared) (H : Hp) (C : Addr) (cl : List (Str × Addr)) (fp : List Addr), EI (X.blk s H scope (compEnvC scope cl C X.env) fp) tge1 it1 src1)
    (hg1 : ∀ (s : Shared) (H : Hp) (C : Addr) (cl : List (Str × Addr)) (fp : List Addr), PG (X.blk s H scope (compEnvC scope cl C X.env) fp) tge1 g1)
    (ht1 : ∀ (s : Shared) (H : Hp) (C : Addr) (cl : List (Str × Addr)) (fp : List Addr), PTs (X.blk s H scope (compEnvC scope cl C X.env) fp) ifs1 (tT X.K tt1))
    (he : ∀ (s : Shared) (H : Hp) (C : Addr) (cl : List (Str × Addr)) (fp : List Addr), EV (X.blk s H scope (compEnvC scope cl C X.env) fp) elt ef) (hs : ∀ x, foldedSetIterable it X.env x = pure x := by intro _; rfl) (hs1 : ∀ env x, foldedSetIterable it1 env x = pure x := by intro _ _; rfl) :
    EL X (.ListComp elt [⟨tge, it, ifs, 0⟩, ⟨tge1, it1, ifs1, 0⟩] scope pos) (lLc2 js tg src tt src1 js1 tg1 tt1 ef) := by
  subst hj
  exact PE.imp (pe_lc2 (te := tI X.K ef) (wi1 := tIt X.K src1) (tt1 := tT X.K tt1) hc hN hi ok hjs hg ht hi1 hg1 ht1 he hs hs1) fun _ _ _ h => lc2_imp hjs htg htg1 h
theorem es_lc2Own (i : Nat) {py spos : Pos} (hj : own.map (·.2) = js) (hjs : ∀ j ∈ js1, j ∈ js) (htg : TgOk X.K g tg js) (htg1 : TgOk X.K g1 tg1 js1) (hc : X.calm = true) (hN : X.N.Nodup) (hy : X.N[i]? = some y) (hyl : X.env.scope.names.lookup y = some .local)
    (hsw : swapsWith (.ListComp elt [⟨tge, it, ifs, 0⟩, ⟨tge1, it1, ifs1, 0⟩] scope pos) (some (.Name y py)) spos.line X.env = pure true) (hi : EI X tge it src) (ok : BlkOk X.N X.env.scope scope own)
    (hg : ∀ (s : Shared) (H : Hp) (C : Addr) (cl : List (Str × Addr)) (fp : List Addr), PG (X.blk s H scope (compEnvC scope cl C X.env) fp) tge g)
    (ht : ∀ (s : Shared) (H : Hp) (C : Addr) (cl : List (Str × Addr)) (fp : List Addr), PTs (X.blk s H scope (compEnvC scope cl C X.env) fp) ifs (tT X.K tt))
    (hi1 : ∀ (s : Shared) (H : Hp) (C : Addr) (cl : List (Str × Addr)) (fp : List Addr), EI (X.blk s H scope (compEnvC scope cl C X.env) fp) tge1 it1 src1)
    (hg1 : ∀ (s : Shared) (H : Hp) (C : Addr) (cl : List (Str × Addr)) (fp : List Addr), PG (X.blk s H scope (compEnvC scope cl C X.env) fp) tge1 g1)
    (ht1 : ∀ (s : Shared) (H : Hp) (C : Addr) (cl : List (Str × Addr)) (fp : List Addr), PTs (X.blk s H scope (compEnvC scope cl C X.env) fp) ifs1 (tT X.K tt1))
    (he : ∀ (s : Shared) (H : Hp) (C : Addr) (cl : List (Str × Addr)) (fp : List Addr), EV (X.blk s H scope (compEnvC scope cl C X.env) fp) elt ef) (hs : ∀ x, foldedSetIterable it X.env x = pure x := by intro _; rfl) (hs1 : ∀ env x, foldedSetIterable it1 env x = pure x := by intro _ _; rfl) :
    ES X W (.Assign [.Name y py] (.ListComp elt [⟨tge, it, ifs, 0⟩, ⟨tge1, it1, ifs1, 0⟩] scope pos) spos) (sOwn i (lLc2 js tg src tt src1 js1 tg1 tt1 ef)) := by
  subst hj
  refine PS.imp (ps_setLc2 (te := tI X.K ef) (wi1 := tIt X.K src1) (tt1 := tT X.K tt1) hc hN hy hyl hsw hi ok hjs hg ht hi1 hg1 ht1 he hs hs1) fun Z σ H h => ?_
  exact lc2_imp hjs htg htg1 (own_imp h)
theorem es_lc2Dat (i : Nat) {py spos : Pos} (hj : own.map (·.2) = js) (hjs : ∀ j ∈ js1, j ∈ js) (htg : TgOk X.K g tg js) (htg1 : TgOk X.K g1 tg1 js1) (hc : X.calm = true) (hN : X.N.Nodup) (hy : X.N[i]? = some y) (hyl : X.env.scope.names.lookup y = some .local)
    (hsw : swapsWith (.ListComp elt [⟨tge, it, ifs, 0⟩, ⟨tge1, it1, ifs1, 0⟩] scope pos) (some (.Name y py)) spos.line X.env = pure true) (hi : EI X tge it src) (ok : BlkOk X.N X.env.scope scope own)
    (hg : ∀ (s : Shared) (H : Hp) (C : Addr) (cl : List (Str × Addr)) (fp : List Addr), PG (X.blk s H scope (compEnvC scope cl C X.env) fp) tge g)
    (ht : ∀ (s : Shared) (H : Hp) (C : Addr) (cl : List (Str × Addr)) (fp : List Addr), PTs (X.blk s H scope (compEnvC scope cl C X.env) fp) ifs (tT X.K tt))
    (hi1 : ∀ (s : Shared) (H : Hp) (C : Addr) (cl : List (Str × Addr)) (fp : List Addr), EI (X.blk s H scope (compEnvC scope cl C X.env) fp) tge1 it1 src1)
    (hg1 : ∀ (s : Shared) (H : Hp) (C : Addr) (cl : List (Str × Addr)) (fp : List Addr), PG (X.blk s H scope (compEnvC scope cl C X.env) fp) tge1 g1)
    (ht1 : ∀ (s : Shared) (H : Hp) (C : Addr) (cl : List (Str × Addr)) (fp : List Addr), PTs (X.blk s H scope (compEnvC scope cl C X.env) fp) ifs1 (tT X.K tt1))
    (he : ∀ (s : Shared) (H : Hp) (C : Addr) (cl : List (Str × Addr)) (fp : List Addr), EV (X.blk s H scope (compEnvC scope cl C X.env) fp) elt ef) (hs : ∀ x, foldedSetIterable it X.env x = pure x := by intro _; rfl) (hs1 : ∀ env x, foldedSetIterable it1 env x = pure x := by intro _ _; rfl) :
    ES X W (.Assign [.Name y py] (.ListComp elt [⟨tge, it, ifs, 0⟩, ⟨tge1, it1, ifs1, 0⟩] scope pos) spos) (sAsg (fL (lLc2 js tg src tt src1 js1 tg1 tt1 ef)) (gDat i)) := by
  subst hj
  refine PS.imp (ps_setLc2 (te := tI X.K ef) (wi1 := tIt X.K src1) (tt1 := tT X.K tt1) hc hN hy hyl hsw hi ok hjs hg ht hi1 hg1 ht1 he hs hs1) fun Z σ H h => ?_
  obtain ⟨γ, Hk, o, k, e, q⟩ := h
  unfold sAsg fL at e
  refine lc2_imp (K := X.K) (tg := tg) (src := src) (tt := tt) (src1 := src1) (tg1 := tg1) (tt1 := tt1) (elt := ef) (Q := fun x H1 => gName i x σ H1 Z.nx) hjs htg htg1 ?_
  cases el : lLc2 (own.map (·.2)) tg src tt src1 js1 tg1 tt1 ef γ with
  | none => rw [el] at e; cases e
  | some r =>
    obtain ⟨ds, γ1⟩ := r
    rw [el] at e
    simp only at e
    cases eg : gDat i (.list ds) γ1 with
    | none => rw [eg] at e; cases e
    | some γ2 =>
      rw [eg] at e; cases e
      refine ⟨γ, Hk, ds, γ1, k, el, fun p vs H2 Hk2 g hp r => ?_⟩
      have g2 : Grow H2 Hk2 (upd H2 p (.lst vs)) (upd Hk2 p (.lst vs)) := Grow.new g.ok.sub hp
      have g3 := g.trans (g.ok.go g2)
      exact gDat_imp ⟨γ1, _, .list ds, γ2, g3.ok, .lst (SqL.of upd_same) (dps_mono g2.kk r), eg, fun σ2 g4 => q σ2 _ _ (g3.trans g4)⟩
end
/-! ### in: texts in texts, data in lists -/
def flatD : D → Bool
  | .none => true
  | .bool _ => true
  | .int _ => true
  | .str _ => true
  | _ => false
def eqF : D → D → Bool
  | .none, .none => true
  | .bool a, .bool b => a == b
  | .int i, .int j => i == j
  | .str a, .str b => a == b
  | .bool a, .int j => (if a then 1 else 0) == j
  | .int i, .bool b => i == (if b then 1 else 0)
  | _, _ => false
def inD : D → D → Option D
  | .str a, .str b => some (.bool (inS a b))
  | x, .list ds => if SeqAt.shaped x && SeqAt.shaped (.list ds) then some (.bool (ds.any fun z => PyData.eqv z x)) else none
  | x, .tuple ds => if SeqAt.shaped x && SeqAt.shaped (.list ds) then some (.bool (ds.any fun z => PyData.eqv z x)) else none
  | _, _ => none
def notInD : D → D → Option D
  | .str a, .str b => some (.bool (!inS a b))
  | x, .list ds => if SeqAt.shaped x && SeqAt.shaped (.list ds) then some (.bool (!ds.any fun z => PyData.eqv z x)) else none
  | x, .tuple ds => if SeqAt.shaped x && SeqAt.shaped (.list ds) then some (.bool (!ds.any fun z => PyData.eqv z x)) else none
  | _, _ => none
section
variable {X : Cx}
/-- x in a list or a tuple of data -/
def rInN (K : PySem.W.Frag) (f : Bool → Bool) : R2 := fun x y H Q => ∃ d c ds, Dp K H x d ∧ Dp K H y c ∧ (c = .list ds ∨ c = .tuple ds) ∧ SeqAt.shaped d = true ∧ SeqAt.shaped (.list ds) = true ∧ Q (.bl (f (ds.any fun z => PyData.eqv z d))) H
theorem op_inN (hu : X.A.units + 65 < cLine) : OpR X (compareOp .In) (rInN X.K id) := by
  intro pins s σ H x y v u Q I rx ry h
  obtain ⟨d, c, ds, hd, he, hc, sd, se, q⟩ := h
  obtain ⟨as, r1⟩ := Dp.reads I hd rx
  obtain ⟨bs, r2⟩ := Dp.reads I he ry
  rcases hc with rfl | rfl
  · exact SeqAt.in_list_reads r2 r1 (SeqAt.canLay_of_shaped se) (SeqAt.canLay_of_shaped sd) (room_in_shaped sd hu) ⟨.bl _, H, I, rfl, q⟩
  · exact SeqAt.in_tuple_reads r2 r1 (SeqAt.canLay_of_shaped se) (SeqAt.canLay_of_shaped sd) (room_in_shaped sd hu) ⟨.bl _, H, I, rfl, q⟩
theorem op_notInN (hu : X.A.units + 65 < cLine) : OpR X (compareOp .NotIn) (rInN X.K not) := by
  intro pins s σ H x y v u Q I rx ry h
  obtain ⟨d, c, ds, hd, he, hc, sd, se, q⟩ := h
  obtain ⟨as, r1⟩ := Dp.reads I hd rx
  obtain ⟨bs, r2⟩ := Dp.reads I he ry
  rcases hc with rfl | rfl
  · exact SeqAt.notIn_list_reads r2 r1 (SeqAt.canLay_of_shaped se) (SeqAt.canLay_of_shaped sd) (room_in_shaped sd hu) ⟨.bl _, H, I, rfl, q⟩
  · exact SeqAt.notIn_tuple_reads r2 r1 (SeqAt.canLay_of_shaped se) (SeqAt.canLay_of_shaped sd) (room_in_shaped sd hu) ⟨.bl _, H, I, rfl, q⟩
end
section
variable {K : PySem.W.Frag}
theorem o_in : Op2 K (fun x y H Q => (∃ i j, x = .str i ∧ y = .str j ∧ Q (.bl (!(Builtin.Str.occurrences j i 0 j.length 1).isEmpty)) H) ∨ rInN K id x y H Q) inD := by
  intro H Hk x y dx dy dz Q s vx vy e q
  unfold inD at e
  split at e
  · cases e
    exact .inl ⟨_, _, vx.str, vy.str, q _ H Hk (Grow.refl s) (.bl _)⟩
  · split at e <;> cases e
    rename_i c
    rw [Bool.and_eq_true] at c
    exact .inr ⟨_, _, _, vx.dp s, vy.dp s, .inl rfl, c.1, c.2, q _ H Hk (Grow.refl s) (.bl _)⟩
  · split at e <;> cases e
    rename_i c
    rw [Bool.and_eq_true] at c
    exact .inr ⟨_, _, _, vx.dp s, vy.dp s, .inr rfl, c.1, c.2, q _ H Hk (Grow.refl s) (.bl _)⟩
  · cases e
theorem o_notIn : Op2 K (fun x y H Q => (∃ i j, x = .str i ∧ y = .str j ∧ Q (.bl (!(!(Builtin.Str.occurrences j i 0 j.length 1).isEmpty))) H) ∨ rInN K not x y H Q) notInD := by
  intro H Hk x y dx dy dz Q s vx vy e q
  unfold notInD at e
  split at e
  · cases e
    exact .inl ⟨_, _, vx.str, vy.str, q _ H Hk (Grow.refl s) (.bl _)⟩
  · split at e <;> cases e
    rename_i c
    rw [Bool.and_eq_true] at c
    exact .inr ⟨_, _, _, vx.dp s, vy.dp s, .inl rfl, c.1, c.2, q _ H Hk (Grow.refl s) (.bl _)⟩
  · split at e <;> cases e
    rename_i c
    rw [Bool.and_eq_true] at c
    exact .inr ⟨_, _, _, vx.dp s, vy.dp s, .inr rfl, c.1, c.2, q _ H Hk (Grow.refl s) (.bl _)⟩
  · cases e
theorem x_in {X : Cx} (hr : X.A.units + 65 < cLine) : OpR X (compareOp .In) (fun x y H Q => (∃ i j, x = .str i ∧ y = .str j ∧ Q (.bl (!(Builtin.Str.occurrences j i 0 j.length 1).isEmpty)) H) ∨ rInN X.K id x y H Q) := op_in_str.or (op_inN hr)
theorem x_notIn {X : Cx} (hr : X.A.units + 65 < cLine) : OpR X (compareOp .NotIn) (fun x y H Q => (∃ i j, x = .str i ∧ y = .str j ∧ Q (.bl (!(!(Builtin.Str.occurrences j i 0 j.length 1).isEmpty))) H) ∨ rInN X.K not x y H Q) := op_notIn_str.or (op_notInN hr)
/-! ### all, any, sum -/
def boolsD : List D → Option (List Bool)
  | [] => some []
  | .bool i :: r => (boolsD r).map (i :: ·)
  | _ => none
theorem boolsD_dps {H : Hp} : ∀ {vs : List V} {ds : List D} {ns : List Bool}, DpAll K H vs ds → boolsD ds = some ns → vs = ns.map V.bl
  | _, _, ys, .nil, e => by cases e; rfl
  | _, _, ys, .cons h t, e => by
    unfold boolsD at e
    split at e
    · rename_i e2; cases e2
    · rename_i e2; cases e2
      obtain ⟨zs, e3, e4⟩ := Option.map_eq_some_iff.mp e
      subst e4
      cases h
      rw [boolsD_dps t e3]; rfl
    · cases e
theorem boolsD_map : ∀ ns : List Bool, boolsD (ns.map .bool) = some ns
  | [] => rfl
  | n :: r => by
    show (boolsD (r.map .bool)).map (n :: ·) = _
    rw [boolsD_map r]; rfl
@[simp] def allD : D → Option D
  | .list ds => match boolsD ds with
    | some bs => some (.bool (bs.all id))
    | none => none
  | _ => none
@[simp] def anyD : D → Option D
  | .list ds => match boolsD ds with
    | some bs => some (.bool (bs.any id))
    | none => none
  | _ => none
@[simp] def sumD : D → Option D
  | .list ds => match intsD ds with
    | some ns => some (.int ns.sum)
    | none => none
  | _ => none
theorem o_all : Op1 K (fun x => rAll K [x]) allD := by
  intro H Hk x dx dz Q s vx e q
  unfold allD at e
  split at e
  · split at e <;> cases e
    rename_i en
    obtain ⟨p, vs, rfl, sp, ap⟩ := vx.lst s
    cases boolsD_dps ap en
    exact ⟨p, _, rfl, sp, q _ H Hk (Grow.refl s) (.bl _)⟩
  · cases e
theorem o_any : Op1 K (fun x => rAny K [x]) anyD := by
  intro H Hk x dx dz Q s vx e q
  unfold anyD at e
  split at e
  · split at e <;> cases e
    rename_i en
    obtain ⟨p, vs, rfl, sp, ap⟩ := vx.lst s
    cases boolsD_dps ap en
    exact ⟨p, _, rfl, sp, q _ H Hk (Grow.refl s) (.bl _)⟩
  · cases e
theorem o_sum : Op1 K (fun x => rSum K [x]) sumD := by
  intro H Hk x dx dz Q s vx e q
  unfold sumD at e
  split at e
  · split at e <;> cases e
    rename_i en
    obtain ⟨p, vs, rfl, sp, ap⟩ := vx.lst s
    cases intsD_dps ap en
    exact ⟨p, _, rfl, sp, q _ H Hk (Grow.refl s) (.int _)⟩
  · cases e
end
/-! ### [e] * n -/
@[simp] def lRep (fl : Fa) (g : Fe) : Fa := fun γ => match fl γ with
  | some (ds, γ1) => match g γ1 with
    | some (.int k, γ2) => if decide (ds.length * k.toNat ≤ 1000000) && small62 k then some ((List.replicate k.toNat ds).flatten, γ2) else none
    | _ => none
  | none => none
theorem dps_rep {K : PySem.W.Frag} {H : Hp} {vs : List V} {ds : List D} (h : DpAll K H vs ds) : ∀ n, DpAll K H (List.replicate n vs).flatten (List.replicate n ds).flatten
  | 0 => .nil
  | n + 1 => by
    simp only [List.replicate_succ, List.flatten_cons]
    exact dps_app h (dps_rep h n)
section
variable {W : WX} {X : Cx} {a b e : Expr} {f g : Fe} {fl : Fa} {pos : Pos} {s : Stmt}
theorem el_rep (ha : EL X a fl) (hb : EV X b g) : EL X (.BinOp a .Mult b pos) (lRep fl g) := PE.imp (pe_op op_rep ha hb) fun σ H Q ⟨γ, Hk, ds, γ2, o, ee, q⟩ => by
  unfold lRep at ee
  split at ee
  · rename_i ds0 γ1 ef
    split at ee
    · rename_i k γ2' eg
      split at ee <;> cases ee
      rename_i c
      rw [Bool.and_eq_true] at c
      obtain ⟨c2, c3⟩ := small_of c.2
      refine ⟨γ, Hk, ds0, γ1, o, ef, fun p vs H2 Hk2 g1 hp r => ?_⟩
      have gr : Grow H2 Hk2 (upd H2 p (.lst vs)) Hk2 := Grow.newH g1.ok.sub hp
      have g2 := g1.ok.go gr
      have nown : ¬ OwnA X.K σ (upd H2 p (.lst vs)) Hk2 γ1 p := fun z => (OwnA.grown g1.ok gr z).noN hp
      refine ⟨γ1, Hk2, _, _, g2.ok, eg, fun v H3 Hk3 g3 r3 => ?_⟩
      cases r3
      have hp3 := g3.kp p _ upd_same nown
      refine ⟨p, k, vs, rfl, rfl, hp3, by omega, by omega, ?_, fun p2 hp2 => q p2 _ H3 Hk3 ((g1.trans g2).trans g3) hp2 (dps_rep (dps_mono g3.kk r) _)⟩
      rw [dps_len r]
      exact Nat.le_trans (of_decide_eq_true c.1) (by decide)
    · cases ee
  · cases ee
/-! ### raise: what is not asked here -/
@[simp] def sNone : Fs := fun _ => none
theorem es_raise : ES X W s sNone := ⟨fun pins s σ H D I ⟨γ, Hk, o, k, e, q⟩ => by cases e⟩
/-! ### a = b = e -/
@[simp] def sAsg2 (f : Fe) (i j : Nat) : Fs := fun γ => match f γ with
  | some (d, γ1) => if pinB γ1 i || pinB γ1 j then none else some (.nx ((γ1.set i (some (.dat d))).set j (some (.dat d))))
  | none => none
theorem pin_set {γ : En} {i : Nat} {d : D} : ∀ {j : Nat}, pinB γ j = false → pinB (γ.set i (some (.dat d))) j = false
  | j + 1, _ => rfl
  | 0, h => by
    unfold pinB at h ⊢
    simp only at h ⊢
    rw [gt_set]
    by_cases c : i = 0 ∧ i < γ.length
    · rw [if_pos c]
    · rw [if_neg c]; exact h
theorem es_asg2 {t1 t2 : Expr} (i j : Nat) (he : EV X e f) (h1 : PG X t1 (gName i)) (h2 : PG X t2 (gName j)) (ha : (assignEach [t1, t2] X.env).map (·.2) = [assign t1 X.env, assign t2 X.env] := by rfl) (hw : swappedStores [t1, t2] e X.env = pure none := by rfl) :
    ES X W (.Assign [t1, t2] e pos) (sAsg2 f i j) := PS.imp (ps_asg2 he h1 h2 ha hw) fun Z σ H ⟨γ, Hk, o, k, ee, q⟩ => by
  unfold sAsg2 at ee
  split at ee
  · rename_i d γ1 ef
    split at ee <;> cases ee
    rename_i c
    simp only [Bool.or_eq_true, not_or, Bool.not_eq_true] at c
    refine ⟨γ, Hk, d, γ1, k, ef, fun v H1 Hk1 g1 r1 => ?_⟩
    have g2 := g1.ok.setDat r1 (noPin_of g1.ok c.1)
    have g3 := g2.ok.setDat r1 (noPin_of g2.ok (pin_set c.2))
    exact q _ _ _ ((g1.trans g2).trans g3)
  · cases ee
/-! ### own lists lent to a def that tells a number, a truth, a text, or nothing -/
def atomD : D → Bool
  | .none => true
  | .bool _ => true
  | .int _ => true
  | .str _ => true
  | _ => false
inductive VwAll (K : PySem.W.Frag) (H Hk : Hp) : List V → List D → Prop where
  | nil : VwAll K H Hk [] []
  | cons {v : V} {d : D} {vs : List V} {ds : List D} : Vw K H Hk v d → VwAll K H Hk vs ds → VwAll K H Hk (v :: vs) (d :: ds)
theorem VwAll.dps {K : PySem.W.Frag} {H Hk : Hp} (s : Same Hk H) : ∀ {vs : List V} {ds : List D}, VwAll K H Hk vs ds → DpAll K H vs ds
  | _, _, .nil => .nil
  | _, _, .cons h t => .cons (h.dp s) (VwAll.dps s t)
def tAL (K : PySem.W.Frag) (fa : Fa) : TA := fun σ H Q => ∃ γ Hk ds γ2, Ok K σ H Hk γ ∧ fa γ = some (ds, γ2) ∧ ∀ vs H2 Hk2, Go K σ H Hk γ σ H2 Hk2 γ2 → VwAll K H2 Hk2 vs ds → Q vs H2
def EAL (X : Cx) (es : List Expr) (fa : Fa) : Prop := PA X es (tAL X.K fa)
theorem eal_nil : EAL X [] aNil := PA.imp pa_nil fun σ H Q ⟨γ, Hk, ds, γ2, o, e, q⟩ => by
  cases e
  exact q [] H Hk (Go.refl o) .nil
@[simp] def aLend (i : Nat) (fa : Fa) : Fa := fun γ => match view γ i with
  | some _ => match fa γ with
    | some (ds, γ1) => match view γ1 i with
      | some d => some (d :: ds, γ1)
      | none => none
    | none => none
  | none => none
variable {es : List Expr} {fa : Fa}
theorem eal_lend {i : Nat} (h : PE X e (tVar i)) (hr : EAL X es fa) (hs : starEach (e :: es) X.env = (false, eval e X.env) :: starEach es X.env := by rfl) : EAL X (e :: es) (aLend i fa) := PA.imp (pa_cons h hr hs) fun σ H Q ⟨γ, Hk, ds, γ2, o, ee, q⟩ => by
  unfold aLend at ee
  split at ee
  · rename_i d0 e0
    split at ee
    · rename_i ds' γ1 efa
      split at ee <;> cases ee
      rename_i d e1
      obtain ⟨v, ev, _⟩ := o.view e0
      refine ⟨v, ev, γ, Hk, ds', _, o, efa, fun vs H2 Hk2 g2 r2 => ?_⟩
      obtain ⟨v', ev', w⟩ := g2.ok.view e1
      rw [ev] at ev'; cases ev'
      exact q _ H2 Hk2 g2 (.cons w r2)
    · cases ee
  · cases ee
theorem vw_later {K : PySem.W.Frag} {Hk H2 Hk2 : Hp} {v : V} {d : D} (h : Dp K Hk v d) (k : Same Hk Hk2) : Vw K H2 Hk2 v d := .inl (dp_mono k h)
theorem eal_cons (h : EV X e f) (hr : EAL X es fa) (hs : starEach (e :: es) X.env = (false, eval e X.env) :: starEach es X.env := by rfl) : EAL X (e :: es) (aCons f fa) := PA.imp (pa_cons h hr hs) fun σ H Q ⟨γ, Hk, ds, γ2, o, ee, q⟩ => by
  unfold aCons at ee
  split at ee
  · rename_i d γ1 ef
    split at ee <;> cases ee
    rename_i ds' efa
    exact ⟨γ, Hk, d, γ1, o, ef, fun v H1 Hk1 g1 r1 => ⟨γ1, Hk1, ds', γ2, g1.ok, efa, fun vs H2 Hk2 g2 r2 => q _ H2 Hk2 (g1.trans g2) (.cons (vw_later r1 g2.kk) r2)⟩⟩
  · cases ee
@[simp] def fCallL (n : Nat) (F : Fun') (fa : Fa) : Fe := fun γ => match fa γ with
  | some (ds, γ1) => if ds.length = n then match F ds with
    | some (d, _) => if atomD d then some (d, γ1) else none
    | none => none
    else none
  | none => none
theorem atom_dp {K : PySem.W.Frag} {H H' : Hp} {v : V} {d : D} (h : Dp K H v d) (a : atomD d = true) : Dp K H' v d := by
  cases h with
  | non => exact .non
  | bl b => exact .bl b
  | int i => exact .int i
  | str x => exact .str x
  | lst _ _ => cases a
  | tup _ _ => cases a
  | dct _ _ _ _ _ _ => cases a
theorem ev_callL {x : Str} {k n : Nat} {ps : List Str} {F : Fun'} {p : Pos} (C : Cal X.prog X.w X.K X.mg X.base x k ps false F) (hr : Room k X.A) (hG : X.A.guards = some []) (hg : Gl X x) (ha : EAL X (e :: es) fa) (hn : ps.length = n := by rfl)
    (hdb : (x == ("__debug__" : Str)) = false := by decide) (he : starEach (e :: es) X.env = (false, eval e X.env) :: starEach es X.env := by rfl) (hpl : (backTo pos (starEach es X.env)).any (·.1) = false := by rfl) :
    EV X (.Call (.Name x p) (e :: es) [] pos) (fCallL n F fa) := by
  subst hn
  obtain ⟨f, fd, G, hm, hk, hb⟩ := C
  refine ⟨fun pins s σ H Q I h => ?_⟩
  obtain ⟨γ, Hk, d, γ2, ok, ee, q⟩ := h
  unfold fCallL at ee
  split at ee
  · rename_i ds γ1 ea
    split at ee
    · rename_i hl
      split at ee
      · rename_i d' out eF
        split at ee <;> cases ee
        rename_i at'
        refine wpAny_Call_Name_kw (ld_glob I hg hm ?_ hdb)
        refine PySem.W.callWith_K (h₀ := X.base) I.ok.mod.kin hk (thn (ha.run pos pins s σ H (fun vs H1 => spD X.K false ps.length F vs H1 Q) I ⟨γ, Hk, ds, _, ok, ea, fun vs H1 Hk1 g1 r1 => ?_⟩) fun us s1 ⟨vs, H1, I1, r, q1⟩ => ⟨I1.kIn, ?_⟩) he hpl
        · have rd := r1.dps g1.ok.sub
          refine ⟨by rw [dps_len rd]; exact hl, H1, ds, d, out, Same.refl _, rd, eF, fun v H2 Hk2 s2 k2 nw kp r2 _ => ?_⟩
          have hh : Same H1 H2 := fun a u h => kp a u h fun z => absurd z Bool.false_ne_true
          exact q v H2 Hk1 (g1.trans (g1.ok.go ⟨hh, Same.refl _, g1.ok.sub.trans hh, fun a u h n => by rw [h] at n; cases n⟩)) (atom_dp r2 at')
        · exact runG G hr hG hb I1 r q1
      · cases ee
    · cases ee
  · cases ee
end
/-! ### t[::-1], t a tuple (a text: ev_rev) -/
section
variable {prog : Program} {w : World} {A : Around} {E : Value → Shared → Prop} {s : Shared}
theorem adjust_rev (n : Nat) : Builtin.Slice.sliceAdjust none none (-1) (n : Int) = ((n : Int) - 1, -1) := by
  unfold Builtin.Slice.sliceAdjust
  simp
theorem places_rev (n : Nat) : Builtin.Slice.slicePlaces ((n : Int) - 1) (-1) (-1) = n := by
  unfold Builtin.Slice.slicePlaces
  have h1 : ¬ ((-1 : Int) > 0) := by omega
  simp only [h1, if_false]
  split
  · have : ((n : Int) - 1 - -1 - 1) / - -1 + 1 = n := by
      rw [show - -1 = (1 : Int) from rfl, Int.ediv_one]; omega
    omega
  · omega
theorem fm_congr {α β : Type} {f g : α → Option β} : ∀ {l : List α}, (∀ m ∈ l, f m = g m) → l.filterMap f = l.filterMap g
  | [], _ => rfl
  | a :: r, h => by
    rw [List.filterMap_cons, List.filterMap_cons, h a (by simp), fm_congr fun m hm => h m (by simp [hm])]
theorem pick_rev (xs : Array Value) : ((List.range xs.size).filterMap fun (m : Nat) => xs[((xs.size : Int) - 1 + (m : Int) * (-1)).toNat]?).toArray = xs.toList.reverse.toArray := by
  have e : ((List.range xs.size).filterMap fun (m : Nat) => xs[((xs.size : Int) - 1 + (m : Int) * (-1)).toNat]?) = ((List.range xs.size).map fun k => xs.size - 1 - k).filterMap (xs[·]?) := by
    rw [List.filterMap_map]
    refine fm_congr fun m hm => ?_
    rw [List.mem_range] at hm
    have : ((xs.size : Int) - 1 + (m : Int) * (-1)).toNat = xs.size - 1 - m := by omega
    rw [this]; rfl
  rw [e, PySem.W.krv_range, List.filterMap_reverse, PySem.W.krv_all]
theorem getItem_tuple_rev {t sl : Addr} {items : Array Value} {vl vu : Value} {tk : Tok} {Q : Value → Shared → Prop} (ht : IsTup s.heap t items) (hs : s.heap.IsSliceOf sl vl vu (.int (-1) tk)) (pl : IsPart vl none) (pu : IsPart vu none)
    (h : Q (.ref s.heap.objs.size) { s with heap := s.heap.push { cls := .type "tuple", data := .seq items.toList.reverse.toArray } })
    (hsz : items.size ≤ sizeLine) : wpAny (model prog w) A (getItem (.ref t) (.ref sl)) Q E s := by
  have htake : sizeOk (.seq items.toList.reverse.toArray) := by
    show items.toList.reverse.toArray.size ≤ sizeLine
    simpa using hsz
  obtain ⟨os, hos, hcs, hds⟩ := id hs
  have hTs : s.TypeIs (.ref sl) "slice" := ⟨os, hos, hcs⟩
  unfold getItem
  try with_reducible refine wpAny_holding ?_
  first | refine wpAny_bind (wpAny_pure ?_) | skip
  refine wpAny_bind (wpAny_sequenceKey ht.typeIs (by decide) ?_)
  refine wpAny_bind (wpAny_callSpecial?_slot (name := Str.ofString "__getitem__") ht.typeIs PyProof.Rows.slot_tuple_getitem
    (wpAny_call_entry PyProof.Rows.slot_tuple_getitem ht.typeIs PyProof.Rows.entry_tuple_getitem ?_ (PyProof.Rows.args_tuple_getitem _ _)))
  show wpAny _ _ (Builtin.Tuple.tupleItemsOf (.ref t) >>= _) _ _ s
  refine wpAny_bind (tupleItemsOf_ ht ?_)
  refine wpAny_bind (wpAny_typeOf hTs ?_)
  rw [if_pos (by decide)]
  have ap : ∀ {Q : Int × Int × Nat → Shared → Prop}, Q ((items.size : Int) - 1, -1, items.size) s → wpAny (model prog w) A.in1 (Builtin.Slice.sliceApplied (.ref sl) (pure ((items.size : Nat) : Int))) Q E s := fun {Q} h => by
    unfold Builtin.Slice.sliceApplied Builtin.Slice.sliceFields
    refine wpAny_bind (wpAny_bind (wpAny_field hos hds (x := vl) rfl (wpAny_bind (wpAny_field hos hds (x := vu) rfl (wpAny_bind (wpAny_field hos hds (x := .int (-1) tk) rfl (wpAny_pure ?_)))))))
    refine wpAny_bind (HT.slicePart_ (.int _ _) ?_)
    show wpAny _ _ (if ((-1 : Int) == 0) = true then _ else _) _ _ s
    rw [if_neg (by decide)]
    refine wpAny_bind (HT.slicePart_ pl (wpAny_bind (HT.slicePart_ pu (wpAny_bind (wpAny_pure ?_)))))
    show wpAny _ _ (match Builtin.Slice.sliceAdjust none none (-1) ((items.size : Nat) : Int) with | (lo, hi) => pure (lo, (-1 : Int), Builtin.Slice.slicePlaces lo hi (-1))) _ _ s
    rw [adjust_rev]
    show wpAny _ _ (pure (((items.size : Int) - 1), (-1 : Int), Builtin.Slice.slicePlaces ((items.size : Int) - 1) (-1) (-1))) _ _ s
    rw [places_rev]
    exact wpAny_pure h
  refine wpAny_bind (ap ?_)
  have hno : ¬ (((((items.size : Nat) : Int) - 1) == 0 && (-1 : Int) == 1 && items.size == items.size) = true) := by
    intro q
    rw [Bool.and_eq_true, Bool.and_eq_true] at q
    exact absurd q.1.2 (by decide)
  show wpAny _ _ (if ((((items.size : Nat) : Int) - 1) == 0 && (-1 : Int) == 1 && items.size == items.size) = true then _ else _) _ _ s
  rw [if_neg hno, pick_rev]
  first
    | exact wpAny_bind (m := Builtin.Tuple.tupleExact _) (wpAny_newObj_type (wpAny_pure ⟨_, rfl, wpAny_pure h⟩) htake)
    | exact wpAny_bind (m := Builtin.Tuple.tupleExact _) (wpAny_newObj_type (wpAny_bind (wpAny_pure (wpAny_pure ⟨_, rfl, wpAny_pure h⟩))) htake)
    | exact wpAny_bind (wpAny_bind (m := Builtin.Tuple.tupleExact _) (wpAny_newObj_type (wpAny_pure (wpAny_pure ⟨_, rfl, wpAny_pure h⟩)) htake))
    | exact wpAny_bind (wpAny_bind (m := Builtin.Tuple.tupleExact _) (wpAny_newObj_type (wpAny_pure ⟨_, rfl, wpAny_pure h⟩) htake))
end
@[simp] def revTD : D → Option D
  | .tuple ds => some (.tuple ds.reverse)
  | _ => none
theorem dps_rev {K : PySem.W.Frag} {H : Hp} : ∀ {vs : List V} {ds : List D}, DpAll K H vs ds → DpAll K H vs.reverse ds.reverse
  | _, _, .nil => .nil
  | _, _, .cons h t => by
    simp only [List.reverse_cons]
    exact dps_app (dps_rev t) (.cons h .nil)
section
variable {W : WX} {X : Cx} {e : Expr} {f : Fe} {pos : Pos}
theorem ev_revT {k : Nat} {p1 p2 p3 : Pos} (he : EV X e f) : EV X (.Subscript e (.Slice none none (some (.UnaryOp .USub (.Constant (.int 1) k p1) p2)) p3) pos) (f1 revTD f) := by
  refine ⟨fun pins s σ H Q I h => ?_⟩
  obtain ⟨γ, Hk, dd, γ2, ok, ee, q⟩ := h
  unfold f1 at ee
  split at ee
  · rename_i dx γ1 ef
    split at ee
    · rename_i z eo
      cases ee
      unfold revTD at eo
      split at eo <;> cases eo
      rename_i ds
      refine Subscript_ (thn (he.run pins s σ H (fun v2 H2 => ∃ a xs Hk2, v2 = .ref a ∧ SqT X.K H2 a xs ∧ DpAll X.K Hk2 xs ds ∧ Go X.K σ H Hk γ σ H2 Hk2 γ2) I ⟨γ, Hk, _, _, ok, ef, fun v2 H2 Hk2 g2 r2 => by
        cases r2 with
        | tup hs ra => exact ⟨_, _, Hk2, rfl, sqt_mono g2.ok.sub hs, ra, g2⟩⟩) fun v s1 ⟨x, H1, I1, r1, a, xs, Hk2, ex, hx, ra, g2⟩ => ?_)
      subst ex
      cases r1
      have hst : PO X (some (.UnaryOp .USub (.Constant (.int 1) k p1) p2)) (tPart (tUn (rU fun i => .int (-i)) (tC (.int 1)))) := po_some (pe_un un_neg pe_int)
      refine wpAny_Slice (thn (po_none.run pins s1 σ H1 (fun o H2 => o = none ∧ H2 = H1) I1 ⟨rfl, rfl⟩) fun vl s2 ⟨l, H2, I2, pl, el, e2⟩ => ?_)
      subst el e2
      refine thn (po_none.run pins s2 σ H2 (fun o H3 => o = none ∧ H3 = H2) I2 ⟨rfl, rfl⟩) fun vu s3 ⟨u, H3, I3, pu, eu, e3⟩ => ?_
      subst eu e3
      refine thn (hst.run pins s3 σ H3 (fun o H4 => o = some (-1) ∧ H4 = H3) I3 ⟨1, rfl, -1, rfl, rfl, rfl⟩) fun vs s4 ⟨o, H4, I4, ps, eo, e4⟩ => ?_
      subst eo e4
      have I5 : Inv X pins σ H4 { s4 with heap := s4.heap.push { cls := .type "slice", data := .fields #[vl, vu, vs] } } := I4.kept (t' := s4.toks) fun b ob q => Heap.get?_push_of_some _ q
      obtain ⟨its, r, ht, hz⟩ := I5.tuple hx
      have hlen := r.length
      cases ps
      show wpAny (model X.prog X.w) X.A (subscriptTail e (.Slice none none (some (.UnaryOp .USub (.Constant (.int 1) k p1) p2)) p3) (.ref a) (.ref s4.heap.objs.size)) (EP X pins σ Q) X.xe _
      refine tail_any (ops := [.ref a, .ref s4.heap.objs.size]) ht.typeIs (PyProof.Rows.slot_tuple_getitem.lookup) ?_ (by with_unfolding_all rfl)
      refine getItem_tuple_rev ht (Heap.IsSliceOf.new _ vl vu _) pl pu ?_ (by rw [List.size_toArray]; omega)
      have fr := I5.hok.fresh (Nat.le_refl _)
      have gr : Grow H4 Hk2 (upd H4 _ (.tup xs.reverse)) (upd Hk2 _ (.tup xs.reverse)) := Grow.new g2.ok.sub fr
      refine ⟨.ref _, _, I5.laid (t' := s4.toks) (o := .tup xs.reverse) (fun b ob q => Heap.get?_push_of_some _ q) (Nat.le_refl _) ?_, rfl, q _ _ _ (g2.trans (g2.ok.go gr)) (.tup (SqT.of upd_same) (dps_mono gr.kk (dps_rev ra)))⟩
      exact ⟨by rw [List.length_reverse]; exact hz, _, r.reverse, IsTup.new _ _⟩
    · cases ee
  · cases ee
end
end DN
namespace DN
open PySem PySem.Spec PyProof.Rows L2
theorem u65 {k : Nat} {A : Around} (r : Room k A) : A.units + 65 < cLine := by have := r.un; omega
/-! ### truth of any data -/
@[simp] def truD : D → Option Bool
  | .none => some false
  | .bool b => some b
  | .int i => some (i != 0)
  | .str y => if okN y.length then some ((y.length : Int) != 0) else none
  | .list ds => some (!ds.isEmpty)
  | .tuple ds => some (!ds.isEmpty)
  | _ => none
theorem dps_emp {K : PySem.W.Frag} {H : Hp} {vs : List V} {ds : List D} (h : DpAll K H vs ds) : ds.isEmpty = vs.isEmpty := by
  cases h <;> rfl
theorem tru_of {K : PySem.W.Frag} {H Hk : Hp} {v : V} {d : D} {k : Bool} (s : Same Hk H) (w : Vw K H Hk v d) (e : truD d = some k) : TruV K v H k := by
  unfold truD at e
  split at e
  · cases e; cases w.non; rfl
  · cases e; cases w.bl; rfl
  · cases e; cases w.int; rfl
  · split at e <;> cases e
    rename_i c
    cases w.str
    exact ⟨okN_line c, rfl⟩
  · cases e
    obtain ⟨p, vs, rfl, sp, ap⟩ := w.lst s
    exact .inl ⟨vs, sp, by rw [dps_emp ap]⟩
  · cases e
    obtain ⟨p, vs, rfl, sp, ap⟩ := w.tup s
    exact .inr (.inl ⟨vs, sp, by rw [dps_emp ap]⟩)
  · cases e
@[simp] def cTru (f : Fe) : Ft := fun γ => match f γ with
  | some (d, γ2) => match truD d with
    | some b => some (b, γ2)
    | none => none
  | none => none
@[simp] def cTrun (i : Nat) : Ft := fun γ => match view γ i with
  | some d => match truD d with
    | some b => some (b, γ)
    | none => none
  | none => none
section
variable {W : WX} {X : Cx} {c : Expr} {f : Fe}
theorem et_tru (h : EV X c f) (he : ∀ whole, isTrue c X.env whole = (do let v ← whole; standAt c.pos; holding [v] (truthy v)) := by intro _; rfl) : ET X c (cTru f) := PT.imp (pt_truth h he) fun σ H Q ⟨γ, Hk, b, γ2, o, e, q⟩ => by
  unfold cTru at e
  split at e
  · rename_i d γ1 ef
    split at e <;> cases e
    rename_i eb
    exact ⟨γ, Hk, d, _, o, ef, fun v H2 Hk2 g r => ⟨b, tru_of g.ok.sub (.inl r) eb, q H2 Hk2 g⟩⟩
  · cases e
theorem et_trun {i : Nat} (h : PE X c (tVar i)) (he : ∀ whole, isTrue c X.env whole = (do let v ← whole; standAt c.pos; holding [v] (truthy v)) := by intro _; rfl) : ET X c (cTrun i) := PT.imp (pt_truth h he) fun σ H Q ⟨γ, Hk, b, γ2, o, e, q⟩ => by
  unfold cTrun at e
  split at e
  · rename_i d ev
    split at e <;> cases e
    rename_i eb
    obtain ⟨v, e1, w⟩ := o.view ev
    exact ⟨v, e1, b, tru_of o.sub w eb, q H Hk (Go.refl o)⟩
  · cases e
end
/-! ### a list unpacked into names -/
@[simp] def gLp (n : Nat) (tgs : Fgs) : Fg := fun d γ => match d with
  | .list ds => if ds.length = n then tgs ds γ else none
  | _ => none
section
variable {W : WX} {X : Cx} {es : List Expr} {tgs : Fgs} {pos : Pos}
theorem eg_lst (n : Nat) {k : Nat} (hc : X.calm = true) (h : EGs X es tgs) (hn : (assignEach es X.env).length = n := by rfl) (hst : (assignEach es X.env).findIdx? (·.1) = none := by rfl) : EG X (.Tuple es k pos) (gLp n tgs) :=
  PG.imp (pg_unl hc h hn hst) fun v σ H Q ⟨γ, Hk, d, γ2, o, r, e, q⟩ => by
  unfold gLp at e
  split at e
  · rename_i ds
    split at e
    · rename_i hl
      cases r with
      | lst hs ra => exact ⟨_, _, rfl, sql_mono o.sub hs, by rw [dps_len ra]; exact hl, γ, Hk, ds, γ2, o, ra, e, q⟩
    · cases e
  · cases e
end
end DN
namespace DN
open PySem PySem.Spec PyProof.Rows L2
/-! ### sorted of any data that are alike -/
def alikeB (ds : List D) : Bool := ds.all fun d => ds.all fun d' => PySem.W.alike d d'
theorem alikeB_of {ds : List D} (h : alikeB ds = true) : PySem.W.AllAlike ds := fun d hd d' hd' => by
  unfold alikeB at h
  rw [List.all_eq_true] at h
  have := h d hd
  rw [List.all_eq_true] at this
  exact this d' hd'
def tupB : D → Bool
  | .tuple (_ :: _) => true
  | _ => false
def othB : D → Bool
  | .tuple _ => false
  | .none => false
  | _ => true
def sortB (ds : List D) : Bool := ds.all tupB || ds.all othB
theorem sortB_of {ds : List D} (h : sortB ds = true) : PySem.W.Sortable ds := by
  unfold sortB at h
  rw [Bool.or_eq_true, List.all_eq_true, List.all_eq_true] at h
  rcases h with h | h
  · refine .inl fun d hd => ?_
    have := h d hd
    unfold tupB at this
    split at this
    · exact ⟨_, _, rfl⟩
    · cases this
  · refine .inr fun d hd => ?_
    have := h d hd
    unfold othB at this
    split at this
    · cases this
    · cases this
    · rename_i h1 h2
      exact ⟨h2, h1⟩
def deepB (ds : List D) : Bool := ds.all fun d => decide (d.depth ≤ 20)
abbrev leD0 (a b : D) : Bool := PySem.W.dataLe false (fun x : D => x) a b
def srtD (ds : List D) : List D := ds.mergeSort leD0
def rSortD (K : PySem.W.Frag) : List V → Hp → VK → Prop := fun vs H Q => ∃ (Hk : Hp) (a : Addr) (xs : List V) (ds : List D), Same Hk H ∧ vs = [V.ref a] ∧ SqL K H a xs ∧ DpAll K Hk xs ds ∧ alikeB ds = true ∧ sortB ds = true ∧ deepB ds = true ∧
  ∀ (ys : List V) (p : Addr), DpAll K Hk ys (srtD ds) → H p = none → Q (.ref p) (upd H p (.lst ys))
section
variable {W : WX} {X : Cx}
theorem each_of {K : PySem.W.Frag} {H : Hp} : ∀ {us : List Value} {xs : List V} {ds : List D}, Vals xs us → DpAll K H xs ds → PySem.W.EachIs (fun u (b : V × D) => RelV b.1 u ∧ Dp K H b.1 b.2) us (xs.zip ds)
  | _, _, _, .nil, .nil => .nil
  | _, _, _, .cons r rr, .cons d dd => .cons ⟨r, d⟩ (each_of rr dd)
theorem each_out {K : PySem.W.Frag} {H : Hp} : ∀ {us : List Value} {bs : List (V × D)}, PySem.W.EachIs (fun u (b : V × D) => RelV b.1 u ∧ Dp K H b.1 b.2) us bs → Vals (bs.map (·.1)) us ∧ DpAll K H (bs.map (·.1)) (bs.map (·.2))
  | _, _, .nil => ⟨.nil, .nil⟩
  | _, _, .cons h t => ⟨.cons h.1 (each_out t).1, .cons h.2 (each_out t).2⟩
theorem zip_snd {α β : Type} : ∀ {xs : List α} {ys : List β}, xs.length = ys.length → (xs.zip ys).map (·.2) = ys
  | [], [], _ => rfl
  | _ :: xs, _ :: ys, h => by
    simp only [List.zip_cons_cons, List.map_cons]
    rw [zip_snd (by simpa using h)]
theorem cr_sortD {k : Nat} (hr : Room k X.A) : CallR X (.builtin "sorted") (rSortD X.K) := by
  intro pins s σ H vs us Q I r h
  obtain ⟨Hk, a, xs, ds, sub, rfl, hs, hd, h1, h2, h3, q⟩ := h
  obtain ⟨its, rv, hl, hz⟩ := I.list hs
  rw [Vals.ref1 r]
  have hlen := dps_len hd
  have e1 := each_of rv hd
  have er : PySem.W.EachIs (fun v (b : V × D) => ∃ as, Reads s.heap v b.2 as) its (xs.zip ds) := e1.mono fun u b ⟨ru, du⟩ => Dp.reads I (dp_mono sub du) ru
  have em : (xs.zip ds).map (fun b : V × D => b.2) = ds := zip_snd hlen
  have un := hr.un
  refine PySem.W.sorted_data (enc := fun b : V × D => b.2) hl.isList e1 er (by rw [em]; exact alikeB_of h1) (by rw [em]; exact sortB_of h2) (by rw [List.length_zip, hlen, Nat.min_self, ← hlen]; exact hz) (fun b hb => ?_) fun out ho he => ?_
  · have : b.2 ∈ ds := by rw [← em]; exact List.mem_map_of_mem hb
    unfold deepB at h3
    rw [List.all_eq_true] at h3
    have := of_decide_eq_true (h3 b.2 this)
    omega
  · obtain ⟨v1, d1⟩ := each_out he
    have es : ((xs.zip ds).mergeSort (PySem.W.dataLe false fun b : V × D => b.2)).map (fun b : V × D => b.2) = srtD ds := by
      have := PySem.W.sort_maps (r := PySem.W.dataLe false fun b : V × D => b.2) (s := leD0) (l := xs.zip ds) (fun b : V × D => b.2) (fun a _ b _ => rfl)
      rw [em] at this
      exact this
    rw [es] at d1
    obtain ⟨ep, he'⟩ := PyProof.Rows.sortedAll_at s.heap its out.toArray
    have hl2 : (((xs.zip ds).mergeSort (PySem.W.dataLe false fun b : V × D => b.2)).map (fun b : V × D => b.1)).length ≤ sizeLine := by
      rw [List.length_map, List.length_mergeSort, List.length_zip, hlen, Nat.min_self, ← hlen]
      exact hz
    exact ⟨.ref _, upd H (s.heap.objs.size + 1) (.lst _), I.laid (t' := s.toks) (fun _ _ => PyProof.Rows.sortedAll_old) (Nat.le_succ _) ⟨hl2, out, ep, v1, he'⟩, rfl, q _ _ d1 (I.hok.fresh (Nat.le_succ _))⟩
@[simp] def lSrt (f : Fe) : Fa := fun γ => match f γ with
  | some (.list ds, γ1) => if alikeB ds && sortB ds && deepB ds then some (srtD ds, γ1) else none
  | _ => none
theorem el_sortD {a : Expr} {f : Fe} {k : Nat} {pos p : Pos} (hr : Room k X.A) (hm : X.mg "sorted" = none) (hg : Gl X "sorted") (ha : EV X a f) (he : starEach [a] X.env = (false, eval a X.env) :: starEach [] X.env := by rfl) (hpl : (backTo pos (starEach [] X.env)).any (·.1) = false := by rfl) :
    EL X (.Call (.Name "sorted" p) [a] [] pos) (lSrt f) := PE.imp (pe_callB (cr_sortD hr) hg hm (by decide +kernel) (pa_cons ha pa_nil he) (he := he) (hpl := hpl)) fun σ H Q ⟨γ, Hk, d, γ2, o, ee, q⟩ => by
  unfold lSrt at ee
  split at ee
  · rename_i ds γ1 ef
    split at ee <;> cases ee
    rename_i c
    rw [Bool.and_eq_true, Bool.and_eq_true] at c
    refine ⟨γ, Hk, _, γ2, o, ef, fun v H1 Hk1 g1 r1 => ?_⟩
    cases r1 with
    | lst h t => exact ⟨Hk1, _, _, ds, g1.ok.sub, rfl, sql_mono g1.ok.sub h, t, c.1.1, c.1.2, c.2, fun ys p dy hn => q p _ H1 Hk1 g1 hn dy⟩
  · cases ee
/-! ### min(xs, default = e) -/
def minL (ds : List D) (z : D) : D := match ds with
  | [] => z
  | y :: ys => PySem.W.minD y ys
def nonB (ds : List D) : Bool := ds.all fun d => match d with
  | .none => false
  | _ => true
def rMinD (K : PySem.W.Frag) : List V → List V → Hp → VK → Prop := fun vs zs H Q => ∃ (Hk : Hp) (a : Addr) (xs : List V) (ds : List D) (z : V) (zd : D), Same Hk H ∧ vs = [V.ref a] ∧ zs = [z] ∧ Dp K Hk z zd ∧ SqL K H a xs ∧ DpAll K Hk xs ds ∧ alikeB ds = true ∧ nonB ds = true ∧ decide (PyData.depthAll ds ≤ 20) = true ∧
  ∀ y : V, Dp K Hk y (minL ds zd) → Q y H
theorem readsAll_of {K : PySem.W.Frag} {pins : List (Addr × Obj)} {σ : L2.St} {H Hk : Hp} {s : Shared} (I : Inv X pins σ H s) (sub : Same Hk H) : ∀ {us : List Value} {xs : List V} {ds : List D}, Vals xs us → DpAll X.K Hk xs ds → ∃ as, ReadsAll s.heap us ds as
  | _, _, _, .nil, .nil => ⟨[], .nil⟩
  | _, _, _, .cons r rr, .cons d dd => by
    obtain ⟨a1, r1⟩ := Dp.reads I (dp_mono sub d) r
    obtain ⟨a2, r2⟩ := readsAll_of (K := K) I sub rr dd
    exact ⟨_, .cons r1 r2⟩
theorem minD_mem : ∀ (ys : List D) (y : D), PySem.W.minD y ys ∈ y :: ys
  | [], y => by simp [PySem.W.minD]
  | z :: ys, y => by
    unfold PySem.W.minD
    rw [List.foldl_cons]
    by_cases h : PySem.W.dataLt z y = true
    · rw [if_pos h]
      have := minD_mem ys z
      unfold PySem.W.minD at this
      rcases List.mem_cons.mp this with e | e
      · rw [e]; simp
      · simp [e]
    · rw [if_neg h]
      have := minD_mem ys y
      unfold PySem.W.minD at this
      rcases List.mem_cons.mp this with e | e
      · rw [e]; simp
      · simp [e]
theorem cr_minD {k : Nat} (hc : X.calm = true) (hr : Room k X.A) : CallRK X (.builtin "min") [Str.ofString "default"] (rMinD X.K) := by
  intro pins s σ H vs zs us ws Q I r rz h
  obtain ⟨Hk, a, xs, ds, z, zd, sub, rfl, rfl, hz, hs, hd, h1, h2, h3, q⟩ := h
  obtain ⟨its, rv, hl, hzz⟩ := I.list hs
  rw [Vals.ref1 r]
  cases rz with
  | cons r0 rr =>
    cases rr
    rename_i w0
    show wpAny _ _ (call (.builtin "min") [.ref a] [(Str.ofString "default", w0)]) _ _ _
    obtain ⟨as, ra⟩ := readsAll_of (K := X.K) I sub rv hd
    have un := hr.un
    have hal : PySem.W.AlikeAll ds := ⟨alikeB_of h1, fun x hx e => by
      subst e
      unfold nonB at h2
      rw [List.all_eq_true] at h2
      exact absurd (h2 _ hx) (by simp)⟩
    refine PySem.W.min_list_default (hh := I.ok.hd hc) hl.isList (by simpa using ra) hal (by have := of_decide_eq_true h3; omega) (fun e h' tk hk => ?_) fun y ys i v h' tk bs e hi rr hk => ?_
    · subst e
      exact ⟨z, H, I.kept (t' := tk) hk, r0, q z hz⟩
    · subst e
      have hi' : its[i]? = some v := by simpa using hi
      have hlt : i < xs.length := by
        have := (List.getElem?_eq_some_iff.mp hi').1
        rw [rv.length]; exact this
      obtain ⟨x, ex⟩ : ∃ x, xs[i]? = some x := ⟨_, List.getElem?_eq_getElem hlt⟩
      obtain ⟨u, eu, ru⟩ := rv.get ex
      rw [hi'] at eu
      cases eu
      have hlt2 : i < (y :: ys).length := by rw [← dps_len hd]; exact hlt
      obtain ⟨x2, ex2, dx⟩ := dps_at hd (List.getElem?_eq_getElem hlt2)
      rw [ex] at ex2
      cases ex2
      have I2 : Inv X pins σ H { s with heap := h', toks := tk } := I.kept (t' := tk) hk
      obtain ⟨cs, r3⟩ := Dp.reads I2 (dp_mono sub dx) ru
      have em : (y :: ys)[i] = PySem.W.minD y ys := PySem.W.alike_unique _ _ _ _ _ (hal.1 _ (List.getElem_mem _) _ (minD_mem ys y)) r3 rr
      rw [em] at dx
      exact ⟨x, H, I2, ru, q x dx⟩
@[simp] def fMinD (f g : Fe) : Fe := fun γ => match f γ with
  | some (.list ds, γ1) => match g γ1 with
    | some (z, γ2) => if alikeB ds && nonB ds && decide (PyData.depthAll ds ≤ 20) then some (minL ds z, γ2) else none
    | none => none
  | _ => none
theorem ev_minD {a b : Expr} {f g : Fe} {k : Nat} {pos p kpos : Pos} (hc : X.calm = true) (hr : Room k X.A) (hm : X.mg "min" = none) (hg : Gl X "min") (ha : EV X a f) (hb : EV X b g)
    (hs : starEach [a] X.env = (false, eval a X.env) :: starEach [] X.env := by rfl)
    (he : backTo pos (starEach [a] X.env) = (false, eval a X.env) :: backTo pos (starEach [] X.env) := by rfl) (hpl : (backTo pos (starEach [a] X.env)).any (·.1) = false := by rfl)
    (hall : (backToKw pos (keywordEach [⟨some "default", b, kpos⟩] X.env)).all (·.1.isSome) = true := by rfl) (hnone : (backToKw pos (keywordEach [⟨some "default", b, kpos⟩] X.env)).any (·.1.isNone) = false := by rfl) (hks : (backToKw pos (keywordEach [⟨some "default", b, kpos⟩] X.env)).filterMap (·.1) = [Str.ofString "default"] := by rfl) :
    EV X (.Call (.Name "min" p) [a] [⟨some "default", b, kpos⟩] pos) (fMinD f g) := PE.imp (pe_callBK (cr_minD hc hr) hg hm (by decide +kernel) (pa_cons ha pa_nil hs) (pk_cons hb pk_nil) (he := he) (hpl := hpl) (hall := hall) (hnone := hnone) (hks := hks)) fun σ H Q ⟨γ, Hk, d, γ2, o, ee, q⟩ => by
  unfold fMinD at ee
  split at ee
  · rename_i ds γ1 ef
    split at ee
    · rename_i z γ2' eg
      split at ee <;> cases ee
      rename_i c
      rw [Bool.and_eq_true, Bool.and_eq_true] at c
      refine ⟨γ, Hk, _, γ1, o, ef, fun v H1 Hk1 g1 r1 => ?_⟩
      cases r1 with
      | lst h t => exact ⟨γ1, Hk1, z, _, g1.ok, eg, fun u H2 Hk2 g2 r2 => ⟨Hk2, _, _, ds, u, z, g2.ok.sub, rfl, rfl, r2, sql_mono g2.ok.sub (sql_mono g2.kk h), dps_mono g2.kk t, c.1.1, c.1.2, c.2, fun y dy => q y H2 Hk2 (g1.trans g2) dy⟩⟩
    · cases ee
  · cases ee
theorem dpall_mono {K : PySem.W.Frag} {H Hk : Hp} (s : Same Hk H) {vs : List V} {ds : List D} (h : DpAll K Hk vs ds) : DpAll K H vs ds := dps_mono s h
/-- a permutation of lasting data lasts -/
theorem dps_mem {K : PySem.W.Frag} {H : Hp} : ∀ {vs : List V} {ds : List D}, DpAll K H vs ds → ∀ d ∈ ds, ∃ v ∈ vs, Dp K H v d
  | _, _, .nil, d, h => by cases h
  | _, _, .cons a t, d, h => by
    rcases List.mem_cons.mp h with rfl | h
    · exact ⟨_, by simp, a⟩
    · obtain ⟨v, hv, r⟩ := dps_mem t d h
      exact ⟨v, by simp [hv], r⟩
end
/-! ### t[::-1], t a list -/
@[simp] def revLD : D → Option D
  | .list ds => some (.list ds.reverse)
  | _ => none
section
variable {W : WX} {X : Cx} {e : Expr} {f : Fe} {pos : Pos}
theorem ev_revL {k : Nat} {p1 p2 p3 : Pos} (he : EV X e f) : EV X (.Subscript e (.Slice none none (some (.UnaryOp .USub (.Constant (.int 1) k p1) p2)) p3) pos) (f1 revLD f) := by
  refine ⟨fun pins s σ H Q I h => ?_⟩
  obtain ⟨γ, Hk, dd, γ2, ok, ee, q⟩ := h
  unfold f1 at ee
  split at ee
  · rename_i dx γ1 ef
    split at ee
    · rename_i z eo
      cases ee
      unfold revLD at eo
      split at eo <;> cases eo
      rename_i ds
      refine Subscript_ (thn (he.run pins s σ H (fun v2 H2 => ∃ a xs Hk2, v2 = .ref a ∧ SqL X.K H2 a xs ∧ DpAll X.K Hk2 xs ds ∧ Go X.K σ H Hk γ σ H2 Hk2 γ2) I ⟨γ, Hk, _, _, ok, ef, fun v2 H2 Hk2 g2 r2 => by
        cases r2 with
        | lst hs ra => exact ⟨_, _, Hk2, rfl, sql_mono g2.ok.sub hs, ra, g2⟩⟩) fun v s1 ⟨x, H1, I1, r1, a, xs, Hk2, ex, hx, ra, g2⟩ => ?_)
      subst ex
      cases r1
      have hst : PO X (some (.UnaryOp .USub (.Constant (.int 1) k p1) p2)) (tPart (tUn (rU fun i => .int (-i)) (tC (.int 1)))) := po_some (pe_un un_neg pe_int)
      refine wpAny_Slice (thn (po_none.run pins s1 σ H1 (fun o H2 => o = none ∧ H2 = H1) I1 ⟨rfl, rfl⟩) fun vl s2 ⟨l, H2, I2, pl, el, e2⟩ => ?_)
      subst el e2
      refine thn (po_none.run pins s2 σ H2 (fun o H3 => o = none ∧ H3 = H2) I2 ⟨rfl, rfl⟩) fun vu s3 ⟨u, H3, I3, pu, eu, e3⟩ => ?_
      subst eu e3
      refine thn (hst.run pins s3 σ H3 (fun o H4 => o = some (-1) ∧ H4 = H3) I3 ⟨1, rfl, -1, rfl, rfl, rfl⟩) fun vs s4 ⟨o, H4, I4, ps, eo, e4⟩ => ?_
      subst eo e4
      have I5 : Inv X pins σ H4 { s4 with heap := s4.heap.push { cls := .type "slice", data := .fields #[vl, vu, vs] } } := I4.kept (t' := s4.toks) fun b ob q => Heap.get?_push_of_some _ q
      obtain ⟨its, r, ht, hz⟩ := I5.list hx
      have hlen := r.length
      show wpAny (model X.prog X.w) X.A (subscriptTail e (.Slice none none (some (.UnaryOp .USub (.Constant (.int 1) k p1) p2)) p3) (.ref a) (.ref s4.heap.objs.size)) (EP X pins σ Q) X.xe _
      refine tail_any (ops := [.ref a, .ref s4.heap.objs.size]) ht.isList.typeIs list_getitem_lookup ?_ (by with_unfolding_all rfl)
      refine wpAny_getItem_list_slice ht.isList (Heap.IsSliceOf.new _ vl vu _) pl pu ps (by simp) ?_ (by rw [List.size_toArray]; omega)
      rw [PySem.W.krv_pick]
      have fr := I5.hok.fresh (Nat.le_refl _)
      have gr : Grow H4 Hk2 (upd H4 _ (.lst xs.reverse)) (upd Hk2 _ (.lst xs.reverse)) := Grow.new g2.ok.sub fr
      refine ⟨.ref _, _, I5.laid (t' := s4.toks) (o := .lst xs.reverse) (fun b ob q => Heap.get?_push_of_some _ q) (Nat.le_refl _) ?_, rfl, q _ _ _ (g2.trans (g2.ok.go gr)) (.lst (SqL.of upd_same) (dps_mono gr.kk (dps_rev ra)))⟩
      exact ⟨by rw [List.length_reverse]; exact hz, _, 0, r.reverse, Heap.get?_push_size _ rfl⟩
    · cases ee
  · cases ee
end
end DN
namespace DN
open PySem PySem.Spec PyProof.Rows L2
/-! ### tuples of whole numbers as keys -/
section
variable {W : WX} {X : Cx} {pins : List (Addr × Obj)} {σ : L2.St} {H : Hp} {s : Shared}
theorem ints_are : ∀ {ks : List Int} {vs : List V} {us : List Value}, DpAll X.K H vs (ks.map .int) → Vals vs us → ItemsAre (intKind X.prog X.w) ks us
  | [], _, _, h, r => by
    cases h
    cases r
    exact .nil
  | k :: ks, _, _, h, r => by
    cases h with
    | cons a t =>
      cases a
      cases r with
      | cons ru rr =>
        obtain ⟨tk, rfl⟩ := ru
        exact .cons (show Value.isInt k (.int k tk) = true by simp [Value.isInt]) (ints_are t rr)
theorem key_at (I : Inv X pins σ H s) {a : Addr} {ks : List Int} (h : Dp X.K H (.ref a) (.tuple (ks.map .int))) : (tupleKind (intKind X.prog X.w)).is s.heap ks a := by
  cases h with
  | tup hs ra =>
    obtain ⟨its, r, ⟨o, ho, hc, n, hd⟩, _⟩ := I.tuple hs
    exact ⟨o, its.toArray, n, ho, hc, hd, by simpa using ints_are ra r⟩
/-- the keys of the entries are there -/
def KeysAt (K : PySem.W.Frag) (H : Hp) (xs : List (List Int × Addr × Value)) : Prop := ∀ x ∈ xs, Dp K H (.ref x.2.1) (.tuple (x.1.map .int))
theorem dict_at (I : Inv X pins σ H s) {P : Program} {w : World} {p : Addr} {xs : List (List Int × Addr × Value)} (hp : H p = some (dnt P w p xs)) (hk : KeysAt X.K H xs) (hn : (xs.map (·.1)).Nodup) : s.heap.DictOfH (tupleKind (intKind X.prog X.w)) p xs := by
  obtain ⟨⟨o, es, ep, h1, h2, h3, h4⟩, _, _⟩ := I.hok p _ hp
  exact ⟨o, es, ep, h1, h2, h3, h4, fun x hx => key_at I (hk x hx), hn⟩
theorem dnt_ok {P : Program} {w : World} {H' : Hp} {h' : Heap} {p : Addr} {xs : List (List Int × Addr × Value)} (h : h'.DictOfH (tupleKind (intKind P w)) p xs) : ObjOk P w H' h' p (dnt P w p xs) := by
  obtain ⟨o, es, ep, h1, h2, h3, h4, _, _⟩ := h
  exact ⟨⟨o, es, ep, h1, h2, h3, h4⟩, ⟨o, h1⟩, fun g g' ⟨o', es', ep', q1, q⟩ k => ⟨o', es', ep', k o' q1, q⟩⟩
/-- {}, to be a dict with such keys -/
def tDNew (P : Program) (w : World) : TE := fun _ H Q => ∀ p, H p = none → (p == sysModules) = false → Q (.ref p) (upd H p (dnt P w p []))
theorem pe_dnew {pos : Pos} : PE X (.Dict [] [] pos) (tDNew X.prog X.w) := by
  constructor
  intro pins s σ H Q I h
  have big := I.big
  have made := Heap.DictOfH.new (knd := tupleKind (intKind X.prog X.w)) s.heap
  refine wpAny_Dict_empty ?_
  exact ⟨.ref s.heap.objs.size, _, I.laid (t' := s.toks) (fun _ _ q => Heap.get?_push_of_some _ q) (Nat.le_refl _) (dnt_ok made), rfl, h _ (I.hok.fresh (Nat.le_refl _)) (beq_eq_false_iff_ne.mpr (Nat.ne_of_gt big))⟩
/-- what a method asks of its object: its type is known and it has no dict of its own -/
def TyAt (X : Cx) (T : String) (x : V) (H : Hp) : Prop := ∀ (pins : List (Addr × Obj)) (s : Shared) (σ : L2.St) (v : Value), Inv X pins σ H s → RelV x v → s.TypeIs v T ∧ ∀ a, v = .ref a → ∃ ob, s.heap.get? a = some ob ∧ ob.dict = none
theorem dnt_ty {P : Program} {w : World} {p : Addr} {xs : List (List Int × Addr × Value)} (hp : H p = some (dnt P w p xs)) : TyAt X "dict" (.ref p) H := by
  intro pins s σ v I r
  cases r
  obtain ⟨⟨o, es, ep, h1, h2, h3, h4⟩, _, _⟩ := I.hok p _ hp
  exact ⟨⟨o, h1, h2.1⟩, fun a e => by cases e; exact ⟨o, h1, h2.2.1⟩⟩
theorem pe_meth {o e : Expr} {es : List Expr} {to : TE} {t : TA} {name : Str} {apos cpos : Pos} {T id : String} {r : V → List V → Hp → VK → Prop}
    (pl : PlainAttrs T) (sl : Slot T name id) (ty : typeOf (.builtin id) = pure (.type "method_descriptor")) (mt : MtR X id r) (ho : PE X o to) (ha : PA X (e :: es) t)
    (base : attributeBase o name X.env (eval o X.env) = eval o X.env := by rfl)
    (few : ((backTo cpos (starEach (e :: es) X.env)).all (fun x => !x.1) && (backToKw cpos (keywordEach [] X.env)).all (fun x => x.1.isSome) && decide ((e :: es).length + ([] : List Keyword).length + (if ([] : List Keyword).isEmpty then 0 else 1) < 30)) = true := by rfl)
    (line : (apos.endLine == cpos.line) = true := by rfl) (hst : starEach (e :: es) X.env = (false, eval e X.env) :: starEach es X.env := by rfl) (hpl : (backTo cpos (starEach es X.env)).any (·.1) = false := by rfl) :
    PE X (.Call (.Attribute o name apos) (e :: es) [] cpos) (fun σ H Q => to σ H fun x H1 => TyAt X T x H1 ∧ t σ H1 fun xs H2 => r x xs H2 Q) := by
  constructor
  intro pins s σ H Q I h
  refine wpAny_Call_method_late base few line rfl ?_
  refine thn (ho.run pins s σ H _ I h) ?_
  rintro v s1 ⟨x, H1, I1, r1, tx, q1⟩
  obtain ⟨g1, g2⟩ := tx _ _ _ _ I1 r1
  refine ⟨T, id, pl, sl, ty, g1, g2, ?_⟩
  have later := ha.run cpos pins s1 σ H1 _ I1 q1
  rw [hst] at later ⊢
  have none_starred : ((false, eval e X.env) :: backTo cpos (starEach es X.env)).any (·.1) = false := by
    show (false || (backTo cpos (starEach es X.env)).any (·.1)) = false
    rw [hpl]
    rfl
  refine Calls.callWith_builtin none_starred (Calls.evalArgs_plain ?_)
  refine thn later ?_
  rintro us s2 ⟨vs, H2, I2, r2, q2⟩
  exact mt pins s2 σ H2 x vs v us Q I2 r1 r2 q2
/-- d.setdefault(k, v) -/
def rSetG (X : Cx) : V → List V → Hp → VK → Prop := fun x vs H Q => ∃ (p a l : Addr) (xs : List (List Int × Addr × Value)) (ks : List Int), x = .ref p ∧ vs = [.ref a, .ref l] ∧ H p = some (dnt X.prog X.w p xs) ∧ KeysAt X.K H xs ∧ (xs.map (·.1)).Nodup ∧ (p == sysModules) = false ∧ xs.length ≤ 1000000 ∧
  Dp X.K H (.ref a) (.tuple (ks.map .int)) ∧ (∀ q, atKey xs ks = some q → ∃ v, RelV v q.2 ∧ Q v H) ∧ (atKey xs ks = none → Q (.ref l) (upd H p (dnt X.prog X.w p (xs ++ [(ks, a, .ref l)]))))
theorem mt_setG {k : Nat} (hr : Room k X.A) : MtR X "dict.setdefault" (rSetG X) := by
  intro pins s σ H x vs v us Q I rx rv h
  obtain ⟨p, a, l, xs, ks, rfl, rfl, hp, hk, hn, hs, hz, ka, q1, q2⟩ := h
  cases rx
  cases rv with
  | cons r1 rr =>
    cases r1
    cases rr with
    | cons r2 rr2 =>
      cases r2
      cases rr2
      have un := hr.un
      refine call_setdefault_heap (hsz := Nat.le_trans hz (by decide)) (tupleKind_room_in1 (by omega)) (key_at I ka) hs (dict_at I hp hk hn) ?_ ?_
      · intro q hq
        obtain ⟨v, rv, z⟩ := q1 q hq
        exact ⟨v, H, I.tok _, rv, z⟩
      · intro hno h' hd hb
        rw [storedH_new hno] at hd
        have ex := hd
        obtain ⟨o, _, _, ho, _⟩ := ex
        exact ⟨.ref l, _, I.write (x := p) (e := p) (by rw [hp]; exact True.intro) (.inl rfl) (fun b u hne z => (hb.2 b hne).trans z) ⟨o, ho⟩ (dnt_ok hd), rfl, q2 hno⟩
/-- d.get(k, v) -/
def rGetG (X : Cx) : V → List V → Hp → VK → Prop := fun x vs H Q => ∃ (p a : Addr) (y : V) (P : Program) (w : World) (xs : List (List Int × Addr × Value)) (ks : List Int), x = .ref p ∧ vs = [.ref a, y] ∧ H p = some (dnt P w p xs) ∧ KeysAt X.K H xs ∧ (xs.map (·.1)).Nodup ∧ (p == sysModules) = false ∧
  Dp X.K H (.ref a) (.tuple (ks.map .int)) ∧ (∀ q, atKey xs ks = some q → ∃ v, RelV v q.2 ∧ Q v H) ∧ (atKey xs ks = none → Q y H)
theorem mt_getG {k : Nat} (hr : Room k X.A) : MtR X "dict.get" (rGetG X) := by
  intro pins s σ H x vs v us Q I rx rv h
  obtain ⟨p, a, y, P, w, xs, ks, rfl, rfl, hp, hk, hn, hs, ka, q1, q2⟩ := h
  cases rx
  cases rv with
  | cons r1 rr =>
    cases r1
    cases rr with
    | cons r2 rr2 =>
      cases rr2
      have un := hr.un
      refine getOr_keyed (kvs := pairsH xs) (tupleKind_room_in1 (by omega)) (key_at I ka) hs ⟨xs, dict_at I hp hk hn, rfl⟩ ?_
      rw [valueAt_pairsH]
      cases hq : atKey xs ks with
      | none => exact ⟨y, H, I.tok _, r2, q2 hq⟩
      | some q =>
        obtain ⟨v, rv, z⟩ := q1 q hq
        exact ⟨v, H, I.tok _, rv, z⟩
end
end DN
namespace DN
open PySem PySem.Spec PyProof.Rows L2
/-! ### dicts whose keys are tuples, as they stand in the heap -/
section
variable {X : Cx} {pins : List (Addr × Obj)} {σ : L2.St} {H : Hp} {s : Shared}
mutual
theorem nest_at (I : Inv X pins σ H s) : ∀ {v : V} {d : D} {u : Value} {k : NestedKey}, Dp X.K H v d → RelV v u → keyOf d = some k → NestedIs s.heap k u
  | _, _, _, _, .non, r, e => by
    cases r
    rw [keyOf] at e; cases e
    exact .none
  | _, _, _, _, .int i, r, e => by
    obtain ⟨t, rfl⟩ := r
    rw [keyOf] at e; cases e
    exact .int _ _
  | _, _, _, _, .tup hs ha, r, e => by
    cases r
    rw [keyOf] at e
    obtain ⟨ks, e1, rfl⟩ := Option.map_eq_some_iff.mp e
    obtain ⟨its, rv, ⟨o, ho, hc, n, hd⟩, _⟩ := I.tuple hs
    exact .tup ho hc hd (by simpa using nests_at I ha rv e1)
  | _, _, _, _, .bl b, r, e => by rw [keyOf] at e; cases e
  | _, _, _, _, .str x, r, e => by rw [keyOf] at e; cases e
  | _, _, _, _, .lst _ _, r, e => by rw [keyOf] at e; cases e
  | _, _, _, _, .dct _ _ _ _ _ _, r, e => by rw [keyOf] at e; cases e
theorem nests_at (I : Inv X pins σ H s) : ∀ {vs : List V} {ds : List D} {us : List Value} {ks : List NestedKey}, DpAll X.K H vs ds → Vals vs us → keysOf ds = some ks → NestedAll s.heap ks us
  | _, _, _, _, .nil, r, e => by
    cases r
    rw [keysOf] at e; cases e
    exact .nil
  | _, _, _, _, .cons h t, r, e => by
    cases r with
    | cons r1 r2 =>
      rw [keysOf] at e
      split at e
      · rename_i k ks' e1 e2
        cases e
        exact .cons (nest_at I h r1 e1) (nests_at I t r2 e2)
      · cases e
end
theorem keyN_at (I : Inv X pins σ H s) {a : Addr} {d : D} {k : NestedKey} (h : Dp X.K H (.ref a) d) (e : keyD d = some k) : (nestedKind X.prog X.w).is s.heap k a :=
  ⟨nest_at I h rfl (keyD_of e).2.1, (keyD_of e).2.2⟩
theorem ents_is (I : Inv X pins σ H s) : ∀ {xs : List (NestedKey × Addr × Value)} {kvs : List (D × D)}, DpEnts X.K H xs kvs → ∀ x ∈ xs, (nestedKind X.prog X.w).is s.heap x.1 x.2.1
  | _, _, .nil, x, h => by cases h
  | _, _, .cons h1 h2 _ _ t, x, h => by
    rcases List.mem_cons.mp h with rfl | h
    · exact keyN_at I h2 h1
    · exact ents_is I t x h
end
theorem entN_eq {P : Program} {w : World} {x : NestedKey × Addr × Value} {d : D} (h : keyD d = some x.1) : entryOfKey (nestedKind P w) x = entN x := by
  unfold entryOfKey entN
  rw [← hash_eq w (keyD_of h).2.1]
  rfl
theorem ents_map {P : Program} {w : World} {K : PySem.W.Frag} {H : Hp} : ∀ {xs : List (NestedKey × Addr × Value)} {kvs : List (D × D)}, DpEnts K H xs kvs → xs.map (entryOfKey (nestedKind P w)) = xs.map entN
  | _, _, .nil => rfl
  | _, _, .cons h1 _ _ _ t => by rw [List.map_cons, List.map_cons, entN_eq (x := (_, _, _)) h1, ents_map t]
theorem dictN_at {X : Cx} {pins : List (Addr × Obj)} {σ : L2.St} {H : Hp} {s : Shared} (I : Inv X pins σ H s) {p : Addr} {o : Obj} {xs : List (NestedKey × Addr × Value)} {kvs : List (D × D)} (hp : H p = some (dnO p o)) (ho : DictO o xs) (he : DpEnts X.K H xs kvs) (nd : (xs.map (·.1)).Nodup) :
    s.heap.DictOfH (nestedKind X.prog X.w) p xs := by
  obtain ⟨h1, _, _⟩ := I.hok p _ hp
  obtain ⟨hx, es, ep, hd, hes⟩ := ho
  exact ⟨o, es, ep, h1, hx, hd, by rw [hes, ents_map he], ents_is I he, nd⟩
theorem dnO_ok {P : Program} {w : World} {H' : Hp} {h' : Heap} {p : Addr} {o : Obj} (h : h'.get? p = some o) : ObjOk P w H' h' p (dnO p o) := ⟨h, ⟨o, h⟩, fun _ _ q k => k o q⟩
/-- what a rule leaves is again such a dict -/
theorem dictN_of {P : Program} {w : World} {h' : Heap} {p : Addr} {xs : List (NestedKey × Addr × Value)} {K : PySem.W.Frag} {H : Hp} {kvs : List (D × D)} (h : h'.DictOfH (nestedKind P w) p xs) (he : DpEnts K H xs kvs) : ∃ o, h'.get? p = some o ∧ DictO o xs ∧ (xs.map (·.1)).Nodup := by
  obtain ⟨o, es, ep, h1, h2, h3, h4, _, h6⟩ := h
  exact ⟨o, h1, ⟨h2, es, ep, h3, by rw [h4, ents_map he]⟩, h6⟩
/-! ### looked up, as data -/
def lookN (kvs : List (D × D)) (k : NestedKey) : Option D := (kvs.find? fun q => decide (keyD q.1 = some k)).map (·.2)
theorem lookN_at {K : PySem.W.Frag} {H : Hp} {k : NestedKey} : ∀ {xs : List (NestedKey × Addr × Value)} {kvs : List (D × D)}, DpEnts K H xs kvs →
    (∀ q, atKey xs k = some q → ∃ v d, lookN kvs k = some d ∧ RelV v q.2 ∧ Dp K H v d) ∧ (atKey xs k = none → lookN kvs k = none)
  | _, _, .nil => ⟨fun q h => (by cases h), fun _ => rfl⟩
  | _, _, .cons (k := nk) (a := a) (u := u) (kd := kd) (d := d) (xs := xs) (kvs := kvs) h1 h2 h3 h4 t => by
    obtain ⟨i1, i2⟩ := lookN_at (k := k) t
    unfold atKey lookN at *
    rw [List.find?_cons, List.find?_cons]
    show (∀ q, Option.map (·.2) (match decide (nk = k) with | true => some (nk, a, u) | false => List.find? (fun x => decide (x.1 = k)) xs) = some q → _) ∧ _
    by_cases c : nk = k
    · rw [decide_eq_true c, decide_eq_true (show keyD (kd, d).1 = some k by rw [← c]; exact h1)]
      exact ⟨fun q e => by cases e; exact ⟨_, d, rfl, h3, h4⟩, fun e => by cases e⟩
    · rw [decide_eq_false c, decide_eq_false (fun z => c (by rw [h1] at z; exact Option.some.inj z))]
      exact ⟨i1, fun e => i2 e⟩
/-- stored: at the key, or behind all -/
def storeN (kvs : List (D × D)) (kd : D) (k : NestedKey) (d : D) : List (D × D) :=
  if (lookN kvs k).isSome then kvs.map (fun q => if keyD q.1 = some k then (q.1, d) else q) else kvs ++ [(kd, d)]
theorem ents_put {K : PySem.W.Frag} {H : Hp} {k : NestedKey} {u : Value} {v : V} {d : D} (r : RelV v u) (h : Dp K H v d) : ∀ {xs : List (NestedKey × Addr × Value)} {kvs : List (D × D)}, DpEnts K H xs kvs →
    DpEnts K H (xs.map (putAt k u)) (kvs.map (fun q => if keyD q.1 = some k then (q.1, d) else q))
  | _, _, .nil => .nil
  | _, _, .cons (k := nk) (a := a) (u := u') (kd := kd) (d := d') h1 h2 h3 h4 t => by
    rw [List.map_cons, List.map_cons]
    by_cases c : nk = k
    · have e1 : putAt k u (nk, a, u') = (nk, a, u) := if_pos c
      have e2 : (if keyD (kd, d').1 = some k then ((kd, d').1, d) else (kd, d')) = (kd, d) := if_pos (by rw [← c]; exact h1)
      rw [e1, e2]
      exact .cons h1 h2 r h (ents_put r h t)
    · have e1 : putAt k u (nk, a, u') = (nk, a, u') := if_neg c
      have e2 : (if keyD (kd, d').1 = some k then ((kd, d').1, d) else (kd, d')) = (kd, d') := if_neg (fun z => c (by have z : keyD kd = some k := z; rw [h1] at z; exact Option.some.inj z))
      rw [e1, e2]
      exact .cons h1 h2 h3 h4 (ents_put r h t)
theorem ents_app {K : PySem.W.Frag} {H : Hp} : ∀ {xs ys : List (NestedKey × Addr × Value)} {kvs lws : List (D × D)}, DpEnts K H xs kvs → DpEnts K H ys lws → DpEnts K H (xs ++ ys) (kvs ++ lws)
  | _, _, _, _, .nil, h => h
  | _, _, _, _, .cons h1 h2 h3 h4 t, h => .cons h1 h2 h3 h4 (ents_app t h)
theorem ents_len {K : PySem.W.Frag} {H : Hp} : ∀ {xs : List (NestedKey × Addr × Value)} {kvs : List (D × D)}, DpEnts K H xs kvs → xs.length = kvs.length
  | _, _, .nil => rfl
  | _, _, .cons _ _ _ _ t => congrArg (· + 1) (ents_len t)
theorem look_some {K : PySem.W.Frag} {H : Hp} {k : NestedKey} {xs : List (NestedKey × Addr × Value)} {kvs : List (D × D)} (h : DpEnts K H xs kvs) : (lookN kvs k).isSome = (atKey xs k).isSome := by
  obtain ⟨a, b⟩ := lookN_at (k := k) h
  cases e : atKey xs k with
  | none => rw [b e]; rfl
  | some q =>
    obtain ⟨v, d, e1, _⟩ := a q e
    rw [e1]; rfl
theorem ents_store {K : PySem.W.Frag} {H : Hp} {k : NestedKey} {u : Value} {v : V} {d kd : D} {a : Addr} (ek : keyD kd = some k) (hk : Dp K H (.ref a) kd) (r : RelV v u) (h : Dp K H v d) {xs : List (NestedKey × Addr × Value)} {kvs : List (D × D)} (he : DpEnts K H xs kvs) :
    DpEnts K H (storedH xs k a u) (storeN kvs kd k d) := by
  unfold storedH storeN
  rw [look_some he]
  split
  · exact ents_put r h he
  · exact ents_app he (.cons ek hk r h .nil)
theorem storeN_len (kvs : List (D × D)) (kd : D) (k : NestedKey) (d : D) : (storeN kvs kd k d).length ≤ kvs.length + 1 := by
  unfold storeN
  split
  · rw [List.length_map]; omega
  · rw [List.length_append]; exact Nat.le_refl _
/-! ### the rules -/
def dicO (kvs : List (D × D)) (K : PySem.W.Frag) (H : Hp) (p : Addr) (o : Obj) (xs : List (NestedKey × Addr × Value)) : Prop := H p = some (dnO p o) ∧ DictO o xs ∧ DpEnts K H xs kvs ∧ (xs.map (·.1)).Nodup ∧ (p == sysModules) = false ∧ xs.length ≤ sizeLine
theorem Vw.dic {K : PySem.W.Frag} {H Hk : Hp} {v : V} {kvs : List (D × D)} (s : Same Hk H) (h : Vw K H Hk v (.dict kvs)) : ∃ p o xs, v = .ref p ∧ dicO kvs K H p o xs := by
  obtain ⟨p, o, xs, e, h1, h2, h3, h4, h5, h6⟩ := h.dct s
  exact ⟨p, o, xs, e, h1, h2, dpe_mono s h3, h4, h5, h6⟩
section
variable {X : Cx}
/-- k in d -/
def rInG (K : PySem.W.Frag) (f : Bool → Bool) : R2 := fun x y H Q => ∃ a p o xs kvs kd k, x = .ref a ∧ y = .ref p ∧ dicO kvs K H p o xs ∧ Dp K H (.ref a) kd ∧ keyD kd = some k ∧ Q (.bl (f (lookN kvs k).isSome)) H
theorem val_look {K : PySem.W.Frag} {H : Hp} {k : NestedKey} {xs : List (NestedKey × Addr × Value)} {kvs : List (D × D)} (h : DpEnts K H xs kvs) : (valueAt (pairsH xs) k).isSome = (lookN kvs k).isSome := by
  rw [valueAt_pairsH, Option.isSome_map, look_some h]
theorem op_inG {n : Nat} (hr : Room n X.A) : OpR X (compareOp .In) (rInG X.K id) := by
  intro pins s σ H x y v u Q I rx ry h
  obtain ⟨a, p, o, xs, kvs, kd, k, rfl, rfl, ⟨h1, h2, h3, h4, h5, h6⟩, hk, ek, q⟩ := h
  cases rx
  cases ry
  have un := hr.un
  refine in_keyed (kvs := pairsH xs) (knd := nestedKind X.prog X.w) (k := k) (by show X.A.in1.units + 8 < cLine; rw [Around.in1_units]; omega) (keyN_at I hk ek) h5 ⟨xs, dictN_at I h1 h2 h3 h4, rfl⟩ ?_
  rw [val_look h3]
  exact ⟨.bl _, H, I.tok _, rfl, q⟩
theorem op_notInG {n : Nat} (hr : Room n X.A) : OpR X (compareOp .NotIn) (rInG X.K not) := by
  intro pins s σ H x y v u Q I rx ry h
  obtain ⟨a, p, o, xs, kvs, kd, k, rfl, rfl, ⟨h1, h2, h3, h4, h5, h6⟩, hk, ek, q⟩ := h
  cases rx
  cases ry
  have un := hr.un
  refine notIn_keyed (kvs := pairsH xs) (knd := nestedKind X.prog X.w) (k := k) (by show X.A.in1.units + 8 < cLine; rw [Around.in1_units]; omega) (keyN_at I hk ek) h5 ⟨xs, dictN_at I h1 h2 h3 h4, rfl⟩ ?_
  rw [val_look h3]
  exact ⟨.bl _, H, I.tok _, rfl, q⟩
/-- d[k] -/
def rIxG (K : PySem.W.Frag) : R2 := fun x y H Q => ∃ a p o xs kvs kd k, x = .ref p ∧ y = .ref a ∧ dicO kvs K H p o xs ∧ Dp K H (.ref a) kd ∧ keyD kd = some k ∧ ∃ qq w, atKey xs k = some qq ∧ RelV w qq.2 ∧ Q w H
theorem at_look {K : PySem.W.Frag} {H : Hp} {k : NestedKey} {xs : List (NestedKey × Addr × Value)} {kvs : List (D × D)} (h : DpEnts K H xs kvs) {d : D} (e : lookN kvs k = some d) : ∃ q v, atKey xs k = some q ∧ RelV v q.2 ∧ Dp K H v d := by
  obtain ⟨a, b⟩ := lookN_at (k := k) h
  cases e1 : atKey xs k with
  | none => rw [b e1] at e; cases e
  | some q =>
    obtain ⟨v, d', e2, r, hd⟩ := a q e1
    rw [e] at e2; cases e2
    exact ⟨q, v, rfl, r, hd⟩
theorem ix_dic {n : Nat} (hr : Room n X.A) : IxR X (rIxG X.K) := by
  intro value slice pins s σ H x y v u Q I rx ry h hs
  obtain ⟨a, p, o, xs, kvs, kd, k, rfl, rfl, ⟨h1, h2, h3, h4, h5, h6⟩, hk, ek, qq, w, e1, rw', q⟩ := h
  cases rx
  cases ry
  have un := hr.un
  have hm := dictN_at I h1 h2 h3 h4
  exact tail_any hm.typeIs PySem.F.slot_dict_getitem.lookup (getItem_keyed (kvs := pairsH xs) (knd := nestedKind X.prog X.w) (k := k) (v := qq.2) (by show X.A.in1.units + 8 < cLine; rw [Around.in1_units]; omega) (keyN_at I hk ek) ⟨xs, hm, rfl⟩ (by rw [valueAt_pairsH, e1]; rfl)
    ⟨w, H, I.tok _, rw', q⟩) hs
/-- d.get(k), d.get(k, v) -/
def rGetN (K : PySem.W.Frag) : V → List V → Hp → VK → Prop := fun x vs H Q => ∃ a p o xs kvs kd k, x = .ref p ∧ dicO kvs K H p o xs ∧ Dp K H (.ref a) kd ∧ keyD kd = some k ∧ ((vs = [.ref a] ∧ (atKey xs k = none → Q .non H)) ∨ ∃ y, vs = [.ref a, y] ∧ (atKey xs k = none → Q y H)) ∧ ∀ qq, atKey xs k = some qq → ∃ w, RelV w qq.2 ∧ Q w H
theorem mt_getN {n : Nat} (hr : Room n X.A) : MtR X "dict.get" (rGetN X.K) := by
  intro pins s σ H x vs v us Q I rx rv h
  obtain ⟨a, p, o, xs, kvs, kd, k, rfl, ⟨h1, h2, h3, h4, h5, h6⟩, hk, ek, hv, q⟩ := h
  cases rx
  have un := hr.un
  have hm := dictN_at I h1 h2 h3 h4
  have ur : (nestedKind X.prog X.w).room X.A.in1 := by show X.A.in1.units + 8 < cLine; rw [Around.in1_units]; omega
  rcases hv with ⟨rfl, q0⟩ | ⟨y, rfl, q0⟩
  · cases rv with
    | cons r1 rr =>
      cases r1
      cases rr
      refine get_keyed (kvs := pairsH xs) ur (keyN_at I hk ek) h5 ⟨xs, hm, rfl⟩ ?_
      rw [valueAt_pairsH]
      cases e1 : atKey xs k with
      | none => exact ⟨.non, H, I.tok _, rfl, q0 e1⟩
      | some qq =>
        obtain ⟨w, rw', z⟩ := q qq e1
        exact ⟨w, H, I.tok _, rw', z⟩
  · cases rv with
    | cons r1 rr =>
      cases r1
      cases rr with
      | cons r2 rr2 =>
        cases rr2
        refine getOr_keyed (kvs := pairsH xs) ur (keyN_at I hk ek) h5 ⟨xs, hm, rfl⟩ ?_
        rw [valueAt_pairsH]
        cases e1 : atKey xs k with
        | none => exact ⟨y, H, I.tok _, r2, q0 e1⟩
        | some qq =>
          obtain ⟨w, rw', z⟩ := q qq e1
          exact ⟨w, H, I.tok _, rw', z⟩
/-- d[k] = v -/
def rSetN (K : PySem.W.Frag) : V → V → V → Hp → (Hp → Prop) → Prop := fun o i v H Q => ∃ p ob xs kvs a kd k d, o = .ref p ∧ i = .ref a ∧ dicO kvs K H p ob xs ∧ Dp K H (.ref a) kd ∧ keyD kd = some k ∧ Dp K H v d ∧ xs.length < sizeLine ∧
  ∀ o2 u, RelV v u → DictO o2 (storedH xs k a u) → ((storedH xs k a u).map (·.1)).Nodup → (storedH xs k a u).length ≤ sizeLine → Q (upd H p (dnO p o2))
theorem set_dicN {n : Nat} (hr : Room n X.A) : PSet X (rSetN X.K) := by
  intro pins s σ H o i v ov iv u Q I ro ri rv h
  obtain ⟨p, ob, xs, kvs, a, kd, k, d, rfl, rfl, ⟨h1, h2, h3, h4, h5, h6⟩, hk, ek, hd, hz, q⟩ := h
  cases ro
  cases ri
  have un := hr.un
  have hm := dictN_at I h1 h2 h3 h4
  refine wpAny_setItem_heap (hsz := h6) (by show X.A.in1.units + 8 < cLine; rw [Around.in1_units]; omega) (keyN_at I hk ek) hm fun h' hm' hs => ?_
  obtain ⟨o2, ho2, hd2, nd2⟩ := dictN_of hm' (ents_store ek hk rv hd h3)
  have hl : (storedH xs k a u).length ≤ sizeLine := by
    rw [ents_len (ents_store ek hk rv hd h3)]
    have := storeN_len kvs kd k d
    rw [← ents_len h3] at this
    omega
  exact ⟨_, I.write (x := p) (e := p) (by rw [h1]; exact True.intro) (.inl rfl) (fun b u hne z => (hs.2 b hne).trans z) ⟨o2, ho2⟩ (dnO_ok ho2), q o2 u rv hd2 nd2 hl⟩
/-- {}, to be a dict with tuples as keys -/
def tDicNew : TE := fun _ H Q => ∀ p o, H p = none → (p == sysModules) = false → DictO o [] → Q (.ref p) (upd H p (dnO p o))
theorem pe_dicNew {pos : Pos} : PE X (.Dict [] [] pos) tDicNew := by
  constructor
  intro pins s σ H Q I h
  have big := I.big
  refine wpAny_Dict_empty ?_
  have e : (s.heap.push { cls := .type "dict", data := .dict #[] }).get? s.heap.objs.size = some { cls := .type "dict", data := .dict #[] } := Heap.get?_push_size _ rfl
  exact ⟨.ref s.heap.objs.size, _, I.laid (t' := s.toks) (fun _ _ q => Heap.get?_push_of_some _ q) (Nat.le_refl _) (dnO_ok e), rfl, h _ _ (I.hok.fresh (Nat.le_refl _)) (beq_eq_false_iff_ne.mpr (Nat.ne_of_gt big)) ⟨⟨rfl, rfl, rfl⟩, #[], 0, rfl, rfl⟩⟩
theorem dnO_ty {p : Addr} {o : Obj} {xs : List (NestedKey × Addr × Value)} {H : Hp} (hp : H p = some (dnO p o)) (ho : DictO o xs) : TyAt X "dict" (.ref p) H := by
  intro pins s σ v I r
  cases r
  obtain ⟨h1, _, _⟩ := I.hok p _ hp
  exact ⟨⟨o, h1, ho.1.1⟩, fun a e => by cases e; exact ⟨o, h1, ho.1.2.1⟩⟩
end
end DN
namespace DN
open PySem PySem.Spec PyProof.Rows L2
/-! ### walks over the keys of a dict -/
def Itn (d : Addr) (o : Obj) (xs : List (NestedKey × Addr × Value)) : It where
  go i H := H d = some (dnO d o) ∧ i < xs.length
  yld i H x H' := H' = H ∧ ∃ e, xs[i]? = some e ∧ x = .ref e.2.1
  stop i H := H d = some (dnO d o) ∧ xs.length ≤ i
theorem ent_at {o : Obj} {xs : List (NestedKey × Addr × Value)} (h : DictO o xs) : o.ExactDict ∧ ∃ es ep, o.data = .dict es ep ∧ es.size = xs.length ∧ ∀ (i : Nat) (e : NestedKey × Addr × Value), xs[i]? = some e → ∃ en, es[i]? = some en ∧ en.key = .ref e.2.1 ∧ en.val = e.2.2 := by
  obtain ⟨hx, es, ep, hd, he⟩ := h
  refine ⟨hx, es, ep, hd, ?_, fun i e h1 => ?_⟩
  · rw [← Array.length_toList, he, List.length_map]
  · refine ⟨entN e, ?_, rfl, rfl⟩
    rw [← Array.getElem?_toList, he, List.getElem?_map, h1]
    rfl
section
variable {P : Program} {w : World} {K : PySem.W.Frag} {tg : Expr} {d it : Addr} {o : Obj} {xs : List (NestedKey × Addr × Value)} {es : Array DictEntry} {ep : Nat}
theorem turnN (ho : DictO o xs) (hod : o.data = .dict es ep) : Turn P w K tg (Itn d o xs) [it] it (fun i h => h.IsKeyIter it d i xs.length ep) := by
  obtain ⟨hx, es', ep', hd', hz, he⟩ := ent_at ho
  rw [hod] at hd'
  cases hd'
  refine ⟨List.mem_singleton.mpr rfl, fun i h st b hb => ?_, fun i h h' st k => ?_, ?_, ?_, fun A i s Q E st h => wpAny_pyIter_keyiter st h⟩
  · obtain ⟨oi, q1, q2, q3⟩ := st
    refine ⟨oi, by rw [List.mem_singleton.mp hb]; exact q1, fun v z => ?_⟩
    rw [q3] at z; cases z
  · exact st.at fun oi q => k it (List.mem_singleton.mpr rfl) oi q
  · intro X e1 e2 e3 hc i pins s σ H E I hf st hg
    subst e1; subst e2; subst e3
    obtain ⟨f0, f1, f2, f3, f4, f5⟩ := hf it (List.mem_singleton.mpr rfl)
    obtain ⟨hgd, _, _⟩ := I.hok d _ hg.1
    obtain ⟨e, hi⟩ : ∃ e, xs[i]? = some e := ⟨_, List.getElem?_eq_getElem hg.2⟩
    obtain ⟨en, hen, hk, _⟩ := he i _ hi
    refine next_key_item st hgd hod hz hen fun h' st' sb => ?_
    have I1 : Inv X pins σ H { s with heap := h' } := I.turned (t' := s.toks) (fun b ob hb q => (sb.2 b hb).trans q) f0 f1 f3 f4 f5
    obtain ⟨oi, q1, q2, q3⟩ := id st'
    exact ⟨en.key, rfl, go_of (s := { s with heap := h' }) q1 q2 q3 (by decide) ⟨.ref e.2.1, H, I1, hk, ⟨rfl, _, hi, rfl⟩, st', fun b hb => (hf b hb).1⟩⟩
  · intro X e1 e2 e3 hc i pins s σ H E I hf st hg
    subst e1; subst e2; subst e3
    obtain ⟨f0, f1, f2, f3, f4, f5⟩ := hf it (List.mem_singleton.mpr rfl)
    obtain ⟨hgd, _, _⟩ := I.hok d _ hg.1
    exact next_key_end (I.ok.hd hc) st hgd hod hz hg.2 fun h' eb => ⟨rfl, I.turned (t' := s.toks) (fun b ob hb q => eb b ob hb q) f0 f1 f3 f4 f5⟩
end
def iKeyN (td : TE) : TI := fun σ H R => td σ H fun x H1 => ∃ d o xs, x = .ref d ∧ H1 d = some (dnO d o) ∧ DictO o xs ∧ (d == sysModules) = false ∧ R (Itn d o xs) H1
theorem pi_keyN {X : Cx} {tg e : Expr} {td : TE} (he : PE X e td) : PI X tg e (iKeyN td) := by
  refine ⟨fun pins s σ H R I h => ?_⟩
  refine thn (he.run pins s σ H _ I h) fun u s1 ⟨x, H1, I1, rx, d, o, xs, ex, hd, ho, hs, q⟩ => ?_
  subst ex
  obtain rfl : u = Value.ref d := rx
  obtain ⟨hgd, _, _⟩ := I1.hok d _ hd
  obtain ⟨hx, es, ep, hdt, hz, _⟩ := ent_at ho
  refine iter_keys hs hgd hx hdt (pi_one (tk := s1.toks) I1 _ (turnN ho hdt) ⟨_, Heap.get?_push_size _ rfl, rfl, ?_⟩ q)
  rw [hz]
  rfl
section
variable {K : PySem.W.Frag}
theorem ents_key {H : Hp} : ∀ {xs : List (NestedKey × Addr × Value)} {kvs : List (D × D)}, DpEnts K H xs kvs → ∀ (i : Nat) (h : i < kvs.length), ∃ e, xs[i]? = some e ∧ Dp K H (.ref e.2.1) (kvs[i].1) ∧ ∃ v, RelV v e.2.2 ∧ Dp K H v (kvs[i].2)
  | _, _, .nil, i, h => absurd h (Nat.not_lt_zero _)
  | _, _, .cons h1 h2 h3 h4 t, 0, _ => ⟨_, rfl, h2, _, h3, h4⟩
  | _, _, .cons h1 h2 h3 h4 t, i + 1, h => ents_key t i (Nat.lt_of_succ_lt_succ h)
theorem walks_k {Hk : Hp} {d : Addr} {o : Obj} {xs : List (NestedKey × Addr × Value)} {kvs : List (D × D)} (hd : Hk d = some (dnO d o)) (he : DpEnts K Hk xs kvs) : Walks K (Itn d o xs) (kvs.map (·.1)) Hk := fun H Hc s1 s2 => by
  have hh : H d = some (dnO d o) := s2 _ _ (s1 _ _ hd)
  have hl := ents_len he
  refine ⟨fun i hi => ?_, fun i hi => ⟨hh, by rw [List.length_map] at hi; omega⟩⟩
  have hi' : i < kvs.length := by simpa using hi
  obtain ⟨e, e1, r, _⟩ := ents_key he i hi'
  refine ⟨⟨hh, by omega⟩, fun x H' y => ?_⟩
  obtain ⟨rfl, e', e2, rfl⟩ := y
  rw [e1] at e2; cases e2
  exact ⟨Hc, Grow.refl s2, by simpa using dp_mono s1 r⟩
end
@[simp] def wKey (f : Fe) : Fa := fun γ => match f γ with
  | some (.dict kvs, γ1) => some (kvs.map (·.1), γ1)
  | _ => none
theorem ei_key {X : Cx} {tg e : Expr} {f : Fe} (h : EV X e f) : EI X tg e (wKey f) := PI.imp (pi_keyN h) fun σ H R ⟨γ, Hk, ds, γ2, o, ee, q⟩ => by
  unfold wKey at ee
  split at ee <;> cases ee
  rename_i ef
  refine ⟨γ, Hk, _, _, o, ef, fun v H1 Hk1 g1 r1 => ?_⟩
  cases r1 with
  | dct h1 h2 h3 h4 h5 h6 => exact ⟨_, _, _, rfl, g1.ok.sub _ _ h1, h2, h5, q _ H1 Hk1 g1 (walks_k h1 h3)⟩
/-! ### in, d[k], d.get: as functions of data -/
@[simp] def inX (x y : D) : Option D := match y with
  | .dict kvs => match keyD x with
    | some k => some (.bool (lookN kvs k).isSome)
    | none => none
  | _ => inD x y
@[simp] def notInX (x y : D) : Option D := match y with
  | .dict kvs => match keyD x with
    | some k => some (.bool (!(lookN kvs k).isSome))
    | none => none
  | _ => notInD x y
@[simp] def ixX (x y : D) : Option D := match x with
  | .dict kvs => match keyD y with
    | some k => lookN kvs k
    | none => none
  | _ => ixD x y
section
variable {X : Cx} {K : PySem.W.Frag}
theorem key_ref {H : Hp} {v : V} {d : D} {k : NestedKey} (h : Dp K H v d) (e : keyD d = some k) : ∃ a, v = .ref a := by
  obtain ⟨ds, rfl⟩ := (keyD_of e).1
  cases h
  exact ⟨_, rfl⟩
theorem Vw.key {H Hk : Hp} {v : V} {d : D} {k : NestedKey} (s : Same Hk H) (h : Vw K H Hk v d) (e : keyD d = some k) : ∃ a, v = .ref a ∧ Dp K H (.ref a) d := by
  obtain ⟨a, rfl⟩ := key_ref (h.dp s) e
  exact ⟨a, rfl, h.dp s⟩
abbrev rInX (K : PySem.W.Frag) (f : Bool → Bool) : R2 := fun x y H Q => ((∃ i j, x = .str i ∧ y = .str j ∧ Q (.bl (f (!(Builtin.Str.occurrences j i 0 j.length 1).isEmpty))) H) ∨ rInN K f x y H Q) ∨ rInG K f x y H Q
theorem o_inX : Op2 K (rInX K id) inX := by
  intro H Hk x y dx dy dz Q s vx vy e q
  unfold inX at e
  split at e
  · split at e <;> cases e
    rename_i ek
    obtain ⟨p, o, xs, rfl, hd⟩ := vy.dic s
    obtain ⟨a, rfl, hk⟩ := vx.key s ek
    exact .inr ⟨a, p, o, xs, _, _, _, rfl, rfl, hd, hk, ek, q _ H Hk (Grow.refl s) (.bl _)⟩
  · exact .inl (o_in H Hk x y dx dy dz Q s vx vy e q)
theorem o_notInX : Op2 K (rInX K not) notInX := by
  intro H Hk x y dx dy dz Q s vx vy e q
  unfold notInX at e
  split at e
  · split at e <;> cases e
    rename_i ek
    obtain ⟨p, o, xs, rfl, hd⟩ := vy.dic s
    obtain ⟨a, rfl, hk⟩ := vx.key s ek
    exact .inr ⟨a, p, o, xs, _, _, _, rfl, rfl, hd, hk, ek, q _ H Hk (Grow.refl s) (.bl _)⟩
  · exact .inl (o_notIn H Hk x y dx dy dz Q s vx vy e q)
theorem x_inX {n : Nat} (hr : Room n X.A) : OpR X (compareOp .In) (rInX X.K id) := (x_in (u65 hr)).or (op_inG hr)
theorem x_notInX {n : Nat} (hr : Room n X.A) : OpR X (compareOp .NotIn) (rInX X.K not) := (x_notIn (u65 hr)).or (op_notInG hr)
end
section
variable {K : PySem.W.Frag}
abbrev rIxX (K : PySem.W.Frag) : R2 := fun x y H Q => rIx K x y H Q ∨ rIxG K x y H Q
/-- what stands in a dict that is seen lasts -/
theorem Vw.dicK {H Hk : Hp} {v : V} {kvs : List (D × D)} (s : Same Hk H) (h : Vw K H Hk v (.dict kvs)) : ∃ p o xs, v = .ref p ∧ dicO kvs K H p o xs ∧ DpEnts K Hk xs kvs := by
  obtain ⟨p, o, xs, e, h1, h2, h3, h4, h5, h6⟩ := h.dct s
  exact ⟨p, o, xs, e, ⟨h1, h2, dpe_mono s h3, h4, h5, h6⟩, h3⟩
theorem o_ixX : Op2 K (rIxX K) ixX := by
  intro H Hk x y dx dy dz Q s vx vy e q
  unfold ixX at e
  split at e
  · split at e
    · rename_i ek
      obtain ⟨p, o, xs, rfl, hd, he⟩ := vx.dicK s
      obtain ⟨a, rfl, hk⟩ := vy.key s ek
      obtain ⟨qq, w, e1, r, hw⟩ := at_look he e
      exact .inr ⟨a, p, o, xs, _, _, _, rfl, rfl, hd, hk, ek, qq, w, e1, r, q _ H Hk (Grow.refl s) hw⟩
    · cases e
  · exact .inl (o_ix H Hk x y dx dy dz Q s vx vy e q)
end
section
variable {X : Cx} {a b : Expr} {f g : Fe} {pos : Pos} {n : Nat}
theorem dix (hr : Room n X.A) (ha : EV X a f) (hb : EV X b g) (hs : PlainIx b) : EV X (.Subscript a b pos) (f2 ixX f g) := PE.imp (pe_ix (ix_seq.or (ix_dic hr)) ha hb hs) fun _ _ _ h => t2 o_ixX h
theorem dixn {i : Nat} (hr : Room n X.A) (ha : PE X a (tVar i)) (hb : EV X b g) (hs : PlainIx b) : EV X (.Subscript a b pos) (f2n ixX i g) := PE.imp (pe_ix (ix_seq.or (ix_dic hr)) ha hb hs) fun _ _ _ h => t2n o_ixX h
theorem dixm {j : Nat} (hr : Room n X.A) (ha : EV X a f) (hb : PE X b (tVar j)) (hs : PlainIx b) : EV X (.Subscript a b pos) (f2m ixX f j) := PE.imp (pe_ix (ix_seq.or (ix_dic hr)) ha hb hs) fun _ _ _ h => t2m o_ixX h
theorem dixnn {i j : Nat} (hr : Room n X.A) (ha : PE X a (tVar i)) (hb : PE X b (tVar j)) (hs : PlainIx b) : EV X (.Subscript a b pos) (f2nn ixX i j) := PE.imp (pe_ix (ix_seq.or (ix_dic hr)) ha hb hs) fun _ _ _ h => t2nn o_ixX h
end
/-! ### d.get -/
@[simp] def fGet1 (i : Nat) (f : Fe) : Fe := fun γ => match view γ i with
  | some (.dict _) => match f γ with
    | some (kd, γ1) => match view γ1 i with
      | some (.dict kvs) => match keyD kd with
        | some k => some ((lookN kvs k).getD .none, γ1)
        | none => none
      | _ => none
    | none => none
  | _ => none
@[simp] def fGet2 (i : Nat) (f g : Fe) : Fe := fun γ => match view γ i with
  | some (.dict _) => match f γ with
    | some (kd, γ1) => match keyD kd with
      | some k => match g γ1 with
        | some (z, γ2) => match view γ2 i with
          | some (.dict kvs) => some ((lookN kvs k).getD z, γ2)
          | _ => none
        | none => none
      | none => none
    | none => none
  | _ => none
section
variable {X : Cx} {i : Nat}
theorem ev_get1 {n : Nat} (hr : Room n X.A) {d ke : Expr} {f : Fe} {a1 c1 : Pos} (hd : PE X d (tVar i)) (hk : EV X ke f)
    (b1 : attributeBase d "get" X.env (eval d X.env) = eval d X.env := by rfl)
    (f1' : ((backTo c1 (starEach [ke] X.env)).all (fun x => !x.1) && (backToKw c1 (keywordEach [] X.env)).all (fun x => x.1.isSome) && decide ([ke].length + ([] : List Keyword).length + (if ([] : List Keyword).isEmpty then 0 else 1) < 30)) = true := by rfl)
    (l1 : (a1.endLine == c1.line) = true := by rfl) (s1 : starEach [ke] X.env = (false, eval ke X.env) :: starEach [] X.env := by rfl) (p1 : (backTo c1 (starEach [] X.env)).any (·.1) = false := by rfl) :
    EV X (.Call (.Attribute d "get" a1) [ke] [] c1) (fGet1 i f) :=
  PE.imp (pe_meth PySem.F.plainAttrs_dict PySem.F.slot_dict_get PySem.F.type_dict_get (mt_getN hr) hd (pa_cons hk pa_nil s1) b1 f1' l1 s1 p1) fun σ H Q ⟨γ, Hk, dd, γ2, o, ee, q⟩ => by
  unfold fGet1 at ee
  split at ee
  · rename_i kv0 e0
    split at ee
    · rename_i kd γ1 ef
      split at ee
      · rename_i kvs ev
        split at ee <;> cases ee
        rename_i k ek
        obtain ⟨v0, ev0, w0⟩ := o.view e0
        obtain ⟨p0, o0, xs0, rfl, hd0⟩ := w0.dic o.sub
        refine ⟨.ref p0, ev0, dnO_ty hd0.1 hd0.2.1, γ, Hk, kd, _, o, ef, fun v1 H1 Hk1 g1 r1 => ?_⟩
        obtain ⟨v2, ev2, w2⟩ := g1.ok.view ev
        rw [ev0] at ev2; cases ev2
        obtain ⟨p1, o1, xs1, e1, hd1, he1⟩ := w2.dicK g1.ok.sub
        cases e1
        obtain ⟨a, rfl⟩ := key_ref r1 ek
        refine ⟨a, p0, o1, xs1, kvs, kd, k, rfl, hd1, dp_mono g1.ok.sub r1, ek, .inl ⟨rfl, fun no => ?_⟩, fun qq hq => ?_⟩
        · rw [(lookN_at he1).2 no] at q
          exact q .non H1 Hk1 g1 .non
        · obtain ⟨w, d, e2, rw', hw⟩ := (lookN_at he1).1 qq hq
          rw [e2] at q
          exact ⟨w, rw', q w H1 Hk1 g1 hw⟩
      · cases ee
    · cases ee
  · cases ee
theorem ev_get2 {n : Nat} (hr : Room n X.A) {d ke y : Expr} {f g : Fe} {a1 c1 : Pos} (hd : PE X d (tVar i)) (hk : EV X ke f) (hy : EV X y g)
    (b1 : attributeBase d "get" X.env (eval d X.env) = eval d X.env := by rfl)
    (f1' : ((backTo c1 (starEach [ke, y] X.env)).all (fun x => !x.1) && (backToKw c1 (keywordEach [] X.env)).all (fun x => x.1.isSome) && decide ([ke, y].length + ([] : List Keyword).length + (if ([] : List Keyword).isEmpty then 0 else 1) < 30)) = true := by rfl)
    (l1 : (a1.endLine == c1.line) = true := by rfl) (s1 : starEach [ke, y] X.env = (false, eval ke X.env) :: starEach [y] X.env := by rfl) (p1 : (backTo c1 (starEach [y] X.env)).any (·.1) = false := by rfl)
    (s1' : starEach [y] X.env = (false, eval y X.env) :: starEach [] X.env := by rfl) : EV X (.Call (.Attribute d "get" a1) [ke, y] [] c1) (fGet2 i f g) :=
  PE.imp (pe_meth PySem.F.plainAttrs_dict PySem.F.slot_dict_get PySem.F.type_dict_get (mt_getN hr) hd (pa_cons hk (pa_cons hy pa_nil s1') s1) b1 f1' l1 s1 p1) fun σ H Q ⟨γ, Hk, dd, γ2, o, ee, q⟩ => by
  unfold fGet2 at ee
  split at ee
  · rename_i kv0 e0
    split at ee
    · rename_i kd γ1 ef
      split at ee
      · rename_i k ek
        split at ee
        · rename_i z γ3 eg
          split at ee <;> cases ee
          rename_i kvs ev
          obtain ⟨v0, ev0, w0⟩ := o.view e0
          obtain ⟨p0, o0, xs0, rfl, hd0⟩ := w0.dic o.sub
          refine ⟨.ref p0, ev0, dnO_ty hd0.1 hd0.2.1, γ, Hk, kd, γ1, o, ef, fun v1 H1 Hk1 g1 r1 => ⟨γ1, Hk1, z, _, g1.ok, eg, fun y2 H2 Hk2 g2 r2 => ?_⟩⟩
          obtain ⟨v2, ev2, w2⟩ := g2.ok.view ev
          rw [ev0] at ev2; cases ev2
          obtain ⟨p1, o1, xs1, e1, hd1, he1⟩ := w2.dicK g2.ok.sub
          cases e1
          obtain ⟨a, rfl⟩ := key_ref r1 ek
          refine ⟨a, p0, o1, xs1, kvs, kd, k, rfl, hd1, dp_mono (g2.kk.trans g2.ok.sub) r1, ek, .inr ⟨y2, rfl, fun no => ?_⟩, fun qq hq => ?_⟩
          · rw [(lookN_at he1).2 no] at q
            exact q y2 H2 Hk2 (g1.trans g2) r2
          · obtain ⟨w, d, e2, rw', hw⟩ := (lookN_at he1).1 qq hq
            rw [e2] at q
            exact ⟨w, rw', q w H2 Hk2 (g1.trans g2) hw⟩
        · cases ee
      · cases ee
    · cases ee
  · cases ee
end
/-! ### d = {}; d[k] = v -/
@[simp] def sDicNew (i : Nat) : Fs := fun γ => if pinB γ i then none else some (.nx (γ.set i (some (.ow false (.dic [])))))
@[simp] def sDicPut (i : Nat) (f g : Fe) : Fs := fun γ => match f γ with
  | some (d, γ1) => match gt γ1 i with
    | some (.ow _ (.dic _)) => match g γ1 with
      | some (kd, γ2) => match gt γ2 i with
        | some (.ow b (.dic kvs)) => match keyD kd with
          | some k => if okN kvs.length then some (.nx (γ2.set i (some (.ow b (.dic (storeN kvs kd k d)))))) else none
          | none => none
        | _ => none
      | none => none
    | _ => none
  | none => none
section
variable {W : WX} {X : Cx} {e a i' : Expr} {f g : Fe} {pos : Pos}
theorem es_dicNew (i : Nat) {x : Str} {p' dp pos : Pos} (hN : X.N.Nodup) (hi : X.N[i]? = some x) (hx : Loc X.env.scope x) (hs : swapsWith (.Dict [] [] dp) (some (.Name x p')) pos.line X.env = pure false := by rfl)
    (hf : X.fn x = true ∨ X.env.scope.names.lookup x = some .local := by first | exact .inl rfl | exact .inr rfl | assumption) : ES X W (.Assign [.Name x p'] (.Dict [] [] dp) pos) (sDicNew i) :=
  PS.imp (ps_set hN hi hx pe_dicNew hs hf) fun Z σ H ⟨γ, Hk, o, k, e, q⟩ => by
  unfold sDicNew at e
  split at e <;> cases e
  rename_i c
  intro p ob hp hs ho
  exact q _ _ _ (k.setNew (same_upd hp) (.dic upd_same (k.sub.free hp) ho .nil List.nodup_nil hs (Nat.zero_le _)) (fun a ha => by rw [List.mem_singleton.mp ha]; exact hp) (noPin_of k (by simpa using c)))
theorem es_dicPut (i : Nat) {n : Nat} (hr : Room n X.A) {p' : Pos} (he : EV X e f) (ho : PE X a (tVar i)) (hi : EV X i' g)
    (ha : ∀ v, assign (.Subscript a i' p') X.env v = (do
      let ov ← holding [v] (eval a X.env)
      let iv ← holding [v, ov] (eval i' X.env)
      standAt p'
      holding [v, ov, iv] (setItem ov iv v)
      release [v, ov, iv] []) := by intro _; rfl)
    (hs : swapsWithSole [.Subscript a i' p'] e pos.line X.env = pure false := by rfl) (hw : swappedStores [.Subscript a i' p'] e X.env = pure none := by rfl)
    (h1 : (assignEach [.Subscript a i' p'] X.env).map (·.2) = [assign (.Subscript a i' p') X.env] := by rfl) : ES X W (.Assign [.Subscript a i' p'] e pos) (sDicPut i f g) :=
  PS.imp (ps_asg he (pg_sub ho hi (set_dicN hr) ha) hs hw h1) fun Z σ H ⟨γ, Hk, o, k, e, q⟩ => by
  unfold sDicPut at e
  split at e
  · rename_i d γ1 ef
    split at e
    · rename_i b0 kv0 e0
      split at e
      · rename_i kd γ2 eg
        split at e
        · rename_i b kvs eo
          split at e
          · rename_i key ek
            split at e <;> cases e
            rename_i c
            refine ⟨γ, Hk, d, γ1, k, ef, fun v H1 Hk1 g1 r1 => ?_⟩
            obtain ⟨v0, fp0, e1, r0⟩ := g1.ok.ow i _ _ e0
            obtain ⟨p, rfl⟩ : ∃ p, v0 = .ref p := by cases r0; exact ⟨_, rfl⟩
            refine ⟨_, e1, γ1, Hk1, kd, γ2, g1.ok, eg, fun w H2 Hk2 g2 r2 => ?_⟩
            obtain ⟨v2, fp2, e2, r3⟩ := g2.ok.ow i _ _ eo
            rw [e1] at e2; cases e2
            have r3' := r3
            cases r3 with
            | @dic p o xs kvs h1 h2 h3 h4 h5 h6 h7 =>
              obtain ⟨a', rfl⟩ := key_ref r2 ek
              have sub := g2.ok.sub
              have rv := dp_mono g2.kk r1
              refine ⟨p, o, xs, kvs, a', kd, key, d, rfl, rfl, ⟨h1, h3, dpe_mono sub h4, h5, h6, h7⟩, dp_mono sub r2, ek, dp_mono sub rv, by rw [ents_len h4]; exact okN_lt c, fun o2 u ru ho2 nd2 hl2 => ?_⟩
              exact q _ _ _ ((g1.trans g2).trans (g2.ok.change eo e1 r3' (fun x y hx hn => by rw [upd_ne (fun z => hn (by simp [z]))]; exact hx) (.dic upd_same h2 ho2 (ents_store ek r2 ru rv h4) nd2 h6 hl2) (fun x hx => .inl hx)))
          · cases e
        · cases e
      · cases e
    · cases e
  · cases e
end
end DN
namespace DN
open PySem PySem.Spec PyProof.Rows L2
/-! ### {k: v for .. in .. if ..}: keys that are tuples -/
abbrev noDict : Obj := { cls := .type "dict", data := .dict #[] }
theorem noDict_is : DictO noDict [] := ⟨⟨rfl, rfl, rfl⟩, #[], 0, rfl, rfl⟩
/-- a comprehension's parts, read within its block -/
structure DcB (X : Cx) (kx vx tg iter : Expr) (ifs : List Expr) (scope : Scope) (own : List (Str × Nat)) (wi : TI) (g : TG) (tt : TT) (tk tv : TE) : Prop where
  calm : X.calm = true
  nd : X.N.Nodup
  src : PI X tg iter wi
  ok : BlkOk X.N X.env.scope scope own
  go : ∀ (s : Shared) (H : Hp) (C : Addr) (cl : List (Str × Addr)) (fp : List Addr), PG (X.blk s H scope (compEnvC scope cl C X.env) fp) tg g
  ts : ∀ (s : Shared) (H : Hp) (C : Addr) (cl : List (Str × Addr)) (fp : List Addr), PTs (X.blk s H scope (compEnvC scope cl C X.env) fp) ifs tt
  ke : ∀ (s : Shared) (H : Hp) (C : Addr) (cl : List (Str × Addr)) (fp : List Addr), PE (X.blk s H scope (compEnvC scope cl C X.env) fp) kx tk
  va : ∀ (s : Shared) (H : Hp) (C : Addr) (cl : List (Str × Addr)) (fp : List Addr), PE (X.blk s H scope (compEnvC scope cl C X.env) fp) vx tv
  fold : ∀ x, foldedSetIterable iter X.env x = pure x
/-- what the loop asks: D the new dict -/
def tDcL (K : PySem.W.Frag) (J : It) (g : TG) (tt : TT) (tk tv : TE) (vs : List Nat) (σ : L2.St) (H1 : Hp) (D : Addr) (Q : VK) : Prop := ∃ W : Nat → Nat → Hp → Prop, (∃ m, W 0 m (upd H1 D (dnO D noDict))) ∧ ∀ i m H, W i m H →
  (J.stop i H ∧ Q (.ref D) H) ∨ (J.go i H ∧ ∃ Nx : Hp → Prop, (∀ H', Nx H' → ∃ m', m' < m ∧ W (i + 1) m' H') ∧ ∀ x H', J.yld i H x H' → g x (wipe σ vs) H' fun σ2 H2 =>
    wipe σ2 vs = wipe σ vs ∧ tt σ2 H2 fun b H3 => if b = true then tk σ2 H3 fun y H4 => tv σ2 H4 fun z H5 => rSetN K (.ref D) y z H5 Nx else Nx H3)
def tDcN (K : PySem.W.Frag) (wi : TI) (g : TG) (tt : TT) (tk tv : TE) (vs : List Nat) : TE := fun σ H Q => wi σ H fun J H1 => ∀ D, H1 D = none → (D == sysModules) = false → tDcL K J g tt tk tv vs σ H1 D Q
/-- the store of a comprehension -/
theorem dic_set {X : Cx} {n : Nat} (hr : Room n X.A) {pins : List (Addr × Obj)} {s : Shared} {σ : L2.St} {H : Hp} {D : Addr} {i v : V} {iv u : Value} {Q : Hp → Prop} {E : Value → Shared → Prop} {R : Unit → Shared → Prop} (I : Inv X pins σ H s) (ri : RelV i iv) (rv : RelV v u)
    (h : rSetN X.K (.ref D) i v H Q) (hR : ∀ H' s', Inv X pins σ H' s' → Q H' → R () s') : wpAny (model X.prog X.w) X.A (dictSet D iv u) R E s := by
  obtain ⟨p, ob, xs, kvs, a, kd, k, d, e1, rfl, ⟨h1, h2, h3, h4, h5, h6⟩, hk, ek, hd, hz, q⟩ := h
  cases e1
  cases ri
  have un := hr.un
  have hm := dictN_at I h1 h2 h3 h4
  refine wpAny_dictSet_heap (hsz := h6) (by show X.A.units + 8 < cLine; omega) (keyN_at I hk ek) hm fun h' hm' hs => ?_
  obtain ⟨o2, ho2, hd2, nd2⟩ := dictN_of hm' (ents_store ek hk rv hd h3)
  have hl : (storedH xs k a u).length ≤ sizeLine := by
    have := storeN_len kvs kd k d
    rw [← ents_len h3] at this
    rw [ents_len (ents_store ek hk rv hd h3)]
    omega
  exact hR _ _ (I.write (x := D) (e := D) (by rw [h1]; exact True.intro) (.inl rfl) (fun b u hne z => (hs.2 b hne).trans z) ⟨o2, ho2⟩ (dnO_ok ho2)) (q o2 u rv hd2 nd2 hl)
section
variable {X : Cx} {kx vx tg iter : Expr} {ifs : List Expr} {scope : Scope} {own : List (Str × Nat)} {wi : TI} {g : TG} {tt : TT} {tk tv : TE}
theorem dcN_core {n0 : Nat} (hr : Room n0 X.A) (B : DcB X kx vx tg iter ifs scope own wi g tt tk tv) {pins : List (Addr × Obj)} {s : Shared} {σ : L2.St} {H : Hp} {Q : VK} {pos pos' : Pos} {use : Option (Value → Sem Unit)} {Qf : Value → Shared → Prop} (I : Inv X pins σ H s) (h : tDcN X.K wi g tt tk tv (own.map (·.2)) σ H Q)
    (hRR : ∀ D C s' m H', Inv X pins σ H' s' → Q (.ref D) H' → s'.heap.Ns C m → FpOk X pins H' C → compPost (model X.prog X.w) X.A X.xe use Qf (.ref D) C (.ok .next) s') :
    wpAny (model X.prog X.w) X.A (comprehension (.DictComp kx vx [⟨tg, iter, ifs, 0⟩] scope pos) scope X.env pos' newDict false (eval iter X.env) use) Qf X.xe s := by
  have cellHas : ∀ y ∈ scope.names, y.2 = .free → ∃ c, X.env.cells.lookup y.1 = some c := fun y hy e => (B.ok.free y hy e).elim (fun k => I.ok.has _ (.inl k)) fun k => I.ok.has _ (.inr k)
  refine wpAny_comprehension_free (use := use) rfl B.fold (closure_ok cellHas) B.ok.kind (fun y hy e => by rw [B.ok.uniq y hy, e]) (thn (B.src.run pins s σ H _ I h) fun xv s1 hx => thn hx fun itv s2 h2 => ?_)
  obtain ⟨it, fp, tn, J, H2, rfl, I2, T, st2, f2, q⟩ := h2
  refine wpAny_newObj_type (newEnv_comp ?_)
  obtain ⟨D, hD⟩ : ∃ D, s2.heap.objs.size = D := ⟨_, rfl⟩
  rw [hD]
  have freshD : H2 D = none := I2.hok.fresh (Nat.le_of_eq hD)
  have noSys : (D == sysModules) = false := by
    rw [← hD]
    exact beq_eq_false_iff_ne.mpr (Nat.ne_of_gt I2.big)
  obtain ⟨W, ⟨m0, w0⟩, turn⟩ := q D freshD noSys
  obtain ⟨s3, hs3⟩ : ∃ s3 : Shared, ({ s2 with heap := s2.heap.push noDict } : Shared) = s3 := ⟨_, rfl⟩
  have hp3 : s3.heap = s2.heap.push noDict := by rw [← hs3]
  have I3 : Inv X pins σ (upd H2 D (dnO D noDict)) s3 := by
    rw [← hs3]
    exact I2.laid (t' := s2.toks) (fun b o e => Heap.get?_push_of_some _ e) (Nat.le_of_eq hD) (dnO_ok (by rw [← hD]; exact Heap.get?_push_size _ rfl))
  obtain ⟨H3, hH3⟩ : ∃ H3, upd H2 D (dnO D noDict) = H3 := ⟨_, rfl⟩
  rw [hH3] at I3 w0
  have below : ∀ b ∈ fp, b < s2.heap.objs.size := fun b hb => let ⟨_, e, _⟩ := T.obj _ _ st2 b hb; Heap.lt_size e
  have f3 : ∀ b ∈ fp, FpOk X pins H3 b ∧ b < s3.heap.objs.size := fun b hb => by
    have lt := below b hb
    refine ⟨⟨?_, (f2 b hb).2⟩, by rw [hp3, Heap.size_push]; exact Nat.lt_succ_of_lt lt⟩
    rw [← hH3, upd_ne (by rw [← hD]; exact Nat.ne_of_lt lt)]
    exact (f2 b hb).1
  have st3 : tn 0 s3.heap := T.keep _ _ _ st2 fun b _ o e => by
    rw [hp3]
    exact Heap.get?_push_of_some _ e
  have I4 := block_start I3 B.ok B.nd f3
  obtain ⟨C, hC⟩ : ∃ C, s3.heap.objs.size = C := ⟨_, rfl⟩
  rw [hC] at I4
  obtain ⟨cl, hcl⟩ : ∃ cl, cellsFrom (C + 1) scope.names (cloFrom X.env.cells scope.names []) = cl := ⟨_, rfl⟩
  rw [hcl] at I4
  have pg := B.go s3 H3 C cl fp
  have pt := B.ts s3 H3 C cl fp
  have pk := B.ke s3 H3 C cl fp
  have pv := B.va s3 H3 C cl fp
  show codeAny _ _ (.compStart (.DictComp kx vx [⟨tg, iter, ifs, 0⟩] scope pos) 0 (.ref it) (.ref D) (compEnvC scope (cellsFrom (({ s2 with heap := s2.heap.push noDict } : Shared).heap.objs.size + 1) scope.names (cloFrom X.env.cells scope.names [])) ({ s2 with heap := s2.heap.push noDict } : Shared).heap.objs.size X.env))
    (compPost (model X.prog X.w) X.A X.xe use Qf (.ref D) ({ s2 with heap := s2.heap.push noDict } : Shared).heap.objs.size) { ({ s2 with heap := s2.heap.push noDict } : Shared) with heap := pushCells (({ s2 with heap := s2.heap.push noDict } : Shared).heap.push noDict) scope.names }
  rw [hs3, hC, hcl]
  obtain ⟨ce, hce⟩ : ∃ ce, compEnvC scope cl C X.env = ce := ⟨_, rfl⟩
  rw [hce] at I4 pg pt pk pv ⊢
  have cL : ce.locals = C := by rw [← hce]; rfl
  obtain ⟨s4, hs4⟩ : ∃ s4 : Shared, ({ s3 with heap := pushCells (s3.heap.push noDict) scope.names } : Shared) = s4 := ⟨_, rfl⟩
  rw [hs4] at I4 ⊢
  have st4 : tn 0 s4.heap := T.keep _ _ _ st3 fun b _ o e => by
    rw [← hs4]
    exact pushCells_keeps _ _ _ _ (Heap.get?_push_of_some _ e)
  have stand : ∀ {σ' : L2.St} {H' : Hp} {s' : Shared}, Inv (X.blk s3 H3 scope ce fp) [] σ' H' s' → (∀ b ∈ fp, H' b = none) → ∀ b ∈ fp, FpOk (X.blk s3 H3 scope ce fp) [] H' b := fun {σ' H' s'} I' hn b hb =>
    ⟨hn b hb, (I'.ok.exf b hb).1, I'.ok.exfs b hb, .inl hb, fun x c e => (I'.ok.exf b hb).2 x c e, fun p hp => by cases hp⟩
  have loop : codeAny (model X.prog X.w) X.A (.compLoop (.DictComp kx vx [⟨tg, iter, ifs, 0⟩] scope pos) 0 (.ref it) (.ref D) ce) (compPost (model X.prog X.w) X.A X.xe use Qf (.ref D) C) s4 := by
    refine compLoop_anyD (fun n s' => ∃ i H', Inv (X.blk s3 H3 scope ce fp) [] (wipe σ (own.map (·.2))) H' s' ∧ tn i s'.heap ∧ (∀ b ∈ fp, H' b = none) ∧ W i n H') ?_ m0 ⟨0, H3, I4, st4, fun b hb => (f3 b hb).1.1, w0⟩
    rintro n s5 ⟨i, H5, I5, st5, n5, w5⟩
    rcases turn i n H5 w5 with ⟨stop, qq⟩ | ⟨go, Nx, hNx, step⟩
    · refine thnF (T.done (X.blk s3 H3 scope ce fp) rfl rfl rfl B.calm i [] s5 _ H5 (fun _ _ => False) I5 (stand I5 n5) st5 stop) fun r s6 ⟨hr6, I6⟩ => ?_
      subst hr6
      have I7 : Inv X pins σ H5 s6 := I3.call' (ch := fp) I6.os I6.base I6.hok I6.bare fun b hb => let z := (f3 b hb).1.2; ⟨z.2.2.1, z.1, z.2.2.2.1, z.2.2.2.2⟩
      have nC : H5 C = none := by
        have z : H5 ce.locals = none := I6.free
        rw [cL] at z
        exact z
      obtain ⟨m, hn, _⟩ := I6.loc
      have hn : s6.heap.Ns ce.locals m := hn
      rw [cL] at hn
      exact hRR D C s6 m H5 I7 qq hn (I3.fpOk (Nat.le_of_eq hC) nC)
    · refine thnF (T.item (X.blk s3 H3 scope ce fp) rfl rfl rfl B.calm i [] s5 _ H5 (fun _ _ => False) I5 (stand I5 n5) st5 go) fun r s6 ⟨u, hr6, h6⟩ => ?_
      subst hr6
      refine thnF h6 fun _ s7 ⟨x, H7, I7, r7, y7, st7, n7⟩ => ?_
      have J7 := I7.pinned (stand I7 n7) (T.obj _ _ st7)
      refine thnF (pg.run _ s7 _ H7 x u _ J7 r7 (step x H7 y7)) fun _ s8 ⟨σ8, H8, I8, hw8, q8⟩ => thnF (pt.run _ s8 σ8 H8 _ I8 q8) fun b s9 ⟨H9, I9, q9⟩ => ?_
      have done : ∀ {s' : Shared} {H' : Hp}, Inv (X.blk s3 H3 scope ce fp) ([] ++ pinsAt fp s7.heap) σ8 H' s' → Nx H' → ∃ m, m < n ∧ ∃ i H', Inv (X.blk s3 H3 scope ce fp) [] (wipe σ (own.map (·.2))) H' s' ∧ tn i s'.heap ∧ (∀ b ∈ fp, H' b = none) ∧ W i m H' := by
        intro s' H' I' nx
        obtain ⟨m', hm, w'⟩ := hNx H' nx
        have kept : ∀ b ∈ fp, ∀ o, s7.heap.get? b = some o → s'.heap.get? b = some o ∧ H' b = none := fun b hb o e => by
          have z := I'.pin (b, o) (List.mem_append_right _ (List.mem_append_right _ (mem_pinsAt hb e)))
          exact ⟨z.1, z.2.1⟩
        refine ⟨m', hm, i + 1, H', (I'.unpinned (pins := [])).weak (by rw [← hw8, wipe_length]) (fun j v e => ?_), T.keep _ _ _ st7 fun b hb o e => (kept b hb o e).1, fun b hb => ?_, w'⟩
        · rw [← hw8] at e
          exact (wipe_some e).1
        · obtain ⟨o, e, _⟩ := T.obj _ _ st7 b hb
          exact (kept b hb o e).2
      cases b with
      | false =>
        rw [if_neg Bool.false_ne_true] at q9
        rw [if_neg Bool.false_ne_true]
        exact done I9 q9
      | true =>
        rw [if_pos rfl] at q9
        rw [if_pos rfl]
        refine thnF (pk.run _ s9 σ8 H9 _ I9 q9) fun z s10 ⟨yk, H10, I10, r10, q10⟩ => thnF (pv.run _ s10 σ8 H10 _ I10 q10) fun z2 s11 ⟨yv, H11, I11, r11, q11⟩ => ?_
        exact dic_set (X := X.blk s3 H3 scope ce fp) hr I11 r10 r11 q11 fun H' s' I' nx => done I' nx
  exact codeAny_compStart_dict loop (T.self X.A 0 _ _ _ st4 loop)
end
end DN
namespace DN
open PySem PySem.Spec PyProof.Rows L2
abbrev Kvs := List (D × D)
abbrev Fd := En → Option (Kvs × En)
def dcF (js : List Nat) (tg : Fg) (tt : Ft) (kf vf : Fe) : List D → En → Kvs → Option (Kvs × En)
  | [], γ, acc => some (acc, γ)
  | d :: ds, γ, acc => match tg d γ with
    | some γ0 => match tt γ0 with
      | some (true, γ1) => match kf γ1 with
        | some (kd, γ2) => match vf γ2 with
          | some (y, γ3) => match keyD kd with
            | some k => if okN acc.length && noOwns γ3 js then dcF js tg tt kf vf ds (wipeE γ3 js) (storeN acc kd k y) else none
            | none => none
          | none => none
        | none => none
      | some (false, γ1) => if noOwns γ1 js then dcF js tg tt kf vf ds (wipeE γ1 js) acc else none
      | none => none
    | none => none
@[simp] def lDc (js : List Nat) (tg : Fg) (src : Fa) (tt : Ft) (kf vf : Fe) : Fd := fun γ => match src γ with
  | some (ds, γ1) => if noOwns γ1 js then match dcF js tg tt kf vf ds (wipeE γ1 js) [] with
    | some (out, γ2) => some (out, putBack γ1 γ2 js)
    | none => none
    else none
  | none => none
/-- a new dict -/
def NewDic (K : PySem.W.Frag) (Hk : Hp) (p : Addr) (ob : Obj) (xs : List (NestedKey × Addr × Value)) (kvs : Kvs) : Prop := DictO ob xs ∧ DpEnts K Hk xs kvs ∧ (xs.map (·.1)).Nodup ∧ (p == sysModules) = false ∧ xs.length ≤ sizeLine
def tDl (K : PySem.W.Frag) (fl : Fd) : TE := fun σ H Q => ∃ γ Hk kvs γ2, Ok K σ H Hk γ ∧ fl γ = some (kvs, γ2) ∧ ∀ p ob xs H2 Hk2, Go K σ H Hk γ σ H2 Hk2 γ2 → H2 p = none → NewDic K Hk2 p ob xs kvs → Q (.ref p) (upd H2 p (dnO p ob))
section
variable {K : PySem.W.Frag}
theorem dc_imp {js : List Nat} {g : TG} {tg : Fg} {src : Fa} {tt : Ft} {kf vf : Fe} {σ : L2.St} {H : Hp} {Q : VK} (hg : TgOk K g tg js) (h : tDl K (lDc js tg src tt kf vf) σ H Q) : tDcN K (tIt K src) g (tT K tt) (tI K kf) (tI K vf) js σ H Q := by
  obtain ⟨γ, Hk, out, γr, k, e, q⟩ := h
  unfold lDc at e
  split at e
  · rename_i ds γ1 es
    split at e
    · rename_i no
      split at e <;> cases e
      rename_i γ2 el
      refine ⟨γ, Hk, ds, γ1, k, es, fun J H1 Hk1 g1 wk L hL hS => ?_⟩
      have gd := dropAll g1.ok js no
      have hk1L : Hk1 L = none := g1.ok.sub.free hL
      let Wv : Nat → Nat → Hp → Prop := fun i m H' => m = ds.length - i ∧ i ≤ ds.length ∧ ∃ γ' Hk' acc ob xs H0, H' = upd H0 L (dnO L ob) ∧ H0 L = none ∧ Go K (wipe σ js) H1 Hk1 (wipeE γ1 js) (wipe σ js) H0 Hk' γ' ∧ (∀ j ∈ js, gt γ' j = none) ∧ Hk' L = none ∧ Same Hk1 Hk' ∧ NewDic K Hk' L ob xs acc ∧ dcF js tg tt kf vf (ds.drop i) γ' acc = some (out, γ2)
      refine ⟨Wv, ⟨ds.length, by simp, Nat.zero_le _, wipeE γ1 js, Hk1, [], noDict, [], H1, rfl, hL, Go.refl gd.ok, fun j hj => gt_wipe_in _ hj, hk1L, Same.refl _, ⟨noDict_is, .nil, List.nodup_nil, hS, Nat.zero_le _⟩, by simpa using el⟩, ?_⟩
      rintro i m H' ⟨rfl, hi, γ', Hk', acc, ob, xs, H0, rfl, h0L, gg, gj, hkL, sk, ra, ef⟩
      obtain ⟨w1, w2⟩ := wk (upd H0 L (dnO L ob)) Hk' sk (gg.ok.sub.trans (same_upd h0L))
      by_cases hlt : i < ds.length
      · obtain ⟨go, yl⟩ := w1 i hlt
        rw [List.drop_eq_getElem_cons hlt] at ef
        unfold dcF at ef
        refine .inr ⟨go, Wv (i + 1) (ds.length - (i + 1)), fun H3 w => ⟨_, by omega, w⟩, fun x H'' y => ?_⟩
        obtain ⟨Hc, gr, rv⟩ := yl x H'' y
        have ok0 : Ok K (wipe σ js) (upd H0 L (dnO L ob)) Hk' γ' := gg.ok.grow (Grow.newH gg.ok.sub h0L)
        have gy := ok0.go gr
        split at ef
        · rename_i γ0 etg
          refine hg x ds[i] _ _ Hc γ' γ0 _ gy.ok rv etg fun σ2 gt2 hw => ?_
          rw [wipe_wipe] at hw
          have ga := gy.trans gt2
          have back : ∀ {H3 Hk3 : Hp} {γ3 : En}, Go K (wipe σ js) H0 Hk' γ' σ2 H3 Hk3 γ3 → noOwns γ3 js = true → Go K (wipe σ js) H1 Hk1 (wipeE γ1 js) (wipe σ js) H3 Hk3 (wipeE γ3 js) := fun {H3 Hk3 γ3} g3 n3 => by
            have := (gg.trans g3).trans (dropAll g3.ok js n3)
            rw [hw] at this
            exact this
          refine ⟨hw, ?_⟩
          split at ef
          · rename_i γ3 et
            refine ⟨γ0, Hc, true, γ3, gt2.ok, et, fun H3 Hk3 g3 => ?_⟩
            refine iteT ?_
            split at ef
            · rename_i kd γ4 ee
              refine ⟨γ3, Hk3, kd, γ4, g3.ok, ee, fun u H4 Hk4 g4 r4 => ?_⟩
              split at ef
              · rename_i y γ5 ev
                refine ⟨γ4, Hk4, y, γ5, g4.ok, ev, fun z H5 Hk5 g5 r5 => ?_⟩
                split at ef
                · rename_i key ek
                  split at ef
                  · rename_i c
                    rw [Bool.and_eq_true] at c
                    obtain ⟨H05, rfl, h05, hk5, g6⟩ := aside gg.ok h0L hkL (((ga.trans g3).trans g4).trans g5)
                    obtain ⟨d1, d2, d3, d4, d5⟩ := ra
                    have kk5 : Same Hk' Hk5 := g6.kk
                    have r4' := dp_mono g5.kk r4
                    obtain ⟨a, rfl⟩ := key_ref r4' ek
                    have sub5 : Same Hk5 (upd H05 L (dnO L ob)) := g6.ok.sub.trans (same_upd h05)
                    have de := dpe_mono kk5 d2
                    refine ⟨L, ob, xs, acc, a, kd, key, y, rfl, rfl, ⟨upd_same, d1, dpe_mono sub5 de, d3, d4, d5⟩, dp_mono sub5 r4', ek, dp_mono sub5 r5, by rw [ents_len d2]; exact okN_lt c.1, fun o2 u ru ho2 nd2 hl2 => ?_⟩
                    refine ⟨rfl, hlt, _, Hk5, storeN acc kd key y, o2, storedH xs key a u, H05, upd_upd, h05, back g6 c.2, fun j hj => gt_wipe_in _ hj, hk5, sk.trans kk5, ⟨ho2, ents_store ek r4' ru r5 de, nd2, d4, hl2⟩, ef⟩
                  · cases ef
                · cases ef
              · cases ef
            · cases ef
          · rename_i γ3 et
            refine ⟨γ0, Hc, false, γ3, gt2.ok, et, fun H3 Hk3 g3 => ?_⟩
            refine iteF ?_
            split at ef
            · rename_i c
              obtain ⟨H03, rfl, h03, hk3, g5⟩ := aside gg.ok h0L hkL (ga.trans g3)
              obtain ⟨d1, d2, d3, d4, d5⟩ := ra
              exact ⟨rfl, hlt, _, Hk3, acc, ob, xs, H03, rfl, h03, back g5 c, fun j hj => gt_wipe_in _ hj, hk3, sk.trans g5.kk, ⟨d1, dpe_mono g5.kk d2, d3, d4, d5⟩, ef⟩
            · cases ef
          · cases ef
        · cases ef
      · have e0 : i = ds.length := by omega
        subst e0
        rw [List.drop_length] at ef
        cases ef
        exact .inl ⟨w2 _ (Nat.le_refl _), q L ob xs H0 Hk' (g1.trans (restoreAll g1.ok js _ no gg gj)) h0L ra⟩
    · cases e
  · cases e
end
/-- told as data -/
@[simp] def fDl (fl : Fd) : Fe := fun γ => match fl γ with
  | some (kvs, γ2) => some (.dict kvs, γ2)
  | none => none
theorem NewDic.give {K : PySem.W.Frag} {σ : L2.St} {H Hk H2 Hk2 : Hp} {γ γ2 : En} {p : Addr} {ob : Obj} {xs : List (NestedKey × Addr × Value)} {kvs : Kvs} (n : NewDic K Hk2 p ob xs kvs) (g : Go K σ H Hk γ σ H2 Hk2 γ2) (hp : H2 p = none) :
    Go K σ H Hk γ σ (upd H2 p (dnO p ob)) (upd Hk2 p (dnO p ob)) γ2 ∧ Dp K (upd Hk2 p (dnO p ob)) (.ref p) (.dict kvs) := by
  have g2 : Grow H2 Hk2 (upd H2 p (dnO p ob)) (upd Hk2 p (dnO p ob)) := Grow.new g.ok.sub hp
  obtain ⟨d1, d2, d3, d4, d5⟩ := n
  exact ⟨g.trans (g.ok.go g2), .dct upd_same d1 (dpe_mono g2.kk d2) d3 d4 d5⟩
theorem dl_E {K : PySem.W.Frag} {fl : Fd} {σ : L2.St} {H : Hp} {Q : VK} (h : tI K (fDl fl) σ H Q) : tDl K fl σ H Q := by
  obtain ⟨γ, Hk, d, γ2, o, ee, q⟩ := h
  unfold fDl at ee
  split at ee <;> cases ee
  rename_i kvs efa
  refine ⟨γ, Hk, kvs, γ2, o, efa, fun p ob xs H2 Hk2 g hp r => ?_⟩
  obtain ⟨g2, r2⟩ := r.give g hp
  exact q _ _ _ g2 r2
@[simp] def sDl (i : Nat) (fl : Fd) : Fs := fun γ => match fl γ with
  | some (kvs, γ1) => if pinB γ1 i then none else some (.nx (γ1.set i (some (.ow false (.dic kvs)))))
  | none => none
theorem dl_own {K : PySem.W.Frag} {W : WX} {i : Nat} {fl : Fd} {Z : Ends} {σ : L2.St} {H : Hp} (h : tS K W (sDl i fl) Z σ H) : tAsg (tDl K fl) (gName i) Z σ H := by
  obtain ⟨γ, Hk, o, k, e, q⟩ := h
  unfold sDl at e
  split at e
  · rename_i kvs γ1 ef
    split at e <;> cases e
    rename_i c
    refine ⟨γ, Hk, kvs, γ1, k, ef, fun p ob xs H1 Hk1 g1 hp r1 => ?_⟩
    obtain ⟨d1, d2, d3, d4, d5⟩ := r1
    exact q _ _ _ (g1.trans (g1.ok.setNew (same_upd hp) (.dic upd_same (g1.ok.sub.free hp) d1 d2 d3 d4 d5) (fun a ha => by rw [List.mem_singleton.mp ha]; exact hp) (noPin_of g1.ok (by simpa using c))))
  · cases e
theorem dl_dat {K : PySem.W.Frag} {W : WX} {i : Nat} {fl : Fd} {Z : Ends} {σ : L2.St} {H : Hp} (h : tS K W (sAsg (fDl fl) (gDat i)) Z σ H) : tAsg (tDl K fl) (gName i) Z σ H := by
  have h2 := asg_imp h
  refine dl_E (fl := fl) (Q := fun x H1 => gName i x σ H1 Z.nx) ?_
  obtain ⟨γ, Hk, d, γ2, k, ef, q⟩ := h2
  exact ⟨γ, Hk, d, γ2, k, ef, fun v H1 Hk1 g1 r1 => gDat_imp (q v H1 Hk1 g1 r1)⟩
section
variable {X : Cx} {W : WX} {kx vx it tge : Expr} {ifs : List Expr} {scope : Scope} {own : List (Str × Nat)} {src : Fa} {g : TG} {tg : Fg} {tt : Ft} {kf vf : Fe} {pos : Pos} {js : List Nat} {y : Str} {n0 : Nat}
/-- the parts of a dict comprehension, as functions of data -/
abbrev DcE (X : Cx) (kx vx tge it : Expr) (ifs : List Expr) (scope : Scope) (own : List (Str × Nat)) (src : Fa) (g : TG) (tt : Ft) (kf vf : Fe) : Prop := DcB X kx vx tge it ifs scope own (tIt X.K src) g (tT X.K tt) (tI X.K kf) (tI X.K vf)
theorem pe_dcN (hr : Room n0 X.A) (B : DcE X kx vx tge it ifs scope own src g tt kf vf) (hj : own.map (·.2) = js) (htg : TgOk X.K g tg js) : PE X (.DictComp kx vx [⟨tge, it, ifs, 0⟩] scope pos) (tDl X.K (lDc js tg src tt kf vf)) := by
  subst hj
  refine ⟨fun pins s σ H Q I h => ?_⟩
  rw [arm_eval_DictComp]
  refine dcN_core hr B I (dc_imp htg h) fun D C s' m H' I' q hn f => ⟨m, hn, fun h'' sb => ?_⟩
  obtain ⟨f0, f1, f2, f3, f4, f5⟩ := f
  exact ⟨.ref D, H', I'.turned (t' := s'.toks) (fun b o hb e => (sb.2 b hb).trans e) f0 f1 f3 f4 f5, rfl, q⟩
theorem ev_dc (hr : Room n0 X.A) (B : DcE X kx vx tge it ifs scope own src g tt kf vf) (hj : own.map (·.2) = js) (htg : TgOk X.K g tg js) : EV X (.DictComp kx vx [⟨tge, it, ifs, 0⟩] scope pos) (fDl (lDc js tg src tt kf vf)) :=
  PE.imp (pe_dcN hr B hj htg) fun _ _ _ h => dl_E h
theorem swD_true {gs : List Comprehension} {pos py : Pos} {l : Nat} {env : Env} (hk : env.scope.kind = .function) (hy : env.scope.names.lookup y = some .local) (hl : (py.line == pos.line) = true)
    (ha : (scope.names.any fun (n, k) => n == y && (k == .local || k == .cell)) = false) : swapsWith (.DictComp kx vx gs scope pos) (some (.Name y py)) l env = pure true := by
  have k1 : env.kindOf y = some .local := hy
  have k2 : env.blockKind = .function := by unfold Env.blockKind; rw [hk]; rfl
  unfold swapsWith
  simp only [k2, k1, ha, Expr.pos, hl]
  rfl
theorem ps_dcN {i : Nat} {py spos : Pos} (hr : Room n0 X.A) (B : DcE X kx vx tge it ifs scope own src g tt kf vf) (hj : own.map (·.2) = js) (htg : TgOk X.K g tg js) (hy : X.N[i]? = some y) (hyl : X.env.scope.names.lookup y = some .local)
    (hsw : swapsWith (.DictComp kx vx [⟨tge, it, ifs, 0⟩] scope pos) (some (.Name y py)) spos.line X.env = pure true) : PS X (.Assign [.Name y py] (.DictComp kx vx [⟨tge, it, ifs, 0⟩] scope pos) spos) (tAsg (tDl X.K (lDc js tg src tt kf vf)) (gName i)) := by
  subst hj
  refine ⟨fun pins s σ H Z I h => ?_⟩
  rw [exec_Assign_Name_used _ _ _ _ hsw]
  refine wpAny_bind (wpAny_standAt (wpAny_bind ?_))
  show wpAny _ X.A (do let _ ← comprehension (.DictComp kx vx [⟨tge, it, ifs, 0⟩] scope pos) scope X.env (firstIterPos [⟨tge, it, ifs, 0⟩] pos) newDict false (eval it X.env) (some (assign (.Name y py) X.env))) _ _ s
  have h' : tDl X.K (lDc (own.map (·.2)) tg src tt kf vf) σ H (fun x H1 => gName i x σ H1 Z.nx) := h
  refine wpAny_bind (thn (dcN_core (Qf := fun _ s' => SP X pins Z .next s') hr B I (dc_imp htg h') fun L C s' m H' I' q hn f => ?_) fun _ s' hq => wpAny_pure (wpAny_pure hq))
  obtain ⟨f0, f1, f2, f3, f4, f5⟩ := f
  show wpAny _ _ (assign (.Name y py) X.env (.ref L)) _ _ _
  refine wpAny_assign_Name (store_ok2 (v := V.ref L) I' B.nd hy (.inl hyl) rfl (fun s2 I2 ⟨a, sb, ha⟩ => ?_) (.inr hyl))
  have off : C ≠ a := ha.elim (fun z => by rw [z]; exact f1) fun z e => f4 y a z e.symm
  exact ⟨m, hn.sameBut sb off, fun h3 sb3 => ⟨_, H', I2.turned (t' := s2.toks) (fun b o hb e => (sb3.2 b hb).trans e) f0 f1 f3 f4 f5, q⟩⟩
theorem es_dcOwn (i : Nat) {py spos : Pos} (hr : Room n0 X.A) (B : DcE X kx vx tge it ifs scope own src g tt kf vf) (hj : own.map (·.2) = js) (htg : TgOk X.K g tg js) (hy : X.N[i]? = some y) (hyl : X.env.scope.names.lookup y = some .local)
    (hsw : swapsWith (.DictComp kx vx [⟨tge, it, ifs, 0⟩] scope pos) (some (.Name y py)) spos.line X.env = pure true) : ES X W (.Assign [.Name y py] (.DictComp kx vx [⟨tge, it, ifs, 0⟩] scope pos) spos) (sDl i (lDc js tg src tt kf vf)) :=
  PS.imp (ps_dcN hr B hj htg hy hyl hsw) fun _ _ _ h => dl_own h
theorem es_dcDat (i : Nat) {py spos : Pos} (hr : Room n0 X.A) (B : DcE X kx vx tge it ifs scope own src g tt kf vf) (hj : own.map (·.2) = js) (htg : TgOk X.K g tg js) (hy : X.N[i]? = some y) (hyl : X.env.scope.names.lookup y = some .local)
    (hsw : swapsWith (.DictComp kx vx [⟨tge, it, ifs, 0⟩] scope pos) (some (.Name y py)) spos.line X.env = pure true) : ES X W (.Assign [.Name y py] (.DictComp kx vx [⟨tge, it, ifs, 0⟩] scope pos) spos) (sAsg (fDl (lDc js tg src tt kf vf)) (gDat i)) :=
  PS.imp (ps_dcN hr B hj htg hy hyl hsw) fun _ _ _ h => dl_dat h
end
end DN
namespace DN
open PySem PySem.Spec PyProof.Rows L2
/-! ### dicts with text keys that the frame owns -/
theorem tabM_app : ∀ (a b : List (Str × D)) (z : Str) (o : Option D), tabM (a ++ b) z o = tabM b z (tabM a z o)
  | [], _, _, _ => rfl
  | p :: r, b, z, o => tabM_app r b z _
section
variable {K : PySem.W.Frag}
theorem TxtIs.put {H : Hp} {a : List (Key × V)} {b : List (Str × D)} {z : Str} {v : V} {d : D} (h : TxtIs K H a b) (r : Dp K H v d) : TxtIs K H (putK a (Sum.inr z) v) (b ++ [(z, d)]) := by
  refine ⟨by rw [List.length_append]; exact Nat.le_trans (length_putK a _ v) (Nat.succ_le_succ h.1), fun y => ?_⟩
  rw [tabM_app, valV_put]
  show (∀ x, (if z = y then some d else tabM b y none) = some x → _) ∧ ((if z = y then some d else tabM b y none) = none → _)
  by_cases c : z = y
  · rw [if_pos c, if_pos (by rw [c])]
    exact ⟨fun x e => by cases e; exact ⟨v, rfl, r⟩, fun e => by cases e⟩
  · rw [if_neg c, if_neg (fun w => c (by cases w; rfl))]
    exact h.2 y
theorem TxtIs.merge {H : Hp} : ∀ {ks : List (Key × V)} {kvs : List (Str × D)} {a : List (Key × V)} {b : List (Str × D)}, TxtIs K H a b → PR K H ks kvs → TxtIs K H (mergeK a ks) (b ++ kvs)
  | [], [], a, b, h, _ => by rw [List.append_nil]; exact h
  | p :: r, q :: s, a, b, h, ⟨hk, d, t⟩ => by
    obtain ⟨k, v⟩ := p
    cases hk
    have e : b ++ q :: s = (b ++ [(q.1, q.2)]) ++ s := by rw [List.append_assoc]; rfl
    rw [e]
    have h2 : TxtIs K H (putK a (Sum.inr q.1) v) (b ++ [(q.1, q.2)]) := h.put d
    exact TxtIs.merge (ks := r) (kvs := s) h2 t
theorem TxtIs.nil {H : Hp} : TxtIs K H [] [] := ⟨Nat.le_refl _, fun z => ⟨fun x e => (by cases e), fun _ => rfl⟩⟩
end
@[simp] def sTxt (i : Nat) (fs : List (Str × Fe)) : Fs := fun γ => match pairsF fs γ with
  | some (kvs, γ1) => if decide (kvs.length ≤ 15) && !pinB γ1 i then some (.nx (γ1.set i (some (.ow false (.txt kvs))))) else none
  | none => none
@[simp] def sTxtPut (i : Nat) (z : Str) (f : Fe) : Fs := fun γ => match f γ with
  | some (d, γ1) => match gt γ1 i with
    | some (.ow b (.txt kvs)) => if okN kvs.length then some (.nx (γ1.set i (some (.ow b (.txt (kvs ++ [(z, d)])))))) else none
    | _ => none
  | none => none
@[simp] def fTxt (i : Nat) (f : Fe) : Fe := fun γ => match gt γ i with
  | some (.ow _ (.txt _)) => match f γ with
    | some (.str z, γ1) => match gt γ1 i with
      | some (.ow _ (.txt kvs)) => match tabM kvs z none with
        | some x => some (x, γ1)
        | none => none
      | _ => none
    | _ => none
  | _ => none
@[simp] def fTxtGet (i : Nat) (f g : Fe) : Fe := fun γ => match gt γ i with
  | some (.ow _ (.txt _)) => match f γ with
    | some (.str z, γ1) => match g γ1 with
      | some (y, γ2) => match gt γ2 i with
        | some (.ow _ (.txt kvs)) => some ((tabM kvs z none).getD y, γ2)
        | _ => none
      | none => none
    | _ => none
  | _ => none
section
variable {W : WX} {X : Cx} {e o y : Expr} {f g : Fe} {pos p : Pos}
theorem es_txt (i : Nat) {x : Str} {p' dpos : Pos} {keys : List (Option Expr)} {values : List Expr} {fs : List (Str × Fe)} (hN : X.N.Nodup) (hi : X.N[i]? = some x) (hx : Loc X.env.scope x) (h : PPs X dpos keys values (trsF X.K fs)) (hall : keys.all (·.isSome) = true) (hl : keys.length = values.length) (h0 : keys ≠ []) (h15 : keys.length ≤ 15)
    (hs : swapsWith (.Dict keys values dpos) (some (.Name x p')) pos.line X.env = pure false := by rfl) (hf : X.fn x = true ∨ X.env.scope.names.lookup x = some .local := by first | exact .inl rfl | exact .inr rfl | assumption) :
    ES X W (.Assign [.Name x p'] (.Dict keys values dpos) pos) (sTxt i fs) := PS.imp (ps_set hN hi hx (pe_disp h hall hl h0 h15) hs hf) fun Z σ H ⟨γ, Hk, o, k, ee, q⟩ => by
  unfold sTxt at ee
  split at ee
  · rename_i kvs γ1 ef
    split at ee <;> cases ee
    rename_i c
    rw [Bool.and_eq_true] at c
    intro p hp
    have gr : Grow H Hk (upd H p (.dK [])) Hk := Grow.newH k.sub hp
    refine tPairs_F (k.grow gr) ef fun ks H2 Hk2 g pr => ?_
    obtain ⟨H3, rfl, h3, hk3, g3⟩ := aside k hp (k.sub.free hp) g
    refine ⟨upd_same, ks, rfl, by rw [pr.len]; exact of_decide_eq_true c.1, ?_⟩
    rw [upd_upd]
    have t : TxtIs X.K Hk2 (mergeK [] ks) kvs := TxtIs.nil.merge pr
    exact q _ _ _ (g3.trans (g3.ok.setNew (same_upd h3) (.txt upd_same hk3 t) (fun a ha => by rw [List.mem_singleton.mp ha]; exact h3) (noPin_of g3.ok (by simpa using c.2))))
  · cases ee
theorem Ok.txt {K : PySem.W.Frag} {σ : L2.St} {H Hk : Hp} {γ : En} (k : Ok K σ H Hk γ) {i : Nat} {b : Bool} {kvs : List (Str × D)} (h : gt γ i = some (.ow b (.txt kvs))) : ∃ p kvs', σ[i]? = some (some (.ref p)) ∧ H p = some (.dK kvs') ∧ Hk p = none ∧ TxtIs K Hk kvs' kvs := by
  obtain ⟨v, fp, e, r⟩ := k.ow i b _ h
  cases r with
  | txt h1 h2 h3 => exact ⟨_, _, e, h1, h2, h3⟩
theorem es_txtPut (i : Nat) {z : Str} {kp p' : Pos} {jj} (hu : X.A.units + 64 < cLine) (he : EV X e f) (ho : PE X o (tVar i)) (hs : swapsWith e (some (.Subscript o (.Constant (.str z) jj kp) p')) pos.line X.env = pure false := by rfl) :
    ES X W (.Assign [.Subscript o (.Constant (.str z) jj kp) p'] e pos) (sTxtPut i z f) := PS.imp (ps_dput (by omega) ho pe_str he hs) fun Z σ H ⟨γ, Hk, out, k, ee, q⟩ => by
  unfold sTxtPut at ee
  split at ee
  · rename_i d γ1 ef
    split at ee
    · rename_i b kvs ei
      split at ee <;> cases ee
      rename_i c
      refine ⟨γ, Hk, d, γ1, k, ef, fun v H1 Hk1 g1 r1 => ?_⟩
      obtain ⟨p, kvs', e1, hp, hn, t⟩ := g1.ok.txt ei
      have lt : kvs'.length < sizeLine := Nat.lt_of_le_of_lt t.1 (okN_lt c)
      refine ⟨_, e1, p, _, rfl, DPut.k (k := Sum.inr z) hp lt, ?_⟩
      exact q _ _ _ (g1.trans (g1.ok.change ei e1 (.txt hp hn t) (fun a u h n => by rw [upd_ne (fun w => n (by simp [w]))]; exact h) (.txt upd_same hn (t.put r1)) (fun a ha => .inl ha)))
    · cases ee
  · cases ee
theorem ev_txt {i : Nat} (hu : X.A.units + 64 < cLine) (ho : PE X o (tVar i)) (he : EV X e f) (hs : NoSl e) : EV X (.Subscript o e pos) (fTxt i f) := PE.imp (pe_dget (by omega) ho he hs) fun σ H Q ⟨γ, Hk, d, γ2, k, ee, q⟩ => by
  unfold fTxt at ee
  split at ee
  · rename_i b0 kv0 e0
    split at ee
    · rename_i z γ1 ef
      split at ee
      · rename_i b kvs ei
        split at ee <;> cases ee
        rename_i ex
        obtain ⟨p0, _, e1, _⟩ := k.txt e0
        refine ⟨_, e1, γ, Hk, _, γ2, k, ef, fun v H1 Hk1 g1 r1 => ?_⟩
        obtain ⟨p, kvs', e2, hp, hn, t⟩ := g1.ok.txt ei
        rw [e1] at e2
        cases e2
        obtain ⟨u, eu, ru⟩ := (t.2 z).1 _ ex
        cases r1
        exact ⟨p0, u, rfl, .inl ⟨kvs', Sum.inr z, .inl hp, rfl, eu.symm⟩, q u H1 Hk1 g1 ru⟩
      · cases ee
    · cases ee
  · cases ee
theorem ev_txtGet {i : Nat} {apos cpos : Pos} (hu : X.A.units + 64 < cLine) (ho : PE X o (tVar i)) (he : EV X e f) (hy : EV X y g) (m : M2 X o "get" apos e y cpos) : EV X (.Call (.Attribute o "get" apos) [e, y] [] cpos) (fTxtGet i f g) :=
  PE.imp (pe_dget2 (by omega) ho he hy m) fun σ H Q ⟨γ, Hk, d, γ2, k, ee, q⟩ => by
  unfold fTxtGet at ee
  split at ee
  · rename_i b0 kv0 e0
    split at ee
    · rename_i z γ1 ef
      split at ee
      · rename_i y' γ3 eg
        split at ee <;> cases ee
        rename_i b kvs ei
        obtain ⟨p0, kv1, e1, hp0, _⟩ := k.txt e0
        refine ⟨_, e1, p0, rfl, .inl ⟨kv1, .inl hp0⟩, γ, Hk, _, γ1, k, ef, fun v H1 Hk1 g1 r1 => ⟨γ1, Hk1, y', γ2, g1.ok, eg, fun w H2 Hk2 g2 r2 => ?_⟩⟩
        obtain ⟨p, kvs', e2, hp, hn, t⟩ := g2.ok.txt ei
        rw [e1] at e2
        cases e2
        cases r1
        refine ⟨valV kvs' (Sum.inr z), DGet.k (k := Sum.inr z) hp, ?_⟩
        cases ex : tabM kvs z none with
        | none =>
          rw [(t.2 z).2 ex]
          rw [ex] at q
          exact q w H2 Hk2 (g1.trans g2) r2
        | some x =>
          obtain ⟨u, eu, ru⟩ := (t.2 z).1 x ex
          rw [eu]
          rw [ex] at q
          exact q u H2 Hk2 (g1.trans g2) ru
      · cases ee
    · cases ee
  · cases ee
end
end DN
namespace DN
open PySem PySem.Spec PyProof.Rows L2
/-! ### d = {}; for x in ..: d.setdefault(key, []).append(x): the dict lasts from then on -/
section
variable {K : PySem.W.Frag} {σ σ0 σ2 : L2.St} {H Hk H0 Hk0 H2 Hk2 : Hp} {γ γ0 γ2 : En} {i : Nat} {a : Addr} {x : HO}
/-- a slot of which nothing is told -/
theorem Ok.bare {v : Option V} (o : Ok K σ H Hk γ) (n : gt γ i = none) : Ok K (σ.set i v) H Hk γ := by
  have ne : ∀ {j : Nat} {e : Ent}, gt γ j = some e → i ≠ j := fun h z => by rw [← z, n] at h; cases h
  refine ⟨by rw [List.length_set]; exact o.len, o.sub, fun j d e => ?_, fun j b y e => ?_, o.pin, fun j k b c y z w u fp fq ej ek h1 h2 => ?_, fun j t e => ?_⟩
  · obtain ⟨v', e', r⟩ := o.dat j d e
    exact ⟨v', by rw [set_there (ne e)]; exact e', r⟩
  · obtain ⟨w, fp, e', r⟩ := o.ow j b y e
    exact ⟨w, fp, by rw [set_there (ne e)]; exact e', r⟩
  · rw [set_there (ne ej)] at h1
    rw [set_there (ne ek)] at h2
    exact o.sep _ _ _ _ _ _ _ _ _ _ ej ek h1 h2
  · obtain ⟨v', e', r⟩ := o.tab j t e
    exact ⟨v', by rw [set_there (ne e)]; exact e', r⟩
theorem own_bare {v : Option V} (n : gt γ i = none) {b : Addr} : OwnA K (σ.set i v) H Hk γ b ↔ OwnA K σ H Hk γ b := by
  constructor
  · rintro ⟨j, c, y, w, fp, e, h, r⟩
    have : i ≠ j := fun z => by rw [← z, n] at e; cases e
    rw [set_there this] at h
    exact ⟨j, c, y, w, fp, e, h, r⟩
  · rintro ⟨j, c, y, w, fp, e, h, r⟩
    have : i ≠ j := fun z => by rw [← z, n] at e; cases e
    exact ⟨j, c, y, w, fp, e, by rw [set_there this]; exact h, r⟩
theorem Go.bare {v : Option V} (o : Ok K σ H Hk γ) (n : gt γ i = none) : Go K σ H Hk γ (σ.set i v) H Hk γ :=
  ⟨o.bare n, Same.refl _, fun b u h q => (by rw [h] at q; cases q), fun _ _ h _ => h, fun b h => .inl ((own_bare n).mp h), fun j y h => ⟨set_there (fun z => by rw [← z, n] at h; cases h) _, y, h⟩⟩
theorem Go.foreign (g : Go K σ0 H0 Hk0 γ0 σ H Hk γ) (h0 : H0 a = none ∨ OwnA K σ0 H0 Hk0 γ0 a) (hk : Hk a = none) (no : ¬ OwnA K σ H Hk γ a) : Go K σ0 H0 Hk0 γ0 σ (upd H a x) Hk γ :=
  ⟨g.ok.offS hk no, g.kk, g.nw, fun b u e n => (by
    have : b ≠ a := fun z => by
      rcases h0 with h0 | h0
      · rw [z, h0] at e; cases e
      · exact n (by rw [z]; exact h0)
    rw [upd_ne this]
    exact g.kp b u e n), fun b h => g.sh b ((g.ok.offA no).mp h), g.pn⟩
end
theorem inj_nd {α β : Type} {f : α → β} : ∀ {l : List α} {x y : α}, (l.map f).Nodup → x ∈ l → y ∈ l → f x = f y → x = y
  | a :: r, x, y, nd, hx, hy, e => by
    rw [List.map_cons, List.nodup_cons] at nd
    rcases List.mem_cons.mp hx with ex | mx
    · rcases List.mem_cons.mp hy with ey | my
      · rw [ex, ey]
      · exact absurd (by rw [← ex, e]; exact List.mem_map_of_mem my) nd.1
    · rcases List.mem_cons.mp hy with ey | my
      · exact absurd (by rw [← ey, ← e]; exact List.mem_map_of_mem mx) nd.1
      · exact inj_nd nd.2 mx my e
/-- an entry of a dict of lists that is being built: key, where it stands, where the list stands, its items -/
structure GEn where
  k : NestedKey
  ka : Addr
  va : Addr
  vs : List V
def GEn.en (g : GEn) : NestedKey × Addr × Value := (g.k, g.ka, .ref g.va)
abbrev Gkv := List (D × List D)
def FoN (p : Addr) (gs : List GEn) (a : Addr) : Prop := a = p ∨ ∃ g ∈ gs, g.va = a
def GRel (K : PySem.W.Frag) (Hk : Hp) (g : GEn) (kv : D × List D) : Prop := keyD kv.1 = some g.k ∧ Dp K Hk (.ref g.ka) kv.1 ∧ DpAll K Hk g.vs kv.2
structure GrN (K : PySem.W.Frag) (H Hk : Hp) (p : Addr) (gs : List GEn) (kvs : Gkv) : Prop where
  hp : ∃ o, H p = some (dnO p o) ∧ DictO o (gs.map GEn.en)
  hn : Hk p = none
  hs : (p == sysModules) = false
  nd : (gs.map GEn.k).Nodup
  nv : (gs.map GEn.va).Nodup
  el : ∀ g ∈ gs, g.va ≠ p ∧ H g.va = some (.lst g.vs) ∧ Hk g.va = none
  rl : PySem.W.EachIs (GRel K Hk) gs kvs
section
variable {K : PySem.W.Frag} {σ σ0 σ2 : L2.St} {H Hk H0 Hk0 H2 Hk2 : Hp} {γ γ0 γ2 : En} {p : Addr} {gs : List GEn} {kvs : Gkv}
theorem GrN.got (g : GrN K H Hk p gs kvs) {a : Addr} (h : FoN p gs a) : (∃ u, H a = some u) ∧ Hk a = none := by
  rcases h with rfl | ⟨e, he, rfl⟩
  · obtain ⟨o, h1, _⟩ := g.hp
    exact ⟨⟨_, h1⟩, g.hn⟩
  · exact ⟨⟨_, (g.el e he).2.1⟩, (g.el e he).2.2⟩
theorem GrN.go (g : GrN K H Hk p gs kvs) (no : ∀ a, FoN p gs a → ¬ OwnA K σ H Hk γ a) (G : Go K σ H Hk γ σ2 H2 Hk2 γ2) : GrN K H2 Hk2 p gs kvs ∧ ∀ a, FoN p gs a → ¬ OwnA K σ2 H2 Hk2 γ2 a := by
  have free : ∀ a, FoN p gs a → Hk2 a = none := fun a fa => by
    cases e : Hk2 a with
    | none => rfl
    | some u =>
      obtain ⟨⟨v, hv⟩, ha⟩ := g.got fa
      rcases G.nw a u e ha with z | z
      · rw [hv] at z; cases z
      · exact absurd z (no a fa)
  obtain ⟨o, h1, h2⟩ := g.hp
  refine ⟨⟨⟨o, G.kp _ _ h1 (no p (.inl rfl)), h2⟩, free p (.inl rfl), g.hs, g.nd, g.nv, fun e he => ?_, g.rl.mono fun e kv ⟨h1, h2, h3⟩ => ⟨h1, dp_mono G.kk h2, dps_mono G.kk h3⟩⟩, fun a fa h => ?_⟩
  · obtain ⟨h1, h2, h3⟩ := g.el e he
    exact ⟨h1, G.kp _ _ h2 (no _ (.inr ⟨e, he, rfl⟩)), free _ (.inr ⟨e, he, rfl⟩)⟩
  · rcases G.sh a h with z | z
    · exact no a fa z
    · obtain ⟨⟨v, hv⟩, _⟩ := g.got fa
      rw [hv] at z; cases z
theorem GrN.more (g : GrN K H Hk p gs kvs) {l : Addr} {o : HO} (hl : H l = none) : GrN K (upd H l o) Hk p gs kvs := by
  obtain ⟨ob, h1, h2⟩ := g.hp
  refine ⟨⟨ob, by rw [upd_ne (ne_of_none h1 hl)]; exact h1, h2⟩, g.hn, g.hs, g.nd, g.nv, fun e he => ?_, g.rl⟩
  obtain ⟨h1, h2, h3⟩ := g.el e he
  exact ⟨h1, by rw [upd_ne (ne_of_none h2 hl)]; exact h2, h3⟩
end
/-- put into the list at the key -/
def putN : Gkv → D → NestedKey → D → Gkv
  | [], kd, _, x => [(kd, [x])]
  | q :: r, kd, k, x => if keyD q.1 = some k then (q.1, q.2 ++ [x]) :: r else q :: putN r kd k x
section
variable {K : PySem.W.Frag} {H Hk : Hp}
theorem each_snoc {α β : Type} {R : α → β → Prop} {x : α} {y : β} : ∀ {as : List α} {bs : List β}, PySem.W.EachIs R as bs → R x y → PySem.W.EachIs R (as ++ [x]) (bs ++ [y])
  | _, _, .nil, h => .cons h .nil
  | _, _, .cons a t, h => .cons a (each_snoc t h)
theorem putN_new {kd x : D} {k : NestedKey} : ∀ {gs : List GEn} {kvs : Gkv}, PySem.W.EachIs (GRel K Hk) gs kvs → k ∉ gs.map GEn.k → putN kvs kd k x = kvs ++ [(kd, [x])]
  | _, _, .nil, _ => rfl
  | _, _, .cons (a := g) h t, n => by
    rw [List.map_cons, List.mem_cons, not_or] at n
    rw [putN, if_neg (fun z => n.1 (by rw [h.1] at z; exact (Option.some.inj z).symm)), putN_new t n.2]
    rfl
def addN (k : NestedKey) (v : V) (g : GEn) : GEn := if g.k = k then { g with vs := g.vs ++ [v] } else g
theorem addN_k (k : NestedKey) (v : V) (g : GEn) : (addN k v g).k = g.k := by unfold addN; split <;> rfl
theorem addN_va (k : NestedKey) (v : V) (g : GEn) : (addN k v g).va = g.va := by unfold addN; split <;> rfl
theorem addN_en (k : NestedKey) (v : V) (g : GEn) : (addN k v g).en = g.en := by unfold addN; split <;> rfl
theorem mapN_no {k : NestedKey} {v : V} : ∀ {gs : List GEn}, k ∉ gs.map GEn.k → gs.map (addN k v) = gs
  | [], _ => rfl
  | g :: r, h => by
    rw [List.map_cons, List.mem_cons, not_or] at h
    rw [List.map_cons, mapN_no h.2]
    congr 1
    unfold addN
    rw [if_neg (fun z => h.1 z.symm)]
theorem putN_old {kd x : D} {k : NestedKey} {v : V} (hx : Dp K Hk v x) : ∀ {gs : List GEn} {kvs : Gkv}, PySem.W.EachIs (GRel K Hk) gs kvs → (gs.map GEn.k).Nodup → k ∈ gs.map GEn.k → PySem.W.EachIs (GRel K Hk) (gs.map (addN k v)) (putN kvs kd k x)
  | _, _, .nil, _, h => by cases h
  | _, _, .cons (a := g) (b := kv) h t, nd, hk => by
    rw [List.map_cons, List.nodup_cons] at nd
    by_cases c : g.k = k
    · have e1 : addN k v g = { g with vs := g.vs ++ [v] } := by unfold addN; rw [if_pos c]
      rw [List.map_cons, e1, mapN_no (by rw [← c]; exact nd.1), putN, if_pos (by rw [h.1, c])]
      exact .cons ⟨h.1, h.2.1, dps_app h.2.2 (.cons hx .nil)⟩ t
    · have e1 : addN k v g = g := by unfold addN; rw [if_neg c]
      rw [List.map_cons, e1, putN, if_neg (fun z => c (by rw [h.1] at z; exact Option.some.inj z))]
      rw [List.map_cons, List.mem_cons] at hk
      exact .cons h (putN_old hx t nd.2 (hk.resolve_left fun z => c z.symm))
end
section
variable {K : PySem.W.Frag} {H Hk : Hp} {p : Addr} {gs : List GEn} {kvs : Gkv}
theorem GrN.addNew (g : GrN K H Hk p gs kvs) {k : NestedKey} {a l : Addr} {v : V} {x kd : D} {o : Obj} (hk : k ∉ gs.map GEn.k) (ek : keyD kd = some k) (ka : Dp K Hk (.ref a) kd) (hl : H l = some (.lst [])) (lp : l ≠ p) (lf : ∀ e ∈ gs, e.va ≠ l) (ln : Hk l = none) (hx : Dp K Hk v x) (ho : DictO o (gs.map GEn.en ++ [(k, a, .ref l)])) :
    GrN K (upd (upd H p (dnO p o)) l (.lst [v])) Hk p (gs ++ [⟨k, a, l, [v]⟩]) (putN kvs kd k x) := by
  refine ⟨⟨o, by rw [upd_ne lp.symm, upd_same], by rw [List.map_append]; exact ho⟩, g.hn, g.hs, ?_, ?_, fun e he => ?_, ?_⟩
  · rw [List.map_append, List.nodup_append]
    exact ⟨g.nd, by simp, fun y hy z hz e => hk (by
      have : z = k := by simpa using hz
      rw [← this, ← e]; exact hy)⟩
  · rw [List.map_append, List.nodup_append]
    exact ⟨g.nv, by simp, fun y hy z hz e => by
      have hz : z = l := by simpa using hz
      obtain ⟨e', he', q⟩ := List.mem_map.mp hy
      exact lf e' he' (by rw [q, e, hz])⟩
  · rcases List.mem_append.mp he with he | he
    · obtain ⟨h1, h2, h3⟩ := g.el e he
      exact ⟨h1, by rw [upd_ne (lf e he), upd_ne h1]; exact h2, h3⟩
    · have : e = ⟨k, a, l, [v]⟩ := by simpa using he
      subst this
      exact ⟨lp, upd_same, ln⟩
  · rw [putN_new g.rl hk]
    exact each_snoc g.rl ⟨ek, ka, .cons hx .nil⟩
theorem GrN.addOld (g : GrN K H Hk p gs kvs) {e : GEn} (he : e ∈ gs) {v : V} {x kd : D} (hx : Dp K Hk v x) : GrN K (upd H e.va (.lst (e.vs ++ [v]))) Hk p (gs.map (addN e.k v)) (putN kvs kd e.k x) := by
  have h0 := g.el e he
  have one : ∀ f ∈ gs, f.k = e.k → f = e := fun f hf c => inj_nd g.nd hf he c
  have onev : ∀ f ∈ gs, f.va = e.va → f = e := fun f hf c => inj_nd g.nv hf he c
  have ek : (gs.map (addN e.k v)).map GEn.k = gs.map GEn.k := by rw [List.map_map]; exact List.map_congr_left fun f _ => addN_k _ _ f
  have ev : (gs.map (addN e.k v)).map GEn.va = gs.map GEn.va := by rw [List.map_map]; exact List.map_congr_left fun f _ => addN_va _ _ f
  have ee : (gs.map (addN e.k v)).map GEn.en = gs.map GEn.en := by rw [List.map_map]; exact List.map_congr_left fun f _ => addN_en _ _ f
  obtain ⟨o, h1, h2⟩ := g.hp
  refine ⟨⟨o, by rw [upd_ne h0.1.symm]; exact h1, by rw [ee]; exact h2⟩, g.hn, g.hs, by rw [ek]; exact g.nd, by rw [ev]; exact g.nv, fun f' hf' => ?_, putN_old hx g.rl g.nd (List.mem_map_of_mem he)⟩
  obtain ⟨f, hf, rfl⟩ := List.mem_map.mp hf'
  obtain ⟨h1, h2, h3⟩ := g.el f hf
  rw [addN_va]
  refine ⟨h1, ?_, h3⟩
  by_cases c : f.k = e.k
  · obtain rfl := one f hf c
    unfold addN
    rw [if_pos rfl, upd_same]
  · have : f.va ≠ e.va := fun z => c (by rw [onev f hf z])
    rw [upd_ne this]
    unfold addN
    rw [if_neg c]
    exact h2
theorem entsG {Hk Hk2 : Hp} (s : Same Hk Hk2) {gs : List GEn} {kvs : Gkv} (h : ∀ g ∈ gs, Hk2 g.va = some (.lst g.vs)) (r : PySem.W.EachIs (GRel K Hk) gs kvs) : DpEnts K Hk2 (gs.map GEn.en) (kvs.map fun kv => (kv.1, .list kv.2)) := by
  induction r with
  | nil => exact .nil
  | @cons g kv gs' kvs' r t ih =>
    rw [List.map_cons, List.map_cons]
    exact .cons r.1 (dp_mono s r.2.1) (v := .ref g.va) rfl (.lst (SqL.of (h g (by simp))) (dps_mono s r.2.2)) (ih fun e he => h e (by simp [he]))
end
def frozenN (kvs : Gkv) : Kvs := kvs.map fun kv => (kv.1, .list kv.2)
section
variable {K : PySem.W.Frag} {σ σ0 : L2.St} {H Hk H0 Hk0 : Hp} {γ γ0 : En} {p : Addr} {gs : List GEn} {kvs : Gkv}
theorem GrN.freeze (G : Go K σ0 H0 Hk0 γ0 σ H Hk γ) (g : GrN K H Hk p gs kvs) (no : ∀ a, FoN p gs a → ¬ OwnA K σ H Hk γ a ∧ (H0 a = none ∨ OwnA K σ0 H0 Hk0 γ0 a)) (hz : kvs.length ≤ sizeLine) : ∃ Hk2, Go K σ0 H0 Hk0 γ0 σ H Hk2 γ ∧ Dp K Hk2 (.ref p) (.dict (frozenN kvs)) := by
  classical
  let Hk2 : Hp := fun a => if FoN p gs a then H a else Hk a
  have off : ∀ a, FoN p gs a → Hk a = none := fun a fa => (g.got fa).2
  have s1 : Same Hk Hk2 := fun a u e => by
    have : ¬ FoN p gs a := fun fa => by rw [off a fa] at e; cases e
    show (if FoN p gs a then H a else Hk a) = some u
    rw [if_neg this]
    exact e
  have s2 : Same Hk2 H := fun a u e => by
    have e : (if FoN p gs a then H a else Hk a) = some u := e
    split at e
    · exact e
    · exact G.ok.sub a u e
  have at' : ∀ a, FoN p gs a → Hk2 a = H a := fun a fa => if_pos fa
  have nat' : ∀ a, ¬ FoN p gs a → Hk2 a = Hk a := fun a fa => if_neg fa
  obtain ⟨o, h1, h2⟩ := g.hp
  have up : ∀ {i b y v fp}, gt γ i = some (.ow b y) → σ[i]? = some (some v) → OwnV K H Hk v y fp → OwnV K H Hk2 v y fp := fun {i b y v fp} e ev r => r.to s1 (fun _ _ _ q => q) fun a ha => by
    rw [nat' a fun fa => (no a fa).1 ⟨i, b, y, v, fp, e, ev, r, ha⟩]
    exact (r.at a ha).2
  have dn : ∀ {i b y v fp}, gt γ i = some (.ow b y) → σ[i]? = some (some v) → OwnV K H Hk2 v y fp → OwnV K H Hk v y fp := fun {i b y v fp} e ev r => by
    obtain ⟨v', fp', e1, r1⟩ := G.ok.ow i b y e
    rw [ev] at e1; cases e1
    rw [r.det (up e ev r1)]
    exact r1
  refine ⟨Hk2, ⟨⟨G.ok.len, s2, fun j d e => ?_, fun j b y e => ?_, G.ok.pin, fun i j b c y z v u fp fq ei ej vi vj ri rj a mi mj => G.ok.sep i j b c y z v u fp fq ei ej vi vj (dn ei vi ri) (dn ej vj rj) a mi mj, fun j t e => ?_⟩, G.kk.trans s1, fun a u e n => ?_, G.kp, fun a e => ?_, G.pn⟩, ?_⟩
  · obtain ⟨v, e1, r⟩ := G.ok.dat j d e
    exact ⟨v, e1, dp_mono s1 r⟩
  · obtain ⟨v, fp, e1, r⟩ := G.ok.ow j b y e
    exact ⟨v, fp, e1, up e e1 r⟩
  · obtain ⟨v, e1, r⟩ := G.ok.tab j t e
    exact ⟨v, e1, r.mono s1⟩
  · by_cases fa : FoN p gs a
    · exact (no a fa).2
    · rw [nat' a fa] at e
      exact G.nw a u e n
  · obtain ⟨i, b, y, v, fp, e1, e2, r, m⟩ := e
    exact G.sh a ⟨i, b, y, v, fp, e1, e2, dn e1 e2 r, m⟩
  · refine .dct (xs := gs.map GEn.en) (by rw [at' p (.inl rfl)]; exact h1) h2 (entsG s1 (fun e he => by rw [at' _ (.inr ⟨e, he, rfl⟩)]; exact (g.el e he).2.1) g.rl) ?_ g.hs ?_
    · rw [List.map_map]
      exact g.nd
    · rw [List.length_map, g.rl.length]
      exact hz
theorem lenG : ∀ {gs : List GEn} {kvs : Gkv}, PySem.W.EachIs (GRel K Hk) gs kvs → kvs.all (fun kv => okN kv.2.length) = true → ∀ e ∈ gs, okN e.vs.length = true
  | _, _, .cons (a := g) h t, ha, e, he => by
    rw [List.all_cons, Bool.and_eq_true] at ha
    rcases List.mem_cons.mp he with rfl | he
    · rw [dps_len h.2.2]; exact ha.1
    · exact lenG t ha.2 e he
theorem atN_none {k : NestedKey} : ∀ {gs : List GEn}, atKey (gs.map GEn.en) k = none → k ∉ gs.map GEn.k
  | [], _ => by simp
  | g :: r, h => by
    unfold atKey at h
    rw [List.map_cons, List.find?_cons] at h
    rw [List.map_cons, List.mem_cons, not_or]
    by_cases c : g.en.1 = k
    · rw [decide_eq_true c] at h
      cases h
    · rw [decide_eq_false c] at h
      exact ⟨fun z => c z.symm, atN_none (gs := r) h⟩
theorem atN_some {k : NestedKey} {q : Addr × Value} : ∀ {gs : List GEn}, atKey (gs.map GEn.en) k = some q → ∃ e ∈ gs, e.k = k ∧ q = (e.ka, .ref e.va)
  | [], h => by cases h
  | g :: r, h => by
    unfold atKey at h
    rw [List.map_cons, List.find?_cons] at h
    by_cases c : g.en.1 = k
    · rw [decide_eq_true c] at h
      cases h
      exact ⟨g, by simp, c, rfl⟩
    · rw [decide_eq_false c] at h
      obtain ⟨e, he, z⟩ := atN_some (gs := r) h
      exact ⟨e, by simp [he], z⟩
end
def grpN (j : Nat) (kf : Fe) : List D → En → Gkv → Option (Gkv × En)
  | [], γ, kvs => some (kvs, γ)
  | d :: ds, γ, kvs => match gDat j d γ with
    | some γ1 => match kf γ1 with
      | some (kd, γ2) => match keyD kd with
        | some k => if okN kvs.length && kvs.all (fun kv => okN kv.2.length) then grpN j kf ds γ2 (putN kvs kd k d) else none
        | none => none
      | none => none
    | none => none
def sGrpN (i j : Nat) (src : Fa) (kf : Fe) : Fs := fun γ => if (gt γ i).isNone && decide (i < γ.length) && decide (j < γ.length) then
  match src γ with
  | some (ds, γ1) => match grpN j kf ds γ1 [] with
    | some (kvs, γ2) => if !pinB γ2 i && okN kvs.length then some (.nx (γ2.set i (some (.dat (.dict (frozenN kvs)))))) else none
    | none => none
  | none => none
  else none
/-- d.setdefault(k, a new list) -/
def rSetdN (X : Cx) : V → List V → Hp → VK → Prop := fun x vs H Q => ∃ (p a l : Addr) (o : Obj) (xs : List (NestedKey × Addr × Value)) (kvs : Kvs) (kd : D) (k : NestedKey) (el : D), x = .ref p ∧ vs = [.ref a, .ref l] ∧ dicO kvs X.K H p o xs ∧ xs.length ≤ 1000000 ∧
  Dp X.K H (.ref a) kd ∧ keyD kd = some k ∧ Dp X.K H (.ref l) el ∧ (∀ q, atKey xs k = some q → ∃ v, RelV v q.2 ∧ Q v H) ∧ (atKey xs k = none → ∀ o2, DictO o2 (xs ++ [(k, a, .ref l)]) → Q (.ref l) (upd H p (dnO p o2)))
theorem mt_setdN {X : Cx} {n : Nat} (hr : Room n X.A) : MtR X "dict.setdefault" (rSetdN X) := by
  intro pins s σ H x vs v us Q I rx rv h
  obtain ⟨p, a, l, o, xs, kvs, kd, k, el, rfl, rfl, ⟨h1, h2, h3, h4, h5, h6⟩, hz, ka, ek, hl, q1, q2⟩ := h
  cases rx
  cases rv with
  | cons r1 rr =>
    cases r1
    cases rr with
    | cons r2 rr2 =>
      cases r2
      cases rr2
      have un := hr.un
      refine call_setdefault_heap (hsz := Nat.le_trans hz (by decide)) (knd := nestedKind X.prog X.w) (k := k) (by show X.A.in1.units + 8 < cLine; rw [Around.in1_units]; omega) (keyN_at I ka ek) h5 (dictN_at I h1 h2 h3 h4) ?_ ?_
      · intro q hq
        obtain ⟨v, rv, z⟩ := q1 q hq
        exact ⟨v, H, I.tok _, rv, z⟩
      · intro hno h' hd hb
        rw [storedH_new hno] at hd
        obtain ⟨o2, ho2, hd2, _⟩ := dictN_of hd (ents_app h3 (.cons ek ka (u := .ref l) (v := .ref l) rfl hl .nil))
        exact ⟨.ref l, _, I.write (x := p) (e := p) (by rw [h1]; exact True.intro) (.inl rfl) (fun b u hne z => (hb.2 b hne).trans z) ⟨o2, ho2⟩ (dnO_ok ho2), rfl, q2 hno o2 hd2⟩
end DN
namespace DN
open PySem PySem.Spec PyProof.Rows L2
/-- what the loop's body asks -/
def tPutN (X : Cx) (i j : Nat) (kf : Fe) : TE := fun σ H Q => (fun σ H Q => tVar i σ H fun x H1 => TyAt X "dict" x H1 ∧ tCons (tI X.K kf) (tCons (tL X.K (lDisp aNil)) tNil) σ H1 fun vs H2 => rSetdN X x vs H2 Q) σ H fun x H1 => TyAt X "list" x H1 ∧ tCons (tVar j) tNil σ H1 fun vs H2 => rAppend x vs H2 Q
theorem lst_ty {X : Cx} {H : Hp} {l : Addr} {xs : List V} (h : H l = some (.lst xs)) : TyAt X "list" (.ref l) H := fun pins s σ v I r => tyV_is I r (.inl ⟨rfl, xs, SqL.of h⟩)
/-- what is seen of the dict beside a new list: its lists last not, but they are there -/
theorem GrN.seen {K : PySem.W.Frag} {H Hk : Hp} {p : Addr} {gs : List GEn} {kvs : Gkv} (g : GrN K H Hk p gs kvs) (s : Same Hk H) (hz : gs.length ≤ sizeLine) : ∃ o, dicO (frozenN kvs) K H p o (gs.map GEn.en) := by
  obtain ⟨o, h1, h2⟩ := g.hp
  exact ⟨o, h1, h2, entsG s (fun e he => (g.el e he).2.1) g.rl, by rw [List.map_map]; exact g.nd, g.hs, by rw [List.length_map]; exact hz⟩
theorem putN_step {X : Cx} {i j : Nat} {kf : Fe} {σ σ0 : L2.St} {H Hk H0 Hk0 : Hp} {γ γ0 γ2 : En} {p : Addr} {gs : List GEn} {kvs : Gkv} {x : V} {d kd : D} {k : NestedKey} {Q : VK}
    (G : Go X.K σ0 H0 Hk0 γ0 σ H Hk γ) (g : GrN X.K H Hk p gs kvs) (no : ∀ a, FoN p gs a → ¬ OwnA X.K σ H Hk γ a ∧ (H0 a = none ∨ OwnA X.K σ0 H0 Hk0 γ0 a)) (hi : σ[i]? = some (some (.ref p))) (hj : σ[j]? = some (some x)) (hx : Dp X.K Hk x d)
    (ek : kf γ = some (kd, γ2)) (ei : keyD kd = some k) (z1 : okN kvs.length = true) (z2 : kvs.all (fun kv => okN kv.2.length) = true)
    (q : ∀ v H2 Hk2 gs2, Go X.K σ0 H0 Hk0 γ0 σ H2 Hk2 γ2 → Same Hk Hk2 → GrN X.K H2 Hk2 p gs2 (putN kvs kd k d) → (∀ a, FoN p gs2 a → ¬ OwnA X.K σ H2 Hk2 γ2 a ∧ (H0 a = none ∨ OwnA X.K σ0 H0 Hk0 γ0 a)) → Q v H2) : tPutN X i j kf σ H Q := by
  obtain ⟨o0, hp0, hd0⟩ := g.hp
  refine ⟨.ref p, hi, dnO_ty hp0 hd0, γ, Hk, kd, γ2, G.ok, ek, fun v1 H1 Hk1 g1 r1 => ?_⟩
  obtain ⟨a, rfl⟩ := key_ref r1 ei
  obtain ⟨gr1, no1⟩ := g.go (fun b fb => (no b fb).1) g1
  refine ⟨γ2, Hk1, [], γ2, g1.ok, rfl, fun l vs H2 Hk2 g2 hl rl => ?_⟩
  cases rl
  obtain ⟨gr2, no2⟩ := gr1.go no1 g2
  have G2 : Go X.K σ0 H0 Hk0 γ0 σ H2 Hk2 γ2 := (G.trans g1).trans g2
  have fl : ¬ FoN p gs l := fun f => by obtain ⟨⟨u, hu⟩, _⟩ := gr2.got f; rw [hl] at hu; cases hu
  have lk : Hk2 l = none := g2.ok.sub.free hl
  have lo : ¬ OwnA X.K σ H2 Hk2 γ2 l := fun z => z.noN hl
  have l0 : H0 l = none ∨ OwnA X.K σ0 H0 Hk0 γ0 l := by
    cases e : H0 l with
    | none => exact .inl rfl
    | some u =>
      by_cases ho : OwnA X.K σ0 H0 Hk0 γ0 l
      · exact .inr ho
      · have := G2.kp l u e ho
        rw [hl] at this
        cases this
  have S02 : Same Hk Hk2 := g1.kk.trans g2.kk
  have gr3 : GrN X.K (upd H2 l (.lst [])) Hk2 p gs kvs := gr2.more hl
  have s2 : Same Hk2 (upd H2 l (.lst [])) := g2.ok.sub.trans (same_upd hl)
  have kd2 : Dp X.K Hk2 (.ref a) kd := dp_mono g2.kk r1
  have hx2 : Dp X.K Hk2 x d := dp_mono S02 hx
  have len : gs.length ≤ 1000000 := by rw [g.rl.length]; exact of_decide_eq_true z1
  have G3 : Go X.K σ0 H0 Hk0 γ0 σ (upd H2 l (.lst [])) Hk2 γ2 := G2.foreign l0 lk lo
  have no3 : ∀ b, FoN p gs b → ¬ OwnA X.K σ (upd H2 l (.lst [])) Hk2 γ2 b := fun b fb z => no2 b fb ((g2.ok.offA lo).mp z)
  have lo3 : ¬ OwnA X.K σ (upd H2 l (.lst [])) Hk2 γ2 l := fun z => lo ((g2.ok.offA lo).mp z)
  obtain ⟨o3, see⟩ := gr3.seen s2 (Nat.le_trans len (by decide))
  refine ⟨p, a, l, o3, gs.map GEn.en, frozenN kvs, kd, k, .list [], rfl, rfl, see, by rw [List.length_map]; exact len, dp_mono s2 kd2, ei, .lst (SqL.of upd_same) .nil, fun qq hq => ?_, fun hq o2 ho2 => ?_⟩
  · obtain ⟨e, he, rfl, rfl⟩ := atN_some hq
    have ve := (gr3.el e he).2.1
    refine ⟨.ref e.va, rfl, lst_ty ve, x, hj, e.va, e.vs, x, rfl, rfl, ve, okN_lt (lenG g.rl z2 e he), ?_⟩
    have fe : FoN p gs e.va := .inr ⟨e, he, rfl⟩
    have noe := no3 _ fe
    refine q _ _ Hk2 (gs.map (addN e.k x)) (G3.foreign (no _ fe).2 (gr3.el e he).2.2 noe) S02 (gr3.addOld he hx2) fun b fb => ?_
    have fb' : FoN p gs b := by
      rcases fb with rfl | ⟨f', hf', rfl⟩
      · exact .inl rfl
      · obtain ⟨f, hf, rfl⟩ := List.mem_map.mp hf'
        exact .inr ⟨f, hf, (addN_va _ _ f).symm⟩
    exact ⟨fun z => no3 b fb' ((G3.ok.offA noe).mp z), (no b fb').2⟩
  · have lp : l ≠ p := fun z => fl (.inl z)
    have fp : FoN p gs p := .inl rfl
    have hl5 : (upd (upd H2 l (.lst [])) p (dnO p o2)) l = some (.lst []) := by rw [upd_ne lp, upd_same]
    refine ⟨lst_ty hl5, x, hj, l, [], x, rfl, rfl, hl5, by decide, ?_⟩
    show Q .non (upd (upd (upd H2 l (.lst [])) p (dnO p o2)) l (.lst [x]))
    have nop := no3 p fp
    have G4 := G3.foreign (x := dnO p o2) (no p fp).2 gr3.hn nop
    have lo4 : ¬ OwnA X.K σ (upd (upd H2 l (.lst [])) p (dnO p o2)) Hk2 γ2 l := fun z => lo3 ((G3.ok.offA nop).mp z)
    refine q _ _ Hk2 (gs ++ [⟨k, a, l, [x]⟩]) (G4.foreign l0 lk lo4) S02 (gr3.addNew (atN_none hq) ei kd2 upd_same lp (fun e he z => fl (.inr ⟨e, he, z⟩)) lk hx2 ho2) fun b fb => ?_
    have off : ∀ {b}, ¬ OwnA X.K σ (upd H2 l (.lst [])) Hk2 γ2 b → ¬ OwnA X.K σ (upd (upd (upd H2 l (.lst [])) p (dnO p o2)) l (.lst [x])) Hk2 γ2 b := fun {b} n z => n ((G3.ok.offA nop).mp ((G4.ok.offA lo4).mp z))
    rcases fb with rfl | ⟨f, hf, rfl⟩
    · exact ⟨off nop, (no _ fp).2⟩
    · rcases List.mem_append.mp hf with hf | hf
      · exact ⟨off (no3 _ (.inr ⟨f, hf, rfl⟩)), (no _ (.inr ⟨f, hf, rfl⟩)).2⟩
      · have : f = ⟨k, a, l, [x]⟩ := by simpa using hf
        subst this
        exact ⟨off lo3, l0⟩
theorem grpN_nx {i j : Nat} {src : Fa} {kf : Fe} {γ : En} {o : Out} (e : sGrpN i j src kf γ = some o) : ∃ γf, o = .nx γf := by
  unfold sGrpN at e
  split at e
  · split at e
    · split at e
      · split at e
        · cases e
          exact ⟨_, rfl⟩
        · cases e
      · cases e
    · cases e
  · cases e
theorem es_grpN {X : Cx} {W : WX} {i j : Nat} {t it : Expr} {body ss : List Stmt} {s2 : Stmt} {src : Fa} {kf : Fe} {G : Fs} {pos : Pos} (hp : PassesOwn (model X.prog X.w) X.A X.env X.xe) (hc : X.calm = true) (hij : i ≠ j)
    (h2 : PS X s2 (tAsg tDicNew (gName i))) (hi : EI X t it src) (hg : PG X t (gName j)) (hb : PSs X body (tDrop (tPutN X i j kf))) (rest : ESs X W ss G)
    (hs : ∀ x, foldedSetIterable it X.env x = pure x := by intro _; rfl) : ESs X W (s2 :: .For t it body [] pos :: ss) (sSeq (sGrpN i j src kf) G) :=
  PSs.imp (pss_cons h2 (pss_cons (ps_for hp hc hi hg hb hs) rest)) fun Z σ H ⟨γ, Hk, o, k, e, q⟩ => by
  unfold sSeq at e
  split at e
  · rename_i γf ef
    unfold sGrpN at ef
    split at ef
    · rename_i cc
      rw [Bool.and_eq_true, Bool.and_eq_true] at cc
      obtain ⟨⟨c0, c1⟩, c2⟩ := cc
      have ni : gt γ i = none := Option.isNone_iff_eq_none.mp c0
      have li : i < σ.length := by rw [k.len]; exact of_decide_eq_true c1
      have lj : j < σ.length := by rw [k.len]; exact of_decide_eq_true c2
      split at ef
      · rename_i ds γ1 es
        split at ef
        · rename_i kvsE γE eg
          split at ef <;> cases ef
          rename_i ce
          rw [Bool.and_eq_true] at ce
          unfold tSeq tAsg tDicNew gName
          intro p ob hpn hps hob
          have gb : Go X.K σ H Hk γ (σ.set i (some (.ref p))) H Hk γ := Go.bare k ni
          have nown : ¬ OwnA X.K (σ.set i (some (.ref p))) H Hk γ p := fun z => z.noN hpn
          have G0 : Go X.K σ H Hk γ (σ.set i (some (.ref p))) (upd H p (dnO p ob)) Hk γ := gb.foreign (.inl hpn) (k.sub.free hpn) nown
          have at0 : (σ.set i (some (.ref p)))[i]? = some (some (V.ref p)) := List.getElem?_set_self li
          have gr0 : GrN X.K (upd H p (dnO p ob)) Hk p [] [] := ⟨⟨ob, upd_same, hob⟩, k.sub.free hpn, hps, List.nodup_nil, List.nodup_nil, (fun _ h => by cases h), .nil⟩
          have no0 : ∀ a, FoN p [] a → ¬ OwnA X.K (σ.set i (some (.ref p))) (upd H p (dnO p ob)) Hk γ a := fun a fa => by
            rcases fa with rfl | ⟨_, h, _⟩
            · exact fun z => nown ((gb.ok.offA nown).mp z)
            · cases h
          refine ⟨γ, Hk, ds, γ1, G0.ok, es, fun J H1 Hk1 g1 wk => ?_⟩
          obtain ⟨gr1, no1⟩ := gr0.go no0 g1
          let Wv : Nat → Nat → L2.St → Hp → Prop := fun n m σ' H' => m = ds.length - n ∧ n ≤ ds.length ∧ ∃ γ' Hk' gs kvs, Go X.K σ H Hk γ σ' H' Hk' γ' ∧ Same Hk1 Hk' ∧ σ'.length = σ.length ∧ σ'[i]? = some (some (V.ref p)) ∧ GrN X.K H' Hk' p gs kvs ∧
            (∀ a, FoN p gs a → ¬ OwnA X.K σ' H' Hk' γ' a ∧ (H a = none ∨ OwnA X.K σ H Hk γ a)) ∧ grpN j kf (ds.drop n) γ' kvs = some (kvsE, γE)
          refine ⟨Wv, ⟨ds.length, by simp, Nat.zero_le _, γ1, Hk1, [], [], G0.trans g1, Same.refl _, List.length_set, at0, gr1, fun a fa => ⟨no1 a fa, ?_⟩, by simpa using eg⟩, ?_⟩
          · rcases fa with rfl | ⟨_, h, _⟩
            · exact .inl hpn
            · cases h
          rintro n m σ' H' ⟨rfl, hn, γ', Hk', gs, kvs, g, sk, hl, hi', gr, no, ef⟩
          obtain ⟨w1, w2⟩ := wk H' Hk' sk g.ok.sub
          by_cases hlt : n < ds.length
          · obtain ⟨go, yl⟩ := w1 n hlt
            rw [List.drop_eq_getElem_cons hlt] at ef
            unfold grpN at ef
            refine .inr ⟨go, Wv (n + 1) (ds.length - (n + 1)), fun σ3 H3 w => ⟨_, by omega, w⟩, fun x H'' y => ?_⟩
            obtain ⟨Hc, gw, rv⟩ := yl x H'' y
            have gy := g.ok.go gw
            obtain ⟨gr2, no2⟩ := gr.go (fun a fa => (no a fa).1) gy
            split at ef
            · rename_i γ2 et
              unfold gDat at et
              split at et <;> cases et
              rename_i cp
              have gs3 : Go X.K σ' H'' Hc γ' (σ'.set j (some x)) H'' Hc (γ'.set j (some (.dat ds[n]))) := gy.ok.setDat rv (noPin_of gy.ok (by simpa using cp))
              obtain ⟨gr3, no3⟩ := gr2.go no2 gs3
              have hi3 : (σ'.set j (some x))[i]? = some (some (V.ref p)) := by rw [set_there hij.symm]; exact hi'
              have hj3 : (σ'.set j (some x))[j]? = some (some x) := List.getElem?_set_self (by rw [hl]; exact lj)
              split at ef
              · rename_i kd γ3 ek
                split at ef
                · rename_i ks eks
                  split at ef
                  · rename_i cz
                    rw [Bool.and_eq_true] at cz
                    refine putN_step ((g.trans gy).trans gs3) gr3 (fun a fa => ⟨no3 a fa, (no a fa).2⟩) hi3 hj3 rv ek eks cz.1 cz.2 fun v H2 Hk2 gs2 G2 S2 gr4 no4 => ?_
                    exact ⟨rfl, hlt, γ3, Hk2, gs2, putN kvs kd ks ds[n], G2, sk.trans ((gy.kk.trans gs3.kk).trans S2), by rw [List.length_set]; exact hl, hi3, gr4, no4, ef⟩
                  · cases ef
                · cases ef
              · cases ef
            · cases ef
          · have e0 : n = ds.length := by omega
            subst e0
            rw [List.drop_length] at ef
            cases ef
            refine .inl ⟨w2 _ (Nat.le_refl _), ?_⟩
            obtain ⟨Hf, gf, tb⟩ := gr.freeze g no (okN_line ce.2)
            have gt' := gf.ok.setDat (i := i) tb (noPin_of gf.ok (by simpa using ce.1))
            have same : σ'.set i (some (V.ref p)) = σ' := by
              apply List.ext_getElem?
              intro n'
              by_cases hn' : i = n'
              · subst hn'
                rw [List.getElem?_set_self (by rw [hl]; exact li), hi']
              · rw [List.getElem?_set_ne hn']
            rw [same] at gt'
            exact ⟨_, Hf, o, gt'.ok, e, q.back (gf.trans gt')⟩
        · cases ef
      · cases ef
    · cases ef
  · rename_i o' hn
    obtain ⟨γf, rfl⟩ := grpN_nx e
    exact absurd e (hn γf)
section
variable {X : Cx} {i j : Nat}
theorem ps_putN {k : Nat} (hr : Room k X.A) {d ke x : Expr} {kf : Fe} {a1 a2 c1 c2 lp pos : Pos} (hd : PE X d (tVar i)) (hk : EV X ke kf) (hx : PE X x (tVar j))
    (b1 : attributeBase d "setdefault" X.env (eval d X.env) = eval d X.env := by rfl)
    (f1' : ((backTo c1 (starEach [ke, .List [] lp] X.env)).all (fun x => !x.1) && (backToKw c1 (keywordEach [] X.env)).all (fun x => x.1.isSome) && decide ([ke, .List [] lp].length + ([] : List Keyword).length + (if ([] : List Keyword).isEmpty then 0 else 1) < 30)) = true := by rfl)
    (l1 : (a1.endLine == c1.line) = true := by rfl) (s1 : starEach [ke, .List [] lp] X.env = (false, eval ke X.env) :: starEach [.List [] lp] X.env := by rfl) (p1 : (backTo c1 (starEach [.List [] lp] X.env)).any (·.1) = false := by rfl)
    (s1' : starEach [.List [] lp] X.env = (false, eval (.List [] lp) X.env) :: starEach [] X.env := by rfl)
    (b2 : attributeBase (.Call (.Attribute d "setdefault" a1) [ke, .List [] lp] [] c1) "append" X.env (eval (.Call (.Attribute d "setdefault" a1) [ke, .List [] lp] [] c1) X.env) = eval (.Call (.Attribute d "setdefault" a1) [ke, .List [] lp] [] c1) X.env := by rfl)
    (f2' : ((backTo c2 (starEach [x] X.env)).all (fun x => !x.1) && (backToKw c2 (keywordEach [] X.env)).all (fun x => x.1.isSome) && decide ([x].length + ([] : List Keyword).length + (if ([] : List Keyword).isEmpty then 0 else 1) < 30)) = true := by rfl)
    (l2 : (a2.endLine == c2.line) = true := by rfl) (s2 : starEach [x] X.env = (false, eval x X.env) :: starEach [] X.env := by rfl) (p2 : (backTo c2 (starEach [] X.env)).any (·.1) = false := by rfl)
    (sw : swapsWith (.Call (.Attribute (.Call (.Attribute d "setdefault" a1) [ke, .List [] lp] [] c1) "append" a2) [x] [] c2) none pos.line X.env = pure false := by rfl) :
    PSs X [.Expr (.Call (.Attribute (.Call (.Attribute d "setdefault" a1) [ke, .List [] lp] [] c1) "append" a2) [x] [] c2) pos] (tDrop (tPutN X i j kf)) :=
  pss_one (ps_expr (pe_meth PySem.F.plainAttrs_list PySem.F.slot_list_append PySem.F.type_list_append mt_append
    (pe_meth PySem.F.plainAttrs_dict PySem.F.slot_dict_setdefault PySem.F.type_dict_setdefault (mt_setdN hr) hd (pa_cons hk (pa_cons (el_disp ea_nil) pa_nil s1') s1) b1 f1' l1 s1 p1)
    (pa_cons hx pa_nil s2) b2 f2' l2 s2 p2) sw)
theorem ps_dnewN (i : Nat) {x : Str} {p' dp pos : Pos} (hN : X.N.Nodup) (hi : X.N[i]? = some x) (hx : Loc X.env.scope x) (hs : swapsWith (.Dict [] [] dp) (some (.Name x p')) pos.line X.env = pure false := by rfl)
    (hf : X.fn x = true ∨ X.env.scope.names.lookup x = some .local := by first | exact .inl rfl | exact .inr rfl | assumption) : PS X (.Assign [.Name x p'] (.Dict [] [] dp) pos) (tAsg tDicNew (gName i)) := ps_set hN hi hx pe_dicNew hs hf
end
end DN
namespace DN
open PySem PySem.Spec PyProof.Rows L2
/-! ### a def's whole contract: what is lent to it (first), what it tells: data, a thing that the caller owns then, an exception -/
inductive Ret where
  | da (d : D)
  | ow (y : Pay)
  | er (c : Str) (fs : List (Str × D))
abbrev FunX := Option Pay → List D → Option (Ret × Option Pay)
def ArgX (K : PySem.W.Frag) (H Hk : Hp) (y : Option Pay) (vs : List V) (ds : List D) (fp : List Addr) : Prop := match y with
  | none => DpAll K Hk vs ds ∧ fp = []
  | some y => ∃ v vs', vs = v :: vs' ∧ OwnV K H Hk v y fp ∧ DpAll K Hk vs' ds
/-- from the heap ahead of a call to the one behind it -/
structure Aft (K : PySem.W.Frag) (H Hk H2 Hk2 : Hp) (vs : List V) (fp : List Addr) (out : Option Pay) (fq : List Addr) : Prop where
  sub : Same Hk2 H2
  kk : Same Hk Hk2
  nw : ∀ a u, Hk2 a = some u → Hk a = none → H a = none ∨ a ∈ fp
  kp : ∀ a u, H a = some u → a ∉ fp → H2 a = some u
  out : match out with
    | none => fq = []
    | some z => ∃ v, vs[0]? = some v ∧ OwnV K H2 Hk2 v z fq ∧ ∀ a ∈ fq, a ∈ fp ∨ H a = none
def RetX (K : PySem.W.Frag) (H H2 Hk2 : Hp) (fp fq : List Addr) (Q : VK) (E : XK) : Ret → Prop
  | .da d => ∀ v, Dp K Hk2 v d → Q v H2
  | .ow z => ∀ v fr, OwnV K H2 Hk2 v z fr → (∀ a ∈ fr, a ∉ fq ∧ (a ∈ fp ∨ H a = none)) → Q v H2
  | .er c fs => ∀ cls dd, XcIs K Hk2 cls dd c fs → E cls dd H2
def spX (K : PySem.W.Frag) (n : Nat) (F : FunX) (vs : List V) (H : Hp) (Q : VK) (E : XK) : Prop := vs.length = n ∧ ∃ Hk y ds r out fp, Same Hk H ∧ ArgX K H Hk y vs ds fp ∧ F y ds = some (r, out) ∧ ∀ H2 Hk2 fq, Aft K H Hk H2 Hk2 vs fp out fq → RetX K H H2 Hk2 fp fq Q E r
structure FnX (P : Program) (w : World) (K : PySem.W.Frag) (mg : Str → Option Value) (base : Heap) (k : Nat) (f : Addr) (fd : FuncData) (ps : List Str) (F : FunX) : Prop where
  run : ∀ (A : Around) (outer : List Env) (s : Shared) (H : Hp) (args : PySem.Args) (us : List Value) (vs : List V) (Q : VK) (E : XK), Room k A → A.guards = some [] → Env0 P w K mg base A outer s H → BindsTo s fd args (ps.zip us) → Vals vs us →
    spX K ps.length F vs H Q E → codeAny (model P w) A (.call (.ref f) args) (CR (L2.CX P w) outer P w H s Q E) s
@[simp] def iniX (y : Option Pay) (m : Nat) (ds : List D) : En := match y with
  | none => (ds.map fun d => some (.dat d)) ++ List.replicate m none
  | some y => some (.ow true y) :: ((ds.map fun d => some (.dat d)) ++ List.replicate m none)
@[simp] def tellX (y : Option Pay) (r : Ret) (γ : En) : Option (Ret × Option Pay) := match y with
  | none => some (r, none)
  | some _ => match gt γ 0 with
    | some (.ow true z) => some (r, some z)
    | _ => none
@[simp] def runX (m : Nat) (B : Fs) : FunX := fun y ds => match B (iniX y m ds) with
  | some (.rt d γ) => tellX y (.da d) γ
  | some (.nx γ) => tellX y (.da .none) γ
  | some (.ro z γ) => tellX y (.ow z) γ
  | some (.rs c fs γ) => tellX y (.er c fs) γ
  | _ => none
theorem iniX_ok {K : PySem.W.Frag} {N : List Str} {y : Option Pay} {vs : List V} {ds : List D} {fp : List Addr} {H Hk : Hp} {m : Nat} (s : Same Hk H) (a : ArgX K H Hk y vs ds fp) (hl : vs.length + m = N.length) : Ok K (L2.start N vs) H Hk (iniX y m ds) := by
  cases y with
  | none => exact ini_dat s a.1 hl
  | some y =>
    obtain ⟨v, vs', rfl, r, a'⟩ := a
    have hs : L2.start N (v :: vs') = some v :: L2.start (N.drop 1) vs' := by
      unfold L2.start
      simp only [List.map_cons, List.cons_append, List.length_cons, List.length_drop]
      rw [show N.length - (vs'.length + 1) = N.length - 1 - vs'.length by omega]
    have k := ini_dat (N := N.drop 1) (m := m) s a' (by rw [List.length_drop]; simp only [List.length_cons] at hl; omega)
    rw [hs]
    have no : ∀ {i b z}, gt ((ds.map fun d => some (Ent.dat d)) ++ List.replicate m none) i = some (.ow b z) → False := fun {i b z} e => by
      rw [gt_map] at e
      split at e
      · cases e
      · rw [gt_rep] at e; cases e
    refine ⟨by simp only [iniX, List.length_cons]; rw [k.len], s, fun i d e => ?_, fun i b z e => ?_, fun i z e => ?_, fun i j b c z z' v1 u1 f1 f2 ei ej => ?_, fun i t e => ?_⟩
    · cases i with
      | zero => cases e
      | succ i =>
        obtain ⟨v, ev, r⟩ := k.dat i d e
        exact ⟨v, by simpa using ev, r⟩
    · cases i with
      | zero => cases e; exact ⟨v, fp, rfl, r⟩
      | succ i => exact (no e).elim
    · cases i with
      | zero => rfl
      | succ i => exact (no e).elim
    · cases i with
      | zero =>
        cases j with
        | zero => intros; rfl
        | succ j => exact (no ej).elim
      | succ i => exact (no ei).elim
    · cases i with
      | zero => cases e
      | succ i =>
        obtain ⟨v, ev, r⟩ := k.tab i t e
        exact ⟨v, by simpa using ev, r⟩
/-- what the frame owns at the start is what was lent to it -/
theorem iniX_own {K : PySem.W.Frag} {N : List Str} {y : Option Pay} {vs : List V} {ds : List D} {fp : List Addr} {H Hk : Hp} {m : Nat} (a : ArgX K H Hk y vs ds fp) {x : Addr} (h : OwnA K (L2.start N vs) H Hk (iniX y m ds) x) : x ∈ fp := by
  obtain ⟨i, b, z, w, fq, e, ev, r, mm⟩ := h
  have no : ∀ {i b z}, gt ((ds.map fun d => some (Ent.dat d)) ++ List.replicate m none) i = some (.ow b z) → False := fun {i b z} e => by
    rw [gt_map] at e
    split at e
    · cases e
    · rw [gt_rep] at e; cases e
  cases y with
  | none => exact (no e).elim
  | some y =>
    obtain ⟨v, vs', rfl, r', a'⟩ := a
    cases i with
    | zero =>
      cases e
      have ev : some (some v) = some (some w) := ev
      cases ev
      rw [← r.det r']
      exact mm
    | succ i => exact (no e).elim
theorem fnX_of {P : Program} {w : World} {K : PySem.W.Frag} {mg : Str → Option Value} {base : Heap} {x qual : Str} {st : Stmt} {f : Addr} {fd : FuncData} {N ps : List Str} {k m : Nat} {B : Fs} (Fu : Fun K x qual st f fd) (S : FnScope N ps (defScope st)) (hm : ps.length + m = N.length)
    (hb : ∀ (cdv : Value) (A : Around) (outer : List Env) (s : Shared) (H : Hp) (E : XK), (A.deeper (envOfC qual (defScope st) s.heap.objs.size f cdv)).guards = some [] → Room k (A.deeper (envOfC qual (defScope st) s.heap.objs.size f cdv)) →
      Takes (cxOf (L2.CX P w) P w K mg base N qual (defScope st) f cdv A outer s H E) (fun cls d _ H' => E cls d H') → PassesOwn (model P w) (A.deeper (envOfC qual (defScope st) s.heap.objs.size f cdv)) (envOfC qual (defScope st) s.heap.objs.size f cdv) (cxOf (L2.CX P w) P w K mg base N qual (defScope st) f cdv A outer s H E).xe →
      ESs (cxOf (L2.CX P w) P w K mg base N qual (defScope st) f cdv A outer s H E) (fun cls d _ H' => E cls d H') (defBody st) B) :
    FnX P w K mg base (k + 1) f fd ps (runX m B) := by
  obtain ⟨oc, od, kV, doc, pm, an, cdv, ct, osl, rfl, lk, hcd⟩ := Fu.ex
  refine ⟨fun A outer s H args us vs Q E hr hG e0 bd rv sp => ?_⟩
  obtain ⟨hlen, Hk, y, ds, r, out, fp, hsub, ha, eF, post⟩ := sp
  have inK : K.In s.heap := e0.mod.kin.keeps fun b o e => (e0.bs b o e).1
  have noLim : s.heap.NoLimit := e0.mod.nolimit.keeps fun b o e => (e0.bs b o e).1
  have kinds : ∀ y ∈ ps.zip us, (defScope st).names.lookup y.1 = some .local ∨ ((defScope st).names.lookup y.1 = some .cell ∧ ((cellsFrom (s.heap.objs.size + 1) (defScope st).names []).lookup y.1).isSome = true) := by
    rintro ⟨nm, vl⟩ hy
    exact (S.par nm (List.of_mem_zip hy).1).imp id fun z => ⟨z, PySem.W.cellsFrom_some _ _ _ (.inl z)⟩
  refine codeAny_call_function hr.depth (inK _ _ lk) rfl S.co S.gen rfl (PySem.W.codeRec_of inK hcd) (bd _ _ _ _ (wpAny_newFunctionEnv_cells S.kind kinds fun env henv s1 ic => ?_))
  subst henv
  refine ⟨noLim.keeps ic.toInCall.keep, codeAny_func ?_⟩
  have J0 : Inv (cxOf (L2.CX P w) P w K mg base N qual (defScope st) f cdv A outer s H E) [] (L2.start N vs) H s1 := inv_start S hr.hd e0 hlen rv ic
  have body := hb cdv A outer s H E (by simpa [Around.deeper] using hG) (hr.deeper _) (takes_of rfl rfl rfl rfl) PassesOwn.leaving
  have ok0 : Ok K (L2.start N vs) H Hk (iniX y m ds) := iniX_ok hsub ha (by rw [hlen]; exact hm)
  -- behind the body
  have aft : ∀ {σ2 : L2.St} {H2 Hk2 : Hp} {γ2 : En} {r' : Ret}, Go K (L2.start N vs) H Hk (iniX y m ds) σ2 H2 Hk2 γ2 → tellX y r' γ2 = some (r, out) → r' = r ∧ ∃ fq, Aft K H Hk H2 Hk2 vs fp out fq ∧ ∀ a, ¬ OwnA K σ2 H2 Hk2 γ2 a → a ∉ fq := by
    intro σ2 H2 Hk2 γ2 r' g e
    have old : ∀ a, OwnA K (L2.start N vs) H Hk (iniX y m ds) a → a ∈ fp := fun a h => iniX_own ha h
    have nw : ∀ a u, Hk2 a = some u → Hk a = none → H a = none ∨ a ∈ fp := fun a u h n => (g.nw a u h n).imp id (old a)
    have kp : ∀ a u, H a = some u → a ∉ fp → H2 a = some u := fun a u h n => g.kp a u h fun z => n (old a z)
    unfold tellX at e
    cases y with
    | none =>
      simp only at e
      cases e
      exact ⟨rfl, [], ⟨g.ok.sub, g.kk, nw, kp, rfl⟩, fun a _ h => by cases h⟩
    | some y =>
      simp only at e
      split at e
      · rename_i z ez
        cases e
        obtain ⟨v, vs', rfl, rr, a'⟩ := ha
        obtain ⟨v2, fq, ev, r2⟩ := g.ok.ow 0 _ _ ez
        obtain ⟨e2, _⟩ := g.pn 0 y rfl
        rw [e2] at ev
        have ev : some (some v) = some (some v2) := ev
        cases ev
        have mine : ∀ a ∈ fq, OwnA K σ2 H2 Hk2 γ2 a := fun a h => ⟨0, _, _, v, fq, ez, by rw [e2]; rfl, r2, h⟩
        refine ⟨rfl, fq, ⟨g.ok.sub, g.kk, nw, kp, v, rfl, r2, fun a h => ?_⟩, fun a n h => n (mine a h)⟩
        exact (g.sh a (mine a h)).imp (old a) id
      · cases e
  have run : wpAny (model P w) (A.deeper (envOfC qual (defScope st) s.heap.objs.size f cdv)) (execs (defBody st) (envOfC qual (defScope st) s.heap.objs.size f cdv))
      (SP (cxOf (L2.CX P w) P w K mg base N qual (defScope st) f cdv A outer s H E) [] { nx := fun _ H' => Q .non H', rt := Q }) (cxOf (L2.CX P w) P w K mg base N qual (defScope st) f cdv A outer s H E).xe s1 := by
    refine body.run [] s1 (L2.start N vs) H { nx := fun _ H' => Q .non H', rt := Q } J0 ?_
    unfold runX at eF
    split at eF
    · rename_i d γ2 eB
      refine ⟨_, Hk, _, ok0, eB, fun v σ2 H2 Hk2 g rd => ?_⟩
      obtain ⟨rfl, fq, af, _⟩ := aft g eF
      exact post H2 Hk2 fq af v rd
    · rename_i γ2 eB
      refine ⟨_, Hk, _, ok0, eB, fun σ2 H2 Hk2 g => ?_⟩
      obtain ⟨rfl, fq, af, _⟩ := aft g eF
      exact post H2 Hk2 fq af .non .non
    · rename_i z γ2 eB
      refine ⟨_, Hk, _, ok0, eB, fun v fr σ2 H2 Hk2 g rd nn => ?_⟩
      obtain ⟨rfl, fq, af, ff⟩ := aft g eF
      exact post H2 Hk2 fq af v fr rd fun a h => ⟨ff a (nn a h).1, ((nn a h).2.imp id (iniX_own ha)).symm⟩
    · rename_i c fs γ2 eB
      refine ⟨_, Hk, _, ok0, eB, fun σ2 H2 Hk2 cls dd g rd => ?_⟩
      obtain ⟨rfl, fq, af, _⟩ := aft g eF
      exact post H2 Hk2 fq af cls dd rd
    · cases eF
  refine wpAny_mono run (fun fl s' hs => ?_) fun e s' hs => hs
  have fin : ∀ {σ' : L2.St} {H' : Hp} {v : V} {u : Value}, Inv (cxOf (L2.CX P w) P w K mg base N qual (defScope st) f cdv A outer s H E) [] σ' H' s' → RelV v u → Q v H' → CE outer P w H s Q u s' := fun {σ' H' v u} J r q => ⟨v, H', J.os, J.bare, J.base, J.hok, r, q⟩
  cases fl with
  | ret u =>
    obtain ⟨v, σ', H', J, r, q⟩ := hs
    exact fin J r q
  | next =>
    obtain ⟨σ', H', J, q⟩ := hs
    exact fin (v := V.non) (u := Value.none) J rfl q
  | brk =>
    obtain ⟨_, _, _, q⟩ := hs
    exact q.elim
  | cont =>
    obtain ⟨_, _, _, q⟩ := hs
    exact q.elim
/-! ### calls -/
def CalX (P : Program) (w : World) (K : PySem.W.Frag) (mg : Str → Option Value) (base : Heap) (x : Str) (k : Nat) (ps : List Str) (F : FunX) : Prop :=
  ∃ f fd, FnX P w K mg base k f fd ps F ∧ mg x = some (.ref f) ∧ PySem.W.keepIn K (.ref f) = true ∧ Binds K fd ps []
section
variable {W : WX} {X : Cx} {x : Str} {k n : Nat} {ps : List Str} {F : FunX} {e : Expr} {es : List Expr} {fa : Fa} {p pos : Pos}
theorem runXc {f : Addr} {fd : FuncData} {pins : List (Addr × Obj)} {σ : L2.St} {H : Hp} {s : Shared} {Q : VK} {us : List Value} {vs : List V} {E : XK} (G : FnX X.prog X.w X.K X.mg X.base k f fd ps F) (hr : Room k X.A) (hG : X.A.guards = some []) (hb : Binds X.K fd ps []) (hx : PassesAt (L2.CX X.prog X.w) X σ E)
    (I : Inv X pins σ H s) (r : Vals vs us) (h : spX X.K ps.length F vs H Q E) : wpAny (model X.prog X.w) X.A (call (.ref f) us) (EP X pins σ Q) X.xe s := by
  have hl : us.length = ps.length := by rw [← r.length]; exact h.1
  have bd := hb s us I.kIn (by rw [List.append_nil]; exact hl)
  rw [List.append_nil] at bd
  refine wpAny_call (codeAny_mono (G.run X.A X.stack s H ⟨us, []⟩ us vs Q E hr hG I.env0 bd r h) fun res s' hq => ?_)
  cases res with
  | error ex => exact hx pins H s ex s' I hq
  | ok fl =>
    cases fl with
    | ret u => exact I.after hq
    | next => exact hq.elim
    | brk => exact hq.elim
    | cont => exact hq.elim
theorem pass0X {X : Cx} {σ : L2.St} : PassesAt (L2.CX X.prog X.w) X σ E0 := fun _ _ _ _ _ _ h => by
  obtain ⟨_, _, _, _, _, _, _, _, _, _, _, _, z⟩ := h
  exact z.elim
/-- a call that tells data -/
@[simp] def fCallX (n : Nat) (F : FunX) (fa : Fa) : Fe := fun γ => match fa γ with
  | some (ds, γ1) => if ds.length = n then match F none ds with
    | some (.da d, none) => some (d, γ1)
    | _ => none
    else none
  | none => none
theorem ev_callX (C : CalX X.prog X.w X.K X.mg X.base x k ps F) (hr : Room k X.A) (hG : X.A.guards = some []) (hg : Gl X x) (ha : EA X (e :: es) fa) (hn : ps.length = n := by rfl)
    (hdb : (x == ("__debug__" : Str)) = false := by decide) (he : starEach (e :: es) X.env = (false, eval e X.env) :: starEach es X.env := by rfl) (hpl : (backTo pos (starEach es X.env)).any (·.1) = false := by rfl) :
    EV X (.Call (.Name x p) (e :: es) [] pos) (fCallX n F fa) := by
  subst hn
  obtain ⟨f, fd, G, hm, hk, hb⟩ := C
  refine ⟨fun pins s σ H Q I h => ?_⟩
  obtain ⟨γ, Hk, d, γ2, ok, ee, q⟩ := h
  unfold fCallX at ee
  split at ee
  · rename_i ds γ1 ea
    split at ee
    · rename_i hl
      split at ee <;> cases ee
      rename_i eF
      refine wpAny_Call_Name_kw (ld_glob I hg hm ?_ hdb)
      refine PySem.W.callWith_K (h₀ := X.base) I.ok.mod.kin hk (thn (ha.run pos pins s σ H (fun vs H1 => spX X.K ps.length F vs H1 Q E0) I ⟨γ, Hk, ds, _, ok, ea, fun vs H1 Hk1 g1 r1 => ?_⟩) fun us s1 ⟨vs, H1, I1, r, q1⟩ => ⟨I1.kIn, ?_⟩) he hpl
      · refine ⟨by rw [dps_len r1]; exact hl, Hk1, none, ds, .da d, none, [], g1.ok.sub, ⟨r1, rfl⟩, eF, fun H2 Hk2 fq af v r2 => ?_⟩
        exact q v H2 Hk2 (g1.trans (g1.ok.go ⟨fun a u h => af.kp a u h (by simp), af.kk, af.sub, fun a u h1 h2 => (af.nw a u h1 h2).resolve_right (by simp)⟩)) r2
      · exact runXc G hr hG hb pass0X I1 r q1
    · cases ee
  · cases ee
/-- x = f(..): a thing that the frame owns then -/
@[simp] def sOwnX (i n : Nat) (F : FunX) (fa : Fa) : Fs := fun γ => match fa γ with
  | some (ds, γ1) => if ds.length = n then match F none ds with
    | some (.ow y, none) => if pinB γ1 i then none else some (.nx (γ1.set i (some (.ow false y))))
    | _ => none
    else none
  | none => none
def tOwnX (K : PySem.W.Frag) (n : Nat) (F : FunX) (fa : Fa) : TE := fun σ H Q => ∃ γ Hk ds γ1 y, Ok K σ H Hk γ ∧ fa γ = some (ds, γ1) ∧ ds.length = n ∧ F none ds = some (.ow y, none) ∧ ∀ v fr H2 Hk2 H3, Go K σ H Hk γ σ H2 Hk2 γ1 → Same H2 H3 → OwnV K H3 Hk2 v y fr → (∀ a ∈ fr, H2 a = none) → Q v H3
theorem pe_ownX (C : CalX X.prog X.w X.K X.mg X.base x k ps F) (hr : Room k X.A) (hG : X.A.guards = some []) (hg : Gl X x) (ha : EA X (e :: es) fa) (hn : ps.length = n := by rfl)
    (hdb : (x == ("__debug__" : Str)) = false := by decide) (he : starEach (e :: es) X.env = (false, eval e X.env) :: starEach es X.env := by rfl) (hpl : (backTo pos (starEach es X.env)).any (·.1) = false := by rfl) :
    PE X (.Call (.Name x p) (e :: es) [] pos) (tOwnX X.K n F fa) := by
  subst hn
  obtain ⟨f, fd, G, hm, hk, hb⟩ := C
  refine ⟨fun pins s σ H Q I h => ?_⟩
  obtain ⟨γ, Hk, ds, γ1, y, ok, ea, hl, eF, q⟩ := h
  refine wpAny_Call_Name_kw (ld_glob I hg hm ?_ hdb)
  refine PySem.W.callWith_K (h₀ := X.base) I.ok.mod.kin hk (thn (ha.run pos pins s σ H (fun vs H1 => spX X.K ps.length F vs H1 Q E0) I ⟨γ, Hk, ds, _, ok, ea, fun vs H1 Hk1 g1 r1 => ?_⟩) fun us s1 ⟨vs, H1, I1, r, q1⟩ => ⟨I1.kIn, ?_⟩) he hpl
  · refine ⟨by rw [dps_len r1]; exact hl, Hk1, none, ds, .ow y, none, [], g1.ok.sub, ⟨r1, rfl⟩, eF, fun H2 Hk2 fq af v fr r2 hf => ?_⟩
    -- the heap as it was, with what lasts since then
    have fresh : ∀ a ∈ fr, H1 a = none := fun a h => (hf a h).2.resolve_left (by simp)
    have g2 : Grow H1 Hk1 (fun a => if a ∈ fr then none else H2 a) Hk2 := by
      refine ⟨fun a u h => ?_, af.kk, fun a u h => ?_, fun a u h1 h2 => (af.nw a u h1 h2).resolve_right (by simp)⟩
      · show (if a ∈ fr then none else H2 a) = some u
        rw [if_neg (fun m => by rw [fresh a m] at h; cases h)]
        exact af.kp a u h (by simp)
      · show (if a ∈ fr then none else H2 a) = some u
        rw [if_neg (fun m => by rw [(r2.at a m).2] at h; cases h)]
        exact af.sub a u h
    refine q v fr _ Hk2 H2 (g1.trans (g1.ok.go g2)) (fun a u h => ?_) r2 fun a h => if_pos h
    by_cases m : a ∈ fr
    · have h : (if a ∈ fr then none else H2 a) = some u := h
      rw [if_pos m] at h; cases h
    · have h : (if a ∈ fr then none else H2 a) = some u := h
      rw [if_neg m] at h
      exact h
  · exact runXc G hr hG hb pass0X I1 r q1
theorem es_ownX (i : Nat) {z : Str} {p' pos' : Pos} (hN : X.N.Nodup) (hi : X.N[i]? = some z) (hx : Loc X.env.scope z) (C : CalX X.prog X.w X.K X.mg X.base x k ps F) (hr : Room k X.A) (hG : X.A.guards = some []) (hg : Gl X x) (ha : EA X (e :: es) fa) (hn : ps.length = n := by rfl)
    (hdb : (x == ("__debug__" : Str)) = false := by decide) (he : starEach (e :: es) X.env = (false, eval e X.env) :: starEach es X.env := by rfl) (hpl : (backTo pos (starEach es X.env)).any (·.1) = false := by rfl)
    (hs : swapsWith (.Call (.Name x p) (e :: es) [] pos) (some (.Name z p')) pos'.line X.env = pure false := by rfl) (hf : X.fn z = true ∨ X.env.scope.names.lookup z = some .local := by first | exact .inl rfl | exact .inr rfl | assumption) :
    ES X W (.Assign [.Name z p'] (.Call (.Name x p) (e :: es) [] pos) pos') (sOwnX i n F fa) := PS.imp (ps_set hN hi hx (pe_ownX C hr hG hg ha hn hdb he hpl) hs hf) fun Z σ H ⟨γ, Hk, o, k, ee, q⟩ => by
  unfold sOwnX at ee
  split at ee
  · rename_i ds γ1 ea
    split at ee
    · rename_i hl
      split at ee
      · rename_i y eF
        split at ee <;> cases ee
        rename_i c
        exact ⟨γ, Hk, ds, γ1, y, k, ea, hl, eF, fun v fr H2 Hk2 H3 g s r nn => q _ _ _ (g.trans (g.ok.setNew s r nn (noPin_of g.ok (by simpa using c))))⟩
      · cases ee
    · cases ee
  · cases ee
end
end DN
namespace DN
open PySem PySem.Spec PyProof.Rows L2
/-! ### a new list out of two -/
@[simp] def catL : D → D → Option (List D)
  | .list a, .list b => if okN (a.length + b.length) then some (a ++ b) else none
  | _, _ => none
@[simp] def lCat (f g : Fe) : Fa := fun γ => match f γ with
  | some (x, γ1) => match g γ1 with
    | some (y, γ2) => match catL x y with
      | some ds => some (ds, γ2)
      | none => none
    | none => none
  | none => none
@[simp] def lCatn (i : Nat) (g : Fe) : Fa := fun γ => match view γ i with
  | some _ => match g γ with
    | some (y, γ2) => match view γ2 i with
      | some x => match catL x y with
        | some ds => some (ds, γ2)
        | none => none
      | none => none
    | none => none
  | none => none
section
variable {X : Cx} {a b : Expr} {f g : Fe} {pos : Pos}
theorem cat_at {K : PySem.W.Frag} {H Hk : Hp} {x y : V} {dx dy : D} {ds : List D} {Q : VK} (s : Same Hk H) (vx : Vw K H Hk x dx) (vy : Vw K H Hk y dy) (e : catL dx dy = some ds) (q : ∀ p vs, H p = none → DpAll K Hk vs ds → Q (.ref p) (upd H p (.lst vs))) : rCatL K x y H Q := by
  unfold catL at e
  split at e
  · split at e <;> cases e
    rename_i c
    obtain ⟨p, vs, rfl, sp, ap⟩ := vx.lst s
    obtain ⟨u, ws, rfl, su, au⟩ := vy.lst s
    exact ⟨p, u, vs, ws, rfl, rfl, sp, su, by rw [dps_len ap, dps_len au]; exact okN_line c, fun t ht => q t _ ht (dps_app ap au)⟩
  · cases e
theorem el_cat (ha : EV X a f) (hb : EV X b g) : EL X (.BinOp a .Add b pos) (lCat f g) := PE.imp (pe_op op_catL ha hb) fun σ H Q ⟨γ, Hk, ds, γ2, o, ee, q⟩ => by
  unfold lCat at ee
  split at ee
  · rename_i x γ1 ef
    split at ee
    · rename_i y γ3 eg
      split at ee <;> cases ee
      rename_i ec
      refine ⟨γ, Hk, x, γ1, o, ef, fun v H1 Hk1 g1 r1 => ⟨γ1, Hk1, y, _, g1.ok, eg, fun u H2 Hk2 g2 r2 => ?_⟩⟩
      exact cat_at g2.ok.sub (.inl (dp_mono g2.kk r1)) (.inl r2) ec fun p vs hp r => q p vs H2 Hk2 (g1.trans g2) hp r
    · cases ee
  · cases ee
theorem el_catn {i : Nat} (ha : PE X a (tVar i)) (hb : EV X b g) : EL X (.BinOp a .Add b pos) (lCatn i g) := PE.imp (pe_op op_catL ha hb) fun σ H Q ⟨γ, Hk, ds, γ2, o, ee, q⟩ => by
  unfold lCatn at ee
  split at ee
  · rename_i x0 ev0
    split at ee
    · rename_i y γ3 eg
      split at ee
      · rename_i x ev
        split at ee <;> cases ee
        rename_i ec
        obtain ⟨v, e1, _⟩ := o.view ev0
        refine ⟨v, e1, γ, Hk, y, _, o, eg, fun u H2 Hk2 g2 r2 => ?_⟩
        obtain ⟨v', e2, w⟩ := g2.ok.view ev
        rw [e1] at e2; cases e2
        exact cat_at g2.ok.sub w (.inl r2) ec fun p vs hp r => q p vs H2 Hk2 g2 hp r
      · cases ee
    · cases ee
  · cases ee
end
end DN
namespace DN
open PySem PySem.Spec PyProof.Rows L2
/-! ### a call that may raise, as a statement -/
section
variable {W : WX} {X : Cx} {x : Str} {k n : Nat} {ps : List Str} {F : FunX} {e : Expr} {es : List Expr} {fa : Fa} {p pos : Pos}
def tRX (K : PySem.W.Frag) (W : WX) (n : Nat) (F : FunX) (fa : Fa) : TE := fun σ H Q => ∃ γ Hk ds γ1 r, Ok K σ H Hk γ ∧ fa γ = some (ds, γ1) ∧ ds.length = n ∧ F none ds = some (r, none) ∧
  ((∃ d, r = .da d ∧ ∀ v H2 Hk2, Go K σ H Hk γ σ H2 Hk2 γ1 → Dp K Hk2 v d → Q v H2) ∨
   (∃ c fs, r = .er c fs ∧ ∀ cls dd H2 Hk2, Go K σ H Hk γ σ H2 Hk2 γ1 → XcIs K Hk2 cls dd c fs → W cls dd σ H2))
theorem go_call {K : PySem.W.Frag} {σ : L2.St} {H Hk H1 Hk1 H2 Hk2 : Hp} {γ γ1 : En} {vs : List V} {fq : List Addr} (g1 : Go K σ H Hk γ σ H1 Hk1 γ1) (af : Aft K H1 Hk1 H2 Hk2 vs [] none fq) : Go K σ H Hk γ σ H2 Hk2 γ1 :=
  g1.trans (g1.ok.go ⟨fun a u h => af.kp a u h (by simp), af.kk, af.sub, fun a u h1 h2 => (af.nw a u h1 h2).resolve_right (by simp)⟩)
theorem pe_rX (tk : Takes X W) (C : CalX X.prog X.w X.K X.mg X.base x k ps F) (hr : Room k X.A) (hG : X.A.guards = some []) (hg : Gl X x) (ha : EA X (e :: es) fa) (hn : ps.length = n := by rfl)
    (hdb : (x == ("__debug__" : Str)) = false := by decide) (he : starEach (e :: es) X.env = (false, eval e X.env) :: starEach es X.env := by rfl) (hpl : (backTo pos (starEach es X.env)).any (·.1) = false := by rfl) :
    PE X (.Call (.Name x p) (e :: es) [] pos) (tRX X.K W n F fa) := by
  subst hn
  obtain ⟨f, fd, G, hm, hk, hb⟩ := C
  refine ⟨fun pins s σ H Q I h => ?_⟩
  obtain ⟨γ, Hk, ds, γ1, r, ok, ea, hl, eF, q⟩ := h
  refine wpAny_Call_Name_kw (ld_glob I hg hm ?_ hdb)
  refine PySem.W.callWith_K (h₀ := X.base) I.ok.mod.kin hk (thn (ha.run pos pins s σ H (fun vs H1 => spX X.K ps.length F vs H1 Q (WE W σ)) I ⟨γ, Hk, ds, _, ok, ea, fun vs H1 Hk1 g1 r1 => ?_⟩) fun us s1 ⟨vs, H1, I1, rv, q1⟩ => ⟨I1.kIn, ?_⟩) he hpl
  · refine ⟨by rw [dps_len r1]; exact hl, Hk1, none, ds, r, none, [], g1.ok.sub, ⟨r1, rfl⟩, eF, fun H2 Hk2 fq af => ?_⟩
    rcases q with ⟨d, rfl, q⟩ | ⟨c, fs, rfl, q⟩
    · exact fun v r2 => q v H2 Hk2 (go_call g1 af) r2
    · exact fun cls dd xc => q cls dd H2 Hk2 (go_call g1 af) xc
  · exact runXc G hr hG hb (passAt tk σ) I1 rv q1
/-- what such a call does: on with the data, or raised -/
@[simp] def rCall (n : Nat) (F : FunX) (fa : Fa) (on : D → En → Option Out) : Fs := fun γ => match fa γ with
  | some (ds, γ1) => if ds.length = n then match F none ds with
    | some (.da d, none) => on d γ1
    | some (.er c fs, none) => some (.rs c fs γ1)
    | _ => none
    else none
  | none => none
theorem rcall_imp {K : PySem.W.Frag} {Z : Ends} {σ : L2.St} {H : Hp} {on : D → En → Option Out} {Q : VK} (h : tS K W (rCall n F fa on) Z σ H)
    (hq : ∀ (γ : En) (Hk : Hp) (γ1 : En) (d : D) (o : Out), Ok K σ H Hk γ → on d γ1 = some o → Fin K W Z σ H Hk γ o → ∀ v H2 Hk2, Go K σ H Hk γ σ H2 Hk2 γ1 → Dp K Hk2 v d → Q v H2) : tRX K W n F fa σ H Q := by
  obtain ⟨γ, Hk, o, k, ee, q⟩ := h
  unfold rCall at ee
  split at ee
  · rename_i ds γ1 ea
    split at ee
    · rename_i hl
      split at ee
      · rename_i d eF
        exact ⟨γ, Hk, ds, γ1, _, k, ea, hl, eF, .inl ⟨d, rfl, hq γ Hk γ1 d o k ee q⟩⟩
      · rename_i c fs eF
        cases ee
        exact ⟨γ, Hk, ds, γ1, _, k, ea, hl, eF, .inr ⟨c, fs, rfl, fun cls dd H2 Hk2 g xc => q σ H2 Hk2 cls dd g xc⟩⟩
      · cases ee
    · cases ee
  · cases ee
abbrev sRetR (n : Nat) (F : FunX) (fa : Fa) : Fs := rCall n F fa fun d γ => some (.rt d γ)
abbrev sDropR (n : Nat) (F : FunX) (fa : Fa) : Fs := rCall n F fa fun _ γ => some (.nx γ)
abbrev sSetR (i n : Nat) (F : FunX) (fa : Fa) : Fs := rCall n F fa fun d γ => match gDat i d γ with
  | some γ2 => some (.nx γ2)
  | none => none
theorem es_retR {pos' : Pos} (tk : Takes X W) (C : CalX X.prog X.w X.K X.mg X.base x k ps F) (hr : Room k X.A) (hG : X.A.guards = some []) (hg : Gl X x) (ha : EA X (e :: es) fa) (hn : ps.length = n := by rfl)
    (hdb : (x == ("__debug__" : Str)) = false := by decide) (he : starEach (e :: es) X.env = (false, eval e X.env) :: starEach es X.env := by rfl) (hpl : (backTo pos (starEach es X.env)).any (·.1) = false := by rfl) :
    ES X W (.Return (some (.Call (.Name x p) (e :: es) [] pos)) pos') (sRetR n F fa) := PS.imp (ps_ret (pe_rX tk C hr hG hg ha hn hdb he hpl)) fun Z σ H h =>
  rcall_imp h fun γ Hk γ1 d o k ee q v H2 Hk2 g r => by
    cases ee
    exact q v σ H2 Hk2 g r
theorem es_dropR {pos' : Pos} (tk : Takes X W) (C : CalX X.prog X.w X.K X.mg X.base x k ps F) (hr : Room k X.A) (hG : X.A.guards = some []) (hg : Gl X x) (ha : EA X (e :: es) fa) (hn : ps.length = n := by rfl)
    (hdb : (x == ("__debug__" : Str)) = false := by decide) (he : starEach (e :: es) X.env = (false, eval e X.env) :: starEach es X.env := by rfl) (hpl : (backTo pos (starEach es X.env)).any (·.1) = false := by rfl)
    (hs : swapsWith (.Call (.Name x p) (e :: es) [] pos) none pos'.line X.env = pure false := by rfl) :
    ES X W (.Expr (.Call (.Name x p) (e :: es) [] pos) pos') (sDropR n F fa) := PS.imp (ps_expr (pe_rX tk C hr hG hg ha hn hdb he hpl) hs) fun Z σ H h =>
  rcall_imp h fun γ Hk γ1 d o k ee q v H2 Hk2 g r => by
    cases ee
    exact q σ H2 Hk2 g
theorem es_setR (i : Nat) {z : Str} {p' pos' : Pos} (hN : X.N.Nodup) (hi : X.N[i]? = some z) (hx : Loc X.env.scope z) (tk : Takes X W) (C : CalX X.prog X.w X.K X.mg X.base x k ps F) (hr : Room k X.A) (hG : X.A.guards = some []) (hg : Gl X x) (ha : EA X (e :: es) fa) (hn : ps.length = n := by rfl)
    (hdb : (x == ("__debug__" : Str)) = false := by decide) (he : starEach (e :: es) X.env = (false, eval e X.env) :: starEach es X.env := by rfl) (hpl : (backTo pos (starEach es X.env)).any (·.1) = false := by rfl)
    (hs : swapsWith (.Call (.Name x p) (e :: es) [] pos) (some (.Name z p')) pos'.line X.env = pure false := by rfl) (hf : X.fn z = true ∨ X.env.scope.names.lookup z = some .local := by first | exact .inl rfl | exact .inr rfl | assumption) :
    ES X W (.Assign [.Name z p'] (.Call (.Name x p) (e :: es) [] pos) pos') (sSetR i n F fa) := PS.imp (ps_set hN hi hx (pe_rX tk C hr hG hg ha hn hdb he hpl) hs hf) fun Z σ H h =>
  rcall_imp h fun γ Hk γ1 d o k ee q v H2 Hk2 g r => by
    split at ee
    · rename_i γ2 eg
      cases ee
      exact gDat_imp ⟨γ1, Hk2, d, γ2, g.ok, r, eg, fun σ2 g3 => q σ2 H2 Hk2 (g.trans g3)⟩
    · cases ee
end
end DN
namespace DN
open PySem PySem.Spec PyProof.Rows L2
/-! ### raise -/
abbrev Fm := En → Option (Str × List (Str × D) × En)
def tMk (K : PySem.W.Frag) (fm : Fm) : L2.St → Hp → XK → Prop := fun σ H Q => ∃ γ Hk c fs γ1, Ok K σ H Hk γ ∧ fm γ = some (c, fs, γ1) ∧ ∀ cls dd H2 Hk2, Go K σ H Hk γ σ H2 Hk2 γ1 → XcIs K Hk2 cls dd c fs → Q cls dd H2
/-- an expression that makes an exception -/
def EM (X : Cx) (e : Expr) (fm : Fm) : Prop := PMk X e (tMk X.K fm)
@[simp] def sRaise (fm : Fm) : Fs := fun γ => match fm γ with
  | some (c, fs, γ1) => some (.rs c fs γ1)
  | none => none
theorem es_raiseM {W : WX} {X : Cx} {e : Expr} {fm : Fm} {pos : Pos} (hc : X.calm = true) (tk : Takes X W) (he : EM X e fm) : ES X W (.Raise (some e) none pos) (sRaise fm) := PS.imp (ps_raise hc tk he) fun Z σ H ⟨γ, Hk, o, k, ee, q⟩ => by
  unfold sRaise at ee
  split at ee
  · rename_i c fs γ1 ef
    cases ee
    exact ⟨γ, Hk, c, fs, γ1, k, ef, fun cls dd H2 Hk2 g xc => q σ H2 Hk2 cls dd g xc⟩
  · cases ee
/-! ### a slot that nothing is told of -/
section
variable {K : PySem.W.Frag} {σ σ2 : L2.St} {H Hk H2 Hk2 : Hp} {γ γ2 : En} {i : Nat} {x : Option V}
theorem put_at {j : Nat} {e : Ent} (hi : gt γ i = none) (h : gt γ j = some e) : (σ.set i x)[j]? = σ[j]? := by
  refine List.getElem?_set_ne fun z => ?_
  subst z
  rw [hi] at h
  cases h
theorem Ok.put (o : Ok K σ H Hk γ) (hi : gt γ i = none) : Ok K (σ.set i x) H Hk γ := by
  refine ⟨by rw [List.length_set]; exact o.len, o.sub, fun j d h => ?_, fun j b y h => ?_, o.pin, fun j k b c y z v u fp fq h1 h2 e1 e2 => ?_, fun j t h => ?_⟩
  · rw [put_at hi h]; exact o.dat j d h
  · rw [put_at hi h]; exact o.ow j b y h
  · rw [put_at hi h1] at e1
    rw [put_at hi h2] at e2
    exact o.sep j k b c y z v u fp fq h1 h2 e1 e2
  · rw [put_at hi h]; exact o.tab j t h
theorem own_put (hi : gt γ i = none) {a : Addr} : OwnA K (σ.set i x) H Hk γ a ↔ OwnA K σ H Hk γ a := by
  constructor
  · rintro ⟨j, b, y, v, fp, h, e, r, m⟩
    rw [put_at hi h] at e
    exact ⟨j, b, y, v, fp, h, e, r, m⟩
  · rintro ⟨j, b, y, v, fp, h, e, r, m⟩
    exact ⟨j, b, y, v, fp, h, by rw [put_at hi h]; exact e, r, m⟩
theorem Go.put {y : Option V} (g : Go K (σ.set i x) H Hk γ σ2 H2 Hk2 γ2) (hi : gt γ i = none) (hj : gt γ2 i = none) : Go K σ H Hk γ (σ2.set i y) H2 Hk2 γ2 := by
  refine ⟨g.ok.put hj, g.kk, fun a u h1 h2 => (g.nw a u h1 h2).imp id (own_put hi).mp, fun a u h n => g.kp a u h fun z => n ((own_put hi).mp z), fun a h => (g.sh a ((own_put hj).mp h)).imp (own_put hi).mp id, fun j y' h => ?_⟩
  obtain ⟨e1, z, e2⟩ := g.pn j y' h
  refine ⟨?_, z, e2⟩
  rw [put_at hj e2, e1, put_at hi h]
end
/-! ### try: .. except X as n: .. -/
/-- what the suite knows -/
def tSu (K : PySem.W.Frag) (i : Nat) (m : Str → Option Bool) (T : Str → List (Str × D) → Fs) (a : Addr) (cls : Value) (d : Option Addr) : TS := fun Z σ H =>
  ∃ γ Hk c fs C dd vs o, cls = .ref C ∧ ClsIs K c C ∧ m c = some true ∧ d = some dd ∧ Hk dd = some (.xd vs) ∧ FldsIs K Hk vs fs ∧ σ[i]? = some (some (.ref a)) ∧ H a = none ∧ Ok K σ H Hk γ ∧ gt γ i = none ∧ T c fs γ = some o ∧ Fin K (fun _ _ _ _ => False) Z σ H Hk γ o
def sTry (i : Nat) (m : Str → Option Bool) (F : Fs) (T : Str → List (Str × D) → Fs) : Fs := fun γ => match F γ with
  | some (.rs c fs γ1) => match m c with
    | some true => if (gt γ1 i).isNone && decide (i < γ1.length) then match T c fs γ1 with
      | some (.nx γ2) => if (gt γ2 i).isNone then some (.nx γ2) else none
      | some (.rt d γ2) => if (gt γ2 i).isNone then some (.rt d γ2) else none
      | _ => none
      else none
    | some false => some (.rs c fs γ1)
    | none => none
  | o => o
section
variable {X : Cx} {W : WX} {x n : Str} {cv : Value} {i : Nat} {m : Str → Option Bool} {body suite : List Stmt} {b₀ : Stmt} {np pos pos' : Pos} {F : Fs} {T : Str → List (Str × D) → Fs}
theorem es_tryAs (hs : X.stack = X.env :: X.outer) (hf : X.env.frame = some X.env.locals) (hN : X.N.Nodup) (hi : X.N[i]? = some n) (hln : X.env.kindOf n = some .local) (hc : Names X x cv) (tk : Takes X W)
    (hm : ∀ c C b, ClsIs X.K c C → m c = some b → PySem.W.exmOne X.K (.ref C) cv = some b)
    (hb : ∀ (W' : WX) (pn : List (Addr × Obj)) (xe : Value → Shared → Prop), Takes (X.tr pn xe) W' → PassesOwn (model X.prog X.w) X.A X.env xe → ESs (X.tr pn xe) W' body F)
    (hsu : ∀ (a : Addr) (oe : Obj) (cls : Value) (d : Option Addr) (pn : List (Addr × Obj)), Zc cls d oe → (∃ vs, oe.data = .fields vs) → PSs (X.suite a ((a, oe) :: pn)) (b₀ :: suite) (tSu X.K i m T a cls d)) :
    ES X W (.Try body [.ExceptHandler (some (.Name x np)) (some n) (b₀ :: suite) pos'] [] [] pos) (sTry i m F T) :=
  PS.imp (ps_try_as (tb := fun W' => tS X.K W' F) hs hf hN hi hln hc tk hb hsu) fun Z σ H ⟨γ, Hk, o, k, ee, q⟩ => by
  unfold sTry at ee
  split at ee
  · rename_i c fs γ1 eF
    refine ⟨γ, Hk, _, k, eF, fun σ2 H2 Hk2 cls dd g xc => ?_⟩
    obtain ⟨C, dx, vs, rfl, hC, rfl, hx, hfl⟩ := id xc
    split at ee
    · rename_i em
      refine ⟨true, hm c C true hC em, fun _ a na => ?_, fun z => by cases z⟩
      split at ee
      · rename_i hcond
        rw [Bool.and_eq_true, Option.isNone_iff_eq_none, decide_eq_true_eq] at hcond
        obtain ⟨hn1, hlt⟩ := hcond
        have hl : i < σ2.length := by rw [g.ok.len]; exact hlt
        have base := g.ok.put (x := some (.ref a)) hn1
        have e1 : (σ2.set i (some (.ref a)))[i]? = some (some (.ref a)) := List.getElem?_set_self hl
        split at ee
        · rename_i γ2 eT
          split at ee
          · rename_i hn2
            cases ee
            rw [Option.isNone_iff_eq_none] at hn2
            exact ⟨γ1, Hk2, c, fs, C, dx, vs, _, rfl, hC, em, rfl, hx, hfl, e1, na, base, hn1, eT, fun σ3 H3 Hk3 g3 => q _ _ _ (g.trans (g3.put hn1 hn2))⟩
          · cases ee
        · rename_i d γ2 eT
          split at ee
          · rename_i hn2
            cases ee
            rw [Option.isNone_iff_eq_none] at hn2
            exact ⟨γ1, Hk2, c, fs, C, dx, vs, _, rfl, hC, em, rfl, hx, hfl, e1, na, base, hn1, eT, fun v σ3 H3 Hk3 g3 r => q v _ _ _ (g.trans (g3.put (y := none) hn1 hn2)) r⟩
          · cases ee
        · cases ee
      · cases ee
    · rename_i em
      cases ee
      exact ⟨false, hm c C false hC em, fun z => (by cases z), fun _ => q σ2 H2 Hk2 _ _ g xc⟩
    · cases ee
  · rename_i o' hne
    cases hF : F γ with
    | none => rw [hF] at ee; cases ee
    | some o1 =>
      rw [hF] at ee
      cases ee
      refine ⟨γ, Hk, o, k, hF, ?_⟩
      cases o with
      | nx γ2 => exact q
      | rt d γ2 => exact q
      | bk γ2 => exact q
      | ct γ2 => exact q
      | rs c fs γ2 => exact absurd hF (hne c fs γ2)
      | ro y γ2 => exact q
end
/-! ### e.field, in the suite -/
section
variable {X : Cx} {a : Addr} {oe : Obj} {cls : Value} {d : Option Addr} {pn : List (Addr × Obj)} {e : Expr} {te : TE} {pos : Pos} {n : Str}
def tXfE (K : PySem.W.Frag) (a : Addr) (cls : Value) (d : Option Addr) (n : Str) (te : TE) : TE := fun σ H Q => ∃ C, XfC K C ∧ PySem.W.findIn K (.ref C) n = some none ∧ tXf a cls d C n te σ H Q
theorem pe_xfE (hz : Zc cls d oe) (hf : ∃ vs, oe.data = .fields vs) (he : PE (X.suite a ((a, oe) :: pn)) e te) (hb : attributeBase e n X.env (eval e X.env) = eval e X.env := by rfl) : PE (X.suite a ((a, oe) :: pn)) (.Attribute e n pos) (tXfE X.K a cls d n te) :=
  ⟨fun pins s σ H Q I ⟨C, T, hno, h⟩ => (pe_xf T hno hz hf he hb).run pins s σ H Q I h⟩
theorem flds_look {K : PySem.W.Frag} {H : Hp} {n : Str} : ∀ {vs : List (Str × V)} {fs : List (Str × D)} {x : D}, FldsIs K H vs fs → fs.lookup n = some x → ∃ v, vs.lookup n = some v ∧ Dp K H v x
  | _, _, _, .nil, h => by cases h
  | _, _, x, .cons (f := f) (v := v) (d := d) r t, h => by
    rw [List.lookup_cons] at h ⊢
    cases c : n == f with
    | true =>
      rw [c] at h
      cases h
      exact ⟨v, rfl, r⟩
    | false =>
      rw [c] at h
      exact flds_look t h
end
end DN
namespace DN
open PySem PySem.Spec PyProof.Rows L2
/-! ### list(d): the keys -/
section
variable {P : Program} {w : World} {A : Around} {d I : Addr} {o : Obj} {xs : List (NestedKey × Addr × Value)} {es : Array DictEntry} {ep : Nat}
abbrev KeyAt (xs : List (NestedKey × Addr × Value)) (i : Nat) (v : Value) : Prop := ∃ e, xs[i]? = some e ∧ v = .ref e.2.1
theorem walkN (ho : DictO o xs) (hod : o.data = .dict es ep) (hh : A.handled = none) (hne : d ≠ I) :
    PySem.Walks P w A I [I, d] [I] xs.length (KeyAt xs) (fun i h => h.IsKeyIter I d i xs.length ep ∧ h.get? d = some o) := by
  obtain ⟨hx, es', ep', hd', hz, he⟩ := ent_at ho
  rw [hod] at hd'
  cases hd'
  refine ⟨fun b hb => by simp at hb; simp [hb], fun i h h' st hk => ⟨st.1.at fun oi e => hk I (by simp) oi e, hk d (by simp) _ st.2⟩, fun i s Q E hi st hQ => ?_, fun s Q E st hQ => ?_, fun i s Q E st hQ => wpAny_pyIter_keyiter st.1 hQ⟩
  · obtain ⟨e, hxi⟩ : ∃ e, xs[i]? = some e := ⟨_, List.getElem?_eq_getElem hi⟩
    obtain ⟨en, hen, hk, _⟩ := he i _ hxi
    refine next_key_item st.1 st.2 hod hz hen fun h' hit' sb => ?_
    exact hQ en.key h' s.toks ⟨e, hxi, hk⟩ ⟨hit', (sb.2 d hne).trans st.2⟩ fun b ob hb e' => (sb.2 b fun z => hb (by simp [z])).trans e'
  · exact next_key_end hh st.1 st.2 hod hz (Nat.le_refl _) fun h' eb => hQ h' s.toks fun b ob hb e' => eb b ob (fun z => hb (by simp [z])) e'
theorem srcN (ho : DictO o xs) (lo : (d == sysModules) = false) : PySem.W.KdlSrc P w "dict" d d xs.length (KeyAt xs) (fun h => h.get? d = some o) := by
  obtain ⟨hx, es, ep, hod, hz, he⟩ := ent_at ho
  have ty : ∀ s : Shared, s.heap.get? d = some o → s.TypeIs (.ref d) "dict" := fun s h => ⟨o, h, hx.1⟩
  refine ⟨ty, fun h hk => ⟨Heap.lt_size hk, Heap.lt_size hk⟩, fun h h' e hk => hk d (.inl rfl) o e, by decide, by decide, fun A E s Q hk hq => PySem.W.kdl_hint_dict (ty s hk) hq, fun A s hh hk => ?_⟩
  refine ⟨{ cls := .type "dict_keyiterator", data := .fields #[.ref d, .int 0 0, .int es.size 0, .int ep 0] }, _, fun E Q hq => iter_keys lo hk hx hod hq, walkN (I := s.heap.objs.size) ho hod hh (Nat.ne_of_lt (Heap.lt_size hk)), ⟨⟨_, Heap.get?_push_size _ rfl, rfl, ?_⟩, Heap.get?_push_of_some _ hk⟩⟩
  rw [hz]
  rfl
end
abbrev keysV (xs : List (NestedKey × Addr × Value)) : List V := xs.map fun e => .ref e.2.1
theorem vals_keys : ∀ xs : List (NestedKey × Addr × Value), Vals (keysV xs) (xs.map fun e => Value.ref e.2.1)
  | [] => .nil
  | _ :: r => .cons rfl (vals_keys r)
theorem keys_got {xs : List (NestedKey × Addr × Value)} {acc : Array Value} (h : PySem.ItemsOf (KeyAt xs) acc xs.length) : acc.toList = xs.map fun e => Value.ref e.2.1 := by
  refine List.ext_getElem? fun i => ?_
  by_cases hi : i < xs.length
  · have hl : i < acc.toList.length := by rw [Array.length_toList, h.1]; exact hi
    obtain ⟨e, h1, h2⟩ := h.2 i (acc.toList[i]'hl) (by rw [← Array.getElem?_toList]; exact List.getElem?_eq_getElem hl)
    rw [List.getElem?_eq_getElem hl, List.getElem?_map, h1, h2]
    rfl
  · rw [List.getElem?_eq_none (by rw [Array.length_toList, h.1]; omega), List.getElem?_eq_none (by rw [List.length_map]; omega)]
def rListN (K : PySem.W.Frag) : List V → Hp → VK → Prop := fun vs H Q => ∃ p o xs, vs = [.ref p] ∧ H p = some (dnO p o) ∧ DictO o xs ∧ (p == sysModules) = false ∧ xs.length ≤ sizeLine ∧ ∀ l, H l = none → Q (.ref l) (upd H l (.lst (keysV xs)))
theorem call_listN {X : Cx} (hc : X.calm = true) : CallR X (.type "list") (rListN X.K) := by
  intro pins s σ H vs us Q I r h
  obtain ⟨p, o, xs, rfl, hp, ho, lo, hz, q⟩ := h
  obtain ⟨u, rfl, rx⟩ := vals1 r
  obtain rfl : u = Value.ref p := rx
  obtain ⟨hgd, _, _⟩ := I.hok p _ hp
  refine PySem.W.kdl_call (srcN ho lo) (I.ok.hd hc) hgd hz fun h' tk acc' c' kp hl hacc => ?_
  have e := keys_got hacc
  refine ⟨.ref s.heap.objs.size, _, I.laid (t' := tk) (h' := h') kp (Nat.le_refl _) (show ObjOk X.prog X.w _ h' _ (.lst (keysV xs)) from ⟨by rw [List.length_map]; exact hz, acc'.toList, c', by rw [e]; exact vals_keys xs, by simpa using hl⟩), rfl, q _ (I.hok.fresh (Nat.le_refl _))⟩
theorem keys_dp {K : PySem.W.Frag} {H : Hp} : ∀ {xs : List (NestedKey × Addr × Value)} {kvs : List (D × D)}, DpEnts K H xs kvs → DpAll K H (keysV xs) (kvs.map (·.1))
  | _, _, .nil => .nil
  | _, _, .cons h1 h2 h3 h4 t => .cons h2 (keys_dp t)
/-- list(d) of a dict in a slot -/
@[simp] def lKeysn (i : Nat) : Fa := fun γ => match view γ i with
  | some (.dict kvs) => some (kvs.map (·.1), γ)
  | _ => none
theorem el_keysn {X : Cx} {a : Expr} {pos p : Pos} {i : Nat} (hc : X.calm = true) (hm : X.mg "list" = none) (hg : Gl X "list") (ha : PE X a (tVar i)) (he : starEach [a] X.env = (false, eval a X.env) :: starEach [] X.env := by rfl) (hpl : (backTo pos (starEach [] X.env)).any (·.1) = false := by rfl) :
    EL X (.Call (.Name "list" p) [a] [] pos) (lKeysn i) := PE.imp (pe_callTy (call_listN hc) hg hm (by decide +kernel) (pa_cons ha pa_nil he) (he := he) (hpl := hpl)) fun σ H Q ⟨γ, Hk, d, γ2, o, ee, q⟩ => by
  unfold lKeysn at ee
  split at ee <;> cases ee
  rename_i kvs ev
  obtain ⟨v, e1, w⟩ := o.view ev
  obtain ⟨p, ob, xs, rfl, ⟨h1, h2, h3, h4, h5, h6⟩, hk⟩ := w.dicK o.sub
  exact ⟨_, e1, p, ob, xs, rfl, h1, h2, h5, h6, fun l hl => q l _ H Hk (Go.refl o) hl (keys_dp hk)⟩
end DN
namespace DN
open PySem PySem.Spec PyProof.Rows L2
/-! ### xs.index(x), of things that may be keys -/
section
variable {X : Cx} {pins : List (Addr × Obj)} {σ : L2.St} {H : Hp} {s : Shared}
theorem nested_at {h : Heap} : ∀ {ks : List NestedKey} {vs : List Value}, NestedAll h ks vs → ∀ (j : Nat) (h1 : j < vs.length) (h2 : j < ks.length), NestedIs h ks[j] vs[j]
  | _, _, .nil, j, h1, _ => absurd h1 (Nat.not_lt_zero _)
  | _, _, .cons a t, 0, _, _ => a
  | _, _, .cons a t, j + 1, h1, h2 => nested_at t j (Nat.lt_of_succ_lt_succ h1) (Nat.lt_of_succ_lt_succ h2)
def rIdx (K : PySem.W.Frag) : V → List V → Hp → VK → Prop := fun x vs H Q => ∃ p ys ds ks a kd k, x = .ref p ∧ vs = [.ref a] ∧ SqL K H p ys ∧ DpAll K H ys ds ∧ keysOf ds = some ks ∧ Dp K H (.ref a) kd ∧ keyD kd = some k ∧ k ∈ ks ∧ Q (.int (ks.idxOf k : Nat)) H
theorem mt_index {n : Nat} (hr : Room n X.A) : MtR X "list.index" (rIdx X.K) := by
  have un := hr.un
  intro pins s σ H x vs v us Q I rx rv h
  obtain ⟨p, ys, ds, ks, a, kd, k, rfl, rfl, hq, ha, ek, hk, ed, hm, q⟩ := h
  cases rx
  cases rv with
  | @cons _ u _ ur r1 rr =>
    cases rr
    obtain rfl : u = Value.ref a := r1
    obtain ⟨its, r', pl, hz⟩ := I.list hq
    have na := nests_at I ha r' ek
    have nl := NestedAll.length ks its na
    obtain ⟨_, ko, kdp⟩ := keyD_of ed
    have hkv := nest_at I hk (u := .ref a) rfl ko
    have hl := r'.length
    refine PySem.SeqAt.call_list_index (vs := its) (ks := ks) (x := .ref a) (k := k) pl.isList ⟨nl, fun j h1 h2 => ?_⟩ (by rw [← nl, ← hl]; exact hz) hm ⟨.int (ks.idxOf k : Nat), H, I.tok _, ⟨_, rfl⟩, q⟩
    rw [NestedKey.decide_eq]
    refine eqAt_key _ _ X.A.in1 s _ _ (nested_at na j h1 h2) hkv ?_
    rw [Around.in1_units]
    omega
theorem sql_ty {p : Addr} {ys : List V} (hq : SqL X.K H p ys) : TyAt X "list" (.ref p) H := by
  intro pins s σ v I r
  cases r
  obtain ⟨its, r', ⟨o, n, ho, hc, hd, hs⟩, hz⟩ := I.list hq
  exact ⟨⟨o, ho, hc⟩, fun a e => by cases e; exact ⟨o, ho, hd⟩⟩
end
@[simp] def fIdx (i : Nat) (f : Fe) : Fe := fun γ => match view γ i with
  | some (.list _) => match f γ with
    | some (kd, γ1) => match view γ1 i with
      | some (.list ds) => match keysOf ds with
        | some ks => match keyD kd with
          | some k => if k ∈ ks then some (.int (ks.idxOf k : Nat), γ1) else none
          | none => none
        | none => none
      | _ => none
    | none => none
  | _ => none
theorem ev_index {X : Cx} {i n : Nat} (hr : Room n X.A) {d ke : Expr} {f : Fe} {a1 c1 : Pos} (hd : PE X d (tVar i)) (hk : EV X ke f)
    (b1 : attributeBase d "index" X.env (eval d X.env) = eval d X.env := by rfl)
    (f1' : ((backTo c1 (starEach [ke] X.env)).all (fun x => !x.1) && (backToKw c1 (keywordEach [] X.env)).all (fun x => x.1.isSome) && decide ([ke].length + ([] : List Keyword).length + (if ([] : List Keyword).isEmpty then 0 else 1) < 30)) = true := by rfl)
    (l1 : (a1.endLine == c1.line) = true := by rfl) (s1 : starEach [ke] X.env = (false, eval ke X.env) :: starEach [] X.env := by rfl) (p1 : (backTo c1 (starEach [] X.env)).any (·.1) = false := by rfl) :
    EV X (.Call (.Attribute d "index" a1) [ke] [] c1) (fIdx i f) :=
  PE.imp (pe_meth PySem.F.plainAttrs_list PySem.F.slot_list_index PySem.F.type_list_index (mt_index hr) hd (pa_cons hk pa_nil s1) b1 f1' l1 s1 p1) fun σ H Q ⟨γ, Hk, dd, γ2, o, ee, q⟩ => by
  unfold fIdx at ee
  split at ee
  · rename_i ds0 e0
    split at ee
    · rename_i kd γ1 ef
      split at ee
      · rename_i ds ev
        split at ee
        · rename_i ks eks
          split at ee
          · rename_i k ek
            split at ee <;> cases ee
            rename_i hm
            obtain ⟨v0, ev0, w0⟩ := o.view e0
            obtain ⟨p0, ys0, rfl, h0, _⟩ := w0.lst o.sub
            refine ⟨.ref p0, ev0, sql_ty h0, γ, Hk, kd, _, o, ef, fun v1 H1 Hk1 g1 r1 => ?_⟩
            obtain ⟨v2, ev2, w2⟩ := g1.ok.view ev
            rw [ev0] at ev2; cases ev2
            obtain ⟨p1, ys1, e1, h1, h2⟩ := w2.lst g1.ok.sub
            cases e1
            obtain ⟨a, rfl⟩ := key_ref r1 ek
            exact ⟨p0, ys1, ds, ks, a, kd, k, rfl, rfl, h1, dps_mono g1.ok.sub h2, eks, dp_mono g1.ok.sub r1, ek, hm, q _ H1 Hk1 g1 (.int _)⟩
          · cases ee
        · cases ee
      · cases ee
    · cases ee
  · cases ee
end DN
namespace DN
open PySem PySem.Spec PyProof.Rows L2
/-! ### len(set(xs)), xs a list of tuples of whole numbers -/
def intsOf : List D → Option (List Int)
  | [] => some []
  | .int i :: ds => match intsOf ds with
    | some r => some (i :: r)
    | none => none
  | _ => none
def tupsOf : List D → Option (List (List Int))
  | [] => some []
  | .tuple ds :: r => match intsOf ds with
    | some k => match tupsOf r with
      | some ks => some (k :: ks)
      | none => none
    | none => none
  | _ => none
/-- how many are there, each once -/
def dist : List (List Int) → Nat
  | [] => 0
  | k :: r => if k ∈ r then dist r else dist r + 1
theorem dist_of : ∀ (l m : List (List Int)), m.Nodup → (∀ x, x ∈ m ↔ x ∈ l) → dist l = m.length
  | [], m, nd, h => by
    cases m with
    | nil => rfl
    | cons x r => exact absurd ((h x).mp (by simp)) (by simp)
  | k :: r, m, nd, h => by
    rw [dist]
    by_cases c : k ∈ r
    · rw [if_pos c]
      refine dist_of r m nd fun x => (h x).trans ?_
      rw [List.mem_cons]
      exact ⟨fun z => z.elim (fun e => e ▸ c) id, .inr⟩
    · rw [if_neg c]
      have hk : k ∈ m := (h k).mpr (by simp)
      have e := dist_of r (m.erase k) (nd.erase k) fun x => by
        rw [nd.mem_erase_iff, h x, List.mem_cons]
        constructor
        · rintro ⟨h1, rfl | h2⟩
          · exact absurd rfl h1
          · exact h2
        · intro hx
          exact ⟨fun z => c (z ▸ hx), .inr hx⟩
      rw [e, List.length_erase_of_mem hk]
      have := List.length_pos_of_mem hk
      omega
theorem dist_nodup {l : List (List Int)} (h : l.Nodup) : dist l = l.length := dist_of l l h fun _ => Iff.rfl
section
variable {K : PySem.W.Frag} {H Hk : Hp}
theorem dp_ints : ∀ {vs : List V} {ds : List D} {ns : List Int}, DpAll K H vs ds → intsOf ds = some ns → vs = ns.map V.int
  | _, _, _, .nil, e => by rw [intsOf] at e; cases e; rfl
  | _, _, ns, .cons (d := d) (ds := ds) h t, e => by
    cases d with
    | int i =>
      rw [intsOf] at e
      split at e
      · rename_i r er
        cases e
        cases h
        rw [dp_ints t er]
        rfl
      · cases e
    | _ => simp [intsOf] at e
theorem dp_tups (s : Same Hk H) : ∀ {vs : List V} {ds : List D} {kss : List (List Int)}, DpAll K Hk vs ds → tupsOf ds = some kss → ∃ ks : List (Addr × List Int), vs = ks.map (fun p => V.ref p.1) ∧ ks.map (·.2) = kss ∧ ∀ p ∈ ks, SqT K H p.1 (p.2.map V.int)
  | _, _, _, .nil, e => by rw [tupsOf] at e; cases e; exact ⟨[], rfl, rfl, fun p h => by cases h⟩
  | _, _, kss, .cons (d := d) (ds := ds) h t, e => by
    cases d with
    | tuple es =>
      rw [tupsOf] at e
      split at e
      · rename_i k ek
        split at e
        · rename_i r er
          cases e
          obtain ⟨ks, e1, e2, e3⟩ := dp_tups s t er
          cases h with
          | tup hs ha =>
            rename_i a ws
            have hv := dp_ints ha ek
            subst hv
            refine ⟨(a, k) :: ks, by rw [e1]; rfl, by rw [List.map_cons, e2], fun p hp => ?_⟩
            rcases List.mem_cons.mp hp with rfl | hp
            · exact sqt_mono s hs
            · exact e3 p hp
        · cases e
      · cases e
    | _ => simp [tupsOf] at e
end
section
variable {X : Cx}
def rLenT (K : PySem.W.Frag) (P : Program) (w : World) : List V → Hp → VK → Prop := fun vs H Q => ∃ (a : Addr) (L : List (Addr × List Int)), vs = [.ref a] ∧ H a = some (SetTO P w a L) ∧ (∀ p ∈ L, SqT K H p.1 (p.2.map V.int)) ∧ ((L.map (·.2)).Nodup → Q (.int L.length) H)
theorem call_lenT : CallR X (.builtin "len") (rLenT X.K X.prog X.w) := by
  intro pins s σ H vs us Q I r h
  obtain ⟨a, L, rfl, ha, hl, q⟩ := h
  rw [Vals.ref1 r]
  obtain ⟨R0, _, _⟩ := I.hok a _ ha
  obtain ⟨es, ep, t, R⟩ := R0.full fun p hp => I.isT (hl p hp)
  obtain ⟨o, ho, hex, hd⟩ := R.ob
  have hn := R.size
  have hf := R.few
  exact call_len_set ho hex hd R.fits (by rw [hn]; omega) ⟨.int L.length, H, I.tok _, ⟨_, by rw [hn]⟩, q R.nd⟩
end
theorem go_more {K : PySem.W.Frag} {σ : L2.St} {H Hk H1 Hk1 : Hp} {γ γ1 : En} {a : Addr} {o : HO} (g : Go K σ H Hk γ σ H1 Hk1 γ1) (h : H1 a = none) : Go K σ H Hk γ σ (upd H1 a o) Hk1 γ1 :=
  g.trans (g.ok.go ⟨fun b u e => by rw [upd_ne (fun z => by rw [z, h] at e; cases e)]; exact e, Same.refl _, fun b u e => by
    have := g.ok.sub b u e
    rw [upd_ne (fun z => by rw [z, h] at this; cases this)]
    exact this, fun b u e n => by rw [n] at e; cases e⟩)
@[simp] def fLenSet (f : Fe) : Fe := fun γ => match f γ with
  | some (.list ds, γ1) => match tupsOf ds with
    | some ks => if ks.length < 64 then some (.int (dist ks : Nat), γ1) else none
    | none => none
  | _ => none
theorem ev_lenSet {X : Cx} {n : Nat} {a : Expr} {f : Fe} {p p2 q pos : Pos} (hc : X.calm = true) (hr : Room n X.A) (hm : X.mg "len" = none) (hg : Gl X "len") (hm2 : X.mg "set" = none) (hg2 : Gl X "set") (ha : EV X a f)
    (he : starEach [a] X.env = (false, eval a X.env) :: starEach [] X.env := by rfl) (hpl : (backTo q (starEach [] X.env)).any (·.1) = false := by rfl)
    (he2 : starEach [.Call (.Name "set" p2) [a] [] q] X.env = (false, eval (.Call (.Name "set" p2) [a] [] q) X.env) :: starEach [] X.env := by rfl) (hpl2 : (backTo pos (starEach [] X.env)).any (·.1) = false := by rfl) :
    EV X (.Call (.Name "len" p) [.Call (.Name "set" p2) [a] [] q] [] pos) (fLenSet f) :=
  PE.imp (pe_callB call_lenT hg hm (by decide +kernel) (pa_cons (pe_callTy (cr_setOfT hc (by have := hr.un; omega)) hg2 hm2 (by decide +kernel) (pa_cons ha pa_nil he) (he := he) (hpl := hpl)) pa_nil he2) (he := he2) (hpl := hpl2)) fun σ H Q ⟨γ, Hk, d, γ2, o, ee, q⟩ => by
  unfold fLenSet at ee
  split at ee
  · rename_i ds γ1 ef
    split at ee
    · rename_i ks ek
      split at ee <;> cases ee
      rename_i hz
      refine ⟨γ, Hk, _, _, o, ef, fun v H1 Hk1 g1 r1 => ?_⟩
      cases r1 with
      | lst hs hd =>
        obtain ⟨kk, rfl, e2, e3⟩ := dp_tups g1.ok.sub hd ek
        have hl : kk.length < 64 := by rw [← List.length_map (f := (·.2)) (as := kk), e2]; exact hz
        refine ⟨_, kk, rfl, sql_mono g1.ok.sub hs, e3, hl, fun b L hb h1 h2 => ?_⟩
        have g2 := go_more (o := SetTO X.prog X.w b L) g1 hb
        refine ⟨b, L, rfl, upd_same, fun p hp => sqt_mono (fun c u e => by rw [upd_ne (fun z => by rw [z, hb] at e; cases e)]; exact e) (e3 p (h1 p hp)), fun nd => ?_⟩
        have hd' : dist ks = L.length := by
          rw [dist_of ks (L.map (·.2)) nd fun x => ?_, List.length_map]
          rw [← e2]
          constructor
          · intro hx
            obtain ⟨p, hp, rfl⟩ := List.mem_map.mp hx
            exact List.mem_map_of_mem (h1 p hp)
          · intro hx
            obtain ⟨p, hp, rfl⟩ := List.mem_map.mp hx
            exact h2 p hp
        rw [hd'] at q
        exact q _ _ Hk1 g2 (.int _)
    · cases ee
  · cases ee
end DN
namespace DN
open PySem PySem.Spec PyProof.Rows L2
/-! ### xs.pop() -/
theorem dps_split {K : PySem.W.Frag} {H : Hp} {d : D} : ∀ {ds : List D} {vs : List V}, DpAll K H vs (ds ++ [d]) → ∃ vs' y, vs = vs' ++ [y] ∧ DpAll K H vs' ds ∧ Dp K H y d
  | [], _, .cons h .nil => ⟨[], _, rfl, .nil, h⟩
  | x :: ds, _, .cons h t => by
    obtain ⟨vs', y, rfl, h1, h2⟩ := dps_split t
    exact ⟨_ :: vs', y, rfl, .cons h h1, h2⟩
@[simp] def fPop (i : Nat) : Fe := fun γ => match gt γ i with
  | some (.ow b (.lst ds)) => match ds.getLast? with
    | some d => some (d, γ.set i (some (.ow b (.lst ds.dropLast))))
    | none => none
  | _ => none
theorem ev_pop {X : Cx} (i : Nat) {a : Expr} {apos cpos : Pos} (ho : PE X a (tVar i))
    (hbase : attributeBase a "pop" X.env (eval a X.env) = eval a X.env := by rfl) (hline : (apos.endLine == cpos.line) = true := by rfl) : EV X (.Call (.Attribute a "pop" apos) [] [] cpos) (fPop i) :=
  PE.imp (pe_bm0 PySem.F.plainAttrs_list PySem.F.slot_list_pop PySem.F.type_list_pop mt_pop ho hbase hline) fun σ H Q ⟨γ, Hk, d, γ2, k, ee, q⟩ => by
  unfold fPop at ee
  split at ee
  · rename_i b ds e0
    split at ee
    · rename_i x ex
      cases ee
      obtain ⟨p, vs, e1, hp, _, ra⟩ := k.own i _ _ e0
      obtain ⟨ys, rfl⟩ := List.getLast?_eq_some_iff.mp ex
      obtain ⟨vs', y, rfl, h1, h2⟩ := dps_split ra
      refine ⟨_, e1, .inl ⟨rfl, _, SqL.of hp⟩, p, vs' ++ [y], y, rfl, rfl, hp, by simp, ?_⟩
      rw [List.dropLast_concat] at q ⊢
      exact q y _ _ (k.write e0 e1 h1) h2
    · cases ee
  · cases ee
end DN
namespace DN
open PySem PySem.Spec PyProof.Rows L2
/-! ### {k: v} -/
def tDic1 (K : PySem.W.Frag) (tk tv : TE) : TE := fun σ H Q => ∀ p o, H p = none → (p == sysModules) = false → DictO o [] → tk σ (upd H p (dnO p o)) fun x H1 => tv σ H1 fun y H2 => H2 p = some (dnO p o) ∧
  ∃ a kd k d, x = .ref a ∧ Dp K H2 (.ref a) kd ∧ keyD kd = some k ∧ Dp K H2 y d ∧ ∀ o2 u, RelV y u → DictO o2 [(k, a, u)] → Q (.ref p) (upd H2 p (dnO p o2))
theorem pe_dic1 {X : Cx} {n : Nat} (hr : Room n X.A) {ke ve : Expr} {tk tv : TE} {pos : Pos} (hk : PE X ke tk) (hv : PE X ve tv)
    (hshape : (evalEachOpt [some ke] X.env).zip ((evalEach [ve] X.env).map fun v => do let x ← v; standAt pos; pure x) = [(eval ke X.env, (do let x ← eval ve X.env; standAt pos; pure x : Sem Value))].map fun p => (some p.1, p.2) := by rfl) :
    PE X (.Dict [some ke] [ve] pos) (tDic1 X.K tk tv) := by
  refine ⟨fun pins s σ H Q I h => ?_⟩
  have big := I.big
  have un := hr.un
  have e : (s.heap.push { cls := .type "dict", data := .dict #[] }).get? s.heap.objs.size = some { cls := .type "dict", data := .dict #[] } := Heap.get?_push_size _ rfl
  have ho : DictO { cls := .type "dict", data := .dict #[] } [] := ⟨⟨rfl, rfl, rfl⟩, #[], 0, rfl, rfl⟩
  have I0 := I.laid (t' := s.toks) (a := s.heap.objs.size) (fun _ _ q => Heap.get?_push_of_some _ q) (Nat.le_refl _) (dnO_ok e)
  have lo : (s.heap.objs.size == sysModules) = false := beq_eq_false_iff_ne.mpr (Nat.ne_of_gt big)
  have h0 := h s.heap.objs.size _ (I.hok.fresh (Nat.le_refl _)) lo ho
  rw [arm_eval_Dict, hshape, dictDisplay_pairs _ (by simp) (by simp)]
  refine wpAny_bind (wpAny_standAt (wpAny_bind (wpAny_subDictH (knd := nestedKind X.prog X.w) (by show X.A.units + 8 < cLine; omega) (by simp) ?_)))
  simp only [evalPairs]
  refine wpAny_bind (thn (hk.run pins _ σ _ _ I0 h0) fun kv s1 ⟨x, H1, I1, r1, q1⟩ => ?_)
  refine wpAny_bind (wpAny_holding (wpAny_bind (thn (hv.run pins s1 σ H1 _ I1 q1) fun vv s2 ⟨y, H2, I2, r2, hp, a, kd, k, d, ex, dk, ek, dv, q⟩ => wpAny_bind (wpAny_standAt (wpAny_pure ?_)))))
  refine wpAny_bind (wpAny_holding (wpAny_pure (wpAny_pure ?_)))
  subst ex
  obtain rfl : kv = Value.ref a := r1
  have hm := dictN_at I2 hp ho .nil List.nodup_nil
  refine ⟨[(k, a, vv)], ⟨rfl, rfl, keyN_at I2 dk ek, trivial⟩, hm, fun h' tk hm' hs => wpAny_pure ?_⟩
  have st : storedAllH [] [(k, a, vv)] = [(k, a, vv)] := rfl
  rw [st] at hm'
  obtain ⟨o2, ho2, hd2, nd2⟩ := dictN_of (kvs := [(kd, d)]) hm' (.cons ek dk r2 dv .nil)
  exact ⟨.ref s.heap.objs.size, _, I2.write (t' := tk) (x := s.heap.objs.size) (e := s.heap.objs.size) (by rw [hp]; exact True.intro) (.inl rfl) (fun b u hne z => (hs.2 b hne).trans z) ⟨o2, ho2⟩ (dnO_ok ho2), rfl, q o2 vv r2 hd2⟩
end DN
namespace DN
open PySem PySem.Spec PyProof.Rows L2
/-- x = {k: c}, k a name, c a constant -/
@[simp] def sDic1 (i j : Nat) (d : D) : Fs := fun γ => match gt γ j with
  | some (.dat kd) => match keyD kd with
    | some _ => if pinB γ i then none else some (.nx (γ.set i (some (.ow false (.dic [(kd, d)])))))
    | none => none
  | _ => none
theorem upd_twice {H : Hp} {p : Addr} {o o2 : HO} : upd (upd H p o) p o2 = upd H p o2 := by
  funext b
  by_cases h : b = p
  · rw [h, upd_same, upd_same]
  · rw [upd_ne h, upd_ne h, upd_ne h]
theorem es_dic1 {W : WX} {X : Cx} (i j : Nat) {n : Nat} (hr : Room n X.A) {ke ve : Expr} {c : V} {d : D} {x : Str} {p' dp pos : Pos} (hN : X.N.Nodup) (hi : X.N[i]? = some x) (hx : Loc X.env.scope x) (hk : PE X ke (tVar j)) (hv : PE X ve (tC c)) (hd : ∀ Hk, Dp X.K Hk c d)
    (hshape : (evalEachOpt [some ke] X.env).zip ((evalEach [ve] X.env).map fun v => do let x ← v; standAt dp; pure x) = [(eval ke X.env, (do let x ← eval ve X.env; standAt dp; pure x : Sem Value))].map fun p => (some p.1, p.2) := by rfl)
    (hs : swapsWith (.Dict [some ke] [ve] dp) (some (.Name x p')) pos.line X.env = pure false := by rfl)
    (hf : X.fn x = true ∨ X.env.scope.names.lookup x = some .local := by first | exact .inl rfl | exact .inr rfl | assumption) : ES X W (.Assign [.Name x p'] (.Dict [some ke] [ve] dp) pos) (sDic1 i j d) :=
  PS.imp (ps_set hN hi hx (pe_dic1 hr hk hv hshape) hs hf) fun Z σ H ⟨γ, Hk, o, k, e, q⟩ => by
  unfold sDic1 at e
  split at e
  · rename_i kd ej
    split at e
    · rename_i kk ek
      split at e <;> cases e
      rename_i np
      intro p ob hp hsys ho
      obtain ⟨v, ev, rv⟩ := k.dat j kd ej
      obtain ⟨a, rfl⟩ := key_ref rv ek
      have s1 : Same Hk (upd H p (dnO p ob)) := k.sub.trans (same_upd hp)
      refine ⟨_, ev, upd_same, a, kd, kk, d, rfl, dp_mono s1 rv, ek, dp_mono s1 (hd Hk), fun o2 u ru hdo => ?_⟩
      rw [upd_twice]
      exact q _ _ _ (k.setNew (same_upd hp) (.dic upd_same (k.sub.free hp) hdo (.cons ek rv ru (hd Hk) .nil) (by simp) hsys (by rw [sizeLine_eq]; simp)) (fun b hb => by rw [List.mem_singleton.mp hb]; exact hp) (noPin_of k (by simpa using np)))
    · cases e
  · cases e
end DN
namespace DN
open PySem PySem.Spec PyProof.Rows L2
/-! ### x = {k: c}, k any expression -/
def rmH (H : Hp) (p : Addr) : Hp := fun b => if b = p then none else H b
theorem rmH_sub {H : Hp} {p : Addr} : Same (rmH H p) H := fun b u e => by
  unfold rmH at e
  split at e
  · cases e
  · exact e
theorem rmH_ne {H : Hp} {p b : Addr} (h : b ≠ p) : rmH H p b = H b := if_neg h
theorem rmH_at {H : Hp} {p : Addr} : rmH H p p = none := if_pos rfl
section
variable {K : PySem.W.Frag} {σ σ1 : L2.St} {H Hk H1 Hk1 : Hp} {γ γ1 : En} {p : Addr}
theorem rm_up {v : V} {y : Pay} {fp : List Addr} (r : OwnV K (rmH H p) Hk v y fp) : OwnV K H Hk v y fp := r.to (Same.refl _) (fun a _ u e => rmH_sub a u e) fun a ha => (r.at a ha).2
theorem rm_own {a : Addr} (h : OwnA K σ (rmH H p) Hk γ a) : OwnA K σ H Hk γ a := by
  obtain ⟨i, b, y, v, fp, h1, h2, r, m⟩ := h
  exact ⟨i, b, y, v, fp, h1, h2, rm_up r, m⟩
theorem Ok.rm (o : Ok K σ H Hk γ) (hk : Hk p = none) (no : ¬ OwnA K σ H Hk γ p) : Ok K σ (rmH H p) Hk γ where
  len := o.len
  sub := fun b u e => by
    rw [rmH_ne (fun z => by rw [z, hk] at e; cases e)]
    exact o.sub b u e
  dat := o.dat
  ow := fun i b y e => by
    obtain ⟨v, fp, e1, r⟩ := o.ow i b y e
    exact ⟨v, fp, e1, r.to (Same.refl _) (fun a ha u e2 => by
      have ne : a ≠ p := fun z => no ⟨i, b, y, v, fp, e, e1, r, by rw [← z]; exact ha⟩
      rw [rmH_ne ne]; exact e2) fun a ha => (r.at a ha).2⟩
  pin := o.pin
  sep := fun i j b c y z v u fp fq e1 e2 e3 e4 r1 r2 => o.sep i j b c y z v u fp fq e1 e2 e3 e4 (rm_up r1) (rm_up r2)
  tab := o.tab
/-- what went on beside a new object p, told without it -/
theorem go_beside {X : HO} (hp : H p = none) (o : Ok K σ H Hk γ) (g : Go K σ (upd H p X) Hk γ σ1 H1 Hk1 γ1) : Go K σ H Hk γ σ1 (rmH H1 p) Hk1 γ1 ∧ H1 p = some X := by
  have gr : Grow H Hk (upd H p X) Hk := ⟨fun b u e => by rw [upd_ne (fun z => by rw [z, hp] at e; cases e)]; exact e, Same.refl _, fun b u e => by
    have := o.sub b u e
    rw [upd_ne (fun z => by rw [z, hp] at this; cases this)]
    exact this, fun b u e n => by rw [n] at e; cases e⟩
  have back : ∀ {a}, OwnA K σ (upd H p X) Hk γ a → OwnA K σ H Hk γ a := fun h => h.grown o gr
  have no : ¬ OwnA K σ (upd H p X) Hk γ p := fun h => by
    obtain ⟨⟨u, e⟩, _⟩ := (back h).at
    rw [hp] at e
    cases e
  have hn : ∀ {a}, upd H p X a = none → H a = none := fun {a} h => by
    by_cases c : a = p
    · rw [c]; exact hp
    · rw [upd_ne c] at h; exact h
  have hk0 : Hk p = none := o.sub.free hp
  have hk : Hk1 p = none := by
    cases e : Hk1 p with
    | none => rfl
    | some u =>
      rcases g.nw p u e hk0 with z | z
      · rw [upd_same] at z; cases z
      · exact absurd z no
  have no1 : ¬ OwnA K σ1 H1 Hk1 γ1 p := fun h => by
    rcases g.sh p h with z | z
    · exact no z
    · rw [upd_same] at z; cases z
  refine ⟨⟨g.ok.rm hk no1, g.kk, fun a u e n => ?_, fun a u e n => ?_, fun a h => ?_, g.pn⟩, g.kp p X upd_same no⟩
  · rcases g.nw a u e n with z | z
    · exact .inl (hn z)
    · exact .inr (back z)
  · have ne : a ≠ p := fun z => by rw [z, hp] at e; cases e
    rw [rmH_ne ne]
    exact g.kp a u (by rw [upd_ne ne]; exact e) fun h => n (back h)
  · rcases g.sh a (rm_own h) with z | z
    · exact .inl (back z)
    · exact .inr (hn z)
end
@[simp] def sDic1E (i : Nat) (f : Fe) (d : D) : Fs := fun γ => match f γ with
  | some (kd, γ1) => match keyD kd with
    | some _ => if pinB γ1 i then none else some (.nx (γ1.set i (some (.ow false (.dic [(kd, d)])))))
    | none => none
  | none => none
theorem es_dic1E {W : WX} {X : Cx} (i : Nat) {n : Nat} (hr : Room n X.A) {ke ve : Expr} {f : Fe} {c : V} {d : D} {x : Str} {p' dp pos : Pos} (hN : X.N.Nodup) (hi : X.N[i]? = some x) (hx : Loc X.env.scope x) (hk : EV X ke f) (hv : PE X ve (tC c)) (hd : ∀ Hk, Dp X.K Hk c d)
    (hshape : (evalEachOpt [some ke] X.env).zip ((evalEach [ve] X.env).map fun v => do let x ← v; standAt dp; pure x) = [(eval ke X.env, (do let x ← eval ve X.env; standAt dp; pure x : Sem Value))].map fun p => (some p.1, p.2) := by rfl)
    (hs : swapsWith (.Dict [some ke] [ve] dp) (some (.Name x p')) pos.line X.env = pure false := by rfl)
    (hf : X.fn x = true ∨ X.env.scope.names.lookup x = some .local := by first | exact .inl rfl | exact .inr rfl | assumption) : ES X W (.Assign [.Name x p'] (.Dict [some ke] [ve] dp) pos) (sDic1E i f d) :=
  PS.imp (ps_set hN hi hx (pe_dic1 hr hk hv hshape) hs hf) fun Z σ H ⟨γ, Hk, o, k, e, q⟩ => by
  unfold sDic1E at e
  split at e
  · rename_i kd γ1 ef
    split at e
    · rename_i kk ek
      split at e <;> cases e
      rename_i np
      intro p ob hp hsys ho
      have gr : Grow H Hk (upd H p (dnO p ob)) Hk := ⟨fun b u e => by rw [upd_ne (fun z => by rw [z, hp] at e; cases e)]; exact e, Same.refl _, fun b u e => by
        have := k.sub b u e
        rw [upd_ne (fun z => by rw [z, hp] at this; cases this)]
        exact this, fun b u e n => by rw [n] at e; cases e⟩
      refine ⟨γ, Hk, _, _, k.grow gr, ef, fun v H1 Hk1 g1 r1 => ?_⟩
      obtain ⟨g, h1⟩ := go_beside hp k g1
      obtain ⟨a, rfl⟩ := key_ref r1 ek
      have s1 : Same Hk1 H1 := g1.ok.sub
      refine ⟨h1, a, kd, kk, d, rfl, dp_mono s1 r1, ek, dp_mono s1 (hd Hk1), fun o2 u ru hdo => ?_⟩
      have sm : Same (rmH H1 p) (upd H1 p (dnO p o2)) := fun b w e => by
        have ne : b ≠ p := fun z => by rw [z, rmH_at] at e; cases e
        rw [upd_ne ne]
        exact rmH_sub b w e
      exact q _ _ _ (g.trans (g.ok.setNew sm (.dic upd_same (g.ok.sub.free rmH_at) hdo (.cons ek r1 ru (hd Hk1) .nil) (by simp) hsys (by rw [sizeLine_eq]; simp)) (fun b hb => by rw [List.mem_singleton.mp hb]; exact rmH_at) (noPin_of g.ok (by simpa using np))))
    · cases e
  · cases e
end DN
namespace DN
open PySem PySem.Spec PyProof.Rows L2
/-! ### isinstance(x, T), T one of int, bool, str, list, tuple -/
def tyN : D → Option String
  | .int _ => some "int"
  | .bool _ => some "bool"
  | .str _ => some "str"
  | .list _ => some "list"
  | .tuple _ => some "tuple"
  | _ => none
def isN (T n : String) : Bool := n == T || (n == "bool" && T == "int")
def isiD (T : String) (d : D) : Option D := match tyN d with
  | some n => some (.bool (isN T n))
  | none => none
abbrev tyNs : List String := ["int", "bool", "str", "list", "tuple"]
theorem tyN_mem {d : D} {n : String} (h : tyN d = some n) : n ∈ tyNs := by
  cases d <;> simp [tyN] at h <;> subst h <;> simp
theorem ty_list {K : PySem.W.Frag} {H : Hp} {a : Addr} {xs : List V} (h : SqL K H a xs) : TyX K H (.ref a) (.type "list") := by
  rcases h with (h | ⟨o, h⟩) | ⟨o, its, n, h, c, _⟩
  · exact .base (.lst h)
  · exact .base (.frz h)
  · exact .kList h c
theorem ty_tuple {K : PySem.W.Frag} {H : Hp} {a : Addr} {xs : List V} (h : SqT K H a xs) : TyX K H (.ref a) (.type "tuple") := by
  rcases h with (h | ⟨o, h⟩) | ⟨o, its, n, h, c, _⟩
  · exact .base (.tup h)
  · exact .fTuple h
  · exact .kTuple h c
theorem vw_ty {K : PySem.W.Frag} {H Hk : Hp} {v : V} {d : D} {n : String} (s : Same Hk H) (w : Vw K H Hk v d) (h : tyN d = some n) : TyX K H v (.type n) := by
  rcases w with w | ⟨p, vs, ds, rfl, rfl, hp, _⟩ | ⟨p, o, xs, kvs, rfl, rfl, _⟩
  · cases w with
    | non => simp [tyN] at h
    | bl b => simp [tyN] at h; subst h; exact .base (.bl b)
    | int i => simp [tyN] at h; subst h; exact .base (.int i)
    | str x => simp [tyN] at h; subst h; exact .base (.str x)
    | lst hs _ => simp [tyN] at h; subst h; exact ty_list (sql_mono s hs)
    | tup hs _ => simp [tyN] at h; subst h; exact ty_tuple (sqt_mono s hs)
    | dct _ _ _ _ _ _ => simp [tyN] at h
  · simp [tyN] at h; subst h; exact .base (.lst hp)
  · simp [tyN] at h
@[simp] def fIsi (T : String) (f : Fe) : Fe := fun γ => match f γ with
  | some (d, γ1) => match isiD T d with
    | some r => some (r, γ1)
    | none => none
  | none => none
@[simp] def fIsin (T : String) (i : Nat) : Fe := fun γ => match view γ i with
  | some d => match isiD T d with
    | some r => some (r, γ)
    | none => none
  | none => none
theorem ev_isi {X : Cx} {T : String} {tx : Str} {a : Expr} {f : Fe} {p p2 pos : Pos} (hm : X.mg "isinstance" = none) (hg : Gl X "isinstance") (hm2 : X.mg tx = none) (hg2 : Gl X tx) (hv : bootBuiltins tx = some (.type T)) (ha : EV X a f)
    (hT : ∀ n ∈ tyNs, kitB n T = some (isN T n) := by decide +kernel) (hn : tx ≠ "__name__" := by decide) (hdb : (tx == ("__debug__" : Str)) = false := by decide)
    (he1 : starEach [.Name tx p2] X.env = (false, eval (.Name tx p2) X.env) :: starEach [] X.env := by rfl)
    (he : starEach [a, .Name tx p2] X.env = (false, eval a X.env) :: starEach [.Name tx p2] X.env := by rfl) (hpl : (backTo pos (starEach [.Name tx p2] X.env)).any (·.1) = false := by rfl) :
    EV X (.Call (.Name "isinstance" p) [a, .Name tx p2] [] pos) (fIsi T f) :=
  PE.imp (pe_callB call_isi hg hm PyProof.Rows.boot_isinstance (pa_cons ha (pa_cons (pe_bltn (v := .ty T) hg2 hm2 hv rfl hn hdb) pa_nil he1) he) (he := he) (hpl := hpl)) fun σ H Q ⟨γ, Hk, d, γ2, o, ee, q⟩ => by
  unfold fIsi isiD at ee
  split at ee
  · rename_i x γ1 ef
    split at ee
    · rename_i r er
      cases ee
      split at er <;> cases er
      rename_i n en
      refine ⟨γ, Hk, x, _, o, ef, fun v H1 Hk1 g1 r1 => ?_⟩
      exact ⟨v, .ty T, .type n, .type T, isN T n, rfl, .ty T, vw_ty g1.ok.sub (.inl r1) en, kit_ty (hT n (tyN_mem en)), q _ H1 Hk1 g1 (.bl _)⟩
    · cases ee
  · cases ee
theorem ev_isin {X : Cx} {T : String} {tx : Str} {a : Expr} {i : Nat} {p p2 pos : Pos} (hm : X.mg "isinstance" = none) (hg : Gl X "isinstance") (hm2 : X.mg tx = none) (hg2 : Gl X tx) (hv : bootBuiltins tx = some (.type T)) (ha : PE X a (tVar i))
    (hT : ∀ n ∈ tyNs, kitB n T = some (isN T n) := by decide +kernel) (hn : tx ≠ "__name__" := by decide) (hdb : (tx == ("__debug__" : Str)) = false := by decide)
    (he1 : starEach [.Name tx p2] X.env = (false, eval (.Name tx p2) X.env) :: starEach [] X.env := by rfl)
    (he : starEach [a, .Name tx p2] X.env = (false, eval a X.env) :: starEach [.Name tx p2] X.env := by rfl) (hpl : (backTo pos (starEach [.Name tx p2] X.env)).any (·.1) = false := by rfl) :
    EV X (.Call (.Name "isinstance" p) [a, .Name tx p2] [] pos) (fIsin T i) :=
  PE.imp (pe_callB call_isi hg hm PyProof.Rows.boot_isinstance (pa_cons ha (pa_cons (pe_bltn (v := .ty T) hg2 hm2 hv rfl hn hdb) pa_nil he1) he) (he := he) (hpl := hpl)) fun σ H Q ⟨γ, Hk, d, γ2, o, ee, q⟩ => by
  unfold fIsin isiD at ee
  split at ee
  · rename_i x ef
    split at ee
    · rename_i r er
      cases ee
      split at er <;> cases er
      rename_i n en
      obtain ⟨v, e1, w⟩ := o.view ef
      exact ⟨v, e1, v, .ty T, .type n, .type T, isN T n, rfl, .ty T, vw_ty o.sub w en, kit_ty (hT n (tyN_mem en)), q _ H Hk (Go.refl o) (.bl _)⟩
    · cases ee
  · cases ee
example : ∀ n ∈ tyNs, kitB n "tuple" = some (isN "tuple" n) := by decide +kernel
example : ∀ n ∈ tyNs, kitB n "int" = some (isN "int" n) := by decide +kernel
example : ∀ n ∈ tyNs, kitB n "str" = some (isN "str" n) := by decide +kernel
example : ∀ n ∈ tyNs, kitB n "list" = some (isN "list" n) := by decide +kernel
example : ∀ n ∈ tyNs, kitB n "bool" = some (isN "bool" n) := by decide +kernel
end DN
namespace DN
open PySem PySem.Spec PyProof.Rows L2
section
variable {W : WX} {X : Cx}
/-! ### xs.extend(a new list) -/
def sExt (i : Nat) (fl : Fa) : Fs := fun γ => match gt γ i with
  | some (.ow _ (.lst _)) => match fl γ with
    | some (ds, γ1) => match gt γ1 i with
      | some (.ow b (.lst es)) => if okN (es.length + ds.length) then some (.nx (γ1.set i (some (.own b (es ++ ds))))) else none
      | _ => none
    | none => none
  | _ => none
theorem es_ext (i : Nat) {a e : Expr} {fl : Fa} {apos cpos pos : Pos} (ho : PE X a (tVar i)) (he : EL X e fl)
    (b1 : attributeBase a "extend" X.env (eval a X.env) = eval a X.env := by rfl)
    (f1' : ((backTo cpos (starEach [e] X.env)).all (fun x => !x.1) && (backToKw cpos (keywordEach [] X.env)).all (fun x => x.1.isSome) && decide ([e].length + ([] : List Keyword).length + (if ([] : List Keyword).isEmpty then 0 else 1) < 30)) = true := by rfl)
    (l1 : (apos.endLine == cpos.line) = true := by rfl) (s1 : starEach [e] X.env = (false, eval e X.env) :: starEach [] X.env := by rfl) (p1 : (backTo cpos (starEach [] X.env)).any (·.1) = false := by rfl)
    (sw : swapsWith (.Call (.Attribute a "extend" apos) [e] [] cpos) none pos.line X.env = pure false := by rfl) :
    ES X W (.Expr (.Call (.Attribute a "extend" apos) [e] [] cpos) pos) (sExt i fl) :=
  PS.imp (ps_expr (pe_meth PySem.F.plainAttrs_list PySem.F.slot_list_extend PySem.F.type_list_extend mt_extend ho (pa_cons he pa_nil s1) b1 f1' l1 s1 p1) sw) fun Z σ H ⟨γ, Hk, o, k, e, q⟩ => by
  unfold sExt at e
  split at e
  · rename_i b0 ds0 e0
    split at e
    · rename_i ds γ1 ef
      split at e
      · rename_i b es eo
        split at e <;> cases e
        rename_i c
        obtain ⟨p, vs0, e1, hp0, _⟩ := k.own i _ _ e0
        refine ⟨_, e1, lst_ty hp0, γ, Hk, ds, γ1, k, ef, fun l vs H1 Hk1 g1 hl rl => ?_⟩
        obtain ⟨p', ws, e2, hp, _, ra⟩ := g1.ok.own i _ _ eo
        rw [e1] at e2
        cases e2
        have lp : p ≠ l := ne_of_none hp hl
        have g2 : Go X.K σ H1 Hk1 γ1 σ (upd H1 l (.lst vs)) Hk1 γ1 := g1.ok.go (Grow.newH g1.ok.sub hl)
        refine ⟨p, l, ws, vs, rfl, rfl, by rw [upd_ne lp]; exact hp, upd_same, by rw [dps_len ra, dps_len rl]; exact okN_line c, ?_⟩
        exact q _ _ _ ((g1.trans g2).trans (g2.ok.write eo e1 (dps_app ra rl)))
      · cases e
    · cases e
  · cases e
end
end DN
namespace DN
open PySem PySem.Spec PyProof.Rows L2
/-! ### an own exception whose __init__ says super().__init__(f'..') and keeps one field -/
/-- the context of a method that closes over its class -/
def cxS (CX : CXT) (P : Program) (w : World) (K : PySem.W.Frag) (mg : Str → Option Value) (base : Heap) (N : List Str) (qual : Str) (scope : Scope) (f : Addr) (cd : Value) (cc : Addr) (A : Around) (outer : List Env) (s : Shared) (H : Hp) (E : XK) : Cx where
  prog := P
  w := w
  K := K
  mg := mg
  base := base
  A := A.deeper (PySem.W.ksEnv qual scope s.heap.objs.size f cd cc)
  N := N
  s_0 := s
  H_0 := H
  env := PySem.W.ksEnv qual scope s.heap.objs.size f cd cc
  outer := outer
  stack := PySem.W.ksEnv qual scope s.heap.objs.size f cd cc :: outer
  ex := []
  calm := true
  fn := fun _ => false
  pn := []
  xe := fun e s' => wpAny (model P w) (A.deeper (PySem.W.ksEnv qual scope s.heap.objs.size f cd cc)) (leaving (PySem.W.ksEnv qual scope s.heap.objs.size f cd cc) e) (fun _ s'' => CX outer H s E e s'') (fun e' s'' => CX outer H s E e' s'') s'
/-- what the scope of such a method says -/
structure InitScope (r : Str) (sc : Scope) : Prop where
  kind : sc.kind = .function
  co : sc.isCoroutine = false
  gen : sc.isGenerator = false
  cell : ∀ x ∈ sc.names, x.2 ≠ .cell
  free : ∀ x ∈ sc.names, x.2 = .free → x.1 = ("__class__" : Str)
  l0 : sc.names.lookup ("self" : Str) = some .local
  l1 : sc.names.lookup r = some .local
  ks : sc.names.lookup ("super" : Str) = some .globalImplicit
  kc : sc.names.lookup ("__class__" : Str) = some .free
  ne : r ≠ ("self" : Str)
/-- what the written part says of the class at C (its __init__ at f, code at cda, cell at cc) -/
structure InitC (P : Program) (K : PySem.W.Frag) (C : Addr) (cda cc : Addr) : Prop where
  oex : OexC K C
  sup : PySem.W.ks_superIn K C C "__init__" = some (some (.builtin "ValueError.__init__"))
  opq : PySem.W.nsIn K cStatics "thirdparty.any" = some none
  mro : PySem.W.mroIn K C (.ref C) = some true
  sub : PySem.W.subIn K (.ref C) (.type "ValueError") = some true
  cda : ∃ ccl cdd vs ccs file tf, K.lookup cda = some ⟨ccl, cdd, .fields vs, ccs⟩ ∧ vs[2]? = some (.str file tf) ∧ ((P.main.file : Str) == file) = true
  cc : ∃ cl cld csl, K.lookup cc = some ⟨cl, cld, .cell (some (.ref C)), csl⟩
  top : (P.main.scope.names.lookup ("super" : Str)).isSome = false
section
variable {P : Program} {w : World} {K : PySem.W.Frag} {mg : Str → Option Value} {base : Heap}
theorem inv_startS {CX : CXT} {r qual : Str} {scope : Scope} {f C cda cc : Addr} {A : Around} {outer : List Env} {s : Shared} {h0 : Heap} {tk : Nat} {H : Hp} {E : XK} {u1 u2 : Value} {v1 v2 : V}
    (S : InitScope r scope) (IC : InitC P K C cda cc) (hd : A.handled = none) (e0 : Env0 P w K mg base A outer s H) (r1 : RelV v1 u1) (r2 : RelV v2 u2)
    (hns : h0.Ns s.heap.objs.size (fun x => [(("self" : Str), u1), (r, u2)].reverse.lookup x)) (hk : ∀ b o, s.heap.get? b = some o → h0.get? b = some o) :
    Inv (cxS CX P w K mg base ["self", r] qual scope f (.ref cda) cc A outer s H E) [] [some v1, some v2] H { s with heap := h0, toks := tk } := by
  obtain ⟨cl, cld, csl, hcc⟩ := IC.cc
  have hb : base.get? cc = some ⟨cl, cld, .cell (some (.ref C)), csl⟩ := e0.mod.kin _ _ hcc
  have hcells : ∀ x c, ([("__class__", cc)] : List (Str × Addr)).lookup x = some c → x = ("__class__" : Str) ∧ c = cc := fun x c h => by
    rw [List.lookup_cons] at h
    split at h
    · rename_i e; cases h; exact ⟨by simpa using e, rfl⟩
    · cases h
  have noA : ∀ b : Addr, b ∉ (cxS CX P w K mg base ["self", r] qual scope f (.ref cda) cc A outer s H E).ex := fun b z => absurd (show b ∈ ([] : List Addr) from z) (by simp)
  refine ⟨⟨e0.mod, S.kind, rfl, rfl, Nat.le_refl _, fun x y c h1 h2 => (hcells x c h1).1.trans (hcells y c h2).1.symm, fun x hx => ?_, fun y c h _ => (by cases h), fun _ => hd, Around.frames_deeper e0.frames, .inr ⟨rfl, rfl⟩, fun b z => absurd z (noA b), e0.bs, e0.bsz, fun b _ _ => noA b, fun b z => absurd z (noA b), e0.funs, e0.frf⟩,
    rfl, e0.bare, Un.kept hk, ⟨_, hns, fun i y v h1 h2 h3 => ?_⟩, fun x c h => ?_, e0.hok.fresh (Nat.le_refl _), fun x c h => ?_, fun p hp => absurd (show p ∈ ([] : List (Addr × Obj)) from hp) (by simp), e0.hok.kept hk, rfl⟩
  · have hx : scope.names.lookup x = some .cell ∨ scope.names.lookup x = some .free := hx
    rcases hx with hx | hx
    · exact absurd rfl (S.cell _ (PySem.mem_of_lookup hx))
    · have e := S.free _ (PySem.mem_of_lookup hx) rfl
      exact ⟨cc, by rw [show x = _ from e]; show List.lookup _ [(_, cc)] = some cc; simp [List.lookup]⟩
  · match i, h1, h2 with
    | 0, h1, h2 =>
      cases h1; cases h2
      refine ⟨u1, r1, .inl ⟨S.l0, ?_⟩⟩
      show List.lookup _ [(r, u2), (_, u1)] = some u1
      have : (("self" : Str) == r) = false := by simpa using S.ne.symm
      simp [List.lookup, this]
    | 1, h1, h2 =>
      cases h1; cases h2
      refine ⟨u2, r2, .inl ⟨S.l1, ?_⟩⟩
      show List.lookup _ [(r, u2), (_, u1)] = some u2
      simp [List.lookup]
    | n + 2, h1, h2 => exact absurd h1 (by show ¬ ([] : List Str)[n]? = some y; simp)
  · obtain ⟨_, rfl⟩ := hcells x c h
    exact ⟨_, _, hk _ _ (e0.bs _ _ hb).1, rfl⟩
  · obtain ⟨_, rfl⟩ := hcells x c h
    exact (e0.bs _ _ hb).2
/-! ### super().__init__(e) -/
theorem sup_ok {CX : CXT} {r qual : Str} {scope : Scope} {f C cda cc a : Addr} {A : Around} {outer : List Env} {s0 : Shared} {H0 H : Hp} {E : XK} {s : Shared} {σ : L2.St}
    {oc : Value} {od : Option Addr} {osl : Array (Option Value)} {params : Arguments} {body : List Stmt} {dV kV doc pm ct : Value} {an : Option Addr} {name : Str} {ar : Arg} {p0 p1 p2 p3 : Pos} {e : Expr} {te : TE} {Q : Value → Shared → Prop} {b2 : List Stmt} {pl : Sem Bool}
    (S : InitScope r scope) (IC : InitC P K C cda cc) (hm : mg "super" = none) (lk : K.lookup f = some ⟨oc, od, .func (PySem.W.ksFn name qual params body scope dV kV doc pm an (.ref cda) ct cc), osl⟩)
    (hp : (params.posonlyargs ++ params.args).head? = some ar) (har : ar.arg = ("self" : Str))
    (he : PE (cxS CX P w K mg base ["self", r] qual scope f (.ref cda) cc A outer s0 H0 E) e te)
    (I : Inv (cxS CX P w K mg base ["self", r] qual scope f (.ref cda) cc A outer s0 H0 E) [] σ H s) (hσ : σ[0]? = some (some (.ref a))) (hH : H a = some (exo a C none))
    (hte : ∀ (H : Hp) (Q : VK), (∀ x, Q x H) → te σ H Q)
    (q : ∀ s', Inv (cxS CX P w K mg base ["self", r] qual scope f (.ref cda) cc A outer s0 H0 E) [] σ H s' → Q .none s')
    (hst : starEach [e] (PySem.W.ksEnv qual scope s0.heap.objs.size f (.ref cda) cc) = (false, eval e (PySem.W.ksEnv qual scope s0.heap.objs.size f (.ref cda) cc)) :: starEach [] (PySem.W.ksEnv qual scope s0.heap.objs.size f (.ref cda) cc) := by rfl)
    (hev : eval (.Call (.Attribute (.Call (.Name "super" p0) [] [] p1) "__init__" p2) [e] [] p3) (PySem.W.ksEnv qual scope s0.heap.objs.size f (.ref cda) cc) = (do
      let ov ← attributeBase (.Call (.Name "super" p0) [] [] p1) "__init__" (PySem.W.ksEnv qual scope s0.heap.objs.size f (.ref cda) cc) (eval (.Call (.Name "super" p0) [] [] p1) (PySem.W.ksEnv qual scope s0.heap.objs.size f (.ref cda) cc))
      standAt p2.atName
      let (f', first) ← holding [ov] (getMethod ov "__init__" pl)
      callWith p3 f' first (backTo p3 (starEach [e] (PySem.W.ksEnv qual scope s0.heap.objs.size f (.ref cda) cc))) []) := by rfl) :
    _root_.PySem.wpAt (model P w) (A.deeper (PySem.W.ksEnv qual scope s0.heap.objs.size f (.ref cda) cc)) (.func b2 (PySem.W.ksEnv qual scope s0.heap.objs.size f (.ref cda) cc))
      (eval (.Call (.Attribute (.Call (.Name "super" p0) [] [] p1) "__init__" p2) [e] [] p3) (PySem.W.ksEnv qual scope s0.heap.objs.size f (.ref cda) cc)) Q
      (cxS CX P w K mg base ["self", r] qual scope f (.ref cda) cc A outer s0 H0 E).xe s := by
  obtain ⟨ccl, cdd, vs, ccs, file, tf, hcda, hvs, hfile⟩ := IC.cda
  obtain ⟨cl, cld, csl, hcc⟩ := IC.cc
  have KX : K.In s.heap := I.kIn
  have T := IC.oex
  obtain ⟨nm, qn, N, bs, bm, sn, sub, ab, col, dd, k0, k1, k2, k3, k5, hC, hbm⟩ := T.cls
  obtain ⟨t1, ho⟩ := exo_at I.hok hH
  refine ks_wpAt_MethodCall ?_ hev
  refine ks_wpAt_super_base (env := PySem.W.ksEnv qual scope s0.heap.objs.size f (.ref cda) cc) S.ks S.kc (by decide) rfl (KX _ _ lk) rfl hp rfl (KX _ _ hcda) rfl hvs hfile IC.top ?_
  obtain ⟨mb, hb1, hb2⟩ := I.mod.blt
  refine PySem.W.ks_loadName_global S.kind S.ks (Calls.loadGlobal_builtin (env := PySem.W.ksEnv qual scope s0.heap.objs.size f (.ref cda) cc) (I.mod.glob.keeps I.bk) hm (hb1.keeps I.bk) ((hb2 _ (by decide)).trans (by boot_by_name)) ⟨rfl, ?_⟩)
  refine wpAny_loadName_free S.kind S.kc rfl ⟨_, KX _ _ hcc, rfl⟩ ?_
  obtain ⟨m, hn, hl⟩ := I.loc
  obtain ⟨u, ru, hu⟩ := hl 0 "self" (.ref a) rfl hσ (.inl S.l0)
  have hu : m "self" = some (.ref a) := by
    obtain rfl : u = Value.ref a := ru
    rcases hu with ⟨_, hu⟩ | ⟨hk, _⟩
    · exact hu
    · have hk : scope.names.lookup ("self" : Str) = some .cell ∨ scope.names.lookup ("self" : Str) = some .free := hk
      rw [S.l0] at hk
      rcases hk with hk | hk <;> cases hk
  rw [har]
  refine wpAny_loadName_local S.kind S.l0 hn hu ?_
  refine ks_wpAny_isType_cls (KX _ _ hC) rfl ⟨rfl, ?_⟩
  obtain ⟨h, g, d, t, os⟩ := s
  refine ks_wpAny_call_super (KX _ _ hC) rfl ho rfl (fun c z => by cases z) (PySem.W.looks_mroIn KX IC.mro) fun h1 hso k1 => ?_
  have I1 := I.kept (t' := t) k1
  have KX1 : K.In h1 := KX.keeps k1
  have hxC : a ≠ C := by
    rintro rfl
    have z := (KX _ _ hC).symm.trans ho
    cases z
  have hI : PySem.W.Looks (model P w) h1 (isInstance (.ref a) (.type "ValueError")) true :=
    (PySem.W.InstAt.type (M := model P w) (od := none) (⟨k1 _ _ ho, rfl, rfl, trivial⟩ : PySem.W.InstAt h1 a _ C none)).andThen (PySem.W.looks_subIn KX1 IC.sub)
  have hsup : ∃ cd, PySem.W.clsIn K C = some cd ∧ PySem.W.alongIn K "__init__" ((cd.mro.dropWhile (· != .ref C)).drop 1) = some (some (.builtin "ValueError.__init__")) := by
    have z := IC.sup
    unfold PySem.W.ks_superIn at z
    exact Option.bind_eq_some_iff.mp z
  obtain ⟨cd, hcd, hal⟩ := hsup
  refine PySem.W.kxs_getMethod PySem.W.kxs_ValueError hso (PySem.W.looks_opaque KX1 IC.opq) (l₀ := cd.mro) ((PySem.W.looks_clsIn KX1 hcd).andThen .now) rfl KX1 hal hI hxC (by decide) ?_
  have k2 : ∀ b o, h1.get? b = some o → (h1.push (PySem.W.kxs_mw "ValueError.__init__" a)).get? b = some o := fun b o e => Heap.get?_push_of_some _ e
  have I2 := I1.kept (t' := t + 1) k2
  have hu : (h1.push (PySem.W.kxs_mw "ValueError.__init__" a)).get? h1.objs.size = some (PySem.W.kxs_mw "ValueError.__init__" a) := Heap.get?_push_at rfl rfl
  have hnu : H h1.objs.size = none := I1.hok.fresh (Nat.le_refl _)
  have I3 := I2.pins_of (pins' := [(h1.objs.size, PySem.W.kxs_mw "ValueError.__init__" a)]) fun p hp => by
    obtain rfl := List.mem_singleton.mp hp
    refine ⟨hu, hnu, fun z => ?_, fun z => ?_, fun v z => by cases z⟩
    · have y := I1.lt
      have z : h1.objs.size = (cxS CX P w K mg base ["self", r] qual scope f (.ref cda) cc A outer s0 H0 E).env.locals := z
      rw [← z] at y
      exact absurd y (Nat.lt_irrefl _)
    · have y := (I.ok.funs.mem z).2
      obtain ⟨o', e', _⟩ := y
      have y2 := Nat.lt_of_lt_of_le (Heap.lt_size e') I1.sz
      exact absurd y2 (Nat.lt_irrefl _)
  rw [hst]
  refine PySem.W.kxs_callWith (i := "ValueError.__init__") (x := a) (by rfl) (Calls.evalArgs_plain ?_)
  have ha := pa_cons (hs := hst) he pa_nil
  have hrun : wpAny (model P w) (A.deeper (PySem.W.ksEnv qual scope s0.heap.objs.size f (.ref cda) cc)) (spliced (backTo p3 (starEach [e] (PySem.W.ksEnv qual scope s0.heap.objs.size f (.ref cda) cc)))) _ _ _ := ha.run p3 _ _ σ H (fun vs H1 => H1 = H ∧ vs.length = 1) I3 (hte _ _ fun x => ⟨rfl, rfl⟩)
  rw [hst] at hrun
  refine thn hrun fun us s4 ⟨vs', H4, I4, rv, e4, hl4⟩ => ?_
  subst e4
  obtain ⟨hu4, _⟩ := I4.pin _ (List.mem_append_right _ (List.mem_singleton.mpr rfl))
  refine ⟨hu4, ?_⟩
  obtain ⟨t4, ho4⟩ := exo_at I4.hok hH
  have hC4 := I4.kIn _ _ hC
  have hz : us.length ≤ sizeLine := by
    rw [← Paired.length rv, hl4, sizeLine_eq]
    decide
  obtain ⟨hp4, g4, d4, tk4, os4⟩ := s4
  refine wpAny_call (codeAny_of_tree ?_)
  show wpAny _ _ (callAny (.ref h1.objs.size) ⟨us, []⟩) _ _ _
  simp only [callAny]
  refine wpAny_bind (wpAny_load hu4 ?_)
  simp only [PySem.W.kxs_mw, show (Value.type "method-wrapper" == Value.type "method" || Value.type "method-wrapper" == Value.type "builtin_function_or_method" || Value.type "method-wrapper" == Value.type "method-wrapper") = true by decide, if_true]
  refine PySem.W.KFB.if_so (by decide) ?_
  refine wpAny_bind (PySem.W.check_bound_init F.excBase_ValueError.toExcCallFacts hC4 ho4 rfl ?_)
  refine wpAny_bind (wpAny_pure (wpAny_pure ?_))
  refine ⟨plainId_quiet F.excBase_ValueError.init.plain _, codeAny_builtin F.excBase_ValueError.initEntry ?_⟩
  refine PySem.W.exc_init_tree (cls := .ref C) (t0 := t4) (dv := none) (c2 := .none) (c3 := .none) (b4 := .bool false) ho4 hz fun h' k hx _ => ?_
  have J := I4.write (t' := tk4) (x := a) (e := a) (o := exo a C none) (by rw [hH]; exact True.intro) (.inl rfl) k ⟨_, hx⟩ (exo_ok hx)
  have eu : upd H4 a (exo a C none) = H4 := by
    funext b
    by_cases hb : b = a
    · rw [hb, upd_same, hH]
    · rw [upd_ne hb]
  rw [eu] at J
  exact q _ ⟨J.ok, J.os, J.bare, J.base, J.loc, J.cell, J.free, J.freeC, fun p hp => absurd (show p ∈ ([] : List (Addr × Obj)) from hp) (by simp), J.hok, J.len⟩
/-- a value that can be told in the message -/
def TellV (v : V) : Prop := (∃ y : Str, v = .str y ∧ y.length ≤ 1000000) ∨ ∃ i : Int, v = .int i ∧ i.natAbs.log2 < 1920
def spInit (K : PySem.W.Frag) (C : Addr) (fld : Str) : Sp := fun vs H Q _ => ∃ (a : Addr) (v : V), vs = [.ref a, v] ∧ H a = some (exo a C none) ∧ TellV v ∧ ∀ dx, H dx = none → dx ≠ a → Q .non (upd (upd H dx (exd dx [(fld, v)])) a (exo a C (some dx)))
theorem fn_exinit {r qual : Str} {scope : Scope} {f C cda cc : Addr} {oc : Value} {od : Option Addr} {osl : Array (Option Value)} {params : Arguments} {dV kV doc pm ct : Value} {an : Option Addr} {name fld z : Str} {ar : Arg}
    {p0 p1 p2 p3 p4 p5 p6 p7 p8 q1 q2 q3 q4 : Pos} {kd k : Nat}
    (S : InitScope r scope) (IC : InitC P K C cda cc) (hno : PySem.W.findIn K (.ref C) fld = some none) (hm : mg "super" = none) (hcd : PySem.W.codeIn K (.ref cda) qual = true) (hz : z.length ≤ 1000)
    (lk : K.lookup f = some ⟨oc, od, .func (PySem.W.ksFn name qual params [.Expr (.Call (.Attribute (.Call (.Name "super" p0) [] [] p1) "__init__" p2) [.JoinedStr [.Constant (.str z) kd p4, .FormattedValue (.Name r p5) (-1) none p6] p7] [] p3) p8, .Assign [.Attribute (.Name "self" q1) fld q2] (.Name r q3) q4] scope dV kV doc pm an (.ref cda) ct cc), osl⟩)
    (hp : (params.posonlyargs ++ params.args).head? = some ar) (har : ar.arg = ("self" : Str)) (hrd : (r == ("__debug__" : Str)) = false) (hrc : (r == ("__classdict__" : Str)) = false)
    {pl : Addr → Sem Bool} (hev : ∀ L : Addr, eval (.Call (.Attribute (.Call (.Name "super" p0) [] [] p1) "__init__" p2) [.JoinedStr [.Constant (.str z) kd p4, .FormattedValue (.Name r p5) (-1) none p6] p7] [] p3) (PySem.W.ksEnv qual scope L f (.ref cda) cc) = (do
      let ov ← attributeBase (.Call (.Name "super" p0) [] [] p1) "__init__" (PySem.W.ksEnv qual scope L f (.ref cda) cc) (eval (.Call (.Name "super" p0) [] [] p1) (PySem.W.ksEnv qual scope L f (.ref cda) cc))
      standAt p2.atName
      let (f', first) ← holding [ov] (getMethod ov "__init__" (pl L))
      callWith p3 f' first (backTo p3 (starEach [.JoinedStr [.Constant (.str z) kd p4, .FormattedValue (.Name r p5) (-1) none p6] p7] (PySem.W.ksEnv qual scope L f (.ref cda) cc))) [])) :
    FnOk P w K mg base (L2.CX P w) (k + 1) f (PySem.W.ksFn name qual params [.Expr (.Call (.Attribute (.Call (.Name "super" p0) [] [] p1) "__init__" p2) [.JoinedStr [.Constant (.str z) kd p4, .FormattedValue (.Name r p5) (-1) none p6] p7] [] p3) p8, .Assign [.Attribute (.Name "self" q1) fld q2] (.Name r q3) q4] scope dV kV doc pm an (.ref cda) ct cc) ["self", r] (spInit K C fld) := by
  refine ⟨fun vs H Q E ⟨a, v, e, _⟩ => by subst e; rfl, fun A outer s H args us vs Q E hr e0 hb rv sp => ?_⟩
  obtain ⟨a, v, rfl, hH, gv, post⟩ := sp
  cases rv with
  | @cons _ u1 _ ur r1 rr =>
  cases rr with
  | @cons _ u2 _ ur2 r2 rr2 =>
  cases rr2
  have KX : K.In s.heap := e0.mod.kin.keeps fun b o e => (e0.bs b o e).1
  have lim : s.heap.NoLimit := e0.mod.nolimit.keeps fun b o e => (e0.bs b o e).1
  refine ks_codeAny_call_defAt hr.depth (KX _ _ lk) rfl lim (PySem.W.codeRec_of KX hcd) rfl hb S.cell (fun x hx => ?_) (fun h0 hns hk => ?_) S.co S.gen S.kind
  · rcases List.mem_cons.mp hx with rfl | hx
    · exact S.l0
    · rcases List.mem_cons.mp hx with rfl | hx
      · exact S.l1
      · cases hx
  have I0 := inv_startS (P := P) (w := w) (K := K) (mg := mg) (base := base) (CX := L2.CX P w) (qual := qual) (f := f) (E := E) (tk := s.toks + ([(("self" : Str), u1), (r, u2)] : List (Str × Value)).length) S IC hr.hd e0 r1 r2 hns hk
  have hσ : ([some (.ref a), some v] : L2.St)[0]? = some (some (.ref a)) := rfl
  let X := cxS (L2.CX P w) P w K mg base ["self", r] qual scope f (.ref cda) cc A outer s H E
  have pj : PJ X [.Constant (.str z) kd p4, .FormattedValue (.Name r p5) (-1) none p6] [tC (.str z), tFmt (tVar 1)] := .cons pe_str (.cons (pe_fmt (pe_var (i := 1) rfl (.inl S.l1) hrd hrc)) .nil)
  have he : PE X (.JoinedStr [.Constant (.str z) kd p4, .FormattedValue (.Name r p5) (-1) none p6] p7) (fun σ H Q => tJs [tC (.str z), tFmt (tVar 1)] Str.empty σ H fun out H1 => Q (.str out) H1) := pe_joined pj
  have zl : ∀ y : Str, y.length ≤ 1000000 → ((Str.empty ++ z) ++ y).length ≤ sizeLine := fun y hy => by
    have e1 : ((Str.empty ++ z) ++ y).length = Str.empty.length + z.length + y.length := by rw [Str.length_append, Str.length_append]
    rw [e1, sizeLine_eq]
    have : Str.empty.length = 0 := rfl
    omega
  have hte : ∀ (H : Hp) (Q : VK), (∀ x, Q x H) → (fun σ H Q => tJs [tC (.str z), tFmt (tVar 1)] Str.empty σ H fun out H1 => Q (.str out) H1 : TE) [some (.ref a), some v] H Q := fun H Q hQ => by
    refine ⟨z, rfl, ?_, ?_⟩
    · have e1 : (Str.empty ++ z).length = Str.empty.length + z.length := Str.length_append _ _
      rw [e1, sizeLine_eq]
      have : Str.empty.length = 0 := rfl
      omega
    · refine ⟨v, rfl, ?_⟩
      rcases gv with ⟨y, rfl, hy⟩ | ⟨i, rfl, hi⟩
      · exact .inl ⟨y, rfl, by rw [sizeLine_eq]; omega, y, rfl, zl y hy, hQ _⟩
      · exact .inr ⟨i, rfl, hi, _, rfl, zl _ (Nat.le_trans (int_text_len_1921 hi) (by decide)), hQ _⟩
  refine ks_wpAt_execs_cons (ks_wpAt_Expr_any (sup_ok (r := r) (te := fun σ H Q => tJs [tC (.str z), tFmt (tVar 1)] Str.empty σ H fun out H1 => Q (.str out) H1) S IC hm lk hp har he I0 hσ hH hte (fun s1 I1 => ?_) rfl (hev _)) (by show interactive (PySem.W.ksEnv qual scope s.heap.objs.size f (.ref cda) cc) = false; simp [interactive, S.kind]))
  refine wpAt_of_wpAny ?_
  have ps : PSs X [.Assign [.Attribute (.Name "self" q1) fld q2] (.Name r q3) q4] (tOst K fld (tVar 0) (tVar 1)) := pss_one (ps_ost (pe_var (i := 0) rfl (.inl S.l0)) (pe_var (i := 1) rfl (.inl S.l1) hrd hrc))
  refine wpAny_mono (ps.run [] s1 _ H { nx := fun _ H' => Q .non H', rt := Q } I1 ⟨v, rfl, .ref a, rfl, a, C, rfl, IC.oex, hno, .inl ⟨hH, fun dx n ne => post dx n ne⟩⟩) (fun fl s' hs => ?_) fun e s' hs => hs
  have fin : ∀ {σ' : L2.St} {H' : Hp} {v : V} {u : Value}, Inv X [] σ' H' s' → RelV v u → Q v H' → CE outer P w H s Q u s' := fun {σ' H' v u} J rv q => ⟨v, H', J.os, J.bare, J.base, J.hok, rv, q⟩
  cases fl with
  | ret u =>
    obtain ⟨v, σ', H', J, rv, q⟩ := hs
    exact fin J rv q
  | next =>
    obtain ⟨σ', H', J, q⟩ := hs
    exact fin (v := V.non) (u := Value.none) J rfl q
  | brk =>
    obtain ⟨_, _, _, q⟩ := hs
    exact q.elim
  | cont =>
    obtain ⟨_, _, _, q⟩ := hs
    exact q.elim
end
end DN
namespace DN
open PySem PySem.Spec PyProof.Rows L2
/-! ### own exceptions, as the written part has them -/
def oexB (K : PySem.W.Frag) (C : Addr) : Bool := match K.lookup C with
  | some ⟨.type "type", _, .cls cd, sl⟩ => (match cd.mro, sl.toList with
    | .ref C' :: bm, [_, _, _, _, some (.builtin n), _] => C' == C && n == "ValueError.__new__" && !cd.hasDel && cd.hasDict && PySem.HandSPX.refsVE bm
    | _, _ => false)
  | _ => false
theorem oexB_ok {K : PySem.W.Frag} {C : Addr} (q : oexB K C = true) : ∃ nm qn N bs bm sn sub ab col dd k0 k1 k2 k3 k5, K.lookup C = some (excClassObj nm qn C N bs bm true sn sub ab col dd k0 k1 k2 k3 k5 "ValueError.__new__") ∧ PySem.HandSPX.refsVE bm = true := by
  unfold oexB at q
  split at q
  · rename_i dd cd sl ho
    split at q
    · rename_i C' bm k0 k1 k2 k3 n k5 hm hs
      simp only [Bool.and_eq_true, beq_iff_eq, Bool.not_eq_true'] at q
      obtain ⟨⟨⟨⟨rfl, rfl⟩, hdel⟩, hdic⟩, ht⟩ := q
      obtain ⟨nm, bs, mro, ns, qn, hd, sn, sub, ab, col, del⟩ := cd
      dsimp only at hm hdel hdic
      subst hm hdel hdic
      have hsl : sl = #[k0, k1, k2, k3, some (.builtin "ValueError.__new__"), k5] := by
        obtain ⟨l⟩ := sl
        simp only at hs
        rw [hs]
      subst hsl
      exact ⟨nm, qn, ns, bs, bm, sn, sub, ab, col, dd, k0, k1, k2, k3, k5, ho, ht⟩
    · cases q
  · cases q
def cdaB (P : Program) (K : PySem.W.Frag) (cda : Addr) : Bool := match K.lookup cda with
  | some ⟨_, _, .fields vs, _⟩ => (match (vs[2]? : Option Value) with
    | some (.str file _) => (P.main.file : Str) == file
    | _ => false)
  | _ => false
def ccB (K : PySem.W.Frag) (cc C : Addr) : Bool := match K.lookup cc with
  | some ⟨_, _, .cell (some (.ref D)), _⟩ => D == C
  | _ => false
def clsFactsB (K : PySem.W.Frag) (C : Addr) : Bool := decide (PySem.W.findIn K (.ref C) "__class__" = some (some (.builtin "object.__class__"))) && (decide (PySem.W.specialIn K (.builtin "object.__class__") "__get__" = some (some (.builtin "getset_descriptor.__get__"))) && (decide (PySem.W.takesIn K (.builtin "object.__class__") = some true) && decide (PySem.W.mroIn K C (.type "object") = some true)))
def excB (P : Program) (K : PySem.W.Frag) (C fI cda cc : Addr) (fld : Str) : Bool :=
  oexB K C && (xfB K C && (decide (PySem.W.findIn K (.ref C) "__setattr__" = some (some (.builtin "object.__setattr__"))) && (decide (PySem.W.typeIn K (.ref C) = some (.type "type")) && (PySem.W.keepIn K (.ref C) && (decide (PySem.W.ks_superIn K C C "__init__" = some (some (.builtin "ValueError.__init__"))) &&
  (decide (PySem.W.nsIn K cStatics "thirdparty.any" = some none) && (decide (PySem.W.mroIn K C (.ref C) = some true) && (decide (PySem.W.subIn K (.ref C) (.type "ValueError") = some true) && (cdaB P K cda && (ccB K cc C && (!(P.main.scope.names.lookup ("super" : Str)).isSome && (decide (PySem.W.findIn K (.ref C) fld = some none) &&
  (decide (PySem.W.findIn K (.ref C) "__init__" = some (some (.ref fI))) && (decide (PySem.W.typeIn K (.ref fI) = some (.type "function")) && clsFactsB K C))))))))))))))
structure ExcI (P : Program) (K : PySem.W.Frag) (C fI cda cc : Addr) (fld : Str) : Prop where
  ic : InitC P K C cda cc
  xf : XfC K C
  ex : ExcC K C
  no : PySem.W.findIn K (.ref C) fld = some none
  ini : PySem.W.findIn K (.ref C) "__init__" = some (some (.ref fI))
  fn : PySem.W.typeIn K (.ref fI) = some (.type "function")
theorem excB_ok {P : Program} {K : PySem.W.Frag} {C fI cda cc : Addr} {fld : Str} (h : excB P K C fI cda cc fld = true) : ExcI P K C fI cda cc fld := by
  unfold excB clsFactsB at h
  simp only [Bool.and_eq_true, decide_eq_true_eq, Bool.not_eq_true'] at h
  obtain ⟨h1, h2, h3, h4, h5, h6, h7, h8, h9, h10, h11, h12, h13, h14, h15, h16, h17, h18, h19⟩ := h
  have xf := xfB_ok h2
  refine ⟨⟨⟨oexB_ok h1, h3, xf.exC, h4, h5⟩, h6, h7, h8, h9, ?_, ?_, h12⟩, xf, ⟨xf.ga, xf.gg, xf.exC, xf.hdC, h16, h17, h18, h19⟩, h13, h14, h15⟩
  · unfold cdaB at h10
    split at h10
    · rename_i a b vs d e
      split at h10
      · rename_i file tf e2
        exact ⟨_, _, _, _, _, _, e, e2, h10⟩
      · cases h10
    · cases h10
  · unfold ccB at h11
    split at h11
    · rename_i a b D d e
      rw [beq_iff_eq.mp h11] at e
      exact ⟨_, _, _, e⟩
    · cases h11
/-- the class of the name c, at C, with the field fld -/
structure ExcK (P : Program) (w : World) (K : PySem.W.Frag) (mg : Str → Option Value) (base : Heap) (c fld : Str) (C : Addr) : Prop where
  oex : OexC K C
  xf : XfC K C
  ex : ExcC K C
  no : PySem.W.findIn K (.ref C) fld = some none
  cls : ClsIs K c C
  mgc : mg c = some (.ref C)
  ini : ∃ (fI : Addr) (fd : FuncData) (r : Str), PySem.W.findIn K (.ref C) "__init__" = some (some (.ref fI)) ∧ PySem.W.typeIn K (.ref fI) = some (.type "function") ∧ FnOk P w K mg base (L2.CX P w) 1 fI fd ["self", r] (spInit K C fld) ∧ Binds K fd ["self", r] []
abbrev ExcN (P : Program) (w : World) (K : PySem.W.Frag) (mg : Str → Option Value) (base : Heap) (c fld : Str) : Prop := ∃ C, ExcK P w K mg base c fld C
def mkB : D → Bool
  | .str y => decide (y.length ≤ 1000000)
  | .int i => decide (i.natAbs.log2 < 1920)
  | _ => false
@[simp] def fMk (c fld : Str) (f : Fe) : Fm := fun γ => match f γ with
  | some (d, γ1) => if mkB d then some (c, [(fld, d)], γ1) else none
  | none => none
theorem mkB_ok {K : PySem.W.Frag} {H : Hp} {v : V} {d : D} (h : mkB d = true) (r : Dp K H v d) : TellV v := by
  cases r with
  | str x => exact .inl ⟨x, rfl, of_decide_eq_true h⟩
  | int i => exact .inr ⟨i, rfl, of_decide_eq_true h⟩
  | _ => cases h
theorem em_own {X : Cx} {c fld : Str} {e : Expr} {f : Fe} {p pos : Pos} (T : ExcN X.prog X.w X.K X.mg X.base c fld) (hr : Room 2 X.A) (hg : Gl X c) (ha : EV X e f)
    (hdb : (c == ("__debug__" : Str)) = false := by decide) (he : starEach [e] X.env = (false, eval e X.env) :: starEach [] X.env := by rfl) (hpl : (backTo pos (starEach [] X.env)).any (·.1) = false := by rfl) :
    EM X (.Call (.Name c p) [e] [] pos) (fMk c fld f) := by
  obtain ⟨C, T⟩ := T
  obtain ⟨fI, fd, r, iC, tI, F1, hb⟩ := T.ini
  intro pins s σ H Q I h
  refine pmk_oex (CX := L2.CX X.prog X.w) (k := 1) (dvs := []) T.oex iC tI F1 hr hb .nil (fun pins' σ' H' s' e' s'' I' hc => ?_) hg T.mgc (pa_cons (hs := he) ha pa_nil) hdb he hpl pins s σ H Q I ?_
  · obtain ⟨_, _, _, _, _, _, _, _, _, _, _, _, z⟩ := hc
    exact z.elim
  obtain ⟨γ, Hk, c', fs, γ1, ok, ef, post⟩ := h
  unfold fMk at ef
  split at ef
  · rename_i d γ1' efd
    split at ef
    · rename_i hmk
      cases ef
      refine ⟨γ, Hk, d, _, ok, efd, fun v H2 Hk2 g rd => ⟨by simp, fun a na => ⟨a, v, rfl, upd_same, mkB_ok hmk rd, fun dx ndx nea => ⟨rfl, dx, [(fld, v)], upd_same, ?_, ?_, ?_⟩⟩⟩⟩
      · rw [upd_ne nea, upd_same]
      · rw [upd_ne nea] at ndx
        exact ndx
      · rw [upd_ne nea] at ndx
        have e3 : upd (L2.del (upd (upd (upd H2 a (exo a C none)) dx (exd dx [(fld, v)])) a (exo a C (some dx))) a) dx (.xd [(fld, v)]) = upd H2 dx (.xd [(fld, v)]) := by
          funext b
          by_cases hb : b = dx
          · rw [hb, upd_same, upd_same]
          · rw [upd_ne hb, upd_ne hb]
            by_cases hba : b = a
            · rw [hba, L2.del_same]
              exact na.symm
            · rw [L2.del_ne hba, upd_ne hba, upd_ne hb, upd_ne hba]
        rw [e3]
        have gr : Grow H2 Hk2 (upd H2 dx (.xd [(fld, v)])) (upd Hk2 dx (.xd [(fld, v)])) := Grow.new g.ok.sub ndx
        refine post (.ref C) (some dx) _ _ (g.trans (g.ok.go gr)) ⟨C, dx, [(fld, v)], rfl, T.cls, rfl, upd_same, .cons (dp_mono gr.kk rd) .nil⟩
    · cases ef
  · cases ef
end DN
namespace DN
open PySem PySem.Spec PyProof.Rows L2
/-! ### expressions that may raise -/
inductive Res (α : Type) where
  | da (d : α)
  | er (c : Str) (fs : List (Str × D))
abbrev Fr := En → Option (Res D × En)
abbrev Frs := En → Option (Res (List D) × En)
def RaisP (K : PySem.W.Frag) (W : WX) (σ : L2.St) (H Hk : Hp) (γ γ2 : En) (c : Str) (fs : List (Str × D)) : Prop := ∀ cls dd H2 Hk2, Go K σ H Hk γ σ H2 Hk2 γ2 → XcIs K Hk2 cls dd c fs → W cls dd σ H2
theorem RaisP.back {K : PySem.W.Frag} {W : WX} {σ : L2.St} {H Hk H1 Hk1 : Hp} {γ γ1 γ2 : En} {c : Str} {fs : List (Str × D)} (h : RaisP K W σ H Hk γ γ2 c fs) (g : Go K σ H Hk γ σ H1 Hk1 γ1) : RaisP K W σ H1 Hk1 γ1 γ2 c fs :=
  fun cls dd H2 Hk2 g2 => h cls dd H2 Hk2 (g.trans g2)
def ResP (K : PySem.W.Frag) (W : WX) (σ : L2.St) (H Hk : Hp) (γ γ2 : En) (Q : VK) : Res D → Prop
  | .da d => ∀ v H2 Hk2, Go K σ H Hk γ σ H2 Hk2 γ2 → Dp K Hk2 v d → Q v H2
  | .er c fs => RaisP K W σ H Hk γ γ2 c fs
def ResPs (K : PySem.W.Frag) (W : WX) (σ : L2.St) (H Hk : Hp) (γ γ2 : En) (Q : List V → Hp → Prop) : Res (List D) → Prop
  | .da ds => ∀ vs H2 Hk2, Go K σ H Hk γ σ H2 Hk2 γ2 → DpAll K Hk2 vs ds → Q vs H2
  | .er c fs => RaisP K W σ H Hk γ γ2 c fs
def tR (K : PySem.W.Frag) (W : WX) (fr : Fr) : TE := fun σ H Q => ∃ γ Hk r γ2, Ok K σ H Hk γ ∧ fr γ = some (r, γ2) ∧ ResP K W σ H Hk γ γ2 Q r
def tRs (K : PySem.W.Frag) (W : WX) (fr : Frs) : TA := fun σ H Q => ∃ γ Hk r γ2, Ok K σ H Hk γ ∧ fr γ = some (r, γ2) ∧ ResPs K W σ H Hk γ γ2 Q r
def ER (X : Cx) (W : WX) (e : Expr) (fr : Fr) : Prop := PE X e (tR X.K W fr)
def ERs (X : Cx) (W : WX) (es : List Expr) (fr : Frs) : Prop := PA X es (tRs X.K W fr)
@[simp] def rEv (f : Fe) : Fr := fun γ => match f γ with
  | some (d, γ1) => some (.da d, γ1)
  | none => none
@[simp] def rsNil : Frs := fun γ => some (.da [], γ)
@[simp] def rsCons (f : Fr) (fs : Frs) : Frs := fun γ => match f γ with
  | some (.da d, γ1) => (match fs γ1 with
    | some (.da ds, γ2) => some (.da (d :: ds), γ2)
    | some (.er c x, γ2) => some (.er c x, γ2)
    | none => none)
  | some (.er c x, γ1) => some (.er c x, γ1)
  | none => none
@[simp] def rsEv (f : Fa) : Frs := fun γ => match f γ with
  | some (ds, γ1) => some (.da ds, γ1)
  | none => none
/-- on with the values -/
@[simp] def rOn (fs : Frs) (k : List D → En → Option (Res D × En)) : Fr := fun γ => match fs γ with
  | some (.da ds, γ1) => k ds γ1
  | some (.er c x, γ1) => some (.er c x, γ1)
  | none => none
@[simp] def kCallX (n : Nat) (F : FunX) : List D → En → Option (Res D × En) := fun ds γ => if ds.length = n then (match F none ds with
  | some (.da d, none) => some (.da d, γ)
  | some (.er c fs, none) => some (.er c fs, γ)
  | _ => none) else none
@[simp] def kCall (n : Nat) (F : Fun') : List D → En → Option (Res D × En) := fun ds γ => if ds.length = n then (match F ds with
  | some (d, _) => some (.da d, γ)
  | none => none) else none
@[simp] def kTup : List D → En → Option (Res D × En) := fun ds γ => if okN ds.length then some (.da (.tuple ds), γ) else none
@[simp] def r1 (op : D → Option D) (f : Fr) : Fr := fun γ => match f γ with
  | some (.da x, γ1) => (match op x with
    | some z => some (.da z, γ1)
    | none => none)
  | some (.er c x, γ1) => some (.er c x, γ1)
  | none => none
@[simp] def r2 (op : D → D → Option D) (f g : Fr) : Fr := fun γ => match f γ with
  | some (.da x, γ1) => (match g γ1 with
    | some (.da y, γ2) => (match op x y with
      | some z => some (.da z, γ2)
      | none => none)
    | some (.er c x, γ2) => some (.er c x, γ2)
    | none => none)
  | some (.er c x, γ1) => some (.er c x, γ1)
  | none => none
section
variable {W : WX} {X : Cx} {x : Str} {k n : Nat} {ps : List Str} {F : FunX} {G : Fun'} {e a b : Expr} {es : List Expr} {fe : Fe} {fa : Fa} {f g : Fr} {fs : Frs} {p pos : Pos} {r : R2} {fop : D → D → Option D}
theorem er_ev (h : EV X e fe) : ER X W e (rEv fe) := PE.imp h fun σ H Q ⟨γ, Hk, r, γ2, o, ee, q⟩ => by
  unfold rEv at ee
  split at ee <;> cases ee
  rename_i d ef
  exact ⟨γ, Hk, d, γ2, o, ef, q⟩
theorem ers_nil : ERs X W [] rsNil := PA.imp pa_nil fun σ H Q ⟨γ, Hk, r, γ2, o, ee, q⟩ => by
  cases ee
  exact q [] H Hk (Go.refl o) .nil
theorem ers_ev (h : EA X es fa) : ERs X W es (rsEv fa) := PA.imp h fun σ H Q ⟨γ, Hk, r, γ2, o, ee, q⟩ => by
  unfold rsEv at ee
  split at ee <;> cases ee
  rename_i ds ef
  exact ⟨γ, Hk, ds, γ2, o, ef, q⟩
theorem tRaise {K : PySem.W.Frag} {σ : L2.St} {H Hk : Hp} {γ γ2 : En} {c : Str} {x : List (Str × D)} {Q : VK} (o : Ok K σ H Hk γ) (ef : f γ = some (.er c x, γ2)) (h : RaisP K W σ H Hk γ γ2 c x) : tR K W f σ H Q := ⟨γ, Hk, _, γ2, o, ef, h⟩
theorem ers_cons (h : ER X W e f) (hr : ERs X W es fs) (hs : starEach (e :: es) X.env = (false, eval e X.env) :: starEach es X.env := by rfl) : ERs X W (e :: es) (rsCons f fs) := PA.imp (pa_cons h hr hs) fun σ H Q ⟨γ, Hk, r, γ2, o, ee, q⟩ => by
  unfold rsCons at ee
  split at ee
  · rename_i d γ1 ef
    split at ee
    · rename_i ds γ2' efa
      cases ee
      exact ⟨γ, Hk, _, γ1, o, ef, fun v H1 Hk1 g1 r1 => ⟨γ1, Hk1, _, γ2, g1.ok, efa, fun vs H2 Hk2 g2 r2 => q _ H2 Hk2 (g1.trans g2) (.cons (dp_mono g2.kk r1) r2)⟩⟩
    · rename_i c x γ2' efa
      cases ee
      exact ⟨γ, Hk, _, γ1, o, ef, fun v H1 Hk1 g1 r1 => ⟨γ1, Hk1, _, γ2, g1.ok, efa, RaisP.back q g1⟩⟩
    · cases ee
  · rename_i c x γ1 ef
    cases ee
    exact tRaise o ef q
  · cases ee
/-- a call of a def that may raise -/
theorem er_callX (tk : Takes X W) (C : CalX X.prog X.w X.K X.mg X.base x k ps F) (hr : Room k X.A) (hG : X.A.guards = some []) (hg : Gl X x) (ha : ERs X W (e :: es) fs) (hn : ps.length = n := by rfl)
    (hdb : (x == ("__debug__" : Str)) = false := by decide) (he : starEach (e :: es) X.env = (false, eval e X.env) :: starEach es X.env := by rfl) (hpl : (backTo pos (starEach es X.env)).any (·.1) = false := by rfl) :
    ER X W (.Call (.Name x p) (e :: es) [] pos) (rOn fs (kCallX n F)) := by
  subst hn
  obtain ⟨f, fd, G, hm, hk, hb⟩ := C
  refine ⟨fun pins s σ H Q I h => ?_⟩
  obtain ⟨γ, Hk, r, γ2, ok, ee, q⟩ := h
  refine wpAny_Call_Name_kw (ld_glob I hg hm ?_ hdb)
  unfold rOn at ee
  split at ee
  · rename_i ds γ1 ea
    unfold kCallX at ee
    split at ee
    · rename_i hl
      refine PySem.W.callWith_K (h₀ := X.base) I.ok.mod.kin hk (thn (ha.run pos pins s σ H (fun vs H1 => spX X.K ps.length F vs H1 Q (WE W σ)) I ⟨γ, Hk, _, γ1, ok, ea, fun vs H1 Hk1 g1 r1 => ?_⟩) fun us s1 ⟨vs, H1, I1, rv, q1⟩ => ⟨I1.kIn, runXc G hr hG hb (passAt tk σ) I1 rv q1⟩) he hpl
      split at ee
      · rename_i d eF
        cases ee
        exact ⟨by rw [dps_len r1]; exact hl, Hk1, none, ds, _, none, [], g1.ok.sub, ⟨r1, rfl⟩, eF, fun H2 Hk2 fq af v r2 => q v H2 Hk2 (go_call g1 af) r2⟩
      · rename_i c x eF
        cases ee
        exact ⟨by rw [dps_len r1]; exact hl, Hk1, none, ds, _, none, [], g1.ok.sub, ⟨r1, rfl⟩, eF, fun H2 Hk2 fq af cls dd xc => q cls dd H2 Hk2 (go_call g1 af) xc⟩
      · cases ee
    · cases ee
  · rename_i c x γ1 ea
    cases ee
    exact PySem.W.callWith_K (h₀ := X.base) I.ok.mod.kin hk (thn (ha.run pos pins s σ H (fun vs H1 => spX X.K ps.length F vs H1 Q (WE W σ)) I ⟨γ, Hk, _, γ2, ok, ea, q⟩) fun us s1 ⟨vs, H1, I1, rv, q1⟩ => ⟨I1.kIn, runXc G hr hG hb (passAt tk σ) I1 rv q1⟩) he hpl
  · cases ee
/-- a call of a plain def, an argument of which may raise -/
theorem er_call (C : Cal X.prog X.w X.K X.mg X.base x k ps false G) (hr : Room k X.A) (hG : X.A.guards = some []) (hg : Gl X x) (ha : ERs X W (e :: es) fs) (hn : ps.length = n := by rfl)
    (hdb : (x == ("__debug__" : Str)) = false := by decide) (he : starEach (e :: es) X.env = (false, eval e X.env) :: starEach es X.env := by rfl) (hpl : (backTo pos (starEach es X.env)).any (·.1) = false := by rfl) :
    ER X W (.Call (.Name x p) (e :: es) [] pos) (rOn fs (kCall n G)) := by
  subst hn
  obtain ⟨f, fd, Gf, hm, hk, hb⟩ := C
  refine ⟨fun pins s σ H Q I h => ?_⟩
  obtain ⟨γ, Hk, r, γ2, ok, ee, q⟩ := h
  refine wpAny_Call_Name_kw (ld_glob I hg hm ?_ hdb)
  unfold rOn at ee
  split at ee
  · rename_i ds γ1 ea
    unfold kCall at ee
    split at ee
    · rename_i hl
      split at ee <;> cases ee
      rename_i d out eF
      refine PySem.W.callWith_K (h₀ := X.base) I.ok.mod.kin hk (thn (ha.run pos pins s σ H (fun vs H1 => spD X.K false ps.length G vs H1 Q) I ⟨γ, Hk, _, _, ok, ea, fun vs H1 Hk1 g1 r1 => ?_⟩) fun us s1 ⟨vs, H1, I1, r, q1⟩ => ⟨I1.kIn, runG Gf hr hG hb I1 r q1⟩) he hpl
      refine ⟨by rw [dps_len r1]; exact hl, Hk1, ds, d, out, g1.ok.sub, r1, eF, fun v H2 Hk2 s2 k2 nw kp r2 _ => ?_⟩
      exact q v H2 Hk2 (g1.trans (g1.ok.go ⟨fun a u h => kp a u h fun z => absurd z Bool.false_ne_true, k2, s2, nw⟩)) r2
    · cases ee
  · rename_i c x γ1 ea
    cases ee
    exact PySem.W.callWith_K (h₀ := X.base) I.ok.mod.kin hk (thn (ha.run pos pins s σ H (fun vs H1 => spD X.K false ps.length G vs H1 Q) I ⟨γ, Hk, _, γ2, ok, ea, q⟩) fun us s1 ⟨vs, H1, I1, r, q1⟩ => ⟨I1.kIn, runG Gf hr hG hb I1 r q1⟩) he hpl
  · cases ee
theorem er_tup {x1} (h : ERs X W es fs) : ER X W (.Tuple es x1 pos) (rOn fs kTup) := PE.imp (pe_tup h) fun σ H Q ⟨γ, Hk, r, γ2, o, ee, q⟩ => by
  unfold rOn at ee
  split at ee
  · rename_i ds γ1 efa
    unfold kTup at ee
    split at ee <;> cases ee
    rename_i c
    refine ⟨γ, Hk, _, γ2, o, efa, fun vs H1 Hk1 g1 r1 => ⟨by rw [dps_len r1]; exact okN_line c, fun p hp => ?_⟩⟩
    have g2 : Grow H1 Hk1 (upd H1 p (.tup vs)) (upd Hk1 p (.tup vs)) := Grow.new g1.ok.sub hp
    exact q _ _ _ (g1.trans (g1.ok.go g2)) (.tup (SqT.of upd_same) (dps_mono g2.kk r1))
  · rename_i c x γ1 efa
    cases ee
    exact ⟨γ, Hk, _, γ2, o, efa, q⟩
  · cases ee
theorem u1 {K : PySem.W.Frag} {r : List V → Hp → VK → Prop} {op : D → Option D} {σ : L2.St} {H : Hp} {Q : VK} (o : Op1 K (fun x => r [x]) op) (h : tR K W (r1 op f) σ H Q) : tCB r (tCons (tR K W f) tNil) σ H Q := by
  obtain ⟨γ, Hk, d, γ2, ok, e, q⟩ := h
  unfold DN.r1 at e
  split at e
  · rename_i x γ1 ef
    split at e <;> cases e
    rename_i z eo
    exact ⟨γ, Hk, _, _, ok, ef, fun v H1 Hk1 g1 r1 => o H1 Hk1 v x z Q g1.ok.sub (.inl r1) eo fun w H3 Hk3 g3 r3 => q w H3 Hk3 (g1.trans (g1.ok.go g3)) r3⟩
  · rename_i c x γ1 ef
    cases e
    exact tRaise ok ef q
  · cases e
theorem er_callT {id : String} {p : Pos} {r : List V → Hp → VK → Prop} {op : D → Option D} (o : Op1 X.K (fun x => r [x]) op) (hc : CallR X (.type id) r) (hm : X.mg x = none) (hg : Gl X x) (hv : bootBuiltins x = some (.type id)) (ha : ER X W a f)
    (hn : x ≠ "__name__" := by decide) (hdb : (x == ("__debug__" : Str)) = false := by decide) (he : starEach [a] X.env = (false, eval a X.env) :: starEach [] X.env := by rfl) (hpl : (backTo pos (starEach [] X.env)).any (·.1) = false := by rfl) :
    ER X W (.Call (.Name x p) [a] [] pos) (DN.r1 op f) := PE.imp (pe_callTy hc hg hm hv (pa_cons ha pa_nil he) hn hdb he hpl) fun _ _ _ h => u1 o h
theorem u2 {K : PySem.W.Frag} {σ : L2.St} {H : Hp} {Q : VK} (o : Op2 K r fop) (h : tR K W (DN.r2 fop f g) σ H Q) : tOp r (tR K W f) (tR K W g) σ H Q := by
  obtain ⟨γ, Hk, d, γ2, ok, e, q⟩ := h
  unfold DN.r2 at e
  split at e
  · rename_i x γ1 ef
    split at e
    · rename_i y γ2' eg
      split at e
      · rename_i z eo
        cases e
        refine ⟨γ, Hk, _, γ1, ok, ef, fun v H1 Hk1 g1 r1 => ⟨γ1, Hk1, _, γ2, g1.ok, eg, fun u H2 Hk2 g2 r2 => ?_⟩⟩
        exact o H2 Hk2 v u x y z Q g2.ok.sub (.inl (dp_mono g2.kk r1)) (.inl r2) eo fun w H3 Hk3 g3 r3 => q w H3 Hk3 ((g1.trans g2).trans (g2.ok.go g3)) r3
      · cases e
    · rename_i c x2 γ2' eg
      cases e
      exact ⟨γ, Hk, _, γ1, ok, ef, fun v H1 Hk1 g1 r1 => tRaise g1.ok eg (RaisP.back q g1)⟩
    · cases e
  · rename_i c x γ1 ef
    cases e
    exact tRaise ok ef q
  · cases e
theorem er2 {op : Operator} (o : OpR X (binaryOp op) r) (s : Op2 X.K r fop) (ha : ER X W a f) (hb : ER X W b g) : ER X W (.BinOp a op b pos) (DN.r2 fop f g) := PE.imp (pe_op o ha hb) fun _ _ _ h => u2 s h
theorem erc2 {op : CmpOp} (o : OpR X (compareOp op) r) (s : Op2 X.K r fop) (hm : behindInMarks op b = false) (ha : ER X W a f) (hb : ER X W b g) : ER X W (.Compare a [op] [b] pos) (DN.r2 fop f g) := PE.imp (pe_cmpR o ha hb hm) fun _ _ _ h => u2 s h
/-! statements -/
@[simp] def sRetE (f : Fr) : Fs := fun γ => match f γ with
  | some (.da d, γ1) => some (.rt d γ1)
  | some (.er c x, γ1) => some (.rs c x γ1)
  | none => none
@[simp] def sDropE (f : Fr) : Fs := fun γ => match f γ with
  | some (.da d, γ1) => some (.nx γ1)
  | some (.er c x, γ1) => some (.rs c x γ1)
  | none => none
@[simp] def sAsgE (f : Fr) (tg : Fg) : Fs := fun γ => match f γ with
  | some (.da d, γ1) => (match tg d γ1 with
    | some γ2 => some (.nx γ2)
    | none => none)
  | some (.er c x, γ1) => some (.rs c x γ1)
  | none => none
theorem es_retE (he : ER X W e f) : ES X W (.Return (some e) pos) (sRetE f) := PS.imp (ps_ret he) fun Z σ H ⟨γ, Hk, o, k, e, q⟩ => by
  unfold sRetE at e
  split at e
  · rename_i d γ1 ef
    cases e
    exact ⟨γ, Hk, _, γ1, k, ef, fun v H1 Hk1 g1 r1 => q v σ H1 Hk1 g1 r1⟩
  · rename_i c x γ1 ef
    cases e
    exact tRaise k ef fun cls dd H2 Hk2 g xc => q σ H2 Hk2 cls dd g xc
  · cases e
theorem es_exprE (he : ER X W e f) (hs : swapsWith e none pos.line X.env = pure false := by rfl) : ES X W (.Expr e pos) (sDropE f) := PS.imp (ps_expr he hs) fun Z σ H ⟨γ, Hk, o, k, e, q⟩ => by
  unfold sDropE at e
  split at e
  · rename_i d γ1 ef
    cases e
    exact ⟨γ, Hk, _, γ1, k, ef, fun v H1 Hk1 g1 r1 => q σ H1 Hk1 g1⟩
  · rename_i c x γ1 ef
    cases e
    exact tRaise k ef fun cls dd H2 Hk2 g xc => q σ H2 Hk2 cls dd g xc
  · cases e
theorem asgE_imp {K : PySem.W.Frag} {tg : Fg} {Z : Ends} {σ : L2.St} {H : Hp} (h : tS K W (sAsgE f tg) Z σ H) : tAsg (tR K W f) (tGt K tg) Z σ H := by
  obtain ⟨γ, Hk, o, k, e, q⟩ := h
  unfold sAsgE at e
  split at e
  · rename_i d γ1 ef
    split at e <;> cases e
    rename_i γ2 et
    exact ⟨γ, Hk, _, γ1, k, ef, fun v H1 Hk1 g1 r1 => ⟨γ1, Hk1, d, γ2, g1.ok, r1, et, fun σ2 g2 => q σ2 H1 Hk1 (g1.trans g2)⟩⟩
  · rename_i c x γ1 ef
    cases e
    exact tRaise k ef fun cls dd H2 Hk2 g xc => q σ H2 Hk2 cls dd g xc
  · cases e
theorem es_asgE {tg : Fg} (he : ER X W e f) (hg : EG X a tg) (hs : swapsWithSole [a] e pos.line X.env = pure false := by rfl) (hw : swappedStores [a] e X.env = pure none := by rfl)
    (h1 : (assignEach [a] X.env).map (·.2) = [assign a X.env] := by rfl) : ES X W (.Assign [a] e pos) (sAsgE f tg) := PS.imp (ps_asg he hg hs hw h1) fun _ _ _ h => asgE_imp h
theorem es_setE (i : Nat) {x : Str} {p' : Pos} (hN : X.N.Nodup) (hi : X.N[i]? = some x) (hx : Loc X.env.scope x) (he : ER X W e f) (hs : swapsWith e (some (.Name x p')) pos.line X.env = pure false := by rfl) (hf : X.fn x = true ∨ X.env.scope.names.lookup x = some .local := by first | exact .inl rfl | exact .inr rfl | assumption) :
    ES X W (.Assign [.Name x p'] e pos) (sAsgE f (gDat i)) := PS.imp (ps_set hN hi hx he hs hf) fun Z σ H h => by
  obtain ⟨γ, Hk, o, k, ee, q⟩ := h
  unfold sAsgE at ee
  split at ee
  · rename_i d γ1 ef
    split at ee <;> cases ee
    rename_i γ2 et
    exact ⟨γ, Hk, _, γ1, k, ef, fun v H1 Hk1 g1 r1 => gDat_imp ⟨γ1, Hk1, d, γ2, g1.ok, r1, et, fun σ2 g2 => q σ2 H1 Hk1 (g1.trans g2)⟩⟩
  · rename_i c x γ1 ef
    cases ee
    exact tRaise k ef fun cls dd H2 Hk2 g xc => q σ H2 Hk2 cls dd g xc
  · cases ee
end
end DN
namespace DN
open PySem PySem.Spec PyProof.Rows L2
/-! ### the suite of an except clause: expressions that know the exception -/
abbrev Gx := Str → List (Str × D) → Fe
def SuOk (K : PySem.W.Frag) (i : Nat) (a : Addr) (cls : Value) (d : Option Addr) (c : Str) (fs : List (Str × D)) (σ : L2.St) (Hk : Hp) : Prop := ∃ C dd vs, cls = .ref C ∧ ClsIs K c C ∧ d = some dd ∧ Hk dd = some (.xd vs) ∧ FldsIs K Hk vs fs ∧ σ[i]? = some (some (.ref a))
theorem SuOk.mono {K : PySem.W.Frag} {i : Nat} {a : Addr} {cls : Value} {d : Option Addr} {c : Str} {fs : List (Str × D)} {σ : L2.St} {Hk Hk2 : Hp} (h : SuOk K i a cls d c fs σ Hk) (s : Same Hk Hk2) : SuOk K i a cls d c fs σ Hk2 := by
  obtain ⟨C, dd, vs, h1, h2, h3, h4, h5, h6⟩ := h
  exact ⟨C, dd, vs, h1, h2, h3, s _ _ h4, h5.mono s, h6⟩
def tX (K : PySem.W.Frag) (i : Nat) (a : Addr) (cls : Value) (d : Option Addr) (g : Gx) : TE := fun σ H Q => ∃ γ Hk c fs r γ2, SuOk K i a cls d c fs σ Hk ∧ Ok K σ H Hk γ ∧ g c fs γ = some (r, γ2) ∧ ∀ v H2 Hk2, Go K σ H Hk γ σ H2 Hk2 γ2 → Dp K Hk2 v r → Q v H2
def tXs (K : PySem.W.Frag) (i : Nat) (a : Addr) (cls : Value) (d : Option Addr) (g : Str → List (Str × D) → Fa) : TA := fun σ H Q => ∃ γ Hk c fs r γ2, SuOk K i a cls d c fs σ Hk ∧ Ok K σ H Hk γ ∧ g c fs γ = some (r, γ2) ∧ ∀ v H2 Hk2, Go K σ H Hk γ σ H2 Hk2 γ2 → DpAll K Hk2 v r → Q v H2
def EX (X : Cx) (i : Nat) (a : Addr) (cls : Value) (d : Option Addr) (e : Expr) (g : Gx) : Prop := PE X e (tX X.K i a cls d g)
def EXs (X : Cx) (i : Nat) (a : Addr) (cls : Value) (d : Option Addr) (es : List Expr) (g : Str → List (Str × D) → Fa) : Prop := PA X es (tXs X.K i a cls d g)
@[simp] def xEv (f : Fe) : Gx := fun _ _ => f
@[simp] def xFld (cs : List Str) (n : Str) : Gx := fun c fs γ => if c ∈ cs then (match fs.lookup n with
  | some d => some (d, γ)
  | none => none) else none
@[simp] def xIsi (ms : List (Str × Bool)) : Gx := fun c _ γ => match ms.lookup c with
  | some b => some (.bool b, γ)
  | none => none
@[simp] def xAnd (f g : Gx) : Gx := fun c fs γ => match f c fs γ with
  | some (.bool true, γ1) => g c fs γ1
  | some (.bool false, γ1) => some (.bool false, γ1)
  | _ => none
@[simp] def x2 (op : D → D → Option D) (f g : Gx) : Gx := fun c fs γ => match f c fs γ with
  | some (x, γ1) => (match g c fs γ1 with
    | some (y, γ2) => (match op x y with
      | some z => some (z, γ2)
      | none => none)
    | none => none)
  | none => none
@[simp] def x1 (op : D → Option D) (f : Gx) : Gx := fun c fs γ => match f c fs γ with
  | some (x, γ1) => (match op x with
    | some z => some (z, γ1)
    | none => none)
  | none => none
@[simp] def xsNil : Str → List (Str × D) → Fa := fun _ _ γ => some ([], γ)
@[simp] def xsCons (f : Gx) (fa : Str → List (Str × D) → Fa) : Str → List (Str × D) → Fa := fun c fs γ => match f c fs γ with
  | some (d, γ1) => (match fa c fs γ1 with
    | some (ds, γ2) => some (d :: ds, γ2)
    | none => none)
  | none => none
@[simp] def xTup (fa : Str → List (Str × D) → Fa) : Gx := fun c fs γ => match fa c fs γ with
  | some (ds, γ2) => if okN ds.length then some (.tuple ds, γ2) else none
  | none => none
@[simp] def xLst (fa : Str → List (Str × D) → Fa) : Gx := fun c fs γ => match fa c fs γ with
  | some (ds, γ2) => if okN ds.length then some (.list ds, γ2) else none
  | none => none
/-- a class has the field's way of being read -/
def FldC (K : PySem.W.Frag) (n c : Str) : Prop := ∃ C, ClsIs K c C ∧ XfC K C ∧ PySem.W.findIn K (.ref C) n = some none
/-- isinstance of the class c -/
def IsiC (K : PySem.W.Frag) (cv : Value) (p : Str × Bool) : Prop := ∃ C, ClsIs K p.1 C ∧ ExcC K C ∧ PySem.W.kitOne K (.ref C) cv = some p.2
theorem ClsIs.fn {K : PySem.W.Frag} {c : Str} {C C' : Addr} (h : ClsIs K c C) (h' : ClsIs K c C') : C = C' := by
  unfold ClsIs at h h'
  rw [h] at h'
  cases h'
  rfl
section
variable {X : Cx} {i : Nat} {a : Addr} {oe : Obj} {cls : Value} {d : Option Addr} {pn : List (Addr × Obj)} {e b b1 : Expr} {rest : List Expr} {f g : Gx} {fa : Str → List (Str × D) → Fa} {fe : Fe} {p p2 pos : Pos} {n nm : Str}
theorem ex_ev (h : EV X e fe) : EX X i a cls d e (xEv fe) := PE.imp h fun σ H Q ⟨γ, Hk, c, fs, r, γ2, su, o, ee, q⟩ => ⟨γ, Hk, r, γ2, o, ee, q⟩
theorem ex_fld {cs : List Str} (T : ∀ c ∈ cs, FldC X.K n c) (hz : Zc cls d oe) (hf : ∃ vs, oe.data = .fields vs) (hN : X.N[i]? = some nm) (hv : Vis X.env.scope nm) (hd : (nm == ("__debug__" : Str)) = false := by decide) (hcd : (nm == ("__classdict__" : Str)) = false := by decide)
    (hb : attributeBase (.Name nm p) n X.env (eval (.Name nm p) X.env) = eval (.Name nm p) X.env := by rfl) : EX (X.suite a ((a, oe) :: pn)) i a cls d (.Attribute (.Name nm p) n pos) (xFld cs n) :=
  PE.imp (pe_xfE (te := tVar i) hz hf (pe_var (X := X.suite a ((a, oe) :: pn)) hN hv hd hcd) hb) fun σ H Q ⟨γ, Hk, c, fs, r, γ2, su, o, ee, q⟩ => by
  unfold xFld at ee
  split at ee
  · rename_i hc
    split at ee <;> cases ee
    rename_i el
    obtain ⟨C, dd, vs, rfl, hC, rfl, hx, hfl, hσ⟩ := su
    obtain ⟨C', hC', xf, hno⟩ := T c hc
    cases hC.fn hC'
    obtain ⟨v, ev, rv⟩ := flds_look hfl el
    exact ⟨C, xf, hno, .ref a, hσ, rfl, rfl, dd, vs, v, rfl, o.sub _ _ hx, ev, q v H Hk (Go.refl o) rv⟩
  · cases ee
theorem ex_one {op} (h : EX X i a cls d e f) : EX X i a cls d (.BoolOp op [e] pos) f := pe_one h
theorem ex_and (h : EX X i a cls d e f) (hr : EX X i a cls d (.BoolOp .And (b :: rest) pos) g) : EX X i a cls d (.BoolOp .And (e :: b :: rest) pos) (xAnd f g) := PE.imp (pe_and h hr) fun σ H Q ⟨γ, Hk, c, fs, r, γ2, su, o, ee, q⟩ => by
  unfold xAnd at ee
  split at ee
  · rename_i γ1 ef
    exact ⟨γ, Hk, c, fs, _, γ1, su, o, ef, fun w H1 Hk1 g1 r1 => by cases r1; exact ⟨true, rfl, iteT ⟨γ1, Hk1, c, fs, r, γ2, su.mono g1.kk, g1.ok, ee, fun z H2 Hk2 g2 r2 => q z H2 Hk2 (g1.trans g2) r2⟩⟩⟩
  · rename_i γ1 ef
    cases ee
    exact ⟨γ, Hk, c, fs, _, _, su, o, ef, fun w H1 Hk1 g1 r1 => by cases r1; exact ⟨false, rfl, iteF (q _ H1 Hk1 g1 (.bl _))⟩⟩
  · cases ee
theorem v2 {K : PySem.W.Frag} {r : R2} {fop : D → D → Option D} {σ : L2.St} {H : Hp} {Q : VK} (o : Op2 K r fop) (h : tX K i a cls d (x2 fop f g) σ H Q) : tOp r (tX K i a cls d f) (tX K i a cls d g) σ H Q := by
  obtain ⟨γ, Hk, c, fs, z, γ2, su, ok, ee, q⟩ := h
  unfold x2 at ee
  split at ee
  · rename_i x γ1 ef
    split at ee
    · rename_i y γ2' eg
      split at ee
      · rename_i z' eo
        cases ee
        refine ⟨γ, Hk, c, fs, x, γ1, su, ok, ef, fun v H1 Hk1 g1 r1 => ⟨γ1, Hk1, c, fs, y, γ2, su.mono g1.kk, g1.ok, eg, fun u H2 Hk2 g2 r2 => ?_⟩⟩
        exact o H2 Hk2 v u x y z Q g2.ok.sub (.inl (dp_mono g2.kk r1)) (.inl r2) eo fun w H3 Hk3 g3 r3 => q w H3 Hk3 ((g1.trans g2).trans (g2.ok.go g3)) r3
      · cases ee
    · cases ee
  · cases ee
theorem ex2 {op : Operator} {r : R2} {fop : D → D → Option D} (o : OpR X (binaryOp op) r) (s : Op2 X.K r fop) (ha : EX X i a cls d e f) (hb : EX X i a cls d b g) : EX X i a cls d (.BinOp e op b pos) (x2 fop f g) := PE.imp (pe_op o ha hb) fun _ _ _ h => v2 s h
theorem exc2 {op : CmpOp} {r : R2} {fop : D → D → Option D} (o : OpR X (compareOp op) r) (s : Op2 X.K r fop) (hm : behindInMarks op b = false) (ha : EX X i a cls d e f) (hb : EX X i a cls d b g) : EX X i a cls d (.Compare e [op] [b] pos) (x2 fop f g) := PE.imp (pe_cmpR o ha hb hm) fun _ _ _ h => v2 s h
theorem v1 {K : PySem.W.Frag} {r : List V → Hp → VK → Prop} {op : D → Option D} {σ : L2.St} {H : Hp} {Q : VK} (o : Op1 K (fun x => r [x]) op) (h : tX K i a cls d (x1 op f) σ H Q) : tCB r (tCons (tX K i a cls d f) tNil) σ H Q := by
  obtain ⟨γ, Hk, c, fs, z, γ2, su, ok, e, q⟩ := h
  unfold x1 at e
  split at e
  · rename_i x γ1 ef
    split at e <;> cases e
    rename_i eo
    exact ⟨γ, Hk, c, fs, x, _, su, ok, ef, fun v H1 Hk1 g1 r1 => o H1 Hk1 v x z Q g1.ok.sub (.inl r1) eo fun w H3 Hk3 g3 r3 => q w H3 Hk3 (g1.trans (g1.ok.go g3)) r3⟩
  · cases e
theorem ex_callT {x : Str} {id : String} {r : List V → Hp → VK → Prop} {op : D → Option D} (o : Op1 X.K (fun x => r [x]) op) (hc : CallR X (.type id) r) (hm : X.mg x = none) (hg : Gl X x) (hv : bootBuiltins x = some (.type id)) (ha : EX X i a cls d e f)
    (hn : x ≠ "__name__" := by decide) (hdb : (x == ("__debug__" : Str)) = false := by decide) (he : starEach [e] X.env = (false, eval e X.env) :: starEach [] X.env := by rfl) (hpl : (backTo pos (starEach [] X.env)).any (·.1) = false := by rfl) :
    EX X i a cls d (.Call (.Name x p) [e] [] pos) (x1 op f) := PE.imp (pe_callTy hc hg hm hv (pa_cons ha pa_nil he) hn hdb he hpl) fun _ _ _ h => v1 o h
theorem exs_nil : EXs X i a cls d [] xsNil := PA.imp pa_nil fun σ H Q ⟨γ, Hk, c, fs, z, γ2, su, o, e, q⟩ => by
  cases e
  exact q [] H Hk (Go.refl o) .nil
theorem exs_cons {es : List Expr} (h : EX X i a cls d e f) (hr : EXs X i a cls d es fa) (hs : starEach (e :: es) X.env = (false, eval e X.env) :: starEach es X.env := by rfl) : EXs X i a cls d (e :: es) (xsCons f fa) := PA.imp (pa_cons h hr hs) fun σ H Q ⟨γ, Hk, c, fs, ds, γ2, su, o, ee, q⟩ => by
  unfold xsCons at ee
  split at ee
  · rename_i d γ1 ef
    split at ee <;> cases ee
    rename_i ds' efa
    exact ⟨γ, Hk, c, fs, d, γ1, su, o, ef, fun v H1 Hk1 g1 r1 => ⟨γ1, Hk1, c, fs, ds', γ2, su.mono g1.kk, g1.ok, efa, fun vs H2 Hk2 g2 r2 => q _ H2 Hk2 (g1.trans g2) (.cons (dp_mono g2.kk r1) r2)⟩⟩
  · cases ee
theorem ex_tup {es : List Expr} {x1} (h : EXs X i a cls d es fa) : EX X i a cls d (.Tuple es x1 pos) (xTup fa) := PE.imp (pe_tup h) fun σ H Q ⟨γ, Hk, c, fs, r, γ2, su, o, ee, q⟩ => by
  unfold xTup at ee
  split at ee
  · rename_i ds γ1 efa
    split at ee <;> cases ee
    rename_i cz
    refine ⟨γ, Hk, c, fs, ds, γ2, su, o, efa, fun vs H1 Hk1 g1 r1 => ⟨by rw [dps_len r1]; exact okN_line cz, fun p hp => ?_⟩⟩
    have g2 : Grow H1 Hk1 (upd H1 p (.tup vs)) (upd Hk1 p (.tup vs)) := Grow.new g1.ok.sub hp
    exact q _ _ _ (g1.trans (g1.ok.go g2)) (.tup (SqT.of upd_same) (dps_mono g2.kk r1))
  · cases ee
theorem ex_lst {es : List Expr} (h : EXs X i a cls d es fa) : EX X i a cls d (.List es pos) (xLst fa) := PE.imp (pe_lst h) fun σ H Q ⟨γ, Hk, c, fs, r, γ2, su, o, ee, q⟩ => by
  unfold xLst at ee
  split at ee
  · rename_i ds γ1 efa
    split at ee <;> cases ee
    rename_i cz
    refine ⟨γ, Hk, c, fs, ds, γ2, su, o, efa, fun vs H1 Hk1 g1 r1 => ⟨by rw [dps_len r1]; exact okN_line cz, fun p hp => ?_⟩⟩
    have g2 : Grow H1 Hk1 (upd H1 p (.lst vs)) (upd Hk1 p (.lst vs)) := Grow.new g1.ok.sub hp
    exact q _ _ _ (g1.trans (g1.ok.go g2)) (.lst (SqL.of upd_same) (dps_mono g2.kk r1))
  · cases ee
/-! isinstance -/
def rIsO (K : PySem.W.Frag) (a : Addr) (cls : Value) : List V → Hp → VK → Prop := fun xs H Q => ∃ (c : V) (cv : Value) (b : Bool) (C dd : Addr) (fs : List (Str × V)), xs = [.ref a, c] ∧ (∀ u, RelV c u → u = cv) ∧ cls = .ref C ∧ ExcC K C ∧ PySem.W.kitOne K (.ref C) cv = some b ∧ H dd = some (.xd fs) ∧ d = some dd ∧ Q (.bl b) H
theorem call_isO (hz : Zc cls d oe) (hf : ∃ vs, oe.data = .fields vs) : CallR (X.suite a ((a, oe) :: pn)) (.builtin "isinstance") (rIsO (d := d) X.K a cls) := by
  intro pins s σ H xs us Q I r h
  obtain ⟨c, cv, b, C, dd, fs, rfl, hcv, rfl, CC, e, hd, rfl, q⟩ := h
  cases r with
  | cons rx rr =>
    cases rr with
    | cons rt rr =>
      cases rr
      cases rx
      have ec := hcv _ rt
      subst ec
      obtain ⟨hget, _⟩ := I.pin (a, oe) (List.mem_append.mpr (.inl List.mem_cons_self))
      obtain ⟨vs, hv⟩ := hf
      have hx : ObjOk X.prog X.w H s.heap dd (.xd fs) := I.hok dd _ hd
      obtain ⟨mA, hns, hr⟩ := hx
      obtain ⟨od, ho, hl⟩ := lookIn_ns hns
      have J : PySem.W.InstAt s.heap a oe C (some od) := ⟨hget, hz.1, by unfold PySem.W.notCls; rw [hv] <;> rfl, by rw [hz.2]; exact ho⟩
      obtain ⟨cd, hcd, _⟩ := PySem.W.any_some CC.hd
      exact PySem.W.kia_one (PySem.W.kitx_exc (by rw [hcd]; rfl) CC.hg CC.hk CC.hs CC.ha CC.hn CC.ht CC.hm) I.kIn J e (fun z => nomatch z) fun tk => ⟨.bl b, H, I.kept (t' := tk) fun _ _ z => z, rfl, q⟩
theorem isi_imp {K : PySem.W.Frag} {cv : Value} {c : V} {ms : List (Str × Bool)} (T : ∀ p ∈ ms, IsiC K cv p) (hcv : ∀ u, RelV c u → u = cv) {σ : L2.St} {H : Hp} {Q : VK} (h : tX K i a cls d (xIsi ms) σ H Q) : tCB (rIsO (d := d) K a cls) (tCons (tVar i) (tCons (tC c) tNil)) σ H Q := by
  obtain ⟨γ, Hk, k, fs, r, γ2, su, o, ee, q⟩ := h
  unfold xIsi at ee
  split at ee <;> cases ee
  rename_i bb el
  obtain ⟨C, dd, vs, rfl, hC, rfl, hx, hfl, hσ⟩ := su
  have hm : (k, bb) ∈ ms := PySem.mem_of_lookup el
  obtain ⟨C', hC', CC, hk⟩ := T _ hm
  cases hC.fn hC'
  exact ⟨.ref a, hσ, c, cv, bb, C, dd, vs, rfl, hcv, rfl, CC, hk, o.sub _ _ hx, rfl, q _ H Hk (Go.refl o) (.bl _)⟩
/-- isinstance(e, X), X an own class -/
theorem ex_isiC {tx : Str} {C2 : Addr} {ms : List (Str × Bool)} (hm : X.mg "isinstance" = none) (hg : Gl X "isinstance") (hm2 : X.mg tx = some (.ref C2)) (hg2 : Gl X tx) (T : ∀ p ∈ ms, IsiC X.K (.ref C2) p) (hz : Zc cls d oe) (hf : ∃ vs, oe.data = .fields vs) (hN : X.N[i]? = some nm) (hv : Vis X.env.scope nm)
    (hd : (nm == ("__debug__" : Str)) = false := by decide) (hcd : (nm == ("__classdict__" : Str)) = false := by decide) (hdb : (tx == ("__debug__" : Str)) = false := by decide)
    (he1 : starEach [.Name tx p2] X.env = (false, eval (.Name tx p2) X.env) :: starEach [] X.env := by rfl)
    (he : starEach [.Name nm p, .Name tx p2] X.env = (false, eval (.Name nm p) X.env) :: starEach [.Name tx p2] X.env := by rfl) (hpl : (backTo pos (starEach [.Name tx p2] X.env)).any (·.1) = false := by rfl) {p0 : Pos} :
    EX (X.suite a ((a, oe) :: pn)) i a cls d (.Call (.Name "isinstance" p0) [.Name nm p, .Name tx p2] [] pos) (xIsi ms) :=
  PE.imp (pe_callB (X := X.suite a ((a, oe) :: pn)) (call_isO hz hf) hg hm PyProof.Rows.boot_isinstance (pa_cons (pe_var (X := X.suite a ((a, oe) :: pn)) hN hv hd hcd) (pa_cons (pe_glob (v := .ref C2) (X := X.suite a ((a, oe) :: pn)) hg2 hm2 rfl hdb) pa_nil he1) he) (he := he) (hpl := hpl)) fun _ _ _ h => isi_imp (c := .ref C2) T (fun u hu => hu) h
/-- isinstance(e, T), T a built-in class -/
theorem ex_isiT {tx : Str} {T2 : String} {ms : List (Str × Bool)} (hm : X.mg "isinstance" = none) (hg : Gl X "isinstance") (hm2 : X.mg tx = none) (hg2 : Gl X tx) (hbt : bootBuiltins tx = some (.type T2)) (T : ∀ p ∈ ms, IsiC X.K (.type T2) p) (hz : Zc cls d oe) (hf : ∃ vs, oe.data = .fields vs) (hN : X.N[i]? = some nm) (hv : Vis X.env.scope nm)
    (hd : (nm == ("__debug__" : Str)) = false := by decide) (hcd : (nm == ("__classdict__" : Str)) = false := by decide) (hn : tx ≠ "__name__" := by decide) (hdb : (tx == ("__debug__" : Str)) = false := by decide)
    (he1 : starEach [.Name tx p2] X.env = (false, eval (.Name tx p2) X.env) :: starEach [] X.env := by rfl)
    (he : starEach [.Name nm p, .Name tx p2] X.env = (false, eval (.Name nm p) X.env) :: starEach [.Name tx p2] X.env := by rfl) (hpl : (backTo pos (starEach [.Name tx p2] X.env)).any (·.1) = false := by rfl) {p0 : Pos} :
    EX (X.suite a ((a, oe) :: pn)) i a cls d (.Call (.Name "isinstance" p0) [.Name nm p, .Name tx p2] [] pos) (xIsi ms) :=
  PE.imp (pe_callB (X := X.suite a ((a, oe) :: pn)) (call_isO hz hf) hg hm PyProof.Rows.boot_isinstance (pa_cons (pe_var (X := X.suite a ((a, oe) :: pn)) hN hv hd hcd) (pa_cons (pe_bltn (v := .ty T2) (X := X.suite a ((a, oe) :: pn)) hg2 hm2 hbt rfl hn hdb) pa_nil he1) he) (he := he) (hpl := hpl)) fun _ _ _ h => isi_imp (c := .ty T2) T (fun u hu => hu) h
end
/-! statements of the suite -/
abbrev Tx := Str → List (Str × D) → Fs
def tSx (K : PySem.W.Frag) (i : Nat) (a : Addr) (cls : Value) (d : Option Addr) (T : Tx) : TS := fun Z σ H => ∃ γ Hk c fs o, SuOk K i a cls d c fs σ Hk ∧ Ok K σ H Hk γ ∧ T c fs γ = some o ∧ Fin K (fun _ _ _ _ => False) Z σ H Hk γ o
def SX (X : Cx) (i : Nat) (a : Addr) (cls : Value) (d : Option Addr) (s : Stmt) (T : Tx) : Prop := PS X s (tSx X.K i a cls d T)
def SXs (X : Cx) (i : Nat) (a : Addr) (cls : Value) (d : Option Addr) (s : List Stmt) (T : Tx) : Prop := PSs X s (tSx X.K i a cls d T)
@[simp] def xRet (g : Gx) : Tx := fun c fs => sRet (g c fs)
@[simp] def xAsg (g : Gx) (j : Nat) : Tx := fun c fs => sAsg (g c fs) (gDat j)
@[simp] def xApp (j : Nat) (g : Gx) : Tx := fun c fs => sApp j (g c fs)
@[simp] def xIf (g : Gx) (T U : Tx) : Tx := fun c fs => sIf (ofB (g c fs)) (T c fs) (U c fs)
@[simp] def xSeq (T : Tx) (F : Fs) : Tx := fun c fs => sSeq (T c fs) F
section
variable {X : Cx} {i j : Nat} {a : Addr} {cls : Value} {d : Option Addr} {e : Expr} {g : Gx} {T U : Tx} {F : Fs} {pos p' : Pos} {s : Stmt} {ss : List Stmt} {x : Str}
theorem su_of {m : Str → Option Bool} (h : SXs X i a cls d ss T) : PSs X ss (tSu X.K i m T a cls d) := PSs.imp h fun Z σ H ⟨γ, Hk, c, fs, C, dd, vs, o, e1, e2, e3, e4, e5, e6, e7, e8, k, e9, e10, q⟩ => ⟨γ, Hk, c, fs, o, ⟨C, dd, vs, e1, e2, e4, e5, e6, e7⟩, k, e10, q⟩
theorem sx_ret (he : EX X i a cls d e g) : SX X i a cls d (.Return (some e) pos) (xRet g) := PS.imp (ps_ret he) fun Z σ H ⟨γ, Hk, c, fs, o, su, k, ee, q⟩ => by
  unfold xRet sRet at ee
  split at ee <;> cases ee
  rename_i d γ1 ef
  exact ⟨γ, Hk, c, fs, d, γ1, su, k, ef, fun v H1 Hk1 g1 r1 => q _ _ _ _ g1 r1⟩
theorem sx_es (h : ES X (fun _ _ _ _ => False) s F) : SX X i a cls d s (fun _ _ => F) := PS.imp h fun Z σ H ⟨γ, Hk, c, fs, o, su, k, ee, q⟩ => ⟨γ, Hk, o, k, ee, q⟩
theorem sx_set (hN : X.N.Nodup) (hi : X.N[j]? = some x) (hx : Loc X.env.scope x) (he : EX X i a cls d e g) (hs : swapsWith e (some (.Name x p')) pos.line X.env = pure false := by rfl) (hf : X.fn x = true ∨ X.env.scope.names.lookup x = some .local := by first | exact .inl rfl | exact .inr rfl | assumption) :
    SX X i a cls d (.Assign [.Name x p'] e pos) (xAsg g j) := PS.imp (ps_set hN hi hx he hs hf) fun Z σ H ⟨γ, Hk, c, fs, o, su, k, ee, q⟩ => by
  unfold xAsg sAsg at ee
  split at ee
  · rename_i d γ1 ef
    split at ee <;> cases ee
    rename_i γ2 et
    exact ⟨γ, Hk, c, fs, d, γ1, su, k, ef, fun v H1 Hk1 g1 r1 => gDat_imp ⟨γ1, Hk1, d, γ2, g1.ok, r1, et, fun σ2 g2 => q σ2 H1 Hk1 (g1.trans g2)⟩⟩
  · cases ee
/-- tests that know the exception -/
abbrev Ux := Str → List (Str × D) → Ft
def tTx (K : PySem.W.Frag) (i : Nat) (a : Addr) (cls : Value) (d : Option Addr) (u : Ux) : TT := fun σ H Q => ∃ γ Hk c fs b γ2, SuOk K i a cls d c fs σ Hk ∧ Ok K σ H Hk γ ∧ u c fs γ = some (b, γ2) ∧ ∀ H2 Hk2, Go K σ H Hk γ σ H2 Hk2 γ2 → Q b H2
def XT (X : Cx) (i : Nat) (a : Addr) (cls : Value) (d : Option Addr) (e : Expr) (u : Ux) : Prop := PT X e (tTx X.K i a cls d u)
def XW (X : Cx) (i : Nat) (a : Addr) (cls : Value) (d : Option Addr) (e : Expr) (u : Ux) : Prop := PW X e (tTx X.K i a cls d u)
@[simp] def xB (g : Gx) : Ux := fun c fs => ofB (g c fs)
@[simp] def xTAnd (u v : Ux) : Ux := fun c fs => cAnd (u c fs) (v c fs)
theorem xt_val (h : EX X i a cls d e g) (he : ∀ whole, isTrue e X.env whole = (do let v ← whole; standAt e.pos; holding [v] (truthy v)) := by intro _; rfl) : XT X i a cls d e (xB g) := PT.imp (pt_val h he) fun σ H Q ⟨γ, Hk, c, fs, b, γ2, su, o, ee, q⟩ => by
  unfold xB ofB at ee
  split at ee <;> cases ee
  rename_i ef
  refine ⟨γ, Hk, c, fs, _, γ2, su, o, ef, fun v H2 Hk2 g r => ?_⟩
  cases r
  exact ⟨_, rfl, q H2 Hk2 g⟩
theorem xw_and1 {u : Ux} (h : XT X i a cls d e u) : XW X i a cls d (.BoolOp .And [e] pos) u := pw_and1 h
theorem xw_and {u v : Ux} {b : Expr} {rest : List Expr} (h : XT X i a cls d e u) (hr : XW X i a cls d (.BoolOp .And (b :: rest) pos) v) : XW X i a cls d (.BoolOp .And (e :: b :: rest) pos) (xTAnd u v) := PW.imp (pw_and h hr) fun σ H Q ⟨γ, Hk, c, fs, b, γ2, su, o, ee, q⟩ => by
  unfold xTAnd cAnd at ee
  split at ee
  · rename_i γ1 eu
    exact ⟨γ, Hk, c, fs, true, γ1, su, o, eu, fun H1 Hk1 g1 => iteT ⟨γ1, Hk1, c, fs, b, γ2, su.mono g1.kk, g1.ok, ee, fun H2 Hk2 g2 => q H2 Hk2 (g1.trans g2)⟩⟩
  · rename_i γ1 eu
    cases ee
    exact ⟨γ, Hk, c, fs, false, _, su, o, eu, fun H1 Hk1 g1 => iteF (q H1 Hk1 g1)⟩
  · cases ee
theorem xt_w {u : Ux} (h : XW X i a cls d e u) : XT X i a cls d e u := h.pt
@[simp] def xIfT (u : Ux) (T U : Tx) : Tx := fun c fs => sIf (u c fs) (T c fs) (U c fs)
theorem sx_if {u : Ux} {A B : List Stmt} (hc : XT X i a cls d e u) (ha : SXs X i a cls d A T) (hb : SXs X i a cls d B U) : SX X i a cls d (.If e A B pos) (xIfT u T U) := PS.imp (ps_if hc ha hb) fun Z σ H ⟨γ, Hk, c, fs, o, su, k, ee, q⟩ => by
  unfold xIfT sIf at ee
  split at ee
  · rename_i γ1 ec
    exact ⟨γ, Hk, c, fs, true, γ1, su, k, ec, fun H1 Hk1 g1 => iteT ⟨γ1, Hk1, c, fs, o, su.mono g1.kk, g1.ok, ee, q.back g1⟩⟩
  · rename_i γ1 ec
    exact ⟨γ, Hk, c, fs, false, γ1, su, k, ec, fun H1 Hk1 g1 => iteF ⟨γ1, Hk1, c, fs, o, su.mono g1.kk, g1.ok, ee, q.back g1⟩⟩
  · cases ee
theorem sxs_nil : SXs X i a cls d [] (fun _ _ => sNil) := PSs.imp pss_nil fun Z σ H ⟨γ, Hk, c, fs, o, su, k, ee, q⟩ => by
  cases ee
  exact q σ H Hk (Go.refl k)
theorem sx_app (j : Nat) {b : Expr} {apos cpos : Pos} (ho : PE X b (tVar j)) (he : EX X i a cls d e g)
    (hbase : attributeBase b "append" X.env (eval b X.env) = eval b X.env := by rfl)
    (hfew : ((backTo cpos (starEach [e] X.env)).all (fun x => !x.1) && (backToKw cpos (keywordEach [] X.env)).all (fun x => x.1.isSome)
      && decide ([e].length + ([] : List Keyword).length + (if ([] : List Keyword).isEmpty then 0 else 1) < 30)) = true := by rfl)
    (hline : (apos.endLine == cpos.line) = true := by rfl) (hs : starEach [e] X.env = (false, eval e X.env) :: starEach [] X.env := by rfl) (hplain : (backTo cpos (starEach [] X.env)).any (·.1) = false := by rfl)
    (hsw : swapsWith (.Call (.Attribute b "append" apos) [e] [] cpos) none pos.line X.env = pure false := by rfl) :
    SX X i a cls d (.Expr (.Call (.Attribute b "append" apos) [e] [] cpos) pos) (xApp j g) :=
  PS.imp (ps_expr (pe_bm PySem.F.plainAttrs_list PySem.F.slot_list_append PySem.F.type_list_append mt_append ho (pa_cons he pa_nil hs) hbase hfew hline hs hplain) hsw) fun Z σ H ⟨γ, Hk, c, fs, o, su, k, ee, q⟩ => by
  unfold xApp sApp at ee
  split at ee
  · rename_i b0 ds0 e0
    split at ee
    · rename_i d γ1 ef
      split at ee
      · rename_i b ds eo
        split at ee <;> cases ee
        rename_i cz
        obtain ⟨p, vs0, e1, hp0, _⟩ := k.own j _ _ e0
        refine ⟨_, e1, .inl ⟨rfl, _, SqL.of hp0⟩, γ, Hk, c, fs, d, γ1, su, k, ef, fun v H1 Hk1 g1 r1 => ?_⟩
        obtain ⟨p', vs, e2, hp, _, ra⟩ := g1.ok.own j _ _ eo
        rw [e1] at e2; cases e2
        exact ⟨p, vs, v, rfl, rfl, hp, by rw [dps_len ra]; exact okN_lt cz, q _ _ _ (g1.trans (g1.ok.write eo e1 (dps_app ra (.cons r1 .nil))))⟩
      · cases ee
    · cases ee
  · cases ee
theorem sxs_one (h : SX X i a cls d s T) : SXs X i a cls d [s] T := pss_one h
theorem sxs_cons (h : SX X i a cls d s T) (hr : ESs X (fun _ _ _ _ => False) ss F) : SXs X i a cls d (s :: ss) (xSeq T F) := PSs.imp (pss_cons h hr) fun Z σ H ⟨γ, Hk, c, fs, o, su, k, ee, q⟩ => by
  unfold xSeq sSeq at ee
  split at ee
  · rename_i γ1 ef
    exact ⟨γ, Hk, c, fs, _, su, k, ef, fun σ2 H2 Hk2 g => ⟨γ1, Hk2, o, g.ok, ee, q.back g⟩⟩
  · rename_i o' hne
    refine ⟨γ, Hk, c, fs, o, su, k, ee, ?_⟩
    cases o with
    | nx γ2 => exact absurd ee (hne γ2)
    | rt d γ2 => exact q
    | bk γ2 => exact q
    | ct γ2 => exact q
    | rs c fs γ2 => exact q
    | ro y γ2 => exact q
end
end DN
namespace DN
open PySem PySem.Spec PyProof.Rows L2
/-! ### what the written part says of the classes, as questions that are answered by computing -/
def clsAt (K : PySem.W.Frag) (x : Str) : Option Addr := match PySem.W.nsIn K mainGlobals x with
  | some (some (.ref C)) => some C
  | _ => none
theorem clsAt_ok {K : PySem.W.Frag} {x : Str} {C : Addr} (h : clsAt K x = some C) : ClsIs K x C := by
  unfold clsAt at h
  split at h <;> cases h
  rename_i e
  exact e
def exmB (K : PySem.W.Frag) (cv : Value) (ms : List (Str × Bool)) : Bool := ms.all fun p => match clsAt K p.1 with
  | some C => decide (PySem.W.exmOne K (.ref C) cv = some p.2)
  | none => false
def excsB (K : PySem.W.Frag) (x : Str) (ms : List (Str × Bool)) : Bool := match clsAt K x with
  | some C2 => exmB K (.ref C2) ms
  | none => false
def ExmP (K : PySem.W.Frag) (cv : Value) (p : Str × Bool) : Prop := ∃ C, ClsIs K p.1 C ∧ PySem.W.exmOne K (.ref C) cv = some p.2
/-- the class x in an except clause, and which of the own classes it takes -/
def ExcE (K : PySem.W.Frag) (mg : Str → Option Value) (x : Str) (ms : List (Str × Bool)) : Prop := ∃ C2, mg x = some (.ref C2) ∧ ∀ p ∈ ms, ExmP K (.ref C2) p
theorem exmB_ok {K : PySem.W.Frag} {cv : Value} {ms : List (Str × Bool)} (h : exmB K cv ms = true) : ∀ p ∈ ms, ExmP K cv p := by
  intro p hp
  unfold exmB at h
  rw [List.all_eq_true] at h
  have := h p hp
  split at this
  · rename_i C e
    exact ⟨C, clsAt_ok e, of_decide_eq_true this⟩
  · cases this
theorem excsB_ok {K : PySem.W.Frag} {h : Heap} {mg : Str → Option Value} {x : Str} {ms : List (Str × Bool)} (KX : K.In h) (G : h.Ns mainGlobals mg) (q : excsB K x ms = true) : ExcE K mg x ms := by
  unfold excsB at q
  split at q
  · rename_i C2 e
    exact ⟨C2, PySem.W.mg_of KX G (clsAt_ok e), exmB_ok q⟩
  · cases q
theorem exm_hm {K : PySem.W.Frag} {cv : Value} {ms : List (Str × Bool)} (T : ∀ p ∈ ms, ExmP K cv p) : ∀ c C b, ClsIs K c C → (fun c => ms.lookup c) c = some b → PySem.W.exmOne K (.ref C) cv = some b := fun c C b hC hm => by
  obtain ⟨C', hC', e⟩ := T _ (PySem.mem_of_lookup hm)
  cases hC.fn hC'
  exact e
def fldB (K : PySem.W.Frag) (n : Str) (cs : List Str) : Bool := cs.all fun c => match clsAt K c with
  | some C => xfB K C && decide (PySem.W.findIn K (.ref C) n = some none)
  | none => false
theorem fldB_ok {K : PySem.W.Frag} {n : Str} {cs : List Str} (h : fldB K n cs = true) : ∀ c ∈ cs, FldC K n c := by
  intro c hc
  unfold fldB at h
  rw [List.all_eq_true] at h
  have := h c hc
  split at this
  · rename_i C e
    rw [Bool.and_eq_true, decide_eq_true_eq] at this
    exact ⟨C, clsAt_ok e, xfB_ok this.1, this.2⟩
  · cases this
def isiB (K : PySem.W.Frag) (cv : Value) (ms : List (Str × Bool)) : Bool := ms.all fun p => match clsAt K p.1 with
  | some C => xfB K C && (clsFactsB K C && decide (PySem.W.kitOne K (.ref C) cv = some p.2))
  | none => false
theorem isiB_ok {K : PySem.W.Frag} {cv : Value} {ms : List (Str × Bool)} (h : isiB K cv ms = true) : ∀ p ∈ ms, IsiC K cv p := by
  intro p hp
  unfold isiB at h
  rw [List.all_eq_true] at h
  have := h p hp
  split at this
  · rename_i C e
    unfold clsFactsB at this
    simp only [Bool.and_eq_true, decide_eq_true_eq] at this
    obtain ⟨h1, ⟨h2, h3, h4, h5⟩, h6⟩ := this
    have xf := xfB_ok h1
    exact ⟨C, clsAt_ok e, ⟨xf.ga, xf.gg, xf.exC, xf.hdC, h2, h3, h4, h5⟩, h6⟩
  · cases this
def IsiE (K : PySem.W.Frag) (mg : Str → Option Value) (x : Str) (ms : List (Str × Bool)) : Prop := ∃ C2, mg x = some (.ref C2) ∧ ∀ p ∈ ms, IsiC K (.ref C2) p
def isisB (K : PySem.W.Frag) (x : Str) (ms : List (Str × Bool)) : Bool := match clsAt K x with
  | some C2 => isiB K (.ref C2) ms
  | none => false
theorem isisB_ok {K : PySem.W.Frag} {h : Heap} {mg : Str → Option Value} {x : Str} {ms : List (Str × Bool)} (KX : K.In h) (G : h.Ns mainGlobals mg) (q : isisB K x ms = true) : IsiE K mg x ms := by
  unfold isisB at q
  split at q
  · rename_i C2 e
    exact ⟨C2, PySem.W.mg_of KX G (clsAt_ok e), isiB_ok q⟩
  · cases q
/-! ### the makers -/
def clsBody : Stmt → List Stmt
  | .ClassDef _ _ _ b _ _ _ _ _ _ _ => b
  | _ => []
def methS (s : Stmt) (i : Nat) : Stmt := (clsBody s).getD i (.Pass ⟨0, 0, 0, 0⟩)
def scopeB (r : Str) (sc : Scope) : Bool := sc.kind == .function && (!sc.isCoroutine && (!sc.isGenerator && (sc.names.all (fun x => x.2 != .cell) && (sc.names.all (fun x => x.2 != .free || x.1 == ("__class__" : Str)) &&
  (sc.names.lookup ("self" : Str) == some .local && (sc.names.lookup r == some .local && (sc.names.lookup ("super" : Str) == some .globalImplicit && (sc.names.lookup ("__class__" : Str) == some .free && r != ("self" : Str)))))))))
theorem scopeB_ok {r : Str} {sc : Scope} (h : scopeB r sc = true) : InitScope r sc := by
  unfold scopeB at h
  simp only [Bool.and_eq_true, beq_iff_eq, Bool.not_eq_true', List.all_eq_true, bne_iff_ne, Bool.or_eq_true] at h
  obtain ⟨h1, h2, h3, h4, h5, h6, h7, h8, h9, h10⟩ := h
  refine ⟨h1, h2, h3, fun x hx => h4 x hx, fun x hx e => ?_, h6, h7, h8, h9, h10⟩
  rcases h5 x hx with z | z
  · exact absurd e z
  · exact z
theorem exc_mk {P : Program} {w : World} {K : PySem.W.Frag} {mg : Str → Option Value} {base h : Heap} {c fld r qual z : Str} {scope : Scope} {C f cda cc : Addr} {oc : Value} {od : Option Addr} {osl : Array (Option Value)} {params : Arguments} {body : List Stmt} {dV kV doc pm ct : Value} {an : Option Addr} {name : Str} {ar : Arg}
    {p0 p1 p2 p3 p4 p5 p6 p7 p8 q1 q2 q3 q4 : Pos} {kd : Nat} {pl : Addr → Sem Bool} (KX : K.In h) (G : h.Ns mainGlobals mg) (hm : mg "super" = none) (ha : PySem.W.nsIn K mainGlobals c = some (some (.ref C))) (hb : excB P K C f cda cc fld = true) (S : scopeB r scope = true) (hcd : PySem.W.codeIn K (.ref cda) qual = true)
    (lk : K.lookup f = some ⟨oc, od, .func (PySem.W.ksFn name qual params body scope dV kV doc pm an (.ref cda) ct cc), osl⟩)
    (hbo : body = [.Expr (.Call (.Attribute (.Call (.Name "super" p0) [] [] p1) "__init__" p2) [.JoinedStr [.Constant (.str z) kd p4, .FormattedValue (.Name r p5) (-1) none p6] p7] [] p3) p8, .Assign [.Attribute (.Name "self" q1) fld q2] (.Name r q3) q4])
    (hz : z.length ≤ 1000) (hp : (params.posonlyargs ++ params.args).head? = some ar) (har : ar.arg = ("self" : Str)) (hrd : (r == ("__debug__" : Str)) = false) (hrc : (r == ("__classdict__" : Str)) = false)
    (hev : ∀ L : Addr, eval (.Call (.Attribute (.Call (.Name "super" p0) [] [] p1) "__init__" p2) [.JoinedStr [.Constant (.str z) kd p4, .FormattedValue (.Name r p5) (-1) none p6] p7] [] p3) (PySem.W.ksEnv qual scope L f (.ref cda) cc) = (do
      let ov ← attributeBase (.Call (.Name "super" p0) [] [] p1) "__init__" (PySem.W.ksEnv qual scope L f (.ref cda) cc) (eval (.Call (.Name "super" p0) [] [] p1) (PySem.W.ksEnv qual scope L f (.ref cda) cc))
      standAt p2.atName
      let (f', first) ← holding [ov] (getMethod ov "__init__" (pl L))
      callWith p3 f' first (backTo p3 (starEach [.JoinedStr [.Constant (.str z) kd p4, .FormattedValue (.Name r p5) (-1) none p6] p7] (PySem.W.ksEnv qual scope L f (.ref cda) cc))) []))
    (hbi : ∀ us : List Value, us.length = 2 → bindArgs (PySem.W.ksFn name qual params body scope dV kV doc pm an (.ref cda) ct cc) ⟨us, []⟩ = pure ((["self", r] : List Str).zip us)) : ExcN P w K mg base c fld := by
  subst hbo
  have E := excB_ok hb
  exact ⟨C, E.ic.oex, E.xf, E.ex, E.no, ha, PySem.W.mg_of KX G ha, f, _, r, E.ini, E.fn, fn_exinit (scopeB_ok S) E.ic E.no hm hcd hz lk hp har hrd hrc hev, Binds.all hbi⟩
end DN
namespace DN
open PySem PySem.Spec PyProof.Rows L2
/-! ### text * number -/
def repS (x : Str) (n : Int) : Str := if n < 1 then Str.empty else if (n == 1 || x.length == 0) = true then x else ⟨(List.replicate n.toNat x.cps).foldl (· ++ ·) #[]⟩
def mulTD : D → D → Option D
  | .str x, .int n => if decide (-1000 < n) && (decide (n < 1000) && decide (x.length ≤ 1000)) then some (.str (repS x n)) else none
  | _, _ => none
theorem fold_size (a : Array Nat) : ∀ (k : Nat) (b : Array Nat), ((List.replicate k a).foldl (· ++ ·) b).size = b.size + k * a.size
  | 0, b => by simp
  | k + 1, b => by
    rw [List.replicate_succ, List.foldl_cons, fold_size a k, Array.size_append, Nat.succ_mul]
    omega
def rMulT : R2 := fun a b H Q => ∃ (x : Str) (n : Int), a = .str x ∧ b = .int n ∧ -1000 < n ∧ n < 1000 ∧ x.length ≤ 1000 ∧ Q (.str (repS x n)) H
theorem x_mulT {X : Cx} : OpR X (binaryOp .Mult) rMulT := by
  intro pins s σ H a b v u Q I ra rb h
  obtain ⟨x, n, rfl, rfl, h1, h2, h3, q⟩ := h
  obtain ⟨t, rfl⟩ := ra
  obtain ⟨k, rfl⟩ := rb
  have prod : (x.length : Int) * n ≤ 1000 * 1000 := by
    by_cases hn : 0 ≤ n
    · exact Int.mul_le_mul (by omega) (by omega) hn (by omega)
    · have : (x.length : Int) * n ≤ 0 := Int.mul_nonpos_of_nonneg_of_nonpos (by omega) (by omega)
      omega
  refine PySem.P.mul_str (by rw [decide_eq_false (by omega), decide_eq_false (by omega)]; rfl) (fun p _ => ?_) (fun p _ => ?_) ?_
  · have : (x.length : Int) ≤ (2 ^ 63 - 1) / n := Int.le_ediv_of_mul_le (by omega) (by omega)
    omega
  · have e : ((x.length * n.toNat : Nat) : Int) = (x.length : Int) * n := by rw [Int.natCast_mul, show ((n.toNat : Nat) : Int) = n by omega]
    have small : x.length * n.toNat ≤ 1000 * 1000 := by omega
    have : (1000 * 1000 : Nat) ≤ sizeLine := by decide
    unfold PySem.Builtin.Str.tooLong
    exact decide_eq_false (by omega)
  · unfold repS at q
    by_cases c : n < 1
    · rw [if_pos c] at q ⊢
      exact ⟨by decide, .str Str.empty, H, I.tok _, ⟨_, rfl⟩, q⟩
    · rw [if_neg c] at q ⊢
      by_cases c2 : (n == 1 || x.length == 0) = true
      · rw [if_pos c2] at q ⊢
        exact ⟨.str x, H, I, ⟨_, rfl⟩, q⟩
      · rw [if_neg c2] at q ⊢
        refine ⟨?_, .str _, H, I.tok _, ⟨_, rfl⟩, q⟩
        have e : ((x.length * n.toNat : Nat) : Int) = (x.length : Int) * n := by rw [Int.natCast_mul, show ((n.toNat : Nat) : Int) = n by omega]
        have : (1000 * 1000 : Nat) ≤ sizeLine := by decide
        show ((List.replicate n.toNat x.cps).foldl (· ++ ·) #[]).size ≤ sizeLine
        rw [fold_size, Nat.mul_comm]
        have : x.cps.size = x.length := rfl
        rw [this]
        simp only [List.size_toArray, List.length_nil]
        omega
theorem o_mulT {K : PySem.W.Frag} : Op2 K rMulT mulTD := by
  intro H Hk x y dx dy dz Q s vx vy e q
  unfold mulTD at e
  split at e
  · split at e <;> cases e
    rename_i c
    rw [Bool.and_eq_true, Bool.and_eq_true] at c
    cases vx.str
    cases vy.int
    exact ⟨_, _, rfl, rfl, of_decide_eq_true c.1, of_decide_eq_true c.2.1, of_decide_eq_true c.2.2, q _ H Hk (Grow.refl s) (.str _)⟩
  · cases e
/-! ### sum of a tuple of whole numbers -/
theorem pre_sum (ns : List Int) : ∀ n, n ≤ ns.length → preSum (fun i => ns.getD i 0) n = (ns.take n).sum
  | 0, _ => by simp [preSum]
  | n + 1, h => by
    have ih := pre_sum ns n (by omega)
    have e : ns.take (n + 1) = ns.take n ++ [ns.getD n 0] := by
      rw [List.take_add_one]
      congr 1
      have hn : n < ns.length := by omega
      simp [List.getElem?_eq_getElem hn]
    rw [e, List.sum_append, ← ih]
    simp [preSum]
def rSumT (K : PySem.W.Frag) : List V → Hp → VK → Prop := fun vs H Q => ∃ (a : Addr) (ns : List Int), vs = [V.ref a] ∧ SqT K H a (ns.map V.int) ∧ Q (.int ns.sum) H
theorem cr_sumT {X : Cx} (hc : X.calm = true) : CallR X (.builtin "sum") (rSumT X.K) := by
  intro pins s σ H vs us Q I r h
  obtain ⟨a, ns, rfl, hs, q⟩ := h
  obtain ⟨its, rv, hl, _⟩ := I.tuple hs
  rw [Vals.ref1 r]
  have len : its.length = ns.length := by have := rv.length; simpa using this.symm
  have each : ∀ (i : Nat) (v : Value), its.toArray[i]? = some v → ∃ t, v = .int (ns.getD i 0) t := by
    intro i v hv
    have hv' : its[i]? = some v := by simpa using hv
    have hi : i < ns.length := by
      have := (List.getElem?_eq_some_iff.mp hv').1
      omega
    obtain ⟨u, eu, ru⟩ := rv.get (i := i) (x := V.int (ns[i])) (by simp [List.getElem?_map, List.getElem?_eq_getElem hi])
    rw [hv'] at eu
    cases eu
    obtain ⟨t, rfl⟩ := ru
    exact ⟨t, by simp [List.getElem?_eq_getElem hi]⟩
  have tup : s.heap.IsTuple a its.toArray := by
    obtain ⟨o, ho, hc', n, hd⟩ := hl
    exact ⟨o, ho, hc', n, hd⟩
  refine call_sum_walkAnyS (PySem.W.iter_tupleW (I.ok.hd hc) tup fun s2 e2 W st fp hwr keep => ?_)
  refine ⟨_, _, _, _, its.toArray.size, _, _, fun i => ns.getD i 0, rfl, W, st, fp, each, fun s' t' m => ?_⟩
  obtain ⟨h', tk, rfl, hk⟩ := PySem.W.moved_old e2 rfl m
  have e : preSum (fun i => ns.getD i 0) its.toArray.size = ns.sum := by
    rw [List.size_toArray, len, pre_sum ns _ (Nat.le_refl _), List.take_length]
  rw [e]
  exact ⟨.int _, H, I.kept hk, ⟨_, rfl⟩, q⟩
@[simp] def sumTD : D → Option D
  | .tuple ds => match intsD ds with
    | some ns => some (.int ns.sum)
    | none => none
  | _ => none
theorem o_sumT {K : PySem.W.Frag} : Op1 K (fun x => rSumT K [x]) sumTD := by
  intro H Hk x dx dz Q s vx e q
  unfold sumTD at e
  split at e
  · split at e <;> cases e
    rename_i en
    obtain ⟨p, vs, rfl, sp, ap⟩ := vx.tup s
    cases intsD_dps ap en
    exact ⟨p, _, rfl, sp, q _ H Hk (Grow.refl s) (.int _)⟩
  · cases e
end DN
namespace DN
open PySem PySem.Spec PyProof.Rows L2
/-! ### int(x), x a whole number, a truth value or a text -/
@[simp] def intD2 : D → Option D
  | .int i => some (.int i)
  | .bool b => some (.int (if b then 1 else 0))
  | .str a => if decide (a.length ≤ 640) then (match PySem.intText? a with
    | some n => some (.int n)
    | none => none) else none
  | _ => none
abbrev rInt2 : List V → Hp → VK → Prop := fun xs H Q => ((∃ i, xs = [V.int i] ∧ Q (.int i) H) ∨ ∃ k, xs = [V.bl k] ∧ Q (.int (if k then 1 else 0)) H) ∨ ∃ a n, xs = [V.str a] ∧ PySem.intText? a = some n ∧ a.length ≤ 640 ∧ Q (.int n) H
theorem call_int2 {X : Cx} : CallR X (.type "int") rInt2 := by
  intro pins s σ H xs us Q I r h
  rcases h with h | h
  · exact call_int1 pins s σ H xs us Q I r h
  · exact call_int_str pins s σ H xs us Q I r h
theorem o_int2 {K : PySem.W.Frag} : Op1 K (fun x H Q => rInt2 [x] H Q) intD2 := by
  intro H Hk x dx dz Q s vx e q
  unfold intD2 at e
  split at e
  · cases e
    cases vx.int
    exact .inl (.inl ⟨_, rfl, q _ H Hk (Grow.refl s) (.int _)⟩)
  · cases e
    cases vx.bl
    exact .inl (.inr ⟨_, rfl, q _ H Hk (Grow.refl s) (.int _)⟩)
  · split at e
    · split at e <;> cases e
      rename_i c _ n en
      cases vx.str
      exact .inr ⟨_, _, rfl, en, of_decide_eq_true c, q _ H Hk (Grow.refl s) (.int _)⟩
    · cases e
  · cases e
/-! ### x or y, by what x is -/
@[simp] def fOrV (f g : Fe) : Fe := fun γ => match f γ with
  | some (d, γ1) => match truD d with
    | some true => some (d, γ1)
    | some false => g γ1
    | none => none
  | none => none
theorem ev_orV {X : Cx} {a b : Expr} {rest : List Expr} {pos : Pos} {f g : Fe} (h : EV X a f) (hr : EV X (.BoolOp .Or (b :: rest) pos) g) : EV X (.BoolOp .Or (a :: b :: rest) pos) (fOrV f g) := PE.imp (pe_orT h hr) fun σ H Q ⟨γ, Hk, d, γ2, o, e, q⟩ => by
  unfold fOrV at e
  split at e
  · rename_i d1 γ1 ef
    split at e
    · rename_i et
      cases e
      exact ⟨γ, Hk, _, _, o, ef, fun w H1 Hk1 g1 r1 => ⟨true, tru_of g1.ok.sub (.inl r1) et, iteT (q _ H1 Hk1 g1 r1)⟩⟩
    · rename_i et
      exact ⟨γ, Hk, _, γ1, o, ef, fun w H1 Hk1 g1 r1 => ⟨false, tru_of g1.ok.sub (.inl r1) et, iteF ⟨γ1, Hk1, d, γ2, g1.ok, e, fun z H2 Hk2 g2 r2 => q z H2 Hk2 (g1.trans g2) r2⟩⟩⟩
    · cases e
  · cases e
end DN
namespace DN
open PySem PySem.Spec PyProof.Rows L2
/-! ### texts as lists of signs -/
def tx (l : List Nat) : Str := ⟨l.toArray⟩
abbrev Tn (l : List Nat) : D := .str (tx l)
theorem tx_len (l : List Nat) : (tx l).length = l.length := by simp [tx, Str.length]
theorem tx_cps (l : List Nat) : (tx l).cps.toList = l := by simp [tx]
theorem tx_of (s : Str) : s = tx s.cps.toList := by cases s; simp [tx]
theorem tx_inj {a b : List Nat} : tx a = tx b ↔ a = b := ⟨fun h => by have := congrArg (fun s => s.cps.toList) h; simpa [tx] using this, fun h => by rw [h]⟩
theorem tx_app (a b : List Nat) : tx (a ++ b) = tx a ++ tx b := by
  show _ = Str.append _ _
  simp [tx, Str.append]
theorem tx_add (a b : List Nat) (h : a.length + b.length ≤ 1000000) : addD (Tn a) (Tn b) = some (Tn (a ++ b)) := by
  have c : okN ((tx a).length + (tx b).length) = true := by rw [tx_len, tx_len]; exact decide_eq_true h
  show (if okN ((tx a).length + (tx b).length) then some (PyData.str (tx a ++ tx b)) else none) = _
  rw [if_pos c, ← tx_app]
theorem tx_lenD (l : List Nat) (h : l.length ≤ 1000000) : lenD (Tn l) = some (.int l.length) := by
  have c : okN (tx l).length = true := by rw [tx_len]; exact decide_eq_true h
  show (if okN (tx l).length then some (PyData.int ((tx l).length : Int)) else none) = _
  rw [if_pos c, tx_len]
theorem tx_walk (l : List Nat) : (tx l).cps.toList.map (fun c => PyData.str ⟨#[c]⟩) = l.map fun c => Tn [c] := by
  rw [tx_cps]
  rfl
theorem tx_wof {f : Fe} {γ γ1 : En} {l : List Nat} (h : f γ = some (Tn l, γ1)) : wOf f γ = some (l.map fun c => Tn [c], γ1) := by
  unfold wOf
  rw [h]
  show some ((tx l).cps.toList.map (fun c => PyData.str ⟨#[c]⟩), γ1) = _
  rw [tx_walk]
theorem tx_ixD (l : List Nat) (n : Nat) (h : l.length ≤ 1000000) {c : Nat} (hc : l[n]? = some c) : ixD (Tn l) (.int (n : Int)) = some (Tn [c]) := by
  have ck : okN (tx l).length = true := by rw [tx_len]; exact decide_eq_true h
  have hn : n < l.length := (List.getElem?_eq_some_iff.mp hc).1
  have e : atI (tx l).cps.toList (n : Int) = some c := by
    rw [tx_cps]
    have h0 : (0 : Int) ≤ n := by omega
    have h1 : (n : Int) < l.length := by omega
    simp [h0, h1, hc]
  show (if okN (tx l).length then (atI (tx l).cps.toList (n : Int)).map (fun c => PyData.str ⟨#[c]⟩) else none) = _
  rw [if_pos ck, e]
  rfl
theorem tx_ix (l : List Nat) (n : Nat) (h : l.length ≤ 1000000) {c : Nat} (hc : l[n]? = some c) : ixX (Tn l) (.int (n : Int)) = some (Tn [c]) := tx_ixD l n h hc
theorem tx_cut (l : List Nat) (a b : Nat) (h : l.length ≤ 1000000) : slD (Tn l) (some (a : Int)) (some (b : Int)) = some (Tn ((l.take b).drop a)) := by
  have ck : okN (tx l).length = true := by rw [tx_len]; exact decide_eq_true h
  have e : cutS (tx l) (some (a : Int)) (some (b : Int)) = tx ((l.take b).drop a) := by
    unfold cutS
    rw [HT.sIx_nat, HT.sIx_nat, tx_len]
    show (⟨_⟩ : Str) = ⟨_⟩
    congr 1
    rw [tx_cps]
    congr 1
    rw [List.drop_take]
    by_cases ha : a ≤ l.length
    · rw [Nat.min_eq_left ha]
      by_cases hb : b ≤ l.length
      · rw [Nat.min_eq_left hb]
      · rw [Nat.min_eq_right (by omega : l.length ≤ b), List.take_of_length_le (by rw [List.length_drop]; omega), List.take_of_length_le (by rw [List.length_drop]; omega)]
    · rw [Nat.min_eq_right (by omega : l.length ≤ a), List.drop_eq_nil_of_le (Nat.le_refl _), List.drop_eq_nil_of_le (by omega)]
      simp
  show (if okN (tx l).length then some (PyData.str (cutS (tx l) (some (a : Int)) (some (b : Int)))) else none) = _
  rw [if_pos ck, e]
theorem tx_from (l : List Nat) (a : Nat) (h : l.length ≤ 1000000) : slD (Tn l) (some (a : Int)) none = some (Tn (l.drop a)) := by
  have ck : okN (tx l).length = true := by rw [tx_len]; exact decide_eq_true h
  have e : cutS (tx l) (some (a : Int)) none = tx (l.drop a) := by
    unfold cutS
    rw [HT.sIx_nat, HT.sIx_none, tx_len]
    show (⟨_⟩ : Str) = ⟨_⟩
    congr 1
    rw [tx_cps]
    congr 1
    by_cases ha : a ≤ l.length
    · rw [Nat.min_eq_left ha, List.take_of_length_le (by rw [List.length_drop]; omega)]
    · rw [Nat.min_eq_right (by omega), List.drop_eq_nil_of_le (Nat.le_refl _), List.drop_eq_nil_of_le (by omega)]
      simp
  show (if okN (tx l).length then some (PyData.str (cutS (tx l) (some (a : Int)) none)) else none) = _
  rw [if_pos ck, e]
theorem tx_to (l : List Nat) (b : Nat) (h : l.length ≤ 1000000) : slD (Tn l) none (some (b : Int)) = some (Tn (l.take b)) := by
  have ck : okN (tx l).length = true := by rw [tx_len]; exact decide_eq_true h
  have e : cutS (tx l) none (some (b : Int)) = tx (l.take b) := by
    unfold cutS
    rw [HT.sIx_nat, HT.sIx_none, tx_len]
    show (⟨_⟩ : Str) = ⟨_⟩
    congr 1
    rw [tx_cps]
    congr 1
    rw [List.drop_zero, Nat.sub_zero]
    by_cases hb : b ≤ l.length
    · rw [Nat.min_eq_left hb]
    · rw [Nat.min_eq_right (by omega), List.take_of_length_le (Nat.le_refl _), List.take_of_length_le (by omega)]
  show (if okN (tx l).length then some (PyData.str (cutS (tx l) none (some (b : Int)))) else none) = _
  rw [if_pos ck, e]
theorem tx_in1 (c : Nat) (l : List Nat) : inS (tx [c]) (tx l) = decide (c ∈ l) := by
  have := StrLaws.found_one (tx l) c
  rw [tx_cps] at this
  exact this
theorem tx_in (c : Nat) (l : List Nat) : inX (Tn [c]) (Tn l) = some (.bool (decide (c ∈ l))) := by
  show some (PyData.bool (inS (tx [c]) (tx l))) = _
  rw [tx_in1]
theorem tx_notIn (c : Nat) (l : List Nat) : notInX (Tn [c]) (Tn l) = some (.bool (!decide (c ∈ l))) := by
  show some (PyData.bool (!inS (tx [c]) (tx l))) = _
  rw [tx_in1]
theorem tx_notInS (c : Nat) (l : List Nat) : notInSD (Tn [c]) (Tn l) = some (.bool (!decide (c ∈ l))) := by
  show some (PyData.bool (!inS (tx [c]) (tx l))) = _
  rw [tx_in1]
theorem tx_eq (a b : List Nat) : eqD (Tn a) (Tn b) = some (.bool (decide (a = b))) := by
  show some (PyData.bool (decide (tx a = tx b))) = _
  rw [decide_eq_decide.mpr tx_inj]
theorem tx_ne (a b : List Nat) : neD (Tn a) (Tn b) = some (.bool (!decide (a = b))) := by
  show some (PyData.bool (!decide (tx a = tx b))) = _
  rw [decide_eq_decide.mpr tx_inj]
theorem rep_fold (a : Array Nat) : ∀ (k : Nat) (b : Array Nat), ((List.replicate k a).foldl (· ++ ·) b).toList = b.toList ++ (List.replicate k a.toList).flatten
  | 0, b => by simp
  | k + 1, b => by
    rw [List.replicate_succ, List.foldl_cons, rep_fold a k, List.replicate_succ, List.flatten_cons, Array.toList_append, List.append_assoc]
theorem tx_mul (c n : Nat) (hn : n < 1000) : mulTD (Tn [c]) (.int (n : Int)) = some (Tn (List.replicate n c)) := by
  have c1 : (decide ((-1000 : Int) < (n : Int)) && (decide ((n : Int) < 1000) && decide ((tx [c]).length ≤ 1000))) = true := by
    rw [tx_len]
    have h1 : (-1000 : Int) < (n : Int) := by omega
    have h2 : (n : Int) < 1000 := by omega
    rw [decide_eq_true h1, decide_eq_true h2]
    rfl
  have e : repS (tx [c]) (n : Int) = tx (List.replicate n c) := by
    unfold repS
    by_cases h : (n : Int) < 1
    · rw [if_pos h]
      obtain rfl : n = 0 := by omega
      rfl
    · rw [if_neg h]
      by_cases h2 : ((n : Int) == 1 || (tx [c]).length == 0) = true
      · rw [if_pos h2]
        rw [tx_len] at h2
        have : n = 1 := by
          have h3 : (([c] : List Nat).length == 0) = false := rfl
          rw [h3, Bool.or_false] at h2
          have := eq_of_beq h2
          omega
        subst this
        rfl
      · rw [if_neg h2]
        show (⟨_⟩ : Str) = ⟨_⟩
        congr 1
        refine Array.toList_inj.mp ?_
        rw [show ((n : Int)).toNat = n by omega, rep_fold]
        simp only [List.nil_append, tx, List.toList_toArray]
        clear c1 h h2
        induction n with
        | zero => rfl
        | succ n ih => simp only [List.replicate_succ, List.flatten_cons, List.singleton_append] at ih ⊢; rw [ih (by omega)]
  show (if _ then some (PyData.str (repS (tx [c]) (n : Int))) else none) = _
  rw [if_pos c1, e]
theorem tx_join : ∀ ls : List (List Nat), Txt.join "" (ls.map tx) = tx ls.flatten := by
  have e0 : (("" : Str)).cps = #[] := by decide +kernel
  have glue : ∀ (ls : List (List Nat)) (acc : Array Nat), (ls.map tx).foldl (fun acc p => acc ++ (("" : Str)).cps ++ p.cps) acc = acc ++ ls.flatten.toArray := by
    intro ls
    induction ls with
    | nil => intro acc; simp
    | cons l ls ih =>
      intro acc
      rw [List.map_cons, List.foldl_cons, ih, e0]
      simp [tx]
  intro ls
  cases ls with
  | nil => rfl
  | cons l ls =>
    show (⟨(((l :: ls).map tx).drop 1).foldl _ (((l :: ls).map tx).headD Str.empty).cps⟩ : Str) = _
    rw [List.map_cons, List.drop_one, List.tail_cons, glue, List.headD_cons]
    simp [tx]
theorem tx_strs : ∀ ls : List (List Nat), strsD (ls.map Tn) = some (ls.map tx)
  | [] => rfl
  | l :: ls => by
    show (strsD (ls.map Tn)).map (tx l :: ·) = _
    rw [tx_strs ls]
    rfl
theorem tx_sum : ∀ ls : List (List Nat), ((ls.map tx).map (·.length)).sum = ls.flatten.length
  | [] => rfl
  | l :: ls => by
    rw [List.map_cons, List.map_cons, List.sum_cons, tx_sum ls, tx_len, List.flatten_cons, List.length_append]
theorem tx_joinD (ls : List (List Nat)) (h : ls.flatten.length ≤ 1000000) : joinD "" (.list (ls.map Tn)) = some (Tn ls.flatten) := by
  have e0 : (("" : Str)).length = 0 := by decide +kernel
  have c : okN (((ls.map tx).map (·.length)).sum + (ls.map tx).length * (("" : Str)).length) = true := by rw [tx_sum, e0, Nat.mul_zero, Nat.add_zero]; exact decide_eq_true h
  show joinL "" (ls.map Tn) = _
  unfold joinL
  rw [tx_strs]
  simp only [c, if_true, tx_join]
theorem tx_str (n : Nat) (h : n < 10 ^ 9) : strD (.int (n : Int)) = some (Tn (TL.numL n)) := by
  have c : decide (((n : Int)).natAbs < 2 ^ 1900) = true := decide_eq_true (by
    have h2 : (10 : Nat) ^ 9 ≤ 2 ^ 1900 := Nat.le_trans (by decide : (10 : Nat) ^ 9 ≤ 2 ^ 30) (Nat.pow_le_pow_right (by decide) (by decide))
    exact Nat.lt_of_lt_of_le h h2)
  show (if _ then some (PyData.str (toString (n : Int))) else none) = _
  rw [if_pos c]
  congr 2
  refine (tx_of _).trans ?_
  congr 1
  exact TL.tl_num n
theorem tx_tru (l : List Nat) (h : l.length ≤ 1000000) : truD (Tn l) = some (!l.isEmpty) := by
  have c : okN (tx l).length = true := by rw [tx_len]; exact decide_eq_true h
  show (if okN (tx l).length then some (((tx l).length : Int) != 0) else none) = _
  rw [if_pos c, tx_len]
  cases l with
  | nil => rfl
  | cons a l =>
    show some ((((a :: l).length : Nat) : Int) != 0) = some true
    exact congrArg some (bne_iff_ne.mpr (by rw [List.length_cons]; omega))
end DN
namespace DN
open PySem PySem.Spec PyProof.Rows L2
/-! ### steps of expressions, tests and statements, to be put together by a tactic -/
/-- a question that is answered by what is known, not by computing -/
def Ask (p : Prop) : Prop := p
/-- a question that may be computed -/
def Cmp (p : Prop) : Prop := p
theorem ask_of {p : Prop} (h : p) : Ask p := h
theorem cmp_of {p : Prop} (h : p) : Cmp p := h
section
variable {op : D → D → Option D} {o1 : D → Option D} {f g : Fe} {fa : Fa} {fl fh : Fp} {u v : Ft} {S T : Fs} {tg : Fg} {i j n : Nat} {γ γ1 γ2 γ3 : En} {x y z d e : D} {ds es out : List D} {b b0 c : Bool} {F : Fun'} {FX : FunX}
theorem q_C : fC d γ = some (d, γ) := rfl
theorem q_N (h : Cmp (fN i γ = some (d, γ1))) : fN i γ = some (d, γ1) := h
theorem q_f1 (h : f γ = some (x, γ1)) (k : Cmp (o1 x = some z)) : f1 o1 f γ = some (z, γ1) := by
  have k : o1 x = some z := k
  simp only [f1, h, k]
theorem q_f1n (h : Cmp (view γ i = some x)) (k : Cmp (o1 x = some z)) : f1n o1 i γ = some (z, γ) := by
  have h : view γ i = some x := h
  have k : o1 x = some z := k
  simp only [f1n, h, k]
theorem q_f2 (h : f γ = some (x, γ1)) (k : g γ1 = some (y, γ2)) (o : Cmp (op x y = some z)) : f2 op f g γ = some (z, γ2) := by
  have o : op x y = some z := o
  simp only [f2, h, k, o]
theorem q_f2n (h : Cmp (view γ i = some d)) (k : g γ = some (y, γ1)) (h2 : Cmp (view γ1 i = some x)) (o : Cmp (op x y = some z)) : f2n op i g γ = some (z, γ1) := by
  have h : view γ i = some d := h
  have h2 : view γ1 i = some x := h2
  have o : op x y = some z := o
  simp only [f2n, h, k, h2, o]
theorem q_f2m (h : f γ = some (x, γ1)) (h2 : Cmp (view γ1 i = some y)) (o : Cmp (op x y = some z)) : f2m op f i γ = some (z, γ1) := by
  have h2 : view γ1 i = some y := h2
  have o : op x y = some z := o
  simp only [f2m, h, h2, o]
theorem q_f2nn (h : Cmp (view γ i = some x)) (h2 : Cmp (view γ j = some y)) (o : Cmp (op x y = some z)) : f2nn op i j γ = some (z, γ) := by
  have h : view γ i = some x := h
  have h2 : view γ j = some y := h2
  have o : op x y = some z := o
  simp only [f2nn, h, h2, o]
theorem q_tup (h : fa γ = some (ds, γ1)) (k : Cmp (okN ds.length = true)) : fTup fa γ = some (.tuple ds, γ1) := by
  have k : okN ds.length = true := k
  simp only [fTup, h, k, if_true]
theorem q_L (h : fa γ = some (ds, γ1)) : fL fa γ = some (.list ds, γ1) := by simp only [fL, h]
theorem q_disp (h : fa γ = some (ds, γ1)) (k : Cmp (okN ds.length = true)) : lDisp fa γ = some (ds, γ1) := by
  have k : okN ds.length = true := k
  simp only [lDisp, h, k, if_true]
theorem q_nil : aNil γ = some ([], γ) := rfl
theorem q_cons (h : f γ = some (d, γ1)) (k : fa γ1 = some (ds, γ2)) : aCons f fa γ = some (d :: ds, γ2) := by simp only [aCons, h, k]
theorem q_call (h : fa γ = some (ds, γ1)) (hn : Cmp (ds.length = n)) (hf : Ask (F ds = some (d, out))) : fCall n F fa γ = some (d, γ1) := by
  have hn : ds.length = n := hn
  have hf : F ds = some (d, out) := hf
  simp only [fCall, h, hn, hf, if_true]
theorem q_callB {B0 B B' : List D} (h0 : Cmp (gt γ i = some (.ow b0 (.lst B0)))) (h : fa γ = some (ds, γ1)) (h1 : Cmp (gt γ1 i = some (.ow b (.lst B)))) (hn : Cmp (ds.length + 1 = n)) (hf : Ask (F (.list B :: ds) = some (d, B'))) (hs : Cmp (γ1.set i (some (.ow b (.lst B'))) = γ2)) : fCallB n F i fa γ = some (d, γ2) := by
  have h0 : gt γ i = some (.ow b0 (.lst B0)) := h0
  have h1 : gt γ1 i = some (.ow b (.lst B)) := h1
  have hn : ds.length + 1 = n := hn
  have hf : F (.list B :: ds) = some (d, B') := hf
  have hs : γ1.set i (some (.ow b (.lst B'))) = γ2 := hs
  simp only [fCallB, h0, h, h1, hn, hf, if_true]
  rw [← hs]
theorem q_callX (h : fa γ = some (ds, γ1)) (hn : Cmp (ds.length = n)) (hf : Ask (FX none ds = some (.da d, none))) : fCallX n FX fa γ = some (d, γ1) := by
  have hn : ds.length = n := hn
  have hf : FX none ds = some (.da d, none) := hf
  simp only [fCallX, h, hn, hf, if_true]
theorem q_pNo : pNo γ = some (none, γ) := rfl
theorem q_pOf {k : Int} (h : f γ = some (.int k, γ1)) : pOf f γ = some (some k, γ1) := by simp only [pOf, h]
theorem q_sl {lo hi : Option Int} (h : f γ = some (x, γ1)) (h1 : fl γ1 = some (lo, γ2)) (h2 : fh γ2 = some (hi, γ3)) (o : Cmp (slD x lo hi = some z)) : fSl f fl fh γ = some (z, γ3) := by
  have o : slD x lo hi = some z := o
  simp only [fSl, h, h1, h2, o]
theorem q_sln {lo hi : Option Int} (h0 : Cmp (view γ i = some d)) (h1 : fl γ = some (lo, γ1)) (h2 : fh γ1 = some (hi, γ2)) (h : Cmp (view γ2 i = some x)) (o : Cmp (slD x lo hi = some z)) : fSln i fl fh γ = some (z, γ2) := by
  have h0 : view γ i = some d := h0
  have h : view γ2 i = some x := h
  have o : slD x lo hi = some z := o
  simp only [fSln, h0, h1, h2, h, o]
theorem q_not (h : f γ = some (.bool b, γ1)) : fNot f γ = some (.bool (!b), γ1) := by simp only [fNot, h]
theorem q_neg {k : Int} (h : f γ = some (.int k, γ1)) : fNeg f γ = some (.int (-k), γ1) := by simp only [fNeg, h]
theorem q_ifT (h : u γ = some (b, γ1)) (hb : Ask (b = true)) (k : f γ1 = some (d, γ2)) : fIf u f g γ = some (d, γ2) := by
  have hb : b = true := hb
  subst hb
  simp only [fIf, h, k]
theorem q_ifF (h : u γ = some (b, γ1)) (hb : Ask (b = false)) (k : g γ1 = some (d, γ2)) : fIf u f g γ = some (d, γ2) := by
  have hb : b = false := hb
  subst hb
  simp only [fIf, h, k]
theorem q_andT (h : f γ = some (.bool b, γ1)) (hb : Ask (b = true)) (k : g γ1 = some (d, γ2)) : fAnd f g γ = some (d, γ2) := by
  have hb : b = true := hb
  subst hb
  simp only [fAnd, h, k]
theorem q_andF (h : f γ = some (.bool b, γ1)) (hb : Ask (b = false)) : fAnd f g γ = some (.bool false, γ1) := by
  have hb : b = false := hb
  subst hb
  simp only [fAnd, h]
theorem q_orF (h : f γ = some (.bool b, γ1)) (hb : Ask (b = false)) (k : g γ1 = some (d, γ2)) : fOr f g γ = some (d, γ2) := by
  have hb : b = false := hb
  subst hb
  simp only [fOr, h, k]
theorem q_orT (h : f γ = some (.bool b, γ1)) (hb : Ask (b = true)) : fOr f g γ = some (.bool true, γ1) := by
  have hb : b = true := hb
  subst hb
  simp only [fOr, h]
theorem q_orVT (h : f γ = some (d, γ1)) (hb : Cmp (truD d = some true)) : fOrV f g γ = some (d, γ1) := by
  have hb : truD d = some true := hb
  simp only [fOrV, h, hb]
theorem q_orVF (h : f γ = some (d, γ1)) (hb : Cmp (truD d = some false)) (k : g γ1 = some (e, γ2)) : fOrV f g γ = some (e, γ2) := by
  have hb : truD d = some false := hb
  simp only [fOrV, h, hb, k]
theorem q_isin {t : String} (h : Cmp (view γ i = some x)) (k : Cmp (isiD t x = some d)) : fIsin t i γ = some (d, γ) := by
  have h : view γ i = some x := h
  have k : isiD t x = some d := k
  simp only [fIsin, h, k]
theorem q_isi {t : String} (h : f γ = some (x, γ1)) (k : Cmp (isiD t x = some d)) : fIsi t f γ = some (d, γ1) := by
  have k : isiD t x = some d := k
  simp only [fIsi, f1, h, k]
theorem q_lOf (h : f γ = some (x, γ1)) (k : Cmp (listD x = some ds)) : lOf f γ = some (ds, γ1) := by
  have k : listD x = some ds := k
  simp only [lOf, h, k]
theorem q_lOfn (h : Cmp (view γ i = some x)) (k : Cmp (listD x = some ds)) : lOfn i γ = some (ds, γ) := by
  have h : view γ i = some x := h
  have k : listD x = some ds := k
  simp only [lOfn, h, k]
theorem q_wOfL (h : f γ = some (.list ds, γ1)) : wOf f γ = some (ds, γ1) := by simp only [wOf, h]
theorem q_wOfT (h : f γ = some (.tuple ds, γ1)) : wOf f γ = some (ds, γ1) := by simp only [wOf, h]
theorem q_wOfS {l : List Nat} (h : f γ = some (Tn l, γ1)) : wOf f γ = some (l.map fun c => Tn [c], γ1) := tx_wof h
theorem q_wR1 {k : Int} (h : f γ = some (.int k, γ1)) (s : Cmp (small62 k = true)) : wR1 f γ = some (rngD 0 k.toNat, γ1) := by
  have s : small62 k = true := s
  simp only [wR1, h, s, if_true]
theorem q_wR2 {k l : Int} (h : fa γ = some ([.int k, .int l], γ1)) (s : Cmp ((small62 k && small62 l) = true)) : wR2 fa γ = some (rngD k (l - k).toNat, γ1) := by
  have s : (small62 k && small62 l) = true := s
  simp only [wR2, h, s, if_true]
theorem q_wEnumL (h : f γ = some (.list ds, γ1)) : wEnum f γ = some (enumL 0 ds, γ1) := by simp only [wEnum, h]
theorem q_wEnumT (h : f γ = some (.tuple ds, γ1)) : wEnum f γ = some (enumL 0 ds, γ1) := by simp only [wEnum, h]
theorem q_ofB (h : f γ = some (.bool b, γ1)) : ofB f γ = some (b, γ1) := by simp only [ofB, h]
theorem q_cNot (h : u γ = some (b, γ1)) : cNot u γ = some (!b, γ1) := by simp only [cNot, h]
theorem q_cAndT (h : u γ = some (b, γ1)) (hb : Ask (b = true)) (k : v γ1 = some (c, γ2)) : cAnd u v γ = some (c, γ2) := by
  have hb : b = true := hb
  subst hb
  simp only [cAnd, h, k]
theorem q_cAndF (h : u γ = some (b, γ1)) (hb : Ask (b = false)) : cAnd u v γ = some (false, γ1) := by
  have hb : b = false := hb
  subst hb
  simp only [cAnd, h]
theorem q_cOrF (h : u γ = some (b, γ1)) (hb : Ask (b = false)) (k : v γ1 = some (c, γ2)) : cOr u v γ = some (c, γ2) := by
  have hb : b = false := hb
  subst hb
  simp only [cOr, h, k]
theorem q_cOrT (h : u γ = some (b, γ1)) (hb : Ask (b = true)) : cOr u v γ = some (true, γ1) := by
  have hb : b = true := hb
  subst hb
  simp only [cOr, h]
theorem q_cTru (h : f γ = some (d, γ1)) (k : Cmp (truD d = some b)) : cTru f γ = some (b, γ1) := by
  have k : truD d = some b := k
  simp only [cTru, h, k]
theorem q_cTrun (h : Cmp (view γ i = some d)) (k : Cmp (truD d = some b)) : cTrun i γ = some (b, γ) := by
  have h : view γ i = some d := h
  have k : truD d = some b := k
  simp only [cTrun, h, k]
theorem q_tYe : tYe γ = some (true, γ) := rfl
-- statements
theorem q_seq {o : Option Out} (h : S γ = some (.nx γ1)) (k : T γ1 = o) : sSeq S T γ = o := (seq_nx h).trans k
theorem q_seqRt (h : S γ = some (.rt d γ1)) : sSeq S T γ = some (.rt d γ1) := seq_rt h
theorem q_seqRs {cl : Str} {fs : List (Str × D)} (h : S γ = some (.rs cl fs γ1)) : sSeq S T γ = some (.rs cl fs γ1) := by
  unfold sSeq
  rw [h]
theorem q_seqCt (h : S γ = some (.ct γ1)) : sSeq S T γ = some (.ct γ1) := by
  unfold sSeq
  rw [h]
theorem q_seqBk (h : S γ = some (.bk γ1)) : sSeq S T γ = some (.bk γ1) := by
  unfold sSeq
  rw [h]
theorem q_asg (h : f γ = some (d, γ1)) (k : Cmp (tg d γ1 = some γ2)) : sAsg f tg γ = some (.nx γ2) := by
  have k : tg d γ1 = some γ2 := k
  simp only [sAsg, h, k]
theorem q_own (h : fa γ = some (ds, γ1)) (k : Cmp (pinB γ1 i = false)) (s : Cmp (γ1.set i (some (.own false ds)) = γ2)) : sOwn i fa γ = some (.nx γ2) := by
  have k : pinB γ1 i = false := k
  have s : γ1.set i (some (.own false ds)) = γ2 := s
  simp only [sOwn, h, k, s]
  rfl
theorem q_app (h0 : Cmp (gt γ i = some (.ow b0 (.lst es)))) (h : f γ = some (d, γ1)) (h1 : Cmp (gt γ1 i = some (.ow b (.lst ds)))) (k : Cmp (okN ds.length = true)) (s : Cmp (γ1.set i (some (.own b (ds ++ [d]))) = γ2)) : sApp i f γ = some (.nx γ2) := by
  have h0 : gt γ i = some (.ow b0 (.lst es)) := h0
  have h1 : gt γ1 i = some (.ow b (.lst ds)) := h1
  have k : okN ds.length = true := k
  have s : γ1.set i (some (.own b (ds ++ [d]))) = γ2 := s
  simp only [sApp, h0, h, h1, k, if_true, s]
theorem q_set {k : Int} {l : Nat} (h : f γ = some (d, γ1)) (h0 : Cmp (gt γ1 i = some (.ow b0 (.lst es)))) (h1 : g γ1 = some (.int k, γ2)) (h2 : Cmp (gt γ2 i = some (.ow b (.lst ds)))) (hk : Cmp (ixN ds.length k = some l)) (s : Cmp (γ2.set i (some (.own b (ds.set l d))) = γ3)) : sSet i f g γ = some (.nx γ3) := by
  have h0 : gt γ1 i = some (.ow b0 (.lst es)) := h0
  have h2 : gt γ2 i = some (.ow b (.lst ds)) := h2
  have hk : ixN ds.length k = some l := hk
  have s : γ2.set i (some (.own b (ds.set l d))) = γ3 := s
  simp only [sSet, h, h0, h1, h2, hk, s]
theorem q_ret (h : f γ = some (d, γ1)) : sRet f γ = some (.rt d γ1) := by simp only [sRet, h]
theorem q_retN : sRetN γ = some (.rt .none γ) := rfl
theorem q_sNil : sNil γ = some (.nx γ) := rfl
theorem q_sBk : sBk γ = some (.bk γ) := rfl
theorem q_sCt : sCt γ = some (.ct γ) := rfl
theorem q_drop (h : f γ = some (d, γ1)) : sDrop f γ = some (.nx γ1) := by simp only [sDrop, h]
theorem q_if_t {o : Option Out} (h : u γ = some (b, γ1)) (hb : Ask (b = true)) (k : S γ1 = o) : sIf u S T γ = o := by
  have hb : b = true := hb
  subst hb
  simp only [sIf, h, k]
theorem q_if_f {o : Option Out} (h : u γ = some (b, γ1)) (hb : Ask (b = false)) (k : T γ1 = o) : sIf u S T γ = o := by
  have hb : b = false := hb
  subst hb
  simp only [sIf, h, k]
theorem q_for {o : Option Out} (h : fa γ = some (ds, γ1)) (k : Ask (forF tg S ds γ1 = o)) : sFor fa tg S γ = o := by
  have k : forF tg S ds γ1 = o := k
  simp only [sFor, h, k]
theorem q_aug {a c : Int} {opi : Int → Int → Int} (h0 : Cmp (gt γ i = some (.dat (.int a)))) (h : f γ = some (.int c, γ1)) (k : Cmp (pinB γ1 i = false)) (s : Cmp (γ1.set i (some (.dat (.int (opi a c)))) = γ2)) : sAug opi i f γ = some (.nx γ2) := by
  have h0 : gt γ i = some (.dat (.int a)) := h0
  have k : pinB γ1 i = false := k
  have s : γ1.set i (some (.dat (.int (opi a c)))) = γ2 := s
  simp only [sAug, h0, h, k, s]
  rfl
theorem q_ext (h0 : Cmp (gt γ i = some (.ow b0 (.lst ds)))) (h : fa γ = some (es, γ1)) (h1 : Cmp (gt γ1 i = some (.ow b (.lst out)))) (k : Cmp (okN (out.length + es.length) = true)) (s : Cmp (γ1.set i (some (.own b (out ++ es))) = γ2)) : sExt i fa γ = some (.nx γ2) := by
  have h0 : gt γ i = some (.ow b0 (.lst ds)) := h0
  have h1 : gt γ1 i = some (.ow b (.lst out)) := h1
  have k : okN (out.length + es.length) = true := k
  have s : γ1.set i (some (.own b (out ++ es))) = γ2 := s
  unfold sExt
  simp only [h0, h, h1, k, if_true, s]
-- what may raise
variable {fr gr : Fr} {fs : Frs} {cl : Str} {xs : List (Str × D)}
theorem q_rEv (h : f γ = some (d, γ1)) : rEv f γ = some (.da d, γ1) := by simp only [rEv, h]
theorem q_rsEv (h : fa γ = some (ds, γ1)) : rsEv fa γ = some (.da ds, γ1) := by simp only [rsEv, h]
theorem q_rsNil : rsNil γ = some (.da [], γ) := rfl
theorem q_rsCons (h : fr γ = some (.da d, γ1)) (k : fs γ1 = some (.da ds, γ2)) : rsCons fr fs γ = some (.da (d :: ds), γ2) := by simp only [rsCons, h, k]
theorem q_rOnX (h : fs γ = some (.da ds, γ1)) (hn : Cmp (ds.length = n)) (hf : Ask (FX none ds = some (.da d, none))) : rOn fs (kCallX n FX) γ = some (.da d, γ1) := by
  have hn : ds.length = n := hn
  have hf : FX none ds = some (.da d, none) := hf
  simp only [rOn, h, kCallX, hn, if_true, hf]
theorem q_rOnXe (h : fs γ = some (.da ds, γ1)) (hn : Cmp (ds.length = n)) (hf : Ask (FX none ds = some (.er cl xs, none))) : rOn fs (kCallX n FX) γ = some (.er cl xs, γ1) := by
  have hn : ds.length = n := hn
  have hf : FX none ds = some (.er cl xs, none) := hf
  simp only [rOn, h, kCallX, hn, if_true, hf]
theorem q_r2 (h : fr γ = some (.da x, γ1)) (k : gr γ1 = some (.da y, γ2)) (o : Cmp (op x y = some z)) : r2 op fr gr γ = some (.da z, γ2) := by
  have o : op x y = some z := o
  simp only [r2, h, k, o]
theorem q_r2e (h : fr γ = some (.da x, γ1)) (k : gr γ1 = some (.er cl xs, γ2)) : r2 op fr gr γ = some (.er cl xs, γ2) := by
  simp only [r2, h, k]
theorem q_r1 (h : fr γ = some (.da x, γ1)) (o : Cmp (o1 x = some z)) : r1 o1 fr γ = some (.da z, γ1) := by
  have o : o1 x = some z := o
  simp only [r1, h, o]
theorem q_retE (h : fr γ = some (.da d, γ1)) : sRetE fr γ = some (.rt d γ1) := by simp only [sRetE, h]
theorem q_retEe (h : fr γ = some (.er cl xs, γ1)) : sRetE fr γ = some (.rs cl xs γ1) := by simp only [sRetE, h]
theorem q_dropE (h : fr γ = some (.da d, γ1)) : sDropE fr γ = some (.nx γ1) := by simp only [sDropE, h]
theorem q_dropEe (h : fr γ = some (.er cl xs, γ1)) : sDropE fr γ = some (.rs cl xs γ1) := by simp only [sDropE, h]
theorem q_asgE (h : fr γ = some (.da d, γ1)) (k : Cmp (tg d γ1 = some γ2)) : sAsgE fr tg γ = some (.nx γ2) := by
  have k : tg d γ1 = some γ2 := k
  simp only [sAsgE, h, k]
theorem q_asgEe (h : fr γ = some (.er cl xs, γ1)) : sAsgE fr tg γ = some (.rs cl xs γ1) := by simp only [sAsgE, h]
theorem q_raise {fld : Str} (h : f γ = some (d, γ1)) (k : Cmp (mkB d = true)) : sRaise (fMk cl fld f) γ = some (.rs cl [(fld, d)] γ1) := by
  have k : mkB d = true := k
  simp only [sRaise, fMk, h, k, if_true]
theorem q_run {m : Nat} (h0 : Cmp (ini false m ds = γ)) (h : S γ = some (.rt d γ1)) : runF false m S ds = some (d, []) := by
  have h0 : ini false m ds = γ := h0
  simp only [runF, h0, h]
  rfl
theorem q_runX {m : Nat} (h0 : Cmp (iniX none m ds = γ)) (h : S γ = some (.rt d γ1)) : runX m S none ds = some (.da d, none) := by
  have h0 : iniX none m ds = γ := h0
  simp only [runX, h0, h]
  rfl
theorem q_runXe {m : Nat} (h0 : Cmp (iniX none m ds = γ)) (h : S γ = some (.rs cl xs γ1)) : runX m S none ds = some (.er cl xs, none) := by
  have h0 : iniX none m ds = γ := h0
  simp only [runX, h0, h]
  rfl
theorem q_runXn {m : Nat} (h0 : Cmp (iniX none m ds = γ)) (h : S γ = some (.nx γ1)) : runX m S none ds = some (.da .none, none) := by
  have h0 : iniX none m ds = γ := h0
  simp only [runX, h0, h]
  rfl
end
end DN
namespace DN
open PySem PySem.Spec PyProof.Rows L2
def topS (i : Nat) : Stmt := PySem.Challenge.pw_railshut_k16_short_texts.main.body.getD i (.Pass ⟨0, 0, 0, 0⟩)
/-! ### _law_short -/
abbrev s__law_short : Stmt := topS 19
abbrev N__law_short : List Str := ["row", "text", "at", "many"]
theorem sc__law_short : FnScope N__law_short ["row"] (defScope s__law_short) := ⟨rfl, rfl, rfl, by decide +kernel, rfl, by decide +kernel, by decide +kernel⟩
def L1__law_short : Fs := (sAsg (f2n addD 3 (fC (.int 1))) (gDat 3))
def L2__law_short : Fs := (sSeq (sAsg (fC (.int 1)) (gDat 3))
    (sSeq (whileF (cAnd (ofB (f2 ltD (f2nn addD 2 3) (f1n lenD 0))) (ofB (f2 eqD (f2n ixX 0 (f2nn addD 2 3)) (f2nn ixX 0 2)))) L1__law_short 1000000)
    (sSeq (sAsg (f2 addD (f2n addD 1 (f2nn ixX 0 2)) (f2 ixX (fL (lDisp (aCons (f1n strD 3) (aCons (fC (.str "")) aNil)))) (f1 intD (f2n eqD 3 (fC (.int 1)))))) (gDat 1))
    (sAsg (f2nn addD 2 3) (gDat 2)))))
def B__law_short : Fs := (sSeq (sAsg (fC (.str "")) (gDat 1))
    (sSeq (sAsg (fC (.int 0)) (gDat 2))
    (sSeq (whileF (ofB (f2n ltD 2 (f1n lenD 0))) L2__law_short 1000000)
    (sRet (fN 1)))))
def F__law_short : Fun' := runF false 3 B__law_short
theorem fn__law_short {P : Program} {w : World} {K : PySem.W.Frag} {mg : Str → Option Value} {base : Heap} {f : Addr} {fd : FuncData} (Fu : Fun K "_law_short" "_law_short" s__law_short f fd) (z_int : mg "int" = none) (z_len : mg "len" = none) (z_str : mg "str" = none)  :
    FnG P w K mg base 1 f fd ["row"] false F__law_short :=
  fnG_of Fu sc__law_short rfl (does_run _ _ _) fun cdv A outer s H hG hr =>
    (ess_cons (es_set 1 sc__law_short.nd rfl (by first | exact Or.inl rfl | exact Or.inr rfl) ev_str)
    (ess_cons (es_set 2 sc__law_short.nd rfl (by first | exact Or.inl rfl | exact Or.inr rfl) ev_int)
    (ess_cons (es_while 1000000 PassesOwn.never (et2n x_lt o_cmp (nomark _) (pv 2) (ev_callBn o_len x_len z_len (by rfl) (by decide +kernel) (pv 0))) (ess_cons (es_set 3 sc__law_short.nd rfl (by first | exact Or.inl rfl | exact Or.inr rfl) ev_int)
    (ess_cons (es_while 1000000 PassesOwn.never (et_w (ew_and (et2 x_lt o_cmp (nomark _) (ev2nn x_add o_add (pv 2) (pv 3)) (ev_callBn o_len x_len z_len (by rfl) (by decide +kernel) (pv 0))) (ew_and1 (et2 (x_eq hr.units) o_eq (nomark _) (dixn hr (pv 0) (ev2nn x_add o_add (pv 2) (pv 3)) (fun _ _ => rfl)) (dixnn hr (pv 0) (pv 2) (fun _ _ => rfl)))))) (ess_one (es_set 3 sc__law_short.nd rfl (by first | exact Or.inl rfl | exact Or.inr rfl) (ev2n x_add o_add (pv 3) ev_int))))
    (ess_cons (es_set 1 sc__law_short.nd rfl (by first | exact Or.inl rfl | exact Or.inr rfl) (ev2 x_add o_add (ev2n x_add o_add (pv 1) (dixnn hr (pv 0) (pv 2) (fun _ _ => rfl))) (dix hr (ev_L (el_disp (ea_cons (ev_callTn o_str call_str_int z_str (by rfl) (by decide +kernel) (pv 3)) (ea_cons ev_str ea_nil)))) (ev_callT o_int call_int1 z_int (by rfl) (by decide +kernel) (ec2n (x_eq hr.units) o_eq (nomark _) (pv 3) ev_int)) (fun _ _ => rfl))))
    (ess_one (es_set 2 sc__law_short.nd rfl (by first | exact Or.inl rfl | exact Or.inr rfl) (ev2nn x_add o_add (pv 2) (pv 3))))))))
    (ess_one (es_ret (ev_name 1))))))
/-! ### _law_cell -/
abbrev s__law_cell : Stmt := topS 14
abbrev N__law_cell : List Str := ["script", "k"]
theorem sc__law_cell : FnScope N__law_cell ["script", "k"] (defScope s__law_cell) := ⟨rfl, rfl, rfl, by decide +kernel, rfl, by decide +kernel, by decide +kernel⟩
def B__law_cell : Fs := (sSeq (sIf (ofB (f2n ltD 1 (f1n lenD 0))) (sRet (f2nn ixX 0 1)) sNil)
    (sRet (fC (.int 0))))
def F__law_cell : Fun' := runF false 0 B__law_cell
theorem fn__law_cell {P : Program} {w : World} {K : PySem.W.Frag} {mg : Str → Option Value} {base : Heap} {f : Addr} {fd : FuncData} (Fu : Fun K "_law_cell" "_law_cell" s__law_cell f fd) (z_len : mg "len" = none)  :
    FnG P w K mg base 1 f fd ["script", "k"] false F__law_cell :=
  fnG_of Fu sc__law_cell rfl (does_run _ _ _) fun cdv A outer s H hG hr =>
    (ess_cons (es_if (et2n x_lt o_cmp (nomark _) (pv 1) (ev_callBn o_len x_len z_len (by rfl) (by decide +kernel) (pv 0))) (ess_one (es_ret (dixnn hr (pv 0) (pv 1) (fun _ _ => rfl)))) ess_nil)
    (ess_one (es_ret ev_int)))
/-! ### _law_digits -/
abbrev s__law_digits : Stmt := topS 17
abbrev N__law_digits : List Str := ["script", "first", "last", "digits", "k", "cell", "turn", "seed"]
theorem sc__law_digits : FnScope N__law_digits ["script", "first", "last"] (defScope s__law_digits) := ⟨rfl, rfl, rfl, by decide +kernel, rfl, by decide +kernel, by decide +kernel⟩
def L1__law_digits : Fs := (sIf (ofB (f2n gtD 5 (fC (.int 0)))) (sSeq (sApp 3 (f2 modD (f1n intD 5) (fC (.int 1000))))
    (sAsg (f2n fdivD 5 (fC (.int 1000))) (gDat 5))) sNil)
def L2__law_digits : Fs := (sSeq (sAsg (f2 modD (f1 intD (f2 addD (f2 addD (f2n mulD 7 (fC (.int 16807))) (f2m mulD (fC (.int 7)) 6)) (fC (.int 1)))) (fC (.int 2147483647))) (gDat 7))
    (sApp 3 (f2 modD (f1 intD (f2n fdivD 7 (fC (.int 997)))) (fC (.int 1000)))))
def L3__law_digits : Fs := (sSeq (sAsg (fCall 2 F__law_cell (aCons (fN 0) (aCons (fN 4) aNil))) (gDat 5))
    (sSeq (sIf (ofB (f2n ltD 5 (fC (.int 0)))) (sAsg (f2 subD (fC (.int 1)) (f2m mulD (fC (.int 2)) 5)) (gDat 5)) sNil)
    (sIf (ofB (f2n geD 5 (f2 powD (fC (.int 10)) (fC (.int 18))))) (sFor (wR1 (fC (.int 60))) (gDat 6) L1__law_digits) (sSeq (sAsg (f2 modD (f1 intD (f2 addD (f2 addD (f2n mulD 5 (fC (.int 48271))) (f2n mulD 4 (fC (.int 69621)))) (fC (.int 11)))) (fC (.int 2147483647))) (gDat 7))
    (sFor (wR1 (fC (.int 12))) (gDat 6) L2__law_digits)))))
def B__law_digits : Fs := (sSeq (sOwn 3 (lDisp aNil))
    (sSeq (sFor (wR2 (aCons (fN 1) (aCons (fN 2) aNil))) (gDat 4) L3__law_digits)
    (sRet (fN 3))))
def F__law_digits : Fun' := runF false 5 B__law_digits
theorem fn__law_digits {P : Program} {w : World} {K : PySem.W.Frag} {mg : Str → Option Value} {base : Heap} {f : Addr} {fd : FuncData} (Fu : Fun K "_law_digits" "_law_digits" s__law_digits f fd) (z_int : mg "int" = none) (z_range : mg "range" = none) (C__law_cell : Cal P w K mg base "_law_cell" 1 ["script", "k"] false F__law_cell) :
    FnG P w K mg base 2 f fd ["script", "first", "last"] false F__law_digits :=
  fnG_of Fu sc__law_digits rfl (does_run _ _ _) fun cdv A outer s H hG hr =>
    (ess_cons (es_own 3 sc__law_digits.nd rfl (by first | exact Or.inl rfl | exact Or.inr rfl) (el_disp ea_nil))
    (ess_cons (es_for PassesOwn.never rfl (ei_r2 z_range (by rfl) (ea_cons (ev_name 1) (ea_cons (ev_name 2) ea_nil))) (eg_name 4 sc__law_digits.nd rfl (by first | exact Or.inl rfl | exact Or.inr rfl)) (ess_cons (es_set 5 sc__law_digits.nd rfl (by first | exact Or.inl rfl | exact Or.inr rfl) (ev_call C__law_cell (hr.mono (by decide)) hG (by rfl) (ea_cons (ev_name 0) (ea_cons (ev_name 4) ea_nil))))
    (ess_cons (es_if (et2n x_lt o_cmp (nomark _) (pv 5) ev_int) (ess_one (es_set 5 sc__law_digits.nd rfl (by first | exact Or.inl rfl | exact Or.inr rfl) (ev2 op_sub o_sub ev_int (ev2m x_mul o_mul ev_int (pv 5))))) ess_nil)
    (ess_one (es_if (et2n x_ge o_cmp (nomark _) (pv 5) (ev2 op_pow o_pow ev_int ev_int)) (ess_one (es_for PassesOwn.never rfl (ei_r1 z_range (by rfl) ev_int) (eg_name 6 sc__law_digits.nd rfl (by first | exact Or.inl rfl | exact Or.inr rfl)) (ess_one (es_if (et2n x_gt o_cmp (nomark _) (pv 5) ev_int) (ess_cons (es_app 3 (pv 3) (ev2 op_mod o_mod (ev_callTn o_int call_int1 z_int (by rfl) (by decide +kernel) (pv 5)) ev_int))
    (ess_one (es_set 5 sc__law_digits.nd rfl (by first | exact Or.inl rfl | exact Or.inr rfl) (ev2n op_fdiv o_fdiv (pv 5) ev_int)))) ess_nil)))) (ess_cons (es_set 7 sc__law_digits.nd rfl (by first | exact Or.inl rfl | exact Or.inr rfl) (ev2 op_mod o_mod (ev_callT o_int call_int1 z_int (by rfl) (by decide +kernel) (ev2 x_add o_add (ev2 x_add o_add (ev2n x_mul o_mul (pv 5) ev_int) (ev2n x_mul o_mul (pv 4) ev_int)) ev_int)) ev_int))
    (ess_one (es_for PassesOwn.never rfl (ei_r1 z_range (by rfl) ev_int) (eg_name 6 sc__law_digits.nd rfl (by first | exact Or.inl rfl | exact Or.inr rfl)) (ess_cons (es_set 7 sc__law_digits.nd rfl (by first | exact Or.inl rfl | exact Or.inr rfl) (ev2 op_mod o_mod (ev_callT o_int call_int1 z_int (by rfl) (by decide +kernel) (ev2 x_add o_add (ev2 x_add o_add (ev2n x_mul o_mul (pv 7) ev_int) (ev2m x_mul o_mul ev_int (pv 6))) ev_int)) ev_int))
    (ess_one (es_app 3 (pv 3) (ev2 op_mod o_mod (ev_callT o_int call_int1 z_int (by rfl) (by decide +kernel) (ev2n op_fdiv o_fdiv (pv 7) ev_int)) ev_int))))))))))))
    (ess_one (es_ret (ev_name 3)))))
/-! ### _law_draw -/
abbrev s__law_draw : Stmt := topS 18
abbrev N__law_draw : List Str := ["box", "many", "at"]
theorem sc__law_draw : FnScope N__law_draw ["box", "many"] (defScope s__law_draw) := ⟨rfl, rfl, rfl, by decide +kernel, rfl, by decide +kernel, by decide +kernel⟩
def B__law_draw : Fs := (sSeq (sAsg (f2n ixX 0 (fC (.int 1))) (gDat 2))
    (sSeq (sSet 0 (f2n addD 2 (fC (.int 1))) (fC (.int 1)))
    (sSeq (sIf (ofB (f2n ltD 2 (f1 lenD (f2n ixX 0 (fC (.int 0)))))) (sRet (f2m modD (f1 intD (f2m ixX (f2n ixX 0 (fC (.int 0))) 2)) 1)) sNil)
    (sRet (f2m modD (f1 intD (f2 addD (f2n mulD 2 (fC (.int 7))) (fC (.int 3)))) 1)))))
def F__law_draw : Fun' := runF true 1 B__law_draw
theorem fn__law_draw {P : Program} {w : World} {K : PySem.W.Frag} {mg : Str → Option Value} {base : Heap} {f : Addr} {fd : FuncData} (Fu : Fun K "_law_draw" "_law_draw" s__law_draw f fd) (z_int : mg "int" = none) (z_len : mg "len" = none)  :
    FnG P w K mg base 1 f fd ["box", "many"] true F__law_draw :=
  fnG_of Fu sc__law_draw rfl (does_run _ _ _) fun cdv A outer s H hG hr =>
    (ess_cons (es_set 2 sc__law_draw.nd rfl (by first | exact Or.inl rfl | exact Or.inr rfl) (dixn hr (pv 0) ev_int (fun _ _ => rfl)))
    (ess_cons (es_item 0 (ev2n x_add o_add (pv 2) ev_int) (pv 0) ev_int)
    (ess_cons (es_if (et2n x_lt o_cmp (nomark _) (pv 2) (ev_callB o_len x_len z_len (by rfl) (by decide +kernel) (dixn hr (pv 0) ev_int (fun _ _ => rfl)))) (ess_one (es_ret (ev2m op_mod o_mod (ev_callT o_int call_int1 z_int (by rfl) (by decide +kernel) (dixm hr (dixn hr (pv 0) ev_int (fun _ _ => rfl)) (pv 2) (fun _ _ => rfl))) (pv 1)))) ess_nil)
    (ess_one (es_ret (ev2m op_mod o_mod (ev_callT o_int call_int1 z_int (by rfl) (by decide +kernel) (ev2 x_add o_add (ev2n x_mul o_mul (pv 2) ev_int) ev_int)) (pv 1)))))))
def c_DIGITS : D := .str "0123456789"
/-! ### _end_of_number -/
abbrev s__end_of_number : Stmt := topS 10
abbrev N__end_of_number : List Str := ["text", "at"]
theorem sc__end_of_number : FnScope N__end_of_number ["text", "at"] (defScope s__end_of_number) := ⟨rfl, rfl, rfl, by decide +kernel, rfl, by decide +kernel, by decide +kernel⟩
def L1__end_of_number : Fs := (sAug (fun i j => i + j) 1 (fC (.int 1)))
def B__end_of_number : Fs := (sSeq (whileF (cAnd (ofB (f2n ltD 1 (f1n lenD 0))) (ofB (f2 inX (f2nn ixX 0 1) (fC c_DIGITS)))) L1__end_of_number 1000000)
    (sRet (fN 1)))
def F__end_of_number : Fun' := runF false 0 B__end_of_number
theorem fn__end_of_number {P : Program} {w : World} {K : PySem.W.Frag} {mg : Str → Option Value} {base : Heap} {f : Addr} {fd : FuncData} (Fu : Fun K "_end_of_number" "_end_of_number" s__end_of_number f fd) (z_len : mg "len" = none) {u_DIGITS : Value} (V_DIGITS : VD K u_DIGITS c_DIGITS) (g_DIGITS : mg "DIGITS" = some u_DIGITS)  :
    FnG P w K mg base 1 f fd ["text", "at"] false F__end_of_number :=
  fnG_of Fu sc__end_of_number rfl (does_run _ _ _) fun cdv A outer s H hG hr =>
    (ess_cons (es_while 1000000 PassesOwn.never (et_w (ew_and (et2n x_lt o_cmp (nomark _) (pv 1) (ev_callBn o_len x_len z_len (by rfl) (by decide +kernel) (pv 0))) (ew_and1 (et2 (x_inX hr) o_inX (by rfl) (dixnn hr (pv 0) (pv 1) (fun _ _ => rfl)) (ev_glob V_DIGITS g_DIGITS (by rfl)))))) (ess_one (es_aug ip_add 1 sc__end_of_number.nd rfl (by first | exact Or.inl rfl | exact Or.inr rfl) ev_int)))
    (ess_one (es_ret (ev_name 1))))
/-! ### _runs -/
abbrev s__runs : Stmt := topS 9
abbrev N__runs : List Str := ["row", "runs", "letter"]
theorem sc__runs : FnScope N__runs ["row"] (defScope s__runs) := ⟨rfl, rfl, rfl, by decide +kernel, rfl, by decide +kernel, by decide +kernel⟩
def L1__runs : Fs := (sIf (cAnd (cTrun 1) (ofB (f2m eqD (f2 ixX (f2n ixX 1 (fNeg (fC (.int 1)))) (fC (.int 0))) 2))) (sSet 1 (fTup (aCons (fN 2) (aCons (f2 addD (f2 ixX (f2n ixX 1 (fNeg (fC (.int 1)))) (fC (.int 1))) (fC (.int 1))) aNil))) (fNeg (fC (.int 1)))) (sApp 1 (fTup (aCons (fN 2) (aCons (fC (.int 1)) aNil)))))
def B__runs : Fs := (sSeq (sOwn 1 (lDisp aNil))
    (sSeq (sFor (wOf (fN 0)) (gDat 2) L1__runs)
    (sRet (fN 1))))
def F__runs : Fun' := runF false 2 B__runs
theorem fn__runs {P : Program} {w : World} {K : PySem.W.Frag} {mg : Str → Option Value} {base : Heap} {f : Addr} {fd : FuncData} (Fu : Fun K "_runs" "_runs" s__runs f fd)   :
    FnG P w K mg base 1 f fd ["row"] false F__runs :=
  fnG_of Fu sc__runs rfl (does_run _ _ _) fun cdv A outer s H hG hr =>
    (ess_cons (es_own 1 sc__runs.nd rfl (by first | exact Or.inl rfl | exact Or.inr rfl) (el_disp ea_nil))
    (ess_cons (es_for PassesOwn.never rfl (ei_seq (ev_name 0)) (eg_name 2 sc__runs.nd rfl (by first | exact Or.inl rfl | exact Or.inr rfl)) (ess_one (es_if (et_w (ew_and (et_trun (pv 1)) (ew_and1 (et2m (x_eq hr.units) o_eq (nomark _) (dix hr (dixn hr (pv 1) (ev_neg ev_int) (fun _ _ => rfl)) ev_int (fun _ _ => rfl)) (pv 2))))) (ess_one (es_item 1 (ev_tup (ea_cons (ev_name 2) (ea_cons (ev2 x_add o_add (dix hr (dixn hr (pv 1) (ev_neg ev_int) (fun _ _ => rfl)) ev_int (fun _ _ => rfl)) ev_int) ea_nil))) (pv 1) (ev_neg ev_int))) (ess_one (es_app 1 (pv 1) (ev_tup (ea_cons (ev_name 2) (ea_cons ev_int ea_nil))))))))
    (ess_one (es_ret (ev_name 1)))))
/-! ### short_text -/
abbrev s_short_text : Stmt := topS 7
abbrev N_short_text : List Str := ["row", "letter", "many"]
theorem sc_short_text : FnScope N_short_text ["row"] (defScope s_short_text) := ⟨rfl, rfl, rfl, by decide +kernel, rfl, by decide +kernel, by decide +kernel⟩
def E1_short_text : Fe := (f2n addD 1 (fIf (ofB (f2n gtD 2 (fC (.int 1)))) (f1n strD 2) (fC (.str ""))))
def B_short_text : Fs := (sRet (f1 (joinD "") (fL (lLc [1, 2] (gTp 2 (gsCons (gDat 1) (gsCons (gDat 2) gsNo))) (wOf (fCall 1 F__runs (aCons (fN 0) aNil))) tYe E1_short_text))))
def F_short_text : Fun' := runF false 2 B_short_text
theorem fn_short_text {P : Program} {w : World} {K : PySem.W.Frag} {mg : Str → Option Value} {base : Heap} {f : Addr} {fd : FuncData} (Fu : Fun K "short_text" "short_text" s_short_text f fd) (z_str : mg "str" = none) (C__runs : Cal P w K mg base "_runs" 1 ["row"] false F__runs) :
    FnG P w K mg base 2 f fd ["row"] false F_short_text :=
  fnG_of Fu sc_short_text rfl (does_run _ _ _) fun cdv A outer s H hG hr =>
    (ess_one (es_ret (ev_join (ev_L (el_lc (js := [1, 2]) rfl (tg_pair 1 2) rfl sc_short_text.nd (ei_seq (ev_call C__runs (hr.mono (by decide)) hG (by rfl) (ea_cons (ev_name 0) ea_nil))) (blkOk_by (own := [("letter", 1), ("many", 2)]) (N := N_short_text) (sc := defScope s_short_text) (by decide +kernel)) (fun _ _ _ _ _ => pg_tup rfl (pgs_cons (pg_name (i := 1) sc_short_text.nd rfl (Or.inl rfl)) (pgs_cons (pg_name (i := 2) sc_short_text.nd rfl (Or.inl rfl)) pgs_nil))) (fun _ _ _ _ _ => ets_nil) (fun _ _ _ _ _ => (ev2n x_add o_add (pv 1) (ev_if (et2n x_gt o_cmp (nomark _) (pv 2) ev_int) (ev_callTn o_str call_str_int z_str (by rfl) (by decide +kernel) (pv 2)) ev_str))))))))
def c_LETTERS : D := .str "HLRS"
/-! ### _run_told -/
abbrev s__run_told : Stmt := topS 11
abbrev N__run_told : List Str := ["letter", "number"]
theorem sc__run_told : FnScope N__run_told ["letter", "number"] (defScope s__run_told) := ⟨rfl, rfl, rfl, by decide +kernel, rfl, by decide +kernel, by decide +kernel⟩
def B__run_told : Fs := (sSeq (sIf (cOr (ofB (f2n notInX 0 (fC c_LETTERS))) (ofB (f2 gtD (f1n lenD 1) (fC (.int 2))))) (sRaise (fMk "BadRow" "reason" (fC (.str "text")))) sNil)
    (sRet (f2n mulTD 0 (f1 intD2 (fOrV (fN 1) (fC (.str "1")))))))
def F__run_told : FunX := runX 0 B__run_told
theorem fn__run_told {P : Program} {w : World} {K : PySem.W.Frag} {mg : Str → Option Value} {base : Heap} {f : Addr} {fd : FuncData} (Fu : Fun K "_run_told" "_run_told" s__run_told f fd) (z_int : mg "int" = none) (z_len : mg "len" = none) {u_LETTERS : Value} (V_LETTERS : VD K u_LETTERS c_LETTERS) (g_LETTERS : mg "LETTERS" = some u_LETTERS) (X_BadRow : ExcN P w K mg base "BadRow" "reason")  :
    FnX P w K mg base 3 f fd ["letter", "number"] F__run_told :=
  fnX_of Fu sc__run_told rfl fun cdv A outer s H E hG hr tk hp =>
    (ess_cons (es_if (et_w (ew_or (et2n (x_notInX hr) o_notInX (by rfl) (pv 0) (ev_glob V_LETTERS g_LETTERS (by rfl))) (ew_or1 (et2 x_gt o_cmp (nomark _) (ev_callBn o_len x_len z_len (by rfl) (by decide +kernel) (pv 1)) ev_int)))) (ess_one (es_raiseM rfl tk (em_own X_BadRow (hr.mono (by decide)) (by rfl) ev_str))) ess_nil)
    (ess_one (es_ret (ev2n x_mulT o_mulT (pv 0) (ev_callT o_int2 call_int2 z_int (by rfl) (by decide +kernel) (ev_orV (ev_name 1) (ev_one ev_str)))))))
def c_LONGEST : D := .int 40
/-! ### read_short -/
abbrev s_read_short : Stmt := topS 8
abbrev N_read_short : List Str := ["text", "row", "at", "after"]
theorem sc_read_short : FnScope N_read_short ["text"] (defScope s_read_short) := ⟨rfl, rfl, rfl, by decide +kernel, rfl, by decide +kernel, by decide +kernel⟩
def L1_read_short : Fs := (sSeq (sAsg (fCall 2 F__end_of_number (aCons (fN 0) (aCons (f2n addD 2 (fC (.int 1))) aNil))) (gDat 3))
    (sSeq (sAsgE (r2 addD (rEv (fN 1)) (rOn (rsEv (aCons (f2nn ixX 0 2) (aCons (fSln 0 (pOf (f2n addD 2 (fC (.int 1)))) (pOf (fN 3))) aNil))) (kCallX 2 F__run_told))) (gDat 1))
    (sSeq (sIf (ofB (f2 gtD (f1n lenD 1) (fC c_LONGEST))) (sRaise (fMk "BadRow" "reason" (fC (.str "text")))) sNil)
    (sAsg (fN 3) (gDat 2)))))
def B_read_short : Fs := (sSeq (sAsg (fC (.str "")) (gDat 1))
    (sSeq (sAsg (fC (.int 0)) (gDat 2))
    (sSeq (whileF (ofB (f2n ltD 2 (f1n lenD 0))) L1_read_short 1000000)
    (sSeq (sIf (ofB (f2m neD (fCall 1 F_short_text (aCons (fN 1) aNil)) 0)) (sRaise (fMk "BadRow" "reason" (fC (.str "text")))) sNil)
    (sRet (fN 1))))))
def F_read_short : FunX := runX 3 B_read_short
theorem fn_read_short {P : Program} {w : World} {K : PySem.W.Frag} {mg : Str → Option Value} {base : Heap} {f : Addr} {fd : FuncData} (Fu : Fun K "read_short" "read_short" s_read_short f fd) (z_len : mg "len" = none) {u_LONGEST : Value} (V_LONGEST : VD K u_LONGEST c_LONGEST) (g_LONGEST : mg "LONGEST" = some u_LONGEST) (X_BadRow : ExcN P w K mg base "BadRow" "reason") (C__end_of_number : Cal P w K mg base "_end_of_number" 1 ["text", "at"] false F__end_of_number) (C__run_told : CalX P w K mg base "_run_told" 3 ["letter", "number"] F__run_told) (C_short_text : Cal P w K mg base "short_text" 2 ["row"] false F_short_text) :
    FnX P w K mg base 4 f fd ["text"] F_read_short :=
  fnX_of Fu sc_read_short rfl fun cdv A outer s H E hG hr tk hp =>
    (ess_cons (es_set 1 sc_read_short.nd rfl (by first | exact Or.inl rfl | exact Or.inr rfl) ev_str)
    (ess_cons (es_set 2 sc_read_short.nd rfl (by first | exact Or.inl rfl | exact Or.inr rfl) ev_int)
    (ess_cons (es_while 1000000 hp (et2n x_lt o_cmp (nomark _) (pv 2) (ev_callBn o_len x_len z_len (by rfl) (by decide +kernel) (pv 0))) (ess_cons (es_set 3 sc_read_short.nd rfl (by first | exact Or.inl rfl | exact Or.inr rfl) (ev_call C__end_of_number (hr.mono (by decide)) hG (by rfl) (ea_cons (ev_name 0) (ea_cons (ev2n x_add o_add (pv 2) ev_int) ea_nil))))
    (ess_cons (es_setE 1 sc_read_short.nd rfl (by first | exact Or.inl rfl | exact Or.inr rfl) (er2 x_add o_add (er_ev (ev_name 1)) (er_callX tk C__run_told (hr.mono (by decide)) hG (by rfl) (ers_ev (ea_cons (dixnn hr (pv 0) (pv 2) (fun _ _ => rfl)) (ea_cons (ev_sln (pv 0) (ep_of (ev2n x_add o_add (pv 2) ev_int)) (ep_of (ev_name 3))) ea_nil))))))
    (ess_cons (es_if (et2 x_gt o_cmp (nomark _) (ev_callBn o_len x_len z_len (by rfl) (by decide +kernel) (pv 1)) (ev_glob V_LONGEST g_LONGEST (by rfl))) (ess_one (es_raiseM rfl tk (em_own X_BadRow (hr.mono (by decide)) (by rfl) ev_str))) ess_nil)
    (ess_one (es_set 2 sc_read_short.nd rfl (by first | exact Or.inl rfl | exact Or.inr rfl) (ev_name 3)))))))
    (ess_cons (es_if (et2m (x_ne hr.units) o_ne (nomark _) (ev_call C_short_text (hr.mono (by decide)) hG (by rfl) (ea_cons (ev_name 1) ea_nil)) (pv 0)) (ess_one (es_raiseM rfl tk (em_own X_BadRow (hr.mono (by decide)) (by rfl) ev_str))) ess_nil)
    (ess_one (es_ret (ev_name 1)))))))
/-! ### _law_told -/
abbrev s__law_told : Stmt := topS 20
abbrev N__law_told : List Str := ["text", "e"]
theorem sc__law_told : FnScope N__law_told ["text"] (defScope s__law_told) := ⟨rfl, rfl, rfl, by decide +kernel, rfl, by decide +kernel, by decide +kernel⟩
def L1__law_told : Fs := (sRetE (rOn (rsEv (aCons (fN 0) aNil)) (kCallX 1 F_read_short)))
def B__law_told : Fs := (sTry 1 (fun c => List.lookup c [("BadRow", true)]) L1__law_told (xRet (xLst (xsCons (xAnd (xIsi [("BadRow", true)]) (xIsi [("BadRow", true)])) (xsCons (xFld ["BadRow"] "reason") xsNil)))))
def F__law_told : FunX := runX 1 B__law_told
theorem fn__law_told {P : Program} {w : World} {K : PySem.W.Frag} {mg : Str → Option Value} {base : Heap} {f : Addr} {fd : FuncData} (Fu : Fun K "_law_told" "_law_told" s__law_told f fd) (z_ValueError : mg "ValueError" = none) (z_isinstance : mg "isinstance" = none) {cE_RailError : Addr} (gE_RailError : mg "RailError" = some (.ref cE_RailError)) (T_RailError : ∀ p ∈ ([("BadRow", true)] : List (Str × Bool)), ExmP K (.ref cE_RailError) p) {cI_BadRow : Addr} (gI_BadRow : mg "BadRow" = some (.ref cI_BadRow)) (I_BadRow : ∀ p ∈ ([("BadRow", true)] : List (Str × Bool)), IsiC K (.ref cI_BadRow) p) (J_ValueError : ∀ p ∈ ([("BadRow", true)] : List (Str × Bool)), IsiC K (.type "ValueError") p) (L_reason : ∀ c ∈ (["BadRow"] : List Str), FldC K "reason" c) (C_read_short : CalX P w K mg base "read_short" 4 ["text"] F_read_short) :
    FnX P w K mg base 5 f fd ["text"] F__law_told :=
  fnX_of Fu sc__law_told rfl fun cdv A outer s H E hG hr tk hp =>
    (ess_one (es_tryAs (i := 1) (m := fun c => List.lookup c [("BadRow", true)]) rfl rfl sc__law_told.nd rfl rfl ⟨rfl, by decide, Or.inl gE_RailError⟩ tk (exm_hm T_RailError)
      (fun W1 pn1 xe1 tk hp => (ess_one (es_retE (er_callX tk C_read_short (hr.mono (by decide)) hG (by rfl) (ers_ev (ea_cons (ev_name 0) ea_nil))))))
      (fun a1 oe1 cls1 d1 pn1 hz1 hf1 => su_of (sxs_one (sx_ret (ex_lst (exs_cons (ex_and (ex_isiC (i := 1) z_isinstance (by rfl) gI_BadRow (by rfl) I_BadRow hz1 hf1 rfl (Or.inl rfl)) (ex_one (ex_isiT (i := 1) z_isinstance (by rfl) z_ValueError (by rfl) (by decide +kernel) J_ValueError hz1 hf1 rfl (Or.inl rfl)))) (exs_cons (ex_fld (i := 1) L_reason hz1 hf1 rfl (Or.inl rfl)) exs_nil))))))))
/-! ### law -/
abbrev s_law : Stmt := topS 21
abbrev N_law : List Str := ["script", "box", "row", "lap", "text", "at", "sign", "turned", "told", "letter", "wrong"]
theorem sc_law : FnScope N_law ["script"] (defScope s_law) := ⟨rfl, rfl, rfl, by decide +kernel, rfl, by decide +kernel, by decide +kernel⟩
def L1_law : Fs := (sAsg (f2n addD 2 (f2 mulTD (f2 ixX (fC (.str "HLRS")) (fCallB 2 F__law_draw 1 (aCons (fC (.int 4)) aNil))) (f2 ixX (fL (lDisp (aCons (fC (.int 1)) (aCons (fC (.int 1)) (aCons (fC (.int 2)) (aCons (fC (.int 3)) (aCons (fC (.int 10)) (aCons (fC (.int 12)) (aCons (fC (.int 19)) aNil))))))))) (fCallB 2 F__law_draw 1 (aCons (fC (.int 7)) aNil))))) (gDat 2))
def E2_law : Fe := (fN 9)
def L3_law : Fs := (sSeq (sAsg (fCallB 2 F__law_draw 1 (aCons (f2 addD (f1n lenD 4) (fC (.int 1))) aNil)) (gDat 5))
    (sSeq (sAsg (f2 ixX (fC (.str "HLRS0123459 l-")) (fCallB 2 F__law_draw 1 (aCons (fC (.int 14)) aNil))) (gDat 6))
    (sSeq (sAsg (f2 ixX (fL (lDisp (aCons (f2 addD (f2m addD (fSln 4 pNo (pOf (fN 5))) 6) (fSln 4 (pOf (fN 5)) pNo)) (aCons (f2 addD (fSln 4 pNo (pOf (fN 5))) (fSln 4 (pOf (f2n addD 5 (fC (.int 1)))) pNo)) (aCons (f2 addD (f2m addD (fSln 4 pNo (pOf (fN 5))) 6) (fSln 4 (pOf (f2n addD 5 (fC (.int 1)))) pNo)) aNil))))) (fCallB 2 F__law_draw 1 (aCons (fC (.int 3)) aNil))) (gDat 7))
    (sSeq (sAsg (fCallX 1 F__law_told (aCons (fN 7) aNil)) (gDat 8))
    (sIf (ofB (f2n neD 8 (fL (lDisp (aCons (fC (.bool true)) (aCons (fC (.str "text")) aNil)))))) (sIf (cOr (cNot (ofB (fIsin "str" 8))) (cOr (ofB (f2 gtD (f1n lenD 8) (fC (.int 40)))) (cOr (ofB (f2 gtD (f1 lenD (fL (lLc [9] (gDat 9) (wOf (fN 8)) (ofB (f2n notInSD 9 (fC (.str "HLRS")))) E2_law))) (fC (.int 0)))) (ofB (f2m neD (fCall 1 F__law_short (aCons (fN 8) aNil)) 7))))) (sRet (fC (.bool false))) sNil) sNil)))))
def B_law : Fs := (sSeq (sOwn 1 (lDisp (aCons (fCall 3 F__law_digits (aCons (fN 0) (aCons (fC (.int 0)) (aCons (fC (.int 50)) aNil)))) (aCons (fC (.int 0)) aNil))))
    (sSeq (sAsg (fC (.str "")) (gDat 2))
    (sSeq (sFor (wR1 (fCallB 2 F__law_draw 1 (aCons (fC (.int 9)) aNil))) (gDat 3) L1_law)
    (sSeq (sAsg (fSln 2 pNo (pOf (fC (.int 40)))) (gDat 2))
    (sSeq (sAsg (fCall 1 F__law_short (aCons (fN 2) aNil)) (gDat 4))
    (sSeq (sIf (cOr (ofB (f2m neD (fCall 1 F_short_text (aCons (fN 2) aNil)) 4)) (ofB (f2m neD (fCallX 1 F__law_told (aCons (fN 4) aNil)) 2))) (sRet (fC (.bool false))) sNil)
    (sSeq (sFor (wR1 (fC (.int 6))) (gDat 3) L3_law)
    (sSeq (sAsg (fL (lDisp (aCons (fC (.str "2")) (aCons (fC (.str "L1")) (aCons (fC (.str "L0")) (aCons (fC (.str "L02")) (aCons (fC (.str "LL")) (aCons (fC (.str "L2L")) (aCons (fC (.str "L41")) (aCons (fC (.str "L40S")) (aCons (fC (.str "L100")) (aCons (fC (.str "s")) (aCons (fC (.str "L 2")) (aCons (fC (.str "L2 ")) (aCons (fC (.str "X")) (aCons (fC (.str "LS41")) (aCons (fC (.str "L2L2")) (aCons (fC (.str "S1L")) (aCons (fC (.str "L21L20")) (aCons (fC (.str "R-2")) aNil)))))))))))))))))))) (gDat 10))
    (sSeq (sIf (ofB (f2 neD (fCallX 1 F__law_told (aCons (f2n ixX 10 (f2 modD (f1 intD (fCallB 2 F__law_draw 1 (aCons (fC (.int 900)) aNil))) (f1n lenD 10))) aNil)) (fL (lDisp (aCons (fC (.bool true)) (aCons (fC (.str "text")) aNil)))))) (sRet (fC (.bool false))) sNil)
    (sRet (fAnd (f2 eqD (fCallX 1 F__law_told (aCons (fC (.str "L40")) aNil)) (f2 mulTD (fC (.str "L")) (fC (.int 40)))) (f2 eqD (fCallX 1 F__law_told (aCons (fC (.str "")) aNil)) (fC (.str ""))))))))))))))
def F_law : Fun' := runF false 10 B_law
theorem fn_law {P : Program} {w : World} {K : PySem.W.Frag} {mg : Str → Option Value} {base : Heap} {f : Addr} {fd : FuncData} (Fu : Fun K "law" "law" s_law f fd) (z_int : mg "int" = none) (z_isinstance : mg "isinstance" = none) (z_len : mg "len" = none) (z_range : mg "range" = none) (z_str : mg "str" = none) (C__law_digits : Cal P w K mg base "_law_digits" 2 ["script", "first", "last"] false F__law_digits) (C__law_draw : Cal P w K mg base "_law_draw" 1 ["box", "many"] true F__law_draw) (C__law_short : Cal P w K mg base "_law_short" 1 ["row"] false F__law_short) (C__law_told : CalX P w K mg base "_law_told" 5 ["text"] F__law_told) (C_short_text : Cal P w K mg base "short_text" 2 ["row"] false F_short_text) :
    FnG P w K mg base 6 f fd ["script"] false F_law :=
  fnG_of Fu sc_law rfl (does_run _ _ _) fun cdv A outer s H hG hr =>
    (ess_cons (es_own 1 sc_law.nd rfl (by first | exact Or.inl rfl | exact Or.inr rfl) (el_disp (ea_cons (ev_call C__law_digits (hr.mono (by decide)) hG (by rfl) (ea_cons (ev_name 0) (ea_cons ev_int (ea_cons ev_int ea_nil)))) (ea_cons ev_int ea_nil))))
    (ess_cons (es_set 2 sc_law.nd rfl (by first | exact Or.inl rfl | exact Or.inr rfl) ev_str)
    (ess_cons (es_for PassesOwn.never rfl (ei_r1 z_range (by rfl) (ev_callO 1 C__law_draw (hr.mono (by decide)) hG (by rfl) (pv 1) (ea_cons ev_int ea_nil))) (eg_name 3 sc_law.nd rfl (by first | exact Or.inl rfl | exact Or.inr rfl)) (ess_one (es_set 2 sc_law.nd rfl (by first | exact Or.inl rfl | exact Or.inr rfl) (ev2n x_add o_add (pv 2) (ev2 x_mulT o_mulT (dix hr ev_str (ev_callO 1 C__law_draw (hr.mono (by decide)) hG (by rfl) (pv 1) (ea_cons ev_int ea_nil)) (fun _ _ => rfl)) (dix hr (ev_L (el_disp (ea_cons ev_int (ea_cons ev_int (ea_cons ev_int (ea_cons ev_int (ea_cons ev_int (ea_cons ev_int (ea_cons ev_int ea_nil))))))))) (ev_callO 1 C__law_draw (hr.mono (by decide)) hG (by rfl) (pv 1) (ea_cons ev_int ea_nil)) (fun _ _ => rfl)))))))
    (ess_cons (es_set 2 sc_law.nd rfl (by first | exact Or.inl rfl | exact Or.inr rfl) (ev_sln (pv 2) ep_no (ep_of ev_int)))
    (ess_cons (es_set 4 sc_law.nd rfl (by first | exact Or.inl rfl | exact Or.inr rfl) (ev_call C__law_short (hr.mono (by decide)) hG (by rfl) (ea_cons (ev_name 2) ea_nil)))
    (ess_cons (es_if (et_w (ew_or (et2m (x_ne hr.units) o_ne (nomark _) (ev_call C_short_text (hr.mono (by decide)) hG (by rfl) (ea_cons (ev_name 2) ea_nil)) (pv 4)) (ew_or1 (et2m (x_ne hr.units) o_ne (nomark _) (ev_callX C__law_told (hr.mono (by decide)) hG (by rfl) (ea_cons (ev_name 4) ea_nil)) (pv 2))))) (ess_one (es_ret ev_bl)) ess_nil)
    (ess_cons (es_for PassesOwn.never rfl (ei_r1 z_range (by rfl) ev_int) (eg_name 3 sc_law.nd rfl (by first | exact Or.inl rfl | exact Or.inr rfl)) (ess_cons (es_set 5 sc_law.nd rfl (by first | exact Or.inl rfl | exact Or.inr rfl) (ev_callO 1 C__law_draw (hr.mono (by decide)) hG (by rfl) (pv 1) (ea_cons (ev2 x_add o_add (ev_callBn o_len x_len z_len (by rfl) (by decide +kernel) (pv 4)) ev_int) ea_nil)))
    (ess_cons (es_set 6 sc_law.nd rfl (by first | exact Or.inl rfl | exact Or.inr rfl) (dix hr ev_str (ev_callO 1 C__law_draw (hr.mono (by decide)) hG (by rfl) (pv 1) (ea_cons ev_int ea_nil)) (fun _ _ => rfl)))
    (ess_cons (es_set 7 sc_law.nd rfl (by first | exact Or.inl rfl | exact Or.inr rfl) (dix hr (ev_L (el_disp (ea_cons (ev2 x_add o_add (ev2m x_add o_add (ev_sln (pv 4) ep_no (ep_of (ev_name 5))) (pv 6)) (ev_sln (pv 4) (ep_of (ev_name 5)) ep_no)) (ea_cons (ev2 x_add o_add (ev_sln (pv 4) ep_no (ep_of (ev_name 5))) (ev_sln (pv 4) (ep_of (ev2n x_add o_add (pv 5) ev_int)) ep_no)) (ea_cons (ev2 x_add o_add (ev2m x_add o_add (ev_sln (pv 4) ep_no (ep_of (ev_name 5))) (pv 6)) (ev_sln (pv 4) (ep_of (ev2n x_add o_add (pv 5) ev_int)) ep_no)) ea_nil))))) (ev_callO 1 C__law_draw (hr.mono (by decide)) hG (by rfl) (pv 1) (ea_cons ev_int ea_nil)) (fun _ _ => rfl)))
    (ess_cons (es_set 8 sc_law.nd rfl (by first | exact Or.inl rfl | exact Or.inr rfl) (ev_callX C__law_told (hr.mono (by decide)) hG (by rfl) (ea_cons (ev_name 7) ea_nil)))
    (ess_one (es_if (et2n (x_ne hr.units) o_ne (nomark _) (pv 8) (ev_L (el_disp (ea_cons ev_bl (ea_cons ev_str ea_nil))))) (ess_one (es_if (et_w (ew_or (et_not (et_val (ev_isin (T := "str") z_isinstance (by rfl) z_str (by rfl) (by decide +kernel) (pv 8)))) (ew_or (et2 x_gt o_cmp (nomark _) (ev_callBn o_len x_len z_len (by rfl) (by decide +kernel) (pv 8)) ev_int) (ew_or (et2 x_gt o_cmp (nomark _) (ev_callB o_len x_len z_len (by rfl) (by decide +kernel) (ev_L (el_lc (js := [9]) rfl (tg_name 9) rfl sc_law.nd (ei_seq (ev_name 8)) (blkOk_by (own := [("letter", 9)]) (N := N_law) (sc := defScope s_law) (by decide +kernel)) (fun _ _ _ _ _ => pg_name (i := 9) sc_law.nd rfl (Or.inl rfl)) (fun _ _ _ _ _ => (ets_one (et2n op_notIn_str o_notInS (by rfl) (pv 9) ev_str))) (fun _ _ _ _ _ => (ev_name 9))))) ev_int) (ew_or1 (et2m (x_ne hr.units) o_ne (nomark _) (ev_call C__law_short (hr.mono (by decide)) hG (by rfl) (ea_cons (ev_name 8) ea_nil)) (pv 7))))))) (ess_one (es_ret ev_bl)) ess_nil)) ess_nil)))))))
    (ess_cons (es_set 10 sc_law.nd rfl (by first | exact Or.inl rfl | exact Or.inr rfl) (ev_L (el_disp (ea_cons ev_str (ea_cons ev_str (ea_cons ev_str (ea_cons ev_str (ea_cons ev_str (ea_cons ev_str (ea_cons ev_str (ea_cons ev_str (ea_cons ev_str (ea_cons ev_str (ea_cons ev_str (ea_cons ev_str (ea_cons ev_str (ea_cons ev_str (ea_cons ev_str (ea_cons ev_str (ea_cons ev_str (ea_cons ev_str ea_nil)))))))))))))))))))))
    (ess_cons (es_if (et2 (x_ne hr.units) o_ne (nomark _) (ev_callX C__law_told (hr.mono (by decide)) hG (by rfl) (ea_cons (dixn hr (pv 10) (ev2 op_mod o_mod (ev_callT o_int call_int1 z_int (by rfl) (by decide +kernel) (ev_callO 1 C__law_draw (hr.mono (by decide)) hG (by rfl) (pv 1) (ea_cons ev_int ea_nil))) (ev_callBn o_len x_len z_len (by rfl) (by decide +kernel) (pv 10))) (fun _ _ => rfl)) ea_nil)) (ev_L (el_disp (ea_cons ev_bl (ea_cons ev_str ea_nil))))) (ess_one (es_ret ev_bl)) ess_nil)
    (ess_one (es_ret (ev_and (ec2 (x_eq hr.units) o_eq (nomark _) (ev_callX C__law_told (hr.mono (by decide)) hG (by rfl) (ea_cons ev_str ea_nil)) (ev2 x_mulT o_mulT ev_str ev_int)) (ev_one (ec2 (x_eq hr.units) o_eq (nomark _) (ev_callX C__law_told (hr.mono (by decide)) hG (by rfl) (ea_cons ev_str ea_nil)) ev_str))))))))))))))
set_option maxHeartbeats 4000000
/-! ### what the law draws -/
def bx (ds : List Int) (i : Int) : List D := [.list (ds.map .int), .int i]
theorem draw_ok (ds : List Int) (i m : Int) (h0 : 0 ≤ i) (hm : 0 < m) : ∃ d, F__law_draw [.list (bx ds i), .int m] = some (.int d, bx ds (i + 1)) ∧ 0 ≤ d ∧ d < m := by
  have pos : ∀ x : Int, 0 ≤ x % m ∧ x % m < m := fun x => ⟨Int.emod_nonneg x (by omega), Int.emod_lt_of_pos x hm⟩
  by_cases h : i < ds.length
  · refine ⟨ds[i.toNat]'(by omega) % m, ?_, pos _⟩
    simp [F__law_draw, B__law_draw, bx, h0, h, hm]
  · refine ⟨(i * 7 + 3) % m, ?_, pos _⟩
    simp [F__law_draw, B__law_draw, bx, h0, h, hm]
theorem cell_ok (ns : List Int) (k : Int) (h0 : 0 ≤ k) : ∃ c, F__law_cell [scriptD ns, .int k] = some (.int c, []) := by
  by_cases h : k < ns.length
  · refine ⟨ns[k.toNat]'(by omega), ?_⟩
    simp [F__law_cell, B__law_cell, h0, h]
  · refine ⟨0, ?_⟩
    simp [F__law_cell, B__law_cell, h0, h]
theorem digits_1 (a b c d e : Option Ent) : ∀ (ks : List D) (f : Option Ent) (ds : List Int) (cell : Int), ds.length + ks.length ≤ 1000000 → ∃ (ds' : List Int) (cell' : Int) (f' : Option Ent), forF (gDat 6) L1__law_digits ks [a, b, c, some (.own false (ds.map .int)), d, some (.dat (.int cell)), f, e] =
    some (.nx [a, b, c, some (.own false (ds'.map .int)), d, some (.dat (.int cell')), f', e]) ∧ ds'.length ≤ ds.length + ks.length
  | [], f, ds, cell, _ => ⟨ds, cell, f, rfl, Nat.le_refl _⟩
  | k :: ks, f, ds, cell, h => by
    simp only [List.length_cons] at h
    by_cases hc : 0 < cell
    · obtain ⟨ds', c', f', e1, e2⟩ := digits_1 a b c d e ks (some (.dat k)) (ds ++ [cell % 1000]) (cell / 1000) (by simp; omega)
      refine ⟨ds', c', f', ?_, by simp at e2 ⊢; omega⟩
      rw [← e1]
      have h1 : ds.length ≤ 1000000 := by omega
      simp [forF, L1__law_digits, hc, h1]
    · obtain ⟨ds', c', f', e1, e2⟩ := digits_1 a b c d e ks (some (.dat k)) ds cell (by omega)
      refine ⟨ds', c', f', ?_, by simp at e2 ⊢; omega⟩
      rw [← e1]
      simp [forF, L1__law_digits, hc]
theorem digits_2 (a b c d e : Option Ent) : ∀ (ks : List Int) (f : Option Ent) (ds : List Int) (seed : Int), ds.length + ks.length ≤ 1000000 → ∃ (ds' : List Int) (seed' : Int) (f' : Option Ent), forF (gDat 6) L2__law_digits (ks.map .int) [a, b, c, some (.own false (ds.map .int)), d, e, f, some (.dat (.int seed))] =
    some (.nx [a, b, c, some (.own false (ds'.map .int)), d, e, f', some (.dat (.int seed'))]) ∧ ds'.length ≤ ds.length + ks.length
  | [], f, ds, seed, _ => ⟨ds, seed, f, rfl, Nat.le_refl _⟩
  | k :: ks, f, ds, seed, h => by
    simp only [List.length_cons] at h
    obtain ⟨ds', c', f', e1, e2⟩ := digits_2 a b c d e ks (some (.dat (.int k))) (ds ++ [(seed * 16807 + 7 * k + 1) % 2147483647 / 997 % 1000]) ((seed * 16807 + 7 * k + 1) % 2147483647) (by simp; omega)
    refine ⟨ds', c', f', ?_, by simp at e2 ⊢; omega⟩
    rw [← e1]
    have h1 : ds.length ≤ 1000000 := by omega
    simp [forF, L2__law_digits, h1]
theorem rngD_map (lo : Int) (n : Nat) : rngD lo n = ((List.range n).map fun (k : Nat) => lo + (k : Int)).map PyData.int := by
  unfold rngD
  rw [List.map_map]
  rfl
theorem digits_3 (ns : List Int) (b c : Option Ent) : ∀ (ks : List Int) (e4 e5 e6 e7 : Option Ent) (ds : List Int), (∀ k ∈ ks, 0 ≤ k) → ds.length + 60 * ks.length ≤ 1000000 → ∃ (ds' : List Int) (f4 f5 f6 f7 : Option Ent), forF (gDat 4) L3__law_digits (ks.map .int) [some (.dat (scriptD ns)), b, c, some (.own false (ds.map .int)), e4, e5, e6, e7] =
    some (.nx [some (.dat (scriptD ns)), b, c, some (.own false (ds'.map .int)), f4, f5, f6, f7])
  | [], e4, e5, e6, e7, ds, _, _ => ⟨ds, e4, e5, e6, e7, rfl⟩
  | k :: ks, e4, e5, e6, e7, ds, hk, h => by
    simp only [List.length_cons] at h
    obtain ⟨cell, ec⟩ := cell_ok ns k (hk k (by simp))
    have step : ∃ (ds1 : List Int) (f5 f6 f7 : Option Ent), L3__law_digits [some (.dat (scriptD ns)), b, c, some (.own false (ds.map .int)), some (.dat (.int k)), e5, e6, e7] =
        some (.nx [some (.dat (scriptD ns)), b, c, some (.own false (ds1.map .int)), some (.dat (.int k)), f5, f6, f7]) ∧ ds1.length ≤ ds.length + 60 := by
      by_cases hn : cell < 0
      · by_cases hb : (1000000000000000000 : Int) ≤ 1 - 2 * cell
        · obtain ⟨ds1, cell1, f1, e1, l1⟩ := digits_1 (some (.dat (scriptD ns))) b c (some (.dat (.int k))) e7 (rngD 0 60) e6 ds (1 - 2 * cell) (by simp [rngD]; omega)
          refine ⟨ds1, some (.dat (.int cell1)), f1, e7, ?_, by simpa [rngD] using l1⟩
          simp only [scriptD] at e1 ec ⊢
          simp [L3__law_digits, ec, hn, e1, powD, hb]
        · obtain ⟨ds1, seed1, f1, e1, l1⟩ := digits_2 (some (.dat (scriptD ns))) b c (some (.dat (.int k))) (some (.dat (.int (1 - 2 * cell)))) ((List.range 12).map fun (k : Nat) => 0 + (k : Int)) e6 ds (((1 - 2 * cell) * 48271 + k * 69621 + 11) % 2147483647) (by simp; omega)
          rw [← rngD_map] at e1
          refine ⟨ds1, some (.dat (.int (1 - 2 * cell))), f1, some (.dat (.int seed1)), ?_, by simp at l1; omega⟩
          simp only [scriptD] at e1 ec ⊢
          simp [L3__law_digits, ec, hn, e1, powD, hb]
      · by_cases hb : (1000000000000000000 : Int) ≤ cell
        · obtain ⟨ds1, cell1, f1, e1, l1⟩ := digits_1 (some (.dat (scriptD ns))) b c (some (.dat (.int k))) e7 (rngD 0 60) e6 ds cell (by simp [rngD]; omega)
          refine ⟨ds1, some (.dat (.int cell1)), f1, e7, ?_, by simpa [rngD] using l1⟩
          simp only [scriptD] at e1 ec ⊢
          simp [L3__law_digits, ec, hn, e1, powD, hb]
        · obtain ⟨ds1, seed1, f1, e1, l1⟩ := digits_2 (some (.dat (scriptD ns))) b c (some (.dat (.int k))) (some (.dat (.int cell))) ((List.range 12).map fun (k : Nat) => 0 + (k : Int)) e6 ds ((cell * 48271 + k * 69621 + 11) % 2147483647) (by simp; omega)
          rw [← rngD_map] at e1
          refine ⟨ds1, some (.dat (.int cell)), f1, some (.dat (.int seed1)), ?_, by simp at l1; omega⟩
          simp only [scriptD] at e1 ec ⊢
          simp [L3__law_digits, ec, hn, e1, powD, hb]
    obtain ⟨ds1, g5, g6, g7, e1, l1⟩ := step
    obtain ⟨ds', f4, f5, f6, f7, e2⟩ := digits_3 ns b c ks (some (.dat (.int k))) g5 g6 g7 ds1 (fun x hx => hk x (by simp [hx])) (by omega)
    exact ⟨ds', f4, f5, f6, f7, (forF_nx rfl e1).trans e2⟩
theorem digits_ok (ns : List Int) : ∃ ds : List Int, F__law_digits [scriptD ns, .int 0, .int 50] = some (.list (ds.map .int), []) := by
  obtain ⟨ds', f4, f5, f6, f7, e⟩ := digits_3 ns (some (.dat (.int 0))) (some (.dat (.int 50))) ((List.range 50).map fun (k : Nat) => 0 + (k : Int)) none none none none [] (by simp) (by simp)
  rw [← rngD_map] at e
  refine ⟨ds', ?_⟩
  simp only [scriptD, List.map_nil] at e ⊢
  simp [F__law_digits, B__law_digits, e]
/-! ### comprehensions that change nothing around them -/
def LcStep (js : List Nat) (tg : Fg) (tt : Ft) (elt : Fe) (γ : En) (d : D) (o : Option D) : Prop :=
  ∃ γ0, tg d γ = some γ0 ∧ ((o = none ∧ ∃ γ1, tt γ0 = some (false, γ1) ∧ noOwns γ1 js = true ∧ wipeE γ1 js = γ) ∨
    (∃ y γ1 γ2, o = some y ∧ tt γ0 = some (true, γ1) ∧ elt γ1 = some (y, γ2) ∧ noOwns γ2 js = true ∧ wipeE γ2 js = γ))
theorem lcF_pure {α : Type} {enc : α → D} {js : List Nat} {tg : Fg} {tt : Ft} {elt : Fe} {γ : En} (h : α → Option D) : ∀ (ds : List α) (acc : List D), (∀ d ∈ ds, LcStep js tg tt elt γ (enc d) (h d)) → acc.length + ds.length ≤ 1000000 →
    lcF js tg tt elt (ds.map enc) γ acc = some (acc ++ ds.filterMap h, γ)
  | [], acc, _, _ => by simp [lcF]
  | d :: ds, acc, hs, hl => by
    rw [List.length_cons] at hl
    obtain ⟨γ0, e0, r⟩ := hs d (by simp)
    have ih := fun acc hl => lcF_pure (enc := enc) (js := js) (tg := tg) (tt := tt) (elt := elt) (γ := γ) h ds acc (fun x hx => hs x (by simp [hx])) hl
    rcases r with ⟨eo, γ1, e1, n1, w1⟩ | ⟨y, γ1, γ2, eo, e1, e2, n2, w2⟩
    · have := ih acc (by omega)
      simp only [List.map_cons, lcF, e0, e1, n1, if_true, w1, this, List.filterMap_cons, eo]
    · have := ih (acc ++ [y]) (by simp; omega)
      have hz : acc.length ≤ 1000000 := by omega
      simp only [List.map_cons, lcF, e0, e1, e2, n2, okN, hz, decide_true, Bool.and_self, if_true, w2, this, List.filterMap_cons, eo, List.append_assoc, List.cons_append, List.nil_append]
theorem lLc_pure {α : Type} {enc : α → D} {js : List Nat} {tg : Fg} {src : Fa} {tt : Ft} {elt : Fe} {γ γ1 : En} {ds : List α} (h : α → Option D) (hs : src γ = some (ds.map enc, γ1)) (hn : noOwns γ1 js = true) (hw : wipeE γ1 js = γ1) (hp : putBack γ1 γ1 js = γ1)
    (hst : ∀ d ∈ ds, LcStep js tg tt elt γ1 (enc d) (h d)) (hl : ds.length ≤ 1000000) : lLc js tg src tt elt γ = some (ds.filterMap h, γ1) := by
  have e := lcF_pure (enc := enc) (js := js) (tg := tg) (tt := tt) (elt := elt) (γ := γ1) h ds [] hst (by simpa using hl)
  simp only [List.nil_append] at e
  simp only [lLc, hs, hn, if_true, hw, e, hp]
/-- a step without a test -/
theorem lcs {js : List Nat} {tg : Fg} {elt : Fe} {γ γ0 γ2 : En} {d y : D} (h0 : tg d γ = some γ0) (h1 : elt γ0 = some (y, γ2)) (hn : noOwns γ2 js = true) (hw : wipeE γ2 js = γ) : LcStep js tg tYe elt γ d (some y) :=
  ⟨γ0, h0, .inr ⟨y, γ0, γ2, rfl, rfl, h1, hn, hw⟩⟩
def LcStep2 (js : List Nat) (tg : Fg) (tt : Ft) (src1 : Fa) (js1 : List Nat) (tg1 : Fg) (tt1 : Ft) (elt : Fe) (γ : En) (d : D) (out : List D) : Prop :=
  ∃ γ0, tg d γ = some γ0 ∧ ((out = [] ∧ ∃ γ1, tt γ0 = some (false, γ1) ∧ noOwns γ1 js = true ∧ wipeE γ1 js = γ) ∨
    (∃ γ1 γ2 es, tt γ0 = some (true, γ1) ∧ src1 γ1 = some (es, γ2) ∧ noOwns γ2 js1 = true ∧ out.length ≤ 1000 ∧
      ∀ acc : List D, acc.length ≤ 999000 → ∃ γ3, lcF js1 tg1 tt1 elt es (wipeE γ2 js1) acc = some (acc ++ out, γ3) ∧ noOwns γ3 js = true ∧ wipeE γ3 js = γ))
theorem lcF2_pure {α : Type} {enc : α → D} {js : List Nat} {tg : Fg} {tt : Ft} {src1 : Fa} {js1 : List Nat} {tg1 : Fg} {tt1 : Ft} {elt : Fe} {γ : En} (h : α → List D) : ∀ (ds : List α) (acc : List D), (∀ d ∈ ds, LcStep2 js tg tt src1 js1 tg1 tt1 elt γ (enc d) (h d)) → acc.length + (ds.flatMap h).length ≤ 999000 →
    lcF2 js tg tt src1 js1 tg1 tt1 elt (ds.map enc) γ acc = some (acc ++ ds.flatMap h, γ)
  | [], acc, _, _ => by simp [lcF2]
  | d :: ds, acc, hs, hl => by
    rw [List.flatMap_cons, List.length_append] at hl
    obtain ⟨γ0, e0, r⟩ := hs d (by simp)
    have ih := fun acc hl => lcF2_pure (enc := enc) (js := js) (tg := tg) (tt := tt) (src1 := src1) (js1 := js1) (tg1 := tg1) (tt1 := tt1) (elt := elt) (γ := γ) h ds acc (fun x hx => hs x (by simp [hx])) hl
    rcases r with ⟨eo, γ1, e1, n1, w1⟩ | ⟨γ1, γ2, es, e1, e2, n2, l2, q⟩
    · have := ih acc (by omega)
      simp only [List.map_cons, lcF2, e0, e1, n1, if_true, w1, this, List.flatMap_cons, eo, List.nil_append]
    · obtain ⟨γ3, q, n3, w3⟩ := q acc (by omega)
      have := ih (acc ++ h d) (by rw [List.length_append]; omega)
      simp only [List.map_cons, lcF2, e0, e1, e2, n2, if_true, q, n3, w3, this, List.flatMap_cons, List.append_assoc]
theorem lLc2_pure {α : Type} {enc : α → D} {js : List Nat} {tg : Fg} {src : Fa} {tt : Ft} {src1 : Fa} {js1 : List Nat} {tg1 : Fg} {tt1 : Ft} {elt : Fe} {γ γ1 : En} {ds : List α} (h : α → List D) (hs : src γ = some (ds.map enc, γ1)) (hn : noOwns γ1 js = true) (hw : wipeE γ1 js = γ1) (hp : putBack γ1 γ1 js = γ1)
    (hst : ∀ d ∈ ds, LcStep2 js tg tt src1 js1 tg1 tt1 elt γ1 (enc d) (h d)) (hl : (ds.flatMap h).length ≤ 999000) : lLc2 js tg src tt src1 js1 tg1 tt1 elt γ = some (ds.flatMap h, γ1) := by
  have e := lcF2_pure (enc := enc) (js := js) (tg := tg) (tt := tt) (elt := elt) (γ := γ1) h ds [] hst (by simpa using hl)
  simp only [List.nil_append] at e
  simp only [lLc2, hs, hn, if_true, hw, e, hp]
def idxL {α : Type} : Nat → List α → List (Nat × α)
  | _, [] => []
  | i, x :: r => (i, x) :: idxL (i + 1) r
theorem idxL_len {α : Type} : ∀ (l : List α) (i : Nat), (idxL i l).length = l.length
  | [], _ => rfl
  | _ :: r, i => congrArg (· + 1) (idxL_len r (i + 1))
theorem idxL_snd {α : Type} : ∀ (l : List α) (i : Nat), (idxL i l).map (·.2) = l
  | [], _ => rfl
  | x :: r, i => congrArg (x :: ·) (idxL_snd r (i + 1))
theorem enumL_map {α : Type} (f : α → D) : ∀ (l : List α) (i : Nat), enumL i (l.map f) = (idxL i l).map fun x => PyData.tuple [.int (x.1 : Int), f x.2]
  | [], _ => rfl
  | x :: r, i => congrArg (_ :: ·) (enumL_map f r (i + 1))
theorem fm_map {α β : Type} (f : α → β) : ∀ l : List α, l.filterMap (fun x => some (f x)) = l.map f
  | [] => rfl
  | a :: r => by rw [List.filterMap_cons, List.map_cons, fm_map f r]
/-! ### runs of one letter -/
abbrev Rn := List (Nat × Nat)
def rn : List Nat → Rn
  | [] => []
  | c :: r => match rn r with
    | (d, n) :: t => if c = d then (c, n + 1) :: t else (c, 1) :: (d, n) :: t
    | [] => [(c, 1)]
/-- one more letter behind -/
def snocR : Rn → Nat → Rn
  | [], c => [(c, 1)]
  | [(d, n)], c => if d = c then [(c, n + 1)] else [(d, n), (c, 1)]
  | p :: q :: t, c => p :: snocR (q :: t) c
theorem rn_ne {c : Nat} {r : List Nat} : ∃ n t, rn (c :: r) = (c, n + 1) :: t := by
  unfold rn
  split
  · split
    · exact ⟨_, _, rfl⟩
    · exact ⟨0, _, rfl⟩
  · exact ⟨0, _, rfl⟩
theorem rn_snoc : ∀ (r : List Nat) (c : Nat), rn (r ++ [c]) = snocR (rn r) c
  | [], c => rfl
  | a :: r, c => by
    have ih := rn_snoc r c
    rw [List.cons_append]
    unfold rn
    rw [ih]
    cases h : rn r with
    | nil =>
      simp only [snocR]
      by_cases e : a = c
      · simp [e]
      · simp [e]
    | cons p t =>
      obtain ⟨d, n⟩ := p
      cases t with
      | nil =>
        simp only [snocR]
        by_cases e : d = c
        · subst e
          simp only [if_true]
          by_cases e2 : a = d
          · subst e2
            simp [snocR]
          · simp [e2, snocR]
        · simp only [e, if_false]
          by_cases e2 : a = d
          · subst e2
            simp [snocR, e]
          · simp [e2, snocR, e]
      | cons q t =>
        simp only [snocR]
        by_cases e2 : a = d
        · subst e2
          simp [snocR]
        · simp [e2, snocR]
theorem snoc_cat (p : Rn) (d n c : Nat) : snocR (p ++ [(d, n)]) c = if d = c then p ++ [(c, n + 1)] else p ++ [(d, n), (c, 1)] := by
  induction p with
  | nil => rfl
  | cons q p ih =>
    cases p with
    | nil => simp only [List.cons_append, List.nil_append, snocR]; split <;> rfl
    | cons q2 p =>
      rw [List.cons_append, List.cons_append]
      show q :: snocR (q2 :: (p ++ [(d, n)])) c = _
      rw [← List.cons_append, ih]
      split <;> rfl
/-- a run that goes on from the front -/
theorem rn_front (c : Nat) : ∀ r : List Nat, rn (c :: r) = (c, 1 + (r.takeWhile (· == c)).length) :: rn (r.dropWhile (· == c))
  | [] => rfl
  | d :: r => by
    by_cases e : d = c
    · subst e
      have ih := rn_front d r
      have e1 : (d :: r).takeWhile (· == d) = d :: r.takeWhile (· == d) := by simp
      have e2 : (d :: r).dropWhile (· == d) = r.dropWhile (· == d) := by simp
      rw [e1, e2]
      show (match rn (d :: r) with
        | (d', n) :: t => if d = d' then (d, n + 1) :: t else (d, 1) :: (d', n) :: t
        | [] => [(d, 1)]) = _
      rw [ih]
      simp only [if_true, List.length_cons]
      congr 2
    · have e0 : (d == c) = false := beq_eq_false_iff_ne.mpr e
      have e1 : (d :: r).takeWhile (· == c) = [] := by simp [e0]
      have e2 : (d :: r).dropWhile (· == c) = d :: r := by simp [e0]
      rw [e1, e2]
      obtain ⟨n, t, h⟩ := rn_ne (c := d) (r := r)
      show (match rn (d :: r) with
        | (d', n) :: t => if c = d' then (c, n + 1) :: t else (c, 1) :: (d', n) :: t
        | [] => [(c, 1)]) = _
      rw [h]
      simp only [if_neg (Ne.symm e)]
      rfl
/-- the text of a run, of runs; what runs are written for -/
def sh1 (p : Nat × Nat) : List Nat := p.1 :: if p.2 > 1 then TL.numL p.2 else []
def shR (rs : Rn) : List Nat := (rs.map sh1).flatten
def exR (rs : Rn) : List Nat := (rs.map fun p => List.replicate p.2 p.1).flatten
def stx (l : List Nat) : List Nat := shR (rn l)
theorem ex_rn : ∀ l : List Nat, exR (rn l) = l
  | [] => rfl
  | c :: r => by
    have ih := ex_rn r
    unfold rn
    cases h : rn r with
    | nil =>
      rw [h] at ih
      have : r = [] := ih.symm
      subst this
      rfl
    | cons p t =>
      obtain ⟨d, n⟩ := p
      rw [h] at ih
      have ih : List.replicate n d ++ exR t = r := ih
      by_cases e : c = d
      · subst e
        show exR (if c = c then (c, n + 1) :: t else (c, 1) :: (c, n) :: t) = c :: r
        rw [if_pos rfl]
        show List.replicate (n + 1) c ++ exR t = c :: r
        rw [List.replicate_succ, List.cons_append, ih]
      · show exR (if c = d then (c, n + 1) :: t else (c, 1) :: (d, n) :: t) = c :: r
        rw [if_neg e]
        show [c] ++ (List.replicate n d ++ exR t) = c :: r
        rw [ih]
        rfl
theorem rn_pos : ∀ l : List Nat, ∀ p ∈ rn l, 1 ≤ p.2 ∧ p.1 ∈ l
  | [], p, h => by cases h
  | c :: r, p, h => by
    have ih := rn_pos r
    unfold rn at h
    cases e : rn r with
    | nil =>
      rw [e] at h
      obtain rfl := List.mem_singleton.mp h
      exact ⟨Nat.le_refl _, List.mem_cons_self⟩
    | cons q t =>
      obtain ⟨d, n⟩ := q
      rw [e] at h ih
      have h : p ∈ (if c = d then (c, n + 1) :: t else (c, 1) :: (d, n) :: t) := h
      split at h
      · rcases List.mem_cons.mp h with rfl | h
        · exact ⟨by show 1 ≤ n + 1; omega, List.mem_cons_self⟩
        · exact ⟨(ih p (List.mem_cons_of_mem _ h)).1, List.mem_cons_of_mem _ (ih p (List.mem_cons_of_mem _ h)).2⟩
      · rcases List.mem_cons.mp h with rfl | h
        · exact ⟨Nat.le_refl _, List.mem_cons_self⟩
        · exact ⟨(ih p h).1, List.mem_cons_of_mem _ (ih p h).2⟩
theorem rn_len : ∀ l : List Nat, (rn l).length ≤ l.length
  | [] => Nat.le_refl _
  | c :: r => by
    have ih := rn_len r
    unfold rn
    split
    · rename_i e
      rw [e] at ih
      split <;> simp_all <;> omega
    · simp
theorem sh1_len {p : Nat × Nat} (h : p.2 < 1000) : (sh1 p).length ≤ 4 := by
  unfold sh1
  split
  · have := TL.numL_len (n := p.2) (k := 3) (by omega) (by omega)
    rw [List.length_cons]
    omega
  · simp
theorem shR_len : ∀ {rs : Rn}, (∀ p ∈ rs, p.2 < 1000) → (shR rs).length ≤ 4 * rs.length
  | [], _ => Nat.le_refl _
  | p :: rs, h => by
    have h1 := sh1_len (h p List.mem_cons_self)
    have h2 := shR_len (rs := rs) fun q hq => h q (List.mem_cons_of_mem _ hq)
    show (sh1 p ++ shR rs).length ≤ _
    rw [List.length_append, List.length_cons]
    omega
theorem ex_le : ∀ {rs : Rn} {p : Nat × Nat}, p ∈ rs → p.2 ≤ (exR rs).length
  | q :: rs, p, h => by
    show _ ≤ (List.replicate q.2 q.1 ++ exR rs).length
    rw [List.length_append, List.length_replicate]
    rcases List.mem_cons.mp h with rfl | h
    · omega
    · have := ex_le h
      omega
theorem rn_lt {l : List Nat} (h : l.length < 1000) : ∀ p ∈ rn l, p.2 < 1000 := fun p hp => by
  have := ex_le hp
  rw [ex_rn] at this
  omega
theorem stx_len {l : List Nat} (h : l.length < 1000) : (stx l).length ≤ 4 * l.length := by
  have h1 := shR_len (rn_lt h)
  have h2 := rn_len l
  unfold stx
  omega
local macro_rules | `(tactic| walk_at "frame") => `(tactic| first
  | exact (rfl : _ = [_]) | exact (rfl : _ = [_, _]) | exact (rfl : _ = [_, _, _]) | exact (rfl : _ = [_, _, _, _]) | exact (rfl : _ = [_, _, _, _, _]) | exact (rfl : _ = [_, _, _, _, _, _])
  | exact (rfl : _ = [_, _, _, _, _, _, _]) | exact (rfl : _ = [_, _, _, _, _, _, _, _]) | exact (rfl : _ = [_, _, _, _, _, _, _, _, _]) | exact (rfl : _ = [_, _, _, _, _, _, _, _, _, _])
  | exact (rfl : _ = [_, _, _, _, _, _, _, _, _, _, _]) | exact (rfl : _ = [_, _, _, _, _, _, _, _, _, _, _, _]) | exact (rfl : _ = [_, _, _, _, _, _, _, _, _, _, _, _, _])
  | exact (rfl : _ = [_, _, _, _, _, _, _, _, _, _, _, _, _, _]) | exact (rfl : _ = [_, _, _, _, _, _, _, _, _, _, _, _, _, _, _]) | exact (rfl : _ = [_, _, _, _, _, _, _, _, _, _, _, _, _, _, _, _])
  | exact (rfl : _ = some [_]) | exact (rfl : _ = some [_, _]) | exact (rfl : _ = some [_, _, _]) | exact (rfl : _ = some [_, _, _, _]) | exact (rfl : _ = some [_, _, _, _, _]) | exact (rfl : _ = some [_, _, _, _, _, _])
  | exact (rfl : _ = some [_, _, _, _, _, _, _]) | exact (rfl : _ = some [_, _, _, _, _, _, _, _]) | exact (rfl : _ = some [_, _, _, _, _, _, _, _, _]) | exact (rfl : _ = some [_, _, _, _, _, _, _, _, _, _])
  | exact (rfl : _ = some [_, _, _, _, _, _, _, _, _, _, _]) | exact (rfl : _ = some [_, _, _, _, _, _, _, _, _, _, _, _]) | exact (rfl : _ = some [_, _, _, _, _, _, _, _, _, _, _, _, _])
  | exact (rfl : _ = some [_, _, _, _, _, _, _, _, _, _, _, _, _, _]) | exact (rfl : _ = some [_, _, _, _, _, _, _, _, _, _, _, _, _, _, _]) | exact (rfl : _ = some [_, _, _, _, _, _, _, _, _, _, _, _, _, _, _, _]))
local macro_rules | `(tactic| walk_at "cmp") => `(tactic| first | with_reducible assumption | walk_at "frame" | exact rfl)
local macro_rules | `(tactic| walk_at "ask") => `(tactic| first | ((with_reducible apply ask_of); walk_at "ask") | with_reducible assumption | with_reducible rfl | exact decide_eq_true (by first | assumption | omega) | exact decide_eq_false (by first | assumption | omega) | exact decide_eq_true rfl | rfl)
local macro_rules | `(tactic| walk_at "ev") => `(tactic| first
  | with_reducible assumption
  | with_reducible exact q_C | with_reducible exact q_nil | with_reducible exact q_pNo | with_reducible exact q_tYe | with_reducible exact q_rsNil
  | ((with_reducible apply q_N) <;> walk_at "ev") | ((with_reducible apply q_f1) <;> walk_at "ev") | ((with_reducible apply q_f1n) <;> walk_at "ev")
  | ((with_reducible apply q_f2) <;> walk_at "ev") | ((with_reducible apply q_f2n) <;> walk_at "ev") | ((with_reducible apply q_f2m) <;> walk_at "ev") | ((with_reducible apply q_f2nn) <;> walk_at "ev")
  | ((with_reducible apply q_cons) <;> walk_at "ev") | ((with_reducible apply q_tup) <;> walk_at "ev") | ((with_reducible apply q_L) <;> walk_at "ev") | ((with_reducible apply q_disp) <;> walk_at "ev")
  | ((with_reducible apply q_call) <;> walk_at "ev") | ((with_reducible apply q_callB) <;> walk_at "ev") | ((with_reducible apply q_callX) <;> walk_at "ev")
  | ((with_reducible apply q_pOf) <;> walk_at "ev") | ((with_reducible apply q_sl) <;> walk_at "ev") | ((with_reducible apply q_sln) <;> walk_at "ev")
  | ((with_reducible apply q_not) <;> walk_at "ev") | ((with_reducible apply q_neg) <;> walk_at "ev")
  | ((with_reducible apply q_ifT) <;> walk_at "ev") | ((with_reducible apply q_ifF) <;> walk_at "ev")
  | ((with_reducible apply q_andT) <;> walk_at "ev") | ((with_reducible apply q_andF) <;> walk_at "ev") | ((with_reducible apply q_orF) <;> walk_at "ev") | ((with_reducible apply q_orT) <;> walk_at "ev")
  | ((with_reducible apply q_orVT) <;> walk_at "ev") | ((with_reducible apply q_orVF) <;> walk_at "ev")
  | ((with_reducible apply q_isin) <;> walk_at "ev") | ((with_reducible apply q_isi) <;> walk_at "ev") | ((with_reducible apply q_lOf) <;> walk_at "ev") | ((with_reducible apply q_lOfn) <;> walk_at "ev")
  | ((with_reducible apply q_wOfL) <;> walk_at "ev") | ((with_reducible apply q_wOfT) <;> walk_at "ev") | ((with_reducible apply q_wOfS) <;> walk_at "ev") | ((with_reducible apply q_wR1) <;> walk_at "ev") | ((with_reducible apply q_wR2) <;> walk_at "ev")
  | ((with_reducible apply q_wEnumL) <;> walk_at "ev") | ((with_reducible apply q_wEnumT) <;> walk_at "ev")
  | ((with_reducible apply q_ofB) <;> walk_at "ev") | ((with_reducible apply q_cNot) <;> walk_at "ev") | ((with_reducible apply q_cAndT) <;> walk_at "ev") | ((with_reducible apply q_cAndF) <;> walk_at "ev") | ((with_reducible apply q_cOrF) <;> walk_at "ev") | ((with_reducible apply q_cOrT) <;> walk_at "ev")
  | ((with_reducible apply q_cTru) <;> walk_at "ev") | ((with_reducible apply q_cTrun) <;> walk_at "ev")
  | ((with_reducible apply q_rEv) <;> walk_at "ev") | ((with_reducible apply q_rsEv) <;> walk_at "ev") | ((with_reducible apply q_rsCons) <;> walk_at "ev") | ((with_reducible apply q_rOnX) <;> walk_at "ev") | ((with_reducible apply q_rOnXe) <;> walk_at "ev") | ((with_reducible apply q_r2) <;> walk_at "ev") | ((with_reducible apply q_r2e) <;> walk_at "ev") | ((with_reducible apply q_r1) <;> walk_at "ev")
  | ((with_reducible apply ask_of); walk_at "ask") | ((with_reducible apply cmp_of); walk_at "cmp"))
local macro_rules | `(tactic| walk_at "st") => `(tactic| first
  | with_reducible assumption
  | with_reducible exact q_sNil | with_reducible exact q_retN | with_reducible exact q_sBk | with_reducible exact q_sCt
  | ((with_reducible apply q_asg) <;> walk_at "ev") | ((with_reducible apply q_own) <;> walk_at "ev") | ((with_reducible apply q_app) <;> walk_at "ev") | ((with_reducible apply q_set) <;> walk_at "ev")
  | ((with_reducible apply q_ret) <;> walk_at "ev") | ((with_reducible apply q_drop) <;> walk_at "ev") | ((with_reducible apply q_aug) <;> walk_at "ev") | ((with_reducible apply q_ext) <;> walk_at "ev")
  | ((with_reducible apply q_retE) <;> walk_at "ev") | ((with_reducible apply q_retEe) <;> walk_at "ev") | ((with_reducible apply q_dropE) <;> walk_at "ev") | ((with_reducible apply q_dropEe) <;> walk_at "ev") | ((with_reducible apply q_asgE) <;> walk_at "ev") | ((with_reducible apply q_asgEe) <;> walk_at "ev") | ((with_reducible apply q_raise) <;> walk_at "ev")
  | ((with_reducible apply q_for) <;> walk_at "ev"))
local macro_rules | `(tactic| walk_at "q") => `(tactic| ((with_reducible apply q_seq); (focus walk_at "st")))
local macro_rules | `(tactic| walk_at "ift") => `(tactic| ((with_reducible apply q_if_t); (focus walk_at "ev"); (focus walk_at "ask")))
local macro_rules | `(tactic| walk_at "iff") => `(tactic| ((with_reducible apply q_if_f); (focus walk_at "ev"); (focus walk_at "ask")))
local macro_rules | `(tactic| walk_at "qift") => `(tactic| ((with_reducible apply q_seq); (focus (walk_at "ift"; walk_at "st"))))
local macro_rules | `(tactic| walk_at "qiff") => `(tactic| ((with_reducible apply q_seq); (focus (walk_at "iff"; walk_at "st"))))
local macro_rules | `(tactic| walk_at "run") => `(tactic| ((first | with_reducible apply q_run | with_reducible apply q_runX | with_reducible apply q_runXe | with_reducible apply q_runXn); (focus (apply cmp_of; walk_at "frame"))))
local macro_rules | `(tactic| walk_at "runX") => `(tactic| ((with_reducible apply q_runX); (focus (apply cmp_of; walk_at "frame"))))
local macro_rules | `(tactic| walk_at "runE") => `(tactic| ((with_reducible apply q_runXe); (focus (apply cmp_of; walk_at "frame"))))
local macro_rules | `(tactic| walk_at "runN") => `(tactic| ((with_reducible apply q_runXn); (focus (apply cmp_of; walk_at "frame"))))
/-! ### the program's runs -/
def RD (p : Nat × Nat) : D := .tuple [Tn [p.1], .int (p.2 : Int)]
theorem last_ixX (xs : List D) (d : D) (h : xs.length ≤ 1000000) : ixX (.list (xs ++ [d])) (.int (-1)) = some d := by
  have h1 : ¬ ((0 : Int) ≤ -1) := by omega
  have h2 : (-1 + ((xs ++ [d]).length : Int)).toNat = xs.length := by simp; omega
  have h3 : -((xs ++ [d]).length : Int) ≤ -1 := by simp; omega
  simp only [ixX, ixD, simp_ix1, simp_ix2, h1, h2, h3, if_true, if_false, Option.bind_some]
  simp
theorem last_set (xs : List D) (d : D) : ixN (xs ++ [d]).length (-1) = some xs.length := by
  have h1 : ¬ ((0 : Int) ≤ -1) := by omega
  have h2 : (-1 + ((xs ++ [d]).length : Int)).toNat = xs.length := by simp; omega
  have h3 : -((xs ++ [d]).length : Int) ≤ -1 := by simp; omega
  simp [ixN]
  omega
theorem runs_loop (R : Option Ent) : ∀ (l pre : List Nat) (e : Option Ent), pre.length + l.length ≤ 100000 → ∃ e', forF (gDat 2) L1__runs (l.map fun c => Tn [c]) [R, some (.own false ((rn pre).map RD)), e] = some (.nx [R, some (.own false ((rn (pre ++ l)).map RD)), e'])
  | [], pre, e, _ => ⟨e, by simp [forF]⟩
  | c :: l, pre, e, h => by
    rw [List.length_cons] at h
    obtain ⟨e', ih⟩ := runs_loop R l (pre ++ [c]) (some (.dat (Tn [c]))) (by simp; omega)
    refine ⟨e', ?_⟩
    rw [List.append_assoc, List.singleton_append] at ih
    rw [List.map_cons]
    refine (forF_nx (γ1 := [R, some (.own false ((rn pre).map RD)), some (.dat (Tn [c]))]) rfl ?_).trans ih
    rw [rn_snoc]
    have hl := rn_len pre
    unfold L1__runs
    rcases List.eq_nil_or_concat (rn pre) with h0 | ⟨p, ⟨d, n⟩, h0⟩
    · rw [h0]
      walk_at "iff"
      walk_at "st"
    · rw [List.concat_eq_append] at h0
      have h1 : ixX (.list (p.map RD ++ [RD (d, n)])) (.int (-1)) = some (RD (d, n)) := last_ixX _ _ (by rw [h0] at hl; simp at hl ⊢; omega)
      have h2 := tx_eq [d] [c]
      rw [h0, snoc_cat, List.map_append, List.map_cons, List.map_nil]
      have ht : truD (.list (p.map RD ++ [RD (d, n)])) = some true := by
        show some (!(p.map RD ++ [RD (d, n)]).isEmpty) = _
        cases p <;> rfl
      by_cases hd : d = c
      · subst hd
        have h3 : eqD (Tn [d]) (Tn [d]) = some (.bool true) := by rw [tx_eq]; simp
        have h4 := last_set (p.map RD) (RD (d, n))
        rw [if_pos rfl, List.map_append]
        walk_at "ift"
        refine (q_set (l := (p.map RD).length) (by walk_at "ev") (cmp_of rfl) (by walk_at "ev") (cmp_of rfl) h4 (cmp_of rfl)).trans ?_
        rw [List.set_append_right _ _ (Nat.le_refl _), Nat.sub_self]
        rfl
      · have h3 : eqD (Tn [d]) (Tn [c]) = some (.bool false) := by rw [tx_eq]; simp [hd]
        rw [if_neg hd]
        walk_at "iff"
        have hk : okN (p.map RD ++ [RD (d, n)]).length = true := decide_eq_true (by rw [h0] at hl; simp at hl ⊢; omega)
        have e1 : (p ++ [(d, n), (c, 1)]).map RD = (p.map RD ++ [RD (d, n)]) ++ [.tuple [Tn [c], .int 1]] := by simp [RD]
        rw [e1]
        walk_at "st"
theorem runs_eq (l : List Nat) (h : l.length ≤ 100000) : F__runs [Tn l] = some (.list ((rn l).map RD), []) := by
  obtain ⟨e', hf⟩ := runs_loop (some (.dat (Tn l))) l [] none (by simpa using h)
  rw [List.nil_append] at hf
  have hf : forF (gDat 2) L1__runs (l.map fun c => Tn [c]) [some (.dat (Tn l)), some (.own false []), none] = _ := hf
  unfold F__runs B__runs
  walk_at "run"
  walk_at "q"
  walk_at "q"
  walk_at "st"
/-! ### short texts -/
theorem int_ltN (a b : Nat) : decide ((a : Int) < (b : Int)) = decide (a < b) := decide_eq_decide.mpr (by omega)
theorem short_elt (R X : Option Ent) (p : Nat × Nat) (h : p.2 < 1000) : E1_short_text [R, some (.dat (Tn [p.1])), some (.dat (.int (p.2 : Int)))] = some (Tn (sh1 p), [R, some (.dat (Tn [p.1])), some (.dat (.int (p.2 : Int)))]) := by
  obtain ⟨c, n⟩ := p
  have hl := sh1_len h
  unfold E1_short_text
  unfold sh1 at hl ⊢
  have h : n < 1000 := h
  by_cases c1 : n > 1
  · simp only [if_pos c1] at hl ⊢
    have g1 : gtD (.int (n : Int)) (.int 1) = some (.bool true) := by
      show some (PyData.bool (decide ((1 : Int) < (n : Int)))) = _
      rw [decide_eq_true (by omega)]
    have g2 := tx_str n (by omega)
    have g3 : addD (Tn [c]) (Tn (TL.numL n)) = some (Tn (c :: TL.numL n)) := tx_add [c] (TL.numL n) (by simp at hl ⊢; omega)
    walk_at "ev"
  · simp only [if_neg c1] at hl ⊢
    have g1 : gtD (.int (n : Int)) (.int 1) = some (.bool false) := by
      show some (PyData.bool (decide ((1 : Int) < (n : Int)))) = _
      rw [decide_eq_false (by omega)]
    have g3 : addD (Tn [c]) (Tn []) = some (Tn [c]) := tx_add [c] [] (by simp)
    have g4 : fC (.str "") [R, some (.dat (Tn [c])), some (.dat (.int (n : Int)))] = some (Tn [], [R, some (.dat (Tn [c])), some (.dat (.int (n : Int)))]) := rfl
    walk_at "ev"
theorem short_eq (l : List Nat) (h : l.length < 1000) : F_short_text [Tn l] = some (Tn (stx l), []) := by
  let G : En := [some (.dat (Tn l)), none, none]
  have hr := runs_eq l (by omega)
  have hn := rn_len l
  have hs := stx_len h
  have src : wOf (fCall 1 F__runs (aCons (fN 0) aNil)) G = some ((rn l).map RD, G) := by walk_at "ev"
  have lc := lLc_pure (enc := RD) (js := [1, 2]) (tg := (gTp 2 (gsCons (gDat 1) (gsCons (gDat 2) gsNo)))) (src := wOf (fCall 1 F__runs (aCons (fN 0) aNil))) (tt := tYe) (elt := E1_short_text) (γ := G) (γ1 := G) (ds := rn l) (fun p => some (Tn (sh1 p))) src rfl rfl rfl
    (fun p hp => lcs (γ0 := [some (.dat (Tn l)), some (.dat (Tn [p.1])), some (.dat (.int (p.2 : Int)))]) rfl (short_elt _ none p (rn_lt h p hp)) rfl rfl) (by omega)
  rw [fm_map] at lc
  have e : (rn l).map (fun p => Tn (sh1 p)) = ((rn l).map sh1).map Tn := by rw [List.map_map]; rfl
  rw [e] at lc
  have hj : joinD "" (.list (((rn l).map sh1).map Tn)) = some (Tn (stx l)) := tx_joinD _ (by
    show (stx l).length ≤ _
    omega)
  unfold F_short_text B_short_text
  walk_at "run"
  refine q_ret (γ1 := G) ?_
  walk_at "ev"
/-! ### the law's short texts -/
abbrev SF (l t : List Nat) (at' many : Nat) : En := [some (.dat (Tn l)), some (.dat (Tn t)), some (.dat (.int (at' : Int))), some (.dat (.int (many : Int)))]
theorem small_ok {n : Nat} (h : n ≤ 1000000) : okN n = true := decide_eq_true h
theorem inner_run (c : Nat) (l t : List Nat) (a : Nat) (hl : l.length ≤ 1000) (ha : l[a]? = some c) : ∀ (fuel many : Nat) (r : List Nat), l.drop (a + many) = r → r.length < fuel →
    whileF (cAnd (ofB (f2 ltD (f2nn addD 2 3) (f1n lenD 0))) (ofB (f2 eqD (f2n ixX 0 (f2nn addD 2 3)) (f2nn ixX 0 2)))) L1__law_short fuel (SF l t a many) = some (.nx (SF l t a (many + (r.takeWhile (· == c)).length)))
  | 0, _, _, _, h => by omega
  | fuel + 1, many, r, hr, hf => by
    have g0 : addD (.int (a : Int)) (.int (many : Int)) = some (.int ((a + many : Nat) : Int)) := by
      show some (PyData.int ((a : Int) + (many : Int))) = _
      rw [Int.natCast_add]
    have g1 := tx_lenD l (by omega)
    have ix1 := tx_ix l a (by omega) ha
    unfold whileF
    cases r with
    | nil =>
      have hlen : l.length ≤ a + many := by
        have := congrArg List.length hr
        rw [List.length_drop, List.length_nil] at this
        omega
      have g2 : ltD (.int ((a + many : Nat) : Int)) (.int (l.length : Int)) = some (.bool false) := by
        show some (PyData.bool (decide (((a + many : Nat) : Int) < (l.length : Int)))) = _
        rw [int_ltN, decide_eq_false (by omega)]
      have e : (cAnd (ofB (f2 ltD (f2nn addD 2 3) (f1n lenD 0))) (ofB (f2 eqD (f2n ixX 0 (f2nn addD 2 3)) (f2nn ixX 0 2)))) (SF l t a many) = some (false, SF l t a many) := by walk_at "ev"
      rw [e]
      rfl
    | cons d r =>
      have hlen : a + many < l.length := by
        have := congrArg List.length hr
        rw [List.length_drop, List.length_cons] at this
        omega
      have hd : l[a + many]? = some d := by
        have := congrArg (fun z => z[0]?) hr
        simp only [List.getElem?_drop, Nat.add_zero, List.getElem?_cons_zero] at this
        exact this
      have g2 : ltD (.int ((a + many : Nat) : Int)) (.int (l.length : Int)) = some (.bool true) := by
        show some (PyData.bool (decide (((a + many : Nat) : Int) < (l.length : Int)))) = _
        rw [int_ltN, decide_eq_true (by omega)]
      have ix2 := tx_ix l (a + many) (by omega) hd
      by_cases e : d = c
      · subst e
        have g3 : eqD (Tn [d]) (Tn [d]) = some (.bool true) := by rw [tx_eq]; simp
        have e1 : (cAnd (ofB (f2 ltD (f2nn addD 2 3) (f1n lenD 0))) (ofB (f2 eqD (f2n ixX 0 (f2nn addD 2 3)) (f2nn ixX 0 2)))) (SF l t a many) = some (true, SF l t a many) := by walk_at "ev"
        rw [e1]
        have e2 : L1__law_short (SF l t a many) = some (.nx (SF l t a (many + 1))) := by
          unfold L1__law_short
          have : addD (.int (many : Int)) (.int 1) = some (.int ((many + 1 : Nat) : Int)) := by
            show some (PyData.int ((many : Int) + 1)) = _
            rw [Int.natCast_add]
            rfl
          walk_at "st"
        simp only [e2]
        have ih := inner_run d l t a hl ha fuel (many + 1) r (by
          have := congrArg List.tail hr
          rw [List.tail_drop, List.tail_cons] at this
          exact this) (by rw [List.length_cons] at hf; omega)
        rw [ih]
        have e3 : (d :: r).takeWhile (· == d) = d :: r.takeWhile (· == d) := by simp
        rw [e3, List.length_cons]
        congr 2
        show SF l t a _ = SF l t a _
        congr 1
        omega
      · have g3 : eqD (Tn [d]) (Tn [c]) = some (.bool false) := by rw [tx_eq]; simp [e]
        have e1 : (cAnd (ofB (f2 ltD (f2nn addD 2 3) (f1n lenD 0))) (ofB (f2 eqD (f2n ixX 0 (f2nn addD 2 3)) (f2nn ixX 0 2)))) (SF l t a many) = some (false, SF l t a many) := by walk_at "ev"
        rw [e1]
        have e0 : (d == c) = false := beq_eq_false_iff_ne.mpr e
        have e3 : (d :: r).takeWhile (· == c) = [] := by simp [e0]
        rw [e3]
        rfl
theorem outer_run (l : List Nat) (hl : l.length ≤ 900) : ∀ (fuel a : Nat) (r t : List Nat) (m : Option Ent), l.drop a = r → r.length < fuel → t.length + 4 * r.length ≤ 100000 →
    ∃ a' m', whileF (ofB (f2n ltD 2 (f1n lenD 0))) L2__law_short fuel [some (.dat (Tn l)), some (.dat (Tn t)), some (.dat (.int (a : Int))), m] = some (.nx [some (.dat (Tn l)), some (.dat (Tn (t ++ stx r))), a', m'])
  | 0, _, _, _, _, _, h, _ => by omega
  | fuel + 1, a, r, t, m, hr, hf, ht => by
    have g1 := tx_lenD l (by omega)
    unfold whileF
    cases r with
    | nil =>
      have hlen : l.length ≤ a := by
        have := congrArg List.length hr
        rw [List.length_drop, List.length_nil] at this
        omega
      have g2 : ltD (.int (a : Int)) (.int (l.length : Int)) = some (.bool false) := by
        show some (PyData.bool (decide ((a : Int) < (l.length : Int)))) = _
        rw [int_ltN, decide_eq_false (by omega)]
      have e : ofB (f2n ltD 2 (f1n lenD 0)) [some (.dat (Tn l)), some (.dat (Tn t)), some (.dat (.int (a : Int))), m] = some (false, [some (.dat (Tn l)), some (.dat (Tn t)), some (.dat (.int (a : Int))), m]) := by walk_at "ev"
      rw [e]
      exact ⟨_, _, by rw [show stx [] = [] from rfl, List.append_nil]⟩
    | cons c r =>
      have hlen : a < l.length := by
        have := congrArg List.length hr
        rw [List.length_drop, List.length_cons] at this
        omega
      have hc : l[a]? = some c := by
        have := congrArg (fun z => z[0]?) hr
        simp only [List.getElem?_drop, Nat.add_zero, List.getElem?_cons_zero] at this
        exact this
      have hr1 : l.drop (a + 1) = r := by
        have := congrArg List.tail hr
        rw [List.tail_drop, List.tail_cons] at this
        exact this
      have hrl : r.length ≤ 899 := by
        have := congrArg List.length hr1
        rw [List.length_drop] at this
        omega
      have g2 : ltD (.int (a : Int)) (.int (l.length : Int)) = some (.bool true) := by
        show some (PyData.bool (decide ((a : Int) < (l.length : Int)))) = _
        rw [int_ltN, decide_eq_true (by omega)]
      have e : ofB (f2n ltD 2 (f1n lenD 0)) [some (.dat (Tn l)), some (.dat (Tn t)), some (.dat (.int (a : Int))), m] = some (true, [some (.dat (Tn l)), some (.dat (Tn t)), some (.dat (.int (a : Int))), m]) := by walk_at "ev"
      rw [e]
      let k : Nat := (r.takeWhile (· == c)).length
      have hk : k ≤ r.length := (List.takeWhile_sublist _).length_le
      have hin := inner_run c l t a (by omega) hc 1000000 1 r hr1 (by omega)
      have hix := tx_ix l a (by omega) hc
      have hfr := rn_front c r
      have hst : stx (c :: r) = sh1 (c, 1 + k) ++ stx (r.dropWhile (· == c)) := by
        unfold stx
        rw [hfr]
        rfl
      have hdr : l.drop (a + (1 + k)) = r.dropWhile (· == c) := by
        rw [show a + (1 + k) = (a + 1) + k by omega, ← List.drop_drop, hr1]
        have e0 := List.takeWhile_append_dropWhile (p := (· == c)) (l := r)
        conv => lhs; rw [← e0]
        rw [List.drop_append, List.drop_eq_nil_of_le (Nat.le_refl _), Nat.sub_self]
        rfl
      have hs1 := sh1_len (p := (c, 1 + k)) (by show 1 + k < 1000; omega)
      have hdl : (r.dropWhile (· == c)).length ≤ r.length := (List.dropWhile_sublist _).length_le
      let G := SF l t a (1 + k)
      have hstr := tx_str (1 + k) (by omega)
      have sel : f2 ixX (fL (lDisp (aCons (f1n strD 3) (aCons (fC (.str "")) aNil)))) (f1 intD (f2n eqD 3 (fC (.int 1)))) (SF l t a (1 + k)) = some (Tn (if 1 + k > 1 then TL.numL (1 + k) else []), SF l t a (1 + k)) := by
        by_cases k0 : k = 0
        · rw [if_neg (by omega)]
          have q1 : eqD (.int ((1 + k : Nat) : Int)) (.int 1) = some (.bool true) := by
            show some (PyData.bool (decide (((1 + k : Nat) : Int) = 1))) = _
            rw [decide_eq_true (by omega)]
          have q2 : ixX (.list [Tn (TL.numL (1 + k)), .str ""]) (.int 1) = some (Tn []) := rfl
          have q3 : intD (.bool true) = some (.int 1) := rfl
          walk_at "ev"
        · rw [if_pos (by omega)]
          have q1 : eqD (.int ((1 + k : Nat) : Int)) (.int 1) = some (.bool false) := by
            show some (PyData.bool (decide (((1 + k : Nat) : Int) = 1))) = _
            rw [decide_eq_false (by omega)]
          have q2 : ixX (.list [Tn (TL.numL (1 + k)), .str ""]) (.int 0) = some (Tn (TL.numL (1 + k))) := rfl
          have q3 : intD (.bool false) = some (.int 0) := rfl
          walk_at "ev"
      have esh : sh1 (c, 1 + k) = [c] ++ (if 1 + k > 1 then TL.numL (1 + k) else []) := rfl
      have hz : (if 1 + k > 1 then TL.numL (1 + k) else []).length ≤ 3 := by
        rw [esh, List.length_append, List.length_singleton] at hs1
        omega
      have a1 : addD (Tn t) (Tn [c]) = some (Tn (t ++ [c])) := tx_add _ _ (by simp; omega)
      have a2 : addD (Tn (t ++ [c])) (Tn (if 1 + k > 1 then TL.numL (1 + k) else [])) = some (Tn (t ++ sh1 (c, 1 + k))) := by
        rw [tx_add _ _ (by rw [List.length_append, List.length_singleton]; rw [List.length_cons] at ht; omega), List.append_assoc, esh]
      have a3 : addD (.int (a : Int)) (.int ((1 + k : Nat) : Int)) = some (.int ((a + (1 + k) : Nat) : Int)) := by
        show some (PyData.int ((a : Int) + ((1 + k : Nat) : Int))) = _
        rw [Int.natCast_add a (1 + k)]
      obtain ⟨a', m', ih⟩ := outer_run l hl fuel (a + (1 + k)) (r.dropWhile (· == c)) (t ++ sh1 (c, 1 + k)) (some (.dat (.int ((1 + k : Nat) : Int)))) hdr (by rw [List.length_cons] at hf; omega) (by rw [List.length_append]; rw [List.length_cons] at ht; omega)
      have body : L2__law_short [some (.dat (Tn l)), some (.dat (Tn t)), some (.dat (.int (a : Int))), m] = some (.nx [some (.dat (Tn l)), some (.dat (Tn (t ++ sh1 (c, 1 + k)))), some (.dat (.int ((a + (1 + k) : Nat) : Int))), some (.dat (.int ((1 + k : Nat) : Int)))]) := by
        unfold L2__law_short
        refine q_seq (γ1 := SF l t a 1) (by walk_at "st") ?_
        walk_at "q"
        walk_at "q"
        walk_at "st"
      refine ⟨a', m', ?_⟩
      simp only [body]
      rw [ih, hst, List.append_assoc]
theorem lshort_eq (l : List Nat) (h : l.length ≤ 900) : F__law_short [Tn l] = some (Tn (stx l), []) := by
  obtain ⟨a', m', e⟩ := outer_run l h 1000000 0 l [] none rfl (by omega) (by simp; omega)
  have e : whileF (ofB (f2n ltD 2 (f1n lenD 0))) L2__law_short 1000000 [some (.dat (Tn l)), some (.dat (.str "")), some (.dat (.int 0)), none] = _ := e
  unfold F__law_short B__law_short
  walk_at "run"
  walk_at "q"
  walk_at "q"
  walk_at "q"
  walk_at "st"
/-! ### short texts read -/
def digs : List Nat := [48, 49, 50, 51, 52, 53, 54, 55, 56, 57]
def isD (c : Nat) : Bool := decide (c ∈ digs)
def lets : List Nat := [72, 76, 82, 83]
theorem isD_iff {c : Nat} : isD c = true ↔ 48 ≤ c ∧ c ≤ 57 := by
  unfold isD digs
  rw [decide_eq_true_iff]
  simp only [List.mem_cons, List.not_mem_nil, or_false]
  omega
theorem lets_free {c : Nat} (h : c ∈ lets) : isD c = false := by
  refine Bool.eq_false_iff.mpr fun e => ?_
  have := isD_iff.mp e
  simp only [lets, List.mem_cons, List.not_mem_nil, or_false] at h
  omega
theorem TL.numL_isD (n : Nat) : ∀ c ∈ TL.numL n, isD c = true := fun c h => isD_iff.mpr (TL.numL_digits n c h)
theorem all_digits {l : List Nat} (h : ∀ c ∈ l, isD c = true) : NumText.AllDigits l := fun c hc => isD_iff.mp (h c hc)
def num (l : List Nat) : Nat := if l = [] then 1 else NumText.digitsVal l
theorem num_lt {l : List Nat} (h : ∀ c ∈ l, isD c = true) (h2 : l.length ≤ 2) : num l < 100 := by
  unfold num
  match l, h, h2 with
  | [], _, _ => decide
  | [a], h, _ =>
    have := isD_iff.mp (h a (by simp))
    show NumText.digitsVal [a] < 100
    simp only [NumText.digitsVal, List.foldl_cons, List.foldl_nil]
    omega
  | [a, b], h, _ =>
    have h1 := isD_iff.mp (h a (by simp))
    have h2 := isD_iff.mp (h b (by simp))
    show NumText.digitsVal [a, b] < 100
    simp only [NumText.digitsVal, List.foldl_cons, List.foldl_nil]
    omega
  | _ :: _ :: _ :: _, _, h2 => simp at h2
theorem int_of {l : List Nat} (h : ∀ c ∈ l, isD c = true) (h0 : l ≠ []) (h2 : l.length ≤ 2) : intD2 (Tn l) = some (.int (num l : Int)) := by
  have e := intText_digits (x := tx l) (by rw [tx_cps]; exact all_digits h) (by rw [tx_cps]; exact h0) (by rw [tx_len]; omega)
  rw [tx_cps] at e
  have c : decide ((tx l).length ≤ 640) = true := by rw [tx_len]; exact decide_eq_true (by omega)
  have en : num l = NumText.digitsVal l := if_neg h0
  show (if decide ((tx l).length ≤ 640) = true then (match intText? (tx l) with | some n => some (PyData.int n) | none => none) else none) = _
  rw [if_pos c, e, en]
theorem digits_eq : c_DIGITS = Tn digs := rfl
theorem letters_eq : c_LETTERS = Tn lets := rfl
theorem eon_run (l : List Nat) (hl : l.length ≤ 1000) : ∀ (fuel a : Nat) (r : List Nat), l.drop a = r → r.length < fuel →
    whileF (cAnd (ofB (f2n ltD 1 (f1n lenD 0))) (ofB (f2 inX (f2nn ixX 0 1) (fC c_DIGITS)))) L1__end_of_number fuel [some (.dat (Tn l)), some (.dat (.int (a : Int)))] = some (.nx [some (.dat (Tn l)), some (.dat (.int ((a + (r.takeWhile isD).length : Nat) : Int)))])
  | 0, _, _, _, h => by omega
  | fuel + 1, a, r, hr, hf => by
    have g1 := tx_lenD l (by omega)
    unfold whileF
    cases r with
    | nil =>
      have hlen : l.length ≤ a := by
        have := congrArg List.length hr
        rw [List.length_drop, List.length_nil] at this
        omega
      have g2 : ltD (.int (a : Int)) (.int (l.length : Int)) = some (.bool false) := by
        show some (PyData.bool (decide ((a : Int) < (l.length : Int)))) = _
        rw [int_ltN, decide_eq_false (by omega)]
      have e : (cAnd (ofB (f2n ltD 1 (f1n lenD 0))) (ofB (f2 inX (f2nn ixX 0 1) (fC c_DIGITS)))) [some (.dat (Tn l)), some (.dat (.int (a : Int)))] = some (false, [some (.dat (Tn l)), some (.dat (.int (a : Int)))]) := by walk_at "ev"
      rw [e]
      rfl
    | cons d r =>
      have hlen : a < l.length := by
        have := congrArg List.length hr
        rw [List.length_drop, List.length_cons] at this
        omega
      have hd : l[a]? = some d := by
        have := congrArg (fun z => z[0]?) hr
        simp only [List.getElem?_drop, Nat.add_zero, List.getElem?_cons_zero] at this
        exact this
      have g2 : ltD (.int (a : Int)) (.int (l.length : Int)) = some (.bool true) := by
        show some (PyData.bool (decide ((a : Int) < (l.length : Int)))) = _
        rw [int_ltN, decide_eq_true (by omega)]
      have ix2 := tx_ix l a (by omega) hd
      by_cases e : isD d = true
      · have g3 : inX (Tn [d]) c_DIGITS = some (.bool true) := by
          rw [digits_eq, tx_in]
          exact congrArg (fun b => some (PyData.bool b)) e
        have e1 : (cAnd (ofB (f2n ltD 1 (f1n lenD 0))) (ofB (f2 inX (f2nn ixX 0 1) (fC c_DIGITS)))) [some (.dat (Tn l)), some (.dat (.int (a : Int)))] = some (true, [some (.dat (Tn l)), some (.dat (.int (a : Int)))]) := by walk_at "ev"
        rw [e1]
        have e2 : L1__end_of_number [some (.dat (Tn l)), some (.dat (.int (a : Int)))] = some (.nx [some (.dat (Tn l)), some (.dat (.int ((a + 1 : Nat) : Int)))]) := rfl
        simp only [e2]
        have ih := eon_run l hl fuel (a + 1) r (by
          have := congrArg List.tail hr
          rw [List.tail_drop, List.tail_cons] at this
          exact this) (by rw [List.length_cons] at hf; omega)
        rw [ih]
        have e3 : (d :: r).takeWhile isD = d :: r.takeWhile isD := by simp [e]
        rw [e3, List.length_cons, show a + 1 + (r.takeWhile isD).length = a + ((r.takeWhile isD).length + 1) by omega]
      · have e : isD d = false := Bool.eq_false_iff.mpr e
        have g3 : inX (Tn [d]) c_DIGITS = some (.bool false) := by
          rw [digits_eq, tx_in]
          exact congrArg (fun b => some (PyData.bool b)) e
        have e1 : (cAnd (ofB (f2n ltD 1 (f1n lenD 0))) (ofB (f2 inX (f2nn ixX 0 1) (fC c_DIGITS)))) [some (.dat (Tn l)), some (.dat (.int (a : Int)))] = some (false, [some (.dat (Tn l)), some (.dat (.int (a : Int)))]) := by walk_at "ev"
        rw [e1]
        have e3 : (d :: r).takeWhile isD = [] := by simp [e]
        rw [e3]
        rfl
theorem eon_eq (l : List Nat) (hl : l.length ≤ 1000) (a : Nat) : F__end_of_number [Tn l, .int (a : Int)] = some (.int ((a + ((l.drop a).takeWhile isD).length : Nat) : Int), []) := by
  have e := eon_run l hl 1000000 a (l.drop a) rfl (by rw [List.length_drop]; omega)
  unfold F__end_of_number B__end_of_number
  walk_at "run"
  walk_at "q"
  walk_at "st"
abbrev RS : List (Str × D) := [("reason", .str "text")]
/-- what _run_told tells -/
theorem told_run (c : Nat) (k : List Nat) (hk : ∀ d ∈ k, isD d = true) (hl : k.length ≤ 1000) : F__run_told none [Tn [c], Tn k] = if c ∈ lets ∧ k.length ≤ 2 then some (.da (Tn (List.replicate (num k) c)), none) else some (.er "BadRow" RS, none) := by
  have g1 : notInX (Tn [c]) c_LETTERS = some (.bool (!decide (c ∈ lets))) := by rw [letters_eq, tx_notIn]
  have g2 := tx_lenD k (by omega)
  unfold F__run_told B__run_told
  by_cases h1 : c ∈ lets
  · have g1 : notInX (Tn [c]) c_LETTERS = some (.bool false) := by rw [g1, decide_eq_true h1]; rfl
    by_cases h2 : k.length ≤ 2
    · rw [if_pos ⟨h1, h2⟩]
      have g3 : gtD (.int (k.length : Int)) (.int 2) = some (.bool false) := by
        show some (PyData.bool (decide ((2 : Int) < (k.length : Int)))) = _
        rw [decide_eq_false (by omega)]
      have g4 : f1 intD2 (fOrV (fN 1) (fC (.str "1"))) [some (.dat (Tn [c])), some (.dat (Tn k))] = some (.int (num k : Int), [some (.dat (Tn [c])), some (.dat (Tn k))]) := by
        by_cases h0 : k = []
        · subst h0
          have t1 : truD (Tn []) = some false := rfl
          have t0 : fC (.str "1") [some (.dat (Tn [c])), some (.dat (Tn []))] = some (Tn [49], [some (.dat (Tn [c])), some (.dat (Tn []))]) := by
            show some (PyData.str "1", _) = _
            rw [show ("1" : Str) = tx [49] from by decide +kernel]
          have t2 : intD2 (Tn [49]) = some (.int (num [] : Int)) := int_of (by decide) (by decide) (by decide)
          walk_at "ev"
        · have t1 : truD (Tn k) = some true := by
            rw [tx_tru _ (by omega)]
            cases k with
            | nil => exact absurd rfl h0
            | cons _ _ => rfl
          have t2 := int_of hk h0 h2
          walk_at "ev"
      have g5 := tx_mul c (num k) (by have := num_lt hk h2; omega)
      walk_at "run"
      walk_at "qiff"
      walk_at "st"
    · rw [if_neg (fun z => h2 z.2)]
      have g3 : gtD (.int (k.length : Int)) (.int 2) = some (.bool true) := by
        show some (PyData.bool (decide ((2 : Int) < (k.length : Int)))) = _
        rw [decide_eq_true (by omega)]
      with_reducible apply q_runXe
      · exact cmp_of rfl
      with_reducible apply q_seqRs
      walk_at "ift"
      walk_at "st"
  · rw [if_neg (fun z => h1 z.1)]
    have g1 : notInX (Tn [c]) c_LETTERS = some (.bool true) := by rw [g1, decide_eq_false h1]; rfl
    with_reducible apply q_runXe
    · exact cmp_of rfl
    with_reducible apply q_seqRs
    walk_at "ift"
    walk_at "st"
def rdL : Nat → List Nat → List Nat → Option (List Nat)
  | 0, _, _ => none
  | _ + 1, row, [] => some row
  | n + 1, row, c :: r => if c ∈ lets ∧ (r.takeWhile isD).length ≤ 2 then
      (if (row ++ List.replicate (num (r.takeWhile isD)) c).length > 40 then none else rdL n (row ++ List.replicate (num (r.takeWhile isD)) c) (r.dropWhile isD)) else none
theorem tw_all {p : Nat → Bool} : ∀ (l : List Nat), ∀ d ∈ l.takeWhile p, p d = true
  | [], d, h => by simp at h
  | a :: l, d, h => by
    by_cases e : p a = true
    · simp only [List.takeWhile_cons, e, if_true] at h
      rcases List.mem_cons.mp h with rfl | h
      · exact e
      · exact tw_all l d h
    · simp only [List.takeWhile_cons, e] at h
      cases h
theorem read_loop (l : List Nat) (hl : l.length ≤ 1000) : ∀ (fuel a : Nat) (r row : List Nat) (e3 : Option Ent), l.drop a = r → r.length < fuel → row.length ≤ 40 →
    (rdL fuel row r = none ∧ ∃ γ', whileF (ofB (f2n ltD 2 (f1n lenD 0))) L1_read_short fuel [some (.dat (Tn l)), some (.dat (Tn row)), some (.dat (.int (a : Int))), e3] = some (.rs "BadRow" RS γ')) ∨
    ∃ row' a' e', rdL fuel row r = some row' ∧ whileF (ofB (f2n ltD 2 (f1n lenD 0))) L1_read_short fuel [some (.dat (Tn l)), some (.dat (Tn row)), some (.dat (.int (a : Int))), e3] = some (.nx [some (.dat (Tn l)), some (.dat (Tn row')), a', e'])
  | 0, _, _, _, _, _, h, _ => by omega
  | fuel + 1, a, r, row, e3, hr, hf, hrow => by
    have g1 := tx_lenD l (by omega)
    unfold whileF
    cases r with
    | nil =>
      have hlen : l.length ≤ a := by
        have := congrArg List.length hr
        rw [List.length_drop, List.length_nil] at this
        omega
      have g2 : ltD (.int (a : Int)) (.int (l.length : Int)) = some (.bool false) := by
        show some (PyData.bool (decide ((a : Int) < (l.length : Int)))) = _
        rw [int_ltN, decide_eq_false (by omega)]
      have e : ofB (f2n ltD 2 (f1n lenD 0)) [some (.dat (Tn l)), some (.dat (Tn row)), some (.dat (.int (a : Int))), e3] = some (false, [some (.dat (Tn l)), some (.dat (Tn row)), some (.dat (.int (a : Int))), e3]) := by walk_at "ev"
      rw [e]
      exact .inr ⟨row, _, _, rfl, rfl⟩
    | cons c r =>
      have hlen : a < l.length := by
        have := congrArg List.length hr
        rw [List.length_drop, List.length_cons] at this
        omega
      have hc : l[a]? = some c := by
        have := congrArg (fun z => z[0]?) hr
        simp only [List.getElem?_drop, Nat.add_zero, List.getElem?_cons_zero] at this
        exact this
      have hr1 : l.drop (a + 1) = r := by
        have := congrArg List.tail hr
        rw [List.tail_drop, List.tail_cons] at this
        exact this
      have hrl : r.length ≤ 1000 := by
        have := congrArg List.length hr1
        rw [List.length_drop] at this
        omega
      have g2 : ltD (.int (a : Int)) (.int (l.length : Int)) = some (.bool true) := by
        show some (PyData.bool (decide ((a : Int) < (l.length : Int)))) = _
        rw [int_ltN, decide_eq_true (by omega)]
      have e : ofB (f2n ltD 2 (f1n lenD 0)) [some (.dat (Tn l)), some (.dat (Tn row)), some (.dat (.int (a : Int))), e3] = some (true, [some (.dat (Tn l)), some (.dat (Tn row)), some (.dat (.int (a : Int))), e3]) := by walk_at "ev"
      rw [e]
      have a1 : addD (.int (a : Int)) (.int 1) = some (.int ((a + 1 : Nat) : Int)) := by
        show some (PyData.int ((a : Int) + 1)) = _
        rw [Int.natCast_add]
        rfl
      have eo := eon_eq l hl (a + 1)
      rw [hr1] at eo
      obtain ⟨k, ek⟩ : ∃ k, r.takeWhile isD = k := ⟨_, rfl⟩
      have hk : ∀ d ∈ k, isD d = true := by rw [← ek]; exact tw_all r
      have kl : k.length ≤ r.length := by rw [← ek]; exact (List.takeWhile_sublist _).length_le
      obtain ⟨b, eb⟩ : ∃ b, a + 1 + k.length = b := ⟨_, rfl⟩
      rw [ek, eb] at eo
      have ix := tx_ix l a (by omega) hc
      have e0 : k ++ r.dropWhile isD = r := by rw [← ek]; exact List.takeWhile_append_dropWhile
      have cut : slD (Tn l) (some ((a + 1 : Nat) : Int)) (some (b : Int)) = some (Tn k) := by
        rw [tx_cut _ _ _ (by omega)]
        congr 2
        rw [List.drop_take, hr1, show b - (a + 1) = k.length by omega]
        conv => lhs; rw [← e0]
        rw [List.take_append_of_le_length (Nat.le_refl _), List.take_length]
      have hdr : l.drop b = r.dropWhile isD := by
        rw [← eb, ← List.drop_drop, hr1]
        conv => lhs; rw [← e0]
        rw [List.drop_append, List.drop_eq_nil_of_le (Nat.le_refl _), Nat.sub_self]
        rfl
      have tr := told_run c k hk (by omega)
      have hdl : (r.dropWhile isD).length ≤ r.length := (List.dropWhile_sublist _).length_le
      let T : Option Ent := some (.dat (Tn l))
      let R : Option Ent := some (.dat (Tn row))
      let A : Option Ent := some (.dat (.int (a : Int)))
      let B : Option Ent := some (.dat (.int (b : Int)))
      have s1 : sAsg (fCall 2 F__end_of_number (aCons (fN 0) (aCons (f2n addD 2 (fC (.int 1))) aNil))) (gDat 3) [some (.dat (Tn l)), some (.dat (Tn row)), some (.dat (.int (a : Int))), e3] = some (.nx [some (.dat (Tn l)), some (.dat (Tn row)), some (.dat (.int (a : Int))), some (.dat (.int (b : Int)))]) := by walk_at "st"
      have s2a : rsEv (aCons (f2nn ixX 0 2) (aCons (fSln 0 (pOf (f2n addD 2 (fC (.int 1)))) (pOf (fN 3))) aNil)) [some (.dat (Tn l)), some (.dat (Tn row)), some (.dat (.int (a : Int))), some (.dat (.int (b : Int)))] = some (.da [Tn [c], Tn k], [some (.dat (Tn l)), some (.dat (Tn row)), some (.dat (.int (a : Int))), some (.dat (.int (b : Int)))]) := by walk_at "ev"
      unfold rdL
      rw [ek]
      by_cases hcond : c ∈ lets ∧ k.length ≤ 2
      · rw [if_pos hcond] at tr ⊢
        have nl := num_lt hk hcond.2
        have a2 : addD (Tn row) (Tn (List.replicate (num k) c)) = some (Tn (row ++ List.replicate (num k) c)) := tx_add _ _ (by rw [List.length_replicate]; omega)
        have s2 : sAsgE (r2 addD (rEv (fN 1)) (rOn (rsEv (aCons (f2nn ixX 0 2) (aCons (fSln 0 (pOf (f2n addD 2 (fC (.int 1)))) (pOf (fN 3))) aNil))) (kCallX 2 F__run_told))) (gDat 1) [some (.dat (Tn l)), some (.dat (Tn row)), some (.dat (.int (a : Int))), some (.dat (.int (b : Int)))] = some (.nx [some (.dat (Tn l)), some (.dat (Tn (row ++ List.replicate (num k) c))), some (.dat (.int (a : Int))), some (.dat (.int (b : Int)))]) := by walk_at "st"
        have g4 := tx_lenD (row ++ List.replicate (num k) c) (by rw [List.length_append, List.length_replicate]; omega)
        by_cases hlong : (row ++ List.replicate (num k) c).length > 40
        · rw [if_pos hlong]
          have g5 : gtD (.int ((row ++ List.replicate (num k) c).length : Int)) c_LONGEST = some (.bool true) := by
            show some (PyData.bool (decide ((40 : Int) < ((row ++ List.replicate (num k) c).length : Int)))) = _
            rw [decide_eq_true (by omega)]
          have body : L1_read_short [some (.dat (Tn l)), some (.dat (Tn row)), some (.dat (.int (a : Int))), e3] = some (.rs "BadRow" RS [some (.dat (Tn l)), some (.dat (Tn (row ++ List.replicate (num k) c))), some (.dat (.int (a : Int))), some (.dat (.int (b : Int)))]) := by
            unfold L1_read_short
            walk_at "q"
            walk_at "q"
            with_reducible apply q_seqRs
            walk_at "ift"
            walk_at "st"
          simp only [body]
          exact .inl ⟨trivial, _, rfl⟩
        · rw [if_neg hlong]
          have g5 : gtD (.int ((row ++ List.replicate (num k) c).length : Int)) c_LONGEST = some (.bool false) := by
            show some (PyData.bool (decide ((40 : Int) < ((row ++ List.replicate (num k) c).length : Int)))) = _
            rw [decide_eq_false (by omega)]
          have body : L1_read_short [some (.dat (Tn l)), some (.dat (Tn row)), some (.dat (.int (a : Int))), e3] = some (.nx [some (.dat (Tn l)), some (.dat (Tn (row ++ List.replicate (num k) c))), some (.dat (.int (b : Int))), some (.dat (.int (b : Int)))]) := by
            unfold L1_read_short
            walk_at "q"
            walk_at "q"
            walk_at "qiff"
            walk_at "st"
          simp only [body]
          exact read_loop l hl fuel b (r.dropWhile isD) _ _ hdr (by rw [List.length_cons] at hf; omega) (by omega)
      · rw [if_neg hcond] at tr ⊢
        have body : L1_read_short [some (.dat (Tn l)), some (.dat (Tn row)), some (.dat (.int (a : Int))), e3] = some (.rs "BadRow" RS [some (.dat (Tn l)), some (.dat (Tn row)), some (.dat (.int (a : Int))), some (.dat (.int (b : Int)))]) := by
          unfold L1_read_short
          walk_at "q"
          with_reducible apply q_seqRs
          walk_at "st"
        simp only [body]
        exact .inl ⟨trivial, _, rfl⟩
/-! ### what is read -/
def rd (l : List Nat) : Option (List Nat) := match rdL 1000000 [] l with
  | some r => if stx r = l then some r else none
  | none => none
abbrev TT : D := .list [.bool true, .str "text"]
theorem rdL_ok : ∀ (n : Nat) (row l r : List Nat), rdL n row l = some r → (∀ c ∈ row, c ∈ lets) → row.length ≤ 40 → (∀ c ∈ r, c ∈ lets) ∧ r.length ≤ 40
  | 0, _, _, _, h, _, _ => by cases h
  | n + 1, row, [], r, h, h1, h2 => by
    cases h
    exact ⟨h1, h2⟩
  | n + 1, row, c :: l, r, h, h1, h2 => by
    unfold rdL at h
    split at h
    · rename_i hc
      split at h
      · cases h
      · rename_i hz
        refine rdL_ok n _ _ r h (fun d hd => ?_) (by omega)
        rcases List.mem_append.mp hd with hd | hd
        · exact h1 d hd
        · rw [(List.mem_replicate.mp hd).2]
          exact hc.1
    · cases h
theorem rd_ok {l r : List Nat} (h : rd l = some r) : (∀ c ∈ r, c ∈ lets) ∧ r.length ≤ 40 ∧ stx r = l := by
  unfold rd at h
  split at h
  · rename_i e
    split at h <;> cases h
    rename_i es
    obtain ⟨a, b⟩ := rdL_ok _ _ _ _ e (by simp) (by simp)
    exact ⟨a, b, es⟩
  · cases h
theorem read_eq (l : List Nat) (hl : l.length ≤ 1000) : F_read_short none [Tn l] = match rd l with
    | some r => some (.da (Tn r), none)
    | none => some (.er "BadRow" RS, none) := by
  unfold rd
  have hz : fC (.str "") [some (.dat (Tn l)), none, none, none] = some (Tn [], [some (.dat (Tn l)), none, none, none]) := rfl
  rcases read_loop l hl 1000000 0 l [] none rfl (by omega) (by simp) with ⟨e1, γ', e2⟩ | ⟨r, a', e', e1, e2⟩
  · rw [e1]
    simp only
    have e2 : whileF (ofB (f2n ltD 2 (f1n lenD 0))) L1_read_short 1000000 [some (.dat (Tn l)), some (.dat (Tn [])), some (.dat (.int 0)), none] = _ := e2
    unfold F_read_short B_read_short
    walk_at "runE"
    walk_at "q"
    walk_at "q"
    with_reducible apply q_seqRs
    walk_at "st"
  · have hr := rdL_ok _ _ _ _ e1 (by simp) (by simp)
    have hs := short_eq r (by omega)
    rw [e1]
    simp only
    have e2 : whileF (ofB (f2n ltD 2 (f1n lenD 0))) L1_read_short 1000000 [some (.dat (Tn l)), some (.dat (Tn [])), some (.dat (.int 0)), none] = _ := e2
    by_cases c : stx r = l
    · rw [if_pos c]
      have hn : neD (Tn (stx r)) (Tn l) = some (.bool false) := by rw [tx_ne, decide_eq_true c]; rfl
      unfold F_read_short B_read_short
      walk_at "runX"
      walk_at "q"
      walk_at "q"
      walk_at "q"
      walk_at "qiff"
      walk_at "st"
    · rw [if_neg c]
      have hn : neD (Tn (stx r)) (Tn l) = some (.bool true) := by rw [tx_ne, decide_eq_false c]; rfl
      unfold F_read_short B_read_short
      walk_at "runE"
      walk_at "q"
      walk_at "q"
      walk_at "q"
      with_reducible apply q_seqRs
      walk_at "ift"
      walk_at "st"
def tldD (l : List Nat) : D := match rd l with
  | some r => Tn r
  | none => TT
theorem ltold_eq (l : List Nat) (hl : l.length ≤ 1000) : F__law_told none [Tn l] = some (.da (tldD l), none) := by
  have hr := read_eq l hl
  unfold tldD
  unfold F__law_told B__law_told
  cases e : rd l with
  | some r =>
    rw [e] at hr
    walk_at "runX"
    have h1 : L1__law_told [some (.dat (Tn l)), none] = some (.rt (Tn r) [some (.dat (Tn l)), none]) := by
      unfold L1__law_told
      walk_at "st"
    show sTry _ _ _ _ [some (.dat (Tn l)), none] = some (.rt (Tn r) _)
    unfold sTry
    rw [h1]
  | none =>
    rw [e] at hr
    walk_at "runX"
    have h1 : L1__law_told [some (.dat (Tn l)), none] = some (.rs "BadRow" RS [some (.dat (Tn l)), none]) := by
      unfold L1__law_told
      walk_at "st"
    show sTry _ _ _ _ [some (.dat (Tn l)), none] = some (.rt TT _)
    unfold sTry
    rw [h1]
    rfl
/-- what is written is read -/
theorem takeW_app {p : Nat → Bool} : ∀ {a b : List Nat}, (∀ c ∈ a, p c = true) → (∀ c ∈ b.head?, p c = false) → (a ++ b).takeWhile p = a ∧ (a ++ b).dropWhile p = b
  | [], [], _, _ => ⟨rfl, rfl⟩
  | [], d :: b, _, h => by
    have := h d rfl
    simp [this]
  | c :: a, b, h, h2 => by
    obtain ⟨i1, i2⟩ := takeW_app (a := a) (b := b) (fun x hx => h x (List.mem_cons_of_mem _ hx)) h2
    have := h c List.mem_cons_self
    simp [this, i1, i2]
theorem rdL_sh : ∀ (rs : Rn) (n : Nat) (row : List Nat), (∀ p ∈ rs, p.1 ∈ lets ∧ 1 ≤ p.2) → row.length + (exR rs).length ≤ 40 → (shR rs).length < n → rdL n row (shR rs) = some (row ++ exR rs)
  | [], 0, _, _, _, h => by simp at h
  | [], n + 1, row, _, _, _ => by
    show some row = some (row ++ [])
    rw [List.append_nil]
  | p :: rs, 0, _, _, _, h => by omega
  | (c, k) :: rs, n + 1, row, h, hz, hn => by
    obtain ⟨hc, hk⟩ := h (c, k) List.mem_cons_self
    have hk : 1 ≤ k := hk
    have e1 : shR ((c, k) :: rs) = c :: ((if k > 1 then TL.numL k else []) ++ shR rs) := rfl
    have e2 : exR ((c, k) :: rs) = List.replicate k c ++ exR rs := rfl
    rw [e2, List.length_append, List.length_replicate] at hz
    rw [e1] at hn ⊢
    have hh : ∀ d ∈ (shR rs).head?, isD d = false := by
      intro d hd
      cases rs with
      | nil => cases hd
      | cons q rs =>
        have : d = q.1 := by
          have : some q.1 = some d := hd
          cases this
          rfl
        rw [this]
        exact lets_free (h q (by simp)).1
    have hdig : ∀ d ∈ (if k > 1 then TL.numL k else []), isD d = true := by
      intro d hd
      split at hd
      · exact TL.numL_isD k d hd
      · cases hd
    obtain ⟨t1, t2⟩ := takeW_app hdig hh
    have hlen : (if k > 1 then TL.numL k else []).length ≤ 2 := by
      split
      · exact TL.numL_len (k := 2) (by omega) (by omega)
      · simp
    have hnum : num (if k > 1 then TL.numL k else []) = k := by
      split
      · unfold num
        rw [if_neg (TL.numL_ne k), TL.numL_val]
      · show 1 = k
        omega
    unfold rdL
    rw [t1, t2, if_pos ⟨hc, hlen⟩, hnum, if_neg (by rw [List.length_append, List.length_replicate]; omega)]
    rw [rdL_sh rs n _ (fun q hq => h q (List.mem_cons_of_mem _ hq)) (by rw [List.length_append, List.length_replicate]; omega) (by rw [List.length_cons, List.length_append] at hn; omega), e2, List.append_assoc]
theorem rd_stx {l : List Nat} (h : ∀ c ∈ l, c ∈ lets) (hl : l.length ≤ 40) : rd (stx l) = some l := by
  have e := rdL_sh (rn l) 1000000 [] (fun p hp => ⟨h _ (rn_pos l p hp).2, (rn_pos l p hp).1⟩) (by rw [ex_rn]; simpa using hl) (by
    have := stx_len (l := l) (by omega)
    show (stx l).length < _
    omega)
  rw [ex_rn, List.nil_append] at e
  have e : rdL 1000000 [] (stx l) = some l := e
  unfold rd
  rw [e]
  exact if_pos rfl
/-! ### the law -/
theorem let_ix {d : Int} (d0 : 0 ≤ d) (d1 : d < 4) : ∃ c ∈ lets, ixX (.str "HLRS") (.int d) = some (Tn [c]) := by
  have e : ("HLRS" : Str) = tx lets := by decide +kernel
  rw [e]
  obtain ⟨n, rfl⟩ : ∃ n : Nat, d = (n : Int) := ⟨d.toNat, by omega⟩
  have hn : n < lets.length := by
    show n < 4
    omega
  exact ⟨lets[n], List.getElem_mem hn, tx_ix lets n (by decide) (List.getElem?_eq_getElem hn)⟩
abbrev signs : List Nat := [72, 76, 82, 83, 48, 49, 50, 51, 52, 53, 57, 32, 108, 45]
theorem sign_ix {d : Int} (d0 : 0 ≤ d) (d1 : d < 14) : ∃ c, ixX (.str "HLRS0123459 l-") (.int d) = some (Tn [c]) := by
  have e : ("HLRS0123459 l-" : Str) = tx signs := by decide +kernel
  rw [e]
  obtain ⟨n, rfl⟩ : ∃ n : Nat, d = (n : Int) := ⟨d.toNat, by omega⟩
  have hn : n < signs.length := by
    show n < 14
    omega
  exact ⟨signs[n], tx_ix signs n (by decide) (List.getElem?_eq_getElem hn)⟩
theorem many_ix {d : Int} (d0 : 0 ≤ d) (d1 : d < 7) : ∃ n : Nat, n ≤ 19 ∧ ixX (.list [.int 1, .int 1, .int 2, .int 3, .int 10, .int 12, .int 19]) (.int d) = some (.int (n : Int)) := by
  have hd : d = 0 ∨ d = 1 ∨ d = 2 ∨ d = 3 ∨ d = 4 ∨ d = 5 ∨ d = 6 := by omega
  rcases hd with rfl | rfl | rfl | rfl | rfl | rfl | rfl
  · exact ⟨1, by omega, rfl⟩
  · exact ⟨1, by omega, rfl⟩
  · exact ⟨2, by omega, rfl⟩
  · exact ⟨3, by omega, rfl⟩
  · exact ⟨10, by omega, rfl⟩
  · exact ⟨12, by omega, rfl⟩
  · exact ⟨19, by omega, rfl⟩
abbrev LR (s : D) (B : List D) (r : List Nat) (e3 : Option Ent) : En := [some (.dat s), some (.ow false (.lst B)), some (.dat (Tn r)), e3, none, none, none, none, none, none, none]
theorem rows_run (s : D) (ds : List Int) : ∀ (ks : List D) (i : Int) (r : List Nat) (e3 : Option Ent), 0 ≤ i → (∀ c ∈ r, c ∈ lets) → r.length + 19 * ks.length ≤ 500 →
    ∃ j r' e', forF (gDat 3) L1_law ks (LR s (bx ds i) r e3) = some (.nx (LR s (bx ds j) r' e')) ∧ 0 ≤ j ∧ (∀ c ∈ r', c ∈ lets) ∧ r'.length ≤ 500
  | [], i, r, e3, h0, h1, h2 => ⟨i, r, e3, rfl, h0, h1, by simpa using h2⟩
  | k :: ks, i, r, e3, h0, h1, h2 => by
    rw [List.length_cons] at h2
    obtain ⟨d, e1, d0, d1⟩ := draw_ok ds i 4 h0 (by omega)
    obtain ⟨f, e2, f0, f1⟩ := draw_ok ds (i + 1) 7 (by omega) (by omega)
    obtain ⟨c, hc, e4⟩ := let_ix d0 d1
    obtain ⟨n, hn, e5⟩ := many_ix f0 f1
    have e6 := tx_mul c n (by omega)
    have e7 := tx_add r (List.replicate n c) (by rw [List.length_replicate]; omega)
    obtain ⟨j, r', e', q, q1, q2, q3⟩ := rows_run s ds ks (i + 1 + 1) (r ++ List.replicate n c) (some (.dat k)) (by omega) (fun x hx => by
      rcases List.mem_append.mp hx with hx | hx
      · exact h1 x hx
      · rw [(List.mem_replicate.mp hx).2]; exact hc) (by rw [List.length_append, List.length_replicate]; omega)
    refine ⟨j, r', e', (forF_nx (γ1 := LR s (bx ds i) r (some (.dat k))) rfl ?_).trans q, q1, q2, q3⟩
    unfold L1_law
    walk_at "st"
abbrev LS (s : D) (B : List D) (r t : List Nat) (e3 e5 e6 e7 e8 : Option Ent) : En := [some (.dat s), some (.ow false (.lst B)), some (.dat (Tn r)), e3, some (.dat (Tn t)), e5, e6, e7, e8, none, none]
abbrev tn3 (t : List Nat) (a c : Nat) : List (List Nat) := [t.take a ++ [c] ++ t.drop a, t.take a ++ t.drop (a + 1), t.take a ++ [c] ++ t.drop (a + 1)]
theorem ok_lets {r : List Nat} (h : ∀ c ∈ r, c ∈ lets) : PyData.strOk (tx r) = true := by
  unfold PyData.strOk tx
  rw [List.all_toArray, List.all_eq_true]
  intro c hc
  have := h c hc
  simp only [lets, List.mem_cons, List.not_mem_nil, or_false] at this
  exact decide_eq_true (by omega)
theorem ok_text : PyData.strOk "text" = true := by decide +kernel
theorem ne_str (r : List Nat) (h : ∀ c ∈ r, c ∈ lets) : neD (Tn r) (.list [.bool true, .str "text"]) = some (.bool true) := by
  simp [neD, SeqAt.shaped, PyData.canLay0, PyData.canLayAll0, PyData.depth, PyData.depthAll, PyData.eqv, PyData.eqvAll, ok_lets h, ok_text]
theorem ne_TT : neD (.list [.bool true, .str "text"]) (.list [.bool true, .str "text"]) = some (.bool false) := by
  simp [neD, SeqAt.shaped, PyData.canLay0, PyData.canLayAll0, PyData.depth, PyData.depthAll, PyData.eqv, PyData.eqvAll, ok_text]
theorem lc_none (told : List Nat) (h : ∀ c ∈ told, c ∈ lets) (hl : told.length ≤ 40) {s : D} {B : List D} {r t : List Nat} {e3 e5 e6 e7 : Option Ent} :
    lLc [9] (gDat 9) (wOf (fN 8)) (ofB (f2n notInSD 9 (fC (.str "HLRS")))) E2_law (LS s B r t e3 e5 e6 e7 (some (.dat (Tn told)))) = some ([], LS s B r t e3 e5 e6 e7 (some (.dat (Tn told)))) := by
  have hs : wOf (fN 8) (LS s B r t e3 e5 e6 e7 (some (.dat (Tn told)))) = some (told.map fun c => Tn [c], LS s B r t e3 e5 e6 e7 (some (.dat (Tn told)))) := by walk_at "ev"
  have lc := lLc_pure (enc := fun c => Tn [c]) (js := [9]) (tg := gDat 9) (src := wOf (fN 8)) (tt := ofB (f2n notInSD 9 (fC (.str "HLRS")))) (elt := E2_law) (γ := LS s B r t e3 e5 e6 e7 (some (.dat (Tn told)))) (γ1 := LS s B r t e3 e5 e6 e7 (some (.dat (Tn told)))) (ds := told) (fun _ => none) hs rfl rfl rfl
    (fun c hc => ⟨[some (.dat s), some (.ow false (.lst B)), some (.dat (Tn r)), e3, some (.dat (Tn t)), e5, e6, e7, some (.dat (Tn told)), some (.dat (Tn [c])), none], rfl, .inl ⟨rfl, [some (.dat s), some (.ow false (.lst B)), some (.dat (Tn r)), e3, some (.dat (Tn t)), e5, e6, e7, some (.dat (Tn told)), some (.dat (Tn [c])), none], by
      have e : ("HLRS" : Str) = tx lets := by decide +kernel
      have g : notInSD (Tn [c]) (.str "HLRS") = some (.bool false) := by rw [e, tx_notInS, decide_eq_true (h c hc)]; rfl
      walk_at "ev", rfl, rfl⟩⟩) (by omega)
  rw [lc]
  congr 2
  induction told with
  | nil => rfl
  | cons a l ih => simp
theorem turn_run (s : D) (ds : List Int) (r t : List Nat) (hr : r.length ≤ 40) (ht : t.length ≤ 200) : ∀ (ks : List D) (i : Int) (e3 e5 e6 e7 e8 : Option Ent), 0 ≤ i →
    ∃ j f3 f5 f6 f7 f8, forF (gDat 3) L3_law ks (LS s (bx ds i) r t e3 e5 e6 e7 e8) = some (.nx (LS s (bx ds j) r t f3 f5 f6 f7 f8)) ∧ 0 ≤ j
  | [], i, e3, e5, e6, e7, e8, h0 => ⟨i, e3, e5, e6, e7, e8, rfl, h0⟩
  | k :: ks, i, e3, e5, e6, e7, e8, h0 => by
    obtain ⟨d, e1, d0, d1⟩ := draw_ok ds i ((t.length : Int) + 1) h0 (by omega)
    obtain ⟨a, rfl⟩ : ∃ a : Nat, d = (a : Int) := ⟨d.toNat, by omega⟩
    obtain ⟨f, e2, f0, f1⟩ := draw_ok ds (i + 1) 14 (by omega) (by omega)
    obtain ⟨g, e4, g0, g1⟩ := draw_ok ds (i + 1 + 1) 3 (by omega) (by omega)
    obtain ⟨c, ec⟩ := sign_ix f0 f1
    have l1 := tx_lenD t (by omega)
    have l2 : addD (.int (t.length : Int)) (.int 1) = some (.int ((t.length : Int) + 1)) := rfl
    have c1 := tx_to t a (by omega)
    have c2 := tx_from t a (by omega)
    have c3 := tx_from t (a + 1) (by omega)
    have a0 : addD (.int (a : Int)) (.int 1) = some (.int ((a + 1 : Nat) : Int)) := by
      show some (PyData.int ((a : Int) + 1)) = _
      rw [Int.natCast_add]
      rfl
    have b1 : (t.take a).length ≤ 200 := by rw [List.length_take]; omega
    have b2 : (t.drop a).length ≤ 200 := by rw [List.length_drop]; omega
    have b3 : (t.drop (a + 1)).length ≤ 200 := by rw [List.length_drop]; omega
    have a1 := tx_add (t.take a) [c] (by simp; omega)
    have a2 := tx_add (t.take a ++ [c]) (t.drop a) (by rw [List.length_append, List.length_singleton]; omega)
    have a3 := tx_add (t.take a) (t.drop (a + 1)) (by omega)
    have a4 := tx_add (t.take a ++ [c]) (t.drop (a + 1)) (by rw [List.length_append, List.length_singleton]; omega)
    obtain ⟨u, hu, lu⟩ : ∃ u : List Nat, ixX (.list [Tn (t.take a ++ [c] ++ t.drop a), Tn (t.take a ++ t.drop (a + 1)), Tn (t.take a ++ [c] ++ t.drop (a + 1))]) (.int g) = some (Tn u) ∧ u.length ≤ 900 := by
      have hg : g = 0 ∨ g = 1 ∨ g = 2 := by omega
      rcases hg with rfl | rfl | rfl
      · exact ⟨_, rfl, by rw [List.length_append, List.length_append, List.length_singleton]; omega⟩
      · exact ⟨_, rfl, by rw [List.length_append]; omega⟩
      · exact ⟨_, rfl, by rw [List.length_append, List.length_append, List.length_singleton]; omega⟩
    have lt := ltold_eq u (by omega)
    obtain ⟨j, f3, f5, f6, f7, f8, q, q1⟩ := turn_run s ds r t hr ht ks (i + 1 + 1 + 1) (some (.dat k)) (some (.dat (.int (a : Int)))) (some (.dat (Tn [c]))) (some (.dat (Tn u))) (some (.dat (tldD u))) (by omega)
    refine ⟨j, f3, f5, f6, f7, f8, (forF_nx (γ1 := LS s (bx ds i) r t (some (.dat k)) e5 e6 e7 e8) rfl ?_).trans q, q1⟩
    unfold L3_law
    walk_at "q"
    walk_at "q"
    walk_at "q"
    walk_at "q"
    unfold tldD
    cases er : rd u with
    | none =>
      have := ne_TT
      walk_at "iff"
      walk_at "st"
    | some v =>
      obtain ⟨h1, h2, h3⟩ := rd_ok er
      have n1 := ne_str v h1
      have ls := lshort_eq v (by omega)
      rw [h3] at ls
      have lv := tx_lenD v (by omega)
      have g40 : gtD (.int (v.length : Int)) (.int 40) = some (.bool false) := by
        show some (PyData.bool (decide ((40 : Int) < (v.length : Int)))) = _
        rw [decide_eq_false (by omega)]
      have nu : neD (Tn u) (Tn u) = some (.bool false) := by rw [tx_ne, decide_eq_true rfl]; rfl
      have lc := lc_none v h1 h2 (s := s) (B := bx ds (i + 1 + 1 + 1)) (r := r) (t := t) (e3 := some (.dat k)) (e5 := some (.dat (.int (a : Int)))) (e6 := some (.dat (Tn [c]))) (e7 := some (.dat (Tn u)))
      walk_at "ift"
      walk_at "iff"
      walk_at "st"
abbrev wrongs : List Str := ["2", "L1", "L0", "L02", "LL", "L2L", "L41", "L40S", "L100", "s", "L 2", "L2 ", "X", "LS41", "L2L2", "S1L", "L21L20", "R-2"]
theorem wrongs_none : ∀ w ∈ wrongs, rd w.cps.toList = none := by decide +kernel
theorem told_wrong {w : Str} (h : w ∈ wrongs) : F__law_told none [.str w] = some (.da TT, none) := by
  have l : w.cps.toList.length ≤ 1000 := (by decide +kernel : ∀ w ∈ wrongs, w.cps.toList.length ≤ 1000) w h
  have e := ltold_eq _ l
  unfold tldD at e
  rw [wrongs_none w h] at e
  rw [tx_of w]
  exact e
theorem wrong_ix {d : Int} (d0 : 0 ≤ d) (d1 : d < 18) : ∃ w ∈ wrongs, ixX (.list (wrongs.map .str)) (.int d) = some (.str w) := by
  obtain ⟨n, rfl⟩ : ∃ n : Nat, d = (n : Int) := ⟨d.toNat, by omega⟩
  have hn : n < wrongs.length := by
    show n < 18
    omega
  refine ⟨wrongs[n], List.getElem_mem hn, ?_⟩
  have h0 : (0 : Int) ≤ (n : Int) := by omega
  have h1 : (n : Int) < ((wrongs.map PyData.str).length : Int) := by
    show (n : Int) < 18
    omega
  have e : (wrongs.map PyData.str)[n]? = some (.str wrongs[n]) := by rw [List.getElem?_map, List.getElem?_eq_getElem hn]; rfl
  show atI (wrongs.map PyData.str) (n : Int) = _
  simp only [simp_ix1, simp_ix2, h0, h1, if_true, Option.bind_some, Int.toNat_natCast, e]
theorem law_true (ns : List Int) (_ : ns.length ≤ 63) : ∃ out, F_law [scriptD ns] = some (.bool true, out) := by
  obtain ⟨ds, ed⟩ := digits_ok ns
  obtain ⟨s, hs⟩ : ∃ s, scriptD ns = s := ⟨_, rfl⟩
  rw [hs] at ed ⊢
  have ed : F__law_digits [s, .int 0, .int 50] = some (.list (ds.map .int), []) := ed
  have e0 : (.list (ds.map .int) :: .int 0 :: [] : List D) = bx ds 0 := rfl
  obtain ⟨n, dr, n0, n1⟩ := draw_ok ds 0 9 (by omega) (by omega)
  have s62 : small62 n = true := by
    have h1 : decide (-(2 ^ 62) ≤ n) = true := decide_eq_true (by omega)
    have h2 : decide (n < 2 ^ 62) = true := decide_eq_true (by omega)
    unfold small62
    rw [h1, h2]
    rfl
  have rl : (rngD 0 n.toNat).length ≤ 9 := by
    unfold rngD
    rw [List.length_map, List.length_range]
    omega
  obtain ⟨j, r, e', q, j0, hl, hz⟩ := rows_run s ds (rngD 0 n.toNat) (0 + 1) [] none (by omega) (by simp) (by simp; omega)
  have cut : slD (Tn r) none (some 40) = some (Tn (r.take 40)) := tx_to r 40 (by omega)
  obtain ⟨r1, er1⟩ : ∃ r1, r.take 40 = r1 := ⟨_, rfl⟩
  rw [er1] at cut
  have l1 : r1.length ≤ 40 := by rw [← er1, List.length_take]; omega
  have h1 : ∀ c ∈ r1, c ∈ lets := fun c hc => hl c (by rw [← er1] at hc; exact List.mem_of_mem_take hc)
  have ls := lshort_eq r1 (by omega)
  have ps := short_eq r1 (by omega)
  have sl := stx_len (l := r1) (by omega)
  have lt := ltold_eq (stx r1) (by omega)
  have et : tldD (stx r1) = Tn r1 := by
    unfold tldD
    rw [rd_stx h1 l1]
  rw [et] at lt
  obtain ⟨t, et⟩ : ∃ t, stx r1 = t := ⟨_, rfl⟩
  rw [et] at ls ps sl lt
  have n1 : neD (Tn t) (Tn t) = some (.bool false) := by rw [tx_ne, decide_eq_true rfl]; rfl
  have n2 : neD (Tn r1) (Tn r1) = some (.bool false) := by rw [tx_ne, decide_eq_true rfl]; rfl
  obtain ⟨k, f3, f5, f6, f7, f8, q3, k0⟩ := turn_run s ds r1 t l1 (by omega) (rngD 0 (6 : Int).toNat) j e' none none none none j0
  obtain ⟨d, dr2, d0, d1⟩ := draw_ok ds k 900 k0 (by omega)
  have md : modD (.int d) (.int 18) = some (.int (d % 18)) := rfl
  obtain ⟨w, hw, ew⟩ := wrong_ix (d := d % 18) (Int.emod_nonneg _ (by omega)) (Int.emod_lt_of_pos _ (by omega))
  have tw := told_wrong hw
  have nT := ne_TT
  have t40 : F__law_told none [.str "L40"] = some (.da (Tn (List.replicate 40 76)), none) := by
    have e := ltold_eq ("L40" : Str).cps.toList (by decide +kernel)
    have e2 : rd ("L40" : Str).cps.toList = some (List.replicate 40 76) := by decide +kernel
    unfold tldD at e
    rw [e2] at e
    rw [tx_of "L40"]
    exact e
  have t0 : F__law_told none [.str ""] = some (.da (.str ""), none) := by
    have e := ltold_eq [] (by simp)
    have e2 : rd [] = some [] := by decide +kernel
    unfold tldD at e
    rw [e2] at e
    exact e
  have m40 : mulTD (.str "L") (.int 40) = some (Tn (List.replicate 40 76)) := by
    have := tx_mul 76 40 (by omega)
    rw [show ("L" : Str) = tx [76] from by decide +kernel]
    exact this
  have eq1 : eqD (Tn (List.replicate 40 76)) (Tn (List.replicate 40 76)) = some (.bool true) := by rw [tx_eq, decide_eq_true rfl]
  refine ⟨[], ?_⟩
  unfold F_law B_law
  walk_at "run"
  refine q_seq (γ1 := [some (.dat s), some (.ow false (.lst (bx ds 0))), none, none, none, none, none, none, none, none, none]) (by walk_at "st") ?_
  refine q_seq (γ1 := LR s (bx ds 0) [] none) (by walk_at "st") ?_
  walk_at "q"
  walk_at "q"
  walk_at "q"
  walk_at "qiff"
  walk_at "q"
  have hlen : lenD (.list (wrongs.map .str)) = some (.int 18) := rfl
  refine q_seq (γ1 := [some (.dat s), some (.ow false (.lst (bx ds k))), some (.dat (Tn r1)), f3, some (.dat (Tn t)), f5, f6, f7, f8, none, some (.dat (.list (wrongs.map .str)))]) (by walk_at "st") ?_
  walk_at "qiff"
  walk_at "st"
/-! ### what the top has written -/
theorem all_mk {l : PySem.W.OpenLaw} {w : World} {K : PySem.W.Frag} {h : Heap} {mg : Str → Option Value} {fa : Addr} (KX : K.In h) (G : h.Ns mainGlobals mg) (hfa : mg "law" = some (.ref fa))
    {od__law_short an__law_short : Option Addr} {sl__law_short : Array (Option Value)} {oc__law_short kV__law_short dc__law_short pm__law_short cd__law_short ct__law_short : Value} {f__law_short : Addr} {od__law_cell an__law_cell : Option Addr} {sl__law_cell : Array (Option Value)} {oc__law_cell kV__law_cell dc__law_cell pm__law_cell cd__law_cell ct__law_cell : Value} {f__law_cell : Addr} {od__law_digits an__law_digits : Option Addr} {sl__law_digits : Array (Option Value)} {oc__law_digits kV__law_digits dc__law_digits pm__law_digits cd__law_digits ct__law_digits : Value} {f__law_digits : Addr} {od__law_draw an__law_draw : Option Addr} {sl__law_draw : Array (Option Value)} {oc__law_draw kV__law_draw dc__law_draw pm__law_draw cd__law_draw ct__law_draw : Value} {f__law_draw : Addr} {od__end_of_number an__end_of_number : Option Addr} {sl__end_of_number : Array (Option Value)} {oc__end_of_number kV__end_of_number dc__end_of_number pm__end_of_number cd__end_of_number ct__end_of_number : Value} {f__end_of_number : Addr} {od__runs an__runs : Option Addr} {sl__runs : Array (Option Value)} {oc__runs kV__runs dc__runs pm__runs cd__runs ct__runs : Value} {f__runs : Addr} {od_short_text an_short_text : Option Addr} {sl_short_text : Array (Option Value)} {oc_short_text kV_short_text dc_short_text pm_short_text cd_short_text ct_short_text : Value} {f_short_text : Addr} {od__run_told an__run_told : Option Addr} {sl__run_told : Array (Option Value)} {oc__run_told kV__run_told dc__run_told pm__run_told cd__run_told ct__run_told : Value} {f__run_told : Addr} {od_read_short an_read_short : Option Addr} {sl_read_short : Array (Option Value)} {oc_read_short kV_read_short dc_read_short pm_read_short cd_read_short ct_read_short : Value} {f_read_short : Addr} {od__law_told an__law_told : Option Addr} {sl__law_told : Array (Option Value)} {oc__law_told kV__law_told dc__law_told pm__law_told cd__law_told ct__law_told : Value} {f__law_told : Addr} {od_law an_law : Option Addr} {sl_law : Array (Option Value)} {oc_law kV_law dc_law pm_law cd_law ct_law : Value} {f_law : Addr} {u_DIGITS : Value} {u_LETTERS : Value} {u_LONGEST : Value} {od_BadRow an_BadRow : Option Addr} {sl_BadRow : Array (Option Value)} {oc_BadRow kV_BadRow dc_BadRow pm_BadRow ct_BadRow : Value} {f_BadRow k_BadRow j_BadRow C_BadRow : Addr}
    (a__law_short : PySem.W.nsIn K mainGlobals "_law_short" = some (some (.ref f__law_short))) (l__law_short : K.lookup f__law_short = some ⟨oc__law_short, od__law_short, .func (PySem.W.fnOf "_law_short" "_law_short" (defArgs s__law_short) (defBody s__law_short) (defScope s__law_short) .none kV__law_short dc__law_short pm__law_short an__law_short cd__law_short ct__law_short), sl__law_short⟩) (c__law_short : PySem.W.codeIn K cd__law_short "_law_short" = true) (k__law_short : PySem.W.keepIn K (.ref f__law_short) = true)
    (a__law_cell : PySem.W.nsIn K mainGlobals "_law_cell" = some (some (.ref f__law_cell))) (l__law_cell : K.lookup f__law_cell = some ⟨oc__law_cell, od__law_cell, .func (PySem.W.fnOf "_law_cell" "_law_cell" (defArgs s__law_cell) (defBody s__law_cell) (defScope s__law_cell) .none kV__law_cell dc__law_cell pm__law_cell an__law_cell cd__law_cell ct__law_cell), sl__law_cell⟩) (c__law_cell : PySem.W.codeIn K cd__law_cell "_law_cell" = true) (k__law_cell : PySem.W.keepIn K (.ref f__law_cell) = true)
    (a__law_digits : PySem.W.nsIn K mainGlobals "_law_digits" = some (some (.ref f__law_digits))) (l__law_digits : K.lookup f__law_digits = some ⟨oc__law_digits, od__law_digits, .func (PySem.W.fnOf "_law_digits" "_law_digits" (defArgs s__law_digits) (defBody s__law_digits) (defScope s__law_digits) .none kV__law_digits dc__law_digits pm__law_digits an__law_digits cd__law_digits ct__law_digits), sl__law_digits⟩) (c__law_digits : PySem.W.codeIn K cd__law_digits "_law_digits" = true) (k__law_digits : PySem.W.keepIn K (.ref f__law_digits) = true)
    (a__law_draw : PySem.W.nsIn K mainGlobals "_law_draw" = some (some (.ref f__law_draw))) (l__law_draw : K.lookup f__law_draw = some ⟨oc__law_draw, od__law_draw, .func (PySem.W.fnOf "_law_draw" "_law_draw" (defArgs s__law_draw) (defBody s__law_draw) (defScope s__law_draw) .none kV__law_draw dc__law_draw pm__law_draw an__law_draw cd__law_draw ct__law_draw), sl__law_draw⟩) (c__law_draw : PySem.W.codeIn K cd__law_draw "_law_draw" = true) (k__law_draw : PySem.W.keepIn K (.ref f__law_draw) = true)
    (a__end_of_number : PySem.W.nsIn K mainGlobals "_end_of_number" = some (some (.ref f__end_of_number))) (l__end_of_number : K.lookup f__end_of_number = some ⟨oc__end_of_number, od__end_of_number, .func (PySem.W.fnOf "_end_of_number" "_end_of_number" (defArgs s__end_of_number) (defBody s__end_of_number) (defScope s__end_of_number) .none kV__end_of_number dc__end_of_number pm__end_of_number an__end_of_number cd__end_of_number ct__end_of_number), sl__end_of_number⟩) (c__end_of_number : PySem.W.codeIn K cd__end_of_number "_end_of_number" = true) (k__end_of_number : PySem.W.keepIn K (.ref f__end_of_number) = true)
    (a__runs : PySem.W.nsIn K mainGlobals "_runs" = some (some (.ref f__runs))) (l__runs : K.lookup f__runs = some ⟨oc__runs, od__runs, .func (PySem.W.fnOf "_runs" "_runs" (defArgs s__runs) (defBody s__runs) (defScope s__runs) .none kV__runs dc__runs pm__runs an__runs cd__runs ct__runs), sl__runs⟩) (c__runs : PySem.W.codeIn K cd__runs "_runs" = true) (k__runs : PySem.W.keepIn K (.ref f__runs) = true)
    (a_short_text : PySem.W.nsIn K mainGlobals "short_text" = some (some (.ref f_short_text))) (l_short_text : K.lookup f_short_text = some ⟨oc_short_text, od_short_text, .func (PySem.W.fnOf "short_text" "short_text" (defArgs s_short_text) (defBody s_short_text) (defScope s_short_text) .none kV_short_text dc_short_text pm_short_text an_short_text cd_short_text ct_short_text), sl_short_text⟩) (c_short_text : PySem.W.codeIn K cd_short_text "short_text" = true) (k_short_text : PySem.W.keepIn K (.ref f_short_text) = true)
    (a__run_told : PySem.W.nsIn K mainGlobals "_run_told" = some (some (.ref f__run_told))) (l__run_told : K.lookup f__run_told = some ⟨oc__run_told, od__run_told, .func (PySem.W.fnOf "_run_told" "_run_told" (defArgs s__run_told) (defBody s__run_told) (defScope s__run_told) .none kV__run_told dc__run_told pm__run_told an__run_told cd__run_told ct__run_told), sl__run_told⟩) (c__run_told : PySem.W.codeIn K cd__run_told "_run_told" = true) (k__run_told : PySem.W.keepIn K (.ref f__run_told) = true)
    (a_read_short : PySem.W.nsIn K mainGlobals "read_short" = some (some (.ref f_read_short))) (l_read_short : K.lookup f_read_short = some ⟨oc_read_short, od_read_short, .func (PySem.W.fnOf "read_short" "read_short" (defArgs s_read_short) (defBody s_read_short) (defScope s_read_short) .none kV_read_short dc_read_short pm_read_short an_read_short cd_read_short ct_read_short), sl_read_short⟩) (c_read_short : PySem.W.codeIn K cd_read_short "read_short" = true) (k_read_short : PySem.W.keepIn K (.ref f_read_short) = true)
    (a__law_told : PySem.W.nsIn K mainGlobals "_law_told" = some (some (.ref f__law_told))) (l__law_told : K.lookup f__law_told = some ⟨oc__law_told, od__law_told, .func (PySem.W.fnOf "_law_told" "_law_told" (defArgs s__law_told) (defBody s__law_told) (defScope s__law_told) .none kV__law_told dc__law_told pm__law_told an__law_told cd__law_told ct__law_told), sl__law_told⟩) (c__law_told : PySem.W.codeIn K cd__law_told "_law_told" = true) (k__law_told : PySem.W.keepIn K (.ref f__law_told) = true)
    (a_law : PySem.W.nsIn K mainGlobals "law" = some (some (.ref f_law))) (l_law : K.lookup f_law = some ⟨oc_law, od_law, .func (PySem.W.fnOf "law" "law" (defArgs s_law) (defBody s_law) (defScope s_law) .none kV_law dc_law pm_law an_law cd_law ct_law), sl_law⟩) (c_law : PySem.W.codeIn K cd_law "law" = true) (k_law : PySem.W.keepIn K (.ref f_law) = true)
    (z_ValueError : PySem.W.nsIn K mainGlobals "ValueError" = some none) (z_int : PySem.W.nsIn K mainGlobals "int" = some none) (z_isinstance : PySem.W.nsIn K mainGlobals "isinstance" = some none) (z_len : PySem.W.nsIn K mainGlobals "len" = some none) (z_range : PySem.W.nsIn K mainGlobals "range" = some none) (z_str : PySem.W.nsIn K mainGlobals "str" = some none) (z_super : PySem.W.nsIn K mainGlobals "super" = some none)
    (a_DIGITS : PySem.W.nsIn K mainGlobals "DIGITS" = some (some u_DIGITS)) (V_DIGITS : VD K u_DIGITS c_DIGITS)
    (a_LETTERS : PySem.W.nsIn K mainGlobals "LETTERS" = some (some u_LETTERS)) (V_LETTERS : VD K u_LETTERS c_LETTERS)
    (a_LONGEST : PySem.W.nsIn K mainGlobals "LONGEST" = some (some u_LONGEST)) (V_LONGEST : VD K u_LONGEST c_LONGEST)
    (a_BadRow : PySem.W.nsIn K mainGlobals "BadRow" = some (some (.ref C_BadRow))) (i_BadRow : PySem.W.findIn K (.ref C_BadRow) "__init__" = some (some (.ref f_BadRow))) (l_BadRow : K.lookup f_BadRow = some ⟨oc_BadRow, od_BadRow, .func (PySem.W.ksFn "__init__" "BadRow.__init__" (defArgs (methS (topS 2) 0)) (defBody (methS (topS 2) 0)) (defScope (methS (topS 2) 0)) .none kV_BadRow dc_BadRow pm_BadRow an_BadRow (.ref k_BadRow) ct_BadRow j_BadRow), sl_BadRow⟩) (c_BadRow : PySem.W.codeIn K (.ref k_BadRow) "BadRow.__init__" = true) (b_BadRow : excB l.prog K C_BadRow f_BadRow k_BadRow j_BadRow "reason" = true)
    (bE_RailError : excsB K "RailError" [("BadRow", true)] = true)
    (bI_BadRow : isisB K "BadRow" [("BadRow", true)] = true)
    (bJ_ValueError : isiB K (.type "ValueError") [("BadRow", true)] = true)
    (bL_reason : fldB K "reason" ["BadRow"] = true) :
    ∃ fd : FuncData, (∀ (s : Shared) (v : Value), BindsTo s fd ⟨[v], []⟩ [("script", v)]) ∧ ∀ base : Heap, K.In base → base.Ns mainGlobals mg → FnG l.prog w K mg base 6 fa fd ["script"] false F_law := by
  have e := hfa.symm.trans (PySem.W.mg_of KX G a_law)
  cases e
  have y_ValueError := PySem.W.mg_none_of KX G z_ValueError
  have y_int := PySem.W.mg_none_of KX G z_int
  have y_isinstance := PySem.W.mg_none_of KX G z_isinstance
  have y_len := PySem.W.mg_none_of KX G z_len
  have y_range := PySem.W.mg_none_of KX G z_range
  have y_str := PySem.W.mg_none_of KX G z_str
  have y_super := PySem.W.mg_none_of KX G z_super
  refine ⟨PySem.W.fnOf "law" "law" (defArgs s_law) (defBody s_law) (defScope s_law) .none kV_law dc_law pm_law an_law cd_law ct_law, fun s v => .of_eq rfl, fun base _ _ => ?_⟩
  have X_BadRow : ExcN l.prog w K mg base "BadRow" "reason" := exc_mk (r := "reason") (z := "bad row: ") KX G y_super a_BadRow b_BadRow (by decide +kernel) c_BadRow l_BadRow rfl (by decide +kernel) rfl rfl (by decide) (by decide) (fun _ => rfl) (fun us hl => match us, hl with | [_, _], _ => rfl)
  obtain ⟨cE_RailError, gE_RailError, T_RailError⟩ := excsB_ok KX G bE_RailError
  obtain ⟨cI_BadRow, gI_BadRow, I_BadRow⟩ := isisB_ok KX G bI_BadRow
  have J_ValueError := isiB_ok bJ_ValueError
  have L_reason := fldB_ok bL_reason
  have Fu__law_short := fun_mk (st := s__law_short) l__law_short c__law_short k__law_short
  have C__law_short : Cal l.prog w K mg base "_law_short" 1 ["row"] false F__law_short := ⟨_, _, fn__law_short Fu__law_short y_int y_len y_str   , PySem.W.mg_of KX G a__law_short, k__law_short, Fu__law_short.binds (ps := ["row"]) fun _ _ _ _ _ _ us hl => match us, hl with | [_], _ => rfl⟩
  have Fu__law_cell := fun_mk (st := s__law_cell) l__law_cell c__law_cell k__law_cell
  have C__law_cell : Cal l.prog w K mg base "_law_cell" 1 ["script", "k"] false F__law_cell := ⟨_, _, fn__law_cell Fu__law_cell y_len   , PySem.W.mg_of KX G a__law_cell, k__law_cell, Fu__law_cell.binds (ps := ["script", "k"]) fun _ _ _ _ _ _ us hl => match us, hl with | [_, _], _ => rfl⟩
  have Fu__law_digits := fun_mk (st := s__law_digits) l__law_digits c__law_digits k__law_digits
  have C__law_digits : Cal l.prog w K mg base "_law_digits" 2 ["script", "first", "last"] false F__law_digits := ⟨_, _, fn__law_digits Fu__law_digits y_int y_range   C__law_cell, PySem.W.mg_of KX G a__law_digits, k__law_digits, Fu__law_digits.binds (ps := ["script", "first", "last"]) fun _ _ _ _ _ _ us hl => match us, hl with | [_, _, _], _ => rfl⟩
  have Fu__law_draw := fun_mk (st := s__law_draw) l__law_draw c__law_draw k__law_draw
  have C__law_draw : Cal l.prog w K mg base "_law_draw" 1 ["box", "many"] true F__law_draw := ⟨_, _, fn__law_draw Fu__law_draw y_int y_len   , PySem.W.mg_of KX G a__law_draw, k__law_draw, Fu__law_draw.binds (ps := ["box", "many"]) fun _ _ _ _ _ _ us hl => match us, hl with | [_, _], _ => rfl⟩
  have Fu__end_of_number := fun_mk (st := s__end_of_number) l__end_of_number c__end_of_number k__end_of_number
  have C__end_of_number : Cal l.prog w K mg base "_end_of_number" 1 ["text", "at"] false F__end_of_number := ⟨_, _, fn__end_of_number Fu__end_of_number y_len V_DIGITS (PySem.W.mg_of KX G a_DIGITS)  , PySem.W.mg_of KX G a__end_of_number, k__end_of_number, Fu__end_of_number.binds (ps := ["text", "at"]) fun _ _ _ _ _ _ us hl => match us, hl with | [_, _], _ => rfl⟩
  have Fu__runs := fun_mk (st := s__runs) l__runs c__runs k__runs
  have C__runs : Cal l.prog w K mg base "_runs" 1 ["row"] false F__runs := ⟨_, _, fn__runs Fu__runs    , PySem.W.mg_of KX G a__runs, k__runs, Fu__runs.binds (ps := ["row"]) fun _ _ _ _ _ _ us hl => match us, hl with | [_], _ => rfl⟩
  have Fu_short_text := fun_mk (st := s_short_text) l_short_text c_short_text k_short_text
  have C_short_text : Cal l.prog w K mg base "short_text" 2 ["row"] false F_short_text := ⟨_, _, fn_short_text Fu_short_text y_str   C__runs, PySem.W.mg_of KX G a_short_text, k_short_text, Fu_short_text.binds (ps := ["row"]) fun _ _ _ _ _ _ us hl => match us, hl with | [_], _ => rfl⟩
  have Fu__run_told := fun_mk (st := s__run_told) l__run_told c__run_told k__run_told
  have C__run_told : CalX l.prog w K mg base "_run_told" 3 ["letter", "number"] F__run_told := ⟨_, _, fn__run_told Fu__run_told y_int y_len V_LETTERS (PySem.W.mg_of KX G a_LETTERS) X_BadRow , PySem.W.mg_of KX G a__run_told, k__run_told, Fu__run_told.binds (ps := ["letter", "number"]) fun _ _ _ _ _ _ us hl => match us, hl with | [_, _], _ => rfl⟩
  have Fu_read_short := fun_mk (st := s_read_short) l_read_short c_read_short k_read_short
  have C_read_short : CalX l.prog w K mg base "read_short" 4 ["text"] F_read_short := ⟨_, _, fn_read_short Fu_read_short y_len V_LONGEST (PySem.W.mg_of KX G a_LONGEST) X_BadRow C__end_of_number C__run_told C_short_text, PySem.W.mg_of KX G a_read_short, k_read_short, Fu_read_short.binds (ps := ["text"]) fun _ _ _ _ _ _ us hl => match us, hl with | [_], _ => rfl⟩
  have Fu__law_told := fun_mk (st := s__law_told) l__law_told c__law_told k__law_told
  have C__law_told : CalX l.prog w K mg base "_law_told" 5 ["text"] F__law_told := ⟨_, _, fn__law_told Fu__law_told y_ValueError y_isinstance  gE_RailError T_RailError gI_BadRow I_BadRow J_ValueError L_reason C_read_short, PySem.W.mg_of KX G a__law_told, k__law_told, Fu__law_told.binds (ps := ["text"]) fun _ _ _ _ _ _ us hl => match us, hl with | [_], _ => rfl⟩
  exact fn_law (fun_mk (st := s_law) l_law c_law k_law) y_int y_isinstance y_len y_range y_str   C__law_digits C__law_draw C__law_short C__law_told C_short_text
end DN
open PySem PySem.W PyProof.Rows
set_option maxRecDepth 100000 in
set_option maxHeartbeats 0 in
theorem PySem.Challenge.cw_railshut_k16_short_texts_holds : PySem.Challenge.rw_railshut_k16_short_texts.Holds := by
  w_on; o_law; k_head; (case hw => w_witness2)
  k_fill
  refine DN.walkG (l := PySem.Challenge.rw_railshut_k16_short_texts) (n := 63) (k := 6) (x := "script") (F := DN.F_law) rfl (by decide) rfl ⟨rfl, by decide, by decide⟩ (fun w h Y => PySem.W.kIn_of Y) ?G DN.law_true
  case G =>
    intro w mg fa h KX Gm hmg
    refine' DN.all_mk KX Gm hmg ?a__law_short ?l__law_short ?c__law_short ?k__law_short ?a__law_cell ?l__law_cell ?c__law_cell ?k__law_cell ?a__law_digits ?l__law_digits ?c__law_digits ?k__law_digits ?a__law_draw ?l__law_draw ?c__law_draw ?k__law_draw ?a__end_of_number ?l__end_of_number ?c__end_of_number ?k__end_of_number ?a__runs ?l__runs ?c__runs ?k__runs ?a_short_text ?l_short_text ?c_short_text ?k_short_text ?a__run_told ?l__run_told ?c__run_told ?k__run_told ?a_read_short ?l_read_short ?c_read_short ?k_read_short ?a__law_told ?l__law_told ?c__law_told ?k__law_told ?a_law ?l_law ?c_law ?k_law ?z_ValueError ?z_int ?z_isinstance ?z_len ?z_range ?z_str ?z_super ?a_DIGITS ?V_DIGITS ?a_LETTERS ?V_LETTERS ?a_LONGEST ?V_LONGEST ?a_BadRow ?i_BadRow ?l_BadRow ?c_BadRow ?b_BadRow ?bE_RailError ?bI_BadRow ?bJ_ValueError ?bL_reason
    (case a__law_short => k_is); (case l__law_short => k_is); (case c__law_short => k_is); (case k__law_short => k_is)
    (case a__law_cell => k_is); (case l__law_cell => k_is); (case c__law_cell => k_is); (case k__law_cell => k_is)
    (case a__law_digits => k_is); (case l__law_digits => k_is); (case c__law_digits => k_is); (case k__law_digits => k_is)
    (case a__law_draw => k_is); (case l__law_draw => k_is); (case c__law_draw => k_is); (case k__law_draw => k_is)
    (case a__end_of_number => k_is); (case l__end_of_number => k_is); (case c__end_of_number => k_is); (case k__end_of_number => k_is)
    (case a__runs => k_is); (case l__runs => k_is); (case c__runs => k_is); (case k__runs => k_is)
    (case a_short_text => k_is); (case l_short_text => k_is); (case c_short_text => k_is); (case k_short_text => k_is)
    (case a__run_told => k_is); (case l__run_told => k_is); (case c__run_told => k_is); (case k__run_told => k_is)
    (case a_read_short => k_is); (case l_read_short => k_is); (case c_read_short => k_is); (case k_read_short => k_is)
    (case a__law_told => k_is); (case l__law_told => k_is); (case c__law_told => k_is); (case k__law_told => k_is)
    (case a_law => k_is); (case l_law => k_is); (case c_law => k_is); (case k_law => k_is)
    (case z_ValueError => k_is)
    (case z_int => k_is)
    (case z_isinstance => k_is)
    (case z_len => k_is)
    (case z_range => k_is)
    (case z_str => k_is)
    (case z_super => k_is)
    (case a_BadRow => k_is); (case i_BadRow => k_is); (case l_BadRow => k_is); (case c_BadRow => k_is); (case b_BadRow => kernel_rfl)
    (case bE_RailError => kernel_rfl)
    (case bI_BadRow => kernel_rfl)
    (case bJ_ValueError => kernel_rfl)
    (case bL_reason => kernel_rfl)
    (case a_DIGITS => k_is)
    case V_DIGITS =>
      exact DN.vd_str
    (case a_LETTERS => k_is)
    case V_LETTERS =>
      exact DN.vd_str
    (case a_LONGEST => k_is)
    case V_LONGEST =>
      exact DN.vd_int
