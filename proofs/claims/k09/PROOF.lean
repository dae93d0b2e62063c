import PyProof.Rows.All
import Wide.All
import OpenK.AllK
import Wide.FinOn
import HandS.ForMost
import HandS.Wide
import HandS.TupAny
import HandS.Ends
import HandS.Zip
import HandS.Style
import HandS.Iter
import HandS.More
import HandS.SortInts
import HandS.Deep
import HandS.Flow
import HandS.NoneIn
import HandS.SortKw
import HandS.Exc
import HandS.ExcField
import HandS.ExcIs
import HandS.TryOnly
import HandS.DictComp
import HandS.WordsExc
import HandS.ExcOwn
import HandS.IsInst
import HandS.TupSets
import HandS.ExcInit
import HandS.FStr
import KE.KExcSuper
import HandS.TryMany
import KE.KDictList
import KE.KDictDisplayH
import PyProof.SeqIndex
import KE.KeyNested
import KE.SortData
import KE.DataMinMax
import KE.SortLaws
import KE.KDictKeyed
import PyProof.StrOps2
import PyProof.SumAny
import PyProof.FactsAll.dict_0
import PyProof.FactsAll.dict_3
import PyProof.Rows.StrCountLaw
import PyProof.ReprLen
import PyProof.ReprRoads
import PyProof.CallFns
import PyProof.Draws
import PyProof.EnumStmt
import PyProof.EnumMake
import KE.GoesMore
import KE.KExcIs
import HandS.Strs
import HandS.SetBool
import KE.GoesSet
import HandS.SetFor
import KE.KDictWalk
import PyProof.MinMaxWalk
import PyProof.WalkInts
import PyProof.SeqI3
import KE.KDictPairs
import HandS.Text
import PyProof.StrLawsIn
import HandS.Conv
import PySem.Challenge.RW_railshut_k09_full_floors
set_option Elab.async false
set_option linter.all false
set_option maxRecDepth 100000
/-! A def's meaning as a plain function over data: the state of a frame is a list of data (or of lists that the frame owns and may change). -/
namespace DN
open PySem PySem.Spec PyProof.Rows L2

abbrev D := PyData
/-- a dict that lasts: with text keys; with keys that are tuples of whole numbers -/
inductive Tabs where
  | txt (kvs : List (Str × D))
  | key (kvs : List (List Int × D))
instance : Coe (List (Str × D)) Tabs := ⟨.txt⟩
/-- what a frame owns and may change: a list, a dict, an instance (with its fields) -/
inductive Pay where
  | dat (d : D)
  | lst (ds : List D)
  | dic (kvs : List (D × D))
  | txt (kvs : List (Str × D))
  | ins (c : Str) (fs : List (Str × Pay))
inductive Ent where
  | dat (d : D)
  | ow (pinned : Bool) (y : Pay)
  | tab (t : Tabs)
abbrev Ent.own (b : Bool) (ds : List D) : Ent := .ow b (.lst ds)
abbrev En := List (Option Ent)
@[simp] def gt : En → Nat → Option Ent
  | [], _ => none
  | e :: _, 0 => e
  | _ :: r, n + 1 => gt r n
theorem gt_eq : ∀ (γ : En) (i : Nat), gt γ i = (γ[i]?).join
  | [], i => by simp [gt]
  | e :: r, 0 => by simp [gt]
  | e :: r, n + 1 => by simpa [gt] using gt_eq r n
theorem gt_set (γ : En) (i j : Nat) (e : Option Ent) : gt (γ.set i e) j = if i = j ∧ i < γ.length then e else gt γ j := by
  rw [gt_eq, gt_eq, List.getElem?_set]
  by_cases h : i = j
  · subst h
    by_cases h2 : i < γ.length
    · simp [h2]
    · simp [h2]
  · simp [h]
theorem gt_lt {γ : En} {i : Nat} {e : Ent} (h : gt γ i = some e) : i < γ.length := by
  rw [gt_eq] at h
  by_cases h2 : i < γ.length
  · exact h2
  · have : γ[i]? = none := by simp; omega
    rw [this] at h; cases h

theorem rd_mono {H H' : Hp} {a : Addr} {u : HO} (s : Same H H') (h : Rd H a u) : Rd H' a u := by
  rcases h with h | ⟨o, h⟩
  · exact .inl (s _ _ h)
  · exact .inr ⟨o, s _ _ h⟩
theorem sql_mono {K : PySem.W.Frag} {H H' : Hp} {a : Addr} {xs : List V} (s : Same H H') (h : SqL K H a xs) : SqL K H' a xs := by
  rcases h with h | h
  · exact .inl (rd_mono s h)
  · exact .inr h
theorem sqt_mono {K : PySem.W.Frag} {H H' : Hp} {a : Addr} {xs : List V} (s : Same H H') (h : SqT K H a xs) : SqT K H' a xs := by
  rcases h with h | h
  · exact .inl (rd_mono s h)
  · exact .inr h

/-! ### keys: tuples of whole numbers, None and such tuples -/
mutual
def keyOf : D → Option NestedKey
  | .none => some .none
  | .int i => some (.num i)
  | .tuple ds => (keysOf ds).map .tup
  | .bool _ => none
  | .str _ => none
  | .list _ => none
  | .dict _ => none
def keysOf : List D → Option (List NestedKey)
  | [] => some []
  | d :: ds => match keyOf d, keysOf ds with
    | some k, some ks => some (k :: ks)
    | _, _ => none
end
mutual
def hashF : NestedKey → Int
  | .none => reduceHash 0xFCA86420
  | .num i => hashInt i
  | .text _ => 0
  | .tup ks => reduceHash (Builtin.Tuple.tupleHashOf (hashFs ks))
def hashFs : List NestedKey → List Int
  | [] => []
  | k :: ks => hashF k :: hashFs ks
end
mutual
theorem hash_eq (w : World) : ∀ {d : D} {k : NestedKey}, keyOf d = some k → k.hash w = hashF k
  | .none, k, h => by rw [keyOf] at h; cases h; rfl
  | .int i, k, h => by rw [keyOf] at h; cases h; rfl
  | .tuple ds, k, h => by
    rw [keyOf] at h
    obtain ⟨ks, e, rfl⟩ := Option.map_eq_some_iff.mp h
    rw [NestedKey.hash, hashF, hashes_eq w e]
  | .bool _, k, h => by rw [keyOf] at h; cases h
  | .str _, k, h => by rw [keyOf] at h; cases h
  | .list _, k, h => by rw [keyOf] at h; cases h
  | .dict _, k, h => by rw [keyOf] at h; cases h
theorem hashes_eq (w : World) : ∀ {ds : List D} {ks : List NestedKey}, keysOf ds = some ks → NestedKey.hashes w ks = hashFs ks
  | [], ks, h => by rw [keysOf] at h; cases h; rfl
  | d :: ds, ks, h => by
    rw [keysOf] at h
    split at h
    · rename_i k ks' e1 e2
      cases h
      rw [NestedKey.hashes, hashFs, hash_eq w e1, hashes_eq w e2]
    · cases h
end
mutual
theorem key_inj : ∀ {d e : D} {k : NestedKey}, keyOf d = some k → keyOf e = some k → d = e
  | .none, e, k, h, h' => by
    rw [keyOf] at h; cases h
    cases e <;> rw [keyOf] at h' <;> first | rfl | cases h' | (obtain ⟨_, _, q⟩ := Option.map_eq_some_iff.mp h'; cases q)
  | .int i, e, k, h, h' => by
    rw [keyOf] at h; cases h
    cases e <;> rw [keyOf] at h' <;> first | (cases h'; rfl) | cases h' | (obtain ⟨_, _, q⟩ := Option.map_eq_some_iff.mp h'; cases q)
  | .tuple ds, e, k, h, h' => by
    rw [keyOf] at h
    obtain ⟨ks, e1, rfl⟩ := Option.map_eq_some_iff.mp h
    cases e with
    | tuple es =>
      rw [keyOf] at h'
      obtain ⟨ks', e2, q⟩ := Option.map_eq_some_iff.mp h'
      cases q
      rw [keys_inj e1 e2]
    | none => rw [keyOf] at h'; cases h'
    | int _ => rw [keyOf] at h'; cases h'
    | bool _ => rw [keyOf] at h'; cases h'
    | str _ => rw [keyOf] at h'; cases h'
    | list _ => rw [keyOf] at h'; cases h'
    | dict _ => rw [keyOf] at h'; cases h'
  | .bool _, e, k, h, _ => by rw [keyOf] at h; cases h
  | .str _, e, k, h, _ => by rw [keyOf] at h; cases h
  | .list _, e, k, h, _ => by rw [keyOf] at h; cases h
  | .dict _, e, k, h, _ => by rw [keyOf] at h; cases h
theorem keys_inj : ∀ {ds es : List D} {ks : List NestedKey}, keysOf ds = some ks → keysOf es = some ks → ds = es
  | [], [], ks, _, _ => rfl
  | [], e :: es, ks, h, h' => by
    rw [keysOf] at h
    cases h
    rw [keysOf] at h'
    split at h' <;> cases h'
  | d :: ds, [], ks, h, h' => by
    rw [keysOf] at h'
    cases h'
    rw [keysOf] at h
    split at h <;> cases h
  | d :: ds, e :: es, ks, h, h' => by
    rw [keysOf] at h
    rw [keysOf] at h'
    split at h
    · rename_i k ks' e1 e2
      cases h
      split at h'
      · rename_i k2 ks2 f1 f2
        cases h'
        rw [key_inj e1 f1, keys_inj e2 f2]
      · cases h'
    · cases h
end
/-- a key as it stands in a dict: a tuple, not too deep -/
def keyD : D → Option NestedKey
  | .tuple ds => match keyOf (.tuple ds) with
    | some k => if k.depth ≤ 8 then some k else none
    | none => none
  | _ => none
theorem keyD_of {d : D} {k : NestedKey} (h : keyD d = some k) : (∃ ds, d = .tuple ds) ∧ keyOf d = some k ∧ k.depth ≤ 8 := by
  unfold keyD at h
  split at h
  · split at h
    · split at h <;> cases h
      rename_i e c
      exact ⟨⟨_, rfl⟩, e, c⟩
    · cases h
  · cases h
def entN (x : NestedKey × Addr × Value) : DictEntry := ⟨hashF x.1, .ref x.2.1, x.2.2⟩
/-- the thing at p is just this object -/
def dnO (p : Addr) (o : Obj) : HO := .ext fun h => h.get? p = some o
/-- the object is a dict with these entries (key, where the key's tuple stands, value) -/
def DictO (o : Obj) (xs : List (NestedKey × Addr × Value)) : Prop := o.ExactDict ∧ ∃ es ep, o.data = .dict es ep ∧ es.toList = xs.map entN
/-! ### values that are data and last -/
mutual
inductive Dp (K : PySem.W.Frag) (H : Hp) : V → PyData → Prop
  | non : Dp K H .non .none
  | bl (b : Bool) : Dp K H (.bl b) (.bool b)
  | int (i : Int) : Dp K H (.int i) (.int i)
  | str (x : Str) : Dp K H (.str x) (.str x)
  | lst {a : Addr} {xs : List V} {ds : List PyData} : SqL K H a xs → DpAll K H xs ds → Dp K H (.ref a) (.list ds)
  | tup {a : Addr} {xs : List V} {ds : List PyData} : SqT K H a xs → DpAll K H xs ds → Dp K H (.ref a) (.tuple ds)
  | dct {a : Addr} {o : Obj} {xs : List (NestedKey × Addr × Value)} {kvs : List (PyData × PyData)} : H a = some (dnO a o) → DictO o xs → DpEnts K H xs kvs → (xs.map (·.1)).Nodup → (a == sysModules) = false → xs.length ≤ sizeLine → Dp K H (.ref a) (.dict kvs)
inductive DpAll (K : PySem.W.Frag) (H : Hp) : List V → List PyData → Prop
  | nil : DpAll K H [] []
  | cons {v : V} {vs : List V} {d : PyData} {ds : List PyData} : Dp K H v d → DpAll K H vs ds → DpAll K H (v :: vs) (d :: ds)
inductive DpEnts (K : PySem.W.Frag) (H : Hp) : List (NestedKey × Addr × Value) → List (PyData × PyData) → Prop
  | nil : DpEnts K H [] []
  | cons {k : NestedKey} {a : Addr} {u : Value} {v : V} {kd d : PyData} {xs : List (NestedKey × Addr × Value)} {kvs : List (PyData × PyData)} : keyD kd = some k → Dp K H (.ref a) kd → RelV v u → Dp K H v d → DpEnts K H xs kvs → DpEnts K H ((k, a, u) :: xs) ((kd, d) :: kvs)
end
mutual
theorem dp_mono {K : PySem.W.Frag} {H H' : Hp} (s : Same H H') : ∀ {v : V} {d : D}, Dp K H v d → Dp K H' v d
  | _, _, .non => .non
  | _, _, .bl b => .bl b
  | _, _, .int i => .int i
  | _, _, .str x => .str x
  | _, _, .lst h a => .lst (sql_mono s h) (dps_mono s a)
  | _, _, .tup h a => .tup (sqt_mono s h) (dps_mono s a)
  | _, _, .dct h1 h2 h3 h4 h5 h6 => .dct (s _ _ h1) h2 (dpe_mono s h3) h4 h5 h6
theorem dps_mono {K : PySem.W.Frag} {H H' : Hp} (s : Same H H') : ∀ {vs : List V} {ds : List D}, DpAll K H vs ds → DpAll K H' vs ds
  | _, _, .nil => .nil
  | _, _, .cons h t => .cons (dp_mono s h) (dps_mono s t)
theorem dpe_mono {K : PySem.W.Frag} {H H' : Hp} (s : Same H H') : ∀ {xs : List (NestedKey × Addr × Value)} {kvs : List (D × D)}, DpEnts K H xs kvs → DpEnts K H' xs kvs
  | _, _, .nil => .nil
  | _, _, .cons h1 h2 h3 h4 t => .cons h1 (dp_mono s h2) h3 (dp_mono s h4) (dpe_mono s t)
end
section
variable {K : PySem.W.Frag} {H : Hp}
theorem dps_len : ∀ {vs : List V} {ds : List D}, DpAll K H vs ds → vs.length = ds.length
  | _, _, .nil => rfl
  | _, _, .cons _ t => congrArg (· + 1) (dps_len t)
theorem dps_app : ∀ {vs us : List V} {ds es : List D}, DpAll K H vs ds → DpAll K H us es → DpAll K H (vs ++ us) (ds ++ es)
  | _, _, _, _, .nil, h => h
  | _, _, _, _, .cons a t, h => .cons a (dps_app t h)
theorem dps_at : ∀ {vs : List V} {ds : List D} {i : Nat} {d : D}, DpAll K H vs ds → ds[i]? = some d → ∃ v, vs[i]? = some v ∧ Dp K H v d
  | _, _, _, _, .nil, e => by simp at e
  | _, _, 0, _, .cons h _, e => by simp at e; subst e; exact ⟨_, rfl, h⟩
  | _, _, i + 1, d, .cons _ t, e => by
    obtain ⟨v, h1, h2⟩ := dps_at (i := i) (d := d) t (by simpa using e)
    exact ⟨v, by simpa using h1, h2⟩
theorem dps_set : ∀ {vs : List V} {ds : List D} {v : V} {d : D} (i : Nat), DpAll K H vs ds → Dp K H v d → DpAll K H (vs.set i v) (ds.set i d)
  | _, _, _, _, _, .nil, _ => .nil
  | _, _, _, _, 0, .cons _ t, h => .cons h t
  | _, _, _, _, i + 1, .cons a t, h => .cons a (dps_set i t h)
theorem dps_take : ∀ {vs : List V} {ds : List D} (n : Nat), DpAll K H vs ds → DpAll K H (vs.take n) (ds.take n)
  | _, _, 0, _ => .nil
  | _, _, _ + 1, .nil => .nil
  | _, _, n + 1, .cons a t => .cons a (dps_take n t)
theorem dps_drop : ∀ {vs : List V} {ds : List D} (n : Nat), DpAll K H vs ds → DpAll K H (vs.drop n) (ds.drop n)
  | _, _, 0, h => h
  | _, _, _ + 1, .nil => .nil
  | _, _, n + 1, .cons _ t => dps_drop n t
end

/-- the last of the pairs with the key -/
@[simp] def tabM : List (Str × D) → Str → Option D → Option D
  | [], _, o => o
  | p :: r, z, o => tabM r z (if p.1 = z then some p.2 else o)
/-- the dict at p, with these entries (key, where the key's tuple stands, value) -/
def dnt (P : Program) (w : World) (p : Addr) (xs : List (List Int × Addr × Value)) : HO := .ext fun h => ∃ o es ep, h.get? p = some o ∧ o.ExactDict ∧ o.data = .dict es ep ∧ es.toList = xs.map (entryOfKey (tupleKind (intKind P w)))
theorem dnt_any {P P' : Program} {w w' : World} {p : Addr} {xs : List (List Int × Addr × Value)} : dnt P w p xs = dnt P' w' p xs := rfl
/-- an entry of a dict that lasts -/
def EntK (K : PySem.W.Frag) (Hk : Hp) (x : List Int × Addr × Value) (kv : List Int × D) : Prop := x.1 = kv.1 ∧ Dp K Hk (.ref x.2.1) (.tuple (kv.1.map .int)) ∧ ∃ v, RelV v x.2.2 ∧ Dp K Hk v kv.2
/-- v is a dict that lasts -/
def Tb (K : PySem.W.Frag) (Hk : Hp) (v : V) : Tabs → Prop
  | .txt kvs => ∃ p kvs', v = .ref p ∧ Hk p = some (.dK kvs') ∧ ∀ z x, tabM kvs z none = some x → ∃ u, valV kvs' (Sum.inr z) = some u ∧ Dp K Hk u x
  | .key kvs => ∃ P w p xs, v = .ref p ∧ Hk p = some (dnt P w p xs) ∧ PySem.W.EachIs (EntK K Hk) xs kvs ∧ (xs.map (·.1)).Nodup ∧ (p == sysModules) = false ∧ xs.length ≤ sizeLine
theorem Tb.mono {K : PySem.W.Frag} {H H' : Hp} {v : V} {t : Tabs} (s : Same H H') (h : Tb K H v t) : Tb K H' v t := by
  cases t with
  | txt kvs =>
    obtain ⟨p, kvs', e, hp, t⟩ := h
    refine ⟨p, kvs', e, s _ _ hp, fun z x q => ?_⟩
    obtain ⟨u, e1, r⟩ := t z x q
    exact ⟨u, e1, dp_mono s r⟩
  | key kvs =>
    obtain ⟨P, w, p, xs, e, hp, r, n, q, z⟩ := h
    exact ⟨P, w, p, xs, e, s _ _ hp, r.mono fun x kv ⟨a, b, v, c, d⟩ => ⟨a, dp_mono s b, v, c, dp_mono s d⟩, n, q, z⟩
/-- a dict with text keys, as it stands -/
def TxtIs (K : PySem.W.Frag) (Hk : Hp) (kvs' : List (Key × V)) (kvs : List (Str × D)) : Prop := kvs'.length ≤ kvs.length ∧ ∀ z, (∀ x, tabM kvs z none = some x → ∃ u, valV kvs' (Sum.inr z) = some u ∧ Dp K Hk u x) ∧ (tabM kvs z none = none → valV kvs' (Sum.inr z) = none)
theorem TxtIs.mono {K : PySem.W.Frag} {H H' : Hp} {kvs' : List (Key × V)} {kvs : List (Str × D)} (s : Same H H') (h : TxtIs K H kvs' kvs) : TxtIs K H' kvs' kvs :=
  ⟨h.1, fun z => ⟨fun x e => let ⟨u, e1, r⟩ := (h.2 z).1 x e; ⟨u, e1, dp_mono s r⟩, (h.2 z).2⟩⟩
/-- the class at C has the name c -/
def ClsIs (K : PySem.W.Frag) (c : Str) (C : Addr) : Prop := PySem.W.nsIn K mainGlobals c = some (some (.ref C))
/-! ### what is owned: v is the payload y; the addresses that belong to it -/
mutual
inductive OwnV (K : PySem.W.Frag) (H Hk : Hp) : V → Pay → List Addr → Prop
  | dat {v : V} {d : D} : Dp K Hk v d → OwnV K H Hk v (.dat d) []
  | lst {p : Addr} {vs : List V} {ds : List D} : H p = some (.lst vs) → Hk p = none → DpAll K Hk vs ds → OwnV K H Hk (.ref p) (.lst ds) [p]
  | dic {p : Addr} {o : Obj} {xs : List (NestedKey × Addr × Value)} {kvs : List (D × D)} : H p = some (dnO p o) → Hk p = none → DictO o xs → DpEnts K Hk xs kvs → (xs.map (·.1)).Nodup → (p == sysModules) = false → xs.length ≤ sizeLine → OwnV K H Hk (.ref p) (.dic kvs) [p]
  | txt {p : Addr} {kvs' : List (Key × V)} {kvs : List (Str × D)} : H p = some (.dK kvs') → Hk p = none → TxtIs K Hk kvs' kvs → OwnV K H Hk (.ref p) (.txt kvs) [p]
  | ins {p C dx : Addr} {fvs : List (Str × V)} {c : Str} {fs : List (Str × Pay)} {fp : List Addr} : H p = some (.ins C dx fvs) → H dx = some (.own p) → Hk p = none → Hk dx = none → ClsIs K c C → OwnFs K H Hk fvs fs fp → p ∉ fp → dx ∉ fp → p ≠ dx → OwnV K H Hk (.ref p) (.ins c fs) (p :: dx :: fp)
inductive OwnFs (K : PySem.W.Frag) (H Hk : Hp) : List (Str × V) → List (Str × Pay) → List Addr → Prop
  | nil : OwnFs K H Hk [] [] []
  | cons {f : Str} {v : V} {y : Pay} {fvs : List (Str × V)} {fs : List (Str × Pay)} {fp fq : List Addr} : OwnV K H Hk v y fp → OwnFs K H Hk fvs fs fq → (∀ a ∈ fp, a ∉ fq) → OwnFs K H Hk ((f, v) :: fvs) ((f, y) :: fs) (fp ++ fq)
end
section
variable {K : PySem.W.Frag} {H Hk H' Hk' : Hp}
mutual
theorem OwnV.det : ∀ {v : V} {y : Pay} {fp fq : List Addr}, OwnV K H Hk v y fp → OwnV K H Hk v y fq → fp = fq
  | _, _, _, _, .dat _, .dat _ => rfl
  | _, _, _, _, .lst _ _ _, .lst _ _ _ => rfl
  | _, _, _, _, .dic _ _ _ _ _ _ _, .dic _ _ _ _ _ _ _ => rfl
  | _, _, _, _, .txt _ _ _, .txt _ _ _ => rfl
  | _, _, _, _, .ins a1 _ _ _ _ a6 _ _ _, .ins b1 _ _ _ _ b6 _ _ _ => by
    rw [a1] at b1
    cases b1
    rw [OwnFs.det a6 b6]
theorem OwnFs.det : ∀ {vs : List (Str × V)} {fs : List (Str × Pay)} {fp fq : List Addr}, OwnFs K H Hk vs fs fp → OwnFs K H Hk vs fs fq → fp = fq
  | _, _, _, _, .nil, .nil => rfl
  | _, _, _, _, .cons a1 a2 _, .cons b1 b2 _ => by rw [OwnV.det a1 b1, OwnFs.det a2 b2]
end
mutual
theorem OwnV.at : ∀ {v : V} {y : Pay} {fp : List Addr}, OwnV K H Hk v y fp → ∀ a ∈ fp, (∃ u, H a = some u) ∧ Hk a = none
  | _, _, _, .dat _, a, h => by cases h
  | _, _, _, .lst h1 h2 _, a, h => by
    obtain rfl := List.mem_singleton.mp h
    exact ⟨⟨_, h1⟩, h2⟩
  | _, _, _, .dic h1 h2 _ _ _ _ _, a, h => by
    obtain rfl := List.mem_singleton.mp h
    exact ⟨⟨_, h1⟩, h2⟩
  | _, _, _, .txt h1 h2 _, a, h => by
    obtain rfl := List.mem_singleton.mp h
    exact ⟨⟨_, h1⟩, h2⟩
  | _, _, _, .ins h1 h2 h3 h4 _ h6 _ _ _, a, h => by
    rcases List.mem_cons.mp h with rfl | h
    · exact ⟨⟨_, h1⟩, h3⟩
    · rcases List.mem_cons.mp h with rfl | h
      · exact ⟨⟨_, h2⟩, h4⟩
      · exact OwnFs.at h6 a h
theorem OwnFs.at : ∀ {vs : List (Str × V)} {fs : List (Str × Pay)} {fp : List Addr}, OwnFs K H Hk vs fs fp → ∀ a ∈ fp, (∃ u, H a = some u) ∧ Hk a = none
  | _, _, _, .nil, a, h => by cases h
  | _, _, _, .cons h1 h2 _, a, h => by
    rcases List.mem_append.mp h with h | h
    · exact OwnV.at h1 a h
    · exact OwnFs.at h2 a h
end
mutual
theorem OwnV.to (s : Same Hk Hk') : ∀ {v : V} {y : Pay} {fp : List Addr}, OwnV K H Hk v y fp → (∀ a ∈ fp, ∀ u, H a = some u → H' a = some u) → (∀ a ∈ fp, Hk' a = none) → OwnV K H' Hk' v y fp
  | _, _, _, .dat h, _, _ => .dat (dp_mono s h)
  | _, _, _, .lst h1 h2 h3, k, n => .lst (k _ (by simp) _ h1) (n _ (by simp)) (dps_mono s h3)
  | _, _, _, .dic h1 h2 h3 h4 h5 h6 h7, k, n => .dic (k _ (by simp) _ h1) (n _ (by simp)) h3 (dpe_mono s h4) h5 h6 h7
  | _, _, _, .txt h1 h2 h3, k, n => .txt (k _ (by simp) _ h1) (n _ (by simp)) (h3.mono s)
  | _, _, _, .ins h1 h2 h3 h4 h5 h6 h7 h8 h9, k, n => .ins (k _ (by simp) _ h1) (k _ (by simp) _ h2) (n _ (by simp)) (n _ (by simp)) h5 (OwnFs.to s h6 (fun a ha => k a (by simp [ha])) (fun a ha => n a (by simp [ha]))) h7 h8 h9
theorem OwnFs.to (s : Same Hk Hk') : ∀ {vs : List (Str × V)} {fs : List (Str × Pay)} {fp : List Addr}, OwnFs K H Hk vs fs fp → (∀ a ∈ fp, ∀ u, H a = some u → H' a = some u) → (∀ a ∈ fp, Hk' a = none) → OwnFs K H' Hk' vs fs fp
  | _, _, _, .nil, _, _ => .nil
  | _, _, _, .cons h1 h2 h3, k, n => .cons (OwnV.to s h1 (fun a ha => k a (by simp [ha])) (fun a ha => n a (by simp [ha]))) (OwnFs.to s h2 (fun a ha => k a (by simp [ha])) (fun a ha => n a (by simp [ha]))) h3
end
end
/-- the frame's slots σ, the heap H and its lasting part Hk are as γ tells -/
structure Ok (K : PySem.W.Frag) (σ : L2.St) (H Hk : Hp) (γ : En) : Prop where
  len : σ.length = γ.length
  sub : Same Hk H
  dat : ∀ i d, gt γ i = some (.dat d) → ∃ v, σ[i]? = some (some v) ∧ Dp K Hk v d
  ow : ∀ i b y, gt γ i = some (.ow b y) → ∃ v fp, σ[i]? = some (some v) ∧ OwnV K H Hk v y fp
  pin : ∀ i y, gt γ i = some (.ow true y) → i = 0
  sep : ∀ i j b c y z v u fp fq, gt γ i = some (.ow b y) → gt γ j = some (.ow c z) → σ[i]? = some (some v) → σ[j]? = some (some u) → OwnV K H Hk v y fp → OwnV K H Hk u z fq → ∀ a, a ∈ fp → a ∈ fq → i = j
  tab : ∀ i kvs, gt γ i = some (.tab kvs) → ∃ v, σ[i]? = some (some v) ∧ Tb K Hk v kvs
theorem Ok.own {K : PySem.W.Frag} {σ : L2.St} {H Hk : Hp} {γ : En} (o : Ok K σ H Hk γ) (i : Nat) (b : Bool) (ds : List D) (h : gt γ i = some (.own b ds)) : ∃ p vs, σ[i]? = some (some (.ref p)) ∧ H p = some (.lst vs) ∧ Hk p = none ∧ DpAll K Hk vs ds := by
  obtain ⟨v, fp, e, r⟩ := o.ow i b _ h
  cases r with
  | lst h1 h2 h3 => exact ⟨_, _, e, h1, h2, h3⟩
/-- the addresses that the frame owns -/
def OwnA (K : PySem.W.Frag) (σ : L2.St) (H Hk : Hp) (γ : En) (a : Addr) : Prop := ∃ i b y v fp, gt γ i = some (.ow b y) ∧ σ[i]? = some (some v) ∧ OwnV K H Hk v y fp ∧ a ∈ fp
theorem OwnA.at {K : PySem.W.Frag} {σ : L2.St} {H Hk : Hp} {γ : En} {a : Addr} (h : OwnA K σ H Hk γ a) : (∃ u, H a = some u) ∧ Hk a = none := by
  obtain ⟨i, b, y, v, fp, _, _, r, m⟩ := h
  exact r.at a m
theorem own_mine {K : PySem.W.Frag} {σ : L2.St} {H Hk : Hp} {γ : En} {i : Nat} {b : Bool} {ds : List D} {p : Addr} (o : Ok K σ H Hk γ) (h : gt γ i = some (.own b ds)) (e : σ[i]? = some (some (.ref p))) : OwnA K σ H Hk γ p := by
  obtain ⟨v, fp, e', r⟩ := o.ow i b _ h
  rw [e] at e'; cases e'
  cases r with
  | lst h1 h2 h3 => exact ⟨i, b, _, _, _, h, e, .lst h1 h2 h3, by simp⟩
/-- from one situation to a later one -/
structure Go (K : PySem.W.Frag) (σ : L2.St) (H Hk : Hp) (γ : En) (σ2 : L2.St) (H2 Hk2 : Hp) (γ2 : En) : Prop where
  ok : Ok K σ2 H2 Hk2 γ2
  kk : Same Hk Hk2
  nw : ∀ a u, Hk2 a = some u → Hk a = none → H a = none ∨ OwnA K σ H Hk γ a
  kp : ∀ a u, H a = some u → ¬ OwnA K σ H Hk γ a → H2 a = some u
  sh : ∀ a, OwnA K σ2 H2 Hk2 γ2 a → OwnA K σ H Hk γ a ∨ H a = none
  pn : ∀ i y, gt γ i = some (.ow true y) → σ2[i]? = σ[i]? ∧ ∃ z, gt γ2 i = some (.ow true z)
theorem Go.refl {K : PySem.W.Frag} {σ : L2.St} {H Hk : Hp} {γ : En} (o : Ok K σ H Hk γ) : Go K σ H Hk γ σ H Hk γ :=
  ⟨o, Same.refl _, fun a u h n => (by rw [h] at n; cases n), fun _ _ h _ => h, fun _ h => .inl h, fun i y h => ⟨rfl, y, h⟩⟩
theorem Go.trans {K : PySem.W.Frag} {σ σ1 σ2 : L2.St} {H Hk H1 Hk1 H2 Hk2 : Hp} {γ γ1 γ2 : En} (a : Go K σ H Hk γ σ1 H1 Hk1 γ1) (b : Go K σ1 H1 Hk1 γ1 σ2 H2 Hk2 γ2) : Go K σ H Hk γ σ2 H2 Hk2 γ2 := by
  have back : ∀ x, H1 x = none → H x = none ∨ OwnA K σ H Hk γ x := fun x h => by
    by_cases ho : OwnA K σ H Hk γ x
    · exact .inr ho
    · cases e : H x with
      | none => exact .inl rfl
      | some u => have := a.kp x u e ho; rw [h] at this; cases this
  refine ⟨b.ok, a.kk.trans b.kk, fun x u h n => ?_, fun x u h no => ?_, fun x h => ?_, fun i ds h => ?_⟩
  · cases e : Hk1 x with
    | some u' => exact a.nw x u' e n
    | none =>
      rcases b.nw x u h e with z | z
      · exact back x z
      · rcases a.sh x z with z | z
        · exact .inr z
        · exact .inl z
  · refine b.kp x u (a.kp x u h no) fun z => ?_
    rcases a.sh x z with z | z
    · exact no z
    · rw [h] at z; cases z
  · rcases b.sh x h with z | z
    · exact a.sh x z
    · rcases back x z with z | z
      · exact .inr z
      · exact .inl z
  · obtain ⟨e1, es, h1⟩ := a.pn i ds h
    obtain ⟨e2, es2, h2⟩ := b.pn i es h1
    exact ⟨e2.trans e1, es2, h2⟩
/-- the heap grows, nothing is changed -/
structure Grow (H Hk H2 Hk2 : Hp) : Prop where
  hh : Same H H2
  kk : Same Hk Hk2
  sub : Same Hk2 H2
  nw : ∀ a u, Hk2 a = some u → Hk a = none → H a = none
theorem Grow.refl {H Hk : Hp} (s : Same Hk H) : Grow H Hk H Hk := ⟨Same.refl _, Same.refl _, s, fun a u h n => (by rw [h] at n; cases n)⟩
theorem same_upd {H : Hp} {p : Addr} {o : HO} (h : H p = none) : Same H (upd H p o) := fun b x e => by
  rw [upd_ne (ne_of_none e h)]; exact e
theorem Grow.new {H Hk : Hp} {p : Addr} {o : HO} (s : Same Hk H) (h : H p = none) : Grow H Hk (upd H p o) (upd Hk p o) := by
  have hk : Hk p = none := s.free h
  refine ⟨same_upd h, same_upd hk, fun b x e => ?_, fun a u e n => ?_⟩
  · by_cases hb : b = p
    · subst hb; rw [upd_same] at e ⊢; exact e
    · rw [upd_ne hb] at e ⊢; exact s _ _ e
  · by_cases hb : a = p
    · subst hb; exact h
    · rw [upd_ne hb, n] at e; cases e
theorem Grow.newH {H Hk : Hp} {p : Addr} {o : HO} (s : Same Hk H) (h : H p = none) : Grow H Hk (upd H p o) Hk :=
  ⟨same_upd h, Same.refl _, s.trans (same_upd h), fun a u e n => (by rw [e] at n; cases n)⟩
theorem Grow.trans {H Hk H1 Hk1 H2 Hk2 : Hp} (a : Grow H Hk H1 Hk1) (b : Grow H1 Hk1 H2 Hk2) : Grow H Hk H2 Hk2 :=
  ⟨a.hh.trans b.hh, a.kk.trans b.kk, b.sub, fun x u h n => (by
    cases e : Hk1 x with
    | some u' => exact a.nw x u' e n
    | none => exact a.hh.free (b.nw x u h e))⟩
theorem Grow.free {H Hk H2 Hk2 : Hp} (g : Grow H Hk H2 Hk2) {a : Addr} (h : ∃ u, H a = some u) (n : Hk a = none) : Hk2 a = none := by
  obtain ⟨u, h⟩ := h
  cases q : Hk2 a with
  | none => rfl
  | some u' => have := g.nw a u' q n; rw [h] at this; cases this
theorem OwnV.grow {K : PySem.W.Frag} {H Hk H2 Hk2 : Hp} (g : Grow H Hk H2 Hk2) {v : V} {y : Pay} {fp : List Addr} (h : OwnV K H Hk v y fp) : OwnV K H2 Hk2 v y fp :=
  h.to g.kk (fun a _ u e => g.hh a u e) fun a ha => g.free (h.at a ha).1 (h.at a ha).2
theorem Ok.grow {K : PySem.W.Frag} {σ : L2.St} {H Hk H2 Hk2 : Hp} {γ : En} (o : Ok K σ H Hk γ) (g : Grow H Hk H2 Hk2) : Ok K σ H2 Hk2 γ := by
  refine ⟨o.len, g.sub, fun i d h => ?_, fun i b y h => ?_, o.pin, fun i j b c y z v u fp fq ei ej vi vj ri rj a hi hj => ?_, fun i kvs h => (let ⟨v, e, r⟩ := o.tab i kvs h; ⟨v, e, r.mono g.kk⟩)⟩
  · obtain ⟨v, e, r⟩ := o.dat i d h
    exact ⟨v, e, dp_mono g.kk r⟩
  · obtain ⟨v, fp, e, r⟩ := o.ow i b y h
    exact ⟨v, fp, e, r.grow g⟩
  · obtain ⟨v', fp', e1, r1⟩ := o.ow i b y ei
    obtain ⟨u', fq', e2, r2⟩ := o.ow j c z ej
    rw [vi] at e1; cases e1
    rw [vj] at e2; cases e2
    rw [ri.det (r1.grow g)] at hi
    rw [rj.det (r2.grow g)] at hj
    exact o.sep _ _ _ _ _ _ _ _ _ _ ei ej vi vj r1 r2 a hi hj
theorem OwnA.grown {K : PySem.W.Frag} {σ : L2.St} {H Hk H2 Hk2 : Hp} {γ : En} (o : Ok K σ H Hk γ) (g : Grow H Hk H2 Hk2) {a : Addr} (h : OwnA K σ H2 Hk2 γ a) : OwnA K σ H Hk γ a := by
  obtain ⟨i, b, y, v, fp, e, ev, r, m⟩ := h
  obtain ⟨v', fp', e1, r1⟩ := o.ow i b y e
  rw [ev] at e1; cases e1
  exact ⟨i, b, y, v, fp', e, ev, r1, by rw [← r.det (r1.grow g)]; exact m⟩
theorem Ok.go {K : PySem.W.Frag} {σ : L2.St} {H Hk H2 Hk2 : Hp} {γ : En} (o : Ok K σ H Hk γ) (g : Grow H Hk H2 Hk2) : Go K σ H Hk γ σ H2 Hk2 γ :=
  ⟨o.grow g, g.kk, fun a u h n => .inl (g.nw a u h n), fun a u h _ => g.hh _ _ h, fun _ h => .inl (h.grown o g), fun i ds h => ⟨rfl, ds, h⟩⟩

/-- an owned dict, seen -/
def VwD (K : PySem.W.Frag) (H Hk : Hp) (v : V) (d : D) : Prop := ∃ p o xs kvs, v = .ref p ∧ d = .dict kvs ∧ H p = some (dnO p o) ∧ DictO o xs ∧ DpEnts K Hk xs kvs ∧ (xs.map (·.1)).Nodup ∧ (p == sysModules) = false ∧ xs.length ≤ sizeLine
/-- a value seen as data: lasting, or a list or a dict that is owned -/
def Vw (K : PySem.W.Frag) (H Hk : Hp) (v : V) (d : D) : Prop := Dp K Hk v d ∨ (∃ p vs ds, v = .ref p ∧ d = .list ds ∧ H p = some (.lst vs) ∧ DpAll K Hk vs ds) ∨ VwD K H Hk v d
section
variable {K : PySem.W.Frag} {H Hk : Hp} {v : V}
theorem Vw.own {p : Addr} {vs : List V} {ds : List D} (h : H p = some (.lst vs)) (r : DpAll K Hk vs ds) : Vw K H Hk (.ref p) (.list ds) := .inr (.inl ⟨p, vs, ds, rfl, rfl, h, r⟩)
theorem Vw.flat {d : D} (h : Vw K H Hk v d) (n1 : ∀ ds, d ≠ .list ds) (n2 : ∀ ds, d ≠ .dict ds) : Dp K Hk v d := by
  rcases h with h | ⟨p, vs, ds, _, e, _⟩ | ⟨p, o, xs, kvs, _, e, _⟩
  · exact h
  · exact absurd e (n1 _)
  · exact absurd e (n2 _)
theorem Vw.int {i : Int} (h : Vw K H Hk v (.int i)) : v = .int i := by
  have h := h.flat (fun _ => nofun) (fun _ => nofun)
  cases h; rfl
theorem Vw.str {i : Str} (h : Vw K H Hk v (.str i)) : v = .str i := by
  have h := h.flat (fun _ => nofun) (fun _ => nofun)
  cases h; rfl
theorem Vw.bl {i : Bool} (h : Vw K H Hk v (.bool i)) : v = .bl i := by
  have h := h.flat (fun _ => nofun) (fun _ => nofun)
  cases h; rfl
theorem Vw.non (h : Vw K H Hk v .none) : v = .non := by
  have h := h.flat (fun _ => nofun) (fun _ => nofun)
  cases h; rfl
theorem Vw.tup {ds : List D} (s : Same Hk H) (h : Vw K H Hk v (.tuple ds)) : ∃ p vs, v = .ref p ∧ SqT K H p vs ∧ DpAll K Hk vs ds := by
  have h := h.flat (fun _ => nofun) (fun _ => nofun)
  cases h with
  | tup k a => exact ⟨_, _, rfl, sqt_mono s k, a⟩
theorem Vw.lst {ds : List D} (s : Same Hk H) (h : Vw K H Hk v (.list ds)) : ∃ p vs, v = .ref p ∧ SqL K H p vs ∧ DpAll K Hk vs ds := by
  rcases h with h | ⟨p, vs, ds, e1, e, hp, a⟩ | ⟨p, o, xs, kvs, _, e, _⟩
  · cases h with
    | lst h a => exact ⟨_, _, rfl, sql_mono s h, a⟩
  · cases e; exact ⟨p, vs, e1, .inl (.inl hp), a⟩
  · cases e
theorem Vw.dct {kvs : List (D × D)} (s : Same Hk H) (h : Vw K H Hk v (.dict kvs)) : ∃ p o xs, v = .ref p ∧ H p = some (dnO p o) ∧ DictO o xs ∧ DpEnts K Hk xs kvs ∧ (xs.map (·.1)).Nodup ∧ (p == sysModules) = false ∧ xs.length ≤ sizeLine := by
  rcases h with h | ⟨p, vs, ds, e1, e, hp, a⟩ | ⟨p, o, xs, kvs, e1, e, r⟩
  · cases h with
    | dct h1 h2 h3 h4 h5 h6 => exact ⟨_, _, _, rfl, s _ _ h1, h2, h3, h4, h5, h6⟩
  · cases e
  · cases e; exact ⟨p, o, xs, e1, r⟩
theorem Vw.dp {d : D} (s : Same Hk H) (h : Vw K H Hk v d) : Dp K H v d := by
  rcases h with h | ⟨p, vs, ds, rfl, rfl, hp, a⟩ | ⟨p, o, xs, kvs, rfl, rfl, h1, h2, h3, h4, h5, h6⟩
  · exact dp_mono s h
  · exact .lst (SqL.of hp) (dps_mono s a)
  · exact .dct h1 h2 (dpe_mono s h3) h4 h5 h6
end
/-! ### readings by functions -/
abbrev Fe := En → Option (D × En)
def tI (K : PySem.W.Frag) (f : Fe) : TE := fun σ H Q => ∃ γ Hk d γ2, Ok K σ H Hk γ ∧ f γ = some (d, γ2) ∧ ∀ v H2 Hk2, Go K σ H Hk γ σ H2 Hk2 γ2 → Dp K Hk2 v d → Q v H2
theorem PE.imp {X : Cx} {e : Expr} {t t' : TE} (h : PE X e t) (i : ∀ σ H Q, t' σ H Q → t σ H Q) : PE X e t' := ⟨fun pins s σ H Q I q => h.run pins s σ H Q I (i _ _ _ q)⟩
theorem PT.imp {X : Cx} {e : Expr} {t t' : TT} (h : PT X e t) (i : ∀ σ H Q, t' σ H Q → t σ H Q) : PT X e t' := ⟨fun pins s σ H Q I q => h.run pins s σ H Q I (i _ _ _ q)⟩
theorem PA.imp {X : Cx} {e : List Expr} {t t' : TA} (h : PA X e t) (i : ∀ σ H Q, t' σ H Q → t σ H Q) : PA X e t' := ⟨fun pos pins s σ H Q I q => h.run pos pins s σ H Q I (i _ _ _ q)⟩
theorem PS.imp {X : Cx} {e : Stmt} {t t' : TS} (h : PS X e t) (i : ∀ D σ H, t' D σ H → t D σ H) : PS X e t' := ⟨fun pins s σ H D I q => h.run pins s σ H D I (i _ _ _ q)⟩
theorem PSs.imp {X : Cx} {e : List Stmt} {t t' : TS} (h : PSs X e t) (i : ∀ D σ H, t' D σ H → t D σ H) : PSs X e t' := ⟨fun pins s σ H D I q => h.run pins s σ H D I (i _ _ _ q)⟩
def EV (X : Cx) (e : Expr) (f : Fe) : Prop := PE X e (tI X.K f)
/-- names -/
@[simp] def view (γ : En) (i : Nat) : Option D := match gt γ i with
  | some (.dat d) => some d
  | some (.ow _ (.lst ds)) => some (.list ds)
  | some (.ow _ (.dic kvs)) => some (.dict kvs)
  | _ => none
theorem Ok.view {K : PySem.W.Frag} {σ : L2.St} {H Hk : Hp} {γ : En} (o : Ok K σ H Hk γ) {i : Nat} {d : D} (h : DN.view γ i = some d) : ∃ v, σ[i]? = some (some v) ∧ Vw K H Hk v d := by
  unfold DN.view at h
  split at h
  · rename_i d' e
    cases h
    obtain ⟨v, e1, r⟩ := o.dat i _ e
    exact ⟨v, e1, .inl r⟩
  · rename_i b ds e
    cases h
    obtain ⟨v, fp, e1, r⟩ := o.ow i _ _ e
    cases r with
    | lst h1 h2 h3 => exact ⟨_, e1, .own h1 h3⟩
  · rename_i b ds e
    cases h
    obtain ⟨v, fp, e1, r⟩ := o.ow i _ _ e
    cases r with
    | dic h1 h2 h3 h4 h5 h6 h7 => exact ⟨_, e1, .inr (.inr ⟨_, _, _, _, rfl, rfl, h1, h3, h4, h5, h6, h7⟩)⟩
  · cases h
@[simp] def fN (i : Nat) : Fe := fun γ => match gt γ i with
  | some (.dat d) => some (d, γ)
  | some (.ow false (.lst ds)) => some (.list ds, γ.set i (some (.dat (.list ds))))
  | some (.ow false (.dic kvs)) => some (.dict kvs, γ.set i (some (.dat (.dict kvs))))
  | _ => none
/-- what an owned thing is that is given away for good -/
def payD : Pay → Option D
  | .lst ds => some (.list ds)
  | .dic kvs => some (.dict kvs)
  | _ => none
theorem OwnV.give {K : PySem.W.Frag} {H Hk : Hp} {v : V} {y : Pay} {fp : List Addr} {d : D} (h : OwnV K H Hk v y fp) (e : payD y = some d) (s : Same Hk H) : ∃ p u, v = .ref p ∧ fp = [p] ∧ H p = some u ∧ Hk p = none ∧ Dp K (upd Hk p u) v d := by
  cases h with
  | dat _ => cases e
  | txt _ _ _ => cases e
  | ins _ _ _ _ _ _ _ _ _ => cases e
  | lst h1 h2 h3 => cases e; exact ⟨_, _, rfl, rfl, h1, h2, .lst (SqL.of upd_same) (dps_mono (same_upd h2) h3)⟩
  | dic h1 h2 h3 h4 h5 h6 h7 => cases e; exact ⟨_, _, rfl, rfl, h1, h2, .dct upd_same h3 (dpe_mono (same_upd h2) h4) h5 h6 h7⟩
theorem Ok.release {K : PySem.W.Frag} {σ : L2.St} {H Hk : Hp} {γ : En} (o : Ok K σ H Hk γ) {i : Nat} {y : Pay} {d : D} (h : gt γ i = some (.ow false y)) (ed : payD y = some d) :
    ∃ v Hk2, σ[i]? = some (some v) ∧ Go K σ H Hk γ σ H Hk2 (γ.set i (some (.dat d))) ∧ Dp K Hk2 v d := by
  obtain ⟨v, fp, e1, r⟩ := o.ow i _ _ h
  obtain ⟨p, u, rfl, rfl, hp, hn, hd⟩ := r.give ed o.sub
  have hs : Same Hk (upd Hk p u) := same_upd hn
  have hi := gt_lt h
  have old : ∀ {j b z w fq}, gt γ j = some (.ow b z) → ¬ (i = j ∧ i < γ.length) → σ[j]? = some (some w) → OwnV K H Hk w z fq → OwnV K H (upd Hk p u) w z fq := fun {j b z w fq} e c e2 r2 => by
    refine r2.to hs (fun _ _ _ q => q) fun a ha => ?_
    rw [upd_ne ?_]
    · exact (r2.at a ha).2
    · rintro rfl
      exact c ⟨o.sep _ _ _ _ _ _ _ _ _ _ h e e1 e2 r r2 _ (by simp) ha, hi⟩
  have get : ∀ {j b z}, gt (γ.set i (some (.dat d))) j = some (.ow b z) → gt γ j = some (.ow b z) ∧ ¬ (i = j ∧ i < γ.length) := fun {j b z} e => by
    rw [gt_set] at e
    split at e
    · cases e
    · rename_i c; exact ⟨e, c⟩
  have back : ∀ {j b z w fq}, gt (γ.set i (some (.dat d))) j = some (.ow b z) → σ[j]? = some (some w) → OwnV K H (upd Hk p u) w z fq → OwnV K H Hk w z fq := fun {j b z w fq} e e2 r2 => by
    obtain ⟨e, c⟩ := get e
    obtain ⟨w', fq', e3, r3⟩ := o.ow j b z e
    rw [e2] at e3; cases e3
    rw [r2.det (old e c e2 r3)]
    exact r3
  refine ⟨.ref p, upd Hk p u, e1, ⟨⟨by rw [List.length_set]; exact o.len, fun b x e => ?_, fun j d e => ?_, fun j b es e => ?_, fun j es e => ?_, fun j k b c y z w w' fq fr ej ek vj vk rj rk => ?_, fun j kvs e => ?_⟩, hs, fun a u e n => ?_, fun _ _ e _ => e, fun a e => ?_, fun j es e => ?_⟩, hd⟩
  · by_cases hb : b = p
    · subst hb; rw [upd_same] at e; cases e; exact hp
    · rw [upd_ne hb] at e; exact o.sub _ _ e
  · rw [gt_set] at e
    split at e
    · rename_i c; obtain ⟨rfl, _⟩ := c
      cases e
      exact ⟨_, e1, hd⟩
    · obtain ⟨v, e2, r2⟩ := o.dat j d e
      exact ⟨v, e2, dp_mono hs r2⟩
  · obtain ⟨e, c⟩ := get e
    obtain ⟨w, fq, e2, r2⟩ := o.ow j b es e
    exact ⟨w, fq, e2, old e c e2 r2⟩
  · exact o.pin _ _ (get e).1
  · exact o.sep _ _ _ _ _ _ _ _ _ _ (get ej).1 (get ek).1 vj vk (back ej vj rj) (back ek vk rk)
  · rw [gt_set] at e
    split at e
    · cases e
    · obtain ⟨v, e2, r2⟩ := o.tab j kvs e
      exact ⟨v, e2, r2.mono hs⟩
  · by_cases ha : a = p
    · subst ha; exact .inr ⟨i, _, _, _, _, h, e1, r, by simp⟩
    · rw [upd_ne ha, n] at e; cases e
  · obtain ⟨j, b, z, w, fq, e, ej, rj, m⟩ := e
    exact .inl ⟨j, b, z, w, fq, (get e).1, ej, back e ej rj, m⟩
  · refine ⟨rfl, es, ?_⟩
    rw [gt_set, if_neg ?_]; exact e
    rintro ⟨rfl, _⟩
    rw [h] at e; cases e
theorem ev_name {X : Cx} (i : Nat) {x : Str} {pos : Pos} (hN : X.N[i]? = some x := by rfl) (hv : Vis X.env.scope x := by first | exact Or.inl rfl | exact Or.inr (Or.inl rfl) | exact Or.inr (Or.inr rfl))
    (hd : (x == ("__debug__" : Str)) = false := by decide) (hcd : (x == ("__classdict__" : Str)) = false := by decide) : EV X (.Name x pos) (fN i) := by
  refine PE.imp (pe_var hN hv hd hcd) fun σ H Q ⟨γ, Hk, d, γ2, o, e, q⟩ => ?_
  unfold fN at e
  split at e
  · rename_i d' e'
    cases e
    obtain ⟨v, e1, r⟩ := o.dat i _ e'
    exact ⟨v, e1, q v H Hk (Go.refl o) r⟩
  · rename_i ds e'
    cases e
    obtain ⟨v, Hk2, e1, g, r⟩ := o.release e' rfl
    exact ⟨_, e1, q _ H Hk2 g r⟩
  · rename_i ds e'
    cases e
    obtain ⟨v, Hk2, e1, g, r⟩ := o.release e' rfl
    exact ⟨_, e1, q _ H Hk2 g r⟩
  · cases e
/-- constants -/
@[simp] def fC (d : D) : Fe := fun γ => some (d, γ)
theorem ev_int {X : Cx} {i j pos} : EV X (.Constant (.int i) j pos) (fC (.int i)) := PE.imp pe_int fun σ H Q ⟨γ, Hk, d, γ2, o, e, q⟩ => by
  cases e; exact q _ H Hk (Go.refl o) (.int i)
theorem ev_str {X : Cx} {x j pos} : EV X (.Constant (.str x) j pos) (fC (.str x)) := PE.imp pe_str fun σ H Q ⟨γ, Hk, d, γ2, o, e, q⟩ => by
  cases e; exact q _ H Hk (Go.refl o) (.str x)
theorem ev_bl {X : Cx} {b j pos} : EV X (.Constant (.bool b) j pos) (fC (.bool b)) := PE.imp pe_bl fun σ H Q ⟨γ, Hk, d, γ2, o, e, q⟩ => by
  cases e; exact q _ H Hk (Go.refl o) (.bl b)
theorem ev_non {X : Cx} {j pos} : EV X (.Constant .none j pos) (fC .none) := PE.imp pe_non fun σ H Q ⟨γ, Hk, d, γ2, o, e, q⟩ => by
  cases e; exact q _ H Hk (Go.refl o) .non
end DN
namespace DN
open PySem PySem.Spec PyProof.Rows L2
/-! ### two operands -/
/-- an operation by values, as data -/
def Op2 (K : PySem.W.Frag) (r : R2) (op : D → D → Option D) : Prop :=
  ∀ H Hk x y dx dy dz (Q : VK), Same Hk H → Vw K H Hk x dx → Vw K H Hk y dy → op dx dy = some dz → (∀ v H2 Hk2, Grow H Hk H2 Hk2 → Dp K Hk2 v dz → Q v H2) → r x y H Q
@[simp] def f2 (op : D → D → Option D) (f g : Fe) : Fe := fun γ => match f γ with
  | some (x, γ1) => match g γ1 with
    | some (y, γ2) => match op x y with
      | some z => some (z, γ2)
      | none => none
    | none => none
  | none => none
/-- the first a name -/
@[simp] def f2n (op : D → D → Option D) (i : Nat) (g : Fe) : Fe := fun γ => match view γ i with
  | some _ => match g γ with
    | some (y, γ2) => match view γ2 i with
      | some x => match op x y with
        | some z => some (z, γ2)
        | none => none
      | none => none
    | none => none
  | none => none
@[simp] def f2m (op : D → D → Option D) (f : Fe) (j : Nat) : Fe := fun γ => match f γ with
  | some (x, γ2) => match view γ2 j with
    | some y => match op x y with
      | some z => some (z, γ2)
      | none => none
    | none => none
  | none => none
@[simp] def f2nn (op : D → D → Option D) (i j : Nat) : Fe := fun γ => match view γ i with
  | some x => match view γ j with
    | some y => match op x y with
      | some z => some (z, γ)
      | none => none
    | none => none
  | none => none
section
variable {K : PySem.W.Frag} {r : R2} {op : D → D → Option D} {f g : Fe} {σ : L2.St} {H : Hp} {Q : VK}
theorem t2 (o : Op2 K r op) (h : tI K (f2 op f g) σ H Q) : tOp r (tI K f) (tI K g) σ H Q := by
  obtain ⟨γ, Hk, d, γ2, ok, e, q⟩ := h
  unfold f2 at e
  split at e
  · rename_i x γ1 ef
    split at e
    · rename_i y γ2' eg
      split at e
      · rename_i z eo
        cases e
        refine ⟨γ, Hk, x, γ1, ok, ef, fun v H1 Hk1 g1 r1 => ⟨γ1, Hk1, y, γ2, g1.ok, eg, fun u H2 Hk2 g2 r2 => ?_⟩⟩
        exact o H2 Hk2 v u x y d Q g2.ok.sub (.inl (dp_mono g2.kk r1)) (.inl r2) eo fun w H3 Hk3 g3 r3 => q w H3 Hk3 ((g1.trans g2).trans (g2.ok.go g3)) r3
      · cases e
    · cases e
  · cases e
theorem t2n {i : Nat} (o : Op2 K r op) (h : tI K (f2n op i g) σ H Q) : tOp r (tVar i) (tI K g) σ H Q := by
  obtain ⟨γ, Hk, d, γ2, ok, e, q⟩ := h
  unfold f2n at e
  split at e
  · rename_i x0 ev0
    split at e
    · rename_i y γ2' eg
      split at e
      · rename_i x ev
        split at e
        · rename_i z eo
          cases e
          obtain ⟨v, e1, _⟩ := ok.view ev0
          refine ⟨v, e1, γ, Hk, y, γ2, ok, eg, fun u H2 Hk2 g2 r2 => ?_⟩
          obtain ⟨v', e2, w⟩ := g2.ok.view ev
          rw [e1] at e2; cases e2
          exact o H2 Hk2 v u x y d Q g2.ok.sub w (.inl r2) eo fun w H3 Hk3 g3 r3 => q w H3 Hk3 (g2.trans (g2.ok.go g3)) r3
        · cases e
      · cases e
    · cases e
  · cases e
theorem t2m {j : Nat} (o : Op2 K r op) (h : tI K (f2m op f j) σ H Q) : tOp r (tI K f) (tVar j) σ H Q := by
  obtain ⟨γ, Hk, d, γ2, ok, e, q⟩ := h
  unfold f2m at e
  split at e
  · rename_i x γ2' ef
    split at e
    · rename_i y ev
      split at e
      · rename_i z eo
        cases e
        refine ⟨γ, Hk, x, γ2, ok, ef, fun v H1 Hk1 g1 r1 => ?_⟩
        obtain ⟨u, e2, w⟩ := g1.ok.view ev
        exact ⟨u, e2, o H1 Hk1 v u x y d Q g1.ok.sub (.inl r1) w eo fun w H3 Hk3 g3 r3 => q w H3 Hk3 (g1.trans (g1.ok.go g3)) r3⟩
      · cases e
    · cases e
  · cases e
theorem t2nn {i j : Nat} (o : Op2 K r op) (h : tI K (f2nn op i j) σ H Q) : tOp r (tVar i) (tVar j) σ H Q := by
  obtain ⟨γ, Hk, d, γ2, ok, e, q⟩ := h
  unfold f2nn at e
  split at e
  · rename_i x ex
    split at e
    · rename_i y ey
      split at e
      · rename_i z eo
        cases e
        obtain ⟨v, e1, w1⟩ := ok.view ex
        obtain ⟨u, e2, w2⟩ := ok.view ey
        exact ⟨v, e1, u, e2, o H Hk v u x y d Q ok.sub w1 w2 eo fun w H3 Hk3 g3 r3 => q w H3 Hk3 (ok.go g3) r3⟩
      · cases e
    · cases e
  · cases e
end

/-! ### what is read of values that are data -/
section
variable {X : Cx} {pins : List (Addr × Obj)} {σ : L2.St} {H : Hp} {s : Shared}
mutual
theorem Dp.reads (I : Inv X pins σ H s) : ∀ {d : D} {v : V} {u : Value}, Dp X.K H v d → RelV v u → ∃ as, Reads s.heap u d as
  | _, _, _, .non, r => by
    cases r
    exact ⟨_, Reads.none⟩
  | _, _, _, .bl b, r => by
    cases r
    exact ⟨_, Reads.bool b⟩
  | _, _, _, .int i, r => by
    obtain ⟨t, rfl⟩ := r
    exact ⟨_, Reads.int i t⟩
  | _, _, _, .str x, r => by
    obtain ⟨t, rfl⟩ := r
    exact ⟨_, Reads.str x t⟩
  | _, _, _, .lst hs ha, r => by
    cases r
    obtain ⟨its, rv, ⟨o, n, ho, hc, _, hd⟩, _⟩ := I.list hs
    obtain ⟨as, hr⟩ := Dp.readsAll I ha rv
    exact ⟨_, Reads.list ho hc hd hr⟩
  | _, _, _, .tup hs ha, r => by
    cases r
    obtain ⟨its, rv, ⟨o, ho, hc, n, hd⟩, _⟩ := I.tuple hs
    obtain ⟨as, hr⟩ := Dp.readsAll I ha rv
    exact ⟨_, Reads.tuple ho hc hd hr⟩
  | _, _, _, .dct h1 h2 h3 h4 h5 h6, r => by
    cases r
    obtain ⟨ho, _, _⟩ := I.hok _ _ h1
    obtain ⟨hx, es, ep, hd, he⟩ := h2
    obtain ⟨as, bs, r1, r2⟩ := Dp.readsEnts I h3
    exact ⟨_, Reads.dict ho hx.1 hd (by rw [he, List.map_map]; exact r1) (by rw [he, List.map_map]; exact r2)⟩
theorem Dp.readsAll (I : Inv X pins σ H s) : ∀ {ds : List D} {vs : List V} {us : List Value}, DpAll X.K H vs ds → Vals vs us → ∃ as, ReadsAll s.heap us ds as
  | _, _, _, .nil, r => by
    cases r
    exact ⟨_, ReadsAll.nil⟩
  | _, _, _, .cons h1 h2, r => by
    cases r with
    | cons r1 r2 =>
      obtain ⟨as, q1⟩ := Dp.reads I h1 r1
      obtain ⟨bs, q2⟩ := Dp.readsAll I h2 r2
      exact ⟨_, ReadsAll.cons q1 q2⟩
theorem Dp.readsEnts (I : Inv X pins σ H s) : ∀ {xs : List (NestedKey × Addr × Value)} {kvs : List (D × D)}, DpEnts X.K H xs kvs → ∃ as bs, ReadsAll s.heap (xs.map ((fun e : DictEntry => e.key) ∘ entN)) (kvs.map (·.1)) as ∧ ReadsAll s.heap (xs.map ((fun e : DictEntry => e.val) ∘ entN)) (kvs.map (·.2)) bs
  | _, _, .nil => ⟨_, _, ReadsAll.nil, ReadsAll.nil⟩
  | _, _, .cons (a := a) h1 h2 h3 h4 h5 => by
    obtain ⟨as, q1⟩ := Dp.reads I h2 (u := .ref a) rfl
    obtain ⟨bs, q2⟩ := Dp.reads I h4 h3
    obtain ⟨cs, ds, q3, q4⟩ := Dp.readsEnts I h5
    exact ⟨_, _, ReadsAll.cons q1 q3, ReadsAll.cons q2 q4⟩
end
end
section
variable {X : Cx}
def rEqN (K : PySem.W.Frag) : R2 := fun x y H Q => ∃ d e, Dp K H x d ∧ Dp K H y e ∧ SeqAt.shaped d = true ∧ SeqAt.shaped e = true ∧ Q (.bl (PyData.eqv d e)) H
def rNeN (K : PySem.W.Frag) : R2 := fun x y H Q => ∃ d e, Dp K H x d ∧ Dp K H y e ∧ SeqAt.shaped d = true ∧ SeqAt.shaped e = true ∧ Q (.bl (!PyData.eqv d e)) H
theorem op_eqN (hu : X.A.units + 64 < cLine) : OpR X (compareOp .Eq) (rEqN X.K) := by
  intro pins s σ H x y v u Q I rx ry h
  obtain ⟨d, e, hd, he, sd, se, q⟩ := h
  obtain ⟨as, r1⟩ := Dp.reads I hd rx
  obtain ⟨bs, r2⟩ := Dp.reads I he ry
  exact SeqAt.compareEq_shaped r1 r2 sd se hu ⟨.bl _, H, I, rfl, q⟩
theorem op_neN (hu : X.A.units + 64 < cLine) : OpR X (compareOp .NotEq) (rNeN X.K) := by
  intro pins s σ H x y v u Q I rx ry h
  obtain ⟨d, e, hd, he, sd, se, q⟩ := h
  obtain ⟨as, r1⟩ := Dp.reads I hd rx
  obtain ⟨bs, r2⟩ := Dp.reads I he ry
  exact SeqAt.compareNe_shaped r1 r2 sd se hu ⟨.bl _, H, I, rfl, q⟩
end
/-! ### the operations -/
@[simp] def okN (n : Nat) : Bool := decide (n ≤ 1000000)
theorem okN_line {n : Nat} (h : okN n = true) : n ≤ sizeLine := Nat.le_trans (of_decide_eq_true h) (by decide)
theorem okN_lt {n : Nat} (h : okN n = true) : n < sizeLine := Nat.lt_of_le_of_lt (of_decide_eq_true h) (by decide)
@[simp] def addD : D → D → Option D
  | .int i, .int j => some (.int (i + j))
  | .str a, .str b => if okN (a.length + b.length) then some (.str (a ++ b)) else none
  | .tuple a, .tuple b => if okN (a.length + b.length) then some (.tuple (a ++ b)) else none
  | .list a, .list b => if okN (a.length + b.length) then some (.list (a ++ b)) else none
  | _, _ => none
@[simp] def subD : D → D → Option D
  | .int i, .int j => some (.int (i - j))
  | _, _ => none
def mulD : D → D → Option D
  | .int i, .int j => if decide (i.natAbs < 2 ^ 64) || decide (j.natAbs < 2 ^ 64) || decide (i.natAbs.log2 + j.natAbs.log2 < 1000000) then some (.int (i * j)) else none
  | _, _ => none
@[simp] def fdivD : D → D → Option D
  | .int i, .int j => if decide (0 < j) && decide (j < 1073741824) then some (.int (i / j)) else none
  | _, _ => none
@[simp] def modD : D → D → Option D
  | .int i, .int j => if decide (0 < j) then some (.int (i % j)) else none
  | _, _ => none
@[simp] def powD : D → D → Option D
  | .int i, .int j => if decide (0 ≤ j) && decide (j ≤ 64) && decide (i.natAbs < 1000) then some (.int (i ^ j.toNat)) else none
  | _, _ => none
@[simp] def cmpI (p : Int → Int → Bool) (ps : Str → Str → Bool) : D → D → Option D
  | .int i, .int j => some (.bool (p i j))
  | .str a, .str b => some (.bool (ps a b))
  | _, _ => none
abbrev ltD := cmpI (fun i j => decide (i < j)) fun a b => decide (a.cps.toList < b.cps.toList)
abbrev leD := cmpI (fun i j => decide (i ≤ j)) fun a b => !decide (b.cps.toList < a.cps.toList)
abbrev gtD := cmpI (fun i j => decide (j < i)) fun a b => decide (b.cps.toList < a.cps.toList)
abbrev geD := cmpI (fun i j => decide (j ≤ i)) fun a b => !decide (a.cps.toList < b.cps.toList)
def eqD : D → D → Option D
  | .int i, .int j => some (.bool (decide (i = j)))
  | .str a, .str b => some (.bool (decide (a = b)))
  | .bool a, .bool b => some (.bool (decide (a = b)))
  | x, y => if SeqAt.shaped x && SeqAt.shaped y then some (.bool (PyData.eqv x y)) else none
def neD : D → D → Option D
  | .int i, .int j => some (.bool (!decide (i = j)))
  | .str a, .str b => some (.bool (!decide (a = b)))
  | .bool a, .bool b => some (.bool (!decide (a = b)))
  | x, y => if SeqAt.shaped x && SeqAt.shaped y then some (.bool (!PyData.eqv x y)) else none
def isNo : D → Bool
  | .none => true
  | _ => false
@[simp] def isNd : D → D → Option D
  | x, .none => some (.bool (isNo x))
  | _, _ => none
@[simp] def notNd : D → D → Option D
  | x, .none => some (.bool (!isNo x))
  | _, _ => none
@[simp] def ixD : D → D → Option D
  | .list xs, .int i => atI xs i
  | .tuple xs, .int i => atI xs i
  | .str z, .int i => if okN z.length then (atI z.cps.toList i).map fun c => .str ⟨#[c]⟩ else none
  | _, _ => none
def rCatL (K : PySem.W.Frag) : R2 := fun x y H Q => ∃ l b xs ys, x = .ref l ∧ y = .ref b ∧ SqL K H l xs ∧ SqL K H b ys ∧ xs.length + ys.length ≤ sizeLine ∧ ∀ p, H p = none → Q (.ref p) (upd H p (.lst (xs ++ ys)))
theorem op_catL {X : Cx} : OpR X (binaryOp .Add) (rCatL X.K) := by
  intro pins s σ H x y v u Q I rx ry h
  obtain ⟨l, b, xs, ys, rfl, rfl, hl, hb, hz, q⟩ := h
  cases rx
  cases ry
  obtain ⟨its, r1, p1, _⟩ := I.list hl
  obtain ⟨its2, r2, p2, _⟩ := I.list hb
  have l1 := r1.length
  have l2 := r2.length
  obtain ⟨⟨cls, dd, data, sl⟩, ho, hc, n, hd⟩ := id p1.isList
  obtain ⟨⟨cls2, dd2, data2, sl2⟩, ho2, hc2, n2, hd2⟩ := id p2.isList
  simp only at hc hd hc2 hd2
  subst hc hd hc2 hd2
  have e : its.toArray ++ its2.toArray = (its ++ its2).toArray := by simp
  refine concat_meets ⟨_, ho, rfl⟩ ⟨_, ho2, rfl⟩ noFill_list_add seq_list_add PySem.F.slot_list_add PySem.F.entry_list_add (PySem.F.args_list_add_2 _ _) (list_addW l b its.toArray its2.toArray n n2 dd dd2 sl sl2 (by simp; omega)) ⟨ho, ho2, ?_⟩
  rw [e]
  refine ⟨.ref _, _, I.laid (t' := s.toks) (o := .lst (xs ++ ys)) (fun b ob q => Heap.get?_push_of_some _ q) (Nat.le_refl _) ?_, rfl, q _ (I.hok.fresh (Nat.le_refl _))⟩
  exact ⟨by rw [List.length_append]; omega, _, 0, r1.append r2, Heap.get?_push_size _ rfl⟩
abbrev rAdd (K : PySem.W.Frag) : R2 := fun x y H Q => rI0 (fun i j => .int (i + j)) x y H Q ∨ (∃ i j, x = .str i ∧ y = .str j ∧ i.length + j.length ≤ sizeLine ∧ Q (.str (i ++ j)) H) ∨ rCatA K x y H Q ∨ rCatL K x y H Q
section
variable {K : PySem.W.Frag}
theorem nil_of {vs : List V} {ds : List D} {H : Hp} (h : DpAll K H vs ds) : vs = [] ↔ ds = [] := by
  cases h <;> simp
theorem o_add : Op2 K (rAdd K) addD := by
  intro H Hk x y dx dy dz Q s vx vy e q
  unfold addD at e
  split at e
  · cases e
    cases vx.int; cases vy.int
    exact .inl ⟨_, _, rfl, rfl, q _ H Hk (Grow.refl s) (.int _)⟩
  · split at e
    · rename_i c
      cases e
      cases vx.str; cases vy.str
      exact .inr (.inl ⟨_, _, rfl, rfl, okN_line c, q _ H Hk (Grow.refl s) (.str _)⟩)
    · cases e
  · rename_i as bs
    split at e
    · rename_i c
      cases e
      obtain ⟨p, vs, rfl, sp, ap⟩ := vx.tup s
      obtain ⟨u, ws, rfl, su, au⟩ := vy.tup s
      refine .inr (.inr (.inl ⟨p, u, vs, ws, rfl, rfl, sp, su, by rw [dps_len ap, dps_len au]; exact okN_line c, fun n => ?_, fun _ n => ?_, fun _ _ t ht => ?_⟩))
      · cases (nil_of ap).1 n
        rw [List.nil_append] at q
        exact q _ H Hk (Grow.refl s) (vy.flat (fun _ => nofun) (fun _ => nofun))
      · cases (nil_of au).1 n
        rw [List.append_nil] at q
        exact q _ H Hk (Grow.refl s) (vx.flat (fun _ => nofun) (fun _ => nofun))
      · have g : Grow H Hk (upd H t (.tup (vs ++ ws))) (upd Hk t (.tup (vs ++ ws))) := Grow.new s ht
        exact q _ _ _ g (.tup (SqT.of upd_same) (dps_mono g.kk (dps_app ap au)))
    · cases e
  · rename_i as bs
    split at e
    · rename_i c
      cases e
      obtain ⟨p, vs, rfl, sp, ap⟩ := vx.lst s
      obtain ⟨u, ws, rfl, su, au⟩ := vy.lst s
      refine .inr (.inr (.inr ⟨p, u, vs, ws, rfl, rfl, sp, su, by rw [dps_len ap, dps_len au]; exact okN_line c, fun t ht => ?_⟩))
      have g : Grow H Hk (upd H t (.lst (vs ++ ws))) (upd Hk t (.lst (vs ++ ws))) := Grow.new s ht
      exact q _ _ _ g (.lst (SqL.of upd_same) (dps_mono g.kk (dps_app ap au)))
    · cases e
  · cases e
theorem o_I0 {k : Int → Int → V} {op : D → D → Option D} (h : ∀ dx dy dz, op dx dy = some dz → ∃ i j, dx = .int i ∧ dy = .int j ∧ ∀ H, Dp K H (k i j) dz) : Op2 K (rI0 k) op := by
  intro H Hk x y dx dy dz Q s vx vy e q
  obtain ⟨i, j, rfl, rfl, hd⟩ := h _ _ _ e
  cases vx.int; cases vy.int
  exact ⟨i, j, rfl, rfl, q _ H Hk (Grow.refl s) (hd _)⟩
theorem o_I {C : Int → Int → Prop} {k : Int → Int → V} {op : D → D → Option D} (h : ∀ dx dy dz, op dx dy = some dz → ∃ i j, dx = .int i ∧ dy = .int j ∧ C i j ∧ ∀ H, Dp K H (k i j) dz) : Op2 K (rI C k) op := by
  intro H Hk x y dx dy dz Q s vx vy e q
  obtain ⟨i, j, rfl, rfl, hc, hd⟩ := h _ _ _ e
  cases vx.int; cases vy.int
  exact ⟨i, j, rfl, rfl, hc, q _ H Hk (Grow.refl s) (hd _)⟩
theorem o_sub : Op2 K (rI0 fun i j => .int (i - j)) subD := o_I0 fun dx dy dz e => by
  unfold subD at e
  split at e <;> cases e
  exact ⟨_, _, rfl, rfl, fun _ => .int _⟩
abbrev CMul2 (i j : Int) : Prop := CMul i j ∨ CMulW i j
theorem o_mul : Op2 K (rI CMul2 fun i j => .int (i * j)) mulD := o_I fun dx dy dz e => by
  unfold mulD at e
  split at e
  · split at e <;> cases e
    rename_i c
    simp only [Bool.or_eq_true, decide_eq_true_eq] at c
    refine ⟨_, _, rfl, rfl, ?_, fun _ => .int _⟩
    rcases c with (c | c) | c
    · exact .inl (.inl ⟨by omega, by omega⟩)
    · exact .inl (.inr ⟨by omega, by omega⟩)
    · exact .inr c
  · cases e
theorem o_fdiv : Op2 K (rI CDiv fun i j => .int (i / j)) fdivD := o_I fun dx dy dz e => by
  unfold fdivD at e
  split at e
  · split at e <;> cases e
    rename_i c
    simp only [Bool.and_eq_true, decide_eq_true_eq] at c
    exact ⟨_, _, rfl, rfl, c, fun _ => .int _⟩
  · cases e
theorem o_mod : Op2 K (rI (fun _ j => 0 < j) fun i j => .int (i % j)) modD := o_I fun dx dy dz e => by
  unfold modD at e
  split at e
  · split at e <;> cases e
    rename_i c
    exact ⟨_, _, rfl, rfl, of_decide_eq_true c, fun _ => .int _⟩
  · cases e
theorem o_pow : Op2 K (rI CPow fun i j => .int (i ^ j.toNat)) powD := o_I fun dx dy dz e => by
  unfold powD at e
  split at e
  · split at e <;> cases e
    rename_i c
    simp only [Bool.and_eq_true, decide_eq_true_eq] at c
    exact ⟨_, _, rfl, rfl, ⟨c.1.1, by omega, by have := c.2; omega⟩, fun _ => .int _⟩
  · cases e
abbrev rCm (p : Int → Int → Bool) (ps : Str → Str → Bool) : R2 := fun x y H Q => rI0 (fun i j => .bl (p i j)) x y H Q ∨ ∃ i j, x = .str i ∧ y = .str j ∧ Q (.bl (ps i j)) H
theorem o_cmp {p : Int → Int → Bool} {ps : Str → Str → Bool} : Op2 K (rCm p ps) (cmpI p ps) := by
  intro H Hk x y dx dy dz Q s vx vy e q
  unfold cmpI at e
  split at e
  · cases e
    cases vx.int; cases vy.int
    exact .inl ⟨_, _, rfl, rfl, q _ H Hk (Grow.refl s) (.bl _)⟩
  · cases e
    cases vx.str; cases vy.str
    exact .inr ⟨_, _, rfl, rfl, q _ H Hk (Grow.refl s) (.bl _)⟩
  · cases e
abbrev rEq2 (K : PySem.W.Frag) : R2 := fun x y H Q => rEq x y H Q ∨ rEqN K x y H Q
abbrev rNe2 (K : PySem.W.Frag) : R2 := fun x y H Q => rNe x y H Q ∨ rNeN K x y H Q
theorem o_eq : Op2 K (rEq2 K) eqD := by
  intro H Hk x y dx dy dz Q s vx vy e q
  unfold eqD at e
  split at e
  · cases e; cases vx.int; cases vy.int
    exact .inl ⟨rfl, by simpa using q _ H Hk (Grow.refl s) (.bl _)⟩
  · cases e; cases vx.str; cases vy.str
    exact .inl ⟨rfl, by simpa using q _ H Hk (Grow.refl s) (.bl _)⟩
  · cases e; cases vx.bl; cases vy.bl
    exact .inl ⟨rfl, by simpa using q _ H Hk (Grow.refl s) (.bl _)⟩
  · split at e <;> cases e
    rename_i c
    rw [Bool.and_eq_true] at c
    exact .inr ⟨_, _, vx.dp s, vy.dp s, c.1, c.2, q _ H Hk (Grow.refl s) (.bl _)⟩
theorem o_ne : Op2 K (rNe2 K) neD := by
  intro H Hk x y dx dy dz Q s vx vy e q
  unfold neD at e
  split at e
  · cases e; cases vx.int; cases vy.int
    exact .inl ⟨rfl, by simpa using q _ H Hk (Grow.refl s) (.bl _)⟩
  · cases e; cases vx.str; cases vy.str
    exact .inl ⟨rfl, by simpa using q _ H Hk (Grow.refl s) (.bl _)⟩
  · cases e; cases vx.bl; cases vy.bl
    exact .inl ⟨rfl, by simpa using q _ H Hk (Grow.refl s) (.bl _)⟩
  · split at e <;> cases e
    rename_i c
    rw [Bool.and_eq_true] at c
    exact .inr ⟨_, _, vx.dp s, vy.dp s, c.1, c.2, q _ H Hk (Grow.refl s) (.bl _)⟩
theorem Vw.isNo {H Hk : Hp} {v : V} {d : D} (h : Vw K H Hk v d) : decide (v = .non) = isNo d := by
  rcases h with h | ⟨p, vs, ds, rfl, rfl, hp, a⟩ | ⟨p, o, xs, kvs, rfl, rfl, _⟩
  · cases h <;> first | rfl | (simp <;> rfl)
  · simp <;> rfl
  · simp <;> rfl
theorem o_isN : Op2 K (fun x y H Q => y = .non ∧ Q (.bl (decide (x = .non))) H) isNd := by
  intro H Hk x y dx dy dz Q s vx vy e q
  unfold isNd at e
  split at e <;> cases e
  refine ⟨vy.non, ?_⟩
  rw [vx.isNo]
  exact q _ H Hk (Grow.refl s) (.bl _)
theorem o_notN : Op2 K (fun x y H Q => y = .non ∧ Q (.bl (!decide (x = .non))) H) notNd := by
  intro H Hk x y dx dy dz Q s vx vy e q
  unfold notNd at e
  split at e <;> cases e
  refine ⟨vy.non, ?_⟩
  rw [vx.isNo]
  exact q _ H Hk (Grow.refl s) (.bl _)
theorem atI_dps {H : Hp} {vs : List V} {ds : List D} {i : Int} {d : D} (a : DpAll K H vs ds) (e : atI ds i = some d) : ∃ v, atI vs i = some v ∧ Dp K H v d := by
  unfold atI at e ⊢
  rw [dps_len a]
  cases h : ixN ds.length i with
  | none => rw [h] at e; cases e
  | some j =>
    rw [h] at e
    exact dps_at a e
theorem o_ix : Op2 K (rIx K) ixD := by
  intro H Hk x y dx dy dz Q s vx vy e q
  unfold ixD at e
  split at e
  · cases vy.int
    obtain ⟨p, vs, rfl, sp, ap⟩ := vx.lst s
    obtain ⟨v, ev, r⟩ := atI_dps ap e
    exact .inl ⟨p, vs, _, v, rfl, rfl, sp, ev, q _ H Hk (Grow.refl s) r⟩
  · cases vy.int
    obtain ⟨p, vs, rfl, sp, ap⟩ := vx.tup s
    obtain ⟨v, ev, r⟩ := atI_dps ap e
    exact .inr (.inl ⟨p, vs, _, v, rfl, rfl, sp, ev, q _ H Hk (Grow.refl s) r⟩)
  · cases vy.int; cases vx.str
    split at e
    · rename_i c
      obtain ⟨ch, e1, e2⟩ := Option.map_eq_some_iff.mp e
      cases e2
      exact .inr (.inr ⟨_, _, ch, rfl, rfl, okN_line c, e1, q _ H Hk (Grow.refl s) (.str _)⟩)
    · cases e
  · cases e
end
/-! ### for simp -/
@[simp] theorem simp_ix1 {α : Type} (xs : List α) (i : Int) : atI xs i = (ixN xs.length i).bind fun j => xs[j]? := rfl
@[simp] theorem simp_ix2 (n : Nat) (i : Int) : ixN n i = if 0 ≤ i then (if i < n then some i.toNat else none) else if -(n : Int) ≤ i then some (i + n).toNat else none := rfl
@[simp] theorem mulD_l (i j : Int) (h : i.natAbs < 2 ^ 64) : mulD (.int i) (.int j) = some (.int (i * j)) := by
  simp [mulD, h]
@[simp] theorem mulD_r (i j : Int) (h : j.natAbs < 2 ^ 64) : mulD (.int i) (.int j) = some (.int (i * j)) := by
  simp [mulD, h]
end DN
namespace DN
open PySem PySem.Spec PyProof.Rows L2
/-! ### expressions of two operands -/
section
variable {X : Cx} {a b : Expr} {f g : Fe} {r : R2} {fop : D → D → Option D} {pos : Pos}
theorem ev2 {op : Operator} (o : OpR X (binaryOp op) r) (s : Op2 X.K r fop) (ha : EV X a f) (hb : EV X b g) : EV X (.BinOp a op b pos) (f2 fop f g) := PE.imp (pe_op o ha hb) fun _ _ _ h => t2 s h
theorem ev2n {op : Operator} {i : Nat} (o : OpR X (binaryOp op) r) (s : Op2 X.K r fop) (ha : PE X a (tVar i)) (hb : EV X b g) : EV X (.BinOp a op b pos) (f2n fop i g) := PE.imp (pe_op o ha hb) fun _ _ _ h => t2n s h
theorem ev2m {op : Operator} {j : Nat} (o : OpR X (binaryOp op) r) (s : Op2 X.K r fop) (ha : EV X a f) (hb : PE X b (tVar j)) : EV X (.BinOp a op b pos) (f2m fop f j) := PE.imp (pe_op o ha hb) fun _ _ _ h => t2m s h
theorem ev2nn {op : Operator} {i j : Nat} (o : OpR X (binaryOp op) r) (s : Op2 X.K r fop) (ha : PE X a (tVar i)) (hb : PE X b (tVar j)) : EV X (.BinOp a op b pos) (f2nn fop i j) := PE.imp (pe_op o ha hb) fun _ _ _ h => t2nn s h
theorem ec2 {op : CmpOp} (o : OpR X (compareOp op) r) (s : Op2 X.K r fop) (hm : behindInMarks op b = false) (ha : EV X a f) (hb : EV X b g) : EV X (.Compare a [op] [b] pos) (f2 fop f g) := PE.imp (pe_cmpR o ha hb hm) fun _ _ _ h => t2 s h
theorem ec2n {op : CmpOp} {i : Nat} (o : OpR X (compareOp op) r) (s : Op2 X.K r fop) (hm : behindInMarks op b = false) (ha : PE X a (tVar i)) (hb : EV X b g) : EV X (.Compare a [op] [b] pos) (f2n fop i g) := PE.imp (pe_cmpR o ha hb hm) fun _ _ _ h => t2n s h
theorem ec2m {op : CmpOp} {j : Nat} (o : OpR X (compareOp op) r) (s : Op2 X.K r fop) (hm : behindInMarks op b = false) (ha : EV X a f) (hb : PE X b (tVar j)) : EV X (.Compare a [op] [b] pos) (f2m fop f j) := PE.imp (pe_cmpR o ha hb hm) fun _ _ _ h => t2m s h
theorem ec2nn {op : CmpOp} {i j : Nat} (o : OpR X (compareOp op) r) (s : Op2 X.K r fop) (hm : behindInMarks op b = false) (ha : PE X a (tVar i)) (hb : PE X b (tVar j)) : EV X (.Compare a [op] [b] pos) (f2nn fop i j) := PE.imp (pe_cmpR o ha hb hm) fun _ _ _ h => t2nn s h
theorem eix (ha : EV X a f) (hb : EV X b g) (hs : PlainIx b) : EV X (.Subscript a b pos) (f2 ixD f g) := PE.imp (pe_ix ix_seq ha hb hs) fun _ _ _ h => t2 o_ix h
theorem eixn {i : Nat} (ha : PE X a (tVar i)) (hb : EV X b g) (hs : PlainIx b) : EV X (.Subscript a b pos) (f2n ixD i g) := PE.imp (pe_ix ix_seq ha hb hs) fun _ _ _ h => t2n o_ix h
theorem eixm {j : Nat} (ha : EV X a f) (hb : PE X b (tVar j)) (hs : PlainIx b) : EV X (.Subscript a b pos) (f2m ixD f j) := PE.imp (pe_ix ix_seq ha hb hs) fun _ _ _ h => t2m o_ix h
theorem eixnn {i j : Nat} (ha : PE X a (tVar i)) (hb : PE X b (tVar j)) (hs : PlainIx b) : EV X (.Subscript a b pos) (f2nn ixD i j) := PE.imp (pe_ix ix_seq ha hb hs) fun _ _ _ h => t2nn o_ix h
end
theorem x_add {X : Cx} : OpR X (binaryOp .Add) (rAdd X.K) := op_add.or (op_add_str.or (op_catA.or op_catL))
theorem x_mul {X : Cx} : OpR X (binaryOp .Mult) (rI CMul2 fun i j => .int (i * j)) := by
  intro pins s σ H x y v u Q I rx ry h
  obtain ⟨i, j, e1, e2, c | c, q⟩ := h
  · exact op_mul pins s σ H x y v u Q I rx ry ⟨i, j, e1, e2, c, q⟩
  · exact op_mulW pins s σ H x y v u Q I rx ry ⟨i, j, e1, e2, c, q⟩
theorem x_eq {X : Cx} (hu : X.A.units + 64 < cLine) : OpR X (compareOp .Eq) (rEq2 X.K) := op_eq.or (op_eqN hu)
theorem x_ne {X : Cx} (hu : X.A.units + 64 < cLine) : OpR X (compareOp .NotEq) (rNe2 X.K) := op_ne.or (op_neN hu)
theorem x_lt {X : Cx} : OpR X (compareOp .Lt) (rCm (fun i j => decide (i < j)) fun a b => decide (a.cps.toList < b.cps.toList)) := op_lt.or op_lt_str
theorem x_le {X : Cx} : OpR X (compareOp .LtE) (rCm (fun i j => decide (i ≤ j)) fun a b => !decide (b.cps.toList < a.cps.toList)) := op_le.or op_le_str
theorem x_gt {X : Cx} : OpR X (compareOp .Gt) (rCm (fun i j => decide (j < i)) fun a b => decide (b.cps.toList < a.cps.toList)) := op_gt.or op_gt_str
theorem x_ge {X : Cx} : OpR X (compareOp .GtE) (rCm (fun i j => decide (j ≤ i)) fun a b => !decide (a.cps.toList < b.cps.toList)) := op_ge.or op_ge_str

/-! ### tests -/
abbrev Ft := En → Option (Bool × En)
def tT (K : PySem.W.Frag) (c : Ft) : TT := fun σ H Q => ∃ γ Hk b γ2, Ok K σ H Hk γ ∧ c γ = some (b, γ2) ∧ ∀ H2 Hk2, Go K σ H Hk γ σ H2 Hk2 γ2 → Q b H2
def ET (X : Cx) (e : Expr) (c : Ft) : Prop := PT X e (tT X.K c)
def EW (X : Cx) (e : Expr) (c : Ft) : Prop := PW X e (tT X.K c)
@[simp] def ofB (f : Fe) : Ft := fun γ => match f γ with
  | some (.bool b, γ2) => some (b, γ2)
  | _ => none
theorem ofB_I {K : PySem.W.Frag} {f : Fe} {σ : L2.St} {H : Hp} {Q : Bool → Hp → Prop} (h : tT K (ofB f) σ H Q) : tI K f σ H fun x H' => ∃ k, x = .bl k ∧ Q k H' := by
  obtain ⟨γ, Hk, b, γ2, o, e, q⟩ := h
  unfold ofB at e
  split at e <;> cases e
  rename_i ef
  refine ⟨γ, Hk, _, γ2, o, ef, fun v H2 Hk2 g r => ?_⟩
  cases r
  exact ⟨_, rfl, q H2 Hk2 g⟩
section
variable {X : Cx} {a b c : Expr} {rest : List Expr} {f g : Fe} {u v : Ft} {r : R2} {fop : D → D → Option D} {pos : Pos}
theorem et2 {op : CmpOp} (o : OpR X (compareOp op) r) (s : Op2 X.K r fop) (hm : behindInMarks op b = false) (ha : EV X a f) (hb : EV X b g) : ET X (.Compare a [op] [b] pos) (ofB (f2 fop f g)) := PT.imp (pt_cmpR o ha hb hm) fun _ _ _ h => t2 s (ofB_I h)
theorem et2n {op : CmpOp} {i : Nat} (o : OpR X (compareOp op) r) (s : Op2 X.K r fop) (hm : behindInMarks op b = false) (ha : PE X a (tVar i)) (hb : EV X b g) : ET X (.Compare a [op] [b] pos) (ofB (f2n fop i g)) := PT.imp (pt_cmpR o ha hb hm) fun _ _ _ h => t2n s (ofB_I h)
theorem et2m {op : CmpOp} {j : Nat} (o : OpR X (compareOp op) r) (s : Op2 X.K r fop) (hm : behindInMarks op b = false) (ha : EV X a f) (hb : PE X b (tVar j)) : ET X (.Compare a [op] [b] pos) (ofB (f2m fop f j)) := PT.imp (pt_cmpR o ha hb hm) fun _ _ _ h => t2m s (ofB_I h)
theorem et2nn {op : CmpOp} {i j : Nat} (o : OpR X (compareOp op) r) (s : Op2 X.K r fop) (hm : behindInMarks op b = false) (ha : PE X a (tVar i)) (hb : PE X b (tVar j)) : ET X (.Compare a [op] [b] pos) (ofB (f2nn fop i j)) := PT.imp (pt_cmpR o ha hb hm) fun _ _ _ h => t2nn s (ofB_I h)
/-- a value that is a bool, as a test -/
theorem et_val (h : EV X c f) (he : ∀ whole, isTrue c X.env whole = (do let v ← whole; standAt c.pos; holding [v] (truthy v)) := by intro _; rfl) : ET X c (ofB f) := PT.imp (pt_val h he) fun _ _ _ h => ofB_I h
@[simp] def cNot (u : Ft) : Ft := fun γ => match u γ with
  | some (b, γ2) => some (!b, γ2)
  | none => none
@[simp] def cAnd (u v : Ft) : Ft := fun γ => match u γ with
  | some (true, γ1) => v γ1
  | some (false, γ1) => some (false, γ1)
  | none => none
@[simp] def cOr (u v : Ft) : Ft := fun γ => match u γ with
  | some (false, γ1) => v γ1
  | some (true, γ1) => some (true, γ1)
  | none => none
theorem et_not (h : ET X a u) : ET X (.UnaryOp .Not a pos) (cNot u) := PT.imp (pt_not h) fun σ H Q ⟨γ, Hk, b, γ2, o, e, q⟩ => by
  unfold cNot at e
  split at e <;> cases e
  rename_i eu
  exact ⟨γ, Hk, _, γ2, o, eu, q⟩
theorem PW.imp {e : Expr} {t t' : TT} (h : PW X e t) (i : ∀ σ H Q, t' σ H Q → t σ H Q) : PW X e t' := ⟨fun w pins s σ H Q I q => h.run w pins s σ H Q I (i _ _ _ q)⟩
theorem and_imp' {K : PySem.W.Frag} {σ : L2.St} {H : Hp} {Q : Bool → Hp → Prop} (h : tT K (cAnd u v) σ H Q) : tAnd (tT K u) (tT K v) σ H Q := by
  obtain ⟨γ, Hk, b, γ2, o, e, q⟩ := h
  unfold cAnd at e
  split at e
  · rename_i γ1 eu
    exact ⟨γ, Hk, true, γ1, o, eu, fun H1 Hk1 g1 => iteT ⟨γ1, Hk1, b, γ2, g1.ok, e, fun H2 Hk2 g2 => q H2 Hk2 (g1.trans g2)⟩⟩
  · rename_i γ1 eu
    cases e
    exact ⟨γ, Hk, false, _, o, eu, fun H1 Hk1 g1 => iteF (q H1 Hk1 g1)⟩
  · cases e
theorem or_imp' {K : PySem.W.Frag} {σ : L2.St} {H : Hp} {Q : Bool → Hp → Prop} (h : tT K (cOr u v) σ H Q) : tOr (tT K u) (tT K v) σ H Q := by
  obtain ⟨γ, Hk, b, γ2, o, e, q⟩ := h
  unfold cOr at e
  split at e
  · rename_i γ1 eu
    exact ⟨γ, Hk, false, γ1, o, eu, fun H1 Hk1 g1 => iteF ⟨γ1, Hk1, b, γ2, g1.ok, e, fun H2 Hk2 g2 => q H2 Hk2 (g1.trans g2)⟩⟩
  · rename_i γ1 eu
    cases e
    exact ⟨γ, Hk, true, _, o, eu, fun H1 Hk1 g1 => iteT (q H1 Hk1 g1)⟩
  · cases e
theorem ew_and1 (h : ET X a u) : EW X (.BoolOp .And [a] pos) u := pw_and1 h
theorem ew_or1 (h : ET X a u) : EW X (.BoolOp .Or [a] pos) u := pw_or1 h
theorem ew_and (h : ET X a u) (hr : EW X (.BoolOp .And (b :: rest) pos) v) : EW X (.BoolOp .And (a :: b :: rest) pos) (cAnd u v) := PW.imp (pw_and h hr) fun _ _ _ h => and_imp' h
theorem ew_or (h : ET X a u) (hr : EW X (.BoolOp .Or (b :: rest) pos) v) : EW X (.BoolOp .Or (a :: b :: rest) pos) (cOr u v) := PW.imp (pw_or h hr) fun _ _ _ h => or_imp' h
theorem et_w (h : EW X c u) : ET X c u := h.pt
/-- and, or, not as values -/
@[simp] def fAnd (f g : Fe) : Fe := fun γ => match f γ with
  | some (.bool true, γ1) => g γ1
  | some (.bool false, γ1) => some (.bool false, γ1)
  | _ => none
@[simp] def fOr (f g : Fe) : Fe := fun γ => match f γ with
  | some (.bool false, γ1) => g γ1
  | some (.bool true, γ1) => some (.bool true, γ1)
  | _ => none
@[simp] def fNot (f : Fe) : Fe := fun γ => match f γ with
  | some (.bool b, γ1) => some (.bool (!b), γ1)
  | _ => none
theorem ev_one {op} (h : EV X a f) : EV X (.BoolOp op [a] pos) f := pe_one h
theorem ev_and (h : EV X a f) (hr : EV X (.BoolOp .And (b :: rest) pos) g) : EV X (.BoolOp .And (a :: b :: rest) pos) (fAnd f g) := PE.imp (pe_and h hr) fun σ H Q ⟨γ, Hk, d, γ2, o, e, q⟩ => by
  unfold fAnd at e
  split at e
  · rename_i γ1 ef
    exact ⟨γ, Hk, _, γ1, o, ef, fun w H1 Hk1 g1 r1 => by cases r1; exact ⟨true, rfl, iteT ⟨γ1, Hk1, d, γ2, g1.ok, e, fun z H2 Hk2 g2 r2 => q z H2 Hk2 (g1.trans g2) r2⟩⟩⟩
  · rename_i γ1 ef
    cases e
    exact ⟨γ, Hk, _, _, o, ef, fun w H1 Hk1 g1 r1 => by cases r1; exact ⟨false, rfl, iteF (q _ H1 Hk1 g1 (.bl _))⟩⟩
  · cases e
theorem ev_or (h : EV X a f) (hr : EV X (.BoolOp .Or (b :: rest) pos) g) : EV X (.BoolOp .Or (a :: b :: rest) pos) (fOr f g) := PE.imp (pe_or h hr) fun σ H Q ⟨γ, Hk, d, γ2, o, e, q⟩ => by
  unfold fOr at e
  split at e
  · rename_i γ1 ef
    exact ⟨γ, Hk, _, γ1, o, ef, fun w H1 Hk1 g1 r1 => by cases r1; exact ⟨false, rfl, iteF ⟨γ1, Hk1, d, γ2, g1.ok, e, fun z H2 Hk2 g2 r2 => q z H2 Hk2 (g1.trans g2) r2⟩⟩⟩
  · rename_i γ1 ef
    cases e
    exact ⟨γ, Hk, _, _, o, ef, fun w H1 Hk1 g1 r1 => by cases r1; exact ⟨true, rfl, iteT (q _ H1 Hk1 g1 (.bl _))⟩⟩
  · cases e
theorem ev_not (h : EV X a f) : EV X (.UnaryOp .Not a pos) (fNot f) := PE.imp (pe_not h) fun σ H Q ⟨γ, Hk, d, γ2, o, e, q⟩ => by
  unfold fNot at e
  split at e <;> cases e
  rename_i ef
  exact ⟨γ, Hk, _, _, o, ef, fun w H1 Hk1 g1 r1 => by cases r1; exact ⟨_, rfl, q _ H1 Hk1 g1 (.bl _)⟩⟩
@[simp] def fNeg (f : Fe) : Fe := fun γ => match f γ with
  | some (.int i, γ1) => some (.int (-i), γ1)
  | _ => none
theorem ev_neg (h : EV X a f) : EV X (.UnaryOp .USub a pos) (fNeg f) := PE.imp (pe_un un_neg h) fun σ H Q ⟨γ, Hk, d, γ2, o, e, q⟩ => by
  unfold fNeg at e
  split at e <;> cases e
  rename_i ef
  exact ⟨γ, Hk, _, _, o, ef, fun w H1 Hk1 g1 r1 => by cases r1; exact ⟨_, rfl, q _ H1 Hk1 g1 (.int _)⟩⟩
@[simp] def fIf (c : Ft) (f g : Fe) : Fe := fun γ => match c γ with
  | some (true, γ1) => f γ1
  | some (false, γ1) => g γ1
  | none => none
theorem ev_if (hc : ET X c u) (ha : EV X a f) (hb : EV X b g) : EV X (.IfExp c a b pos) (fIf u f g) := PE.imp (pe_ifExp hc ha hb) fun σ H Q ⟨γ, Hk, d, γ2, o, e, q⟩ => by
  unfold fIf at e
  split at e
  · rename_i γ1 eu
    exact ⟨γ, Hk, true, γ1, o, eu, fun H1 Hk1 g1 => iteT ⟨γ1, Hk1, d, γ2, g1.ok, e, fun z H2 Hk2 g2 r2 => q z H2 Hk2 (g1.trans g2) r2⟩⟩
  · rename_i γ1 eu
    exact ⟨γ, Hk, false, γ1, o, eu, fun H1 Hk1 g1 => iteF ⟨γ1, Hk1, d, γ2, g1.ok, e, fun z H2 Hk2 g2 r2 => q z H2 Hk2 (g1.trans g2) r2⟩⟩
  · cases e
end

/-! ### several values -/
abbrev Fa := En → Option (List D × En)
def tAd (K : PySem.W.Frag) (fa : Fa) : TA := fun σ H Q => ∃ γ Hk ds γ2, Ok K σ H Hk γ ∧ fa γ = some (ds, γ2) ∧ ∀ vs H2 Hk2, Go K σ H Hk γ σ H2 Hk2 γ2 → DpAll K Hk2 vs ds → Q vs H2
def EA (X : Cx) (es : List Expr) (fa : Fa) : Prop := PA X es (tAd X.K fa)
@[simp] def aNil : Fa := fun γ => some ([], γ)
@[simp] def aCons (f : Fe) (fa : Fa) : Fa := fun γ => match f γ with
  | some (d, γ1) => match fa γ1 with
    | some (ds, γ2) => some (d :: ds, γ2)
    | none => none
  | none => none
section
variable {X : Cx} {e a : Expr} {es : List Expr} {f : Fe} {fa : Fa} {pos : Pos}
theorem ea_nil : EA X [] aNil := PA.imp pa_nil fun σ H Q ⟨γ, Hk, ds, γ2, o, e, q⟩ => by
  cases e
  exact q [] H Hk (Go.refl o) .nil
theorem ea_cons (h : EV X e f) (hr : EA X es fa) (hs : starEach (e :: es) X.env = (false, eval e X.env) :: starEach es X.env := by rfl) : EA X (e :: es) (aCons f fa) := PA.imp (pa_cons h hr hs) fun σ H Q ⟨γ, Hk, ds, γ2, o, ee, q⟩ => by
  unfold aCons at ee
  split at ee
  · rename_i d γ1 ef
    split at ee <;> cases ee
    rename_i ds' efa
    exact ⟨γ, Hk, d, γ1, o, ef, fun v H1 Hk1 g1 r1 => ⟨γ1, Hk1, ds', γ2, g1.ok, efa, fun vs H2 Hk2 g2 r2 => q _ H2 Hk2 (g1.trans g2) (.cons (dp_mono g2.kk r1) r2)⟩⟩
  · cases ee
@[simp] def fTup (fa : Fa) : Fe := fun γ => match fa γ with
  | some (ds, γ2) => if okN ds.length then some (.tuple ds, γ2) else none
  | none => none
theorem ev_tup {x1} (h : EA X es fa) : EV X (.Tuple es x1 pos) (fTup fa) := PE.imp (pe_tup h) fun σ H Q ⟨γ, Hk, d, γ2, o, ee, q⟩ => by
  unfold fTup at ee
  split at ee
  · rename_i ds γ1 efa
    split at ee <;> cases ee
    rename_i c
    refine ⟨γ, Hk, ds, γ2, o, efa, fun vs H1 Hk1 g1 r1 => ⟨by rw [dps_len r1]; exact okN_line c, fun p hp => ?_⟩⟩
    have g2 : Grow H1 Hk1 (upd H1 p (.tup vs)) (upd Hk1 p (.tup vs)) := Grow.new g1.ok.sub hp
    exact q _ _ _ (g1.trans (g1.ok.go g2)) (.tup (SqT.of upd_same) (dps_mono g2.kk r1))
  · cases ee
/-- a new list -/
def tL (K : PySem.W.Frag) (fl : Fa) : TE := fun σ H Q => ∃ γ Hk ds γ2, Ok K σ H Hk γ ∧ fl γ = some (ds, γ2) ∧ ∀ p vs H2 Hk2, Go K σ H Hk γ σ H2 Hk2 γ2 → H2 p = none → DpAll K Hk2 vs ds → Q (.ref p) (upd H2 p (.lst vs))
def EL (X : Cx) (e : Expr) (fl : Fa) : Prop := PE X e (tL X.K fl)
@[simp] def fL (fl : Fa) : Fe := fun γ => match fl γ with
  | some (ds, γ2) => some (.list ds, γ2)
  | none => none
theorem ev_L (h : EL X e fa) : EV X e (fL fa) := PE.imp h fun σ H Q ⟨γ, Hk, d, γ2, o, ee, q⟩ => by
  unfold fL at ee
  split at ee <;> cases ee
  rename_i ds efa
  refine ⟨γ, Hk, ds, γ2, o, efa, fun p vs H2 Hk2 g hp r => ?_⟩
  have g2 : Grow H2 Hk2 (upd H2 p (.lst vs)) (upd Hk2 p (.lst vs)) := Grow.new g.ok.sub hp
  exact q _ _ _ (g.trans (g.ok.go g2)) (.lst (SqL.of upd_same) (dps_mono g2.kk r))
@[simp] def lDisp (fa : Fa) : Fa := fun γ => match fa γ with
  | some (ds, γ2) => if okN ds.length then some (ds, γ2) else none
  | none => none
theorem el_disp (h : EA X es fa) : EL X (.List es pos) (lDisp fa) := PE.imp (pe_lst h) fun σ H Q ⟨γ, Hk, d, γ2, o, ee, q⟩ => by
  unfold lDisp at ee
  split at ee
  · rename_i ds γ1 efa
    split at ee <;> cases ee
    rename_i c
    exact ⟨γ, Hk, _, γ2, o, efa, fun vs H1 Hk1 g1 r1 => ⟨by rw [dps_len r1]; exact okN_line c, fun p hp => q p vs H1 Hk1 g1 hp r1⟩⟩
  · cases ee

/-! ### built-in functions of one value -/
def Op1 (K : PySem.W.Frag) (r : V → Hp → VK → Prop) (op : D → Option D) : Prop :=
  ∀ H Hk x dx dz (Q : VK), Same Hk H → Vw K H Hk x dx → op dx = some dz → (∀ v H2 Hk2, Grow H Hk H2 Hk2 → Dp K Hk2 v dz → Q v H2) → r x H Q
@[simp] def f1 (op : D → Option D) (f : Fe) : Fe := fun γ => match f γ with
  | some (x, γ1) => match op x with
    | some z => some (z, γ1)
    | none => none
  | none => none
@[simp] def f1n (op : D → Option D) (i : Nat) : Fe := fun γ => match view γ i with
  | some x => match op x with
    | some z => some (z, γ)
    | none => none
  | none => none
theorem t1 {K : PySem.W.Frag} {r : List V → Hp → VK → Prop} {op : D → Option D} {σ : L2.St} {H : Hp} {Q : VK} (o : Op1 K (fun x => r [x]) op) (h : tI K (f1 op f) σ H Q) : tCB r (tCons (tI K f) tNil) σ H Q := by
  obtain ⟨γ, Hk, d, γ2, ok, e, q⟩ := h
  unfold f1 at e
  split at e
  · rename_i x γ1 ef
    split at e <;> cases e
    rename_i eo
    exact ⟨γ, Hk, x, _, ok, ef, fun v H1 Hk1 g1 r1 => o H1 Hk1 v x d Q g1.ok.sub (.inl r1) eo fun w H3 Hk3 g3 r3 => q w H3 Hk3 (g1.trans (g1.ok.go g3)) r3⟩
  · cases e
theorem t1n {K : PySem.W.Frag} {r : List V → Hp → VK → Prop} {op : D → Option D} {σ : L2.St} {H : Hp} {Q : VK} {i : Nat} (o : Op1 K (fun x => r [x]) op) (h : tI K (f1n op i) σ H Q) : tCB r (tCons (tVar i) tNil) σ H Q := by
  obtain ⟨γ, Hk, d, γ2, ok, e, q⟩ := h
  unfold f1n at e
  split at e
  · rename_i x ev
    split at e <;> cases e
    rename_i eo
    obtain ⟨v, e1, w⟩ := ok.view ev
    exact ⟨v, e1, o H Hk v x d Q ok.sub w eo fun w H3 Hk3 g3 r3 => q w H3 Hk3 (ok.go g3) r3⟩
  · cases e
@[simp] def lenD : D → Option D
  | .list ds => some (.int ds.length)
  | .tuple ds => some (.int ds.length)
  | .str z => if okN z.length then some (.int z.length) else none
  | _ => none
@[simp] def intD : D → Option D
  | .int i => some (.int i)
  | .bool b => some (.int (if b then 1 else 0))
  | _ => none
@[simp] def absD : D → Option D
  | .int i => some (.int (if i < 0 then -i else i))
  | _ => none
@[simp] def tupleD : D → Option D
  | .list ds => some (.tuple ds)
  | .tuple ds => some (.tuple ds)
  | _ => none
variable {K : PySem.W.Frag}
abbrev rLen (K : PySem.W.Frag) : List V → Hp → VK → Prop := fun xs H Q => (∃ p ys, xs = [.ref p] ∧ (SqL K H p ys ∨ SqT K H p ys) ∧ Q (.int ys.length) H) ∨ ∃ x n, xs = [x] ∧ LenV K x H n ∧ Q (.int n) H
theorem o_len : Op1 K (fun x => rLen K [x]) lenD := by
  intro H Hk x dx dz Q s vx e q
  unfold lenD at e
  split at e
  · cases e
    obtain ⟨p, vs, rfl, sp, ap⟩ := vx.lst s
    exact .inl ⟨p, vs, rfl, .inl sp, by rw [dps_len ap]; exact q _ H Hk (Grow.refl s) (.int _)⟩
  · cases e
    obtain ⟨p, vs, rfl, sp, ap⟩ := vx.tup s
    exact .inl ⟨p, vs, rfl, .inr sp, by rw [dps_len ap]; exact q _ H Hk (Grow.refl s) (.int _)⟩
  · split at e <;> cases e
    rename_i c
    cases vx.str
    exact .inr ⟨_, _, rfl, ⟨okN_line c, rfl⟩, q _ H Hk (Grow.refl s) (.int _)⟩
  · cases e
theorem o_int : Op1 K (fun x H Q => (fun xs H Q => (∃ i, xs = [V.int i] ∧ Q (.int i) H) ∨ ∃ k, xs = [V.bl k] ∧ Q (.int (if k then 1 else 0)) H) [x] H Q) intD := by
  intro H Hk x dx dz Q s vx e q
  unfold intD at e
  split at e <;> cases e
  · cases vx.int
    exact .inl ⟨_, rfl, q _ H Hk (Grow.refl s) (.int _)⟩
  · cases vx.bl
    exact .inr ⟨_, rfl, q _ H Hk (Grow.refl s) (.int _)⟩
theorem o_abs : Op1 K (fun x H Q => (fun xs H Q => ∃ i, xs = [V.int i] ∧ Q (.int (if i < 0 then -i else i)) H) [x] H Q) absD := by
  intro H Hk x dx dz Q s vx e q
  unfold absD at e
  split at e <;> cases e
  cases vx.int
  exact ⟨_, rfl, q _ H Hk (Grow.refl s) (.int _)⟩
theorem o_tuple : Op1 K (fun x H Q => (fun xs H Q => ∃ p ys, xs = [V.ref p] ∧ ((SqL K H p ys ∧ ∀ l, H l = none → Q (.ref l) (upd H l (.tup ys))) ∨ (SqT K H p ys ∧ Q (.ref p) H))) [x] H Q) tupleD := by
  intro H Hk x dx dz Q s vx e q
  unfold tupleD at e
  split at e <;> cases e
  · obtain ⟨p, vs, rfl, sp, ap⟩ := vx.lst s
    refine ⟨p, vs, rfl, .inl ⟨sp, fun l hl => ?_⟩⟩
    have g : Grow H Hk (upd H l (.tup vs)) (upd Hk l (.tup vs)) := Grow.new s hl
    exact q _ _ _ g (.tup (SqT.of upd_same) (dps_mono g.kk ap))
  · have vx := vx.flat (fun _ => nofun) (fun _ => nofun)
    cases vx with
    | tup h ap => exact ⟨_, _, rfl, .inr ⟨sqt_mono s h, q _ H Hk (Grow.refl s) (.tup h ap)⟩⟩
/-- f(e), f a built-in function, a built-in type -/
theorem ev_callB {x : Str} {id : String} {p : Pos} {r : List V → Hp → VK → Prop} {op : D → Option D} (o : Op1 X.K (fun x => r [x]) op) (hc : CallR X (.builtin id) r) (hm : X.mg x = none) (hg : Gl X x) (hv : bootBuiltins x = some (.builtin id)) (ha : EV X a f)
    (hn : x ≠ "__name__" := by decide) (hdb : (x == ("__debug__" : Str)) = false := by decide) (he : starEach [a] X.env = (false, eval a X.env) :: starEach [] X.env := by rfl) (hpl : (backTo pos (starEach [] X.env)).any (·.1) = false := by rfl) :
    EV X (.Call (.Name x p) [a] [] pos) (f1 op f) := PE.imp (pe_callB hc hg hm hv (pa_cons ha pa_nil he) hn hdb he hpl) fun _ _ _ h => t1 o h
theorem ev_callBn {x : Str} {id : String} {p : Pos} {i : Nat} {r : List V → Hp → VK → Prop} {op : D → Option D} (o : Op1 X.K (fun x => r [x]) op) (hc : CallR X (.builtin id) r) (hm : X.mg x = none) (hg : Gl X x) (hv : bootBuiltins x = some (.builtin id)) (ha : PE X a (tVar i))
    (hn : x ≠ "__name__" := by decide) (hdb : (x == ("__debug__" : Str)) = false := by decide) (he : starEach [a] X.env = (false, eval a X.env) :: starEach [] X.env := by rfl) (hpl : (backTo pos (starEach [] X.env)).any (·.1) = false := by rfl) :
    EV X (.Call (.Name x p) [a] [] pos) (f1n op i) := PE.imp (pe_callB hc hg hm hv (pa_cons ha pa_nil he) hn hdb he hpl) fun _ _ _ h => t1n o h
theorem ev_callT {x : Str} {id : String} {p : Pos} {r : List V → Hp → VK → Prop} {op : D → Option D} (o : Op1 X.K (fun x => r [x]) op) (hc : CallR X (.type id) r) (hm : X.mg x = none) (hg : Gl X x) (hv : bootBuiltins x = some (.type id)) (ha : EV X a f)
    (hn : x ≠ "__name__" := by decide) (hdb : (x == ("__debug__" : Str)) = false := by decide) (he : starEach [a] X.env = (false, eval a X.env) :: starEach [] X.env := by rfl) (hpl : (backTo pos (starEach [] X.env)).any (·.1) = false := by rfl) :
    EV X (.Call (.Name x p) [a] [] pos) (f1 op f) := PE.imp (pe_callTy hc hg hm hv (pa_cons ha pa_nil he) hn hdb he hpl) fun _ _ _ h => t1 o h
theorem ev_callTn {x : Str} {id : String} {p : Pos} {i : Nat} {r : List V → Hp → VK → Prop} {op : D → Option D} (o : Op1 X.K (fun x => r [x]) op) (hc : CallR X (.type id) r) (hm : X.mg x = none) (hg : Gl X x) (hv : bootBuiltins x = some (.type id)) (ha : PE X a (tVar i))
    (hn : x ≠ "__name__" := by decide) (hdb : (x == ("__debug__" : Str)) = false := by decide) (he : starEach [a] X.env = (false, eval a X.env) :: starEach [] X.env := by rfl) (hpl : (backTo pos (starEach [] X.env)).any (·.1) = false := by rfl) :
    EV X (.Call (.Name x p) [a] [] pos) (f1n op i) := PE.imp (pe_callTy hc hg hm hv (pa_cons ha pa_nil he) hn hdb he hpl) fun _ _ _ h => t1n o h
theorem x_len : CallR X (.builtin "len") (rLen X.K) := call_len_seq.or call_len
/-- list(e) -/
@[simp] def listD : D → Option (List D)
  | .list ds => some ds
  | .tuple ds => some ds
  | _ => none
@[simp] def lOf (f : Fe) : Fa := fun γ => match f γ with
  | some (x, γ1) => match listD x with
    | some z => some (z, γ1)
    | none => none
  | none => none
@[simp] def lOfn (i : Nat) : Fa := fun γ => match view γ i with
  | some x => match listD x with
    | some z => some (z, γ)
    | none => none
  | none => none
theorem listD_vw {H Hk : Hp} {v : V} {d : D} {ds : List D} (s : Same Hk H) (h : Vw K H Hk v d) (e : listD d = some ds) : ∃ p vs, v = .ref p ∧ (SqL K H p vs ∨ SqT K H p vs) ∧ DpAll K Hk vs ds := by
  unfold listD at e
  split at e <;> cases e
  · obtain ⟨p, vs, h1, h2, h3⟩ := h.lst s
    exact ⟨p, vs, h1, .inl h2, h3⟩
  · obtain ⟨p, vs, h1, h2, h3⟩ := h.tup s
    exact ⟨p, vs, h1, .inr h2, h3⟩
theorem el_list {p : Pos} (hm : X.mg "list" = none) (hg : Gl X "list") (ha : EV X a f) (he : starEach [a] X.env = (false, eval a X.env) :: starEach [] X.env := by rfl) (hpl : (backTo pos (starEach [] X.env)).any (·.1) = false := by rfl) :
    EL X (.Call (.Name "list" p) [a] [] pos) (lOf f) := PE.imp (pe_callTy call_list_of hg hm (by decide +kernel) (pa_cons ha pa_nil he) (he := he) (hpl := hpl)) fun σ H Q ⟨γ, Hk, d, γ2, o, ee, q⟩ => by
  unfold lOf at ee
  split at ee
  · rename_i x γ1 ef
    split at ee <;> cases ee
    rename_i el
    refine ⟨γ, Hk, x, γ2, o, ef, fun v H1 Hk1 g1 r1 => ?_⟩
    obtain ⟨t, vs, rfl, h1, h2⟩ := listD_vw g1.ok.sub (.inl r1) el
    exact ⟨t, vs, rfl, h1, fun l hl => q l vs H1 Hk1 g1 hl h2⟩
  · cases ee
theorem el_listn {p : Pos} {i : Nat} (hm : X.mg "list" = none) (hg : Gl X "list") (ha : PE X a (tVar i)) (he : starEach [a] X.env = (false, eval a X.env) :: starEach [] X.env := by rfl) (hpl : (backTo pos (starEach [] X.env)).any (·.1) = false := by rfl) :
    EL X (.Call (.Name "list" p) [a] [] pos) (lOfn i) := PE.imp (pe_callTy call_list_of hg hm (by decide +kernel) (pa_cons ha pa_nil he) (he := he) (hpl := hpl)) fun σ H Q ⟨γ, Hk, d, γ2, o, ee, q⟩ => by
  unfold lOfn at ee
  split at ee
  · rename_i x ev
    split at ee <;> cases ee
    rename_i el
    obtain ⟨v, e1, w⟩ := o.view ev
    obtain ⟨t, vs, rfl, h1, h2⟩ := listD_vw o.sub w el
    exact ⟨_, e1, t, vs, rfl, h1, fun l hl => q l vs H Hk (Go.refl o) hl h2⟩
  · cases ee
end

/-! ### slices -/
def cutD {α : Type} (xs : List α) (lo hi : Option Int) : List α := (xs.drop (HT.sIx xs.length 0 lo)).take (HT.sIx xs.length xs.length hi - HT.sIx xs.length 0 lo)
theorem cutD_whole {α : Type} {xs : List α} {lo hi : Option Int} (h : HT.sIx xs.length 0 lo = 0 ∧ HT.sIx xs.length xs.length hi = xs.length) : cutD xs lo hi = xs := by
  unfold cutD
  rw [h.1, h.2]
  simp
abbrev Fp := En → Option (Option Int × En)
def tPp (K : PySem.W.Frag) (fp : Fp) : TO := fun σ H Q => ∃ γ Hk o γ2, Ok K σ H Hk γ ∧ fp γ = some (o, γ2) ∧ ∀ H2 Hk2, Go K σ H Hk γ σ H2 Hk2 γ2 → Q o H2
def EP' (X : Cx) (e : Option Expr) (fp : Fp) : Prop := PO X e (tPp X.K fp)
@[simp] def pNo : Fp := fun γ => some (none, γ)
@[simp] def pOf (f : Fe) : Fp := fun γ => match f γ with
  | some (.int i, γ1) => some (some i, γ1)
  | _ => none
section
variable {X : Cx} {e : Expr} {es : List Expr} {f : Fe} {lo hi : Option Expr} {fl fh : Fp} {pos p2 : Pos} {K : PySem.W.Frag}
theorem PO.imp {e : Option Expr} {t t' : TO} (h : PO X e t) (i : ∀ σ H Q, t' σ H Q → t σ H Q) : PO X e t' := ⟨fun pins s σ H Q I q => h.run pins s σ H Q I (i _ _ _ q)⟩
theorem ep_no : EP' X none pNo := PO.imp po_none fun σ H Q ⟨γ, Hk, d, γ2, o, ee, q⟩ => by
  cases ee
  exact q H Hk (Go.refl o)
theorem ep_of (h : EV X e f) : EP' X (some e) (pOf f) := PO.imp (po_some h) fun σ H Q ⟨γ, Hk, d, γ2, o, ee, q⟩ => by
  unfold pOf at ee
  split at ee <;> cases ee
  rename_i ef
  exact ⟨γ, Hk, _, _, o, ef, fun v H1 Hk1 g1 r1 => by cases r1; exact ⟨_, rfl, q H1 Hk1 g1⟩⟩
@[simp] def slD : D → Option Int → Option Int → Option D
  | .tuple ds, lo, hi => some (.tuple (cutD ds lo hi))
  | .list ds, lo, hi => some (.list (cutD ds lo hi))
  | .str z, lo, hi => if okN z.length then some (.str (cutS z lo hi)) else none
  | _, _, _ => none
@[simp] def fSl (f : Fe) (fl fh : Fp) : Fe := fun γ => match f γ with
  | some (x, γ1) => match fl γ1 with
    | some (lo, γ2) => match fh γ2 with
      | some (hi, γ3) => match slD x lo hi with
        | some z => some (z, γ3)
        | none => none
      | none => none
    | none => none
  | none => none
@[simp] def fSln (i : Nat) (fl fh : Fp) : Fe := fun γ => match view γ i with
  | some _ => match fl γ with
    | some (lo, γ2) => match fh γ2 with
      | some (hi, γ3) => match view γ3 i with
        | some x => match slD x lo hi with
          | some z => some (z, γ3)
          | none => none
        | none => none
      | none => none
    | none => none
  | none => none
abbrev rSl (K : PySem.W.Frag) : V → Option Int → Option Int → Hp → VK → Prop := fun x lo hi H Q => rSlA K x lo hi H Q ∨ rSlL K x lo hi H Q ∨ rSlS x lo hi H Q
theorem o_sl {H Hk : Hp} {x : V} {dx dz : D} {a b : Option Int} {Q : VK} (s : Same Hk H) (vx : Vw K H Hk x dx) (e : slD dx a b = some dz) (q : ∀ v H2 Hk2, Grow H Hk H2 Hk2 → Dp K Hk2 v dz → Q v H2) : rSl K x a b H Q := by
  unfold slD at e
  split at e
  · cases e
    obtain ⟨p, vs, rfl, sp, ap⟩ := vx.tup s
    have hl := dps_len ap
    refine .inl ⟨p, vs, rfl, sp, fun hw => ?_, fun hw l hl' => ?_⟩
    · rw [hl] at hw
      rw [cutD_whole hw] at q
      exact q _ H Hk (Grow.refl s) (vx.flat (fun _ => nofun) (fun _ => nofun))
    · have g : Grow H Hk (upd H l (.tup (cutV vs a b))) (upd Hk l (.tup (cutV vs a b))) := Grow.new s hl'
      refine q _ _ _ g (.tup (SqT.of upd_same) (dps_mono g.kk ?_))
      unfold cutV cutD
      rw [hl]
      exact dps_take _ (dps_drop _ ap)
  · cases e
    obtain ⟨p, vs, rfl, sp, ap⟩ := vx.lst s
    have hl := dps_len ap
    refine .inr (.inl ⟨p, vs, rfl, sp, fun l hl' => ?_⟩)
    have g : Grow H Hk (upd H l (.lst (cutV vs a b))) (upd Hk l (.lst (cutV vs a b))) := Grow.new s hl'
    refine q _ _ _ g (.lst (SqL.of upd_same) (dps_mono g.kk ?_))
    unfold cutV cutD
    rw [hl]
    exact dps_take _ (dps_drop _ ap)
  · split at e <;> cases e
    rename_i c
    cases vx.str
    exact .inr (.inr ⟨_, rfl, okN_line c, q _ H Hk (Grow.refl s) (.str _)⟩)
  · cases e
theorem x_sl : SlR X (rSl X.K) := sl_tupA.or (sl_list.or sl_str)
theorem ev_sl (he : EV X e f) (hl : EP' X lo fl) (hh : EP' X hi fh) : EV X (.Subscript e (.Slice lo hi none p2) pos) (fSl f fl fh) := PE.imp (pe_slice x_sl he hl hh) fun σ H Q ⟨γ, Hk, d, γ2, o, ee, q⟩ => by
  unfold fSl at ee
  split at ee
  · rename_i x γ1 ef
    split at ee
    · rename_i a γa ea
      split at ee
      · rename_i b γb eb
        split at ee <;> cases ee
        rename_i es
        exact ⟨γ, Hk, x, γ1, o, ef, fun v H1 Hk1 g1 r1 => ⟨γ1, Hk1, a, γa, g1.ok, ea, fun H2 Hk2 g2 => ⟨γa, Hk2, b, _, g2.ok, eb, fun H3 Hk3 g3 =>
          o_sl g3.ok.sub (.inl (dp_mono (g2.kk.trans g3.kk) r1)) es fun w H4 Hk4 g4 r4 => q w H4 Hk4 (((g1.trans g2).trans g3).trans (g3.ok.go g4)) r4⟩⟩⟩
      · cases ee
    · cases ee
  · cases ee
theorem ev_sln {i : Nat} (he : PE X e (tVar i)) (hl : EP' X lo fl) (hh : EP' X hi fh) : EV X (.Subscript e (.Slice lo hi none p2) pos) (fSln i fl fh) := PE.imp (pe_slice x_sl he hl hh) fun σ H Q ⟨γ, Hk, d, γ2, o, ee, q⟩ => by
  unfold fSln at ee
  split at ee
  · rename_i x0 ev0
    split at ee
    · rename_i a γa ea
      split at ee
      · rename_i b γb eb
        split at ee
        · rename_i x ev
          split at ee <;> cases ee
          rename_i es
          obtain ⟨v, e1, _⟩ := o.view ev0
          refine ⟨v, e1, γ, Hk, a, γa, o, ea, fun H2 Hk2 g2 => ⟨γa, Hk2, b, _, g2.ok, eb, fun H3 Hk3 g3 => ?_⟩⟩
          obtain ⟨v', e2, w⟩ := g3.ok.view ev
          rw [e1] at e2; cases e2
          exact o_sl g3.ok.sub w es fun w H4 Hk4 g4 r4 => q w H4 Hk4 ((g2.trans g3).trans (g3.ok.go g4)) r4
        · cases ee
      · cases ee
    · cases ee
  · cases ee
end
end DN
namespace DN
open PySem PySem.Spec PyProof.Rows L2
/-! ### storing -/
def NoPin (γ : En) (i : Nat) : Prop := ∀ y, gt γ i ≠ some (.ow true y)
/-- only the first slot can be pinned -/
@[simp] def pinB (γ : En) : Nat → Bool
  | 0 => match gt γ 0 with
    | some (.ow true _) => true
    | _ => false
  | _ + 1 => false
theorem noPin_of {K : PySem.W.Frag} {σ : L2.St} {H Hk : Hp} {γ : En} (o : Ok K σ H Hk γ) {i : Nat} (h : pinB γ i = false) : NoPin γ i := fun ds e => by
  obtain rfl := o.pin i ds e
  unfold pinB at h
  rw [e] at h
  cases h
theorem set_here {σ : L2.St} {γ : En} {i : Nat} (l : σ.length = γ.length) (h : i < γ.length) (x : Option V) : (σ.set i x)[i]? = some x := by
  rw [List.getElem?_set_self (by rw [l]; exact h)]
theorem set_there {σ : L2.St} {i j : Nat} (h : i ≠ j) (x : Option V) : (σ.set i x)[j]? = σ[j]? := List.getElem?_set_ne h
section
variable {K : PySem.W.Frag} {σ : L2.St} {H Hk : Hp} {γ : En} {i : Nat}
theorem set_ne {j : Nat} {e : Ent} (h : gt γ j = some e) (n : ¬ (i = j ∧ i < γ.length)) : i ≠ j := fun z => n ⟨z, by rw [z]; exact gt_lt h⟩
/-- slot i gets a thing that is not owned, or nothing -/
theorem Ok.setAny {x : Option V} {n : Option Ent} (o : Ok K σ H Hk γ) (np : NoPin γ i) (n1 : ∀ b y, n ≠ some (.ow b y)) (n2 : ∀ d, n = some (.dat d) → ∃ v, x = some v ∧ Dp K Hk v d) (n3 : ∀ t, n = some (.tab t) → ∃ v, x = some v ∧ Tb K Hk v t) :
    Go K σ H Hk γ (σ.set i x) H Hk (γ.set i n) := by
  have get : ∀ {j b y}, gt (γ.set i n) j = some (.ow b y) → gt γ j = some (.ow b y) ∧ i ≠ j := fun {j b y} e => by
    rw [gt_set] at e
    split at e
    · exact absurd e (n1 b y)
    · rename_i c; exact ⟨e, set_ne e c⟩
  refine ⟨⟨by rw [List.length_set, List.length_set]; exact o.len, o.sub, fun j d' e => ?_, fun j b y e => ?_, fun j y e => o.pin _ _ (get e).1, fun j k b c y z v u fp fq ej ek vj vk rj rk a hj hk => ?_, fun j kvs e => ?_⟩, Same.refl _, fun a u h n => (by rw [h] at n; cases n), fun _ _ h _ => h, fun a h => ?_, fun j y h => ?_⟩
  · rw [gt_set] at e
    split at e
    · rename_i c
      obtain ⟨v, rfl, r⟩ := n2 _ e
      exact ⟨v, by rw [← c.1]; exact set_here o.len c.2 _, r⟩
    · rename_i c
      obtain ⟨v', e', r'⟩ := o.dat j d' e
      exact ⟨v', by rw [set_there (set_ne e c)]; exact e', r'⟩
  · obtain ⟨e, c⟩ := get e
    obtain ⟨v, fp, e', q⟩ := o.ow j b y e
    exact ⟨v, fp, by rw [set_there c]; exact e', q⟩
  · obtain ⟨ej, cj⟩ := get ej
    obtain ⟨ek, ck⟩ := get ek
    rw [set_there cj] at vj
    rw [set_there ck] at vk
    exact o.sep _ _ _ _ _ _ _ _ _ _ ej ek vj vk rj rk a hj hk
  · rw [gt_set] at e
    split at e
    · rename_i c
      obtain ⟨v, rfl, r⟩ := n3 _ e
      exact ⟨v, by rw [← c.1]; exact set_here o.len c.2 _, r⟩
    · rename_i c
      obtain ⟨v', e', r'⟩ := o.tab j kvs e
      exact ⟨v', by rw [set_there (set_ne e c)]; exact e', r'⟩
  · obtain ⟨j, b, y, v, fp, e, h1, r, m⟩ := h
    obtain ⟨e, c⟩ := get e
    rw [set_there c] at h1
    exact .inl ⟨j, b, y, v, fp, e, h1, r, m⟩
  · have hij : i ≠ j := fun z => np y (by rw [z]; exact h)
    refine ⟨set_there hij _, y, ?_⟩
    rw [gt_set, if_neg (fun c => hij c.1)]
    exact h
theorem Ok.setDat {v : V} {d : D} (o : Ok K σ H Hk γ) (r : Dp K Hk v d) (np : NoPin γ i) : Go K σ H Hk γ (σ.set i (some v)) H Hk (γ.set i (some (.dat d))) :=
  o.setAny np (fun _ _ => nofun) (fun d' e => by cases e; exact ⟨v, rfl, r⟩) (fun _ => nofun)
/-- slot i gets a new thing that the frame owns -/
theorem Ok.setNew {v : V} {y : Pay} {fp : List Addr} {H' : Hp} (o : Ok K σ H Hk γ) (s : Same H H') (r : OwnV K H' Hk v y fp) (new : ∀ a ∈ fp, H a = none) (np : NoPin γ i) :
    Go K σ H Hk γ (σ.set i (some v)) H' Hk (γ.set i (some (.ow false y))) := by
  have up : ∀ {w z fq}, OwnV K H Hk w z fq → OwnV K H' Hk w z fq := fun {w z fq} r => r.to (Same.refl _) (fun a _ u e => s a u e) fun a ha => (r.at a ha).2
  -- what an owned slot is behind it
  have get : ∀ {j b z w fq}, gt (γ.set i (some (.ow false y))) j = some (.ow b z) → (σ.set i (some v))[j]? = some (some w) → OwnV K H' Hk w z fq → (i = j ∧ fq = fp) ∨ (i ≠ j ∧ gt γ j = some (.ow b z) ∧ σ[j]? = some (some w) ∧ OwnV K H Hk w z fq) := fun {j b z w fq} e ew rw' => by
    rw [gt_set] at e
    split at e
    · rename_i c
      cases e
      rw [← c.1, set_here o.len c.2] at ew
      cases ew
      exact .inl ⟨c.1, rw'.det r⟩
    · rename_i c
      have ne := set_ne e c
      rw [set_there ne] at ew
      obtain ⟨w', fq', e', r'⟩ := o.ow j b z e
      rw [ew] at e'; cases e'
      exact .inr ⟨ne, e, ew, by rw [rw'.det (up r')]; exact r'⟩
  refine ⟨⟨by rw [List.length_set, List.length_set]; exact o.len, o.sub.trans s, fun j d' e => ?_, fun j b z e => ?_, fun j z e => ?_, fun j k b c z z' w w' fq fr ej ek vj vk rj rk a hj hk => ?_, fun j kvs e => ?_⟩, Same.refl _, fun a u h n => (by rw [h] at n; cases n), fun _ _ h _ => s _ _ h, fun a h => ?_, fun j z h => ?_⟩
  · rw [gt_set] at e
    split at e
    · cases e
    · rename_i c
      obtain ⟨v', e', r'⟩ := o.dat j d' e
      exact ⟨v', by rw [set_there (set_ne e c)]; exact e', r'⟩
  · rw [gt_set] at e
    split at e
    · rename_i c
      cases e
      exact ⟨v, fp, by rw [← c.1]; exact set_here o.len c.2 _, r⟩
    · rename_i c
      obtain ⟨w, fq, e', r'⟩ := o.ow j b z e
      exact ⟨w, fq, by rw [set_there (set_ne e c)]; exact e', up r'⟩
  · rw [gt_set] at e
    split at e
    · cases e
    · exact o.pin _ _ e
  · rcases get ej vj rj with ⟨c1, rfl⟩ | ⟨c1, e1, v1, r1⟩
    · rcases get ek vk rk with ⟨c2, rfl⟩ | ⟨c2, e2, v2, r2⟩
      · rw [← c1, ← c2]
      · obtain ⟨⟨u, hu⟩, _⟩ := r2.at a hk
        rw [new a hj] at hu; cases hu
    · rcases get ek vk rk with ⟨c2, rfl⟩ | ⟨c2, e2, v2, r2⟩
      · obtain ⟨⟨u, hu⟩, _⟩ := r1.at a hj
        rw [new a hk] at hu; cases hu
      · exact o.sep _ _ _ _ _ _ _ _ _ _ e1 e2 v1 v2 r1 r2 a hj hk
  · rw [gt_set] at e
    split at e
    · cases e
    · rename_i c
      obtain ⟨v', e', r'⟩ := o.tab j kvs e
      exact ⟨v', by rw [set_there (set_ne e c)]; exact e', r'⟩
  · obtain ⟨j, b, z, w, fq, e, h1, r', m⟩ := h
    rcases get e h1 r' with ⟨_, rfl⟩ | ⟨_, e1, v1, r1⟩
    · exact .inr (new a m)
    · exact .inl ⟨j, b, z, w, fq, e1, v1, r1, m⟩
  · have hij : i ≠ j := fun q => np z (by rw [q]; exact h)
    refine ⟨set_there hij _, z, ?_⟩
    rw [gt_set, if_neg (fun c => hij c.1)]
    exact h
theorem Ok.setOwn {p : Addr} {vs : List V} {ds : List D} (o : Ok K σ H Hk γ) (hp : H p = none) (r : DpAll K Hk vs ds) (np : NoPin γ i) :
    Go K σ H Hk γ (σ.set i (some (.ref p))) (upd H p (.lst vs)) Hk (γ.set i (some (.own false ds))) :=
  o.setNew (same_upd hp) (.lst upd_same (o.sub.free hp) r) (fun a ha => by rw [List.mem_singleton.mp ha]; exact hp) np
/-- what slot i owns is changed -/
theorem Ok.change {b : Bool} {v : V} {y z : Pay} {fp fq : List Addr} {H' : Hp} (o : Ok K σ H Hk γ) (h : gt γ i = some (.ow b y)) (hs : σ[i]? = some (some v)) (r : OwnV K H Hk v y fp) (kp : ∀ a u, H a = some u → a ∉ fp → H' a = some u) (r' : OwnV K H' Hk v z fq)
    (new : ∀ a ∈ fq, a ∈ fp ∨ H a = none) : Go K σ H Hk γ σ H' Hk (γ.set i (some (.ow b z))) := by
  have hi := gt_lt h
  have mine : ∀ a ∈ fp, OwnA K σ H Hk γ a := fun a ha => ⟨i, b, y, v, fp, h, hs, r, ha⟩
  have up : ∀ {j c w x fr}, i ≠ j → gt γ j = some (.ow c x) → σ[j]? = some (some w) → OwnV K H Hk w x fr → OwnV K H' Hk w x fr := fun {j c w x fr} ne e ew rw' =>
    rw'.to (Same.refl _) (fun a ha u q => kp a u q fun m => ne (o.sep _ _ _ _ _ _ _ _ _ _ h e hs ew r rw' a m ha)) fun a ha => (rw'.at a ha).2
  have get : ∀ {j c x w fr}, gt (γ.set i (some (.ow b z))) j = some (.ow c x) → σ[j]? = some (some w) → OwnV K H' Hk w x fr → (i = j ∧ fr = fq) ∨ (i ≠ j ∧ gt γ j = some (.ow c x) ∧ OwnV K H Hk w x fr) := fun {j c x w fr} e ew rw' => by
    rw [gt_set] at e
    split at e
    · rename_i cc
      cases e
      rw [← cc.1, hs] at ew
      cases ew
      exact .inl ⟨cc.1, rw'.det r'⟩
    · rename_i cc
      have ne := set_ne e cc
      obtain ⟨w', fr', e', q'⟩ := o.ow j c x e
      rw [ew] at e'; cases e'
      exact .inr ⟨ne, e, by rw [rw'.det (up ne e ew q')]; exact q'⟩
  have sub : Same Hk H' := fun a u e => kp a u (o.sub _ _ e) fun m => by
    have := (r.at a m).2
    rw [e] at this; cases this
  refine ⟨⟨by rw [List.length_set]; exact o.len, sub, fun j d' e => ?_, fun j c x e => ?_, fun j x e => ?_, fun j k c c' x x' w w' fr ft ej ek vj vk rj rk a hj hk => ?_, fun j kvs e => ?_⟩, Same.refl _, fun a u h n => (by rw [h] at n; cases n), fun a u e n => ?_, fun a e => ?_, fun j x e => ?_⟩
  · rw [gt_set] at e
    split at e
    · cases e
    · exact o.dat j d' e
  · rw [gt_set] at e
    split at e
    · rename_i cc
      cases e
      exact ⟨v, fq, by rw [← cc.1]; exact hs, r'⟩
    · rename_i cc
      obtain ⟨w, fr, e2, q⟩ := o.ow j c x e
      exact ⟨w, fr, e2, up (set_ne e cc) e e2 q⟩
  · rw [gt_set] at e
    split at e
    · rename_i cc
      cases e
      rw [← cc.1]
      exact o.pin _ _ h
    · exact o.pin _ _ e
  · rcases get ej vj rj with ⟨c1, rfl⟩ | ⟨c1, e1, r1⟩
    · rcases get ek vk rk with ⟨c2, rfl⟩ | ⟨c2, e2, r2⟩
      · rw [← c1, ← c2]
      · rcases new a hj with m | m
        · exact o.sep _ _ _ _ _ _ _ _ _ _ (by rw [← c1]; exact h) e2 (by rw [← c1]; exact hs) vk r r2 a m hk
        · obtain ⟨⟨u, hu⟩, _⟩ := r2.at a hk
          rw [m] at hu; cases hu
    · rcases get ek vk rk with ⟨c2, rfl⟩ | ⟨c2, e2, r2⟩
      · rcases new a hk with m | m
        · exact (o.sep _ _ _ _ _ _ _ _ _ _ (by rw [← c2]; exact h) e1 (by rw [← c2]; exact hs) vj r r1 a m hj).symm
        · obtain ⟨⟨u, hu⟩, _⟩ := r1.at a hj
          rw [m] at hu; cases hu
      · exact o.sep _ _ _ _ _ _ _ _ _ _ e1 e2 vj vk r1 r2 a hj hk
  · rw [gt_set] at e
    split at e
    · cases e
    · exact o.tab j kvs e
  · exact kp a u e fun m => n (mine a m)
  · obtain ⟨j, c, x, w, fr, e, h1, r1, m⟩ := e
    rcases get e h1 r1 with ⟨_, rfl⟩ | ⟨_, e1, r2⟩
    · rcases new a m with q | q
      · exact .inl (mine a q)
      · exact .inr q
    · exact .inl ⟨j, c, x, w, fr, e1, h1, r2, m⟩
  · refine ⟨rfl, ?_⟩
    by_cases hij : i = j
    · subst hij
      rw [h] at e; cases e
      exact ⟨z, by rw [gt_set, if_pos ⟨rfl, hi⟩]⟩
    · exact ⟨x, by rw [gt_set, if_neg (fun c => hij c.1)]; exact e⟩
theorem Ok.write {b : Bool} {p : Addr} {vs : List V} {ds es : List D} (o : Ok K σ H Hk γ) (h : gt γ i = some (.own b ds)) (hs : σ[i]? = some (some (.ref p))) (r : DpAll K Hk vs es) :
    Go K σ H Hk γ σ (upd H p (.lst vs)) Hk (γ.set i (some (.own b es))) := by
  obtain ⟨p', ws, e1, hp, hkp, ra⟩ := o.own i b ds h
  rw [hs] at e1; cases e1
  exact o.change h hs (.lst hp hkp ra) (fun a u e n => by rw [upd_ne (fun q => n (by simp [q]))]; exact e) (.lst upd_same hkp r) (fun a ha => .inl ha)
/-- a slot is forgotten -/
theorem Ok.drop (o : Ok K σ H Hk γ) (no : ∀ b y, gt γ i ≠ some (.ow b y)) : Go K σ H Hk γ (σ.set i none) H Hk (γ.set i none) :=
  o.setAny (fun y => no true y) (fun _ _ => nofun) (fun _ => nofun) (fun _ => nofun)
end

/-! ### targets -/
abbrev Fg := D → En → Option En
def tGt (K : PySem.W.Frag) (tg : Fg) : TG := fun v σ H Q => ∃ γ Hk d γ2, Ok K σ H Hk γ ∧ Dp K Hk v d ∧ tg d γ = some γ2 ∧ ∀ σ2, Go K σ H Hk γ σ2 H Hk γ2 → Q σ2 H
def EG (X : Cx) (e : Expr) (tg : Fg) : Prop := PG X e (tGt X.K tg)
abbrev Fgs := List D → En → Option En
def tGts (K : PySem.W.Frag) (tg : Fgs) : TGs := fun vs σ H Q => ∃ γ Hk ds γ2, Ok K σ H Hk γ ∧ DpAll K Hk vs ds ∧ tg ds γ = some γ2 ∧ ∀ σ2, Go K σ H Hk γ σ2 H Hk γ2 → Q σ2 H
def EGs (X : Cx) (es : List Expr) (tg : Fgs) : Prop := PGs X es (tGts X.K tg)
@[simp] def gDat (i : Nat) : Fg := fun d γ => if pinB γ i then none else some (γ.set i (some (.dat d)))
@[simp] def gsNo : Fgs := fun ds γ => match ds with
  | [] => some γ
  | _ => none
@[simp] def gsCons (tg : Fg) (tgs : Fgs) : Fgs := fun ds γ => match ds with
  | d :: r => match tg d γ with
    | some γ1 => tgs r γ1
    | none => none
  | [] => none
@[simp] def gTp (n : Nat) (tgs : Fgs) : Fg := fun d γ => match d with
  | .tuple ds => if ds.length = n then tgs ds γ else none
  | _ => none
section
variable {W : WX} {X : Cx} {e : Expr} {es : List Expr} {tg : Fg} {tgs : Fgs} {pos : Pos}
theorem PG.imp {e : Expr} {t t' : TG} (h : PG X e t) (i : ∀ v σ H Q, t' v σ H Q → t v σ H Q) : PG X e t' := ⟨fun pins s σ H v u Q I r q => h.run pins s σ H v u Q I r (i _ _ _ _ q)⟩
theorem PGs.imp {e : List Expr} {t t' : TGs} (h : PGs X e t) (i : ∀ v σ H Q, t' v σ H Q → t v σ H Q) : PGs X e t' := ⟨fun pins s σ H v u Q I r q => h.run pins s σ H v u Q I r (i _ _ _ _ q)⟩
theorem gDat_imp {K : PySem.W.Frag} {i : Nat} {v : V} {σ : L2.St} {H : Hp} {Q : L2.St → Hp → Prop} (h : tGt K (gDat i) v σ H Q) : gName i v σ H Q := by
  obtain ⟨γ, Hk, d, γ2, o, r, e, q⟩ := h
  unfold gDat at e
  split at e <;> cases e
  rename_i c
  exact q _ (o.setDat r (noPin_of o (by simpa using c)))
theorem eg_name (i : Nat) {x : Str} (hN : X.N.Nodup) (hi : X.N[i]? = some x) (hx : Loc X.env.scope x) (hf : X.fn x = true ∨ X.env.scope.names.lookup x = some .local := by first | exact .inl rfl | exact .inr rfl | assumption) : EG X (.Name x pos) (gDat i) :=
  PG.imp (pg_name hN hi hx hf) fun _ _ _ _ h => gDat_imp h
theorem egs_nil : EGs X [] gsNo := PGs.imp pgs_nil fun v σ H Q ⟨γ, Hk, ds, γ2, o, r, e, q⟩ => by
  unfold gsNo at e
  split at e <;> cases e
  cases r
  exact ⟨rfl, q σ (Go.refl o)⟩
theorem egs_cons (h1 : EG X e tg) (h2 : EGs X es tgs) (hs : (assignEach (e :: es) X.env).map (·.2) = assign e X.env :: (assignEach es X.env).map (·.2) := by rfl) : EGs X (e :: es) (gsCons tg tgs) :=
  PGs.imp (pgs_cons h1 h2 hs) fun v σ H Q ⟨γ, Hk, ds, γ2, o, r, e, q⟩ => by
  unfold gsCons at e
  split at e
  · rename_i d r'
    split at e
    · rename_i γ1 e1
      cases r with
      | cons ra rb => exact ⟨_, _, rfl, γ, Hk, d, γ1, o, ra, e1, fun σ1 g1 => ⟨γ1, Hk, r', γ2, g1.ok, rb, e, fun σ2 g2 => q σ2 (g1.trans g2)⟩⟩
    · cases e
  · cases e
theorem eg_tup (n : Nat) {k : Nat} (hc : X.calm = true) (h : EGs X es tgs) (hn : (assignEach es X.env).length = n := by rfl) (hst : (assignEach es X.env).findIdx? (·.1) = none := by rfl) : EG X (.Tuple es k pos) (gTp n tgs) :=
  PG.imp (pg_tup hc h hn hst) fun v σ H Q ⟨γ, Hk, d, γ2, o, r, e, q⟩ => by
  unfold gTp at e
  split at e
  · rename_i ds
    split at e
    · rename_i hl
      cases r with
      | tup hs ra => exact ⟨_, _, rfl, sqt_mono o.sub hs, by rw [dps_len ra]; exact hl, γ, Hk, ds, γ2, o, ra, e, q⟩
    · cases e
  · cases e
end

/-! ### statements -/
inductive Out where
  | nx (γ : En)
  | rt (d : D) (γ : En)
  | bk (γ : En)
  | ct (γ : En)
  | rs (c : Str) (fs : List (Str × D)) (γ : En)
  | ro (y : Pay) (γ : En)
/-- the fields of an exception -/
inductive FldsIs (K : PySem.W.Frag) (H : Hp) : List (Str × V) → List (Str × D) → Prop
  | nil : FldsIs K H [] []
  | cons {f : Str} {v : V} {d : D} {vs : List (Str × V)} {ds : List (Str × D)} : Dp K H v d → FldsIs K H vs ds → FldsIs K H ((f, v) :: vs) ((f, d) :: ds)
theorem FldsIs.mono {K : PySem.W.Frag} {H H' : Hp} (s : Same H H') : ∀ {vs : List (Str × V)} {ds : List (Str × D)}, FldsIs K H vs ds → FldsIs K H' vs ds
  | _, _, .nil => .nil
  | _, _, .cons h t => .cons (dp_mono s h) (t.mono s)
/-- an exception of the class c with these fields -/
def XcIs (K : PySem.W.Frag) (Hk : Hp) (cls : Value) (dd : Option Addr) (c : Str) (fs : List (Str × D)) : Prop := ∃ C a vs, cls = .ref C ∧ ClsIs K c C ∧ dd = some a ∧ Hk a = some (.xd vs) ∧ FldsIs K Hk vs fs
abbrev Fs := En → Option Out
def Fin (K : PySem.W.Frag) (W : WX) (Z : Ends) (σ : L2.St) (H Hk : Hp) (γ : En) : Out → Prop
  | .nx γ2 => ∀ σ2 H2 Hk2, Go K σ H Hk γ σ2 H2 Hk2 γ2 → Z.nx σ2 H2
  | .rt d γ2 => ∀ v σ2 H2 Hk2, Go K σ H Hk γ σ2 H2 Hk2 γ2 → Dp K Hk2 v d → Z.rt v H2
  | .bk γ2 => ∀ σ2 H2 Hk2, Go K σ H Hk γ σ2 H2 Hk2 γ2 → Z.bk σ2 H2
  | .ct γ2 => ∀ σ2 H2 Hk2, Go K σ H Hk γ σ2 H2 Hk2 γ2 → Z.ct σ2 H2
  | .rs c fs γ2 => ∀ σ2 H2 Hk2 cls dd, Go K σ H Hk γ σ2 H2 Hk2 γ2 → XcIs K Hk2 cls dd c fs → W cls dd σ2 H2
  | .ro y γ2 => ∀ v fp σ2 H2 Hk2, Go K σ H Hk γ σ2 H2 Hk2 γ2 → OwnV K H2 Hk2 v y fp → (∀ a ∈ fp, ¬ OwnA K σ2 H2 Hk2 γ2 a ∧ (H a = none ∨ OwnA K σ H Hk γ a)) → Z.rt v H2
def tS (K : PySem.W.Frag) (W : WX) (F : Fs) : TS := fun Z σ H => ∃ γ Hk o, Ok K σ H Hk γ ∧ F γ = some o ∧ Fin K W Z σ H Hk γ o
def ES (X : Cx) (W : WX) (s : Stmt) (F : Fs) : Prop := PS X s (tS X.K W F)
def ESs (X : Cx) (W : WX) (s : List Stmt) (F : Fs) : Prop := PSs X s (tS X.K W F)
theorem Go.older {K : PySem.W.Frag} {σ σ1 : L2.St} {H Hk H1 Hk1 : Hp} {γ γ1 : En} (g : Go K σ H Hk γ σ1 H1 Hk1 γ1) {a : Addr} (h : H1 a = none ∨ OwnA K σ1 H1 Hk1 γ1 a) : H a = none ∨ OwnA K σ H Hk γ a := by
  rcases h with h | h
  · by_cases ho : OwnA K σ H Hk γ a
    · exact .inr ho
    · cases e : H a with
      | none => exact .inl rfl
      | some u => have := g.kp a u e ho; rw [h] at this; cases this
  · rcases g.sh a h with z | z
    · exact .inr z
    · exact .inl z
theorem Fin.back {K : PySem.W.Frag} {W : WX} {Z : Ends} {σ σ1 : L2.St} {H Hk H1 Hk1 : Hp} {γ γ1 : En} (g : Go K σ H Hk γ σ1 H1 Hk1 γ1) : ∀ {o : Out}, Fin K W Z σ H Hk γ o → Fin K W Z σ1 H1 Hk1 γ1 o
  | .nx _, h => fun σ2 H2 Hk2 g2 => h σ2 H2 Hk2 (g.trans g2)
  | .rt _ _, h => fun v σ2 H2 Hk2 g2 => h v σ2 H2 Hk2 (g.trans g2)
  | .bk _, h => fun σ2 H2 Hk2 g2 => h σ2 H2 Hk2 (g.trans g2)
  | .ct _, h => fun σ2 H2 Hk2 g2 => h σ2 H2 Hk2 (g.trans g2)
  | .rs _ _ _, h => fun σ2 H2 Hk2 cls dd g2 => h σ2 H2 Hk2 cls dd (g.trans g2)
  | .ro _ _, h => fun v fp σ2 H2 Hk2 g2 r n => h v fp σ2 H2 Hk2 (g.trans g2) r fun a ha => ⟨(n a ha).1, g.older (n a ha).2⟩
@[simp] def sNil : Fs := fun γ => some (.nx γ)
@[simp] def sSeq (F G : Fs) : Fs := fun γ => match F γ with
  | some (.nx γ1) => G γ1
  | o => o
theorem seq_nx {F G : Fs} {γ γ1 : En} (h : F γ = some (.nx γ1)) : sSeq F G γ = G γ1 := by
  unfold sSeq
  rw [h]
theorem seq_rt {F G : Fs} {γ γ1 : En} {d : D} (h : F γ = some (.rt d γ1)) : sSeq F G γ = some (.rt d γ1) := by
  unfold sSeq
  rw [h]
@[simp] def sAsg (f : Fe) (tg : Fg) : Fs := fun γ => match f γ with
  | some (d, γ1) => match tg d γ1 with
    | some γ2 => some (.nx γ2)
    | none => none
  | none => none
@[simp] def sOwn (i : Nat) (fl : Fa) : Fs := fun γ => match fl γ with
  | some (ds, γ1) => if pinB γ1 i then none else some (.nx (γ1.set i (some (.own false ds))))
  | none => none
@[simp] def sSet (i : Nat) (f g : Fe) : Fs := fun γ => match f γ with
  | some (d, γ1) => match gt γ1 i with
    | some (.ow _ (.lst _)) => match g γ1 with
      | some (.int k, γ2) => match gt γ2 i with
        | some (.ow b (.lst ds)) => match ixN ds.length k with
          | some j => some (.nx (γ2.set i (some (.own b (ds.set j d)))))
          | none => none
        | _ => none
      | _ => none
    | _ => none
  | none => none
@[simp] def sApp (i : Nat) (f : Fe) : Fs := fun γ => match gt γ i with
  | some (.ow _ (.lst _)) => match f γ with
    | some (d, γ1) => match gt γ1 i with
      | some (.ow b (.lst ds)) => if okN ds.length then some (.nx (γ1.set i (some (.own b (ds ++ [d]))))) else none
      | _ => none
    | none => none
  | _ => none
@[simp] def sDrop (f : Fe) : Fs := fun γ => match f γ with
  | some (_, γ1) => some (.nx γ1)
  | none => none
@[simp] def sRet (f : Fe) : Fs := fun γ => match f γ with
  | some (d, γ1) => some (.rt d γ1)
  | none => none
@[simp] def sRetN : Fs := fun γ => some (.rt .none γ)
@[simp] def sBk : Fs := fun γ => some (.bk γ)
@[simp] def sCt : Fs := fun γ => some (.ct γ)
@[simp] def sIf (c : Ft) (F G : Fs) : Fs := fun γ => match c γ with
  | some (true, γ1) => F γ1
  | some (false, γ1) => G γ1
  | none => none
section
variable {W : WX} {X : Cx} {e a i' : Expr} {s : Stmt} {ss : List Stmt} {f g : Fe} {fl : Fa} {tg : Fg} {F G : Fs} {pos : Pos}
theorem ess_nil : ESs X W [] sNil := PSs.imp pss_nil fun Z σ H ⟨γ, Hk, o, k, e, q⟩ => by
  cases e
  exact q σ H Hk (Go.refl k)
theorem ess_cons (h : ES X W s F) (hs : ESs X W ss G) : ESs X W (s :: ss) (sSeq F G) := PSs.imp (pss_cons h hs) fun Z σ H ⟨γ, Hk, o, k, e, q⟩ => by
  unfold sSeq at e
  split at e
  · rename_i γ1 eF
    exact ⟨γ, Hk, _, k, eF, fun σ2 H2 Hk2 g2 => ⟨γ1, Hk2, o, g2.ok, e, q.back g2⟩⟩
  · rename_i o' hn
    refine ⟨γ, Hk, o, k, e, ?_⟩
    cases o with
    | nx γ1 => exact absurd e (hn γ1)
    | rt d γ1 => exact q
    | bk γ1 => exact q
    | ct γ1 => exact q
    | rs c fs γ1 => exact q
    | ro y γ1 => exact q
theorem ess_one (h : ES X W s F) : ESs X W [s] F := pss_one h
theorem es_pass : ES X W (.Pass pos) sNil := PS.imp ps_pass fun Z σ H ⟨γ, Hk, o, k, e, q⟩ => by
  cases e
  exact q σ H Hk (Go.refl k)
theorem es_break : ES X W (.Break pos) sBk := PS.imp ps_break fun Z σ H ⟨γ, Hk, o, k, e, q⟩ => by
  cases e
  exact q σ H Hk (Go.refl k)
theorem es_continue : ES X W (.Continue pos) sCt := PS.imp ps_continue fun Z σ H ⟨γ, Hk, o, k, e, q⟩ => by
  cases e
  exact q σ H Hk (Go.refl k)
theorem asg_imp {K : PySem.W.Frag} {Z : Ends} {σ : L2.St} {H : Hp} (h : tS K W (sAsg f tg) Z σ H) : tAsg (tI K f) (tGt K tg) Z σ H := by
  obtain ⟨γ, Hk, o, k, e, q⟩ := h
  unfold sAsg at e
  split at e
  · rename_i d γ1 ef
    split at e <;> cases e
    rename_i γ2 et
    exact ⟨γ, Hk, d, γ1, k, ef, fun v H1 Hk1 g1 r1 => ⟨γ1, Hk1, d, γ2, g1.ok, r1, et, fun σ2 g2 => q σ2 H1 Hk1 (g1.trans g2)⟩⟩
  · cases e
theorem es_asg (he : EV X e f) (hg : EG X a tg) (hs : swapsWithSole [a] e pos.line X.env = pure false := by rfl) (hw : swappedStores [a] e X.env = pure none := by rfl)
    (h1 : (assignEach [a] X.env).map (·.2) = [assign a X.env] := by rfl) : ES X W (.Assign [a] e pos) (sAsg f tg) := PS.imp (ps_asg he hg hs hw h1) fun _ _ _ h => asg_imp h
theorem es_set (i : Nat) {x : Str} {p' : Pos} (hN : X.N.Nodup) (hi : X.N[i]? = some x) (hx : Loc X.env.scope x) (he : EV X e f) (hs : swapsWith e (some (.Name x p')) pos.line X.env = pure false := by rfl) (hf : X.fn x = true ∨ X.env.scope.names.lookup x = some .local := by first | exact .inl rfl | exact .inr rfl | assumption) :
    ES X W (.Assign [.Name x p'] e pos) (sAsg f (gDat i)) := PS.imp (ps_set hN hi hx he hs hf) fun Z σ H h => by
  obtain ⟨γ, Hk, d, γ2, k, ef, q⟩ := asg_imp h
  exact ⟨γ, Hk, d, γ2, k, ef, fun v H1 Hk1 g1 r1 => gDat_imp (q v H1 Hk1 g1 r1)⟩
theorem own_imp {K : PySem.W.Frag} {i : Nat} {Z : Ends} {σ : L2.St} {H : Hp} (h : tS K W (sOwn i fl) Z σ H) : tAsg (tL K fl) (gName i) Z σ H := by
  obtain ⟨γ, Hk, o, k, e, q⟩ := h
  unfold sOwn at e
  split at e
  · rename_i ds γ1 ef
    split at e <;> cases e
    rename_i c
    exact ⟨γ, Hk, ds, γ1, k, ef, fun p vs H1 Hk1 g1 hp r1 => q _ _ _ (g1.trans (g1.ok.setOwn hp r1 (noPin_of g1.ok (by simpa using c))))⟩
  · cases e
theorem es_own (i : Nat) {x : Str} {p' : Pos} (hN : X.N.Nodup) (hi : X.N[i]? = some x) (hx : Loc X.env.scope x) (he : EL X e fl) (hs : swapsWith e (some (.Name x p')) pos.line X.env = pure false := by rfl) (hf : X.fn x = true ∨ X.env.scope.names.lookup x = some .local := by first | exact .inl rfl | exact .inr rfl | assumption) :
    ES X W (.Assign [.Name x p'] e pos) (sOwn i fl) := PS.imp (ps_set hN hi hx he hs hf) fun _ _ _ h => own_imp h
theorem es_item (i : Nat) {p' : Pos} (he : EV X e f) (ho : PE X a (tVar i)) (hi : EV X i' g)
    (ha : ∀ v, assign (.Subscript a i' p') X.env v = (do
      let ov ← holding [v] (eval a X.env)
      let iv ← holding [v, ov] (eval i' X.env)
      standAt p'
      holding [v, ov, iv] (setItem ov iv v)
      release [v, ov, iv] []) := by intro _; rfl)
    (hs : swapsWithSole [.Subscript a i' p'] e pos.line X.env = pure false := by rfl) (hw : swappedStores [.Subscript a i' p'] e X.env = pure none := by rfl)
    (h1 : (assignEach [.Subscript a i' p'] X.env).map (·.2) = [assign (.Subscript a i' p') X.env] := by rfl) : ES X W (.Assign [.Subscript a i' p'] e pos) (sSet i f g) :=
  PS.imp (ps_asg he (pg_sub ho hi set_list ha) hs hw h1) fun Z σ H ⟨γ, Hk, o, k, e, q⟩ => by
  unfold sSet at e
  split at e
  · rename_i d γ1 ef
    split at e
    · rename_i b0 ds0 e0
      split at e
      · rename_i kk γ2 eg
        split at e
        · rename_i b ds eo
          split at e <;> cases e
          rename_i j ej
          refine ⟨γ, Hk, d, γ1, k, ef, fun v H1 Hk1 g1 r1 => ?_⟩
          obtain ⟨p, vs0, e1, _⟩ := g1.ok.own i _ _ e0
          refine ⟨_, e1, γ1, Hk1, _, γ2, g1.ok, eg, fun w H2 Hk2 g2 r2 => ?_⟩
          cases r2
          obtain ⟨p', vs, e2, hp, _, ra⟩ := g2.ok.own i _ _ eo
          rw [e1] at e2; cases e2
          refine ⟨p, vs, kk, j, rfl, rfl, hp, by rw [dps_len ra]; exact ej, ?_⟩
          exact q _ _ _ ((g1.trans g2).trans (g2.ok.write eo e1 (dps_set j ra (dp_mono g2.kk r1))))
        · cases e
      · cases e
    · cases e
  · cases e
theorem es_app (i : Nat) {apos cpos : Pos} (ho : PE X a (tVar i)) (he : EV X e f)
    (hbase : attributeBase a "append" X.env (eval a X.env) = eval a X.env := by rfl)
    (hfew : ((backTo cpos (starEach [e] X.env)).all (fun x => !x.1) && (backToKw cpos (keywordEach [] X.env)).all (fun x => x.1.isSome)
      && decide ([e].length + ([] : List Keyword).length + (if ([] : List Keyword).isEmpty then 0 else 1) < 30)) = true := by rfl)
    (hline : (apos.endLine == cpos.line) = true := by rfl) (hs : starEach [e] X.env = (false, eval e X.env) :: starEach [] X.env := by rfl) (hplain : (backTo cpos (starEach [] X.env)).any (·.1) = false := by rfl)
    (hsw : swapsWith (.Call (.Attribute a "append" apos) [e] [] cpos) none pos.line X.env = pure false := by rfl) :
    ES X W (.Expr (.Call (.Attribute a "append" apos) [e] [] cpos) pos) (sApp i f) :=
  PS.imp (ps_expr (pe_bm PySem.F.plainAttrs_list PySem.F.slot_list_append PySem.F.type_list_append mt_append ho (pa_cons he pa_nil hs) hbase hfew hline hs hplain) hsw) fun Z σ H ⟨γ, Hk, o, k, e, q⟩ => by
  unfold sApp at e
  split at e
  · rename_i b0 ds0 e0
    split at e
    · rename_i d γ1 ef
      split at e
      · rename_i b ds eo
        split at e <;> cases e
        rename_i c
        obtain ⟨p, vs0, e1, hp0, _⟩ := k.own i _ _ e0
        refine ⟨_, e1, .inl ⟨rfl, _, SqL.of hp0⟩, γ, Hk, d, γ1, k, ef, fun v H1 Hk1 g1 r1 => ?_⟩
        obtain ⟨p', vs, e2, hp, _, ra⟩ := g1.ok.own i _ _ eo
        rw [e1] at e2; cases e2
        exact ⟨p, vs, v, rfl, rfl, hp, by rw [dps_len ra]; exact okN_lt c, q _ _ _ (g1.trans (g1.ok.write eo e1 (dps_app ra (.cons r1 .nil))))⟩
      · cases e
    · cases e
  · cases e
theorem es_expr (he : EV X e f) (hs : swapsWith e none pos.line X.env = pure false := by rfl) : ES X W (.Expr e pos) (sDrop f) := PS.imp (ps_expr he hs) fun Z σ H ⟨γ, Hk, o, k, e, q⟩ => by
  unfold sDrop at e
  split at e <;> cases e
  rename_i d γ1 ef
  exact ⟨γ, Hk, d, γ1, k, ef, fun v H1 Hk1 g1 r1 => q _ _ _ g1⟩
theorem es_ret (he : EV X e f) : ES X W (.Return (some e) pos) (sRet f) := PS.imp (ps_ret he) fun Z σ H ⟨γ, Hk, o, k, e, q⟩ => by
  unfold sRet at e
  split at e <;> cases e
  rename_i d γ1 ef
  exact ⟨γ, Hk, d, γ1, k, ef, fun v H1 Hk1 g1 r1 => q _ _ _ _ g1 r1⟩
theorem es_retN : ES X W (.Return none pos) sRetN := PS.imp ps_retN fun Z σ H ⟨γ, Hk, o, k, e, q⟩ => by
  cases e
  exact q _ _ _ _ (Go.refl k) .non
theorem es_if {c : Expr} {A B : List Stmt} {u : Ft} (hc : ET X c u) (ha : ESs X W A F) (hb : ESs X W B G) : ES X W (.If c A B pos) (sIf u F G) := PS.imp (ps_if hc ha hb) fun Z σ H ⟨γ, Hk, o, k, e, q⟩ => by
  unfold sIf at e
  split at e
  · rename_i γ1 ec
    exact ⟨γ, Hk, true, γ1, k, ec, fun H1 Hk1 g1 => iteT ⟨γ1, Hk1, o, g1.ok, e, q.back g1⟩⟩
  · rename_i γ1 ec
    exact ⟨γ, Hk, false, γ1, k, ec, fun H1 Hk1 g1 => iteF ⟨γ1, Hk1, o, g1.ok, e, q.back g1⟩⟩
  · cases e
/-- return x, x owned: the caller owns it then -/
@[simp] def sRetO (i : Nat) : Fs := fun γ => match gt γ i with
  | some (.ow false y) => some (.ro y (γ.set i none))
  | _ => none
theorem Ok.forget {K : PySem.W.Frag} {σ : L2.St} {H Hk : Hp} {γ : En} (k : Ok K σ H Hk γ) {i : Nat} {y : Pay} (h : gt γ i = some (.ow false y)) : ∃ v fp, σ[i]? = some (some v) ∧ OwnV K H Hk v y fp ∧ Go K σ H Hk γ σ H Hk (γ.set i none) ∧ ∀ a ∈ fp, ¬ OwnA K σ H Hk (γ.set i none) a ∧ OwnA K σ H Hk γ a := by
  obtain ⟨v, fp, e, r⟩ := k.ow i _ _ h
  have get : ∀ {j : Nat} {x : Ent}, gt (γ.set i none) j = some x → gt γ j = some x ∧ i ≠ j := fun {j x} q => by
    rw [gt_set] at q
    split at q
    · cases q
    · rename_i c; exact ⟨q, set_ne q c⟩
  refine ⟨v, fp, e, r, ⟨⟨by rw [List.length_set]; exact k.len, k.sub, fun j d q => k.dat j d (get q).1, fun j b z q => k.ow j b z (get q).1, fun j z q => k.pin j z (get q).1, fun j l b c y z v u fp fq ej el => k.sep _ _ _ _ _ _ _ _ _ _ (get ej).1 (get el).1, fun j t q => k.tab j t (get q).1⟩, Same.refl _, fun a u h n => (by rw [h] at n; cases n), fun _ _ h _ => h, fun a ⟨j, b, z, w, fr, q, qv, rr, m⟩ => .inl ⟨j, b, z, w, fr, (get q).1, qv, rr, m⟩, fun j z q => ⟨rfl, z, ?_⟩⟩, fun a ha => ⟨fun ⟨j, b, z, w, fr, q, qv, rr, m⟩ => ?_, ⟨i, _, _, v, fp, h, e, r, ha⟩⟩⟩
  · rw [gt_set, if_neg (fun c => by rw [← c.1, h] at q; cases q)]
    exact q
  · obtain ⟨q, ne⟩ := get q
    exact ne (k.sep _ _ _ _ _ _ _ _ _ _ h q e qv r rr a ha m)
theorem es_retO (i : Nat) (he : PE X e (tVar i)) : ES X W (.Return (some e) pos) (sRetO i) := PS.imp (ps_ret he) fun Z σ H ⟨γ, Hk, o, k, ee, q⟩ => by
  unfold sRetO at ee
  split at ee <;> cases ee
  rename_i y h
  obtain ⟨v, fp, ev, r, g, n⟩ := k.forget h
  exact ⟨v, ev, q v fp σ H Hk g r fun a ha => ⟨(n a ha).1, .inr (n a ha).2⟩⟩
end
end DN
namespace DN
open PySem PySem.Spec PyProof.Rows L2
/-! ### what is walked -/
/-- J hands on the data ds, one by one, as long as what lasts (Hk) lasts; what it makes on the way lasts -/
def Walks (K : PySem.W.Frag) (J : It) (ds : List D) (Hk : Hp) : Prop := ∀ H Hc, Same Hk Hc → Same Hc H → (∀ (i : Nat) (h : i < ds.length), J.go i H ∧ ∀ x H', J.yld i H x H' → ∃ Hc', Grow H Hc H' Hc' ∧ Dp K Hc' x ds[i]) ∧ ∀ (i : Nat), ds.length ≤ i → J.stop i H
def tIt (K : PySem.W.Frag) (src : Fa) : TI := fun σ H R => ∃ γ Hk ds γ2, Ok K σ H Hk γ ∧ src γ = some (ds, γ2) ∧ ∀ J H2 Hk2, Go K σ H Hk γ σ H2 Hk2 γ2 → Walks K J ds Hk2 → R J H2
def EI (X : Cx) (tg it : Expr) (src : Fa) : Prop := PI X tg it (tIt X.K src)
theorem PI.imp {X : Cx} {tg e : Expr} {t t' : TI} (h : PI X tg e t) (i : ∀ σ H Q, t' σ H Q → t σ H Q) : PI X tg e t' := ⟨fun pins s σ H Q I q => h.run pins s σ H Q I (i _ _ _ q)⟩
@[simp] def wOf (f : Fe) : Fa := fun γ => match f γ with
  | some (.list ds, γ1) => some (ds, γ1)
  | some (.tuple ds, γ1) => some (ds, γ1)
  | some (.str z, γ1) => some (z.cps.toList.map fun c => .str ⟨#[c]⟩, γ1)
  | _ => none
def rngD (lo : Int) (n : Nat) : List D := (List.range n).map fun (k : Nat) => .int (lo + (k : Int))
@[simp] def small62 (j : Int) : Bool := decide (-(2 ^ 62) ≤ j) && decide (j < 2 ^ 62)
@[simp] def wR1 (f : Fe) : Fa := fun γ => match f γ with
  | some (.int n, γ1) => if small62 n then some (rngD 0 n.toNat, γ1) else none
  | _ => none
@[simp] def wR2 (fa : Fa) : Fa := fun γ => match fa γ with
  | some ([.int m, .int n], γ1) => if small62 m && small62 n then some (rngD m (n - m).toNat, γ1) else none
  | _ => none
section
variable {W : WX} {X : Cx} {tg e a b : Expr} {f : Fe} {fa : Fa} {pos p : Pos} {K : PySem.W.Frag}
theorem walks_l {Hk : Hp} {q : Addr} {vs : List V} {ds : List D} (h : SqL K Hk q vs) (r : DpAll K Hk vs ds) : Walks K (Itl K q) ds Hk := fun H Hc s1 s2 => by
  have hh := sql_mono (s1.trans s2) h
  have hl := dps_len r
  refine ⟨fun i hi => ?_, fun i hi => ⟨vs, hh, by omega⟩⟩
  obtain ⟨v, ev, rv⟩ := dps_at r (List.getElem?_eq_getElem hi)
  refine ⟨⟨vs, v, hh, ev⟩, fun x H' y => ?_⟩
  obtain ⟨rfl, y⟩ := y
  have := y vs hh
  rw [ev] at this; cases this
  exact ⟨Hc, Grow.refl s2, dp_mono s1 rv⟩
theorem walks_t {Hk : Hp} {q : Addr} {vs : List V} {ds : List D} (h : SqT K Hk q vs) (r : DpAll K Hk vs ds) : Walks K (Itt K q) ds Hk := fun H Hc s1 s2 => by
  have hh := sqt_mono (s1.trans s2) h
  have hl := dps_len r
  refine ⟨fun i hi => ?_, fun i hi => ⟨vs, hh, by omega⟩⟩
  obtain ⟨v, ev, rv⟩ := dps_at r (List.getElem?_eq_getElem hi)
  refine ⟨⟨vs, v, hh, ev⟩, fun x H' y => ?_⟩
  obtain ⟨rfl, y⟩ := y
  have := y vs hh
  rw [ev] at this; cases this
  exact ⟨Hc, Grow.refl s2, dp_mono s1 rv⟩
theorem walks_r {Hk : Hp} {lo : Int} {n : Nat} : Walks K (Itr lo n) (rngD lo n) Hk := fun H Hc s1 s2 => by
  have hl : (rngD lo n).length = n := by simp [rngD]
  refine ⟨fun i hi => ?_, fun i hi => ?_⟩
  · rw [hl] at hi
    refine ⟨hi, fun x H' y => ?_⟩
    obtain ⟨rfl, rfl⟩ := y
    refine ⟨Hc, Grow.refl s2, ?_⟩
    have e : (rngD lo n)[i]'(by rw [hl]; exact hi) = .int (lo + (i : Int)) := by simp [rngD]
    rw [e]
    exact .int _
  · rw [hl] at hi
    exact hi
theorem dps_map {α : Type} {Hk : Hp} (g : α → V) (k : α → D) (h : ∀ a, Dp K Hk (g a) (k a)) : ∀ l : List α, DpAll K Hk (l.map g) (l.map k)
  | [] => .nil
  | a :: r => .cons (h a) (dps_map g k h r)
theorem walks_s {Hk : Hp} {z : Str} : Walks K (Its z) (z.cps.toList.map fun c => .str ⟨#[c]⟩) Hk := fun H Hc s1 s2 => by
  have hl : (z.cps.toList.map fun c => PyData.str ⟨#[c]⟩).length = z.cps.size := by simp
  refine ⟨fun i hi => ?_, fun i hi => ?_⟩
  · rw [hl] at hi
    refine ⟨hi, fun x H' y => ?_⟩
    obtain ⟨rfl, c, hc, rfl⟩ := y
    refine ⟨Hc, Grow.refl s2, ?_⟩
    have e1 : z.cps[i] = c := by
      rw [Array.getElem?_eq_getElem hi] at hc
      exact Option.some.inj hc
    rw [List.getElem_map, Array.getElem_toList, e1]
    exact .str _
  · rw [hl] at hi
    exact hi
theorem ei_seq (h : EV X e f) : EI X tg e (wOf f) := PI.imp (t := fun σ H R => iStr (tI X.K f) σ H R ∨ iList X.K (tI X.K f) σ H R ∨ iTup X.K (tI X.K f) σ H R)
    ⟨fun pins s σ H R I q => q.elim ((pi_str h).run pins s σ H R I) fun q => q.elim ((pi_list h).run pins s σ H R I) ((pi_tup h).run pins s σ H R I)⟩ fun σ H R ⟨γ, Hk, ds, γ2, o, ee, q⟩ => by
  unfold wOf at ee
  split at ee <;> cases ee
  · rename_i ef
    refine .inr <| .inl ⟨γ, Hk, _, _, o, ef, fun v H1 Hk1 g1 r1 => ?_⟩
    cases r1 with
    | lst hs ra => exact ⟨_, rfl, ⟨_, sql_mono g1.ok.sub hs⟩, q _ H1 Hk1 g1 (walks_l hs ra)⟩
  · rename_i ef
    refine .inr <| .inr ⟨γ, Hk, _, _, o, ef, fun v H1 Hk1 g1 r1 => ?_⟩
    cases r1 with
    | tup hs ra => exact ⟨_, rfl, ⟨_, sqt_mono g1.ok.sub hs⟩, q _ H1 Hk1 g1 (walks_t hs ra)⟩
  · rename_i ef
    refine .inl ⟨γ, Hk, _, _, o, ef, fun v H1 Hk1 g1 r1 => ?_⟩
    cases r1
    exact ⟨_, rfl, q _ H1 Hk1 g1 walks_s⟩
def zipD : D → D → Option (List D)
  | .list a, .list b => some (List.zipWith (fun x y => .tuple [x, y]) a b)
  | .tuple a, .tuple b => some (List.zipWith (fun x y => .tuple [x, y]) a b)
  | _, _ => none
@[simp] def wZip (fa : Fa) : Fa := fun γ => match fa γ with
  | some ([a, b], γ1) => match zipD a b with
    | some ds => some (ds, γ1)
    | none => none
  | _ => none
theorem zip_turn {xs ys : List V} {as bs : List D} {Hk H Hc : Hp} (ra : DpAll K Hk xs as) (rb : DpAll K Hk ys bs) (s1 : Same Hk Hc) (s2 : Same Hc H) {i : Nat} (hi : i < (List.zipWith (fun x y => PyData.tuple [x, y]) as bs).length) :
    ∃ x y, xs[i]? = some x ∧ ys[i]? = some y ∧ ∀ T, H T = none → ∃ Hc', Grow H Hc (upd H T (.tup [x, y])) Hc' ∧ Dp K Hc' (.ref T) ((List.zipWith (fun x y => PyData.tuple [x, y]) as bs)[i]) := by
  have hi' : i < as.length ∧ i < bs.length := by
    rw [List.length_zipWith] at hi
    omega
  obtain ⟨x, ex, rx⟩ := dps_at ra (List.getElem?_eq_getElem hi'.1)
  obtain ⟨y, ey, ry⟩ := dps_at rb (List.getElem?_eq_getElem hi'.2)
  refine ⟨x, y, ex, ey, fun T hT => ⟨upd Hc T (.tup [x, y]), Grow.new s2 hT, ?_⟩⟩
  have sm : Same Hc (upd Hc T (.tup [x, y])) := same_upd (s2.free hT)
  rw [List.getElem_zipWith]
  exact .tup (SqT.of upd_same) (.cons (dp_mono (s1.trans sm) rx) (.cons (dp_mono (s1.trans sm) ry) .nil))
theorem walks_zl {Hk : Hp} {p q : Addr} {xs ys : List V} {as bs : List D} (hx : SqL K Hk p xs) (hy : SqL K Hk q ys) (ra : DpAll K Hk xs as) (rb : DpAll K Hk ys bs) : Walks K (Itz K p q) (List.zipWith (fun x y => .tuple [x, y]) as bs) Hk := fun H Hc s1 s2 => by
  have h1 := sql_mono (s1.trans s2) hx
  have h2 := sql_mono (s1.trans s2) hy
  refine ⟨fun i hi => ?_, fun i hi => ?_⟩
  · obtain ⟨x, y, ex, ey, mk⟩ := zip_turn ra rb s1 s2 hi
    refine ⟨⟨xs, ys, x, y, h1, h2, ex, ey⟩, fun v H' yl => ?_⟩
    obtain ⟨T, x', y', rfl, hT, rfl, fx, fy⟩ := yl
    have e1 := fx xs h1
    have e2 := fy ys h2
    rw [ex] at e1; cases e1
    rw [ey] at e2; cases e2
    exact mk T hT
  · rw [List.length_zipWith, ← dps_len ra, ← dps_len rb] at hi
    exact ⟨xs, ys, h1, h2, by omega⟩
theorem walks_zt {Hk : Hp} {p q : Addr} {xs ys : List V} {as bs : List D} (hx : SqT K Hk p xs) (hy : SqT K Hk q ys) (ra : DpAll K Hk xs as) (rb : DpAll K Hk ys bs) : Walks K (RZ.ItzT K p q) (List.zipWith (fun x y => .tuple [x, y]) as bs) Hk := fun H Hc s1 s2 => by
  have h1 := sqt_mono (s1.trans s2) hx
  have h2 := sqt_mono (s1.trans s2) hy
  refine ⟨fun i hi => ?_, fun i hi => ?_⟩
  · obtain ⟨x, y, ex, ey, mk⟩ := zip_turn ra rb s1 s2 hi
    refine ⟨⟨xs, ys, x, y, h1, h2, ex, ey⟩, fun v H' yl => ?_⟩
    obtain ⟨T, x', y', rfl, hT, rfl, fx, fy⟩ := yl
    have e1 := fx xs h1
    have e2 := fy ys h2
    rw [ex] at e1; cases e1
    rw [ey] at e2; cases e2
    exact mk T hT
  · rw [List.length_zipWith, ← dps_len ra, ← dps_len rb] at hi
    exact ⟨xs, ys, h1, h2, by omega⟩
theorem ei_zip {es : List Expr} {kk : Nat} {tp : Pos} (hm : X.mg "zip" = none) (hg : Gl X "zip") (h : EA X [a, b] fa) (hs : starEach [a, b] X.env = (false, eval a X.env) :: starEach [b] X.env := by rfl) (hpl : (backTo pos (starEach [b] X.env)).any (·.1) = false := by rfl) :
    EI X (.Tuple es kk tp) (.Call (.Name "zip" p) [a, b] [] pos) (wZip fa) :=
  PI.imp (RZ.pi_zipA hg hm h hs hpl) fun σ H R ⟨γ, Hk, ds, γ2, o, ee, q⟩ => by
  unfold wZip at ee
  split at ee
  · rename_i da db γ1 ea
    split at ee <;> cases ee
    rename_i ez
    refine ⟨γ, Hk, [da, db], _, o, ea, fun vs H1 Hk1 g1 r1 => ?_⟩
    cases r1 with
    | cons ra rb =>
      cases rb with
      | cons rb rn =>
        cases rn
        unfold zipD at ez
        split at ez <;> cases ez
        · cases ra with
          | lst hx ra =>
            cases rb with
            | lst hy rb => exact ⟨_, _, _, _, rfl, .inl ⟨sql_mono g1.ok.sub hx, sql_mono g1.ok.sub hy, q _ H1 Hk1 g1 (walks_zl hx hy ra rb)⟩⟩
        · cases ra with
          | tup hx ra =>
            cases rb with
            | tup hy rb => exact ⟨_, _, _, _, rfl, .inr ⟨sqt_mono g1.ok.sub hx, sqt_mono g1.ok.sub hy, q _ H1 Hk1 g1 (walks_zt hx hy ra rb)⟩⟩
  · cases ee
theorem small_of {j : Int} (h : small62 j = true) : -(2 ^ 62) ≤ j ∧ j < 2 ^ 62 := by
  unfold small62 at h
  simpa using h
theorem ei_r1 (hm : X.mg "range" = none) (hg : Gl X "range") (h : EV X a f) (hs : starEach [a] X.env = [(false, eval a X.env)] := by rfl) : EI X tg (.Call (.Name "range" p) [a] [] pos) (wR1 f) :=
  PI.imp (pi_range1 hg hm (pa_cons h pa_nil hs) hs) fun σ H R ⟨γ, Hk, ds, γ2, o, ee, q⟩ => by
  unfold wR1 at ee
  split at ee
  · split at ee <;> cases ee
    rename_i c ef
    obtain ⟨c1, c2⟩ := small_of c
    refine ⟨γ, Hk, _, _, o, ef, fun v H1 Hk1 g1 r1 => ?_⟩
    cases r1
    exact ⟨_, rfl, c1, c2, q _ H1 Hk1 g1 walks_r⟩
  · cases ee
theorem ei_r2 (hm : X.mg "range" = none) (hg : Gl X "range") (h : EA X [a, b] fa) (hs : starEach [a, b] X.env = [(false, eval a X.env), (false, eval b X.env)] := by rfl) (hs2 : starEach [b] X.env = [(false, eval b X.env)] := by rfl) :
    EI X tg (.Call (.Name "range" p) [a, b] [] pos) (wR2 fa) :=
  PI.imp (pi_range2 hg hm h hs hs2) fun σ H R ⟨γ, Hk, ds, γ2, o, ee, q⟩ => by
  unfold wR2 at ee
  split at ee
  · split at ee <;> cases ee
    rename_i c ef
    rw [Bool.and_eq_true] at c
    obtain ⟨c1, c2⟩ := small_of c.1
    obtain ⟨c3, c4⟩ := small_of c.2
    refine ⟨γ, Hk, _, _, o, ef, fun v H1 Hk1 g1 r1 => ?_⟩
    cases r1 with
    | cons ra rb =>
      cases ra
      cases rb with
      | cons rc rd =>
        cases rc
        cases rd
        exact ⟨_, _, rfl, ⟨c1, c2, c3, c4⟩, q _ H1 Hk1 g1 walks_r⟩
  · cases ee
end
/-! ### for -/
def forF (tg : Fg) (body : Fs) : List D → En → Option Out
  | [], γ => some (.nx γ)
  | d :: ds, γ => match tg d γ with
    | some γ1 => match body γ1 with
      | some (.nx γ2) => forF tg body ds γ2
      | some (.ct γ2) => forF tg body ds γ2
      | some (.bk γ2) => some (.nx γ2)
      | some (.rt v γ2) => some (.rt v γ2)
      | some (.rs c fs γ2) => some (.rs c fs γ2)
      | some (.ro y γ2) => some (.ro y γ2)
      | none => none
    | none => none
theorem forF_nx {tg : Fg} {body : Fs} {d : D} {ds : List D} {γ γ1 γ2 : En} (h1 : tg d γ = some γ1) (h2 : body γ1 = some (.nx γ2)) : forF tg body (d :: ds) γ = forF tg body ds γ2 := by
  simp only [forF, h1, h2]
theorem forF_rt {tg : Fg} {body : Fs} {d v : D} {ds : List D} {γ γ1 γ2 : En} (h1 : tg d γ = some γ1) (h2 : body γ1 = some (.rt v γ2)) : forF tg body (d :: ds) γ = some (.rt v γ2) := by
  simp only [forF, h1, h2]
@[simp] def sFor (src : Fa) (tg : Fg) (body : Fs) : Fs := fun γ => match src γ with
  | some (ds, γ1) => forF tg body ds γ1
  | none => none
theorem es_for {X : Cx} {t it : Expr} {ss : List Stmt} {src : Fa} {tg : Fg} {body : Fs} {pos : Pos} (hp : PassesOwn (model X.prog X.w) X.A X.env X.xe) (hc : X.calm = true) (hi : EI X t it src) (hg : EG X t tg) (hb : ESs X W ss body)
    (hs : ∀ x, foldedSetIterable it X.env x = pure x := by intro _; rfl) : ES X W (.For t it ss [] pos) (sFor src tg body) := PS.imp (ps_for hp hc hi hg hb hs) fun Z σ H ⟨γ, Hk, out, k, e, q⟩ => by
  unfold sFor at e
  split at e
  · rename_i ds γ1 es
    refine ⟨γ, Hk, ds, γ1, k, es, fun J H1 Hk1 g1 wk => ?_⟩
    let W : Nat → Nat → L2.St → Hp → Prop := fun i m σ' H' => m = ds.length - i ∧ i ≤ ds.length ∧ ∃ γ' Hk', Go X.K σ H Hk γ σ' H' Hk' γ' ∧ Same Hk1 Hk' ∧ forF tg body (ds.drop i) γ' = some out
    refine ⟨W, ⟨ds.length, by simp, Nat.zero_le _, γ1, Hk1, g1, Same.refl _, by simpa using e⟩, ?_⟩
    rintro i m σ' H' ⟨rfl, hi, γ', Hk', g, sk, ef⟩
    obtain ⟨w1, w2⟩ := wk H' Hk' sk g.ok.sub
    by_cases hlt : i < ds.length
    · obtain ⟨go, yl⟩ := w1 i hlt
      rw [List.drop_eq_getElem_cons hlt] at ef
      unfold forF at ef
      split at ef
      · rename_i γ2 et
        have next : ∀ {γ3 : En} {σ3 : L2.St} {H3 Hk3 : Hp}, Go X.K σ' H' Hk' γ' σ3 H3 Hk3 γ3 → forF tg body (ds.drop (i + 1)) γ3 = some out → W (i + 1) (ds.length - (i + 1)) σ3 H3 := fun g3 e3 => ⟨rfl, hlt, _, _, g.trans g3, sk.trans g3.kk, e3⟩
        refine .inr ⟨go, W (i + 1) (ds.length - (i + 1)), fun σ3 H3 w => ⟨_, by omega, w⟩, fun x H'' y => ?_⟩
        obtain ⟨Hc, gr, rv⟩ := yl x H'' y
        have gy := g.ok.go gr
        refine ⟨γ', Hc, ds[i], γ2, gy.ok, rv, et, fun σ2 g2' => ?_⟩
        have g2 := gy.trans g2'
        split at ef
        · rename_i γ3 eb
          exact ⟨γ2, Hc, _, g2.ok, eb, fun σ3 H3 Hk3 g3 => next (g2.trans g3) ef⟩
        · rename_i γ3 eb
          exact ⟨γ2, Hc, _, g2.ok, eb, fun σ3 H3 Hk3 g3 => next (g2.trans g3) ef⟩
        · rename_i γ3 eb
          cases ef
          exact ⟨γ2, Hc, _, g2.ok, eb, fun σ3 H3 Hk3 g3 => q _ _ _ ((g.trans g2).trans g3)⟩
        · rename_i v γ3 eb
          cases ef
          exact ⟨γ2, Hc, _, g2.ok, eb, fun w σ3 H3 Hk3 g3 r3 => q _ _ _ _ ((g.trans g2).trans g3) r3⟩
        · rename_i c fs γ3 eb
          cases ef
          exact ⟨γ2, Hc, _, g2.ok, eb, fun σ3 H3 Hk3 cls dd g3 r3 => q _ _ _ _ _ ((g.trans g2).trans g3) r3⟩
        · rename_i y γ3 eb
          cases ef
          exact ⟨γ2, Hc, _, g2.ok, eb, fun v fp σ3 H3 Hk3 g3 r3 n => q _ _ _ _ _ ((g.trans g2).trans g3) r3 fun a ha => ⟨(n a ha).1, (g.trans g2).older (n a ha).2⟩⟩
        · cases ef
      · cases ef
    · have e0 : i = ds.length := by omega
      subst e0
      rw [List.drop_length] at ef
      cases ef
      exact .inl ⟨w2 _ (Nat.le_refl _), q _ _ _ g⟩
  · cases e
/-! ### while -/
def whileF (c : Ft) (body : Fs) : Nat → En → Option Out
  | 0, _ => none
  | n + 1, γ => match c γ with
    | some (true, γ1) => match body γ1 with
      | some (.nx γ2) => whileF c body n γ2
      | some (.ct γ2) => whileF c body n γ2
      | some (.bk γ2) => some (.nx γ2)
      | some (.rt v γ2) => some (.rt v γ2)
      | some (.rs c fs γ2) => some (.rs c fs γ2)
      | some (.ro y γ2) => some (.ro y γ2)
      | none => none
    | some (false, γ1) => some (.nx γ1)
    | none => none
theorem es_while (n : Nat) {X : Cx} {c : Expr} {ss : List Stmt} {u : Ft} {body : Fs} {pos : Pos} (hp : PassesOwn (model X.prog X.w) X.A X.env X.xe) (hc : ET X c u) (hb : ESs X W ss body) : ES X W (.While c ss [] pos) (whileF u body n) := PS.imp (ps_while hp hc hb) fun Z σ H ⟨γ, Hk, out, k, e, q⟩ => by
  let W : Nat → L2.St → Hp → Prop := fun m σ' H' => ∃ γ' Hk', Go X.K σ H Hk γ σ' H' Hk' γ' ∧ whileF u body m γ' = some out
  refine ⟨W, ⟨n, γ, Hk, Go.refl k, e⟩, ?_⟩
  rintro m σ' H' ⟨γ', Hk', g, ef⟩
  cases m with
  | zero => cases ef
  | succ m =>
    unfold whileF at ef
    split at ef
    · rename_i γ1 ec
      refine ⟨γ', Hk', true, γ1, g.ok, ec, fun H1 Hk1 g1 => iteT ⟨W m, fun σ3 H3 w => ⟨m, Nat.lt_succ_self _, w⟩, ?_⟩⟩
      split at ef
      · rename_i γ3 eb
        exact ⟨γ1, Hk1, _, g1.ok, eb, fun σ3 H3 Hk3 g3 => ⟨γ3, Hk3, (g.trans g1).trans g3, ef⟩⟩
      · rename_i γ3 eb
        exact ⟨γ1, Hk1, _, g1.ok, eb, fun σ3 H3 Hk3 g3 => ⟨γ3, Hk3, (g.trans g1).trans g3, ef⟩⟩
      · rename_i γ3 eb
        cases ef
        exact ⟨γ1, Hk1, _, g1.ok, eb, fun σ3 H3 Hk3 g3 => q _ _ _ ((g.trans g1).trans g3)⟩
      · rename_i v γ3 eb
        cases ef
        exact ⟨γ1, Hk1, _, g1.ok, eb, fun w σ3 H3 Hk3 g3 r3 => q _ _ _ _ ((g.trans g1).trans g3) r3⟩
      · rename_i c fs γ3 eb
        cases ef
        exact ⟨γ1, Hk1, _, g1.ok, eb, fun σ3 H3 Hk3 cls dd g3 r3 => q _ _ _ _ _ ((g.trans g1).trans g3) r3⟩
      · rename_i y γ3 eb
        cases ef
        exact ⟨γ1, Hk1, _, g1.ok, eb, fun v fp σ3 H3 Hk3 g3 r3 n => q _ _ _ _ _ ((g.trans g1).trans g3) r3 fun a ha => ⟨(n a ha).1, (g.trans g1).older (n a ha).2⟩⟩
      · cases ef
    · rename_i γ1 ec
      cases ef
      exact ⟨γ', Hk', false, γ1, g.ok, ec, fun H1 Hk1 g1 => iteF (q _ _ _ (g.trans g1))⟩
    · cases ef

/-! ### list comprehensions -/
@[simp] def ownB (γ : En) (i : Nat) : Bool := match gt γ i with
  | some (.ow _ _) => true
  | _ => false
theorem noOwn_of {γ : En} {i : Nat} (h : ownB γ i = false) : ∀ b ds, gt γ i ≠ some (.ow b ds) := fun b ds e => by
  unfold ownB at h
  rw [e] at h
  cases h
@[simp] def wipeE (γ : En) : List Nat → En
  | [] => γ
  | v :: vs => (wipeE γ vs).set v none
@[simp] def noOwns (γ : En) : List Nat → Bool
  | [] => true
  | v :: vs => !ownB γ v && noOwns γ vs
@[simp] def putBack (γ0 γ : En) : List Nat → En
  | [] => γ
  | v :: vs => putBack γ0 (γ.set v (gt (wipeE γ0 vs) v)) vs
def lcF (js : List Nat) (tg : Fg) (tt : Ft) (elt : Fe) : List D → En → List D → Option (List D × En)
  | [], γ, acc => some (acc, γ)
  | d :: ds, γ, acc => match tg d γ with
    | some γ0 => match tt γ0 with
      | some (true, γ1) => match elt γ1 with
        | some (y, γ2) => if okN acc.length && noOwns γ2 js then lcF js tg tt elt ds (wipeE γ2 js) (acc ++ [y]) else none
        | none => none
      | some (false, γ1) => if noOwns γ1 js then lcF js tg tt elt ds (wipeE γ1 js) acc else none
      | none => none
    | none => none
@[simp] def lLc (js : List Nat) (tg : Fg) (src : Fa) (tt : Ft) (elt : Fe) : Fa := fun γ => match src γ with
  | some (ds, γ1) => if noOwns γ1 js then match lcF js tg tt elt ds (wipeE γ1 js) [] with
    | some (out, γ2) => some (out, putBack γ1 γ2 js)
    | none => none
    else none
  | none => none
@[simp] def tYe : Ft := fun γ => some (true, γ)
theorem ets_nil {X : Cx} : PTs X [] (tT X.K tYe) := ⟨fun pins s σ H Q I ⟨γ, Hk, b, γ2, o, e, q⟩ => pts_nil.run pins s σ H Q I (by cases e; exact q H Hk (Go.refl o))⟩
theorem ets_one {X : Cx} {c : Expr} {u : Ft} (h : ET X c u) : PTs X [c] (tT X.K u) := pts_one h
/-- what holds within and behind the block at the comprehension's own slot -/
theorem gt_none (γ : En) (j : Nat) : gt (γ.set j none) j = none := by
  rw [gt_set]
  split
  · rfl
  · rename_i c
    cases h : gt γ j with
    | none => rfl
    | some e => exact absurd ⟨rfl, gt_lt h⟩ c
theorem Ok.restore {K : PySem.W.Frag} {σ : L2.St} {H Hk H2 Hk2 : Hp} {γ γ2 : En} {j : Nat} (o : Ok K σ H Hk γ) (g : Go K (σ.set j none) H Hk (γ.set j none) (σ.set j none) H2 Hk2 γ2) (no : ownB γ j = false) (e2 : gt γ2 j = none) :
    Go K σ H Hk γ σ H2 Hk2 (γ2.set j (gt γ j)) := by
  have hlen : γ2.length = γ.length := by
    have := g.ok.len
    rw [List.length_set] at this
    exact this.symm.trans o.len
  have nj := noOwn_of no
  have ow : ∀ a, OwnA K (σ.set j none) H Hk (γ.set j none) a → OwnA K σ H Hk γ a := fun a ⟨i, b, y, v, fp, e, h, r, m⟩ => by
    rw [gt_set] at e
    split at e
    · cases e
    · rename_i c
      have hij : j ≠ i := fun z => c ⟨z, by rw [z]; exact gt_lt e⟩
      rw [set_there hij] at h
      exact ⟨i, b, y, v, fp, e, h, r, m⟩
  have at2 : ∀ {i : Nat} {e : Ent}, gt (γ2.set j (gt γ j)) i = some e → (j = i ∧ gt γ j = some e) ∨ (j ≠ i ∧ gt γ2 i = some e) := fun {i e} h => by
    rw [gt_set] at h
    split at h
    · rename_i c; exact .inl ⟨c.1, h⟩
    · rename_i c
      refine .inr ⟨fun z => c ⟨z, by rw [z]; exact gt_lt h⟩, h⟩
  have at3 : ∀ {i : Nat} {b : Bool} {y : Pay}, gt (γ2.set j (gt γ j)) i = some (.ow b y) → j ≠ i ∧ gt γ2 i = some (.ow b y) := fun {i b y} h => by
    rcases at2 h with ⟨rfl, e⟩ | r
    · exact absurd e (nj b y)
    · exact r
  refine ⟨⟨by rw [List.length_set, hlen]; exact o.len, g.ok.sub, fun i d h => ?_, fun i b y h => ?_, fun i y h => g.ok.pin _ _ (at3 h).2, fun i k b c y z v u fp fq hi hk vi vk ri rk a mi mk => ?_, fun i kvs h => ?_⟩, g.kk, fun a u h n => ?_, fun a u h n => g.kp a u h fun z => n (ow a z), fun a h => ?_, fun i y h => ?_⟩
  · rcases at2 h with ⟨rfl, e⟩ | ⟨hij, e⟩
    · obtain ⟨v, e1, r⟩ := o.dat _ d e
      exact ⟨v, e1, dp_mono g.kk r⟩
    · obtain ⟨v, e1, r⟩ := g.ok.dat i d e
      rw [set_there hij] at e1
      exact ⟨v, e1, r⟩
  · obtain ⟨hij, e⟩ := at3 h
    obtain ⟨v, fp, e1, r⟩ := g.ok.ow i b y e
    rw [set_there hij] at e1
    exact ⟨v, fp, e1, r⟩
  · obtain ⟨hij, e⟩ := at3 hi
    obtain ⟨hkj, e'⟩ := at3 hk
    exact g.ok.sep i k b c y z v u fp fq e e' (by rw [set_there hij]; exact vi) (by rw [set_there hkj]; exact vk) ri rk a mi mk
  · rcases at2 h with ⟨rfl, e⟩ | ⟨hij, e⟩
    · obtain ⟨v, e1, r⟩ := o.tab _ kvs e
      exact ⟨v, e1, r.mono g.kk⟩
    · obtain ⟨v, e1, r⟩ := g.ok.tab i kvs e
      rw [set_there hij] at e1
      exact ⟨v, e1, r⟩
  · rcases g.nw a u h n with z | z
    · exact .inl z
    · exact .inr (ow a z)
  · obtain ⟨i, b, y, v, fp, e, h1, r, m⟩ := h
    obtain ⟨hij, e'⟩ := at3 e
    rcases g.sh a ⟨i, b, y, v, fp, e', by rw [set_there hij]; exact h1, r, m⟩ with z | z
    · exact .inl (ow a z)
    · exact .inr z
  · have hij : j ≠ i := fun z => nj true y (by rw [z]; exact h)
    obtain ⟨_, es, e'⟩ := g.pn i y (by rw [gt_set, if_neg (fun c => hij c.1)]; exact h)
    exact ⟨rfl, es, by rw [gt_set, if_neg (fun c => hij c.1)]; exact e'⟩
theorem gt_wipe (γ : En) : ∀ (js : List Nat) (j : Nat), gt (wipeE γ js) j = none ∨ gt (wipeE γ js) j = gt γ j
  | [], _ => .inr rfl
  | v :: vs, j => by
    show gt ((wipeE γ vs).set v none) j = none ∨ gt ((wipeE γ vs).set v none) j = gt γ j
    rw [gt_set]
    split
    · exact .inl rfl
    · exact gt_wipe γ vs j
theorem gt_wipe_in (γ : En) : ∀ {js : List Nat} {j : Nat}, j ∈ js → gt (wipeE γ js) j = none
  | v :: vs, j, h => by
    show gt ((wipeE γ vs).set v none) j = none
    rw [gt_set]
    split
    · rfl
    · rename_i c
      rcases List.mem_cons.mp h with e | h
      · subst e
        cases q : gt (wipeE γ vs) j with
        | none => rfl
        | some e => exact absurd ⟨rfl, gt_lt q⟩ c
      · exact gt_wipe_in γ h
theorem own_wipe {γ : En} {js : List Nat} {v : Nat} (h : ownB γ v = false) : ownB (wipeE γ js) v = false := by
  unfold ownB at h ⊢
  rcases gt_wipe γ js v with e | e
  · rw [e]
  · rw [e]; exact h
theorem dropAll {K : PySem.W.Frag} {σ : L2.St} {H Hk : Hp} {γ : En} (o : Ok K σ H Hk γ) : ∀ js : List Nat, noOwns γ js = true → Go K σ H Hk γ (wipe σ js) H Hk (wipeE γ js)
  | [], _ => Go.refl o
  | v :: vs, h => by
    simp only [noOwns, Bool.and_eq_true, Bool.not_eq_true'] at h
    have g := dropAll o vs h.2
    exact g.trans (g.ok.drop (noOwn_of (own_wipe h.1)))
theorem restoreAll {K : PySem.W.Frag} {σ : L2.St} {H Hk H2 Hk2 : Hp} {γ : En} (o : Ok K σ H Hk γ) : ∀ (js : List Nat) (γ2 : En), noOwns γ js = true → Go K (wipe σ js) H Hk (wipeE γ js) (wipe σ js) H2 Hk2 γ2 → (∀ j ∈ js, gt γ2 j = none) → Go K σ H Hk γ σ H2 Hk2 (putBack γ γ2 js)
  | [], _, _, g, _ => g
  | v :: vs, γ2, h, g, n => by
    simp only [noOwns, Bool.and_eq_true, Bool.not_eq_true'] at h
    have gd := dropAll o vs h.2
    have gr := gd.ok.restore g (own_wipe h.1) (n v (by simp))
    refine restoreAll o vs _ h.2 gr fun j hj => ?_
    rw [gt_set]
    split
    · rename_i c
      rw [c.1]
      exact gt_wipe_in γ hj
    · exact n j (by simp [hj])
theorem wipe_wipe (σ : L2.St) : ∀ js : List Nat, wipe (wipe σ js) js = wipe σ js := by
  have at1 : ∀ (τ : L2.St) (js : List Nat) (i : Nat), (wipe τ js)[i]? = if i ∈ js ∧ i < τ.length then some none else τ[i]? := by
    intro τ js
    induction js with
    | nil => intro i; simp [wipe]
    | cons v vs ih =>
      intro i
      show ((wipe τ vs).set v none)[i]? = _
      rw [List.getElem?_set, ih, wipe_length]
      by_cases e : v = i
      · subst e
        by_cases l : v < τ.length
        · simp [l]
        · simp [l]
      · have e' : ¬ i = v := fun z => e z.symm
        simp [e, e']
  intro js
  apply List.ext_getElem?
  intro i
  rw [at1, wipe_length, at1]
  split <;> rfl
/-- what a target does, by data, and that it stores at js alone -/
def TgOk (K : PySem.W.Frag) (g : TG) (tg : Fg) (js : List Nat) : Prop := ∀ v d σ H Hk γ γ2 (Q : L2.St → Hp → Prop), Ok K σ H Hk γ → Dp K Hk v d → tg d γ = some γ2 → (∀ σ2, Go K σ H Hk γ σ2 H Hk γ2 → wipe σ2 js = wipe σ js → Q σ2 H) → g v σ H Q
theorem tg_name {K : PySem.W.Frag} (j : Nat) : TgOk K (gName j) (gDat j) [j] := by
  intro v d σ H Hk γ γ2 Q o r e q
  unfold gDat at e
  split at e <;> cases e
  rename_i c
  refine q _ (o.setDat r (noPin_of o (by simpa using c))) ?_
  show (σ.set j (some v)).set j none = σ.set j none
  rw [List.set_set]
theorem tg_pair {K : PySem.W.Frag} (i j : Nat) : TgOk K (gTup K 2 (gCons (gName i) (gCons (gName j) gNil))) (gTp 2 (gsCons (gDat i) (gsCons (gDat j) gsNo))) [i, j] := by
  intro v d σ H Hk γ γ2 Q o r e q
  unfold gTp at e
  split at e
  · rename_i ds
    split at e
    · match ds, r, e with
      | [d1, d2], r, e =>
        cases r with
        | tup hs ra =>
          cases ra with
          | cons r1 ra =>
            cases ra with
            | cons r2 ra =>
              cases ra
              simp only [gsCons, gsNo] at e
              unfold gDat at e
              split at e
              · rename_i γa ea
                split at ea <;> cases ea
                rename_i c1
                split at e
                · rename_i γb eb
                  split at eb <;> cases eb
                  rename_i c2
                  cases e
                  have g1 := o.setDat r1 (noPin_of o (by simpa using c1))
                  have g2 := g1.ok.setDat r2 (noPin_of g1.ok (by simpa using c2))
                  refine ⟨_, _, rfl, sqt_mono o.sub hs, rfl, _, _, rfl, _, _, rfl, rfl, q _ (g1.trans g2) ?_⟩
                  show ((((σ.set i _).set j _).set j none).set i none) = (σ.set j none).set i none
                  apply List.ext_getElem?
                  intro k
                  simp only [List.getElem?_set, List.length_set]
                  by_cases h1 : i = k <;> by_cases h2 : j = k <;> simp [h1, h2]
                · cases e
              · cases e
    · cases e
  · cases e
/-- a new object beside the situation -/
theorem OwnV.off {K : PySem.W.Frag} {H Hk : Hp} {p : Addr} {o : HO} {v : V} {y : Pay} {fp : List Addr} (r : OwnV K H Hk v y fp) (n : p ∉ fp) : OwnV K (upd H p o) Hk v y fp :=
  r.to (Same.refl _) (fun a ha u e => by rw [upd_ne (fun z => n (by rw [← z]; exact ha))]; exact e) fun a ha => (r.at a ha).2
theorem OwnV.offBack {K : PySem.W.Frag} {H Hk : Hp} {p : Addr} {o : HO} {v : V} {y : Pay} {fp : List Addr} (r : OwnV K (upd H p o) Hk v y fp) (n : p ∉ fp) : OwnV K H Hk v y fp :=
  r.to (Same.refl _) (fun a ha u e => by rw [upd_ne (fun z => n (by rw [← z]; exact ha))] at e; exact e) fun a ha => (r.at a ha).2
/-- what is owned beside a thing that is not -/
theorem Ok.offA {K : PySem.W.Frag} {σ : L2.St} {H Hk : Hp} {γ : En} {p : Addr} {o : HO} (k : Ok K σ H Hk γ) (no : ¬ OwnA K σ H Hk γ p) {a : Addr} : OwnA K σ (upd H p o) Hk γ a ↔ OwnA K σ H Hk γ a := by
  constructor
  · rintro ⟨i, b, y, v, fp, e, h, r, m⟩
    obtain ⟨v', fp', e1, r1⟩ := k.ow i b y e
    rw [h] at e1; cases e1
    have n : p ∉ fp' := fun z => no ⟨i, b, y, v, fp', e, h, r1, z⟩
    exact ⟨i, b, y, v, fp', e, h, r1, by rw [← r.det (r1.off n)]; exact m⟩
  · rintro ⟨i, b, y, v, fp, e, h, r, m⟩
    exact ⟨i, b, y, v, fp, e, h, r.off fun z => no ⟨i, b, y, v, fp, e, h, r, z⟩, m⟩
theorem Ok.offS {K : PySem.W.Frag} {σ : L2.St} {H Hk : Hp} {γ : En} {p : Addr} {o : HO} (k : Ok K σ H Hk γ) (hk : Hk p = none) (no : ¬ OwnA K σ H Hk γ p) : Ok K σ (upd H p o) Hk γ := by
  have bk : ∀ {i b y v fp}, gt γ i = some (.ow b y) → σ[i]? = some (some v) → OwnV K (upd H p o) Hk v y fp → OwnV K H Hk v y fp := fun {i b y v fp} e h r => by
    obtain ⟨v', fp', e1, r1⟩ := k.ow i b y e
    rw [h] at e1; cases e1
    rw [r.det (r1.off fun z => no ⟨i, b, y, v, fp', e, h, r1, z⟩)]
    exact r1
  refine ⟨k.len, fun a u e => ?_, k.dat, fun i b y e => ?_, k.pin, fun i j b c y z v u fp fq ei ej vi vj ri rj a mi mj => k.sep i j b c y z v u fp fq ei ej vi vj (bk ei vi ri) (bk ej vj rj) a mi mj, k.tab⟩
  · have : a ≠ p := fun z => by rw [z, hk] at e; cases e
    rw [upd_ne this]
    exact k.sub a u e
  · obtain ⟨v, fp, e1, r⟩ := k.ow i b y e
    exact ⟨v, fp, e1, r.off fun z => no ⟨i, b, y, v, fp, e, e1, r, z⟩⟩
theorem Go.beside {K : PySem.W.Frag} {σ σ2 : L2.St} {H Hk H2 Hk2 : Hp} {γ γ2 : En} {p : Addr} {o o2 : HO} (k : Ok K σ H Hk γ) (hp : H p = none) (g : Go K σ (upd H p o) Hk γ σ2 (upd H2 p o2) Hk2 γ2) (h2 : H2 p = none) (hk2 : Hk2 p = none) (no2 : ¬ OwnA K σ2 (upd H2 p o2) Hk2 γ2 p) : Go K σ H Hk γ σ2 H2 Hk2 γ2 := by
  have nown : ¬ OwnA K σ H Hk γ p := fun h => by
    obtain ⟨⟨u, hu⟩, _⟩ := h.at
    rw [hp] at hu; cases hu
  have un : upd (upd H2 p o2) p o2 = upd H2 p o2 := upd_upd
  have b2 : ∀ {i b y v fp}, gt γ2 i = some (.ow b y) → σ2[i]? = some (some v) → OwnV K (upd H2 p o2) Hk2 v y fp → OwnV K H2 Hk2 v y fp := fun {i b y v fp} e h r => r.offBack fun z => no2 ⟨i, b, y, v, fp, e, h, r, z⟩
  have f2 : ∀ {i b y v fp}, gt γ2 i = some (.ow b y) → σ2[i]? = some (some v) → OwnV K H2 Hk2 v y fp → OwnV K (upd H2 p o2) Hk2 v y fp := fun {i b y v fp} e h r => r.off fun z => by
    obtain ⟨⟨u, hu⟩, _⟩ := r.at p z
    rw [h2] at hu; cases hu
  refine ⟨⟨g.ok.len, fun a u e => ?_, g.ok.dat, fun i b y e => ?_, g.ok.pin, fun i j b c y z v u fp fq ei ej vi vj ri rj a mi mj => g.ok.sep i j b c y z v u fp fq ei ej vi vj (f2 ei vi ri) (f2 ej vj rj) a mi mj, g.ok.tab⟩, g.kk, fun a u e n => ?_, fun a u e n => ?_, fun a e => ?_, g.pn⟩
  · have := g.ok.sub a u e
    by_cases ha : a = p
    · subst ha; rw [hk2] at e; cases e
    · rw [upd_ne ha] at this; exact this
  · obtain ⟨v, fp, e1, r⟩ := g.ok.ow i b y e
    exact ⟨v, fp, e1, b2 e e1 r⟩
  · rcases g.nw a u e n with z | z
    · by_cases ha : a = p
      · subst ha; rw [upd_same] at z; cases z
      · rw [upd_ne ha] at z; exact .inl z
    · exact .inr ((k.offA nown).mp z)
  · have ha : a ≠ p := ne_of_none e hp
    have := g.kp a u (by rw [upd_ne ha]; exact e) fun z => n ((k.offA nown).mp z)
    rw [upd_ne ha] at this; exact this
  · obtain ⟨i, b, y, v, fp, e1, e2, r, m⟩ := e
    rcases g.sh a ⟨i, b, y, v, fp, e1, e2, f2 e1 e2 r, m⟩ with z | z
    · exact .inl ((k.offA nown).mp z)
    · by_cases ha : a = p
      · subst ha; exact .inr hp
      · rw [upd_ne ha] at z; exact .inr z
mutual
/-- what stands at the addresses that are owned -/
theorem OwnV.kind {K : PySem.W.Frag} {H Hk : Hp} : ∀ {v : V} {y : Pay} {fp : List Addr}, OwnV K H Hk v y fp → ∀ a ∈ fp, (∃ vs, H a = some (.lst vs)) ∨ (∃ o, H a = some (dnO a o)) ∨ (∃ kvs, H a = some (.dK kvs)) ∨ (∃ C dx fs, H a = some (.ins C dx fs)) ∨ ∃ x, H a = some (.own x)
  | _, _, _, .dat _, a, h => by cases h
  | _, _, _, .lst h1 h2 _, a, h => by
    obtain rfl := List.mem_singleton.mp h
    exact .inl ⟨_, h1⟩
  | _, _, _, .dic h1 h2 _ _ _ _ _, a, h => by
    obtain rfl := List.mem_singleton.mp h
    exact .inr (.inl ⟨_, h1⟩)
  | _, _, _, .txt h1 h2 _, a, h => by
    obtain rfl := List.mem_singleton.mp h
    exact .inr (.inr (.inl ⟨_, h1⟩))
  | _, _, _, .ins h1 h2 h3 h4 _ h6 _ _ _, a, h => by
    rcases List.mem_cons.mp h with rfl | h
    · exact .inr (.inr (.inr (.inl ⟨_, _, _, h1⟩)))
    · rcases List.mem_cons.mp h with rfl | h
      · exact .inr (.inr (.inr (.inr ⟨_, h2⟩)))
      · exact OwnFs.kind h6 a h
theorem OwnFs.kind {K : PySem.W.Frag} {H Hk : Hp} : ∀ {vs : List (Str × V)} {fs : List (Str × Pay)} {fp : List Addr}, OwnFs K H Hk vs fs fp → ∀ a ∈ fp, (∃ vs, H a = some (.lst vs)) ∨ (∃ o, H a = some (dnO a o)) ∨ (∃ kvs, H a = some (.dK kvs)) ∨ (∃ C dx fs, H a = some (.ins C dx fs)) ∨ ∃ x, H a = some (.own x)
  | _, _, _, .nil, a, h => by cases h
  | _, _, _, .cons h1 h2 _, a, h => by
    rcases List.mem_append.mp h with h | h
    · exact OwnV.kind h1 a h
    · exact OwnFs.kind h2 a h
end
theorem OwnA.noN {K : PySem.W.Frag} {σ : L2.St} {H Hk : Hp} {γ : En} {a : Addr} (h : OwnA K σ H Hk γ a) (e : H a = none) : False := by
  obtain ⟨⟨u, hu⟩, _⟩ := h.at
  rw [e] at hu; cases hu
/-- what is not owned stays so -/
theorem Go.noA {K : PySem.W.Frag} {σ σ2 : L2.St} {H Hk H2 Hk2 : Hp} {γ γ2 : En} {p : Addr} {u : HO} (g : Go K σ H Hk γ σ2 H2 Hk2 γ2) (n : ¬ OwnA K σ H Hk γ p) (h : H p = some u) : ¬ OwnA K σ2 H2 Hk2 γ2 p := fun z => by
  rcases g.sh p z with z | z
  · exact n z
  · rw [h] at z; cases z
theorem Ok.noNew {K : PySem.W.Frag} {σ : L2.St} {H Hk : Hp} {γ : En} {p : Addr} {o : HO} (k : Ok K σ H Hk γ) (hp : H p = none) : ¬ OwnA K σ (upd H p o) Hk γ p := fun z => ((k.offA fun z => z.noN hp).mp z).noN hp
end DN
namespace DN
open PySem PySem.Spec PyProof.Rows L2
section
variable {K : PySem.W.Frag}
/-- an evaluation beside an object that it does not know -/
theorem aside {σ2 σ3 : L2.St} {H0 Hk H4 Hk4 : Hp} {γb γ4 : En} {L : Addr} {o : HO} (k : Ok K σ2 H0 Hk γb) (hL : H0 L = none) (hk : Hk L = none) (g : Go K σ2 (upd H0 L o) Hk γb σ3 H4 Hk4 γ4) :
    ∃ H04, H4 = upd H04 L o ∧ H04 L = none ∧ Hk4 L = none ∧ Go K σ2 H0 Hk γb σ3 H04 Hk4 γ4 := by
  have nown0 : ¬ OwnA K σ2 H0 Hk γb L := fun h => by
    obtain ⟨⟨u, hu⟩, _⟩ := h.at
    rw [hL] at hu; cases hu
  have nown : ¬ OwnA K σ2 (upd H0 L o) Hk γb L := fun z => nown0 ((k.offA nown0).mp z)
  have h4 : H4 L = some o := g.kp L o upd_same nown
  have hk4 : Hk4 L = none := by
    cases e : Hk4 L with
    | none => rfl
    | some u =>
      rcases g.nw L u e hk with z | z
      · rw [upd_same] at z; cases z
      · exact absurd z nown
  have no4 : ¬ OwnA K σ3 H4 Hk4 γ4 L := fun z => by
    rcases g.sh L z with z | z
    · exact nown z
    · rw [upd_same] at z; cases z
  refine ⟨fun a => if a = L then none else H4 a, ?_, by simp, hk4, ?_⟩
  · funext a
    by_cases ha : a = L
    · subst ha; rw [upd_same]; exact h4
    · rw [upd_ne ha]; simp [ha]
  · have e : upd (fun a => if a = L then none else H4 a) L o = H4 := by
      funext a
      by_cases ha : a = L
      · subst ha; rw [upd_same]; exact h4.symm
      · rw [upd_ne ha]; simp [ha]
    refine Go.beside (o := o) (o2 := o) k hL ?_ (by simp) hk4 ?_
    · rw [e]
      exact g
    · rw [e]
      exact no4
theorem lc_imp {js : List Nat} {g : TG} {tg : Fg} {src : Fa} {tt : Ft} {elt : Fe} {σ : L2.St} {H : Hp} {Q : VK} (hg : TgOk K g tg js) (h : tL K (lLc js tg src tt elt) σ H Q) : tLc (tIt K src) g (tT K tt) (tI K elt) js σ H Q := by
  obtain ⟨γ, Hk, out, γr, k, e, q⟩ := h
  unfold lLc at e
  split at e
  · rename_i ds γ1 es
    split at e
    · rename_i no
      split at e <;> cases e
      rename_i γ2 el
      refine ⟨γ, Hk, ds, γ1, k, es, fun J H1 Hk1 g1 wk L hL => ?_⟩
      have gd := dropAll g1.ok js no
      have hk1L : Hk1 L = none := g1.ok.sub.free hL
      let W : Nat → Nat → Hp → Prop := fun i m H' => m = ds.length - i ∧ i ≤ ds.length ∧ ∃ γ' Hk' acc av H0, H' = upd H0 L (.lst av) ∧ H0 L = none ∧ Go K (wipe σ js) H1 Hk1 (wipeE γ1 js) (wipe σ js) H0 Hk' γ' ∧ (∀ j ∈ js, gt γ' j = none) ∧ Hk' L = none ∧ Same Hk1 Hk' ∧ DpAll K Hk' av acc ∧ lcF js tg tt elt (ds.drop i) γ' acc = some (out, γ2)
      refine ⟨W, ⟨ds.length, by simp, Nat.zero_le _, wipeE γ1 js, Hk1, [], [], H1, rfl, hL, Go.refl gd.ok, fun j hj => gt_wipe_in _ hj, hk1L, Same.refl _, .nil, by simpa using el⟩, ?_⟩
      rintro i m H' ⟨rfl, hi, γ', Hk', acc, av, H0, rfl, h0L, gg, gj, hkL, sk, ra, ef⟩
      obtain ⟨w1, w2⟩ := wk (upd H0 L (.lst av)) Hk' sk (gg.ok.sub.trans (same_upd h0L))
      by_cases hlt : i < ds.length
      · obtain ⟨go, yl⟩ := w1 i hlt
        rw [List.drop_eq_getElem_cons hlt] at ef
        unfold lcF at ef
        refine .inr ⟨go, W (i + 1) (ds.length - (i + 1)), fun H3 w => ⟨_, by omega, w⟩, fun x H'' y => ?_⟩
        obtain ⟨Hc, gr, rv⟩ := yl x H'' y
        have ok0 : Ok K (wipe σ js) (upd H0 L (.lst av)) Hk' γ' := gg.ok.grow (Grow.newH gg.ok.sub h0L)
        have gy := ok0.go gr
        split at ef
        · rename_i γ0 etg
          refine hg x ds[i] _ _ Hc γ' γ0 _ gy.ok rv etg fun σ2 gt2 hw => ?_
          rw [wipe_wipe] at hw
          have ga := gy.trans gt2
          -- back to the block's beginning
          have back : ∀ {H3 Hk3 : Hp} {γ3 : En}, Go K (wipe σ js) H0 Hk' γ' σ2 H3 Hk3 γ3 → noOwns γ3 js = true → Go K (wipe σ js) H1 Hk1 (wipeE γ1 js) (wipe σ js) H3 Hk3 (wipeE γ3 js) := fun {H3 Hk3 γ3} g3 n3 => by
            have := (gg.trans g3).trans (dropAll g3.ok js n3)
            rw [hw] at this
            exact this
          refine ⟨hw, ?_⟩
          split at ef
          · rename_i γ3 et
            refine ⟨γ0, Hc, true, γ3, gt2.ok, et, fun H3 Hk3 g3 => iteT ?_⟩
            split at ef
            · rename_i y γ4 ee
              split at ef
              · rename_i c
                rw [Bool.and_eq_true] at c
                refine ⟨γ3, Hk3, y, γ4, g3.ok, ee, fun u H4 Hk4 g4 r4 => ?_⟩
                obtain ⟨H04, rfl, h04, hk4, g5⟩ := aside gg.ok h0L hkL ((ga.trans g3).trans g4)
                have hla : av.length = acc.length := dps_len ra
                have kk4 : Same Hk' Hk4 := g5.kk
                refine ⟨av, upd_same, by rw [hla]; exact okN_lt c.1, rfl, hlt, _, Hk4, acc ++ [y], av ++ [u], H04, upd_upd, h04, back g5 c.2, fun j hj => gt_wipe_in _ hj, hk4, sk.trans kk4, ?_, ef⟩
                exact dps_app (dps_mono kk4 ra) (.cons r4 .nil)
              · cases ef
            · cases ef
          · rename_i γ3 et
            refine ⟨γ0, Hc, false, γ3, gt2.ok, et, fun H3 Hk3 g3 => iteF ?_⟩
            split at ef
            · rename_i c
              obtain ⟨H03, rfl, h03, hk3, g5⟩ := aside gg.ok h0L hkL (ga.trans g3)
              exact ⟨rfl, hlt, _, Hk3, acc, av, H03, rfl, h03, back g5 c, fun j hj => gt_wipe_in _ hj, hk3, sk.trans g5.kk, dps_mono g5.kk ra, ef⟩
            · cases ef
          · cases ef
        · cases ef
      · have e0 : i = ds.length := by omega
        subst e0
        rw [List.drop_length] at ef
        cases ef
        exact .inl ⟨w2 _ (Nat.le_refl _), q L av H0 Hk' (g1.trans (restoreAll g1.ok js _ no gg gj)) h0L ra⟩
    · cases e
  · cases e
end
end DN
namespace DN
open PySem PySem.Spec PyProof.Rows L2
/-! ### list comprehensions as rules -/
section
variable {W : WX} {X : Cx} {elt it tge : Expr} {ifs : List Expr} {scope : Scope} {own : List (Str × Nat)} {src : Fa} {g : TG} {tg : Fg} {tt : Ft} {ef : Fe} {pos : Pos} {js : List Nat} {y : Str}
theorem el_lc (hj : own.map (·.2) = js) (htg : TgOk X.K g tg js) (hc : X.calm = true) (hN : X.N.Nodup) (hi : EI X tge it src) (ok : BlkOk X.N X.env.scope scope own)
    (hg : ∀ (s : Shared) (H : Hp) (C : Addr) (cl : List (Str × Addr)) (fp : List Addr), PG (X.blk s H scope (compEnvC scope cl C X.env) fp) tge g)
    (ht : ∀ (s : Shared) (H : Hp) (C : Addr) (cl : List (Str × Addr)) (fp : List Addr), PTs (X.blk s H scope (compEnvC scope cl C X.env) fp) ifs (tT X.K tt))
    (he : ∀ (s : Shared) (H : Hp) (C : Addr) (cl : List (Str × Addr)) (fp : List Addr), EV (X.blk s H scope (compEnvC scope cl C X.env) fp) elt ef) (hs : ∀ x, foldedSetIterable it X.env x = pure x := by intro _; rfl) :
    EL X (.ListComp elt [⟨tge, it, ifs, 0⟩] scope pos) (lLc js tg src tt ef) := by
  subst hj
  exact PE.imp (pe_lc (te := tI X.K ef) hc hN hi ok hg ht he hs) fun _ _ _ h => lc_imp htg h
theorem es_lcOwn (i : Nat) {py spos : Pos} (hj : own.map (·.2) = js) (htg : TgOk X.K g tg js) (hc : X.calm = true) (hN : X.N.Nodup) (hy : X.N[i]? = some y) (hyl : X.env.scope.names.lookup y = some .local)
    (hsw : swapsWith (.ListComp elt [⟨tge, it, ifs, 0⟩] scope pos) (some (.Name y py)) spos.line X.env = pure true) (hi : EI X tge it src) (ok : BlkOk X.N X.env.scope scope own)
    (hg : ∀ (s : Shared) (H : Hp) (C : Addr) (cl : List (Str × Addr)) (fp : List Addr), PG (X.blk s H scope (compEnvC scope cl C X.env) fp) tge g)
    (ht : ∀ (s : Shared) (H : Hp) (C : Addr) (cl : List (Str × Addr)) (fp : List Addr), PTs (X.blk s H scope (compEnvC scope cl C X.env) fp) ifs (tT X.K tt))
    (he : ∀ (s : Shared) (H : Hp) (C : Addr) (cl : List (Str × Addr)) (fp : List Addr), EV (X.blk s H scope (compEnvC scope cl C X.env) fp) elt ef) (hs : ∀ x, foldedSetIterable it X.env x = pure x := by intro _; rfl) :
    ES X W (.Assign [.Name y py] (.ListComp elt [⟨tge, it, ifs, 0⟩] scope pos) spos) (sOwn i (lLc js tg src tt ef)) := by
  subst hj
  refine PS.imp (ps_setLc (te := tI X.K ef) hc hN hy hyl hsw hi ok hg ht he hs) fun Z σ H h => ?_
  have h2 := own_imp h
  exact lc_imp htg h2
theorem es_lcDat (i : Nat) {py spos : Pos} (hj : own.map (·.2) = js) (htg : TgOk X.K g tg js) (hc : X.calm = true) (hN : X.N.Nodup) (hy : X.N[i]? = some y) (hyl : X.env.scope.names.lookup y = some .local)
    (hsw : swapsWith (.ListComp elt [⟨tge, it, ifs, 0⟩] scope pos) (some (.Name y py)) spos.line X.env = pure true) (hi : EI X tge it src) (ok : BlkOk X.N X.env.scope scope own)
    (hg : ∀ (s : Shared) (H : Hp) (C : Addr) (cl : List (Str × Addr)) (fp : List Addr), PG (X.blk s H scope (compEnvC scope cl C X.env) fp) tge g)
    (ht : ∀ (s : Shared) (H : Hp) (C : Addr) (cl : List (Str × Addr)) (fp : List Addr), PTs (X.blk s H scope (compEnvC scope cl C X.env) fp) ifs (tT X.K tt))
    (he : ∀ (s : Shared) (H : Hp) (C : Addr) (cl : List (Str × Addr)) (fp : List Addr), EV (X.blk s H scope (compEnvC scope cl C X.env) fp) elt ef) (hs : ∀ x, foldedSetIterable it X.env x = pure x := by intro _; rfl) :
    ES X W (.Assign [.Name y py] (.ListComp elt [⟨tge, it, ifs, 0⟩] scope pos) spos) (sAsg (fL (lLc js tg src tt ef)) (gDat i)) := by
  subst hj
  refine PS.imp (ps_setLc (te := tI X.K ef) hc hN hy hyl hsw hi ok hg ht he hs) fun Z σ H h => ?_
  obtain ⟨γ, Hk, o, k, e, q⟩ := h
  unfold sAsg fL at e
  refine lc_imp (K := X.K) (tg := tg) (src := src) (tt := tt) (elt := ef) (Q := fun x H1 => gName i x σ H1 Z.nx) htg ?_
  cases el : lLc (own.map (·.2)) tg src tt ef γ with
  | none => rw [el] at e; cases e
  | some r =>
    obtain ⟨ds, γ1⟩ := r
    rw [el] at e
    simp only at e
    cases eg : gDat i (.list ds) γ1 with
    | none => rw [eg] at e; cases e
    | some γ2 =>
      rw [eg] at e; cases e
      refine ⟨γ, Hk, ds, γ1, k, el, fun p vs H2 Hk2 g hp r => ?_⟩
      have g2 : Grow H2 Hk2 (upd H2 p (.lst vs)) (upd Hk2 p (.lst vs)) := Grow.new g.ok.sub hp
      have g3 := g.trans (g.ok.go g2)
      exact gDat_imp ⟨γ1, _, .list ds, γ2, g3.ok, .lst (SqL.of upd_same) (dps_mono g2.kk r), eg, fun σ2 g4 => q σ2 _ _ (g3.trans g4)⟩
end

/-! ### a def's contract: a function of data; the first argument may be a list of the caller's that the def changes -/
def Args (K : PySem.W.Frag) (bor : Bool) (H Hk : Hp) (vs : List V) (ds : List D) : Prop := match bor with
  | false => DpAll K Hk vs ds
  | true => ∃ p ws bs vs' ds', vs = .ref p :: vs' ∧ ds = .list bs :: ds' ∧ H p = some (.lst ws) ∧ Hk p = none ∧ DpAll K Hk ws bs ∧ DpAll K Hk vs' ds'
abbrev Fun' := List D → Option (D × List D)
def spD (K : PySem.W.Frag) (bor : Bool) (n : Nat) (F : Fun') (vs : List V) (H : Hp) (Q : VK) : Prop := vs.length = n ∧ ∃ Hk ds d out, Same Hk H ∧ Args K bor H Hk vs ds ∧ F ds = some (d, out) ∧
  ∀ v H2 Hk2, Same Hk2 H2 → Same Hk Hk2 → (∀ a u, Hk2 a = some u → Hk a = none → H a = none) → (∀ a u, H a = some u → (bor = true → vs[0]? ≠ some (.ref a)) → H2 a = some u) → Dp K Hk2 v d →
    (bor = true → ∃ p ws, vs[0]? = some (.ref p) ∧ H2 p = some (.lst ws) ∧ Hk2 p = none ∧ DpAll K Hk2 ws out) → Q v H2
structure FnG (P : Program) (w : World) (K : PySem.W.Frag) (mg : Str → Option Value) (base : Heap) (k : Nat) (f : Addr) (fd : FuncData) (ps : List Str) (bor : Bool) (F : Fun') : Prop where
  run : ∀ (A : Around) (outer : List Env) (s : Shared) (H : Hp) (args : PySem.Args) (us : List Value) (vs : List V) (Q : VK), Room k A → A.guards = some [] → Env0 P w K mg base A outer s H → BindsTo s fd args (ps.zip us) → Vals vs us →
    spD K bor ps.length F vs H Q → codeAny (model P w) A (.call (.ref f) args) (CR CX0 outer P w H s Q E0) s
@[simp] def ini (bor : Bool) (m : Nat) (ds : List D) : En := (match bor, ds with
  | true, .list bs :: r => some (.own true bs) :: r.map fun d => some (.dat d)
  | _, ds => ds.map fun d => some (.dat d)) ++ List.replicate m none
/-- the body B does what F tells -/
def Does (bor : Bool) (m : Nat) (B : Fs) (F : Fun') : Prop := ∀ ds d out, F ds = some (d, out) → ∃ γ2, (B (ini bor m ds) = some (.rt d γ2) ∨ (d = .none ∧ B (ini bor m ds) = some (.nx γ2))) ∧ (bor = true → gt γ2 0 = some (.own true out))
theorem gt_map : ∀ (ds : List D) (r : En) (i : Nat), gt ((ds.map fun d => some (Ent.dat d)) ++ r) i = if h : i < ds.length then some (.dat ds[i]) else gt r (i - ds.length)
  | [], r, i => by simp
  | d :: ds, r, 0 => by simp [gt]
  | d :: ds, r, i + 1 => by
    have := gt_map ds r i
    simp only [List.map_cons, List.cons_append, gt, this, List.length_cons, Nat.add_lt_add_iff_right, Nat.add_sub_add_right, List.getElem_cons_succ]
theorem gt_rep : ∀ (m i : Nat), gt (List.replicate m none) i = none
  | 0, _ => rfl
  | m + 1, 0 => rfl
  | m + 1, i + 1 => gt_rep m i
theorem start_at {N : List Str} {vs : List V} {i : Nat} {v : V} (h : vs[i]? = some v) : (L2.start N vs)[i]? = some (some v) := by
  have hi := (List.getElem?_eq_some_iff.mp h).1
  unfold L2.start
  rw [List.getElem?_append_left (by simpa using hi), List.getElem?_map, h]
  rfl
theorem ini_dat {K : PySem.W.Frag} {N : List Str} {vs : List V} {ds : List D} {H Hk : Hp} {m : Nat} (s : Same Hk H) (a : DpAll K Hk vs ds) (hl : vs.length + m = N.length) : Ok K (L2.start N vs) H Hk ((ds.map fun d => some (Ent.dat d)) ++ List.replicate m none) := by
  have no : ∀ {i b y}, gt ((ds.map fun d => some (Ent.dat d)) ++ List.replicate m none) i = some (.ow b y) → False := fun {i b y} e => by
    rw [gt_map] at e
    split at e
    · cases e
    · rw [gt_rep] at e; cases e
  have nt : ∀ {i kvs}, gt ((ds.map fun d => some (Ent.dat d)) ++ List.replicate m none) i = some (.tab kvs) → False := fun {i kvs} e => by
    rw [gt_map] at e
    split at e
    · cases e
    · rw [gt_rep] at e; cases e
  refine ⟨?_, s, fun i d e => ?_, fun i b y e => (no e).elim, fun i y e => (no e).elim, fun i _ b _ y _ _ _ _ _ e _ => (no e).elim, fun i kvs e => (nt e).elim⟩
  · unfold L2.start
    simp [← dps_len a]
    omega
  · rw [gt_map] at e
    split at e
    · rename_i h
      cases e
      obtain ⟨v, ev, r⟩ := dps_at a (List.getElem?_eq_getElem h)
      exact ⟨v, start_at ev, r⟩
    · rw [gt_rep] at e; cases e
theorem ini_ok {K : PySem.W.Frag} {N : List Str} {bor : Bool} {vs : List V} {ds : List D} {H Hk : Hp} {m : Nat} (s : Same Hk H) (a : Args K bor H Hk vs ds) (hl : vs.length + m = N.length) : Ok K (L2.start N vs) H Hk (ini bor m ds) := by
  cases bor with
  | false => exact ini_dat s a hl
  | true =>
    obtain ⟨p, ws, bs, vs', ds', rfl, rfl, hp, hk, aw, a'⟩ := a
    have hs : L2.start N (.ref p :: vs') = some (.ref p) :: L2.start (N.drop 1) vs' := by
      unfold L2.start
      simp only [List.map_cons, List.cons_append, List.length_cons, List.length_drop]
      rw [show N.length - (vs'.length + 1) = N.length - 1 - vs'.length by omega]
    have hi : ini true m (.list bs :: ds') = some (.own true bs) :: ((ds'.map fun d => some (Ent.dat d)) ++ List.replicate m none) := rfl
    have k := ini_dat (N := N.drop 1) (m := m) s a' (by rw [List.length_drop]; simp only [List.length_cons] at hl; omega)
    rw [hs, hi]
    have no : ∀ {i b y}, gt ((ds'.map fun d => some (Ent.dat d)) ++ List.replicate m none) i = some (.ow b y) → False := fun {i b y} e => by
      rw [gt_map] at e
      split at e
      · cases e
      · rw [gt_rep] at e; cases e
    refine ⟨by simp only [List.length_cons]; rw [k.len], s, fun i d e => ?_, fun i b y e => ?_, fun i y e => ?_, fun i j b c y z v u fp fq ei ej => ?_, fun i kvs e => ?_⟩
    · cases i with
      | zero => cases e
      | succ i =>
        obtain ⟨v, ev, r⟩ := k.dat i d e
        exact ⟨v, by simpa using ev, r⟩
    · cases i with
      | zero => cases e; exact ⟨.ref p, [p], rfl, .lst hp hk aw⟩
      | succ i => exact (no e).elim
    · cases i with
      | zero => rfl
      | succ i => exact (no e).elim
    · cases i with
      | zero =>
        cases j with
        | zero => intros; rfl
        | succ j => exact (no ej).elim
      | succ i => exact (no ei).elim
    · cases i with
      | zero => cases e
      | succ i =>
        obtain ⟨v, ev, r⟩ := k.tab i kvs e
        exact ⟨v, by simpa using ev, r⟩
@[simp] def runF (bor : Bool) (m : Nat) (B : Fs) : Fun' := fun ds => match B (ini bor m ds) with
  | some (.rt d γ2) => if bor then match gt γ2 0 with
    | some (.ow true (.lst out)) => some (d, out)
    | _ => none
    else some (d, [])
  | some (.nx γ2) => if bor then match gt γ2 0 with
    | some (.ow true (.lst out)) => some (.none, out)
    | _ => none
    else some (.none, [])
  | _ => none
theorem does_run (bor : Bool) (m : Nat) (B : Fs) : Does bor m B (runF bor m B) := by
  intro ds d out e
  unfold runF at e
  split at e
  · rename_i d' γ2 eB
    refine ⟨γ2, ?_⟩
    split at e
    · split at e <;> cases e
      rename_i eo
      exact ⟨.inl eB, fun _ => eo⟩
    · rename_i c
      cases e
      exact ⟨.inl eB, fun z => absurd z c⟩
  · rename_i γ2 eB
    refine ⟨γ2, ?_⟩
    split at e
    · split at e <;> cases e
      rename_i eo
      exact ⟨.inr ⟨rfl, eB⟩, fun _ => eo⟩
    · rename_i c
      cases e
      exact ⟨.inr ⟨rfl, eB⟩, fun z => absurd z c⟩
  · cases e
/-- a def by its body's function -/
theorem fnG_of {P : Program} {w : World} {K : PySem.W.Frag} {mg : Str → Option Value} {base : Heap} {x qual : Str} {st : Stmt} {f : Addr} {fd : FuncData} {N ps : List Str} {k m : Nat} {bor : Bool} {F : Fun'} {B : Fs} (Fu : Fun K x qual st f fd) (S : FnScope N ps (defScope st))
    (hm : ps.length + m = N.length) (hF : Does bor m B F)
    (hb : ∀ (cdv : Value) (A : Around) (outer : List Env) (s : Shared) (H : Hp), (A.deeper (envOfC qual (defScope st) s.heap.objs.size f cdv)).guards = some [] → Room k (A.deeper (envOfC qual (defScope st) s.heap.objs.size f cdv)) →
      ESs (cxOf CX0 P w K mg base N qual (defScope st) f cdv A outer s H E0).nox (fun _ _ _ _ => False) (defBody st) B) :
    FnG P w K mg base (k + 1) f fd ps bor F := by
  obtain ⟨oc, od, kV, doc, pm, an, cdv, ct, osl, rfl, lk, hcd⟩ := Fu.ex
  refine ⟨fun A outer s H args us vs Q hr hG e0 bd rv sp => ?_⟩
  obtain ⟨hlen, Hk, ds, d, out, hsub, ha, eF, post⟩ := sp
  have inK : K.In s.heap := e0.mod.kin.keeps fun b o e => (e0.bs b o e).1
  have noLim : s.heap.NoLimit := e0.mod.nolimit.keeps fun b o e => (e0.bs b o e).1
  have kinds : ∀ y ∈ ps.zip us, (defScope st).names.lookup y.1 = some .local ∨ ((defScope st).names.lookup y.1 = some .cell ∧ ((cellsFrom (s.heap.objs.size + 1) (defScope st).names []).lookup y.1).isSome = true) := by
    rintro ⟨nm, vl⟩ hy
    rcases S.par nm (List.of_mem_zip hy).1 with z | z
    · exact .inl z
    · exact .inr ⟨z, PySem.W.cellsFrom_some _ _ _ (.inl z)⟩
  refine codeAny_call_function hr.depth (inK _ _ lk) rfl S.co S.gen rfl (PySem.W.codeRec_of inK hcd) (bd _ _ _ _ ?_)
  refine wpAny_newFunctionEnv_cells S.kind kinds fun env henv s1 ic => ?_
  subst henv
  refine ⟨noLim.keeps ic.toInCall.keep, codeAny_func ?_⟩
  have J0 : Inv (cxOf CX0 P w K mg base N qual (defScope st) f cdv A outer s H E0) [] (L2.start N vs) H s1 := inv_start S hr.hd e0 hlen rv ic
  have body := hb cdv A outer s H (by simpa [Around.deeper] using hG) (hr.deeper _)
  obtain ⟨γ2, eB, eO⟩ := hF ds d out eF
  have ok0 : Ok K (L2.start N vs) H Hk (ini bor m ds) := ini_ok hsub ha (by rw [hlen]; exact hm)
  -- what the caller is told
  have tell : ∀ {v : V} {σ2 : L2.St} {H2 Hk2 : Hp}, Go K (L2.start N vs) H Hk (ini bor m ds) σ2 H2 Hk2 γ2 → Dp K Hk2 v d → Q v H2 := by
    intro v σ2 H2 Hk2 g r
    have own0 : ∀ a, OwnA K (L2.start N vs) H Hk (ini bor m ds) a → bor = true ∧ vs[0]? = some (.ref a) ∧ Hk2 a = none := by
      rintro a ⟨i, b, y, w, fp, e, h1, rr, mm⟩
      cases bor with
      | false =>
        exfalso
        have e : gt ((ds.map fun d => some (Ent.dat d)) ++ List.replicate m none) i = some (.ow b y) := e
        rw [gt_map] at e
        split at e
        · cases e
        · rw [gt_rep] at e; cases e
      | true =>
        obtain ⟨p, ws, bs, vs', ds', rfl, rfl, hp, hk, aw, a'⟩ := ha
        cases i with
        | zero =>
          have h1 : some (some (V.ref p)) = some (some w) := h1
          cases h1
          have e : some (Ent.ow true (.lst bs)) = some (.ow b y) := e
          cases e
          cases rr
          obtain rfl := List.mem_singleton.mp mm
          refine ⟨rfl, rfl, ?_⟩
          obtain ⟨e2, es2, h2⟩ := g.pn 0 (.lst bs) rfl
          obtain ⟨q, us2, e3, e4, e5, e6⟩ := g.ok.own 0 _ _ (eO rfl)
          rw [e2] at e3
          have e3 : some (some (V.ref a)) = some (some (V.ref q)) := e3
          cases e3
          exact e5
        | succ i =>
          exfalso
          have e : gt ((ds'.map fun d => some (Ent.dat d)) ++ List.replicate m none) i = some (.ow b y) := e
          rw [gt_map] at e
          split at e
          · cases e
          · rw [gt_rep] at e; cases e
    refine post v H2 Hk2 g.ok.sub g.kk (fun a u h n => ?_) (fun a u h n => g.kp a u h fun z => ?_) r (fun hbor => ?_)
    · rcases g.nw a u h n with z | z
      · exact z
      · have := (own0 a z).2.2
        rw [h] at this; cases this
    · obtain ⟨z1, z2, _⟩ := own0 a z
      exact n z1 z2
    · subst hbor
      obtain ⟨p, ws, bs, vs', ds', rfl, rfl, hp, hk, aw, a'⟩ := ha
      obtain ⟨e2, _⟩ := g.pn 0 (.lst bs) rfl
      obtain ⟨q, us2, e3, e4, e5, e6⟩ := g.ok.own 0 _ _ (eO rfl)
      rw [e2] at e3
      have e3 : some (some (V.ref p)) = some (some (V.ref q)) := e3
      cases e3
      exact ⟨p, us2, rfl, e4, e5, e6⟩
  have run : wpAny (model P w) (A.deeper (envOfC qual (defScope st) s.heap.objs.size f cdv)) (execs (defBody st) (envOfC qual (defScope st) s.heap.objs.size f cdv))
      (SP (cxOf CX0 P w K mg base N qual (defScope st) f cdv A outer s H E0) [] { nx := fun _ H' => Q .non H', rt := Q }) (cxOf CX0 P w K mg base N qual (defScope st) f cdv A outer s H E0).xe s1 := by
    refine body.nox.run [] s1 (L2.start N vs) H { nx := fun _ H' => Q .non H', rt := Q } J0 ?_
    rcases eB with eB | ⟨rfl, eB⟩
    · exact ⟨_, Hk, _, ok0, eB, fun v σ2 H2 Hk2 g r => tell g r⟩
    · exact ⟨_, Hk, _, ok0, eB, fun σ2 H2 Hk2 g => tell g .non⟩
  refine wpAny_mono run (fun fl s' hs => ?_) fun e s' hs => hs
  have done : ∀ {σ' : L2.St} {H' : Hp} {v : V} {u : Value}, Inv (cxOf CX0 P w K mg base N qual (defScope st) f cdv A outer s H E0) [] σ' H' s' → RelV v u → Q v H' → CE outer P w H s Q u s' := by
    intro σ' H' v u J r q
    exact ⟨v, H', J.os, J.bare, J.base, J.hok, r, q⟩
  cases fl with
  | ret u =>
    obtain ⟨v, σ', H', J, r, q⟩ := hs
    exact done J r q
  | next =>
    obtain ⟨σ', H', J, q⟩ := hs
    exact done (v := V.non) (u := Value.none) J rfl q
  | brk =>
    obtain ⟨_, _, _, q⟩ := hs
    exact q.elim
  | cont =>
    obtain ⟨_, _, _, q⟩ := hs
    exact q.elim
end DN
namespace DN
open PySem PySem.Spec PyProof.Rows L2
/-! ### calls of the text's own defs -/
def Cal (P : Program) (w : World) (K : PySem.W.Frag) (mg : Str → Option Value) (base : Heap) (x : Str) (k : Nat) (ps : List Str) (bor : Bool) (F : Fun') : Prop :=
  ∃ f fd, FnG P w K mg base k f fd ps bor F ∧ mg x = some (.ref f) ∧ PySem.W.keepIn K (.ref f) = true ∧ Binds K fd ps []
@[simp] def fCall (n : Nat) (F : Fun') (fa : Fa) : Fe := fun γ => match fa γ with
  | some (ds, γ1) => if ds.length = n then match F ds with
    | some (d, _) => some (d, γ1)
    | none => none
    else none
  | none => none
@[simp] def fCallB (n : Nat) (F : Fun') (i : Nat) (fa : Fa) : Fe := fun γ => match gt γ i with
  | some (.ow _ (.lst _)) => match fa γ with
    | some (ds, γ1) => match gt γ1 i with
      | some (.ow b (.lst bs)) => if ds.length + 1 = n then match F (.list bs :: ds) with
        | some (d, out) => some (d, γ1.set i (some (.own b out)))
        | none => none
        else none
      | _ => none
    | none => none
  | _ => none
theorem Ok.borrow {K : PySem.W.Frag} {σ : L2.St} {H Hk H2 Hk2 : Hp} {γ : En} {i : Nat} {b : Bool} {ds out : List D} {p : Addr} {ws : List V} (o : Ok K σ H Hk γ) (h : gt γ i = some (.own b ds)) (hs : σ[i]? = some (some (.ref p))) (sub : Same Hk2 H2) (kk : Same Hk Hk2)
    (nw : ∀ a u, Hk2 a = some u → Hk a = none → H a = none) (kp : ∀ a u, H a = some u → a ≠ p → H2 a = some u) (hp : H2 p = some (.lst ws)) (hk : Hk2 p = none) (r : DpAll K Hk2 ws out) : Go K σ H Hk γ σ H2 Hk2 (γ.set i (some (.own b out))) := by
  obtain ⟨p', vs, e1, hp1, _⟩ := o.own i b ds h
  rw [hs] at e1; cases e1
  have g : Grow H Hk (upd H2 p (.lst vs)) Hk2 := by
    refine ⟨fun a u e => ?_, kk, fun a u e => ?_, nw⟩
    · by_cases ha : a = p
      · subst ha; rw [upd_same]; rw [hp1] at e; exact e
      · rw [upd_ne ha]; exact kp a u e ha
    · rw [upd_ne (ne_of_none e hk)]
      exact sub a u e
  have g1 := o.go g
  have g2 := g1.ok.write h hs r
  have e : upd (upd H2 p (.lst vs)) p (.lst ws) = H2 := by
    rw [upd_upd]
    funext a
    by_cases ha : a = p
    · subst ha; rw [upd_same, hp]
    · rw [upd_ne ha]
  rw [e] at g2
  exact g1.trans g2
section
variable {W : WX} {X : Cx} {x : Str} {k n : Nat} {ps : List Str} {F : Fun'} {e : Expr} {es : List Expr} {fa : Fa} {p pos : Pos}
theorem runG {f : Addr} {fd : FuncData} {bor : Bool} {pins : List (Addr × Obj)} {σ : L2.St} {H : Hp} {s : Shared} {Q : VK} {us : List Value} {vs : List V} (G : FnG X.prog X.w X.K X.mg X.base k f fd ps bor F) (hr : Room k X.A) (hG : X.A.guards = some []) (hb : Binds X.K fd ps [])
    (I : Inv X pins σ H s) (r : Vals vs us) (h : spD X.K bor ps.length F vs H Q) : wpAny (model X.prog X.w) X.A (call (.ref f) us) (EP X pins σ Q) X.xe s := by
  have hl : us.length = ps.length := by rw [← r.length]; exact h.1
  have bd := hb s us I.kIn (by rw [List.append_nil]; exact hl)
  rw [List.append_nil] at bd
  refine wpAny_call (codeAny_mono (G.run X.A X.stack s H ⟨us, []⟩ us vs Q hr hG I.env0 bd r h) fun res s' hq => ?_)
  cases res with
  | error ex => exact hq.elim
  | ok fl =>
    cases fl with
    | ret u => exact I.after hq
    | next => exact hq.elim
    | brk => exact hq.elim
    | cont => exact hq.elim
theorem ev_call (C : Cal X.prog X.w X.K X.mg X.base x k ps false F) (hr : Room k X.A) (hG : X.A.guards = some []) (hg : Gl X x) (ha : EA X (e :: es) fa) (hn : ps.length = n := by rfl)
    (hdb : (x == ("__debug__" : Str)) = false := by decide) (he : starEach (e :: es) X.env = (false, eval e X.env) :: starEach es X.env := by rfl) (hpl : (backTo pos (starEach es X.env)).any (·.1) = false := by rfl) :
    EV X (.Call (.Name x p) (e :: es) [] pos) (fCall n F fa) := by
  subst hn
  obtain ⟨f, fd, G, hm, hk, hb⟩ := C
  refine ⟨fun pins s σ H Q I h => ?_⟩
  obtain ⟨γ, Hk, d, γ2, ok, ee, q⟩ := h
  unfold fCall at ee
  split at ee
  · rename_i ds γ1 ea
    split at ee
    · rename_i hl
      split at ee <;> cases ee
      rename_i out eF
      refine wpAny_Call_Name_kw (ld_glob I hg hm ?_ hdb)
      refine PySem.W.callWith_K (h₀ := X.base) I.ok.mod.kin hk (thn (ha.run pos pins s σ H (fun vs H1 => spD X.K false ps.length F vs H1 Q) I ⟨γ, Hk, ds, _, ok, ea, fun vs H1 Hk1 g1 r1 => ?_⟩) fun us s1 ⟨vs, H1, I1, r, q1⟩ => ⟨I1.kIn, ?_⟩) he hpl
      · refine ⟨by rw [dps_len r1]; exact hl, Hk1, ds, d, out, g1.ok.sub, r1, eF, fun v H2 Hk2 s2 k2 nw kp r2 _ => ?_⟩
        exact q v H2 Hk2 (g1.trans (g1.ok.go ⟨fun a u h => kp a u h fun z => absurd z Bool.false_ne_true, k2, s2, nw⟩)) r2
      · exact runG G hr hG hb I1 r q1
    · cases ee
  · cases ee
theorem ev_call0 (C : Cal X.prog X.w X.K X.mg X.base x k ps false F) (hr : Room k X.A) (hG : X.A.guards = some []) (hg : Gl X x) (hn : ps.length = n := by rfl)
    (hdb : (x == ("__debug__" : Str)) = false := by decide) : EV X (.Call (.Name x p) [] [] pos) (fCall n F aNil) := by
  subst hn
  obtain ⟨f, fd, G, hm, hk, hb⟩ := C
  refine ⟨fun pins s σ H Q I h => ?_⟩
  obtain ⟨γ, Hk, d, γ2, ok, ee, q⟩ := h
  unfold fCall aNil at ee
  simp only at ee
  split at ee
  · rename_i hl
    split at ee <;> cases ee
    rename_i out eF
    refine wpAny_Call_Name_kw (ld_glob I hg hm ?_ hdb)
    refine PySem.W.callWith_K0 I.kIn hk (runG (us := []) (vs := []) G hr hG hb I .nil ?_)
    exact ⟨hl, Hk, [], d, out, ok.sub, .nil, eF, fun v H2 Hk2 s2 k2 nw kp r2 _ => q v H2 Hk2 (ok.go ⟨fun a u h => kp a u h fun z => absurd z Bool.false_ne_true, k2, s2, nw⟩) r2⟩
  · cases ee
theorem ev_callO (i : Nat) (C : Cal X.prog X.w X.K X.mg X.base x k ps true F) (hr : Room k X.A) (hG : X.A.guards = some []) (hg : Gl X x) (hv : PE X e (tVar i)) (ha : EA X es fa) (hn : ps.length = n := by rfl)
    (hdb : (x == ("__debug__" : Str)) = false := by decide) (he : starEach (e :: es) X.env = (false, eval e X.env) :: starEach es X.env := by rfl) (hpl : (backTo pos (starEach es X.env)).any (·.1) = false := by rfl) :
    EV X (.Call (.Name x p) (e :: es) [] pos) (fCallB n F i fa) := by
  subst hn
  obtain ⟨f, fd, G, hm, hk, hb⟩ := C
  refine ⟨fun pins s σ H Q I h => ?_⟩
  obtain ⟨γ, Hk, d, γ2, ok, ee, q⟩ := h
  unfold fCallB at ee
  split at ee
  · rename_i b0 bs0 e0
    split at ee
    · rename_i ds γ1 ea
      split at ee
      · rename_i b bs eo
        split at ee
        · rename_i hl
          split at ee <;> cases ee
          rename_i out eF
          obtain ⟨p0, vs0, e1, _⟩ := ok.own i _ _ e0
          refine wpAny_Call_Name_kw (ld_glob I hg hm ?_ hdb)
          refine PySem.W.callWith_K (h₀ := X.base) I.ok.mod.kin hk (thn ((pa_cons hv ha he).run pos pins s σ H (fun vs H1 => spD X.K true ps.length F vs H1 Q) I ⟨_, e1, γ, Hk, ds, γ1, ok, ea, fun vs H1 Hk1 g1 r1 => ?_⟩) fun us s1 ⟨vs, H1, I1, r, q1⟩ => ⟨I1.kIn, ?_⟩) he hpl
          · obtain ⟨p1, ws, e2, hp, hkp, rw'⟩ := g1.ok.own i _ _ eo
            rw [e1] at e2; cases e2
            refine ⟨by rw [List.length_cons, dps_len r1]; exact hl, Hk1, .list bs :: ds, d, out, g1.ok.sub, ⟨p0, ws, bs, vs, ds, rfl, rfl, hp, hkp, rw', r1⟩, eF, fun v H2 Hk2 s2 k2 nw kp r2 ho => ?_⟩
            obtain ⟨p2, us, e3, h3, h4, h5⟩ := ho rfl
            cases e3
            exact q v H2 Hk2 (g1.trans (g1.ok.borrow eo e1 s2 k2 nw (fun a u h n => kp a u h fun _ z => n (by cases z; rfl)) h3 h4 h5)) r2
          · exact runG G hr hG hb I1 r q1
        · cases ee
      · cases ee
    · cases ee
  · cases ee
end
/-! ### repr -/
def reprD (d : D) : Option D := if d.showable && !d.hasDict && okN d.shown.length && decide (d.depth ≤ 60) then some (.str d.shown) else none
def rRepr (K : PySem.W.Frag) : List V → Hp → VK → Prop := fun xs H Q => ∃ x d, xs = [x] ∧ Dp K H x d ∧ d.showable = true ∧ d.hasDict = false ∧ d.shown.length ≤ sizeLine ∧ d.depth ≤ 60 ∧ Q (.str d.shown) H
theorem x_repr {X : Cx} (hG : X.A.guards = some []) (hu : X.A.units + 64 < cLine) : CallR X (.builtin "repr") (rRepr X.K) := by
  intro pins s σ H xs us Q I r h
  obtain ⟨x, d, rfl, hd, h1, h2, h3, h4, q⟩ := h
  cases r with
  | cons r rr =>
    cases rr
    have fin : ∀ (h' : Heap) (u tk : Tok), (∀ b o, s.heap.get? b = some o → h'.get? b = some o) → EP X pins σ Q (.str d.shown u) { s with heap := h', toks := tk } := fun h' u tk hk => ⟨V.str d.shown, H, I.kept hk, ⟨u, rfl⟩, q⟩
    cases hd with
    | non => cases r; exact PySem.P.repr_of_none (fin s.heap _ _ fun _ _ e => e)
    | bl b => cases r; exact PySem.P.repr_of_bool (by have := fin s.heap s.toks (s.toks + 1) fun _ _ e => e; cases b <;> exact this)
    | int i => obtain ⟨t, rfl⟩ := r; exact PySem.P.repr_of_int (by simpa [PyData.showable] using h1) (fin s.heap _ _ fun _ _ e => e)
    | str z => obtain ⟨t, rfl⟩ := r; exact PySem.P.repr_of_str (fin s.heap _ _ fun _ _ e => e) (by simpa only [PyData.shown] using h3)
    | @lst a vs ds hs ha =>
      cases r
      obtain ⟨as, hr⟩ := Dp.reads I (u := .ref a) (.lst hs ha) rfl
      exact repr_of_reads' hr h1 (PyData.noDict_hsm h2) hG (by omega) (fun _ _ e => e) (fun h' u tk hk => fin h' u tk hk) h3
    | @tup a vs ds hs ha =>
      cases r
      obtain ⟨as, hr⟩ := Dp.reads I (u := .ref a) (.tup hs ha) rfl
      exact repr_of_reads' hr h1 (PyData.noDict_hsm h2) hG (by omega) (fun _ _ e => e) (fun h' u tk hk => fin h' u tk hk) h3
    | dct _ _ _ _ _ _ => cases h2
theorem o_repr {K : PySem.W.Frag} : Op1 K (fun x => rRepr K [x]) reprD := by
  intro H Hk x dx dz Q s vx e q
  unfold reprD at e
  split at e <;> cases e
  rename_i c
  simp only [Bool.and_eq_true, Bool.not_eq_true', decide_eq_true_eq] at c
  exact ⟨x, dx, rfl, vx.dp s, c.1.1.1, c.1.1.2, okN_line c.1.2, c.2, q _ H Hk (Grow.refl s) (.str _)⟩
end DN
namespace DN
open PySem PySem.Spec PyProof.Rows L2
/-! ### the law's own call -/
@[simp] def scriptD (ns : List Int) : D := .list (ns.map .int)
theorem lawG {P : Program} {w : World} {K : PySem.W.Frag} {mg mb : Str → Option Value} {k : Nat} {fa a : Addr} {fd : FuncData} {x : Str} {F : Fun'} {s₁ : Shared} {vs : List Value} {ns : List Int} {out : List D}
    (inK : K.In s₁.heap) (gl : s₁.heap.Ns mainGlobals mg) (bl : s₁.heap.Ns builtinsNs mb) (bb : ∀ x : Str, x ≠ "__name__" → mb x = bootBuiltins x) (nl : s₁.heap.NoLimit) (gn : s₁.gens = #[])
    (oa : s₁.heap.get? a = some { cls := .type "list", data := .seq vs.toArray }) (ia : IntsAre vs ns) (sz : ns.length ≤ sizeLine) (rm : Room k callerA)
    (G : ∀ base : Heap, K.In base → base.Ns mainGlobals mg → FnG P w K mg base k fa fd [x] false F) (bd : ∀ (s : Shared) (u : Value), BindsTo s fd ⟨[u], []⟩ [(x, u)])
    (hF : F [scriptD ns] = some (.bool true, out)) :
    codeAny (model P w) callerA (.call (.ref fa) ⟨[.ref a], []⟩) (fun r s' => r = .ok (.ret (.bool true)) ∧ OldK s₁.heap s'.heap ∧ s'.os = s₁.os ∧ AllBare s'.gens) s₁ := by
  have vi := vals_ints ia
  -- the script's object, tracked as known where it is none of the module's own
  let T : HO := .frz { cls := .type "list", data := .seq vs.toArray } (.lst (ns.map V.int))
  let H : Hp := fun b => if b = a ∧ K.lookup a = none then some T else none
  have Hone : ∀ {b : Addr} {u : HO}, H b = some u → b = a ∧ K.lookup a = none ∧ u = T := by
    intro b u e
    by_cases c : b = a ∧ K.lookup a = none
    · have e' : (if b = a ∧ K.lookup a = none then some T else none) = some u := e
      rw [if_pos c] at e'
      cases e'
      exact ⟨c.1, c.2, rfl⟩
    · have e' : (if b = a ∧ K.lookup a = none then some T else none) = some u := e
      rw [if_neg c] at e'
      cases e'
  have seen : SqL K H a (ns.map V.int) := by
    cases ek : K.lookup a with
    | none => exact .inl (.inr ⟨_, if_pos ⟨rfl, ek⟩⟩)
    | some o =>
      have eo := inK a o ek
      rw [oa] at eo
      cases eo
      refine .inr ⟨_, vs.toArray, _, ek, rfl, rfl, rfl, ?_, by simpa using vi⟩
      rw [List.size_toArray, ia.length]
      exact sz
  have held : HOk P w H s₁.heap := by
    intro b u e
    obtain ⟨rfl, _, rfl⟩ := Hone e
    refine ⟨oa, ?_, vs, _, vi, oa⟩
    rw [List.length_map]
    exact sz
  have bare : ∀ {b : Addr} {o : Obj}, s₁.heap.get? b = some o → H b = none → (hidT s₁.heap H).get? b = some o := fun e n => hidT_get e n
  have free : ∀ {b : Addr} {o : Obj} {es : Array DictEntry} {ep : Nat}, s₁.heap.get? b = some o → o.data = .dict es ep → H b = none := by
    intro b o es ep e d
    cases q : H b with
    | none => rfl
    | some u =>
      obtain ⟨rfl, _, _⟩ := Hone q
      rw [oa] at e
      cases e
      have d' : Data.seq vs.toArray _ = Data.dict es ep := d
      cases d'
  have names : ∀ {b : Addr} {m : Str → Option Value}, s₁.heap.Ns b m → (hidT s₁.heap H).Ns b m := by
    rintro b m ⟨o, es, ep, e, d, r⟩
    exact ⟨o, es, ep, bare e (free e d), d, r⟩
  have kb : K.In (hidT s₁.heap H) := by
    intro b o e
    refine bare (inK b o e) ?_
    cases q : H b with
    | none => rfl
    | some u =>
      obtain ⟨rfl, z, _⟩ := Hone q
      rw [z] at e
      cases e
  have md : Mod K mg (hidT s₁.heap H) := by
    obtain ⟨mc, h1, h2⟩ := nl
    exact ⟨kb, names gl, ⟨mb, names bl, bb⟩, ⟨mc, names h1, h2⟩⟩
  have e0 : Env0 P w K mg (hidT s₁.heap H) callerA [] s₁ H := by
    refine ⟨rfl, md, fun b o e => of_hidT e, Nat.le_of_eq (hidT_size _ _), trivial, fun b hb => ?_, held, .of_eq gn⟩
    exact absurd (show b ∈ ([] : List Addr) from hb) (by simp)
  have want : spD K false [x].length F [.ref a] H (fun v _ => v = .bl true) := by
    refine ⟨rfl, H, [scriptD ns], .bool true, out, Same.refl _, .cons (.lst seen (dps_map _ _ (fun n => .int n) _)) .nil, hF, fun v H2 Hk2 _ _ _ _ r _ => ?_⟩
    cases r
    rfl
  refine codeAny_mono ((G _ kb (names gl)).run callerA [] s₁ H ⟨[.ref a], []⟩ [.ref a] [.ref a] _ rm rfl e0 (bd s₁ (.ref a)) (.cons rfl .nil) want) fun r s' hq => ?_
  cases r with
  | error e => exact hq.elim
  | ok fl =>
    cases fl with
    | next => exact hq.elim
    | brk => exact hq.elim
    | cont => exact hq.elim
    | ret u =>
      obtain ⟨v, H', eos, ebare, un, hok', rv, q⟩ := hq
      have q : v = .bl true := q
      subst q
      obtain rfl : u = Value.bool true := rv
      refine ⟨rfl, OldK.of_keep fun b o e => ?_, eos, ebare⟩
      cases z : H b with
      | none => exact un.keep b o e z (by intro z; exact absurd (show b ∈ ([] : List Addr) from z) (by simp)) (by simp)
      | some u =>
        obtain ⟨rfl, _, rfl⟩ := Hone z
        obtain ⟨e2, _⟩ := hok' b _ (un.frzs b _ _ z)
        rw [oa] at e
        cases e
        exact e2
theorem walkG {l : PySem.W.OpenLaw} {n k : Nat} {q : Program} {loose : List Str} {XP : (Str → Option Value) → Heap → Prop} {YP : World → Heap → Prop} {d : DefRec} {K : Params → PySem.W.Frag} {x : Str} {F : Fun'}
    (hn : l.most = some n) (hn2 : n ≤ sizeLine) (hdf : d.params.defaults = []) (hr : Room k callerA)
    (hY : ∀ (w : World) (h : Heap), YP w h → (K w.params).In h)
    (G : ∀ (w : World) (mg : Str → Option Value) (fa : Addr) (h : Heap), (K w.params).In h → h.Ns mainGlobals mg → mg d.name = some (.ref fa) →
      ∃ fd : FuncData, (∀ (s : Shared) (u : Value), BindsTo s fd ⟨[u], []⟩ [(x, u)]) ∧ ∀ base : Heap, (K w.params).In base → base.Ns mainGlobals mg → FnG l.prog w (K w.params) mg base k fa fd [x] false F)
    (hF : ∀ ns : List Int, ns.length ≤ n → ∃ out, F [scriptD ns] = some (.bool true, out)) :
    PySem.W.WalkO q loose XP YP l.row.toRowW d [] (fun f vs => PySem.call f vs) := by
  refine Att.attach_call hn hdf fun w s₀ s₁ mg mb fa o pm cd doc a vs ns Gr Y ho hd hcd hmg hobj hints hlen hg => ?_
  have kx := hY w _ Y
  obtain ⟨fd, hb, hG⟩ := G w mg fa _ kx Gr.T.g hmg
  obtain ⟨out, e⟩ := hF ns hlen
  exact lawG kx Gr.T.g Gr.T.b Gr.T.builtins Gr.T.nolimit hg hobj hints (Nat.le_trans hlen hn2) hr hG hb e
end DN
namespace DN
open PySem PySem.Spec PyProof.Rows L2
/-! ### what the module's names hold -/
/-- the value u stands for the data d, lastingly -/
def VD (K : PySem.W.Frag) (u : Value) (d : D) : Prop := ∃ v, RelV v u ∧ ∀ H, Dp K H v d
def VDs (K : PySem.W.Frag) (us : List Value) (ds : List D) : Prop := ∃ vs, Vals vs us ∧ ∀ H, DpAll K H vs ds
section
variable {K : PySem.W.Frag}
theorem vd_int {i : Int} {t : Tok} : VD K (.int i t) (.int i) := ⟨.int i, ⟨t, rfl⟩, fun _ => .int i⟩
theorem vd_str {z : Str} {t : Tok} : VD K (.str z t) (.str z) := ⟨.str z, ⟨t, rfl⟩, fun _ => .str z⟩
theorem vds_nil : VDs K [] [] := ⟨[], .nil, fun _ => .nil⟩
theorem vds_cons {u : Value} {d : D} {us : List Value} {ds : List D} (h : VD K u d) (t : VDs K us ds) : VDs K (u :: us) (d :: ds) := by
  obtain ⟨v, r, a⟩ := h
  obtain ⟨vs, rs, b⟩ := t
  exact ⟨v :: vs, .cons r rs, fun H => .cons (a H) (b H)⟩
theorem vd_tup {a : Addr} {od : Option Addr} {its : Array Value} {n : Nat} {sl : Array (Option Value)} {ds : List D} (l : K.lookup a = some ⟨.type "tuple", od, .seq its n, sl⟩) (hz : its.size ≤ sizeLine) (h : VDs K its.toList ds) : VD K (.ref a) (.tuple ds) := by
  obtain ⟨vs, rs, b⟩ := h
  exact ⟨.ref a, rfl, fun H => .tup (.inr ⟨_, its, n, l, rfl, rfl, hz, rs⟩) (b H)⟩
theorem ev_glob {X : Cx} {x : Str} {u : Value} {d : D} {pos : Pos} (V : VD X.K u d) (hm : X.mg x = some u) (hg : Gl X x) (hd : (x == ("__debug__" : Str)) = false := by decide) : EV X (.Name x pos) (fC d) := by
  obtain ⟨v, r, a⟩ := V
  exact PE.imp (pe_glob hg hm r hd) fun σ H Q ⟨γ, Hk, d', γ2, o, e, q⟩ => by
    cases e
    exact q v H Hk (Go.refl o) (a Hk)
/-- a table of the module with text keys -/
def TabK (K : PySem.W.Frag) (d : Addr) : List (Str × D) → Prop
  | [] => True
  | p :: r => (∃ u, PySem.W.nsIn K d p.1 = some (some u) ∧ VD K u p.2) ∧ TabK K d r
theorem tabk_nil {K : PySem.W.Frag} {d : Addr} : TabK K d [] := True.intro
theorem tabk_cons {d : Addr} {k : Str} {x : D} {r : List (Str × D)} {u : Value} (h : PySem.W.nsIn K d k = some (some u)) (v : VD K u x) (t : TabK K d r) : TabK K d ((k, x) :: r) := ⟨⟨u, h, v⟩, t⟩
def tabOf : List (Str × D) → Str → Option D
  | [], _ => none
  | p :: r, z => if p.1 = z then some p.2 else tabOf r z
theorem TabK.get {d : Addr} : ∀ {kvs : List (Str × D)} {z : Str} {x : D}, TabK K d kvs → tabOf kvs z = some x → ∃ u, PySem.W.nsIn K d z = some (some u) ∧ VD K u x
  | [], _, _, _, e => by cases e
  | p :: r, z, x, ⟨h, t⟩, e => by
    unfold tabOf at e
    split at e
    · rename_i c; subst c; cases e; exact h
    · exact TabK.get t e
@[simp] def tabD (kvs : List (Str × D)) : D → Option D
  | .str z => tabOf kvs z
  | _ => none
structure Tab (K : PySem.W.Frag) (w : World) (u : Value) (kvs : List (Str × D)) : Prop where
  h : ∃ d es n, u = .ref d ∧ KDict K w d es n ∧ TabK K d kvs
theorem tab_of {w : World} {d : Addr} {es : Array DictEntry} {n : Nat} {kvs : List (Str × D)} (l : K.lookup d = some ⟨.type "dict", none, .dict es n, #[]⟩) (k : PySem.W.KeysLit w.params es.toList) (lo : (d == sysModules) = false) (t : TabK K d kvs) : Tab K w (.ref d) kvs :=
  ⟨d, es, n, rfl, ⟨l, k, lo⟩, t⟩
end
section
variable {W : WX} {X : Cx} {e : Expr} {f g : Fe} {x : Str} {kvs : List (Str × D)} {u : Value} {p pos : Pos}
theorem ix_kd {d : Addr} {es : Array DictEntry} {n : Nat} (T : KDict X.K X.w d es n) : IxR X (fun x y H Q => ∃ (z : Str) (u0 : Value) (v0 : V), x = .ref d ∧ y = .str z ∧ PySem.W.nsIn X.K d z = some (some u0) ∧ RelV v0 u0 ∧ Q v0 H) := by
  intro value slice pins s σ H x y v u Q I rx ry h hs
  have h' := h
  obtain ⟨z, u0, v0, rfl, rfl, en, r, q⟩ := h
  cases (show v = Value.ref d from rx)
  exact tail_any (ops := [.ref d, u]) (kd_type T I) PySem.slot_dict_getitem.lookup (op_item_kd T pins s σ H (.ref d) (.str z) (.ref d) u Q I rfl ry h') hs
theorem ev_tab (T : Tab X.K X.w u kvs) (hm : X.mg x = some u) (hg : Gl X x) (he : EV X e f) (hs : PlainIx e) (hd : (x == ("__debug__" : Str)) = false := by decide) : EV X (.Subscript (.Name x p) e pos) (f1 (tabD kvs) f) := by
  obtain ⟨d, es, n, rfl, T1, T2⟩ := T.h
  refine PE.imp (pe_ix (ix_kd T1) (pe_glob (v := .ref d) hg hm rfl hd) he hs) fun σ H Q ⟨γ, Hk, dd, γ2, ok, ee, q⟩ => ?_
  unfold f1 at ee
  split at ee
  · rename_i dx γ1 ef
    split at ee
    · rename_i z eo
      cases ee
      refine ⟨γ, Hk, dx, _, ok, ef, fun v2 H2 Hk2 g2 r2 => ?_⟩
      unfold tabD at eo
      split at eo
      · cases r2
        obtain ⟨u0, en, v0, rv, hv⟩ := T2.get eo
        exact ⟨_, u0, v0, rfl, rfl, en, rv, q v0 H2 Hk2 g2 (hv Hk2)⟩
      · cases eo
    · cases ee
  · cases ee
/-! ### texts: join, count, turned round -/
def strsD : List D → Option (List Str)
  | [] => some []
  | .str z :: r => (strsD r).map (z :: ·)
  | _ => none
theorem strsD_dps {K : PySem.W.Frag} {H : Hp} : ∀ {vs : List V} {ds : List D} {ys : List Str}, DpAll K H vs ds → strsD ds = some ys → vs = ys.map V.str
  | _, _, ys, .nil, e => by cases e; rfl
  | _, _, ys, .cons h t, e => by
    unfold strsD at e
    split at e
    · rename_i e2; cases e2
    · rename_i e2; cases e2
      obtain ⟨zs, e3, e4⟩ := Option.map_eq_some_iff.mp e
      subst e4
      cases h
      rw [strsD_dps t e3]; rfl
    · cases e
@[simp] def joinL (a : Str) (ds : List D) : Option D := match strsD ds with
  | some ys => if okN ((ys.map (·.length)).sum + ys.length * a.length) then some (.str (Txt.join a ys)) else none
  | none => none
@[simp] def joinD (a : Str) : D → Option D
  | .list ds => joinL a ds
  | .tuple ds => joinL a ds
  | _ => none
theorem joinL_eq {a : Str} {ds : List D} {z : D} (e : joinL a ds = some z) : ∃ ys, strsD ds = some ys ∧ (ys.map (·.length)).sum + ys.length * a.length ≤ 16777216 ∧ z = .str (Txt.join a ys) := by
  unfold joinL at e
  split at e
  · split at e <;> cases e
    rename_i ys es c
    exact ⟨ys, es, Nat.le_trans (of_decide_eq_true c) (by decide), rfl⟩
  · cases e
theorem ev_join {a : Str} {j p0 apos} (he : EV X e f) (hs : starEach [e] X.env = [(false, eval e X.env)] := by rfl) (hbase : attributeBase (.Constant (.str a) j p0) "join" X.env (eval (.Constant (.str a) j p0) X.env) = eval (.Constant (.str a) j p0) X.env := by rfl) (hline : (apos.endLine == pos.line) = true := by rfl) :
    EV X (.Call (.Attribute (.Constant (.str a) j p0) "join" apos) [e] [] pos) (f1 (joinD a) f) := PE.imp (pe_join pe_str he hs hbase hline) fun σ H Q ⟨γ, Hk, dd, γ2, ok, ee, q⟩ => by
  unfold f1 at ee
  split at ee
  · rename_i dx γ1 ef
    split at ee
    · rename_i z eo
      cases ee
      refine ⟨⟨a, rfl⟩, γ, Hk, dx, _, ok, ef, fun v2 H2 Hk2 g2 r2 => ?_⟩
      unfold joinD at eo
      split at eo
      · obtain ⟨ys, e1, e2, rfl⟩ := joinL_eq eo
        cases r2 with
        | lst h t =>
          cases strsD_dps t e1
          exact ⟨a, _, ys, rfl, rfl, .inl (sql_mono g2.ok.sub h), e2, q _ H2 Hk2 g2 (.str _)⟩
      · obtain ⟨ys, e1, e2, rfl⟩ := joinL_eq eo
        cases r2 with
        | tup h t =>
          cases strsD_dps t e1
          exact ⟨a, _, ys, rfl, rfl, .inr (sqt_mono g2.ok.sub h), e2, q _ H2 Hk2 g2 (.str _)⟩
      · cases eo
    · cases ee
  · cases ee
@[simp] def countD : D → D → Option D
  | .str a, .str b => some (.int (Txt.count a b))
  | _, _ => none
theorem ev_count {o : Expr} {apos} (ho : EV X o f) (he : EV X e g) (hs : starEach [e] X.env = [(false, eval e X.env)] := by rfl) (hbase : attributeBase o "count" X.env (eval o X.env) = eval o X.env := by rfl) (hline : (apos.endLine == pos.line) = true := by rfl) :
    EV X (.Call (.Attribute o "count" apos) [e] [] pos) (f2 countD f g) := PE.imp (pe_m1 F.slot_str_count F.type_str_count mt_count ho he hs hbase hline) fun σ H Q ⟨γ, Hk, dd, γ2, ok, ee, q⟩ => by
  unfold f2 at ee
  split at ee
  · rename_i dx γ1 ef
    split at ee
    · rename_i dy γ2' eg
      split at ee
      · rename_i z eo
        cases ee
        unfold countD at eo
        split at eo
        · cases eo
          refine ⟨γ, Hk, _, γ1, ok, ef, fun v1 H1 Hk1 g1 r1 => ?_⟩
          cases r1
          refine ⟨⟨_, rfl⟩, γ1, Hk1, _, _, g1.ok, eg, fun v2 H2 Hk2 g2 r2 => ?_⟩
          cases r2
          exact ⟨_, _, rfl, rfl, q _ H2 Hk2 (g1.trans g2) (.int _)⟩
        · cases eo
      · cases ee
    · cases ee
  · cases ee
def revS (z : Str) : Str := ⟨z.cps.toList.reverse.toArray⟩
@[simp] def revD : D → Option D
  | .str z => if okN z.length then some (.str (revS z)) else none
  | _ => none
theorem rev_pick (z : Str) : (⟨((Builtin.Str.strSliceIndices none none (-1) z.length).filterMap (z.cps[·]?)).toArray⟩ : Str) = revS z := by
  have e1 : Builtin.Str.strSliceIndices none none (-1) z.length = sliceRange ((z.length : Int) - 1) (-1) (-1) := by
    simp only [Builtin.Str.strSliceIndices]
    rfl
  have e2 : sliceRange ((z.length : Int) - 1) (-1) (-1) = (List.range z.length).reverse := by
    rw [PySem.W.krv_sliceRange, PySem.W.krv_range]
  have e3 : (List.range z.length).filterMap (z.cps[·]?) = z.cps.toList := PySem.W.krv_all z.cps
  rw [e1, e2, List.filterMap_reverse, e3]
  rfl
theorem ev_rev {k : Nat} {p1 p2 p3 : Pos} (he : EV X e f) : EV X (.Subscript e (.Slice none none (some (.UnaryOp .USub (.Constant (.int 1) k p1) p2)) p3) pos) (f1 revD f) := by
  refine ⟨fun pins s σ H Q I h => ?_⟩
  obtain ⟨γ, Hk, dd, γ2, ok, ee, q⟩ := h
  unfold f1 at ee
  split at ee
  · rename_i dx γ1 ef
    split at ee
    · rename_i z eo
      cases ee
      unfold revD at eo
      split at eo
      · rename_i str
        split at eo <;> cases eo
        rename_i c
        refine Subscript_ (thn (he.run pins s σ H (fun v2 H2 => v2 = .str str ∧ ∃ Hk2, Go X.K σ H Hk γ σ H2 Hk2 γ2) I ⟨γ, Hk, _, _, ok, ef, fun v2 H2 Hk2 g2 r2 => ⟨by cases r2; rfl, Hk2, g2⟩⟩) fun v s1 ⟨x, H1, I1, r1, ex, Hk2, g2⟩ => ?_)
        subst ex
        obtain ⟨t, rfl⟩ := r1
        have hst : PO X (some (.UnaryOp .USub (.Constant (.int 1) k p1) p2)) (tPart (tUn (rU fun i => .int (-i)) (tC (.int 1)))) := po_some (pe_un un_neg pe_int)
        refine wpAny_Slice (thn (po_none.run pins s1 σ H1 (fun o H2 => o = none ∧ H2 = H1) I1 ⟨rfl, rfl⟩) fun vl s2 ⟨l, H2, I2, pl, el, e2⟩ => ?_)
        subst el e2
        refine thn (po_none.run pins s2 σ H2 (fun o H3 => o = none ∧ H3 = H2) I2 ⟨rfl, rfl⟩) fun vu s3 ⟨u, H3, I3, pu, eu, e3⟩ => ?_
        subst eu e3
        refine thn (hst.run pins s3 σ H3 (fun o H4 => o = some (-1) ∧ H4 = H3) I3 ⟨1, rfl, -1, rfl, rfl, rfl⟩) fun vs s4 ⟨o, H4, I4, ps, eo, e4⟩ => ?_
        subst eo e4
        have I5 : Inv X pins σ H4 { s4 with heap := s4.heap.push { cls := .type "slice", data := .fields #[vl, vu, vs] } } := I4.kept (t' := s4.toks) fun b ob q => Heap.get?_push_of_some _ q
        show wpAny (model X.prog X.w) X.A (subscriptTail e (.Slice none none (some (.UnaryOp .USub (.Constant (.int 1) k p1) p2)) p3) (.str str t) (.ref s4.heap.objs.size)) (EP X pins σ Q) X.xe { s4 with heap := s4.heap.push { cls := .type "slice", data := .fields #[vl, vu, vs] } }
        refine tail_any (ops := [.ref s4.heap.objs.size, .str str t]) (typeIs_str _ _ _) F.slot_str_getitem.lookup ?_ (by with_unfolding_all rfl)
        obtain ⟨l, rfl, hl1⟩ := IsPart.raw pl
        obtain ⟨u, rfl, hu1⟩ := IsPart.raw pu
        obtain ⟨st, rfl, hs1⟩ := IsPart.raw ps
        refine wpAny_getItem_str_slice (l := l) (u := u) (st := st) ⟨_, Heap.get?_push_size _ rfl, rfl, rfl⟩ (by rw [hs1]; rfl) ?_
        have ep : slicePicked str l u st = Builtin.Str.strSliceIndices none none (-1) str.length := by
          unfold slicePicked
          rw [hl1, hu1, hs1]
          rfl
        unfold sliceMade
        rw [hs1, ep, rev_pick]
        have hlen : (revS str).length ≤ sizeLine := by
          have : (revS str).length = str.length := by simp [revS, Str.length]
          rw [this]
          exact okN_line c
        exact ⟨hlen, .str _, H4, I5.tok _, ⟨_, rfl⟩, q _ H4 Hk2 g2 (.str _)⟩
      · cases eo
    · cases ee
  · cases ee
@[simp] def isBd : D → D → Option D
  | .bool a, .bool b => some (.bool (decide (a = b)))
  | _, _ => none
@[simp] def notBd : D → D → Option D
  | .bool a, .bool b => some (.bool (!decide (a = b)))
  | _, _ => none
theorem o_isB {K : PySem.W.Frag} : Op2 K rIsB isBd := by
  intro H Hk x y dx dy dz Q s vx vy e q
  unfold isBd at e
  split at e <;> cases e
  exact ⟨_, _, vx.bl, vy.bl, q _ H Hk (Grow.refl s) (.bl _)⟩
theorem o_notB {K : PySem.W.Frag} : Op2 K rNotB notBd := by
  intro H Hk x y dx dy dz Q s vx vy e q
  unfold notBd at e
  split at e <;> cases e
  exact ⟨_, _, vx.bl, vy.bl, q _ H Hk (Grow.refl s) (.bl _)⟩
/-! ### {"a": "b", ..}.get(k, x) -/
def prK (kvs : List (Str × Str)) : List (TE × TE) := kvs.map fun p => (tC (.str p.1), tC (.str p.2))
def kvK (kvs : List (Str × Str)) : List (Key × V) := kvs.map fun p => (Sum.inr p.1, V.str p.2)
theorem tPairs_prK {σ : L2.St} {H : Hp} : ∀ {kvs : List (Str × Str)} {Q : List (V × V) → Hp → Prop}, Q ((kvK kvs).map fun kv => (kV kv.1, kv.2)) H → tPairs (prK kvs) σ H Q
  | [], _, q => q
  | p :: r, Q, q => by
    show tPairs (prK r) σ H fun ps H3 => Q ((V.str p.1, V.str p.2) :: ps) H3
    exact tPairs_prK q
/-- the last of the pairs with the key -/
def lastOf (kvs : List (Str × Str)) (z : Str) : Option Str := tabOf (kvs.reverse.map fun p => (p.1, PyData.str p.2)) z |>.bind fun | .str y => some y | _ => none
@[simp] def getD2 (get : Str → Option Str) : D → D → Option D
  | .str z, y => match get z with
    | some x => some (.str x)
    | none => some y
  | _, _ => none
theorem ev_dget2 {keys : List (Option Expr)} {values : List Expr} {kvs : List (Str × Str)} {get : Str → Option Str} {apos dpos} {e2 : Expr} (hu : X.A.units + 64 < cLine) (h : PPs X dpos keys values (prK kvs)) (hall : keys.all (·.isSome) = true) (hl : keys.length = values.length) (h0 : keys ≠ []) (h15 : keys.length ≤ 15) (hk : kvs.length ≤ 15)
    (hg : ∀ z, valV (mergeK [] (kvK kvs)) (Sum.inr z) = (get z).map V.str) (he : EV X e f) (hf : EV X e2 g) (m : M2 X (.Dict keys values dpos) "get" apos e e2 pos) :
    EV X (.Call (.Attribute (.Dict keys values dpos) "get" apos) [e, e2] [] pos) (f2 (getD2 get) f g) := PE.imp (pe_dget2 (by omega) (pe_disp h hall hl h0 h15) he hf m) fun σ H Q ⟨γ, Hk, dd, γ2, ok, ee, q⟩ => by
  unfold f2 at ee
  split at ee
  · rename_i dx γ1 ef
    split at ee
    · rename_i dy γ2' eg
      split at ee
      · rename_i z eo
        cases ee
        obtain ⟨z0, rfl⟩ : ∃ z0, dx = .str z0 := by
          cases dx with
          | str z0 => exact ⟨z0, rfl⟩
          | _ => cases eo
        · intro p hp
          refine tPairs_prK ⟨upd_same, kvK kvs, rfl, by simpa [kvK] using hk, ?_⟩
          have gr : Grow H Hk (upd (upd H p (.dK [])) p (.dK (mergeK [] (kvK kvs)))) Hk := by
            have e1 : upd (upd H p (.dK [])) p (.dK (mergeK [] (kvK kvs))) = upd H p (.dK (mergeK [] (kvK kvs))) := by
              funext a
              by_cases ha : a = p
              · subst ha; rw [upd_same, upd_same]
              · rw [upd_ne ha, upd_ne ha, upd_ne ha]
            rw [e1]
            exact Grow.newH ok.sub hp
          have ok1 := ok.grow gr
          refine ⟨p, rfl, .inl ⟨_, .inl upd_same⟩, γ, Hk, _, γ1, ok1, ef, fun v1 H1 Hk1 g1 r1 => ?_⟩
          cases r1
          refine ⟨γ1, Hk1, _, _, g1.ok, eg, fun v2 H2 Hk2 g2 r2 => ?_⟩
          have e0 : upd (upd H p (.dK [])) p (.dK (mergeK [] (kvK kvs))) = upd H p (.dK (mergeK [] (kvK kvs))) := upd_upd
          have no1 : ¬ OwnA X.K σ (upd (upd H p (.dK [])) p (.dK (mergeK [] (kvK kvs)))) Hk γ p := by rw [e0]; exact ok.noNew hp
          have h1 : H1 p = some (.dK (mergeK [] (kvK kvs))) := g1.kp _ _ upd_same no1
          have h2 : H2 p = some (.dK (mergeK [] (kvK kvs))) := g2.kp _ _ h1 (g1.noA no1 upd_same)
          refine ⟨valV (mergeK [] (kvK kvs)) (Sum.inr z0), DGet.k (k := Sum.inr z0) h2, ?_⟩
          rw [hg]
          have gg := ((ok.go gr).trans g1).trans g2
          cases ex : get z0 with
          | some x0 =>
            simp only [getD2, ex] at eo
            cases eo
            exact q _ H2 Hk2 gg (.str _)
          | none =>
            simp only [getD2, ex] at eo
            cases eo
            exact q _ H2 Hk2 gg r2
      · cases ee
    · cases ee
  · cases ee
end
/-! ### a dict kept in a local name -/
section
variable {K : PySem.W.Frag} {σ : L2.St} {H Hk : Hp} {γ : En} {i : Nat}
theorem Ok.setTab {v : V} {t : Tabs} (o : Ok K σ H Hk γ) (r : Tb K Hk v t) (np : NoPin γ i) : Go K σ H Hk γ (σ.set i (some v)) H Hk (γ.set i (some (.tab t))) :=
  o.setAny np (fun _ _ => nofun) (fun _ => nofun) (fun t' e => by cases e; exact ⟨v, rfl, r⟩)
/-- a new dict, filled when all its values are there -/
theorem Go.fill {H2 Hk2 : Hp} {γ2 : En} {p : Addr} (k : Ok K σ H Hk γ) (hp : H p = none) (g : Go K σ (upd H p (.dK [])) Hk γ σ H2 Hk2 γ2) :
    H2 p = some (.dK []) ∧ Hk2 p = none ∧ ∀ kvs : List (Key × V), Go K σ H Hk γ σ (upd H2 p (.dK kvs)) (upd Hk2 p (.dK kvs)) γ2 := by
  have no0 : ¬ OwnA K σ H Hk γ p := fun z => z.noN hp
  have no1 : ¬ OwnA K σ (upd H p (.dK [])) Hk γ p := k.noNew hp
  have h2 : H2 p = some (.dK []) := g.kp _ _ upd_same no1
  have hk2 : Hk2 p = none := by
    cases e : Hk2 p with
    | none => rfl
    | some u =>
      rcases g.nw p u e (k.sub.free hp) with z | z
      · rw [upd_same] at z; cases z
      · exact absurd z no1
  refine ⟨h2, hk2, fun kvs => ?_⟩
  have sm : Same Hk2 (upd Hk2 p (.dK kvs)) := same_upd hk2
  have no2 : ¬ OwnA K σ H2 Hk2 γ2 p := g.noA no1 upd_same
  have up : ∀ {i b y v fp}, gt γ2 i = some (.ow b y) → σ[i]? = some (some v) → OwnV K H2 Hk2 v y fp → OwnV K (upd H2 p (.dK kvs)) (upd Hk2 p (.dK kvs)) v y fp := fun {i b y v fp} e ev r => by
    have np : p ∉ fp := fun m => no2 ⟨i, b, y, v, fp, e, ev, r, m⟩
    exact r.to sm (fun a m u e => by rw [upd_ne (fun z => np (by rw [← z]; exact m))]; exact e) fun a m => by
      rw [upd_ne (fun z => np (by rw [← z]; exact m))]; exact (r.at a m).2
  have dn : ∀ {i b y v fp}, gt γ2 i = some (.ow b y) → σ[i]? = some (some v) → OwnV K (upd H2 p (.dK kvs)) (upd Hk2 p (.dK kvs)) v y fp → OwnV K H2 Hk2 v y fp := fun {i b y v fp} e ev r => by
    obtain ⟨v', fp', e1, r1⟩ := g.ok.ow i b y e
    rw [ev] at e1; cases e1
    rw [r.det (up e ev r1)]
    exact r1
  refine ⟨⟨g.ok.len, fun a u e => ?_, fun i d e => ?_, fun i b y e => ?_, g.ok.pin, fun i j b c y z v u fp fq ei ej vi vj ri rj a mi mj => g.ok.sep i j b c y z v u fp fq ei ej vi vj (dn ei vi ri) (dn ej vj rj) a mi mj, fun i t e => ?_⟩, g.kk.trans sm, fun a u e n => ?_, fun a u e n => ?_, fun a e => ?_, g.pn⟩
  · by_cases ha : a = p
    · subst ha; rw [upd_same] at e ⊢; exact e
    · rw [upd_ne ha] at e ⊢; exact g.ok.sub _ _ e
  · obtain ⟨v, e1, r⟩ := g.ok.dat i d e
    exact ⟨v, e1, dp_mono sm r⟩
  · obtain ⟨v, fp, e1, r⟩ := g.ok.ow i b y e
    exact ⟨v, fp, e1, up e e1 r⟩
  · obtain ⟨v, e1, r⟩ := g.ok.tab i t e
    exact ⟨v, e1, r.mono sm⟩
  · by_cases ha : a = p
    · subst ha; exact .inl hp
    · rw [upd_ne ha] at e
      rcases g.nw a u e n with z | z
      · rw [upd_ne ha] at z; exact .inl z
      · exact .inr ((k.offA no0).mp z)
  · have ha : a ≠ p := ne_of_none e hp
    rw [upd_ne ha]
    exact g.kp a u (by rw [upd_ne ha]; exact e) fun z => n ((k.offA no0).mp z)
  · obtain ⟨i, b, y, v, fp, e1, e2, r, m⟩ := e
    rcases g.sh a ⟨i, b, y, v, fp, e1, e2, dn e1 e2 r, m⟩ with z | z
    · exact .inl ((k.offA no0).mp z)
    · by_cases ha : a = p
      · subst ha; exact .inr hp
      · rw [upd_ne ha] at z; exact .inr z
end
def pairsF : List (Str × Fe) → En → Option (List (Str × D) × En)
  | [], γ => some ([], γ)
  | p :: r, γ => match p.2 γ with
    | some (d, γ1) => match pairsF r γ1 with
      | some (ds, γ2) => some ((p.1, d) :: ds, γ2)
      | none => none
    | none => none
@[simp] def sTab (i : Nat) (fs : List (Str × Fe)) : Fs := fun γ => match pairsF fs γ with
  | some (kvs, γ1) => if decide (kvs.length ≤ 15) && !pinB γ1 i then some (.nx (γ1.set i (some (.tab (.txt kvs))))) else none
  | none => none
def PR (K : PySem.W.Frag) (Hk : Hp) : List (Key × V) → List (Str × D) → Prop
  | [], [] => True
  | p :: r, q :: s => p.1 = Sum.inr q.1 ∧ Dp K Hk p.2 q.2 ∧ PR K Hk r s
  | _, _ => False
section
variable {K : PySem.W.Frag} {σ : L2.St}
theorem PR.mono {H H' : Hp} (s : Same H H') : ∀ {a : List (Key × V)} {b : List (Str × D)}, PR K H a b → PR K H' a b
  | [], [], _ => True.intro
  | _ :: _, _ :: _, ⟨h, d, t⟩ => ⟨h, dp_mono s d, PR.mono s t⟩
theorem PR.len {H : Hp} : ∀ {a : List (Key × V)} {b : List (Str × D)}, PR K H a b → a.length = b.length
  | [], [], _ => rfl
  | _ :: _, _ :: _, ⟨_, _, t⟩ => congrArg (· + 1) (PR.len t)
theorem PR.get {H : Hp} (z : Str) : ∀ {a : List (Key × V)} {b : List (Str × D)} {acc : List (Key × V)} {o : Option D}, PR K H a b → (∀ x, o = some x → ∃ u, valV acc (Sum.inr z) = some u ∧ Dp K H u x) →
    ∀ x, tabM b z o = some x → ∃ u, valV (mergeK acc a) (Sum.inr z) = some u ∧ Dp K H u x
  | [], [], acc, o, _, h, x, e => h x e
  | p :: r, q :: s, acc, o, ⟨hk, d, t⟩, h, x, e => by
    refine PR.get z (acc := putK acc p.1 p.2) (o := if q.1 = z then some q.2 else o) t (fun y ey => ?_) x e
    rw [valV_put, hk]
    by_cases c : q.1 = z
    · rw [if_pos c] at ey
      cases ey
      exact ⟨p.2, by rw [if_pos (by rw [c])], d⟩
    · rw [if_neg c] at ey
      obtain ⟨u, e1, r1⟩ := h y ey
      exact ⟨u, by rw [if_neg (fun w => c (by cases w; rfl))]; exact e1, r1⟩
def trsF (K : PySem.W.Frag) (fs : List (Str × Fe)) : List (TE × TE) := fs.map fun p => (tC (.str p.1), tI K p.2)
theorem tPairs_F : ∀ {fs : List (Str × Fe)} {γ γ2 : En} {H Hk : Hp} {kvs : List (Str × D)} {Q : List (V × V) → Hp → Prop}, Ok K σ H Hk γ → pairsF fs γ = some (kvs, γ2) →
    (∀ (ks : List (Key × V)) (H2 Hk2 : Hp), Go K σ H Hk γ σ H2 Hk2 γ2 → PR K Hk2 ks kvs → Q (ks.map fun kv => (kV kv.1, kv.2)) H2) → tPairs (trsF K fs) σ H Q
  | [], γ, γ2, H, Hk, kvs, Q, o, e, q => by
    cases e
    exact q [] H Hk (Go.refl o) True.intro
  | p :: r, γ, γ2, H, Hk, kvs, Q, o, e, q => by
    unfold pairsF at e
    split at e
    · rename_i d γ1 ef
      split at e
      · rename_i ds γ2' er
        cases e
        refine ⟨γ, Hk, d, γ1, o, ef, fun v H1 Hk1 g1 r1 => ?_⟩
        refine tPairs_F (γ := γ1) g1.ok er fun ks H2 Hk2 g2 pr => ?_
        exact q ((Sum.inr p.1, v) :: ks) H2 Hk2 (g1.trans g2) ⟨rfl, dp_mono g2.kk r1, pr⟩
      · cases e
    · cases e
end
section
variable {W : WX} {X : Cx} {e : Expr} {f : Fe} {pos p : Pos}
theorem es_tab (i : Nat) {x : Str} {p' dpos : Pos} {keys : List (Option Expr)} {values : List Expr} {fs : List (Str × Fe)} (hN : X.N.Nodup) (hi : X.N[i]? = some x) (hx : Loc X.env.scope x) (h : PPs X dpos keys values (trsF X.K fs)) (hall : keys.all (·.isSome) = true) (hl : keys.length = values.length) (h0 : keys ≠ []) (h15 : keys.length ≤ 15)
    (hs : swapsWith (.Dict keys values dpos) (some (.Name x p')) pos.line X.env = pure false := by rfl) (hf : X.fn x = true ∨ X.env.scope.names.lookup x = some .local := by first | exact .inl rfl | exact .inr rfl | assumption) :
    ES X W (.Assign [.Name x p'] (.Dict keys values dpos) pos) (sTab i fs) := PS.imp (ps_set hN hi hx (pe_disp h hall hl h0 h15) hs hf) fun Z σ H ⟨γ, Hk, o, k, ee, q⟩ => by
  unfold sTab at ee
  split at ee
  · rename_i kvs γ1 ef
    split at ee <;> cases ee
    rename_i c
    rw [Bool.and_eq_true] at c
    intro p hp
    have gr : Grow H Hk (upd H p (.dK [])) Hk := Grow.newH k.sub hp
    refine tPairs_F (k.grow gr) ef fun ks H2 Hk2 g pr => ?_
    obtain ⟨h2, hk2, fill⟩ := Go.fill k hp g
    have gg := fill (mergeK [] ks)
    refine ⟨h2, ks, rfl, by rw [pr.len]; exact of_decide_eq_true c.1, ?_⟩
    have t : Tb X.K (upd Hk2 p (.dK (mergeK [] ks))) (.ref p) (.txt kvs) := ⟨p, mergeK [] ks, rfl, upd_same, fun z x ez => PR.get z (pr.mono (same_upd hk2)) (fun y ey => by cases ey) x ez⟩
    exact q _ _ _ (gg.trans (gg.ok.setTab t (noPin_of gg.ok (by simpa using c.2))))
  · cases ee
@[simp] def fTabL (i : Nat) (f : Fe) : Fe := fun γ => match gt γ i with
  | some (.tab _) => match f γ with
    | some (.str z, γ1) => match gt γ1 i with
      | some (.tab (.txt kvs)) => match tabM kvs z none with
        | some x => some (x, γ1)
        | none => none
      | _ => none
    | _ => none
  | _ => none
theorem ev_tabL {o : Expr} {i : Nat} (hu : X.A.units + 64 < cLine) (ho : PE X o (tVar i)) (he : EV X e f) (hs : NoSl e) : EV X (.Subscript o e pos) (fTabL i f) := PE.imp (pe_dget (by omega) ho he hs) fun σ H Q ⟨γ, Hk, d, γ2, k, ee, q⟩ => by
  unfold fTabL at ee
  split at ee
  · rename_i kv0 e0
    split at ee
    · rename_i z γ1 ef
      split at ee
      · rename_i kvs ei
        split at ee <;> cases ee
        rename_i x ex
        obtain ⟨v0, ev0, _⟩ := k.tab i kv0 e0
        refine ⟨v0, ev0, γ, Hk, _, γ2, k, ef, fun v H1 Hk1 g1 r1 => ?_⟩
        obtain ⟨v1, ev1, p, kvs', rfl, hp, t⟩ := g1.ok.tab i (.txt kvs) ei
        rw [ev0] at ev1
        cases ev1
        obtain ⟨u, eu, ru⟩ := t z d ex
        cases r1
        exact ⟨p, u, rfl, .inl ⟨kvs', Sum.inr z, .inl (g1.ok.sub _ _ hp), rfl, eu.symm⟩, q u H1 Hk1 g1 ru⟩
      · cases ee
    · cases ee
  · cases ee
/-! ### sorted of whole numbers -/
def insI (x : Int) : List Int → List Int
  | [] => [x]
  | y :: r => if x ≤ y then x :: y :: r else y :: insI x r
def sortI : List Int → List Int
  | [] => []
  | x :: r => insI x (sortI r)
theorem insI_perm (x : Int) : ∀ l : List Int, (insI x l).Perm (x :: l)
  | [] => .refl _
  | y :: r => by
    unfold insI
    split
    · exact .refl _
    · exact ((insI_perm x r).cons y).trans (.swap x y r)
theorem sortI_perm : ∀ l : List Int, (sortI l).Perm l
  | [] => .refl _
  | x :: r => (insI_perm x _).trans ((sortI_perm r).cons x)
theorem insI_sorted (x : Int) : ∀ l : List Int, l.Pairwise (· ≤ ·) → (insI x l).Pairwise (· ≤ ·)
  | [], _ => by simp [insI]
  | y :: r, h => by
    rw [List.pairwise_cons] at h
    unfold insI
    split
    · rename_i c
      rw [List.pairwise_cons]
      refine ⟨fun z hz => ?_, List.pairwise_cons.mpr h⟩
      rcases List.mem_cons.mp hz with rfl | hz
      · exact c
      · exact Int.le_trans c (h.1 z hz)
    · rename_i c
      rw [List.pairwise_cons]
      refine ⟨fun z hz => ?_, insI_sorted x r h.2⟩
      rcases List.mem_cons.mp ((insI_perm x r).mem_iff.mp hz) with rfl | hz
      · omega
      · exact h.1 z hz
theorem sortI_sorted : ∀ l : List Int, (sortI l).Pairwise (· ≤ ·)
  | [] => .nil
  | x :: r => insI_sorted x _ (sortI_sorted r)
theorem sorted_eq : ∀ {a b : List Int}, a.Perm b → a.Pairwise (· ≤ ·) → b.Pairwise (· ≤ ·) → a = b
  | [], b, h, _, _ => (List.Perm.eq_nil h.symm).symm
  | x :: a, [], h, _, _ => List.Perm.eq_nil h
  | x :: a, y :: b, h, ha, hb => by
    rw [List.pairwise_cons] at ha hb
    have h1 : x ≤ y := by
      rcases List.mem_cons.mp (h.mem_iff.mpr List.mem_cons_self) with e | m
      · omega
      · exact ha.1 y m
    have h2 : y ≤ x := by
      rcases List.mem_cons.mp (h.mem_iff.mp List.mem_cons_self) with e | m
      · omega
      · exact hb.1 x m
    obtain rfl : x = y := by omega
    rw [sorted_eq h.cons_inv ha.2 hb.2]
def intsD : List D → Option (List Int)
  | [] => some []
  | .int i :: r => (intsD r).map (i :: ·)
  | _ => none
theorem intsD_dps {K : PySem.W.Frag} {H : Hp} : ∀ {vs : List V} {ds : List D} {ns : List Int}, DpAll K H vs ds → intsD ds = some ns → vs = ns.map V.int
  | _, _, ys, .nil, e => by cases e; rfl
  | _, _, ys, .cons h t, e => by
    unfold intsD at e
    split at e
    · rename_i e2; cases e2
    · rename_i e2; cases e2
      obtain ⟨zs, e3, e4⟩ := Option.map_eq_some_iff.mp e
      subst e4
      cases h
      rw [intsD_dps t e3]; rfl
    · cases e
theorem intsD_map : ∀ ns : List Int, intsD (ns.map .int) = some ns
  | [] => rfl
  | n :: r => by
    show (intsD (r.map .int)).map (n :: ·) = _
    rw [intsD_map r]; rfl
@[simp] def lSort (f : Fe) : Fa := fun γ => match f γ with
  | some (.list ds, γ1) => match intsD ds with
    | some ns => some ((sortI ns).map .int, γ1)
    | none => none
  | _ => none
theorem el_sorted {a : Expr} (hm : X.mg "sorted" = none) (hg : Gl X "sorted") (ha : EV X a f) (he : starEach [a] X.env = (false, eval a X.env) :: starEach [] X.env := by rfl) (hpl : (backTo pos (starEach [] X.env)).any (·.1) = false := by rfl) :
    EL X (.Call (.Name "sorted" p) [a] [] pos) (lSort f) := PE.imp (pe_callB cr_sortedI hg hm (by decide +kernel) (pa_cons ha pa_nil he) (he := he) (hpl := hpl)) fun σ H Q ⟨γ, Hk, d, γ2, o, ee, q⟩ => by
  unfold lSort at ee
  split at ee
  · rename_i ds γ1 ef
    split at ee <;> cases ee
    rename_i ns en
    refine ⟨γ, Hk, _, γ2, o, ef, fun v H1 Hk1 g1 r1 => ?_⟩
    cases r1 with
    | lst h t =>
      cases intsD_dps t en
      refine ⟨_, ns, rfl, sql_mono g1.ok.sub h, fun ns' p hp hs hn => ?_⟩
      cases sorted_eq (hp.trans (sortI_perm ns).symm) hs (sortI_sorted ns)
      exact q p _ H1 Hk1 g1 hn (dps_map (K := X.K) V.int PyData.int (fun i => .int i) _)
  · cases ee
end
end DN
namespace DN
open PySem PySem.Spec PyProof.Rows L2
/-! ### a text in a text; max, min of two ints; str of an int -/
def inS (a b : Str) : Bool := !(Builtin.Str.occurrences b a 0 b.length 1).isEmpty
@[simp] def inSD : D → D → Option D
  | .str a, .str b => some (.bool (inS a b))
  | _, _ => none
@[simp] def notInSD : D → D → Option D
  | .str a, .str b => some (.bool (!inS a b))
  | _, _ => none
section
variable {K : PySem.W.Frag}
theorem o_inS : Op2 K (fun x y H Q => ∃ i j, x = .str i ∧ y = .str j ∧ Q (.bl (!(Builtin.Str.occurrences j i 0 j.length 1).isEmpty)) H) inSD := by
  intro H Hk x y dx dy dz Q s vx vy e q
  unfold inSD at e
  split at e <;> cases e
  exact ⟨_, _, vx.str, vy.str, q _ H Hk (Grow.refl s) (.bl _)⟩
theorem o_notInS : Op2 K (fun x y H Q => ∃ i j, x = .str i ∧ y = .str j ∧ Q (.bl (!(!(Builtin.Str.occurrences j i 0 j.length 1).isEmpty))) H) notInSD := by
  intro H Hk x y dx dy dz Q s vx vy e q
  unfold notInSD at e
  split at e <;> cases e
  exact ⟨_, _, vx.str, vy.str, q _ H Hk (Grow.refl s) (.bl _)⟩
@[simp] def maxD : D → D → Option D
  | .int i, .int j => some (.int (if j > i then j else i))
  | _, _ => none
@[simp] def minD : D → D → Option D
  | .int i, .int j => some (.int (if j < i then j else i))
  | _, _ => none
theorem o_max : Op2 K (fun x y H Q => (fun xs H Q => ∃ i j, xs = [V.int i, V.int j] ∧ Q (.int (if j > i then j else i)) H) [x, y] H Q) maxD := by
  intro H Hk x y dx dy dz Q s vx vy e q
  unfold maxD at e
  split at e <;> cases e
  cases vx.int; cases vy.int
  exact ⟨_, _, rfl, q _ H Hk (Grow.refl s) (.int _)⟩
theorem o_min : Op2 K (fun x y H Q => (fun xs H Q => ∃ i j, xs = [V.int i, V.int j] ∧ Q (.int (if j < i then j else i)) H) [x, y] H Q) minD := by
  intro H Hk x y dx dy dz Q s vx vy e q
  unfold minD at e
  split at e <;> cases e
  cases vx.int; cases vy.int
  exact ⟨_, _, rfl, q _ H Hk (Grow.refl s) (.int _)⟩
@[simp] def strD : D → Option D
  | .int i => if decide (i.natAbs < 2 ^ 1900) then some (.str (toString i)) else none
  | _ => none
theorem o_str : Op1 K (fun x H Q => (fun xs H Q => ∃ i, xs = [V.int i] ∧ i.natAbs.log2 < 1920 ∧ Q (.str (toString i)) H) [x] H Q) strD := by
  intro H Hk x dx dz Q s vx e q
  unfold strD at e
  split at e
  · rename_i i
    split at e <;> cases e
    rename_i c
    cases vx.int
    refine ⟨_, rfl, ?_, q _ H Hk (Grow.refl s) (.str _)⟩
    have := of_decide_eq_true c
    by_cases h : i.natAbs = 0
    · rw [h]; decide
    · exact Nat.lt_trans ((Nat.log2_lt h).mpr this) (by decide)
  · cases e
end
section
variable {W : WX} {X : Cx} {a b : Expr} {f g : Fe} {pos : Pos}
theorem ev_callB2 {x : Str} {id : String} {p : Pos} {r : List V → Hp → VK → Prop} {op : D → D → Option D} (o : Op2 X.K (fun x y => r [x, y]) op) (hc : CallR X (.builtin id) r) (hm : X.mg x = none) (hg : Gl X x) (hv : bootBuiltins x = some (.builtin id)) (ha : EV X a f) (hb : EV X b g)
    (hn : x ≠ "__name__" := by decide) (hdb : (x == ("__debug__" : Str)) = false := by decide) (he : starEach [a, b] X.env = (false, eval a X.env) :: starEach [b] X.env := by rfl) (he2 : starEach [b] X.env = (false, eval b X.env) :: starEach [] X.env := by rfl) (hpl : (backTo pos (starEach [b] X.env)).any (·.1) = false := by rfl) :
    EV X (.Call (.Name x p) [a, b] [] pos) (f2 op f g) := PE.imp (pe_callB hc hg hm hv (pa_cons ha (pa_cons hb pa_nil he2) he) hn hdb he hpl) fun _ _ _ h => t2 o h
end
/-! ### x += e, x -= e, whole numbers -/
@[simp] def sAug (op : Int → Int → Int) (i : Nat) (f : Fe) : Fs := fun γ => match gt γ i with
  | some (.dat (.int a)) => match f γ with
    | some (.int b, γ1) => if pinB γ1 i then none else some (.nx (γ1.set i (some (.dat (.int (op a b))))))
    | _ => none
  | _ => none
section
variable {W : WX} {X : Cx} {e : Expr} {f : Fe} {pos : Pos}
theorem es_aug {op : Operator} {o : Int → Int → Int} (ho : PIp X op (ipI o)) (i : Nat) {x : Str} {p' : Pos} (hN : X.N.Nodup) (hi : X.N[i]? = some x) (hx : Loc X.env.scope x) (he : EV X e f) (hf : X.fn x = true ∨ X.env.scope.names.lookup x = some .local := by first | exact .inl rfl | exact .inr rfl | assumption) :
    ES X W (.AugAssign (.Name x p') op e pos) (sAug o i f) := PS.imp (ps_aug hN hi hx he ho hf) fun Z σ H ⟨γ, Hk, oo, k, ee, q⟩ => by
  unfold sAug at ee
  split at ee
  · rename_i a ea
    split at ee
    · rename_i b γ1 ef
      split at ee <;> cases ee
      rename_i c
      obtain ⟨v, ev, rv⟩ := k.dat i _ ea
      cases rv
      refine ⟨_, ev, γ, Hk, _, γ1, k, ef, fun v H1 Hk1 g1 r1 => ?_⟩
      cases r1
      exact ⟨a, b, rfl, rfl, q _ _ _ (g1.trans (g1.ok.setDat (.int _) (noPin_of g1.ok (by simpa using c))))⟩
    · cases ee
  · cases ee
end
end DN
namespace DN
open PySem PySem.Spec PyProof.Rows L2
/-! ### enumerate of a tuple -/
section
open AutoSeq1 (wpAny_loadPart')
theorem meets_enumT (l : Addr) (items : Array Value) (n : Nat) (dct : Option Addr) (sl : Array (Option Value)) :
    Meets (Builtin.«enumerate.__new__» ⟨[.type "enumerate", .ref l], []⟩) (fun _ R s => s.heap.get? l = some { cls := .type "tuple", dict := dct, data := .seq items n, slots := sl } ∧
      R (.ok (.ret (.ref (s.heap.push { cls := .type "tuple_iterator", data := .fields #[.ref l, .int 0 0] }).objs.size)))
        { s with heap := (s.heap.push { cls := .type "tuple_iterator", data := .fields #[.ref l, .int 0 0] }).push { cls := .type "enumerate", data := .fields #[.none, .bool false, .ref s.heap.objs.size, rawInt 0, .none, .none] } }) :=
  .of_wp fun prog w A R s h => by
    obtain ⟨hp, g, d, tk, os⟩ := s; obtain ⟨hl, h⟩ := h
    have hsub := sub_enumerate
    have hL : Heap.IsTuple (Shared.heap ⟨hp, g, d, tk, os⟩) l items := ⟨_, hl, rfl, n, rfl⟩
    wp_walk using wpAny_loadPart' hl
    refine wpAny_stack_any fun st => wpAny_pure ?_
    split
    · rename_i c _ _ _ _ _
      cases (c == Value.type "enumerate")
      · wp_walk using wpAny_loadPart' hl, wpAny_pyIter_tuple hL
        exact ⟨_, rfl, h⟩
      · wp_walk using wpAny_loadPart' hl, wpAny_pyIter_tuple hL
        exact ⟨_, rfl, h⟩
    · wp_walk using wpAny_loadPart' hl, wpAny_pyIter_tuple hL
      exact ⟨_, rfl, h⟩
end
section
variable {prog : Program} {w : World} {A : Around} {E : Value → Shared → Prop} {s : Shared}
theorem call_enumT {l : Addr} {items : Array Value} {Q : Value → Shared → Prop} (hL : s.heap.IsTuple l items)
    (h : ∀ h', IsEnum h' (s.heap.objs.size + 1) s.heap.objs.size 0 .none → h'.IsTupleIter s.heap.objs.size l 0 → h'.objs.size = s.heap.objs.size + 2 →
      (∀ b o, s.heap.get? b = some o → h'.get? b = some o) → Q (.ref (s.heap.objs.size + 1)) { s with heap := h' }) :
    wpAny (model prog w) A (call (.type "enumerate") [.ref l]) Q E s := by
  obtain ⟨⟨c, dct, dt, sl⟩, hl, hc, n, hd⟩ := hL
  replace hc : c = .type "tuple" := hc
  replace hd : dt = .seq items n := hd
  subst hc hd
  refine callType_new F.called_enumerate (by decide) (F.typeCall_enumerate_1 _) (F.newCall_enumerate_1 _) (fun obj => F.args_object_init_2 obj _) F.entry_enumerate_new
    (meets_enumT l items n dct sl) ⟨hl, ?_⟩
  have hz : (s.heap.push { cls := .type "tuple_iterator", data := .fields #[.ref l, .int 0 0] }).objs.size = s.heap.objs.size + 1 := Heap.size_push ..
  show _ ∧ _
  rw [hz]
  have he : IsEnum ((s.heap.push { cls := .type "tuple_iterator", data := .fields #[.ref l, .int 0 0] }).push
      { cls := .type "enumerate", data := .fields #[.none, .bool false, .ref s.heap.objs.size, rawInt 0, .none, .none] }) (s.heap.objs.size + 1) s.heap.objs.size 0 .none := by
    have := Heap.get?_push_size (s.heap.push { cls := .type "tuple_iterator", data := .fields #[.ref l, .int 0 0] })
      (o := { cls := .type "enumerate", data := .fields #[.none, .bool false, .ref s.heap.objs.size, rawInt 0, .none, .none] }) rfl
    rw [hz] at this; exact this
  refine ⟨⟨_, he, rfl⟩, h _ he ⟨_, Heap.get?_push_of_some _ (Heap.get?_push_size _ rfl), rfl, rfl⟩ (by rw [Heap.size_push, hz]) fun b o x => Heap.get?_push_of_some _ (Heap.get?_push_of_some _ x)⟩
theorem enumT_end {e it t : Addr} {i : Nat} {k : Int} {items : Array Value} {old : Value} {Q : Option Value → Shared → Prop} (hh : A.handled = none)
    (he : IsEnum s.heap e it k old) (hit : s.heap.IsTupleIter it t i) (hl : s.heap.IsTuple t items) (hx : items[i]? = none)
    (hQ : ∀ h', Heap.ExtBut it s.heap h' → Q none { s with heap := h' }) : wpAny (model prog w) A (pyNext (.ref e)) Q E s := by
  have hT : s.TypeIs (.ref e) "enumerate" := ⟨_, he, rfl⟩
  unfold pyNext
  refine wpAny_bind (wpAny_attempt (wpAny_callSpecial?_slot (name := Str.ofString "__next__") hT F.slot_enumerate_next
    (wpAny_call_entry F.slot_enumerate_next hT F.entry_enumerate_next ?_ (F.args_enumerate_next_1 _))))
  show wpAny _ _ (field (.ref e) 2 >>= _) _ _ _
  refine wpAny_bind (wpAny_field he rfl (x := .ref it) rfl ?_)
  refine wpAny_bind (wpAny_nextOf_tuple_end hh hit hl hx fun h' x he' hx' => ?_)
  obtain ⟨o, ho, hc⟩ := hx'
  refine wpAny_bind (wpAny_isInstance (T := "StopIteration") (b := true) ⟨o, ho, hc⟩ isSubtype_stop ?_)
  exact wpAny_pure (hQ _ he')
end
/-- the tuple at a, each item in a new pair -/
def IteT (K : PySem.W.Frag) (a : Addr) : It :=
  ⟨fun i H => ∃ (xs : List V) (x : V), SqT K H a xs ∧ xs[i]? = some x, fun i H v H' => ∃ T x, v = .ref T ∧ H T = none ∧ H' = upd H T (.tup [.int (i : Nat), x]) ∧ ∀ xs, SqT K H a xs → xs[i]? = some x, fun i H => ∃ xs : List V, SqT K H a xs ∧ xs.length ≤ i⟩
theorem turn_enumT {P : Program} {w : World} {K : PySem.W.Frag} {elts : List Expr} {kk : Nat} {tpos : Pos} (a e it : Addr) :
    Turn P w K (.Tuple elts kk tpos) (IteT K a) [e, it] e (fun i h => (∃ old, IsEnum h e it ((i : Nat) : Int) old) ∧ h.IsTupleIter it a i ∧ e ≠ it) where
  mem := by simp
  obj := fun i h st b hb => by
    obtain ⟨⟨old, he⟩, ⟨o, ho, hc, hd⟩, _⟩ := st
    have e' : b = e ∨ b = it := by simpa using hb
    rcases e' with z | z
    · rw [z]; exact ⟨_, he, fun v q => nomatch q⟩
    · rw [z]; exact ⟨o, ho, fun v q => by rw [hd] at q; cases q⟩
  keep := fun i h h' st k => let ⟨⟨old, he⟩, hi, hne⟩ := st; ⟨⟨old, k e (by simp) _ he⟩, hi.at fun o q => k it (by simp) o q, hne⟩
  item := by
    intro X hP hw hK hc i pins s σ H E I hf st hg
    subst hP hw hK
    obtain ⟨⟨old, he⟩, hit, hne⟩ := st
    obtain ⟨xs, x, hq, hx⟩ := hg
    obtain ⟨its, rv, p, hz⟩ := I.tuple hq
    obtain ⟨u, hu, ru⟩ := rv.get hx
    have hel : e < s.heap.objs.size := Heap.lt_size he
    have hil : it < s.heap.objs.size := by obtain ⟨_, q, _⟩ := hit; exact Heap.lt_size q
    have ht : s.heap.IsTuple a its.toArray := p
    have hai : a ≠ it := by
      rintro rfl
      obtain ⟨o1, e1, c1, _⟩ := hit
      obtain ⟨o2, e2, c2, _⟩ := ht
      rw [e1] at e2; cases e2
      rw [c1] at c2; injection c2 with z; exact absurd z (by decide)
    have hae : a ≠ e := by
      rintro rfl
      obtain ⟨o2, e2, c2, _⟩ := ht
      rw [he] at e2; cases e2
      injection c2 with z; exact absurd z (by decide)
    have hlt : i < its.toArray.size := by
      have := rv.length
      have := (List.getElem?_eq_some_iff.mp hx).1
      simp; omega
    refine wpAny_pyNext_enum_itemD (Draws.tuple (show X.A.in1.handled = none from I.ok.hd hc) it a hai its.toArray) he ⟨hit, ht⟩ hlt hne (by simp [hne, Ne.symm hae]) fun x' h' tk hx' ho hit' hT hsz hk => ?_
    obtain rfl : u = x' := by
      have : its.toArray[i]? = some u := by simpa using hu
      rw [this] at hx'; exact Option.some.inj hx'
    refine ⟨_, rfl, wpAny_letOwnedTupleGo_enum (s := { s with heap := h', toks := tk + 1 }) ho fun h'' he' sb => ?_⟩
    have hT2 : h''.get? s.heap.objs.size = some { cls := .type "tuple", data := .seq #[.int i tk, u] } := (sb.2 _ (Nat.ne_of_gt hel)).trans hT
    have new : ObjOk X.prog X.w (upd H s.heap.objs.size (.tup [.int (i : Nat), x])) h'' s.heap.objs.size (.tup [.int (i : Nat), x]) :=
      ⟨by show 2 ≤ sizeLine; decide, [.int i tk, u], .cons ⟨_, rfl⟩ (.cons ru .nil), ⟨_, hT2, rfl, _, rfl⟩⟩
    have I1 : Inv X pins σ (upd H s.heap.objs.size (.tup [.int (i : Nat), x])) { s with heap := h'', toks := tk + 1 } :=
      I.turnedNew (ch := [e, it]) (fun b ob hb q => (sb.2 b (fun z => hb (by simp [z]))).trans (hk b ob (fun z => hb (by simp [z])) (fun z => hb (by simp [z])) q)) hf (Nat.le_refl _) new
    refine ⟨.ref s.heap.objs.size, _, I1, rfl, ⟨_, x, rfl, I.hok.fresh (Nat.le_refl _), rfl, fun ys hy => by rw [I.tuple_inj hy hq]; exact hx⟩, ⟨⟨u, ?_⟩, hit'.1.at fun o q => (sb.2 it (Ne.symm hne)).trans q, hne⟩, fun b hb => ?_⟩
    · have e1 : ((i + 1 : Nat) : Int) = (i : Int) + 1 := by omega
      rw [e1]; exact he'
    · have hb' : b < s.heap.objs.size := by
        have e' : b = e ∨ b = it := by simpa using hb
        rcases e' with z | z
        · rw [z]; exact hel
        · rw [z]; exact hil
      rw [upd_ne (Nat.ne_of_lt hb')]
      exact (hf b hb).1
  done := by
    intro X hP hw hK hc i pins s σ H E I hf st hg
    subst hP hw hK
    obtain ⟨⟨old, he⟩, hit, hne⟩ := st
    obtain ⟨xs, hq, hx⟩ := hg
    obtain ⟨its, rv, p, hz⟩ := I.tuple hq
    obtain ⟨f0, f1, f2, f3, f4, f5⟩ := hf it (by simp)
    have hl := rv.length
    exact enumT_end (I.ok.hd hc) he hit (show s.heap.IsTuple a its.toArray from p) (by simp; omega) fun h' eb => ⟨rfl, I.turned (t' := s.toks) (fun b o hb q => eb b o hb q) f0 f1 f3 f4 f5⟩
  self := fun A i s Q E st h => let ⟨⟨_, he⟩, _⟩ := st; wpAny_pyIter_enum he h
def iEnumA (K : PySem.W.Frag) (ta : TA) : TI := fun σ H R => ta σ H fun vs H1 => ∃ a xs, vs = [.ref a] ∧ ((SqL K H1 a xs ∧ R (Ite K a) H1) ∨ (SqT K H1 a xs ∧ R (IteT K a) H1))
theorem pi_enumA {X : Cx} {e : Expr} {ta : TA} {p pos tpos : Pos} {elts : List Expr} {kk : Nat} (hg : Gl X "enumerate") (hm : X.mg "enumerate" = none) (ha : PA X [e] ta) (hs : starEach [e] X.env = [(false, eval e X.env)] := by rfl) :
    PI X (.Tuple elts kk tpos) (.Call (.Name "enumerate" p) [e] [] pos) (iEnumA X.K ta) := by
  refine ⟨fun pins s σ H R I h => ?_⟩
  refine Call_ (ld_blt I hg hm boot_enumerate (PyProof.Rows.callWith_type1 (thn (ha.run pos pins s σ H _ I h) fun us s1 ⟨vs, H1, I1, r1, q1⟩ => ?_) hs rfl))
  obtain ⟨a, xs, ex, q⟩ := q1
  subst ex
  have hfp : ∀ b, b ∈ [s1.heap.objs.size + 1, s1.heap.objs.size] → FpOk X pins H1 b := fun b hb => by
    have e' : b = s1.heap.objs.size + 1 ∨ b = s1.heap.objs.size := by simpa using hb
    have hle : s1.heap.objs.size ≤ b := by
      rcases e' with z | z
      · rw [z]; exact Nat.le_add_right _ _
      · rw [z]; exact Nat.le_refl _
    exact I1.fpOk hle (I1.hok.fresh hle)
  cases r1 with
  | cons r rr =>
    cases rr
    cases r
    rcases q with ⟨hq, q⟩ | ⟨hq, q⟩
    · obtain ⟨its, rv, p', hz⟩ := I1.list hq
      refine call_enumerate_list p'.isList fun h' he hit hsz hk => wpAny_pyIter_enum he ?_
      have I2 : Inv X pins σ H1 { s1 with heap := h' } := I1.kept (t' := s1.toks) hk
      exact ⟨s1.heap.objs.size + 1, [s1.heap.objs.size + 1, s1.heap.objs.size], _, _, H1, rfl, I2, turn_enum a (s1.heap.objs.size + 1) s1.heap.objs.size, ⟨⟨.none, he⟩, hit, Nat.succ_ne_self _⟩, hfp, q⟩
    · obtain ⟨its, rv, p', hz⟩ := I1.tuple hq
      refine call_enumT (show s1.heap.IsTuple a its.toArray from p') fun h' he hit hsz hk => wpAny_pyIter_enum he ?_
      have I2 : Inv X pins σ H1 { s1 with heap := h' } := I1.kept (t' := s1.toks) hk
      exact ⟨s1.heap.objs.size + 1, [s1.heap.objs.size + 1, s1.heap.objs.size], _, _, H1, rfl, I2, turn_enumT a (s1.heap.objs.size + 1) s1.heap.objs.size, ⟨⟨.none, he⟩, hit, Nat.succ_ne_self _⟩, hfp, q⟩
def enumL (i : Nat) : List D → List D
  | [] => []
  | d :: r => .tuple [.int (i : Int), d] :: enumL (i + 1) r
theorem enumL_len : ∀ (ds : List D) (i : Nat), (enumL i ds).length = ds.length
  | [], _ => rfl
  | _ :: r, i => congrArg (· + 1) (enumL_len r (i + 1))
theorem enumL_at : ∀ (ds : List D) (i j : Nat) (h : j < ds.length), (enumL i ds)[j]? = some (.tuple [.int ((i + j : Nat) : Int), ds[j]])
  | d :: r, i, 0, _ => rfl
  | d :: r, i, j + 1, h => by
    have := enumL_at r (i + 1) j (by simpa using h)
    simp only [enumL, List.getElem?_cons_succ, List.getElem_cons_succ]
    rw [this, show i + 1 + j = i + (j + 1) by omega]
@[simp] def wEnum (f : Fe) : Fa := fun γ => match f γ with
  | some (.list ds, γ1) => some (enumL 0 ds, γ1)
  | some (.tuple ds, γ1) => some (enumL 0 ds, γ1)
  | _ => none
section
variable {W : WX} {X : Cx} {e : Expr} {f : Fe} {p pos tpos : Pos} {elts : List Expr} {kk : Nat} {K : PySem.W.Frag}
theorem enum_turn {xs : List V} {ds : List D} {Hk H Hc : Hp} (ra : DpAll K Hk xs ds) (s1 : Same Hk Hc) (s2 : Same Hc H) {i : Nat} (hi : i < (enumL 0 ds).length) :
    ∃ x, xs[i]? = some x ∧ ∀ T, H T = none → ∃ Hc', Grow H Hc (upd H T (.tup [.int (i : Nat), x])) Hc' ∧ Dp K Hc' (.ref T) ((enumL 0 ds)[i]) := by
  have hi' : i < ds.length := by rw [enumL_len] at hi; exact hi
  obtain ⟨x, ex, rx⟩ := dps_at ra (List.getElem?_eq_getElem hi')
  refine ⟨x, ex, fun T hT => ⟨upd Hc T (.tup [.int (i : Nat), x]), Grow.new s2 hT, ?_⟩⟩
  have sm : Same Hc (upd Hc T (.tup [.int (i : Nat), x])) := same_upd (s2.free hT)
  have e1 : (enumL 0 ds)[i] = .tuple [.int ((i : Nat) : Int), ds[i]] := by
    have := enumL_at ds 0 i hi'
    rw [List.getElem?_eq_getElem hi] at this
    have := Option.some.inj this
    rw [this, Nat.zero_add]
  rw [e1]
  exact .tup (SqT.of upd_same) (.cons (.int _) (.cons (dp_mono (s1.trans sm) rx) .nil))
theorem walks_el {Hk : Hp} {q : Addr} {xs : List V} {ds : List D} (hx : SqL K Hk q xs) (ra : DpAll K Hk xs ds) : Walks K (Ite K q) (enumL 0 ds) Hk := fun H Hc s1 s2 => by
  have h1 := sql_mono (s1.trans s2) hx
  refine ⟨fun i hi => ?_, fun i hi => ?_⟩
  · obtain ⟨x, ex, mk⟩ := enum_turn ra s1 s2 hi
    refine ⟨⟨xs, x, h1, ex⟩, fun v H' yl => ?_⟩
    obtain ⟨T, x', rfl, hT, rfl, fx⟩ := yl
    have e1 := fx xs h1
    rw [ex] at e1; cases e1
    exact mk T hT
  · rw [enumL_len, ← dps_len ra] at hi
    exact ⟨xs, h1, hi⟩
theorem walks_et {Hk : Hp} {q : Addr} {xs : List V} {ds : List D} (hx : SqT K Hk q xs) (ra : DpAll K Hk xs ds) : Walks K (IteT K q) (enumL 0 ds) Hk := fun H Hc s1 s2 => by
  have h1 := sqt_mono (s1.trans s2) hx
  refine ⟨fun i hi => ?_, fun i hi => ?_⟩
  · obtain ⟨x, ex, mk⟩ := enum_turn ra s1 s2 hi
    refine ⟨⟨xs, x, h1, ex⟩, fun v H' yl => ?_⟩
    obtain ⟨T, x', rfl, hT, rfl, fx⟩ := yl
    have e1 := fx xs h1
    rw [ex] at e1; cases e1
    exact mk T hT
  · rw [enumL_len, ← dps_len ra] at hi
    exact ⟨xs, h1, hi⟩
theorem ei_enum (hm : X.mg "enumerate" = none) (hg : Gl X "enumerate") (h : EV X e f) (hs : starEach [e] X.env = [(false, eval e X.env)] := by rfl) :
    EI X (.Tuple elts kk tpos) (.Call (.Name "enumerate" p) [e] [] pos) (wEnum f) :=
  PI.imp (pi_enumA hg hm (pa_cons h pa_nil hs) hs) fun σ H R ⟨γ, Hk, ds, γ2, o, ee, q⟩ => by
  unfold wEnum at ee
  split at ee <;> cases ee
  · rename_i ds' ef
    refine ⟨γ, Hk, _, _, o, ef, fun v H1 Hk1 g1 r1 => ?_⟩
    cases r1 with
    | lst hx ra => exact ⟨_, _, rfl, .inl ⟨sql_mono g1.ok.sub hx, q _ H1 Hk1 g1 (walks_el hx ra)⟩⟩
  · rename_i ds' ef
    refine ⟨γ, Hk, _, _, o, ef, fun v H1 Hk1 g1 r1 => ?_⟩
    cases r1 with
    | tup hx ra => exact ⟨_, _, rfl, .inr ⟨sqt_mono g1.ok.sub hx, q _ H1 Hk1 g1 (walks_et hx ra)⟩⟩
end
/-! ### targets of comprehensions: tuples of names -/
def TgsOk (K : PySem.W.Frag) (g : TGs) (tg : Fgs) (js : List Nat) : Prop := ∀ vs ds σ H Hk γ γ2 (Q : L2.St → Hp → Prop), Ok K σ H Hk γ → DpAll K Hk vs ds → tg ds γ = some γ2 → (∀ σ2, Go K σ H Hk γ σ2 H Hk γ2 → wipe σ2 js = wipe σ js → Q σ2 H) → g vs σ H Q
theorem wipe_at (τ : L2.St) (js : List Nat) (i : Nat) : (wipe τ js)[i]? = if i ∈ js ∧ i < τ.length then some none else τ[i]? := by
  induction js with
  | nil => simp [wipe]
  | cons v vs ih =>
    show ((wipe τ vs).set v none)[i]? = _
    rw [List.getElem?_set, ih, wipe_length]
    by_cases e : v = i
    · subst e
      by_cases l : v < τ.length
      · simp [l]
      · simp [l]
    · have e' : ¬ i = v := fun z => e z.symm
      simp [e, e']
theorem wipe_set {σ : L2.St} {js : List Nat} {j : Nat} {x : Option V} (h : j ∈ js) : wipe (σ.set j x) js = wipe σ js := by
  apply List.ext_getElem?
  intro i
  rw [wipe_at, wipe_at, List.length_set]
  by_cases c : i ∈ js ∧ i < σ.length
  · rw [if_pos c, if_pos c]
  · rw [if_neg c, if_neg c, List.getElem?_set]
    by_cases e : j = i
    · subst e
      have : ¬ j < σ.length := fun z => c ⟨h, z⟩
      simp [this]
    · simp [e]
theorem wipe_sub {σ : L2.St} {js js1 : List Nat} (h : ∀ j ∈ js1, j ∈ js) : wipe (wipe σ js1) js = wipe σ js := by
  apply List.ext_getElem?
  intro i
  rw [wipe_at, wipe_at, wipe_length, wipe_at]
  by_cases c : i ∈ js ∧ i < σ.length
  · rw [if_pos c, if_pos c]
  · rw [if_neg c, if_neg c, if_neg fun z => c ⟨h i z.1, z.2⟩]
section
variable {K : PySem.W.Frag} {js : List Nat}
theorem tg_n (j : Nat) (h : j ∈ js) : TgOk K (gName j) (gDat j) js := by
  intro v d σ H Hk γ γ2 Q o r e q
  unfold gDat at e
  split at e <;> cases e
  rename_i c
  exact q _ (o.setDat r (noPin_of o (by simpa using c))) (wipe_set h)
theorem tgs_nil : TgsOk K gNil gsNo js := by
  intro vs ds σ H Hk γ γ2 Q o r e q
  unfold gsNo at e
  split at e <;> cases e
  cases r
  exact ⟨rfl, q σ (Go.refl o) rfl⟩
theorem tgs_cons {g : TG} {gs : TGs} {tg : Fg} {tgs : Fgs} (h1 : TgOk K g tg js) (h2 : TgsOk K gs tgs js) : TgsOk K (gCons g gs) (gsCons tg tgs) js := by
  intro vs ds σ H Hk γ γ2 Q o r e q
  unfold gsCons at e
  split at e
  · rename_i d r'
    split at e
    · rename_i γ1 e1
      cases r with
      | cons ra rb => exact ⟨_, _, rfl, h1 _ _ _ _ _ _ _ _ o ra e1 fun σ1 g1 w1 => h2 _ _ _ _ _ _ _ _ g1.ok rb e fun σ2 g2 w2 => q σ2 (g1.trans g2) (w2.trans w1)⟩
    · cases e
  · cases e
theorem tg_t {n : Nat} {gs : TGs} {tgs : Fgs} (h : TgsOk K gs tgs js) : TgOk K (gTup K n gs) (gTp n tgs) js := by
  intro v d σ H Hk γ γ2 Q o r e q
  unfold gTp at e
  split at e
  · rename_i ds
    split at e
    · rename_i hl
      cases r with
      | tup hs ra => exact ⟨_, _, rfl, sqt_mono o.sub hs, by rw [dps_len ra]; exact hl, h _ _ _ _ _ _ _ _ o ra e q⟩
    · cases e
  · cases e
end
/-! ### comprehensions with two clauses -/
def lcF2 (js : List Nat) (tg : Fg) (tt : Ft) (src1 : Fa) (js1 : List Nat) (tg1 : Fg) (tt1 : Ft) (elt : Fe) : List D → En → List D → Option (List D × En)
  | [], γ, acc => some (acc, γ)
  | d :: ds, γ, acc => match tg d γ with
    | some γ0 => match tt γ0 with
      | some (true, γ1) => match src1 γ1 with
        | some (es, γ2) => if noOwns γ2 js1 then match lcF js1 tg1 tt1 elt es (wipeE γ2 js1) acc with
          | some (acc', γ3) => if noOwns γ3 js then lcF2 js tg tt src1 js1 tg1 tt1 elt ds (wipeE γ3 js) acc' else none
          | none => none
          else none
        | none => none
      | some (false, γ1) => if noOwns γ1 js then lcF2 js tg tt src1 js1 tg1 tt1 elt ds (wipeE γ1 js) acc else none
      | none => none
    | none => none
@[simp] def lLc2 (js : List Nat) (tg : Fg) (src : Fa) (tt : Ft) (src1 : Fa) (js1 : List Nat) (tg1 : Fg) (tt1 : Ft) (elt : Fe) : Fa := fun γ => match src γ with
  | some (ds, γ1) => if noOwns γ1 js then match lcF2 js tg tt src1 js1 tg1 tt1 elt ds (wipeE γ1 js) [] with
    | some (out, γ2) => some (out, putBack γ1 γ2 js)
    | none => none
    else none
  | none => none
section
variable {K : PySem.W.Frag}
theorem lc2_imp {js js1 : List Nat} {g g1 : TG} {tg tg1 : Fg} {src src1 : Fa} {tt tt1 : Ft} {elt : Fe} {σ : L2.St} {H : Hp} {Q : VK} (hjs : ∀ j ∈ js1, j ∈ js) (hg : TgOk K g tg js) (hg1 : TgOk K g1 tg1 js1)
    (h : tL K (lLc2 js tg src tt src1 js1 tg1 tt1 elt) σ H Q) : tLc2 (tIt K src) g (tT K tt) (tIt K src1) g1 (tT K tt1) (tI K elt) js js1 σ H Q := by
  obtain ⟨γ, Hk, out, γr, k, e, q⟩ := h
  unfold lLc2 at e
  split at e
  · rename_i ds γ1 es
    split at e
    · rename_i no
      split at e <;> cases e
      rename_i γ2 el
      refine ⟨γ, Hk, ds, γ1, k, es, fun J H1 Hk1 g1' wk L hL => ?_⟩
      have gd := dropAll g1'.ok js no
      have hk1L : Hk1 L = none := g1'.ok.sub.free hL
      let W : Nat → Nat → Hp → Prop := fun i m H' => m = ds.length - i ∧ i ≤ ds.length ∧ ∃ γ' Hk' acc av H0, H' = upd H0 L (.lst av) ∧ H0 L = none ∧ Go K (wipe σ js) H1 Hk1 (wipeE γ1 js) (wipe σ js) H0 Hk' γ' ∧ (∀ j ∈ js, gt γ' j = none) ∧ Hk' L = none ∧ Same Hk1 Hk' ∧ DpAll K Hk' av acc ∧ lcF2 js tg tt src1 js1 tg1 tt1 elt (ds.drop i) γ' acc = some (out, γ2)
      refine ⟨W, ⟨ds.length, by simp, Nat.zero_le _, wipeE γ1 js, Hk1, [], [], H1, rfl, hL, Go.refl gd.ok, fun j hj => gt_wipe_in _ hj, hk1L, Same.refl _, .nil, by simpa using el⟩, ?_⟩
      rintro i m H' ⟨rfl, hi, γ', Hk', acc, av, H0, rfl, h0L, gg, gj, hkL, sk, ra, ef⟩
      obtain ⟨w1, w2⟩ := wk (upd H0 L (.lst av)) Hk' sk (gg.ok.sub.trans (same_upd h0L))
      by_cases hlt : i < ds.length
      · obtain ⟨go, yl⟩ := w1 i hlt
        rw [List.drop_eq_getElem_cons hlt] at ef
        unfold lcF2 at ef
        refine .inr ⟨go, W (i + 1) (ds.length - (i + 1)), fun H3 w => ⟨_, by omega, w⟩, fun x H'' y => ?_⟩
        obtain ⟨Hc, gr, rv⟩ := yl x H'' y
        have ok0 : Ok K (wipe σ js) (upd H0 L (.lst av)) Hk' γ' := gg.ok.grow (Grow.newH gg.ok.sub h0L)
        have gy := ok0.go gr
        split at ef
        · rename_i γ0 etg
          refine hg x ds[i] _ _ Hc γ' γ0 _ gy.ok rv etg fun σ2 gt2 hw => ?_
          rw [wipe_wipe] at hw
          have ga := gy.trans gt2
          refine ⟨hw, ?_⟩
          split at ef
          · rename_i γ3 et
            refine ⟨γ0, Hc, true, γ3, gt2.ok, et, fun H3 Hk3 g3 => iteT ?_⟩
            split at ef
            · rename_i es1 γ4 esrc
              refine ⟨γ3, Hk3, es1, γ4, g3.ok, esrc, fun J1 H4 Hk4 g4 wk1 => ?_⟩
              split at ef
              · rename_i no1
                split at ef
                · rename_i acc' γ6 el1
                  split at ef
                  · rename_i no6
                    obtain ⟨H04, rfl, h04, hk4, g5⟩ := aside gg.ok h0L hkL ((ga.trans g3).trans g4)
                    have gd1 := dropAll g5.ok js1 no1
                    have gB := gg.trans (g5.trans gd1)
                    let W1 : Nat → Nat → Hp → Prop := fun j k H' => k = es1.length - j ∧ j ≤ es1.length ∧ ∃ γ5 Hk5 acc5 av5 H05, H' = upd H05 L (.lst av5) ∧ H05 L = none ∧ Go K (wipe σ js) H1 Hk1 (wipeE γ1 js) (wipe σ2 js1) H05 Hk5 γ5 ∧ (∀ j ∈ js1, gt γ5 j = none) ∧ Hk5 L = none ∧ Same Hk4 Hk5 ∧ DpAll K Hk5 av5 acc5 ∧ lcF js1 tg1 tt1 elt (es1.drop j) γ5 acc5 = some (acc', γ6)
                    have kk4 : Same Hk1 Hk4 := sk.trans g5.kk
                    refine ⟨W1, ⟨es1.length, by simp, Nat.zero_le _, wipeE γ4 js1, Hk4, acc, av, H04, rfl, h04, gB, fun j hj => gt_wipe_in _ hj, hk4, Same.refl _, dps_mono g5.kk ra, by simpa using el1⟩, ?_⟩
                    rintro j k H' ⟨rfl, hj, γ5, Hk5, acc5, av5, H05, rfl, h05L, gg5, gj5, hk5L, sk5, ra5, ef5⟩
                    obtain ⟨v1, v2⟩ := wk1 (upd H05 L (.lst av5)) Hk5 sk5 (gg5.ok.sub.trans (same_upd h05L))
                    by_cases hlt1 : j < es1.length
                    · obtain ⟨go1, yl1⟩ := v1 j hlt1
                      rw [List.drop_eq_getElem_cons hlt1] at ef5
                      unfold lcF at ef5
                      refine .inr ⟨go1, W1 (j + 1) (es1.length - (j + 1)), fun H6 w => ⟨_, by omega, w⟩, fun x1 H6 y1 => ?_⟩
                      obtain ⟨Hc1, gr1, rv1⟩ := yl1 x1 H6 y1
                      have ok5 : Ok K (wipe σ2 js1) (upd H05 L (.lst av5)) Hk5 γ5 := gg5.ok.grow (Grow.newH gg5.ok.sub h05L)
                      have gy1 := ok5.go gr1
                      split at ef5
                      · rename_i γ7 etg1
                        refine hg1 x1 es1[j] _ _ Hc1 γ5 γ7 _ gy1.ok rv1 etg1 fun σ3 gt3 hw1 => ?_
                        rw [wipe_wipe] at hw1
                        have ga1 := gy1.trans gt3
                        have back : ∀ {H8 Hk8 : Hp} {γ8 : En}, Go K (wipe σ2 js1) H05 Hk5 γ5 σ3 H8 Hk8 γ8 → noOwns γ8 js1 = true → Go K (wipe σ js) H1 Hk1 (wipeE γ1 js) (wipe σ2 js1) H8 Hk8 (wipeE γ8 js1) := fun {H8 Hk8 γ8} g8 n8 => by
                          have := (gg5.trans g8).trans (dropAll g8.ok js1 n8)
                          rw [hw1] at this
                          exact this
                        refine ⟨hw1, ?_⟩
                        split at ef5
                        · rename_i γ8 et1
                          refine ⟨γ7, Hc1, true, γ8, gt3.ok, et1, fun H8 Hk8 g8 => iteT ?_⟩
                          split at ef5
                          · rename_i y γ9 ee
                            split at ef5
                            · rename_i c
                              rw [Bool.and_eq_true] at c
                              refine ⟨γ8, Hk8, y, γ9, g8.ok, ee, fun u H9 Hk9 g9 r9 => ?_⟩
                              obtain ⟨H09, rfl, h09, hk9, g10⟩ := aside gg5.ok h05L hk5L ((ga1.trans g8).trans g9)
                              have hla : av5.length = acc5.length := dps_len ra5
                              have kk9 : Same Hk5 Hk9 := g10.kk
                              refine ⟨av5, upd_same, by rw [hla]; exact okN_lt c.1, rfl, hlt1, _, Hk9, acc5 ++ [y], av5 ++ [u], H09, upd_upd, h09, back g10 c.2, fun j hj => gt_wipe_in _ hj, hk9, sk5.trans kk9, ?_, ef5⟩
                              exact dps_app (dps_mono kk9 ra5) (.cons r9 .nil)
                            · cases ef5
                          · cases ef5
                        · rename_i γ8 et1
                          refine ⟨γ7, Hc1, false, γ8, gt3.ok, et1, fun H8 Hk8 g8 => iteF ?_⟩
                          split at ef5
                          · rename_i c
                            obtain ⟨H03, rfl, h03, hk3, g10⟩ := aside gg5.ok h05L hk5L (ga1.trans g8)
                            exact ⟨rfl, hlt1, _, Hk8, acc5, av5, H03, rfl, h03, back g10 c, fun j hj => gt_wipe_in _ hj, hk3, sk5.trans g10.kk, dps_mono g10.kk ra5, ef5⟩
                          · cases ef5
                        · cases ef5
                      · cases ef5
                    · have e0 : j = es1.length := by omega
                      subst e0
                      rw [List.drop_length] at ef5
                      cases ef5
                      refine .inl ⟨v2 _ (Nat.le_refl _), rfl, hlt, wipeE γ6 js, Hk5, acc', av5, H05, rfl, h05L, ?_, fun j hj => gt_wipe_in _ hj, hk5L, kk4.trans sk5, ra5, ef⟩
                      have := gg5.trans (dropAll gg5.ok js no6)
                      rw [wipe_sub hjs, hw] at this
                      exact this
                  · cases ef
                · cases ef
              · cases ef
            · cases ef
          · rename_i γ3 et
            refine ⟨γ0, Hc, false, γ3, gt2.ok, et, fun H3 Hk3 g3 => iteF ?_⟩
            split at ef
            · rename_i c
              obtain ⟨H03, rfl, h03, hk3, g5⟩ := aside gg.ok h0L hkL (ga.trans g3)
              have := (gg.trans g5).trans (dropAll g5.ok js c)
              rw [hw] at this
              exact ⟨rfl, hlt, _, Hk3, acc, av, H03, rfl, h03, this, fun j hj => gt_wipe_in _ hj, hk3, sk.trans g5.kk, dps_mono g5.kk ra, ef⟩
            · cases ef
          · cases ef
        · cases ef
      · have e0 : i = ds.length := by omega
        subst e0
        rw [List.drop_length] at ef
        cases ef
        exact .inl ⟨w2 _ (Nat.le_refl _), q L av H0 Hk' (g1'.trans (restoreAll g1'.ok js _ no gg gj)) h0L ra⟩
    · cases e
  · cases e
end
end DN
namespace DN
open PySem PySem.Spec PyProof.Rows L2
/-! ### comprehensions with two clauses, as rules -/
section
variable {W : WX} {X : Cx} {elt it tge it1 tge1 : Expr} {ifs ifs1 : List Expr} {scope : Scope} {own : List (Str × Nat)} {src src1 : Fa} {g g1 : TG} {tg tg1 : Fg} {tt tt1 : Ft} {ef : Fe} {pos : Pos} {js js1 : List Nat} {y : Str}
theorem el_lc2 (hj : own.map (·.2) = js) (hjs : ∀ j ∈ js1, j ∈ js) (htg : TgOk X.K g tg js) (htg1 : TgOk X.K g1 tg1 js1) (hc : X.calm = true) (hN : X.N.Nodup) (hi : EI X tge it src) (ok : BlkOk X.N X.env.scope scope own)
    (hg : ∀ (s : Shared) (H : Hp) (C : Addr) (cl : List (Str × Addr)) (fp : List Addr), PG (X.blk s H scope (compEnvC scope cl C X.env) fp) tge g)
    (ht : ∀ (s : Shared) (H : Hp) (C : Addr) (cl : List (Str × Addr)) (fp : List Addr), PTs (X.blk s H scope (compEnvC scope cl C X.env) fp) ifs (tT X.K tt))
    (hi1 : ∀ (s : Shared) (H : Hp) (C : Addr) (cl : List (Str × Addr)) (fp : List Addr), EI (X.blk s H scope (compEnvC scope cl C X.env) fp) tge1 it1 src1)
    (hg1 : ∀ (s : Shared) (H : Hp) (C : Addr) (cl : List (Str × Addr)) (fp : List Addr), PG (X.blk s H scope (compEnvC scope cl C X.env) fp) tge1 g1)
    (ht1 : ∀ (s : Shared) (H : Hp) (C : Addr) (cl : List (Str × Addr)) (fp : List Addr), PTs (X.blk s H scope (compEnvC scope cl C X.env) fp) ifs1 (tT X.K tt1))
    (he : ∀ (s : Shared) (H : Hp) (C : Addr) (cl : List (Str × Addr)) (fp : List Addr), EV (X.blk s H scope (compEnvC scope cl C X.env) fp) elt ef) (hs : ∀ x, foldedSetIterable it X.env x = pure x := by intro _; rfl) (hs1 : ∀ env x, foldedSetIterable it1 env x = pure x := by intro _ _; rfl) :
    EL X (.ListComp elt [⟨tge, it, ifs, 0⟩, ⟨tge1, it1, ifs1, 0⟩] scope pos) (lLc2 js tg src tt src1 js1 tg1 tt1 ef) := by
  subst hj
  exact PE.imp (pe_lc2 (te := tI X.K ef) (wi1 := tIt X.K src1) (tt1 := tT X.K tt1) hc hN hi ok hjs hg ht hi1 hg1 ht1 he hs hs1) fun _ _ _ h => lc2_imp hjs htg htg1 h
theorem es_lc2Own (i : Nat) {py spos : Pos} (hj : own.map (·.2) = js) (hjs : ∀ j ∈ js1, j ∈ js) (htg : TgOk X.K g tg js) (htg1 : TgOk X.K g1 tg1 js1) (hc : X.calm = true) (hN : X.N.Nodup) (hy : X.N[i]? = some y) (hyl : X.env.scope.names.lookup y = some .local)
    (hsw : swapsWith (.ListComp elt [⟨tge, it, ifs, 0⟩, ⟨tge1, it1, ifs1, 0⟩] scope pos) (some (.Name y py)) spos.line X.env = pure true) (hi : EI X tge it src) (ok : BlkOk X.N X.env.scope scope own)
    (hg : ∀ (s : Shared) (H : Hp) (C : Addr) (cl : List (Str × Addr)) (fp : List Addr), PG (X.blk s H scope (compEnvC scope cl C X.env) fp) tge g)
    (ht : ∀ (s : Shared) (H : Hp) (C : Addr) (cl : List (Str × Addr)) (fp : List Addr), PTs (X.blk s H scope (compEnvC scope cl C X.env) fp) ifs (tT X.K tt))
    (hi1 : ∀ (s : Shared) (H : Hp) (C : Addr) (cl : List (Str × Addr)) (fp : List Addr), EI (X.blk s H scope (compEnvC scope cl C X.env) fp) tge1 it1 src1)
    (hg1 : ∀ (s : Shared) (H : Hp) (C : Addr) (cl : List (Str × Addr)) (fp : List Addr), PG (X.blk s H scope (compEnvC scope cl C X.env) fp) tge1 g1)
    (ht1 : ∀ (s : Shared) (H : Hp) (C : Addr) (cl : List (Str × Addr)) (fp : List Addr), PTs (X.blk s H scope (compEnvC scope cl C X.env) fp) ifs1 (tT X.K tt1))
    (he : ∀ (s : Shared) (H : Hp) (C : Addr) (cl : List (Str × Addr)) (fp : List Addr), EV (X.blk s H scope (compEnvC scope cl C X.env) fp) elt ef) (hs : ∀ x, foldedSetIterable it X.env x = pure x := by intro _; rfl) (hs1 : ∀ env x, foldedSetIterable it1 env x = pure x := by intro _ _; rfl) :
    ES X W (.Assign [.Name y py] (.ListComp elt [⟨tge, it, ifs, 0⟩, ⟨tge1, it1, ifs1, 0⟩] scope pos) spos) (sOwn i (lLc2 js tg src tt src1 js1 tg1 tt1 ef)) := by
  subst hj
  refine PS.imp (ps_setLc2 (te := tI X.K ef) (wi1 := tIt X.K src1) (tt1 := tT X.K tt1) hc hN hy hyl hsw hi ok hjs hg ht hi1 hg1 ht1 he hs hs1) fun Z σ H h => ?_
  exact lc2_imp hjs htg htg1 (own_imp h)
theorem es_lc2Dat (i : Nat) {py spos : Pos} (hj : own.map (·.2) = js) (hjs : ∀ j ∈ js1, j ∈ js) (htg : TgOk X.K g tg js) (htg1 : TgOk X.K g1 tg1 js1) (hc : X.calm = true) (hN : X.N.Nodup) (hy : X.N[i]? = some y) (hyl : X.env.scope.names.lookup y = some .local)
    (hsw : swapsWith (.ListComp elt [⟨tge, it, ifs, 0⟩, ⟨tge1, it1, ifs1, 0⟩] scope pos) (some (.Name y py)) spos.line X.env = pure true) (hi : EI X tge it src) (ok : BlkOk X.N X.env.scope scope own)
    (hg : ∀ (s : Shared) (H : Hp) (C : Addr) (cl : List (Str × Addr)) (fp : List Addr), PG (X.blk s H scope (compEnvC scope cl C X.env) fp) tge g)
    (ht : ∀ (s : Shared) (H : Hp) (C : Addr) (cl : List (Str × Addr)) (fp : List Addr), PTs (X.blk s H scope (compEnvC scope cl C X.env) fp) ifs (tT X.K tt))
    (hi1 : ∀ (s : Shared) (H : Hp) (C : Addr) (cl : List (Str × Addr)) (fp : List Addr), EI (X.blk s H scope (compEnvC scope cl C X.env) fp) tge1 it1 src1)
    (hg1 : ∀ (s : Shared) (H : Hp) (C : Addr) (cl : List (Str × Addr)) (fp : List Addr), PG (X.blk s H scope (compEnvC scope cl C X.env) fp) tge1 g1)
    (ht1 : ∀ (s : Shared) (H : Hp) (C : Addr) (cl : List (Str × Addr)) (fp : List Addr), PTs (X.blk s H scope (compEnvC scope cl C X.env) fp) ifs1 (tT X.K tt1))
    (he : ∀ (s : Shared) (H : Hp) (C : Addr) (cl : List (Str × Addr)) (fp : List Addr), EV (X.blk s H scope (compEnvC scope cl C X.env) fp) elt ef) (hs : ∀ x, foldedSetIterable it X.env x = pure x := by intro _; rfl) (hs1 : ∀ env x, foldedSetIterable it1 env x = pure x := by intro _ _; rfl) :
    ES X W (.Assign [.Name y py] (.ListComp elt [⟨tge, it, ifs, 0⟩, ⟨tge1, it1, ifs1, 0⟩] scope pos) spos) (sAsg (fL (lLc2 js tg src tt src1 js1 tg1 tt1 ef)) (gDat i)) := by
  subst hj
  refine PS.imp (ps_setLc2 (te := tI X.K ef) (wi1 := tIt X.K src1) (tt1 := tT X.K tt1) hc hN hy hyl hsw hi ok hjs hg ht hi1 hg1 ht1 he hs hs1) fun Z σ H h => ?_
  obtain ⟨γ, Hk, o, k, e, q⟩ := h
  unfold sAsg fL at e
  refine lc2_imp (K := X.K) (tg := tg) (src := src) (tt := tt) (src1 := src1) (tg1 := tg1) (tt1 := tt1) (elt := ef) (Q := fun x H1 => gName i x σ H1 Z.nx) hjs htg htg1 ?_
  cases el : lLc2 (own.map (·.2)) tg src tt src1 js1 tg1 tt1 ef γ with
  | none => rw [el] at e; cases e
  | some r =>
    obtain ⟨ds, γ1⟩ := r
    rw [el] at e
    simp only at e
    cases eg : gDat i (.list ds) γ1 with
    | none => rw [eg] at e; cases e
    | some γ2 =>
      rw [eg] at e; cases e
      refine ⟨γ, Hk, ds, γ1, k, el, fun p vs H2 Hk2 g hp r => ?_⟩
      have g2 : Grow H2 Hk2 (upd H2 p (.lst vs)) (upd Hk2 p (.lst vs)) := Grow.new g.ok.sub hp
      have g3 := g.trans (g.ok.go g2)
      exact gDat_imp ⟨γ1, _, .list ds, γ2, g3.ok, .lst (SqL.of upd_same) (dps_mono g2.kk r), eg, fun σ2 g4 => q σ2 _ _ (g3.trans g4)⟩
end
/-! ### in: texts in texts, data in lists -/
def flatD : D → Bool
  | .none => true
  | .bool _ => true
  | .int _ => true
  | .str _ => true
  | _ => false
def eqF : D → D → Bool
  | .none, .none => true
  | .bool a, .bool b => a == b
  | .int i, .int j => i == j
  | .str a, .str b => a == b
  | .bool a, .int j => (if a then 1 else 0) == j
  | .int i, .bool b => i == (if b then 1 else 0)
  | _, _ => false
def inD : D → D → Option D
  | .str a, .str b => some (.bool (inS a b))
  | x, .list ds => if SeqAt.shaped x && SeqAt.shaped (.list ds) then some (.bool (ds.any fun z => PyData.eqv z x)) else none
  | x, .tuple ds => if SeqAt.shaped x && SeqAt.shaped (.list ds) then some (.bool (ds.any fun z => PyData.eqv z x)) else none
  | _, _ => none
def notInD : D → D → Option D
  | .str a, .str b => some (.bool (!inS a b))
  | x, .list ds => if SeqAt.shaped x && SeqAt.shaped (.list ds) then some (.bool (!ds.any fun z => PyData.eqv z x)) else none
  | x, .tuple ds => if SeqAt.shaped x && SeqAt.shaped (.list ds) then some (.bool (!ds.any fun z => PyData.eqv z x)) else none
  | _, _ => none
section
variable {X : Cx}
/-- x in a list or a tuple of data -/
def rInN (K : PySem.W.Frag) (f : Bool → Bool) : R2 := fun x y H Q => ∃ d c ds, Dp K H x d ∧ Dp K H y c ∧ (c = .list ds ∨ c = .tuple ds) ∧ SeqAt.shaped d = true ∧ SeqAt.shaped (.list ds) = true ∧ Q (.bl (f (ds.any fun z => PyData.eqv z d))) H
theorem op_inN (hu : X.A.units + 65 < cLine) : OpR X (compareOp .In) (rInN X.K id) := by
  intro pins s σ H x y v u Q I rx ry h
  obtain ⟨d, c, ds, hd, he, hc, sd, se, q⟩ := h
  obtain ⟨as, r1⟩ := Dp.reads I hd rx
  obtain ⟨bs, r2⟩ := Dp.reads I he ry
  rcases hc with rfl | rfl
  · exact SeqAt.in_list_reads r2 r1 (SeqAt.canLay_of_shaped se) (SeqAt.canLay_of_shaped sd) (room_in_shaped sd hu) ⟨.bl _, H, I, rfl, q⟩
  · exact SeqAt.in_tuple_reads r2 r1 (SeqAt.canLay_of_shaped se) (SeqAt.canLay_of_shaped sd) (room_in_shaped sd hu) ⟨.bl _, H, I, rfl, q⟩
theorem op_notInN (hu : X.A.units + 65 < cLine) : OpR X (compareOp .NotIn) (rInN X.K not) := by
  intro pins s σ H x y v u Q I rx ry h
  obtain ⟨d, c, ds, hd, he, hc, sd, se, q⟩ := h
  obtain ⟨as, r1⟩ := Dp.reads I hd rx
  obtain ⟨bs, r2⟩ := Dp.reads I he ry
  rcases hc with rfl | rfl
  · exact SeqAt.notIn_list_reads r2 r1 (SeqAt.canLay_of_shaped se) (SeqAt.canLay_of_shaped sd) (room_in_shaped sd hu) ⟨.bl _, H, I, rfl, q⟩
  · exact SeqAt.notIn_tuple_reads r2 r1 (SeqAt.canLay_of_shaped se) (SeqAt.canLay_of_shaped sd) (room_in_shaped sd hu) ⟨.bl _, H, I, rfl, q⟩
end
section
variable {K : PySem.W.Frag}
theorem o_in : Op2 K (fun x y H Q => (∃ i j, x = .str i ∧ y = .str j ∧ Q (.bl (!(Builtin.Str.occurrences j i 0 j.length 1).isEmpty)) H) ∨ rInN K id x y H Q) inD := by
  intro H Hk x y dx dy dz Q s vx vy e q
  unfold inD at e
  split at e
  · cases e
    exact .inl ⟨_, _, vx.str, vy.str, q _ H Hk (Grow.refl s) (.bl _)⟩
  · split at e <;> cases e
    rename_i c
    rw [Bool.and_eq_true] at c
    exact .inr ⟨_, _, _, vx.dp s, vy.dp s, .inl rfl, c.1, c.2, q _ H Hk (Grow.refl s) (.bl _)⟩
  · split at e <;> cases e
    rename_i c
    rw [Bool.and_eq_true] at c
    exact .inr ⟨_, _, _, vx.dp s, vy.dp s, .inr rfl, c.1, c.2, q _ H Hk (Grow.refl s) (.bl _)⟩
  · cases e
theorem o_notIn : Op2 K (fun x y H Q => (∃ i j, x = .str i ∧ y = .str j ∧ Q (.bl (!(!(Builtin.Str.occurrences j i 0 j.length 1).isEmpty))) H) ∨ rInN K not x y H Q) notInD := by
  intro H Hk x y dx dy dz Q s vx vy e q
  unfold notInD at e
  split at e
  · cases e
    exact .inl ⟨_, _, vx.str, vy.str, q _ H Hk (Grow.refl s) (.bl _)⟩
  · split at e <;> cases e
    rename_i c
    rw [Bool.and_eq_true] at c
    exact .inr ⟨_, _, _, vx.dp s, vy.dp s, .inl rfl, c.1, c.2, q _ H Hk (Grow.refl s) (.bl _)⟩
  · split at e <;> cases e
    rename_i c
    rw [Bool.and_eq_true] at c
    exact .inr ⟨_, _, _, vx.dp s, vy.dp s, .inr rfl, c.1, c.2, q _ H Hk (Grow.refl s) (.bl _)⟩
  · cases e
theorem x_in {X : Cx} (hr : X.A.units + 65 < cLine) : OpR X (compareOp .In) (fun x y H Q => (∃ i j, x = .str i ∧ y = .str j ∧ Q (.bl (!(Builtin.Str.occurrences j i 0 j.length 1).isEmpty)) H) ∨ rInN X.K id x y H Q) := op_in_str.or (op_inN hr)
theorem x_notIn {X : Cx} (hr : X.A.units + 65 < cLine) : OpR X (compareOp .NotIn) (fun x y H Q => (∃ i j, x = .str i ∧ y = .str j ∧ Q (.bl (!(!(Builtin.Str.occurrences j i 0 j.length 1).isEmpty))) H) ∨ rInN X.K not x y H Q) := op_notIn_str.or (op_notInN hr)
/-! ### all, any, sum -/
def boolsD : List D → Option (List Bool)
  | [] => some []
  | .bool i :: r => (boolsD r).map (i :: ·)
  | _ => none
theorem boolsD_dps {H : Hp} : ∀ {vs : List V} {ds : List D} {ns : List Bool}, DpAll K H vs ds → boolsD ds = some ns → vs = ns.map V.bl
  | _, _, ys, .nil, e => by cases e; rfl
  | _, _, ys, .cons h t, e => by
    unfold boolsD at e
    split at e
    · rename_i e2; cases e2
    · rename_i e2; cases e2
      obtain ⟨zs, e3, e4⟩ := Option.map_eq_some_iff.mp e
      subst e4
      cases h
      rw [boolsD_dps t e3]; rfl
    · cases e
theorem boolsD_map : ∀ ns : List Bool, boolsD (ns.map .bool) = some ns
  | [] => rfl
  | n :: r => by
    show (boolsD (r.map .bool)).map (n :: ·) = _
    rw [boolsD_map r]; rfl
@[simp] def allD : D → Option D
  | .list ds => match boolsD ds with
    | some bs => some (.bool (bs.all id))
    | none => none
  | _ => none
@[simp] def anyD : D → Option D
  | .list ds => match boolsD ds with
    | some bs => some (.bool (bs.any id))
    | none => none
  | _ => none
@[simp] def sumD : D → Option D
  | .list ds => match intsD ds with
    | some ns => some (.int ns.sum)
    | none => none
  | _ => none
theorem o_all : Op1 K (fun x => rAll K [x]) allD := by
  intro H Hk x dx dz Q s vx e q
  unfold allD at e
  split at e
  · split at e <;> cases e
    rename_i en
    obtain ⟨p, vs, rfl, sp, ap⟩ := vx.lst s
    cases boolsD_dps ap en
    exact ⟨p, _, rfl, sp, q _ H Hk (Grow.refl s) (.bl _)⟩
  · cases e
theorem o_any : Op1 K (fun x => rAny K [x]) anyD := by
  intro H Hk x dx dz Q s vx e q
  unfold anyD at e
  split at e
  · split at e <;> cases e
    rename_i en
    obtain ⟨p, vs, rfl, sp, ap⟩ := vx.lst s
    cases boolsD_dps ap en
    exact ⟨p, _, rfl, sp, q _ H Hk (Grow.refl s) (.bl _)⟩
  · cases e
theorem o_sum : Op1 K (fun x => rSum K [x]) sumD := by
  intro H Hk x dx dz Q s vx e q
  unfold sumD at e
  split at e
  · split at e <;> cases e
    rename_i en
    obtain ⟨p, vs, rfl, sp, ap⟩ := vx.lst s
    cases intsD_dps ap en
    exact ⟨p, _, rfl, sp, q _ H Hk (Grow.refl s) (.int _)⟩
  · cases e
end
/-! ### [e] * n -/
@[simp] def lRep (fl : Fa) (g : Fe) : Fa := fun γ => match fl γ with
  | some (ds, γ1) => match g γ1 with
    | some (.int k, γ2) => if decide (ds.length * k.toNat ≤ 1000000) && small62 k then some ((List.replicate k.toNat ds).flatten, γ2) else none
    | _ => none
  | none => none
theorem dps_rep {K : PySem.W.Frag} {H : Hp} {vs : List V} {ds : List D} (h : DpAll K H vs ds) : ∀ n, DpAll K H (List.replicate n vs).flatten (List.replicate n ds).flatten
  | 0 => .nil
  | n + 1 => by
    simp only [List.replicate_succ, List.flatten_cons]
    exact dps_app h (dps_rep h n)
section
variable {W : WX} {X : Cx} {a b e : Expr} {f g : Fe} {fl : Fa} {pos : Pos} {s : Stmt}
theorem el_rep (ha : EL X a fl) (hb : EV X b g) : EL X (.BinOp a .Mult b pos) (lRep fl g) := PE.imp (pe_op op_rep ha hb) fun σ H Q ⟨γ, Hk, ds, γ2, o, ee, q⟩ => by
  unfold lRep at ee
  split at ee
  · rename_i ds0 γ1 ef
    split at ee
    · rename_i k γ2' eg
      split at ee <;> cases ee
      rename_i c
      rw [Bool.and_eq_true] at c
      obtain ⟨c2, c3⟩ := small_of c.2
      refine ⟨γ, Hk, ds0, γ1, o, ef, fun p vs H2 Hk2 g1 hp r => ?_⟩
      have gr : Grow H2 Hk2 (upd H2 p (.lst vs)) Hk2 := Grow.newH g1.ok.sub hp
      have g2 := g1.ok.go gr
      have nown : ¬ OwnA X.K σ (upd H2 p (.lst vs)) Hk2 γ1 p := fun z => (OwnA.grown g1.ok gr z).noN hp
      refine ⟨γ1, Hk2, _, _, g2.ok, eg, fun v H3 Hk3 g3 r3 => ?_⟩
      cases r3
      have hp3 := g3.kp p _ upd_same nown
      refine ⟨p, k, vs, rfl, rfl, hp3, by omega, by omega, ?_, fun p2 hp2 => q p2 _ H3 Hk3 ((g1.trans g2).trans g3) hp2 (dps_rep (dps_mono g3.kk r) _)⟩
      rw [dps_len r]
      exact Nat.le_trans (of_decide_eq_true c.1) (by decide)
    · cases ee
  · cases ee
/-! ### raise: what is not asked here -/
@[simp] def sNone : Fs := fun _ => none
theorem es_raise : ES X W s sNone := ⟨fun pins s σ H D I ⟨γ, Hk, o, k, e, q⟩ => by cases e⟩
/-! ### a = b = e -/
@[simp] def sAsg2 (f : Fe) (i j : Nat) : Fs := fun γ => match f γ with
  | some (d, γ1) => if pinB γ1 i || pinB γ1 j then none else some (.nx ((γ1.set i (some (.dat d))).set j (some (.dat d))))
  | none => none
theorem pin_set {γ : En} {i : Nat} {d : D} : ∀ {j : Nat}, pinB γ j = false → pinB (γ.set i (some (.dat d))) j = false
  | j + 1, _ => rfl
  | 0, h => by
    unfold pinB at h ⊢
    simp only at h ⊢
    rw [gt_set]
    by_cases c : i = 0 ∧ i < γ.length
    · rw [if_pos c]
    · rw [if_neg c]; exact h
theorem es_asg2 {t1 t2 : Expr} (i j : Nat) (he : EV X e f) (h1 : PG X t1 (gName i)) (h2 : PG X t2 (gName j)) (ha : (assignEach [t1, t2] X.env).map (·.2) = [assign t1 X.env, assign t2 X.env] := by rfl) (hw : swappedStores [t1, t2] e X.env = pure none := by rfl) :
    ES X W (.Assign [t1, t2] e pos) (sAsg2 f i j) := PS.imp (ps_asg2 he h1 h2 ha hw) fun Z σ H ⟨γ, Hk, o, k, ee, q⟩ => by
  unfold sAsg2 at ee
  split at ee
  · rename_i d γ1 ef
    split at ee <;> cases ee
    rename_i c
    simp only [Bool.or_eq_true, not_or, Bool.not_eq_true] at c
    refine ⟨γ, Hk, d, γ1, k, ef, fun v H1 Hk1 g1 r1 => ?_⟩
    have g2 := g1.ok.setDat r1 (noPin_of g1.ok c.1)
    have g3 := g2.ok.setDat r1 (noPin_of g2.ok (pin_set c.2))
    exact q _ _ _ ((g1.trans g2).trans g3)
  · cases ee
/-! ### own lists lent to a def that tells a number, a truth, a text, or nothing -/
def atomD : D → Bool
  | .none => true
  | .bool _ => true
  | .int _ => true
  | .str _ => true
  | _ => false
inductive VwAll (K : PySem.W.Frag) (H Hk : Hp) : List V → List D → Prop where
  | nil : VwAll K H Hk [] []
  | cons {v : V} {d : D} {vs : List V} {ds : List D} : Vw K H Hk v d → VwAll K H Hk vs ds → VwAll K H Hk (v :: vs) (d :: ds)
theorem VwAll.dps {K : PySem.W.Frag} {H Hk : Hp} (s : Same Hk H) : ∀ {vs : List V} {ds : List D}, VwAll K H Hk vs ds → DpAll K H vs ds
  | _, _, .nil => .nil
  | _, _, .cons h t => .cons (h.dp s) (VwAll.dps s t)
def tAL (K : PySem.W.Frag) (fa : Fa) : TA := fun σ H Q => ∃ γ Hk ds γ2, Ok K σ H Hk γ ∧ fa γ = some (ds, γ2) ∧ ∀ vs H2 Hk2, Go K σ H Hk γ σ H2 Hk2 γ2 → VwAll K H2 Hk2 vs ds → Q vs H2
def EAL (X : Cx) (es : List Expr) (fa : Fa) : Prop := PA X es (tAL X.K fa)
theorem eal_nil : EAL X [] aNil := PA.imp pa_nil fun σ H Q ⟨γ, Hk, ds, γ2, o, e, q⟩ => by
  cases e
  exact q [] H Hk (Go.refl o) .nil
@[simp] def aLend (i : Nat) (fa : Fa) : Fa := fun γ => match view γ i with
  | some _ => match fa γ with
    | some (ds, γ1) => match view γ1 i with
      | some d => some (d :: ds, γ1)
      | none => none
    | none => none
  | none => none
variable {es : List Expr} {fa : Fa}
theorem eal_lend {i : Nat} (h : PE X e (tVar i)) (hr : EAL X es fa) (hs : starEach (e :: es) X.env = (false, eval e X.env) :: starEach es X.env := by rfl) : EAL X (e :: es) (aLend i fa) := PA.imp (pa_cons h hr hs) fun σ H Q ⟨γ, Hk, ds, γ2, o, ee, q⟩ => by
  unfold aLend at ee
  split at ee
  · rename_i d0 e0
    split at ee
    · rename_i ds' γ1 efa
      split at ee <;> cases ee
      rename_i d e1
      obtain ⟨v, ev, _⟩ := o.view e0
      refine ⟨v, ev, γ, Hk, ds', _, o, efa, fun vs H2 Hk2 g2 r2 => ?_⟩
      obtain ⟨v', ev', w⟩ := g2.ok.view e1
      rw [ev] at ev'; cases ev'
      exact q _ H2 Hk2 g2 (.cons w r2)
    · cases ee
  · cases ee
theorem vw_later {K : PySem.W.Frag} {Hk H2 Hk2 : Hp} {v : V} {d : D} (h : Dp K Hk v d) (k : Same Hk Hk2) : Vw K H2 Hk2 v d := .inl (dp_mono k h)
theorem eal_cons (h : EV X e f) (hr : EAL X es fa) (hs : starEach (e :: es) X.env = (false, eval e X.env) :: starEach es X.env := by rfl) : EAL X (e :: es) (aCons f fa) := PA.imp (pa_cons h hr hs) fun σ H Q ⟨γ, Hk, ds, γ2, o, ee, q⟩ => by
  unfold aCons at ee
  split at ee
  · rename_i d γ1 ef
    split at ee <;> cases ee
    rename_i ds' efa
    exact ⟨γ, Hk, d, γ1, o, ef, fun v H1 Hk1 g1 r1 => ⟨γ1, Hk1, ds', γ2, g1.ok, efa, fun vs H2 Hk2 g2 r2 => q _ H2 Hk2 (g1.trans g2) (.cons (vw_later r1 g2.kk) r2)⟩⟩
  · cases ee
@[simp] def fCallL (n : Nat) (F : Fun') (fa : Fa) : Fe := fun γ => match fa γ with
  | some (ds, γ1) => if ds.length = n then match F ds with
    | some (d, _) => if atomD d then some (d, γ1) else none
    | none => none
    else none
  | none => none
theorem atom_dp {K : PySem.W.Frag} {H H' : Hp} {v : V} {d : D} (h : Dp K H v d) (a : atomD d = true) : Dp K H' v d := by
  cases h with
  | non => exact .non
  | bl b => exact .bl b
  | int i => exact .int i
  | str x => exact .str x
  | lst _ _ => cases a
  | tup _ _ => cases a
  | dct _ _ _ _ _ _ => cases a
theorem ev_callL {x : Str} {k n : Nat} {ps : List Str} {F : Fun'} {p : Pos} (C : Cal X.prog X.w X.K X.mg X.base x k ps false F) (hr : Room k X.A) (hG : X.A.guards = some []) (hg : Gl X x) (ha : EAL X (e :: es) fa) (hn : ps.length = n := by rfl)
    (hdb : (x == ("__debug__" : Str)) = false := by decide) (he : starEach (e :: es) X.env = (false, eval e X.env) :: starEach es X.env := by rfl) (hpl : (backTo pos (starEach es X.env)).any (·.1) = false := by rfl) :
    EV X (.Call (.Name x p) (e :: es) [] pos) (fCallL n F fa) := by
  subst hn
  obtain ⟨f, fd, G, hm, hk, hb⟩ := C
  refine ⟨fun pins s σ H Q I h => ?_⟩
  obtain ⟨γ, Hk, d, γ2, ok, ee, q⟩ := h
  unfold fCallL at ee
  split at ee
  · rename_i ds γ1 ea
    split at ee
    · rename_i hl
      split at ee
      · rename_i d' out eF
        split at ee <;> cases ee
        rename_i at'
        refine wpAny_Call_Name_kw (ld_glob I hg hm ?_ hdb)
        refine PySem.W.callWith_K (h₀ := X.base) I.ok.mod.kin hk (thn (ha.run pos pins s σ H (fun vs H1 => spD X.K false ps.length F vs H1 Q) I ⟨γ, Hk, ds, _, ok, ea, fun vs H1 Hk1 g1 r1 => ?_⟩) fun us s1 ⟨vs, H1, I1, r, q1⟩ => ⟨I1.kIn, ?_⟩) he hpl
        · have rd := r1.dps g1.ok.sub
          refine ⟨by rw [dps_len rd]; exact hl, H1, ds, d, out, Same.refl _, rd, eF, fun v H2 Hk2 s2 k2 nw kp r2 _ => ?_⟩
          have hh : Same H1 H2 := fun a u h => kp a u h fun z => absurd z Bool.false_ne_true
          exact q v H2 Hk1 (g1.trans (g1.ok.go ⟨hh, Same.refl _, g1.ok.sub.trans hh, fun a u h n => by rw [h] at n; cases n⟩)) (atom_dp r2 at')
        · exact runG G hr hG hb I1 r q1
      · cases ee
    · cases ee
  · cases ee
end
/-! ### t[::-1], t a tuple (a text: ev_rev) -/
section
variable {prog : Program} {w : World} {A : Around} {E : Value → Shared → Prop} {s : Shared}
theorem adjust_rev (n : Nat) : Builtin.Slice.sliceAdjust none none (-1) (n : Int) = ((n : Int) - 1, -1) := by
  unfold Builtin.Slice.sliceAdjust
  simp
theorem places_rev (n : Nat) : Builtin.Slice.slicePlaces ((n : Int) - 1) (-1) (-1) = n := by
  unfold Builtin.Slice.slicePlaces
  have h1 : ¬ ((-1 : Int) > 0) := by omega
  simp only [h1, if_false]
  split
  · have : ((n : Int) - 1 - -1 - 1) / - -1 + 1 = n := by
      rw [show - -1 = (1 : Int) from rfl, Int.ediv_one]; omega
    omega
  · omega
theorem fm_congr {α β : Type} {f g : α → Option β} : ∀ {l : List α}, (∀ m ∈ l, f m = g m) → l.filterMap f = l.filterMap g
  | [], _ => rfl
  | a :: r, h => by
    rw [List.filterMap_cons, List.filterMap_cons, h a (by simp), fm_congr fun m hm => h m (by simp [hm])]
theorem pick_rev (xs : Array Value) : ((List.range xs.size).filterMap fun (m : Nat) => xs[((xs.size : Int) - 1 + (m : Int) * (-1)).toNat]?).toArray = xs.toList.reverse.toArray := by
  have e : ((List.range xs.size).filterMap fun (m : Nat) => xs[((xs.size : Int) - 1 + (m : Int) * (-1)).toNat]?) = ((List.range xs.size).map fun k => xs.size - 1 - k).filterMap (xs[·]?) := by
    rw [List.filterMap_map]
    refine fm_congr fun m hm => ?_
    rw [List.mem_range] at hm
    have : ((xs.size : Int) - 1 + (m : Int) * (-1)).toNat = xs.size - 1 - m := by omega
    rw [this]; rfl
  rw [e, PySem.W.krv_range, List.filterMap_reverse, PySem.W.krv_all]
theorem getItem_tuple_rev {t sl : Addr} {items : Array Value} {vl vu : Value} {tk : Tok} {Q : Value → Shared → Prop} (ht : IsTup s.heap t items) (hs : s.heap.IsSliceOf sl vl vu (.int (-1) tk)) (pl : IsPart vl none) (pu : IsPart vu none)
    (h : Q (.ref s.heap.objs.size) { s with heap := s.heap.push { cls := .type "tuple", data := .seq items.toList.reverse.toArray } })
    (hsz : items.size ≤ sizeLine) : wpAny (model prog w) A (getItem (.ref t) (.ref sl)) Q E s := by
  have htake : sizeOk (.seq items.toList.reverse.toArray) := by
    show items.toList.reverse.toArray.size ≤ sizeLine
    simpa using hsz
  obtain ⟨os, hos, hcs, hds⟩ := id hs
  have hTs : s.TypeIs (.ref sl) "slice" := ⟨os, hos, hcs⟩
  unfold getItem
  try with_reducible refine wpAny_holding ?_
  first | refine wpAny_bind (wpAny_pure ?_) | skip
  refine wpAny_bind (wpAny_sequenceKey ht.typeIs (by decide) ?_)
  refine wpAny_bind (wpAny_callSpecial?_slot (name := Str.ofString "__getitem__") ht.typeIs PyProof.Rows.slot_tuple_getitem
    (wpAny_call_entry PyProof.Rows.slot_tuple_getitem ht.typeIs PyProof.Rows.entry_tuple_getitem ?_ (PyProof.Rows.args_tuple_getitem _ _)))
  show wpAny _ _ (Builtin.Tuple.tupleItemsOf (.ref t) >>= _) _ _ s
  refine wpAny_bind (tupleItemsOf_ ht ?_)
  refine wpAny_bind (wpAny_typeOf hTs ?_)
  rw [if_pos (by decide)]
  have ap : ∀ {Q : Int × Int × Nat → Shared → Prop}, Q ((items.size : Int) - 1, -1, items.size) s → wpAny (model prog w) A.in1 (Builtin.Slice.sliceApplied (.ref sl) (pure ((items.size : Nat) : Int))) Q E s := fun {Q} h => by
    unfold Builtin.Slice.sliceApplied Builtin.Slice.sliceFields
    refine wpAny_bind (wpAny_bind (wpAny_field hos hds (x := vl) rfl (wpAny_bind (wpAny_field hos hds (x := vu) rfl (wpAny_bind (wpAny_field hos hds (x := .int (-1) tk) rfl (wpAny_pure ?_)))))))
    refine wpAny_bind (HT.slicePart_ (.int _ _) ?_)
    show wpAny _ _ (if ((-1 : Int) == 0) = true then _ else _) _ _ s
    rw [if_neg (by decide)]
    refine wpAny_bind (HT.slicePart_ pl (wpAny_bind (HT.slicePart_ pu (wpAny_bind (wpAny_pure ?_)))))
    show wpAny _ _ (match Builtin.Slice.sliceAdjust none none (-1) ((items.size : Nat) : Int) with | (lo, hi) => pure (lo, (-1 : Int), Builtin.Slice.slicePlaces lo hi (-1))) _ _ s
    rw [adjust_rev]
    show wpAny _ _ (pure (((items.size : Int) - 1), (-1 : Int), Builtin.Slice.slicePlaces ((items.size : Int) - 1) (-1) (-1))) _ _ s
    rw [places_rev]
    exact wpAny_pure h
  refine wpAny_bind (ap ?_)
  have hno : ¬ (((((items.size : Nat) : Int) - 1) == 0 && (-1 : Int) == 1 && items.size == items.size) = true) := by
    intro q
    rw [Bool.and_eq_true, Bool.and_eq_true] at q
    exact absurd q.1.2 (by decide)
  show wpAny _ _ (if ((((items.size : Nat) : Int) - 1) == 0 && (-1 : Int) == 1 && items.size == items.size) = true then _ else _) _ _ s
  rw [if_neg hno, pick_rev]
  first
    | exact wpAny_bind (m := Builtin.Tuple.tupleExact _) (wpAny_newObj_type (wpAny_pure ⟨_, rfl, wpAny_pure h⟩) htake)
    | exact wpAny_bind (m := Builtin.Tuple.tupleExact _) (wpAny_newObj_type (wpAny_bind (wpAny_pure (wpAny_pure ⟨_, rfl, wpAny_pure h⟩))) htake)
    | exact wpAny_bind (wpAny_bind (m := Builtin.Tuple.tupleExact _) (wpAny_newObj_type (wpAny_pure (wpAny_pure ⟨_, rfl, wpAny_pure h⟩)) htake))
    | exact wpAny_bind (wpAny_bind (m := Builtin.Tuple.tupleExact _) (wpAny_newObj_type (wpAny_pure ⟨_, rfl, wpAny_pure h⟩) htake))
end
@[simp] def revTD : D → Option D
  | .tuple ds => some (.tuple ds.reverse)
  | _ => none
theorem dps_rev {K : PySem.W.Frag} {H : Hp} : ∀ {vs : List V} {ds : List D}, DpAll K H vs ds → DpAll K H vs.reverse ds.reverse
  | _, _, .nil => .nil
  | _, _, .cons h t => by
    simp only [List.reverse_cons]
    exact dps_app (dps_rev t) (.cons h .nil)
section
variable {W : WX} {X : Cx} {e : Expr} {f : Fe} {pos : Pos}
theorem ev_revT {k : Nat} {p1 p2 p3 : Pos} (he : EV X e f) : EV X (.Subscript e (.Slice none none (some (.UnaryOp .USub (.Constant (.int 1) k p1) p2)) p3) pos) (f1 revTD f) := by
  refine ⟨fun pins s σ H Q I h => ?_⟩
  obtain ⟨γ, Hk, dd, γ2, ok, ee, q⟩ := h
  unfold f1 at ee
  split at ee
  · rename_i dx γ1 ef
    split at ee
    · rename_i z eo
      cases ee
      unfold revTD at eo
      split at eo <;> cases eo
      rename_i ds
      refine Subscript_ (thn (he.run pins s σ H (fun v2 H2 => ∃ a xs Hk2, v2 = .ref a ∧ SqT X.K H2 a xs ∧ DpAll X.K Hk2 xs ds ∧ Go X.K σ H Hk γ σ H2 Hk2 γ2) I ⟨γ, Hk, _, _, ok, ef, fun v2 H2 Hk2 g2 r2 => by
        cases r2 with
        | tup hs ra => exact ⟨_, _, Hk2, rfl, sqt_mono g2.ok.sub hs, ra, g2⟩⟩) fun v s1 ⟨x, H1, I1, r1, a, xs, Hk2, ex, hx, ra, g2⟩ => ?_)
      subst ex
      cases r1
      have hst : PO X (some (.UnaryOp .USub (.Constant (.int 1) k p1) p2)) (tPart (tUn (rU fun i => .int (-i)) (tC (.int 1)))) := po_some (pe_un un_neg pe_int)
      refine wpAny_Slice (thn (po_none.run pins s1 σ H1 (fun o H2 => o = none ∧ H2 = H1) I1 ⟨rfl, rfl⟩) fun vl s2 ⟨l, H2, I2, pl, el, e2⟩ => ?_)
      subst el e2
      refine thn (po_none.run pins s2 σ H2 (fun o H3 => o = none ∧ H3 = H2) I2 ⟨rfl, rfl⟩) fun vu s3 ⟨u, H3, I3, pu, eu, e3⟩ => ?_
      subst eu e3
      refine thn (hst.run pins s3 σ H3 (fun o H4 => o = some (-1) ∧ H4 = H3) I3 ⟨1, rfl, -1, rfl, rfl, rfl⟩) fun vs s4 ⟨o, H4, I4, ps, eo, e4⟩ => ?_
      subst eo e4
      have I5 : Inv X pins σ H4 { s4 with heap := s4.heap.push { cls := .type "slice", data := .fields #[vl, vu, vs] } } := I4.kept (t' := s4.toks) fun b ob q => Heap.get?_push_of_some _ q
      obtain ⟨its, r, ht, hz⟩ := I5.tuple hx
      have hlen := r.length
      cases ps
      show wpAny (model X.prog X.w) X.A (subscriptTail e (.Slice none none (some (.UnaryOp .USub (.Constant (.int 1) k p1) p2)) p3) (.ref a) (.ref s4.heap.objs.size)) (EP X pins σ Q) X.xe _
      refine tail_any (ops := [.ref a, .ref s4.heap.objs.size]) ht.typeIs (PyProof.Rows.slot_tuple_getitem.lookup) ?_ (by with_unfolding_all rfl)
      refine getItem_tuple_rev ht (Heap.IsSliceOf.new _ vl vu _) pl pu ?_ (by rw [List.size_toArray]; omega)
      have fr := I5.hok.fresh (Nat.le_refl _)
      have gr : Grow H4 Hk2 (upd H4 _ (.tup xs.reverse)) (upd Hk2 _ (.tup xs.reverse)) := Grow.new g2.ok.sub fr
      refine ⟨.ref _, _, I5.laid (t' := s4.toks) (o := .tup xs.reverse) (fun b ob q => Heap.get?_push_of_some _ q) (Nat.le_refl _) ?_, rfl, q _ _ _ (g2.trans (g2.ok.go gr)) (.tup (SqT.of upd_same) (dps_mono gr.kk (dps_rev ra)))⟩
      exact ⟨by rw [List.length_reverse]; exact hz, _, r.reverse, IsTup.new _ _⟩
    · cases ee
  · cases ee
end
end DN
namespace DN
open PySem PySem.Spec PyProof.Rows L2
theorem u65 {k : Nat} {A : Around} (r : Room k A) : A.units + 65 < cLine := by have := r.un; omega
/-! ### truth of any data -/
@[simp] def truD : D → Option Bool
  | .none => some false
  | .bool b => some b
  | .int i => some (i != 0)
  | .str y => if okN y.length then some ((y.length : Int) != 0) else none
  | .list ds => some (!ds.isEmpty)
  | .tuple ds => some (!ds.isEmpty)
  | _ => none
theorem dps_emp {K : PySem.W.Frag} {H : Hp} {vs : List V} {ds : List D} (h : DpAll K H vs ds) : ds.isEmpty = vs.isEmpty := by
  cases h <;> rfl
theorem tru_of {K : PySem.W.Frag} {H Hk : Hp} {v : V} {d : D} {k : Bool} (s : Same Hk H) (w : Vw K H Hk v d) (e : truD d = some k) : TruV K v H k := by
  unfold truD at e
  split at e
  · cases e; cases w.non; rfl
  · cases e; cases w.bl; rfl
  · cases e; cases w.int; rfl
  · split at e <;> cases e
    rename_i c
    cases w.str
    exact ⟨okN_line c, rfl⟩
  · cases e
    obtain ⟨p, vs, rfl, sp, ap⟩ := w.lst s
    exact .inl ⟨vs, sp, by rw [dps_emp ap]⟩
  · cases e
    obtain ⟨p, vs, rfl, sp, ap⟩ := w.tup s
    exact .inr (.inl ⟨vs, sp, by rw [dps_emp ap]⟩)
  · cases e
@[simp] def cTru (f : Fe) : Ft := fun γ => match f γ with
  | some (d, γ2) => match truD d with
    | some b => some (b, γ2)
    | none => none
  | none => none
@[simp] def cTrun (i : Nat) : Ft := fun γ => match view γ i with
  | some d => match truD d with
    | some b => some (b, γ)
    | none => none
  | none => none
section
variable {W : WX} {X : Cx} {c : Expr} {f : Fe}
theorem et_tru (h : EV X c f) (he : ∀ whole, isTrue c X.env whole = (do let v ← whole; standAt c.pos; holding [v] (truthy v)) := by intro _; rfl) : ET X c (cTru f) := PT.imp (pt_truth h he) fun σ H Q ⟨γ, Hk, b, γ2, o, e, q⟩ => by
  unfold cTru at e
  split at e
  · rename_i d γ1 ef
    split at e <;> cases e
    rename_i eb
    exact ⟨γ, Hk, d, _, o, ef, fun v H2 Hk2 g r => ⟨b, tru_of g.ok.sub (.inl r) eb, q H2 Hk2 g⟩⟩
  · cases e
theorem et_trun {i : Nat} (h : PE X c (tVar i)) (he : ∀ whole, isTrue c X.env whole = (do let v ← whole; standAt c.pos; holding [v] (truthy v)) := by intro _; rfl) : ET X c (cTrun i) := PT.imp (pt_truth h he) fun σ H Q ⟨γ, Hk, b, γ2, o, e, q⟩ => by
  unfold cTrun at e
  split at e
  · rename_i d ev
    split at e <;> cases e
    rename_i eb
    obtain ⟨v, e1, w⟩ := o.view ev
    exact ⟨v, e1, b, tru_of o.sub w eb, q H Hk (Go.refl o)⟩
  · cases e
end
/-! ### a list unpacked into names -/
@[simp] def gLp (n : Nat) (tgs : Fgs) : Fg := fun d γ => match d with
  | .list ds => if ds.length = n then tgs ds γ else none
  | _ => none
section
variable {W : WX} {X : Cx} {es : List Expr} {tgs : Fgs} {pos : Pos}
theorem eg_lst (n : Nat) {k : Nat} (hc : X.calm = true) (h : EGs X es tgs) (hn : (assignEach es X.env).length = n := by rfl) (hst : (assignEach es X.env).findIdx? (·.1) = none := by rfl) : EG X (.Tuple es k pos) (gLp n tgs) :=
  PG.imp (pg_unl hc h hn hst) fun v σ H Q ⟨γ, Hk, d, γ2, o, r, e, q⟩ => by
  unfold gLp at e
  split at e
  · rename_i ds
    split at e
    · rename_i hl
      cases r with
      | lst hs ra => exact ⟨_, _, rfl, sql_mono o.sub hs, by rw [dps_len ra]; exact hl, γ, Hk, ds, γ2, o, ra, e, q⟩
    · cases e
  · cases e
end
end DN
namespace DN
open PySem PySem.Spec PyProof.Rows L2
/-! ### sorted of any data that are alike -/
def alikeB (ds : List D) : Bool := ds.all fun d => ds.all fun d' => PySem.W.alike d d'
theorem alikeB_of {ds : List D} (h : alikeB ds = true) : PySem.W.AllAlike ds := fun d hd d' hd' => by
  unfold alikeB at h
  rw [List.all_eq_true] at h
  have := h d hd
  rw [List.all_eq_true] at this
  exact this d' hd'
def tupB : D → Bool
  | .tuple (_ :: _) => true
  | _ => false
def othB : D → Bool
  | .tuple _ => false
  | .none => false
  | _ => true
def sortB (ds : List D) : Bool := ds.all tupB || ds.all othB
theorem sortB_of {ds : List D} (h : sortB ds = true) : PySem.W.Sortable ds := by
  unfold sortB at h
  rw [Bool.or_eq_true, List.all_eq_true, List.all_eq_true] at h
  rcases h with h | h
  · refine .inl fun d hd => ?_
    have := h d hd
    unfold tupB at this
    split at this
    · exact ⟨_, _, rfl⟩
    · cases this
  · refine .inr fun d hd => ?_
    have := h d hd
    unfold othB at this
    split at this
    · cases this
    · cases this
    · rename_i h1 h2
      exact ⟨h2, h1⟩
def deepB (ds : List D) : Bool := ds.all fun d => decide (d.depth ≤ 20)
abbrev leD0 (a b : D) : Bool := PySem.W.dataLe false (fun x : D => x) a b
def srtD (ds : List D) : List D := ds.mergeSort leD0
def rSortD (K : PySem.W.Frag) : List V → Hp → VK → Prop := fun vs H Q => ∃ (Hk : Hp) (a : Addr) (xs : List V) (ds : List D), Same Hk H ∧ vs = [V.ref a] ∧ SqL K H a xs ∧ DpAll K Hk xs ds ∧ alikeB ds = true ∧ sortB ds = true ∧ deepB ds = true ∧
  ∀ (ys : List V) (p : Addr), DpAll K Hk ys (srtD ds) → H p = none → Q (.ref p) (upd H p (.lst ys))
section
variable {W : WX} {X : Cx}
theorem each_of {K : PySem.W.Frag} {H : Hp} : ∀ {us : List Value} {xs : List V} {ds : List D}, Vals xs us → DpAll K H xs ds → PySem.W.EachIs (fun u (b : V × D) => RelV b.1 u ∧ Dp K H b.1 b.2) us (xs.zip ds)
  | _, _, _, .nil, .nil => .nil
  | _, _, _, .cons r rr, .cons d dd => .cons ⟨r, d⟩ (each_of rr dd)
theorem each_out {K : PySem.W.Frag} {H : Hp} : ∀ {us : List Value} {bs : List (V × D)}, PySem.W.EachIs (fun u (b : V × D) => RelV b.1 u ∧ Dp K H b.1 b.2) us bs → Vals (bs.map (·.1)) us ∧ DpAll K H (bs.map (·.1)) (bs.map (·.2))
  | _, _, .nil => ⟨.nil, .nil⟩
  | _, _, .cons h t => ⟨.cons h.1 (each_out t).1, .cons h.2 (each_out t).2⟩
theorem zip_snd {α β : Type} : ∀ {xs : List α} {ys : List β}, xs.length = ys.length → (xs.zip ys).map (·.2) = ys
  | [], [], _ => rfl
  | _ :: xs, _ :: ys, h => by
    simp only [List.zip_cons_cons, List.map_cons]
    rw [zip_snd (by simpa using h)]
theorem cr_sortD {k : Nat} (hr : Room k X.A) : CallR X (.builtin "sorted") (rSortD X.K) := by
  intro pins s σ H vs us Q I r h
  obtain ⟨Hk, a, xs, ds, sub, rfl, hs, hd, h1, h2, h3, q⟩ := h
  obtain ⟨its, rv, hl, hz⟩ := I.list hs
  rw [Vals.ref1 r]
  have hlen := dps_len hd
  have e1 := each_of rv hd
  have er : PySem.W.EachIs (fun v (b : V × D) => ∃ as, Reads s.heap v b.2 as) its (xs.zip ds) := e1.mono fun u b ⟨ru, du⟩ => Dp.reads I (dp_mono sub du) ru
  have em : (xs.zip ds).map (fun b : V × D => b.2) = ds := zip_snd hlen
  have un := hr.un
  refine PySem.W.sorted_data (enc := fun b : V × D => b.2) hl.isList e1 er (by rw [em]; exact alikeB_of h1) (by rw [em]; exact sortB_of h2) (by rw [List.length_zip, hlen, Nat.min_self, ← hlen]; exact hz) (fun b hb => ?_) fun out ho he => ?_
  · have : b.2 ∈ ds := by rw [← em]; exact List.mem_map_of_mem hb
    unfold deepB at h3
    rw [List.all_eq_true] at h3
    have := of_decide_eq_true (h3 b.2 this)
    omega
  · obtain ⟨v1, d1⟩ := each_out he
    have es : ((xs.zip ds).mergeSort (PySem.W.dataLe false fun b : V × D => b.2)).map (fun b : V × D => b.2) = srtD ds := by
      have := PySem.W.sort_maps (r := PySem.W.dataLe false fun b : V × D => b.2) (s := leD0) (l := xs.zip ds) (fun b : V × D => b.2) (fun a _ b _ => rfl)
      rw [em] at this
      exact this
    rw [es] at d1
    obtain ⟨ep, he'⟩ := PyProof.Rows.sortedAll_at s.heap its out.toArray
    have hl2 : (((xs.zip ds).mergeSort (PySem.W.dataLe false fun b : V × D => b.2)).map (fun b : V × D => b.1)).length ≤ sizeLine := by
      rw [List.length_map, List.length_mergeSort, List.length_zip, hlen, Nat.min_self, ← hlen]
      exact hz
    exact ⟨.ref _, upd H (s.heap.objs.size + 1) (.lst _), I.laid (t' := s.toks) (fun _ _ => PyProof.Rows.sortedAll_old) (Nat.le_succ _) ⟨hl2, out, ep, v1, he'⟩, rfl, q _ _ d1 (I.hok.fresh (Nat.le_succ _))⟩
@[simp] def lSrt (f : Fe) : Fa := fun γ => match f γ with
  | some (.list ds, γ1) => if alikeB ds && sortB ds && deepB ds then some (srtD ds, γ1) else none
  | _ => none
theorem el_sortD {a : Expr} {f : Fe} {k : Nat} {pos p : Pos} (hr : Room k X.A) (hm : X.mg "sorted" = none) (hg : Gl X "sorted") (ha : EV X a f) (he : starEach [a] X.env = (false, eval a X.env) :: starEach [] X.env := by rfl) (hpl : (backTo pos (starEach [] X.env)).any (·.1) = false := by rfl) :
    EL X (.Call (.Name "sorted" p) [a] [] pos) (lSrt f) := PE.imp (pe_callB (cr_sortD hr) hg hm (by decide +kernel) (pa_cons ha pa_nil he) (he := he) (hpl := hpl)) fun σ H Q ⟨γ, Hk, d, γ2, o, ee, q⟩ => by
  unfold lSrt at ee
  split at ee
  · rename_i ds γ1 ef
    split at ee <;> cases ee
    rename_i c
    rw [Bool.and_eq_true, Bool.and_eq_true] at c
    refine ⟨γ, Hk, _, γ2, o, ef, fun v H1 Hk1 g1 r1 => ?_⟩
    cases r1 with
    | lst h t => exact ⟨Hk1, _, _, ds, g1.ok.sub, rfl, sql_mono g1.ok.sub h, t, c.1.1, c.1.2, c.2, fun ys p dy hn => q p _ H1 Hk1 g1 hn dy⟩
  · cases ee
/-! ### min(xs, default = e) -/
def minL (ds : List D) (z : D) : D := match ds with
  | [] => z
  | y :: ys => PySem.W.minD y ys
def nonB (ds : List D) : Bool := ds.all fun d => match d with
  | .none => false
  | _ => true
def rMinD (K : PySem.W.Frag) : List V → List V → Hp → VK → Prop := fun vs zs H Q => ∃ (Hk : Hp) (a : Addr) (xs : List V) (ds : List D) (z : V) (zd : D), Same Hk H ∧ vs = [V.ref a] ∧ zs = [z] ∧ Dp K Hk z zd ∧ SqL K H a xs ∧ DpAll K Hk xs ds ∧ alikeB ds = true ∧ nonB ds = true ∧ decide (PyData.depthAll ds ≤ 20) = true ∧
  ∀ y : V, Dp K Hk y (minL ds zd) → Q y H
theorem readsAll_of {K : PySem.W.Frag} {pins : List (Addr × Obj)} {σ : L2.St} {H Hk : Hp} {s : Shared} (I : Inv X pins σ H s) (sub : Same Hk H) : ∀ {us : List Value} {xs : List V} {ds : List D}, Vals xs us → DpAll X.K Hk xs ds → ∃ as, ReadsAll s.heap us ds as
  | _, _, _, .nil, .nil => ⟨[], .nil⟩
  | _, _, _, .cons r rr, .cons d dd => by
    obtain ⟨a1, r1⟩ := Dp.reads I (dp_mono sub d) r
    obtain ⟨a2, r2⟩ := readsAll_of (K := K) I sub rr dd
    exact ⟨_, .cons r1 r2⟩
theorem minD_mem : ∀ (ys : List D) (y : D), PySem.W.minD y ys ∈ y :: ys
  | [], y => by simp [PySem.W.minD]
  | z :: ys, y => by
    unfold PySem.W.minD
    rw [List.foldl_cons]
    by_cases h : PySem.W.dataLt z y = true
    · rw [if_pos h]
      have := minD_mem ys z
      unfold PySem.W.minD at this
      rcases List.mem_cons.mp this with e | e
      · rw [e]; simp
      · simp [e]
    · rw [if_neg h]
      have := minD_mem ys y
      unfold PySem.W.minD at this
      rcases List.mem_cons.mp this with e | e
      · rw [e]; simp
      · simp [e]
theorem cr_minD {k : Nat} (hc : X.calm = true) (hr : Room k X.A) : CallRK X (.builtin "min") [Str.ofString "default"] (rMinD X.K) := by
  intro pins s σ H vs zs us ws Q I r rz h
  obtain ⟨Hk, a, xs, ds, z, zd, sub, rfl, rfl, hz, hs, hd, h1, h2, h3, q⟩ := h
  obtain ⟨its, rv, hl, hzz⟩ := I.list hs
  rw [Vals.ref1 r]
  cases rz with
  | cons r0 rr =>
    cases rr
    rename_i w0
    show wpAny _ _ (call (.builtin "min") [.ref a] [(Str.ofString "default", w0)]) _ _ _
    obtain ⟨as, ra⟩ := readsAll_of (K := X.K) I sub rv hd
    have un := hr.un
    have hal : PySem.W.AlikeAll ds := ⟨alikeB_of h1, fun x hx e => by
      subst e
      unfold nonB at h2
      rw [List.all_eq_true] at h2
      exact absurd (h2 _ hx) (by simp)⟩
    refine PySem.W.min_list_default (hh := I.ok.hd hc) hl.isList (by simpa using ra) hal (by have := of_decide_eq_true h3; omega) (fun e h' tk hk => ?_) fun y ys i v h' tk bs e hi rr hk => ?_
    · subst e
      exact ⟨z, H, I.kept (t' := tk) hk, r0, q z hz⟩
    · subst e
      have hi' : its[i]? = some v := by simpa using hi
      have hlt : i < xs.length := by
        have := (List.getElem?_eq_some_iff.mp hi').1
        rw [rv.length]; exact this
      obtain ⟨x, ex⟩ : ∃ x, xs[i]? = some x := ⟨_, List.getElem?_eq_getElem hlt⟩
      obtain ⟨u, eu, ru⟩ := rv.get ex
      rw [hi'] at eu
      cases eu
      have hlt2 : i < (y :: ys).length := by rw [← dps_len hd]; exact hlt
      obtain ⟨x2, ex2, dx⟩ := dps_at hd (List.getElem?_eq_getElem hlt2)
      rw [ex] at ex2
      cases ex2
      have I2 : Inv X pins σ H { s with heap := h', toks := tk } := I.kept (t' := tk) hk
      obtain ⟨cs, r3⟩ := Dp.reads I2 (dp_mono sub dx) ru
      have em : (y :: ys)[i] = PySem.W.minD y ys := PySem.W.alike_unique _ _ _ _ _ (hal.1 _ (List.getElem_mem _) _ (minD_mem ys y)) r3 rr
      rw [em] at dx
      exact ⟨x, H, I2, ru, q x dx⟩
@[simp] def fMinD (f g : Fe) : Fe := fun γ => match f γ with
  | some (.list ds, γ1) => match g γ1 with
    | some (z, γ2) => if alikeB ds && nonB ds && decide (PyData.depthAll ds ≤ 20) then some (minL ds z, γ2) else none
    | none => none
  | _ => none
theorem ev_minD {a b : Expr} {f g : Fe} {k : Nat} {pos p kpos : Pos} (hc : X.calm = true) (hr : Room k X.A) (hm : X.mg "min" = none) (hg : Gl X "min") (ha : EV X a f) (hb : EV X b g)
    (hs : starEach [a] X.env = (false, eval a X.env) :: starEach [] X.env := by rfl)
    (he : backTo pos (starEach [a] X.env) = (false, eval a X.env) :: backTo pos (starEach [] X.env) := by rfl) (hpl : (backTo pos (starEach [a] X.env)).any (·.1) = false := by rfl)
    (hall : (backToKw pos (keywordEach [⟨some "default", b, kpos⟩] X.env)).all (·.1.isSome) = true := by rfl) (hnone : (backToKw pos (keywordEach [⟨some "default", b, kpos⟩] X.env)).any (·.1.isNone) = false := by rfl) (hks : (backToKw pos (keywordEach [⟨some "default", b, kpos⟩] X.env)).filterMap (·.1) = [Str.ofString "default"] := by rfl) :
    EV X (.Call (.Name "min" p) [a] [⟨some "default", b, kpos⟩] pos) (fMinD f g) := PE.imp (pe_callBK (cr_minD hc hr) hg hm (by decide +kernel) (pa_cons ha pa_nil hs) (pk_cons hb pk_nil) (he := he) (hpl := hpl) (hall := hall) (hnone := hnone) (hks := hks)) fun σ H Q ⟨γ, Hk, d, γ2, o, ee, q⟩ => by
  unfold fMinD at ee
  split at ee
  · rename_i ds γ1 ef
    split at ee
    · rename_i z γ2' eg
      split at ee <;> cases ee
      rename_i c
      rw [Bool.and_eq_true, Bool.and_eq_true] at c
      refine ⟨γ, Hk, _, γ1, o, ef, fun v H1 Hk1 g1 r1 => ?_⟩
      cases r1 with
      | lst h t => exact ⟨γ1, Hk1, z, _, g1.ok, eg, fun u H2 Hk2 g2 r2 => ⟨Hk2, _, _, ds, u, z, g2.ok.sub, rfl, rfl, r2, sql_mono g2.ok.sub (sql_mono g2.kk h), dps_mono g2.kk t, c.1.1, c.1.2, c.2, fun y dy => q y H2 Hk2 (g1.trans g2) dy⟩⟩
    · cases ee
  · cases ee
theorem dpall_mono {K : PySem.W.Frag} {H Hk : Hp} (s : Same Hk H) {vs : List V} {ds : List D} (h : DpAll K Hk vs ds) : DpAll K H vs ds := dps_mono s h
/-- a permutation of lasting data lasts -/
theorem dps_mem {K : PySem.W.Frag} {H : Hp} : ∀ {vs : List V} {ds : List D}, DpAll K H vs ds → ∀ d ∈ ds, ∃ v ∈ vs, Dp K H v d
  | _, _, .nil, d, h => by cases h
  | _, _, .cons a t, d, h => by
    rcases List.mem_cons.mp h with rfl | h
    · exact ⟨_, by simp, a⟩
    · obtain ⟨v, hv, r⟩ := dps_mem t d h
      exact ⟨v, by simp [hv], r⟩
end
/-! ### t[::-1], t a list -/
@[simp] def revLD : D → Option D
  | .list ds => some (.list ds.reverse)
  | _ => none
section
variable {W : WX} {X : Cx} {e : Expr} {f : Fe} {pos : Pos}
theorem ev_revL {k : Nat} {p1 p2 p3 : Pos} (he : EV X e f) : EV X (.Subscript e (.Slice none none (some (.UnaryOp .USub (.Constant (.int 1) k p1) p2)) p3) pos) (f1 revLD f) := by
  refine ⟨fun pins s σ H Q I h => ?_⟩
  obtain ⟨γ, Hk, dd, γ2, ok, ee, q⟩ := h
  unfold f1 at ee
  split at ee
  · rename_i dx γ1 ef
    split at ee
    · rename_i z eo
      cases ee
      unfold revLD at eo
      split at eo <;> cases eo
      rename_i ds
      refine Subscript_ (thn (he.run pins s σ H (fun v2 H2 => ∃ a xs Hk2, v2 = .ref a ∧ SqL X.K H2 a xs ∧ DpAll X.K Hk2 xs ds ∧ Go X.K σ H Hk γ σ H2 Hk2 γ2) I ⟨γ, Hk, _, _, ok, ef, fun v2 H2 Hk2 g2 r2 => by
        cases r2 with
        | lst hs ra => exact ⟨_, _, Hk2, rfl, sql_mono g2.ok.sub hs, ra, g2⟩⟩) fun v s1 ⟨x, H1, I1, r1, a, xs, Hk2, ex, hx, ra, g2⟩ => ?_)
      subst ex
      cases r1
      have hst : PO X (some (.UnaryOp .USub (.Constant (.int 1) k p1) p2)) (tPart (tUn (rU fun i => .int (-i)) (tC (.int 1)))) := po_some (pe_un un_neg pe_int)
      refine wpAny_Slice (thn (po_none.run pins s1 σ H1 (fun o H2 => o = none ∧ H2 = H1) I1 ⟨rfl, rfl⟩) fun vl s2 ⟨l, H2, I2, pl, el, e2⟩ => ?_)
      subst el e2
      refine thn (po_none.run pins s2 σ H2 (fun o H3 => o = none ∧ H3 = H2) I2 ⟨rfl, rfl⟩) fun vu s3 ⟨u, H3, I3, pu, eu, e3⟩ => ?_
      subst eu e3
      refine thn (hst.run pins s3 σ H3 (fun o H4 => o = some (-1) ∧ H4 = H3) I3 ⟨1, rfl, -1, rfl, rfl, rfl⟩) fun vs s4 ⟨o, H4, I4, ps, eo, e4⟩ => ?_
      subst eo e4
      have I5 : Inv X pins σ H4 { s4 with heap := s4.heap.push { cls := .type "slice", data := .fields #[vl, vu, vs] } } := I4.kept (t' := s4.toks) fun b ob q => Heap.get?_push_of_some _ q
      obtain ⟨its, r, ht, hz⟩ := I5.list hx
      have hlen := r.length
      show wpAny (model X.prog X.w) X.A (subscriptTail e (.Slice none none (some (.UnaryOp .USub (.Constant (.int 1) k p1) p2)) p3) (.ref a) (.ref s4.heap.objs.size)) (EP X pins σ Q) X.xe _
      refine tail_any (ops := [.ref a, .ref s4.heap.objs.size]) ht.isList.typeIs list_getitem_lookup ?_ (by with_unfolding_all rfl)
      refine wpAny_getItem_list_slice ht.isList (Heap.IsSliceOf.new _ vl vu _) pl pu ps (by simp) ?_ (by rw [List.size_toArray]; omega)
      rw [PySem.W.krv_pick]
      have fr := I5.hok.fresh (Nat.le_refl _)
      have gr : Grow H4 Hk2 (upd H4 _ (.lst xs.reverse)) (upd Hk2 _ (.lst xs.reverse)) := Grow.new g2.ok.sub fr
      refine ⟨.ref _, _, I5.laid (t' := s4.toks) (o := .lst xs.reverse) (fun b ob q => Heap.get?_push_of_some _ q) (Nat.le_refl _) ?_, rfl, q _ _ _ (g2.trans (g2.ok.go gr)) (.lst (SqL.of upd_same) (dps_mono gr.kk (dps_rev ra)))⟩
      exact ⟨by rw [List.length_reverse]; exact hz, _, 0, r.reverse, Heap.get?_push_size _ rfl⟩
    · cases ee
  · cases ee
end
end DN
namespace DN
open PySem PySem.Spec PyProof.Rows L2
/-! ### tuples of whole numbers as keys -/
section
variable {W : WX} {X : Cx} {pins : List (Addr × Obj)} {σ : L2.St} {H : Hp} {s : Shared}
theorem ints_are : ∀ {ks : List Int} {vs : List V} {us : List Value}, DpAll X.K H vs (ks.map .int) → Vals vs us → ItemsAre (intKind X.prog X.w) ks us
  | [], _, _, h, r => by
    cases h
    cases r
    exact .nil
  | k :: ks, _, _, h, r => by
    cases h with
    | cons a t =>
      cases a
      cases r with
      | cons ru rr =>
        obtain ⟨tk, rfl⟩ := ru
        exact .cons (show Value.isInt k (.int k tk) = true by simp [Value.isInt]) (ints_are t rr)
theorem key_at (I : Inv X pins σ H s) {a : Addr} {ks : List Int} (h : Dp X.K H (.ref a) (.tuple (ks.map .int))) : (tupleKind (intKind X.prog X.w)).is s.heap ks a := by
  cases h with
  | tup hs ra =>
    obtain ⟨its, r, ⟨o, ho, hc, n, hd⟩, _⟩ := I.tuple hs
    exact ⟨o, its.toArray, n, ho, hc, hd, by simpa using ints_are ra r⟩
/-- the keys of the entries are there -/
def KeysAt (K : PySem.W.Frag) (H : Hp) (xs : List (List Int × Addr × Value)) : Prop := ∀ x ∈ xs, Dp K H (.ref x.2.1) (.tuple (x.1.map .int))
theorem dict_at (I : Inv X pins σ H s) {P : Program} {w : World} {p : Addr} {xs : List (List Int × Addr × Value)} (hp : H p = some (dnt P w p xs)) (hk : KeysAt X.K H xs) (hn : (xs.map (·.1)).Nodup) : s.heap.DictOfH (tupleKind (intKind X.prog X.w)) p xs := by
  obtain ⟨⟨o, es, ep, h1, h2, h3, h4⟩, _, _⟩ := I.hok p _ hp
  exact ⟨o, es, ep, h1, h2, h3, h4, fun x hx => key_at I (hk x hx), hn⟩
theorem dnt_ok {P : Program} {w : World} {H' : Hp} {h' : Heap} {p : Addr} {xs : List (List Int × Addr × Value)} (h : h'.DictOfH (tupleKind (intKind P w)) p xs) : ObjOk P w H' h' p (dnt P w p xs) := by
  obtain ⟨o, es, ep, h1, h2, h3, h4, _, _⟩ := h
  exact ⟨⟨o, es, ep, h1, h2, h3, h4⟩, ⟨o, h1⟩, fun g g' ⟨o', es', ep', q1, q⟩ k => ⟨o', es', ep', k o' q1, q⟩⟩
/-- {}, to be a dict with such keys -/
def tDNew (P : Program) (w : World) : TE := fun _ H Q => ∀ p, H p = none → (p == sysModules) = false → Q (.ref p) (upd H p (dnt P w p []))
theorem pe_dnew {pos : Pos} : PE X (.Dict [] [] pos) (tDNew X.prog X.w) := by
  constructor
  intro pins s σ H Q I h
  have big := I.big
  have made := Heap.DictOfH.new (knd := tupleKind (intKind X.prog X.w)) s.heap
  refine wpAny_Dict_empty ?_
  exact ⟨.ref s.heap.objs.size, _, I.laid (t' := s.toks) (fun _ _ q => Heap.get?_push_of_some _ q) (Nat.le_refl _) (dnt_ok made), rfl, h _ (I.hok.fresh (Nat.le_refl _)) (beq_eq_false_iff_ne.mpr (Nat.ne_of_gt big))⟩
/-- what a method asks of its object: its type is known and it has no dict of its own -/
def TyAt (X : Cx) (T : String) (x : V) (H : Hp) : Prop := ∀ (pins : List (Addr × Obj)) (s : Shared) (σ : L2.St) (v : Value), Inv X pins σ H s → RelV x v → s.TypeIs v T ∧ ∀ a, v = .ref a → ∃ ob, s.heap.get? a = some ob ∧ ob.dict = none
theorem dnt_ty {P : Program} {w : World} {p : Addr} {xs : List (List Int × Addr × Value)} (hp : H p = some (dnt P w p xs)) : TyAt X "dict" (.ref p) H := by
  intro pins s σ v I r
  cases r
  obtain ⟨⟨o, es, ep, h1, h2, h3, h4⟩, _, _⟩ := I.hok p _ hp
  exact ⟨⟨o, h1, h2.1⟩, fun a e => by cases e; exact ⟨o, h1, h2.2.1⟩⟩
theorem pe_meth {o e : Expr} {es : List Expr} {to : TE} {t : TA} {name : Str} {apos cpos : Pos} {T id : String} {r : V → List V → Hp → VK → Prop}
    (pl : PlainAttrs T) (sl : Slot T name id) (ty : typeOf (.builtin id) = pure (.type "method_descriptor")) (mt : MtR X id r) (ho : PE X o to) (ha : PA X (e :: es) t)
    (base : attributeBase o name X.env (eval o X.env) = eval o X.env := by rfl)
    (few : ((backTo cpos (starEach (e :: es) X.env)).all (fun x => !x.1) && (backToKw cpos (keywordEach [] X.env)).all (fun x => x.1.isSome) && decide ((e :: es).length + ([] : List Keyword).length + (if ([] : List Keyword).isEmpty then 0 else 1) < 30)) = true := by rfl)
    (line : (apos.endLine == cpos.line) = true := by rfl) (hst : starEach (e :: es) X.env = (false, eval e X.env) :: starEach es X.env := by rfl) (hpl : (backTo cpos (starEach es X.env)).any (·.1) = false := by rfl) :
    PE X (.Call (.Attribute o name apos) (e :: es) [] cpos) (fun σ H Q => to σ H fun x H1 => TyAt X T x H1 ∧ t σ H1 fun xs H2 => r x xs H2 Q) := by
  constructor
  intro pins s σ H Q I h
  refine wpAny_Call_method_late base few line rfl ?_
  refine thn (ho.run pins s σ H _ I h) ?_
  rintro v s1 ⟨x, H1, I1, r1, tx, q1⟩
  obtain ⟨g1, g2⟩ := tx _ _ _ _ I1 r1
  refine ⟨T, id, pl, sl, ty, g1, g2, ?_⟩
  have later := ha.run cpos pins s1 σ H1 _ I1 q1
  rw [hst] at later ⊢
  have none_starred : ((false, eval e X.env) :: backTo cpos (starEach es X.env)).any (·.1) = false := by
    show (false || (backTo cpos (starEach es X.env)).any (·.1)) = false
    rw [hpl]
    rfl
  refine Calls.callWith_builtin none_starred (Calls.evalArgs_plain ?_)
  refine thn later ?_
  rintro us s2 ⟨vs, H2, I2, r2, q2⟩
  exact mt pins s2 σ H2 x vs v us Q I2 r1 r2 q2
/-- d.setdefault(k, v) -/
def rSetG (X : Cx) : V → List V → Hp → VK → Prop := fun x vs H Q => ∃ (p a l : Addr) (xs : List (List Int × Addr × Value)) (ks : List Int), x = .ref p ∧ vs = [.ref a, .ref l] ∧ H p = some (dnt X.prog X.w p xs) ∧ KeysAt X.K H xs ∧ (xs.map (·.1)).Nodup ∧ (p == sysModules) = false ∧ xs.length ≤ 1000000 ∧
  Dp X.K H (.ref a) (.tuple (ks.map .int)) ∧ (∀ q, atKey xs ks = some q → ∃ v, RelV v q.2 ∧ Q v H) ∧ (atKey xs ks = none → Q (.ref l) (upd H p (dnt X.prog X.w p (xs ++ [(ks, a, .ref l)]))))
theorem mt_setG {k : Nat} (hr : Room k X.A) : MtR X "dict.setdefault" (rSetG X) := by
  intro pins s σ H x vs v us Q I rx rv h
  obtain ⟨p, a, l, xs, ks, rfl, rfl, hp, hk, hn, hs, hz, ka, q1, q2⟩ := h
  cases rx
  cases rv with
  | cons r1 rr =>
    cases r1
    cases rr with
    | cons r2 rr2 =>
      cases r2
      cases rr2
      have un := hr.un
      refine call_setdefault_heap (hsz := Nat.le_trans hz (by decide)) (tupleKind_room_in1 (by omega)) (key_at I ka) hs (dict_at I hp hk hn) ?_ ?_
      · intro q hq
        obtain ⟨v, rv, z⟩ := q1 q hq
        exact ⟨v, H, I.tok _, rv, z⟩
      · intro hno h' hd hb
        rw [storedH_new hno] at hd
        have ex := hd
        obtain ⟨o, _, _, ho, _⟩ := ex
        exact ⟨.ref l, _, I.write (x := p) (e := p) (by rw [hp]; exact True.intro) (.inl rfl) (fun b u hne z => (hb.2 b hne).trans z) ⟨o, ho⟩ (dnt_ok hd), rfl, q2 hno⟩
/-- d.get(k, v) -/
def rGetG (X : Cx) : V → List V → Hp → VK → Prop := fun x vs H Q => ∃ (p a : Addr) (y : V) (P : Program) (w : World) (xs : List (List Int × Addr × Value)) (ks : List Int), x = .ref p ∧ vs = [.ref a, y] ∧ H p = some (dnt P w p xs) ∧ KeysAt X.K H xs ∧ (xs.map (·.1)).Nodup ∧ (p == sysModules) = false ∧
  Dp X.K H (.ref a) (.tuple (ks.map .int)) ∧ (∀ q, atKey xs ks = some q → ∃ v, RelV v q.2 ∧ Q v H) ∧ (atKey xs ks = none → Q y H)
theorem mt_getG {k : Nat} (hr : Room k X.A) : MtR X "dict.get" (rGetG X) := by
  intro pins s σ H x vs v us Q I rx rv h
  obtain ⟨p, a, y, P, w, xs, ks, rfl, rfl, hp, hk, hn, hs, ka, q1, q2⟩ := h
  cases rx
  cases rv with
  | cons r1 rr =>
    cases r1
    cases rr with
    | cons r2 rr2 =>
      cases rr2
      have un := hr.un
      refine getOr_keyed (kvs := pairsH xs) (tupleKind_room_in1 (by omega)) (key_at I ka) hs ⟨xs, dict_at I hp hk hn, rfl⟩ ?_
      rw [valueAt_pairsH]
      cases hq : atKey xs ks with
      | none => exact ⟨y, H, I.tok _, r2, q2 hq⟩
      | some q =>
        obtain ⟨v, rv, z⟩ := q1 q hq
        exact ⟨v, H, I.tok _, rv, z⟩
end
end DN
namespace DN
open PySem PySem.Spec PyProof.Rows L2
/-! ### dicts whose keys are tuples, as they stand in the heap -/
section
variable {X : Cx} {pins : List (Addr × Obj)} {σ : L2.St} {H : Hp} {s : Shared}
mutual
theorem nest_at (I : Inv X pins σ H s) : ∀ {v : V} {d : D} {u : Value} {k : NestedKey}, Dp X.K H v d → RelV v u → keyOf d = some k → NestedIs s.heap k u
  | _, _, _, _, .non, r, e => by
    cases r
    rw [keyOf] at e; cases e
    exact .none
  | _, _, _, _, .int i, r, e => by
    obtain ⟨t, rfl⟩ := r
    rw [keyOf] at e; cases e
    exact .int _ _
  | _, _, _, _, .tup hs ha, r, e => by
    cases r
    rw [keyOf] at e
    obtain ⟨ks, e1, rfl⟩ := Option.map_eq_some_iff.mp e
    obtain ⟨its, rv, ⟨o, ho, hc, n, hd⟩, _⟩ := I.tuple hs
    exact .tup ho hc hd (by simpa using nests_at I ha rv e1)
  | _, _, _, _, .bl b, r, e => by rw [keyOf] at e; cases e
  | _, _, _, _, .str x, r, e => by rw [keyOf] at e; cases e
  | _, _, _, _, .lst _ _, r, e => by rw [keyOf] at e; cases e
  | _, _, _, _, .dct _ _ _ _ _ _, r, e => by rw [keyOf] at e; cases e
theorem nests_at (I : Inv X pins σ H s) : ∀ {vs : List V} {ds : List D} {us : List Value} {ks : List NestedKey}, DpAll X.K H vs ds → Vals vs us → keysOf ds = some ks → NestedAll s.heap ks us
  | _, _, _, _, .nil, r, e => by
    cases r
    rw [keysOf] at e; cases e
    exact .nil
  | _, _, _, _, .cons h t, r, e => by
    cases r with
    | cons r1 r2 =>
      rw [keysOf] at e
      split at e
      · rename_i k ks' e1 e2
        cases e
        exact .cons (nest_at I h r1 e1) (nests_at I t r2 e2)
      · cases e
end
theorem keyN_at (I : Inv X pins σ H s) {a : Addr} {d : D} {k : NestedKey} (h : Dp X.K H (.ref a) d) (e : keyD d = some k) : (nestedKind X.prog X.w).is s.heap k a :=
  ⟨nest_at I h rfl (keyD_of e).2.1, (keyD_of e).2.2⟩
theorem ents_is (I : Inv X pins σ H s) : ∀ {xs : List (NestedKey × Addr × Value)} {kvs : List (D × D)}, DpEnts X.K H xs kvs → ∀ x ∈ xs, (nestedKind X.prog X.w).is s.heap x.1 x.2.1
  | _, _, .nil, x, h => by cases h
  | _, _, .cons h1 h2 _ _ t, x, h => by
    rcases List.mem_cons.mp h with rfl | h
    · exact keyN_at I h2 h1
    · exact ents_is I t x h
end
theorem entN_eq {P : Program} {w : World} {x : NestedKey × Addr × Value} {d : D} (h : keyD d = some x.1) : entryOfKey (nestedKind P w) x = entN x := by
  unfold entryOfKey entN
  rw [← hash_eq w (keyD_of h).2.1]
  rfl
theorem ents_map {P : Program} {w : World} {K : PySem.W.Frag} {H : Hp} : ∀ {xs : List (NestedKey × Addr × Value)} {kvs : List (D × D)}, DpEnts K H xs kvs → xs.map (entryOfKey (nestedKind P w)) = xs.map entN
  | _, _, .nil => rfl
  | _, _, .cons h1 _ _ _ t => by rw [List.map_cons, List.map_cons, entN_eq (x := (_, _, _)) h1, ents_map t]
theorem dictN_at {X : Cx} {pins : List (Addr × Obj)} {σ : L2.St} {H : Hp} {s : Shared} (I : Inv X pins σ H s) {p : Addr} {o : Obj} {xs : List (NestedKey × Addr × Value)} {kvs : List (D × D)} (hp : H p = some (dnO p o)) (ho : DictO o xs) (he : DpEnts X.K H xs kvs) (nd : (xs.map (·.1)).Nodup) :
    s.heap.DictOfH (nestedKind X.prog X.w) p xs := by
  obtain ⟨h1, _, _⟩ := I.hok p _ hp
  obtain ⟨hx, es, ep, hd, hes⟩ := ho
  exact ⟨o, es, ep, h1, hx, hd, by rw [hes, ents_map he], ents_is I he, nd⟩
theorem dnO_ok {P : Program} {w : World} {H' : Hp} {h' : Heap} {p : Addr} {o : Obj} (h : h'.get? p = some o) : ObjOk P w H' h' p (dnO p o) := ⟨h, ⟨o, h⟩, fun _ _ q k => k o q⟩
/-- what a rule leaves is again such a dict -/
theorem dictN_of {P : Program} {w : World} {h' : Heap} {p : Addr} {xs : List (NestedKey × Addr × Value)} {K : PySem.W.Frag} {H : Hp} {kvs : List (D × D)} (h : h'.DictOfH (nestedKind P w) p xs) (he : DpEnts K H xs kvs) : ∃ o, h'.get? p = some o ∧ DictO o xs ∧ (xs.map (·.1)).Nodup := by
  obtain ⟨o, es, ep, h1, h2, h3, h4, _, h6⟩ := h
  exact ⟨o, h1, ⟨h2, es, ep, h3, by rw [h4, ents_map he]⟩, h6⟩
/-! ### looked up, as data -/
def lookN (kvs : List (D × D)) (k : NestedKey) : Option D := (kvs.find? fun q => decide (keyD q.1 = some k)).map (·.2)
theorem lookN_at {K : PySem.W.Frag} {H : Hp} {k : NestedKey} : ∀ {xs : List (NestedKey × Addr × Value)} {kvs : List (D × D)}, DpEnts K H xs kvs →
    (∀ q, atKey xs k = some q → ∃ v d, lookN kvs k = some d ∧ RelV v q.2 ∧ Dp K H v d) ∧ (atKey xs k = none → lookN kvs k = none)
  | _, _, .nil => ⟨fun q h => (by cases h), fun _ => rfl⟩
  | _, _, .cons (k := nk) (a := a) (u := u) (kd := kd) (d := d) (xs := xs) (kvs := kvs) h1 h2 h3 h4 t => by
    obtain ⟨i1, i2⟩ := lookN_at (k := k) t
    unfold atKey lookN at *
    rw [List.find?_cons, List.find?_cons]
    show (∀ q, Option.map (·.2) (match decide (nk = k) with | true => some (nk, a, u) | false => List.find? (fun x => decide (x.1 = k)) xs) = some q → _) ∧ _
    by_cases c : nk = k
    · rw [decide_eq_true c, decide_eq_true (show keyD (kd, d).1 = some k by rw [← c]; exact h1)]
      exact ⟨fun q e => by cases e; exact ⟨_, d, rfl, h3, h4⟩, fun e => by cases e⟩
    · rw [decide_eq_false c, decide_eq_false (fun z => c (by rw [h1] at z; exact Option.some.inj z))]
      exact ⟨i1, fun e => i2 e⟩
/-- stored: at the key, or behind all -/
def storeN (kvs : List (D × D)) (kd : D) (k : NestedKey) (d : D) : List (D × D) :=
  if (lookN kvs k).isSome then kvs.map (fun q => if keyD q.1 = some k then (q.1, d) else q) else kvs ++ [(kd, d)]
theorem ents_put {K : PySem.W.Frag} {H : Hp} {k : NestedKey} {u : Value} {v : V} {d : D} (r : RelV v u) (h : Dp K H v d) : ∀ {xs : List (NestedKey × Addr × Value)} {kvs : List (D × D)}, DpEnts K H xs kvs →
    DpEnts K H (xs.map (putAt k u)) (kvs.map (fun q => if keyD q.1 = some k then (q.1, d) else q))
  | _, _, .nil => .nil
  | _, _, .cons (k := nk) (a := a) (u := u') (kd := kd) (d := d') h1 h2 h3 h4 t => by
    rw [List.map_cons, List.map_cons]
    by_cases c : nk = k
    · have e1 : putAt k u (nk, a, u') = (nk, a, u) := if_pos c
      have e2 : (if keyD (kd, d').1 = some k then ((kd, d').1, d) else (kd, d')) = (kd, d) := if_pos (by rw [← c]; exact h1)
      rw [e1, e2]
      exact .cons h1 h2 r h (ents_put r h t)
    · have e1 : putAt k u (nk, a, u') = (nk, a, u') := if_neg c
      have e2 : (if keyD (kd, d').1 = some k then ((kd, d').1, d) else (kd, d')) = (kd, d') := if_neg (fun z => c (by have z : keyD kd = some k := z; rw [h1] at z; exact Option.some.inj z))
      rw [e1, e2]
      exact .cons h1 h2 h3 h4 (ents_put r h t)
theorem ents_app {K : PySem.W.Frag} {H : Hp} : ∀ {xs ys : List (NestedKey × Addr × Value)} {kvs lws : List (D × D)}, DpEnts K H xs kvs → DpEnts K H ys lws → DpEnts K H (xs ++ ys) (kvs ++ lws)
  | _, _, _, _, .nil, h => h
  | _, _, _, _, .cons h1 h2 h3 h4 t, h => .cons h1 h2 h3 h4 (ents_app t h)
theorem ents_len {K : PySem.W.Frag} {H : Hp} : ∀ {xs : List (NestedKey × Addr × Value)} {kvs : List (D × D)}, DpEnts K H xs kvs → xs.length = kvs.length
  | _, _, .nil => rfl
  | _, _, .cons _ _ _ _ t => congrArg (· + 1) (ents_len t)
theorem look_some {K : PySem.W.Frag} {H : Hp} {k : NestedKey} {xs : List (NestedKey × Addr × Value)} {kvs : List (D × D)} (h : DpEnts K H xs kvs) : (lookN kvs k).isSome = (atKey xs k).isSome := by
  obtain ⟨a, b⟩ := lookN_at (k := k) h
  cases e : atKey xs k with
  | none => rw [b e]; rfl
  | some q =>
    obtain ⟨v, d, e1, _⟩ := a q e
    rw [e1]; rfl
theorem ents_store {K : PySem.W.Frag} {H : Hp} {k : NestedKey} {u : Value} {v : V} {d kd : D} {a : Addr} (ek : keyD kd = some k) (hk : Dp K H (.ref a) kd) (r : RelV v u) (h : Dp K H v d) {xs : List (NestedKey × Addr × Value)} {kvs : List (D × D)} (he : DpEnts K H xs kvs) :
    DpEnts K H (storedH xs k a u) (storeN kvs kd k d) := by
  unfold storedH storeN
  rw [look_some he]
  split
  · exact ents_put r h he
  · exact ents_app he (.cons ek hk r h .nil)
theorem storeN_len (kvs : List (D × D)) (kd : D) (k : NestedKey) (d : D) : (storeN kvs kd k d).length ≤ kvs.length + 1 := by
  unfold storeN
  split
  · rw [List.length_map]; omega
  · rw [List.length_append]; exact Nat.le_refl _
/-! ### the rules -/
def dicO (kvs : List (D × D)) (K : PySem.W.Frag) (H : Hp) (p : Addr) (o : Obj) (xs : List (NestedKey × Addr × Value)) : Prop := H p = some (dnO p o) ∧ DictO o xs ∧ DpEnts K H xs kvs ∧ (xs.map (·.1)).Nodup ∧ (p == sysModules) = false ∧ xs.length ≤ sizeLine
theorem Vw.dic {K : PySem.W.Frag} {H Hk : Hp} {v : V} {kvs : List (D × D)} (s : Same Hk H) (h : Vw K H Hk v (.dict kvs)) : ∃ p o xs, v = .ref p ∧ dicO kvs K H p o xs := by
  obtain ⟨p, o, xs, e, h1, h2, h3, h4, h5, h6⟩ := h.dct s
  exact ⟨p, o, xs, e, h1, h2, dpe_mono s h3, h4, h5, h6⟩
section
variable {X : Cx}
/-- k in d -/
def rInG (K : PySem.W.Frag) (f : Bool → Bool) : R2 := fun x y H Q => ∃ a p o xs kvs kd k, x = .ref a ∧ y = .ref p ∧ dicO kvs K H p o xs ∧ Dp K H (.ref a) kd ∧ keyD kd = some k ∧ Q (.bl (f (lookN kvs k).isSome)) H
theorem val_look {K : PySem.W.Frag} {H : Hp} {k : NestedKey} {xs : List (NestedKey × Addr × Value)} {kvs : List (D × D)} (h : DpEnts K H xs kvs) : (valueAt (pairsH xs) k).isSome = (lookN kvs k).isSome := by
  rw [valueAt_pairsH, Option.isSome_map, look_some h]
theorem op_inG {n : Nat} (hr : Room n X.A) : OpR X (compareOp .In) (rInG X.K id) := by
  intro pins s σ H x y v u Q I rx ry h
  obtain ⟨a, p, o, xs, kvs, kd, k, rfl, rfl, ⟨h1, h2, h3, h4, h5, h6⟩, hk, ek, q⟩ := h
  cases rx
  cases ry
  have un := hr.un
  refine in_keyed (kvs := pairsH xs) (knd := nestedKind X.prog X.w) (k := k) (by show X.A.in1.units + 8 < cLine; rw [Around.in1_units]; omega) (keyN_at I hk ek) h5 ⟨xs, dictN_at I h1 h2 h3 h4, rfl⟩ ?_
  rw [val_look h3]
  exact ⟨.bl _, H, I.tok _, rfl, q⟩
theorem op_notInG {n : Nat} (hr : Room n X.A) : OpR X (compareOp .NotIn) (rInG X.K not) := by
  intro pins s σ H x y v u Q I rx ry h
  obtain ⟨a, p, o, xs, kvs, kd, k, rfl, rfl, ⟨h1, h2, h3, h4, h5, h6⟩, hk, ek, q⟩ := h
  cases rx
  cases ry
  have un := hr.un
  refine notIn_keyed (kvs := pairsH xs) (knd := nestedKind X.prog X.w) (k := k) (by show X.A.in1.units + 8 < cLine; rw [Around.in1_units]; omega) (keyN_at I hk ek) h5 ⟨xs, dictN_at I h1 h2 h3 h4, rfl⟩ ?_
  rw [val_look h3]
  exact ⟨.bl _, H, I.tok _, rfl, q⟩
/-- d[k] -/
def rIxG (K : PySem.W.Frag) : R2 := fun x y H Q => ∃ a p o xs kvs kd k, x = .ref p ∧ y = .ref a ∧ dicO kvs K H p o xs ∧ Dp K H (.ref a) kd ∧ keyD kd = some k ∧ ∃ qq w, atKey xs k = some qq ∧ RelV w qq.2 ∧ Q w H
theorem at_look {K : PySem.W.Frag} {H : Hp} {k : NestedKey} {xs : List (NestedKey × Addr × Value)} {kvs : List (D × D)} (h : DpEnts K H xs kvs) {d : D} (e : lookN kvs k = some d) : ∃ q v, atKey xs k = some q ∧ RelV v q.2 ∧ Dp K H v d := by
  obtain ⟨a, b⟩ := lookN_at (k := k) h
  cases e1 : atKey xs k with
  | none => rw [b e1] at e; cases e
  | some q =>
    obtain ⟨v, d', e2, r, hd⟩ := a q e1
    rw [e] at e2; cases e2
    exact ⟨q, v, rfl, r, hd⟩
theorem ix_dic {n : Nat} (hr : Room n X.A) : IxR X (rIxG X.K) := by
  intro value slice pins s σ H x y v u Q I rx ry h hs
  obtain ⟨a, p, o, xs, kvs, kd, k, rfl, rfl, ⟨h1, h2, h3, h4, h5, h6⟩, hk, ek, qq, w, e1, rw', q⟩ := h
  cases rx
  cases ry
  have un := hr.un
  have hm := dictN_at I h1 h2 h3 h4
  exact tail_any hm.typeIs PySem.F.slot_dict_getitem.lookup (getItem_keyed (kvs := pairsH xs) (knd := nestedKind X.prog X.w) (k := k) (v := qq.2) (by show X.A.in1.units + 8 < cLine; rw [Around.in1_units]; omega) (keyN_at I hk ek) ⟨xs, hm, rfl⟩ (by rw [valueAt_pairsH, e1]; rfl)
    ⟨w, H, I.tok _, rw', q⟩) hs
/-- d.get(k), d.get(k, v) -/
def rGetN (K : PySem.W.Frag) : V → List V → Hp → VK → Prop := fun x vs H Q => ∃ a p o xs kvs kd k, x = .ref p ∧ dicO kvs K H p o xs ∧ Dp K H (.ref a) kd ∧ keyD kd = some k ∧ ((vs = [.ref a] ∧ (atKey xs k = none → Q .non H)) ∨ ∃ y, vs = [.ref a, y] ∧ (atKey xs k = none → Q y H)) ∧ ∀ qq, atKey xs k = some qq → ∃ w, RelV w qq.2 ∧ Q w H
theorem mt_getN {n : Nat} (hr : Room n X.A) : MtR X "dict.get" (rGetN X.K) := by
  intro pins s σ H x vs v us Q I rx rv h
  obtain ⟨a, p, o, xs, kvs, kd, k, rfl, ⟨h1, h2, h3, h4, h5, h6⟩, hk, ek, hv, q⟩ := h
  cases rx
  have un := hr.un
  have hm := dictN_at I h1 h2 h3 h4
  have ur : (nestedKind X.prog X.w).room X.A.in1 := by show X.A.in1.units + 8 < cLine; rw [Around.in1_units]; omega
  rcases hv with ⟨rfl, q0⟩ | ⟨y, rfl, q0⟩
  · cases rv with
    | cons r1 rr =>
      cases r1
      cases rr
      refine get_keyed (kvs := pairsH xs) ur (keyN_at I hk ek) h5 ⟨xs, hm, rfl⟩ ?_
      rw [valueAt_pairsH]
      cases e1 : atKey xs k with
      | none => exact ⟨.non, H, I.tok _, rfl, q0 e1⟩
      | some qq =>
        obtain ⟨w, rw', z⟩ := q qq e1
        exact ⟨w, H, I.tok _, rw', z⟩
  · cases rv with
    | cons r1 rr =>
      cases r1
      cases rr with
      | cons r2 rr2 =>
        cases rr2
        refine getOr_keyed (kvs := pairsH xs) ur (keyN_at I hk ek) h5 ⟨xs, hm, rfl⟩ ?_
        rw [valueAt_pairsH]
        cases e1 : atKey xs k with
        | none => exact ⟨y, H, I.tok _, r2, q0 e1⟩
        | some qq =>
          obtain ⟨w, rw', z⟩ := q qq e1
          exact ⟨w, H, I.tok _, rw', z⟩
/-- d[k] = v -/
def rSetN (K : PySem.W.Frag) : V → V → V → Hp → (Hp → Prop) → Prop := fun o i v H Q => ∃ p ob xs kvs a kd k d, o = .ref p ∧ i = .ref a ∧ dicO kvs K H p ob xs ∧ Dp K H (.ref a) kd ∧ keyD kd = some k ∧ Dp K H v d ∧ xs.length < sizeLine ∧
  ∀ o2 u, RelV v u → DictO o2 (storedH xs k a u) → ((storedH xs k a u).map (·.1)).Nodup → (storedH xs k a u).length ≤ sizeLine → Q (upd H p (dnO p o2))
theorem set_dicN {n : Nat} (hr : Room n X.A) : PSet X (rSetN X.K) := by
  intro pins s σ H o i v ov iv u Q I ro ri rv h
  obtain ⟨p, ob, xs, kvs, a, kd, k, d, rfl, rfl, ⟨h1, h2, h3, h4, h5, h6⟩, hk, ek, hd, hz, q⟩ := h
  cases ro
  cases ri
  have un := hr.un
  have hm := dictN_at I h1 h2 h3 h4
  refine wpAny_setItem_heap (hsz := h6) (by show X.A.in1.units + 8 < cLine; rw [Around.in1_units]; omega) (keyN_at I hk ek) hm fun h' hm' hs => ?_
  obtain ⟨o2, ho2, hd2, nd2⟩ := dictN_of hm' (ents_store ek hk rv hd h3)
  have hl : (storedH xs k a u).length ≤ sizeLine := by
    rw [ents_len (ents_store ek hk rv hd h3)]
    have := storeN_len kvs kd k d
    rw [← ents_len h3] at this
    omega
  exact ⟨_, I.write (x := p) (e := p) (by rw [h1]; exact True.intro) (.inl rfl) (fun b u hne z => (hs.2 b hne).trans z) ⟨o2, ho2⟩ (dnO_ok ho2), q o2 u rv hd2 nd2 hl⟩
/-- {}, to be a dict with tuples as keys -/
def tDicNew : TE := fun _ H Q => ∀ p o, H p = none → (p == sysModules) = false → DictO o [] → Q (.ref p) (upd H p (dnO p o))
theorem pe_dicNew {pos : Pos} : PE X (.Dict [] [] pos) tDicNew := by
  constructor
  intro pins s σ H Q I h
  have big := I.big
  refine wpAny_Dict_empty ?_
  have e : (s.heap.push { cls := .type "dict", data := .dict #[] }).get? s.heap.objs.size = some { cls := .type "dict", data := .dict #[] } := Heap.get?_push_size _ rfl
  exact ⟨.ref s.heap.objs.size, _, I.laid (t' := s.toks) (fun _ _ q => Heap.get?_push_of_some _ q) (Nat.le_refl _) (dnO_ok e), rfl, h _ _ (I.hok.fresh (Nat.le_refl _)) (beq_eq_false_iff_ne.mpr (Nat.ne_of_gt big)) ⟨⟨rfl, rfl, rfl⟩, #[], 0, rfl, rfl⟩⟩
theorem dnO_ty {p : Addr} {o : Obj} {xs : List (NestedKey × Addr × Value)} {H : Hp} (hp : H p = some (dnO p o)) (ho : DictO o xs) : TyAt X "dict" (.ref p) H := by
  intro pins s σ v I r
  cases r
  obtain ⟨h1, _, _⟩ := I.hok p _ hp
  exact ⟨⟨o, h1, ho.1.1⟩, fun a e => by cases e; exact ⟨o, h1, ho.1.2.1⟩⟩
end
end DN
namespace DN
open PySem PySem.Spec PyProof.Rows L2
/-! ### walks over the keys of a dict -/
def Itn (d : Addr) (o : Obj) (xs : List (NestedKey × Addr × Value)) : It where
  go i H := H d = some (dnO d o) ∧ i < xs.length
  yld i H x H' := H' = H ∧ ∃ e, xs[i]? = some e ∧ x = .ref e.2.1
  stop i H := H d = some (dnO d o) ∧ xs.length ≤ i
theorem ent_at {o : Obj} {xs : List (NestedKey × Addr × Value)} (h : DictO o xs) : o.ExactDict ∧ ∃ es ep, o.data = .dict es ep ∧ es.size = xs.length ∧ ∀ (i : Nat) (e : NestedKey × Addr × Value), xs[i]? = some e → ∃ en, es[i]? = some en ∧ en.key = .ref e.2.1 ∧ en.val = e.2.2 := by
  obtain ⟨hx, es, ep, hd, he⟩ := h
  refine ⟨hx, es, ep, hd, ?_, fun i e h1 => ?_⟩
  · rw [← Array.length_toList, he, List.length_map]
  · refine ⟨entN e, ?_, rfl, rfl⟩
    rw [← Array.getElem?_toList, he, List.getElem?_map, h1]
    rfl
section
variable {P : Program} {w : World} {K : PySem.W.Frag} {tg : Expr} {d it : Addr} {o : Obj} {xs : List (NestedKey × Addr × Value)} {es : Array DictEntry} {ep : Nat}
theorem turnN (ho : DictO o xs) (hod : o.data = .dict es ep) : Turn P w K tg (Itn d o xs) [it] it (fun i h => h.IsKeyIter it d i xs.length ep) := by
  obtain ⟨hx, es', ep', hd', hz, he⟩ := ent_at ho
  rw [hod] at hd'
  cases hd'
  refine ⟨List.mem_singleton.mpr rfl, fun i h st b hb => ?_, fun i h h' st k => ?_, ?_, ?_, fun A i s Q E st h => wpAny_pyIter_keyiter st h⟩
  · obtain ⟨oi, q1, q2, q3⟩ := st
    refine ⟨oi, by rw [List.mem_singleton.mp hb]; exact q1, fun v z => ?_⟩
    rw [q3] at z; cases z
  · exact st.at fun oi q => k it (List.mem_singleton.mpr rfl) oi q
  · intro X e1 e2 e3 hc i pins s σ H E I hf st hg
    subst e1; subst e2; subst e3
    obtain ⟨f0, f1, f2, f3, f4, f5⟩ := hf it (List.mem_singleton.mpr rfl)
    obtain ⟨hgd, _, _⟩ := I.hok d _ hg.1
    obtain ⟨e, hi⟩ : ∃ e, xs[i]? = some e := ⟨_, List.getElem?_eq_getElem hg.2⟩
    obtain ⟨en, hen, hk, _⟩ := he i _ hi
    refine next_key_item st hgd hod hz hen fun h' st' sb => ?_
    have I1 : Inv X pins σ H { s with heap := h' } := I.turned (t' := s.toks) (fun b ob hb q => (sb.2 b hb).trans q) f0 f1 f3 f4 f5
    obtain ⟨oi, q1, q2, q3⟩ := id st'
    exact ⟨en.key, rfl, go_of (s := { s with heap := h' }) q1 q2 q3 (by decide) ⟨.ref e.2.1, H, I1, hk, ⟨rfl, _, hi, rfl⟩, st', fun b hb => (hf b hb).1⟩⟩
  · intro X e1 e2 e3 hc i pins s σ H E I hf st hg
    subst e1; subst e2; subst e3
    obtain ⟨f0, f1, f2, f3, f4, f5⟩ := hf it (List.mem_singleton.mpr rfl)
    obtain ⟨hgd, _, _⟩ := I.hok d _ hg.1
    exact next_key_end (I.ok.hd hc) st hgd hod hz hg.2 fun h' eb => ⟨rfl, I.turned (t' := s.toks) (fun b ob hb q => eb b ob hb q) f0 f1 f3 f4 f5⟩
end
def iKeyN (td : TE) : TI := fun σ H R => td σ H fun x H1 => ∃ d o xs, x = .ref d ∧ H1 d = some (dnO d o) ∧ DictO o xs ∧ (d == sysModules) = false ∧ R (Itn d o xs) H1
theorem pi_keyN {X : Cx} {tg e : Expr} {td : TE} (he : PE X e td) : PI X tg e (iKeyN td) := by
  refine ⟨fun pins s σ H R I h => ?_⟩
  refine thn (he.run pins s σ H _ I h) fun u s1 ⟨x, H1, I1, rx, d, o, xs, ex, hd, ho, hs, q⟩ => ?_
  subst ex
  obtain rfl : u = Value.ref d := rx
  obtain ⟨hgd, _, _⟩ := I1.hok d _ hd
  obtain ⟨hx, es, ep, hdt, hz, _⟩ := ent_at ho
  refine iter_keys hs hgd hx hdt (pi_one (tk := s1.toks) I1 _ (turnN ho hdt) ⟨_, Heap.get?_push_size _ rfl, rfl, ?_⟩ q)
  rw [hz]
  rfl
section
variable {K : PySem.W.Frag}
theorem ents_key {H : Hp} : ∀ {xs : List (NestedKey × Addr × Value)} {kvs : List (D × D)}, DpEnts K H xs kvs → ∀ (i : Nat) (h : i < kvs.length), ∃ e, xs[i]? = some e ∧ Dp K H (.ref e.2.1) (kvs[i].1) ∧ ∃ v, RelV v e.2.2 ∧ Dp K H v (kvs[i].2)
  | _, _, .nil, i, h => absurd h (Nat.not_lt_zero _)
  | _, _, .cons h1 h2 h3 h4 t, 0, _ => ⟨_, rfl, h2, _, h3, h4⟩
  | _, _, .cons h1 h2 h3 h4 t, i + 1, h => ents_key t i (Nat.lt_of_succ_lt_succ h)
theorem walks_k {Hk : Hp} {d : Addr} {o : Obj} {xs : List (NestedKey × Addr × Value)} {kvs : List (D × D)} (hd : Hk d = some (dnO d o)) (he : DpEnts K Hk xs kvs) : Walks K (Itn d o xs) (kvs.map (·.1)) Hk := fun H Hc s1 s2 => by
  have hh : H d = some (dnO d o) := s2 _ _ (s1 _ _ hd)
  have hl := ents_len he
  refine ⟨fun i hi => ?_, fun i hi => ⟨hh, by rw [List.length_map] at hi; omega⟩⟩
  have hi' : i < kvs.length := by simpa using hi
  obtain ⟨e, e1, r, _⟩ := ents_key he i hi'
  refine ⟨⟨hh, by omega⟩, fun x H' y => ?_⟩
  obtain ⟨rfl, e', e2, rfl⟩ := y
  rw [e1] at e2; cases e2
  exact ⟨Hc, Grow.refl s2, by simpa using dp_mono s1 r⟩
end
@[simp] def wKey (f : Fe) : Fa := fun γ => match f γ with
  | some (.dict kvs, γ1) => some (kvs.map (·.1), γ1)
  | _ => none
theorem ei_key {X : Cx} {tg e : Expr} {f : Fe} (h : EV X e f) : EI X tg e (wKey f) := PI.imp (pi_keyN h) fun σ H R ⟨γ, Hk, ds, γ2, o, ee, q⟩ => by
  unfold wKey at ee
  split at ee <;> cases ee
  rename_i ef
  refine ⟨γ, Hk, _, _, o, ef, fun v H1 Hk1 g1 r1 => ?_⟩
  cases r1 with
  | dct h1 h2 h3 h4 h5 h6 => exact ⟨_, _, _, rfl, g1.ok.sub _ _ h1, h2, h5, q _ H1 Hk1 g1 (walks_k h1 h3)⟩
/-! ### in, d[k], d.get: as functions of data -/
@[simp] def inX (x y : D) : Option D := match y with
  | .dict kvs => match keyD x with
    | some k => some (.bool (lookN kvs k).isSome)
    | none => none
  | _ => inD x y
@[simp] def notInX (x y : D) : Option D := match y with
  | .dict kvs => match keyD x with
    | some k => some (.bool (!(lookN kvs k).isSome))
    | none => none
  | _ => notInD x y
@[simp] def ixX (x y : D) : Option D := match x with
  | .dict kvs => match keyD y with
    | some k => lookN kvs k
    | none => none
  | _ => ixD x y
section
variable {X : Cx} {K : PySem.W.Frag}
theorem key_ref {H : Hp} {v : V} {d : D} {k : NestedKey} (h : Dp K H v d) (e : keyD d = some k) : ∃ a, v = .ref a := by
  obtain ⟨ds, rfl⟩ := (keyD_of e).1
  cases h
  exact ⟨_, rfl⟩
theorem Vw.key {H Hk : Hp} {v : V} {d : D} {k : NestedKey} (s : Same Hk H) (h : Vw K H Hk v d) (e : keyD d = some k) : ∃ a, v = .ref a ∧ Dp K H (.ref a) d := by
  obtain ⟨a, rfl⟩ := key_ref (h.dp s) e
  exact ⟨a, rfl, h.dp s⟩
abbrev rInX (K : PySem.W.Frag) (f : Bool → Bool) : R2 := fun x y H Q => ((∃ i j, x = .str i ∧ y = .str j ∧ Q (.bl (f (!(Builtin.Str.occurrences j i 0 j.length 1).isEmpty))) H) ∨ rInN K f x y H Q) ∨ rInG K f x y H Q
theorem o_inX : Op2 K (rInX K id) inX := by
  intro H Hk x y dx dy dz Q s vx vy e q
  unfold inX at e
  split at e
  · split at e <;> cases e
    rename_i ek
    obtain ⟨p, o, xs, rfl, hd⟩ := vy.dic s
    obtain ⟨a, rfl, hk⟩ := vx.key s ek
    exact .inr ⟨a, p, o, xs, _, _, _, rfl, rfl, hd, hk, ek, q _ H Hk (Grow.refl s) (.bl _)⟩
  · exact .inl (o_in H Hk x y dx dy dz Q s vx vy e q)
theorem o_notInX : Op2 K (rInX K not) notInX := by
  intro H Hk x y dx dy dz Q s vx vy e q
  unfold notInX at e
  split at e
  · split at e <;> cases e
    rename_i ek
    obtain ⟨p, o, xs, rfl, hd⟩ := vy.dic s
    obtain ⟨a, rfl, hk⟩ := vx.key s ek
    exact .inr ⟨a, p, o, xs, _, _, _, rfl, rfl, hd, hk, ek, q _ H Hk (Grow.refl s) (.bl _)⟩
  · exact .inl (o_notIn H Hk x y dx dy dz Q s vx vy e q)
theorem x_inX {n : Nat} (hr : Room n X.A) : OpR X (compareOp .In) (rInX X.K id) := (x_in (u65 hr)).or (op_inG hr)
theorem x_notInX {n : Nat} (hr : Room n X.A) : OpR X (compareOp .NotIn) (rInX X.K not) := (x_notIn (u65 hr)).or (op_notInG hr)
end
section
variable {K : PySem.W.Frag}
abbrev rIxX (K : PySem.W.Frag) : R2 := fun x y H Q => rIx K x y H Q ∨ rIxG K x y H Q
/-- what stands in a dict that is seen lasts -/
theorem Vw.dicK {H Hk : Hp} {v : V} {kvs : List (D × D)} (s : Same Hk H) (h : Vw K H Hk v (.dict kvs)) : ∃ p o xs, v = .ref p ∧ dicO kvs K H p o xs ∧ DpEnts K Hk xs kvs := by
  obtain ⟨p, o, xs, e, h1, h2, h3, h4, h5, h6⟩ := h.dct s
  exact ⟨p, o, xs, e, ⟨h1, h2, dpe_mono s h3, h4, h5, h6⟩, h3⟩
theorem o_ixX : Op2 K (rIxX K) ixX := by
  intro H Hk x y dx dy dz Q s vx vy e q
  unfold ixX at e
  split at e
  · split at e
    · rename_i ek
      obtain ⟨p, o, xs, rfl, hd, he⟩ := vx.dicK s
      obtain ⟨a, rfl, hk⟩ := vy.key s ek
      obtain ⟨qq, w, e1, r, hw⟩ := at_look he e
      exact .inr ⟨a, p, o, xs, _, _, _, rfl, rfl, hd, hk, ek, qq, w, e1, r, q _ H Hk (Grow.refl s) hw⟩
    · cases e
  · exact .inl (o_ix H Hk x y dx dy dz Q s vx vy e q)
end
section
variable {X : Cx} {a b : Expr} {f g : Fe} {pos : Pos} {n : Nat}
theorem dix (hr : Room n X.A) (ha : EV X a f) (hb : EV X b g) (hs : PlainIx b) : EV X (.Subscript a b pos) (f2 ixX f g) := PE.imp (pe_ix (ix_seq.or (ix_dic hr)) ha hb hs) fun _ _ _ h => t2 o_ixX h
theorem dixn {i : Nat} (hr : Room n X.A) (ha : PE X a (tVar i)) (hb : EV X b g) (hs : PlainIx b) : EV X (.Subscript a b pos) (f2n ixX i g) := PE.imp (pe_ix (ix_seq.or (ix_dic hr)) ha hb hs) fun _ _ _ h => t2n o_ixX h
theorem dixm {j : Nat} (hr : Room n X.A) (ha : EV X a f) (hb : PE X b (tVar j)) (hs : PlainIx b) : EV X (.Subscript a b pos) (f2m ixX f j) := PE.imp (pe_ix (ix_seq.or (ix_dic hr)) ha hb hs) fun _ _ _ h => t2m o_ixX h
theorem dixnn {i j : Nat} (hr : Room n X.A) (ha : PE X a (tVar i)) (hb : PE X b (tVar j)) (hs : PlainIx b) : EV X (.Subscript a b pos) (f2nn ixX i j) := PE.imp (pe_ix (ix_seq.or (ix_dic hr)) ha hb hs) fun _ _ _ h => t2nn o_ixX h
end
/-! ### d.get -/
@[simp] def fGet1 (i : Nat) (f : Fe) : Fe := fun γ => match view γ i with
  | some (.dict _) => match f γ with
    | some (kd, γ1) => match view γ1 i with
      | some (.dict kvs) => match keyD kd with
        | some k => some ((lookN kvs k).getD .none, γ1)
        | none => none
      | _ => none
    | none => none
  | _ => none
@[simp] def fGet2 (i : Nat) (f g : Fe) : Fe := fun γ => match view γ i with
  | some (.dict _) => match f γ with
    | some (kd, γ1) => match keyD kd with
      | some k => match g γ1 with
        | some (z, γ2) => match view γ2 i with
          | some (.dict kvs) => some ((lookN kvs k).getD z, γ2)
          | _ => none
        | none => none
      | none => none
    | none => none
  | _ => none
section
variable {X : Cx} {i : Nat}
theorem ev_get1 {n : Nat} (hr : Room n X.A) {d ke : Expr} {f : Fe} {a1 c1 : Pos} (hd : PE X d (tVar i)) (hk : EV X ke f)
    (b1 : attributeBase d "get" X.env (eval d X.env) = eval d X.env := by rfl)
    (f1' : ((backTo c1 (starEach [ke] X.env)).all (fun x => !x.1) && (backToKw c1 (keywordEach [] X.env)).all (fun x => x.1.isSome) && decide ([ke].length + ([] : List Keyword).length + (if ([] : List Keyword).isEmpty then 0 else 1) < 30)) = true := by rfl)
    (l1 : (a1.endLine == c1.line) = true := by rfl) (s1 : starEach [ke] X.env = (false, eval ke X.env) :: starEach [] X.env := by rfl) (p1 : (backTo c1 (starEach [] X.env)).any (·.1) = false := by rfl) :
    EV X (.Call (.Attribute d "get" a1) [ke] [] c1) (fGet1 i f) :=
  PE.imp (pe_meth PySem.F.plainAttrs_dict PySem.F.slot_dict_get PySem.F.type_dict_get (mt_getN hr) hd (pa_cons hk pa_nil s1) b1 f1' l1 s1 p1) fun σ H Q ⟨γ, Hk, dd, γ2, o, ee, q⟩ => by
  unfold fGet1 at ee
  split at ee
  · rename_i kv0 e0
    split at ee
    · rename_i kd γ1 ef
      split at ee
      · rename_i kvs ev
        split at ee <;> cases ee
        rename_i k ek
        obtain ⟨v0, ev0, w0⟩ := o.view e0
        obtain ⟨p0, o0, xs0, rfl, hd0⟩ := w0.dic o.sub
        refine ⟨.ref p0, ev0, dnO_ty hd0.1 hd0.2.1, γ, Hk, kd, _, o, ef, fun v1 H1 Hk1 g1 r1 => ?_⟩
        obtain ⟨v2, ev2, w2⟩ := g1.ok.view ev
        rw [ev0] at ev2; cases ev2
        obtain ⟨p1, o1, xs1, e1, hd1, he1⟩ := w2.dicK g1.ok.sub
        cases e1
        obtain ⟨a, rfl⟩ := key_ref r1 ek
        refine ⟨a, p0, o1, xs1, kvs, kd, k, rfl, hd1, dp_mono g1.ok.sub r1, ek, .inl ⟨rfl, fun no => ?_⟩, fun qq hq => ?_⟩
        · rw [(lookN_at he1).2 no] at q
          exact q .non H1 Hk1 g1 .non
        · obtain ⟨w, d, e2, rw', hw⟩ := (lookN_at he1).1 qq hq
          rw [e2] at q
          exact ⟨w, rw', q w H1 Hk1 g1 hw⟩
      · cases ee
    · cases ee
  · cases ee
theorem ev_get2 {n : Nat} (hr : Room n X.A) {d ke y : Expr} {f g : Fe} {a1 c1 : Pos} (hd : PE X d (tVar i)) (hk : EV X ke f) (hy : EV X y g)
    (b1 : attributeBase d "get" X.env (eval d X.env) = eval d X.env := by rfl)
    (f1' : ((backTo c1 (starEach [ke, y] X.env)).all (fun x => !x.1) && (backToKw c1 (keywordEach [] X.env)).all (fun x => x.1.isSome) && decide ([ke, y].length + ([] : List Keyword).length + (if ([] : List Keyword).isEmpty then 0 else 1) < 30)) = true := by rfl)
    (l1 : (a1.endLine == c1.line) = true := by rfl) (s1 : starEach [ke, y] X.env = (false, eval ke X.env) :: starEach [y] X.env := by rfl) (p1 : (backTo c1 (starEach [y] X.env)).any (·.1) = false := by rfl)
    (s1' : starEach [y] X.env = (false, eval y X.env) :: starEach [] X.env := by rfl) : EV X (.Call (.Attribute d "get" a1) [ke, y] [] c1) (fGet2 i f g) :=
  PE.imp (pe_meth PySem.F.plainAttrs_dict PySem.F.slot_dict_get PySem.F.type_dict_get (mt_getN hr) hd (pa_cons hk (pa_cons hy pa_nil s1') s1) b1 f1' l1 s1 p1) fun σ H Q ⟨γ, Hk, dd, γ2, o, ee, q⟩ => by
  unfold fGet2 at ee
  split at ee
  · rename_i kv0 e0
    split at ee
    · rename_i kd γ1 ef
      split at ee
      · rename_i k ek
        split at ee
        · rename_i z γ3 eg
          split at ee <;> cases ee
          rename_i kvs ev
          obtain ⟨v0, ev0, w0⟩ := o.view e0
          obtain ⟨p0, o0, xs0, rfl, hd0⟩ := w0.dic o.sub
          refine ⟨.ref p0, ev0, dnO_ty hd0.1 hd0.2.1, γ, Hk, kd, γ1, o, ef, fun v1 H1 Hk1 g1 r1 => ⟨γ1, Hk1, z, _, g1.ok, eg, fun y2 H2 Hk2 g2 r2 => ?_⟩⟩
          obtain ⟨v2, ev2, w2⟩ := g2.ok.view ev
          rw [ev0] at ev2; cases ev2
          obtain ⟨p1, o1, xs1, e1, hd1, he1⟩ := w2.dicK g2.ok.sub
          cases e1
          obtain ⟨a, rfl⟩ := key_ref r1 ek
          refine ⟨a, p0, o1, xs1, kvs, kd, k, rfl, hd1, dp_mono (g2.kk.trans g2.ok.sub) r1, ek, .inr ⟨y2, rfl, fun no => ?_⟩, fun qq hq => ?_⟩
          · rw [(lookN_at he1).2 no] at q
            exact q y2 H2 Hk2 (g1.trans g2) r2
          · obtain ⟨w, d, e2, rw', hw⟩ := (lookN_at he1).1 qq hq
            rw [e2] at q
            exact ⟨w, rw', q w H2 Hk2 (g1.trans g2) hw⟩
        · cases ee
      · cases ee
    · cases ee
  · cases ee
end
/-! ### d = {}; d[k] = v -/
@[simp] def sDicNew (i : Nat) : Fs := fun γ => if pinB γ i then none else some (.nx (γ.set i (some (.ow false (.dic [])))))
@[simp] def sDicPut (i : Nat) (f g : Fe) : Fs := fun γ => match f γ with
  | some (d, γ1) => match gt γ1 i with
    | some (.ow _ (.dic _)) => match g γ1 with
      | some (kd, γ2) => match gt γ2 i with
        | some (.ow b (.dic kvs)) => match keyD kd with
          | some k => if okN kvs.length then some (.nx (γ2.set i (some (.ow b (.dic (storeN kvs kd k d)))))) else none
          | none => none
        | _ => none
      | none => none
    | _ => none
  | none => none
section
variable {W : WX} {X : Cx} {e a i' : Expr} {f g : Fe} {pos : Pos}
theorem es_dicNew (i : Nat) {x : Str} {p' dp pos : Pos} (hN : X.N.Nodup) (hi : X.N[i]? = some x) (hx : Loc X.env.scope x) (hs : swapsWith (.Dict [] [] dp) (some (.Name x p')) pos.line X.env = pure false := by rfl)
    (hf : X.fn x = true ∨ X.env.scope.names.lookup x = some .local := by first | exact .inl rfl | exact .inr rfl | assumption) : ES X W (.Assign [.Name x p'] (.Dict [] [] dp) pos) (sDicNew i) :=
  PS.imp (ps_set hN hi hx pe_dicNew hs hf) fun Z σ H ⟨γ, Hk, o, k, e, q⟩ => by
  unfold sDicNew at e
  split at e <;> cases e
  rename_i c
  intro p ob hp hs ho
  exact q _ _ _ (k.setNew (same_upd hp) (.dic upd_same (k.sub.free hp) ho .nil List.nodup_nil hs (Nat.zero_le _)) (fun a ha => by rw [List.mem_singleton.mp ha]; exact hp) (noPin_of k (by simpa using c)))
theorem es_dicPut (i : Nat) {n : Nat} (hr : Room n X.A) {p' : Pos} (he : EV X e f) (ho : PE X a (tVar i)) (hi : EV X i' g)
    (ha : ∀ v, assign (.Subscript a i' p') X.env v = (do
      let ov ← holding [v] (eval a X.env)
      let iv ← holding [v, ov] (eval i' X.env)
      standAt p'
      holding [v, ov, iv] (setItem ov iv v)
      release [v, ov, iv] []) := by intro _; rfl)
    (hs : swapsWithSole [.Subscript a i' p'] e pos.line X.env = pure false := by rfl) (hw : swappedStores [.Subscript a i' p'] e X.env = pure none := by rfl)
    (h1 : (assignEach [.Subscript a i' p'] X.env).map (·.2) = [assign (.Subscript a i' p') X.env] := by rfl) : ES X W (.Assign [.Subscript a i' p'] e pos) (sDicPut i f g) :=
  PS.imp (ps_asg he (pg_sub ho hi (set_dicN hr) ha) hs hw h1) fun Z σ H ⟨γ, Hk, o, k, e, q⟩ => by
  unfold sDicPut at e
  split at e
  · rename_i d γ1 ef
    split at e
    · rename_i b0 kv0 e0
      split at e
      · rename_i kd γ2 eg
        split at e
        · rename_i b kvs eo
          split at e
          · rename_i key ek
            split at e <;> cases e
            rename_i c
            refine ⟨γ, Hk, d, γ1, k, ef, fun v H1 Hk1 g1 r1 => ?_⟩
            obtain ⟨v0, fp0, e1, r0⟩ := g1.ok.ow i _ _ e0
            obtain ⟨p, rfl⟩ : ∃ p, v0 = .ref p := by cases r0; exact ⟨_, rfl⟩
            refine ⟨_, e1, γ1, Hk1, kd, γ2, g1.ok, eg, fun w H2 Hk2 g2 r2 => ?_⟩
            obtain ⟨v2, fp2, e2, r3⟩ := g2.ok.ow i _ _ eo
            rw [e1] at e2; cases e2
            have r3' := r3
            cases r3 with
            | @dic p o xs kvs h1 h2 h3 h4 h5 h6 h7 =>
              obtain ⟨a', rfl⟩ := key_ref r2 ek
              have sub := g2.ok.sub
              have rv := dp_mono g2.kk r1
              refine ⟨p, o, xs, kvs, a', kd, key, d, rfl, rfl, ⟨h1, h3, dpe_mono sub h4, h5, h6, h7⟩, dp_mono sub r2, ek, dp_mono sub rv, by rw [ents_len h4]; exact okN_lt c, fun o2 u ru ho2 nd2 hl2 => ?_⟩
              exact q _ _ _ ((g1.trans g2).trans (g2.ok.change eo e1 r3' (fun x y hx hn => by rw [upd_ne (fun z => hn (by simp [z]))]; exact hx) (.dic upd_same h2 ho2 (ents_store ek r2 ru rv h4) nd2 h6 hl2) (fun x hx => .inl hx)))
          · cases e
        · cases e
      · cases e
    · cases e
  · cases e
end
end DN
namespace DN
open PySem PySem.Spec PyProof.Rows L2
/-! ### {k: v for .. in .. if ..}: keys that are tuples -/
abbrev noDict : Obj := { cls := .type "dict", data := .dict #[] }
theorem noDict_is : DictO noDict [] := ⟨⟨rfl, rfl, rfl⟩, #[], 0, rfl, rfl⟩
/-- a comprehension's parts, read within its block -/
structure DcB (X : Cx) (kx vx tg iter : Expr) (ifs : List Expr) (scope : Scope) (own : List (Str × Nat)) (wi : TI) (g : TG) (tt : TT) (tk tv : TE) : Prop where
  calm : X.calm = true
  nd : X.N.Nodup
  src : PI X tg iter wi
  ok : BlkOk X.N X.env.scope scope own
  go : ∀ (s : Shared) (H : Hp) (C : Addr) (cl : List (Str × Addr)) (fp : List Addr), PG (X.blk s H scope (compEnvC scope cl C X.env) fp) tg g
  ts : ∀ (s : Shared) (H : Hp) (C : Addr) (cl : List (Str × Addr)) (fp : List Addr), PTs (X.blk s H scope (compEnvC scope cl C X.env) fp) ifs tt
  ke : ∀ (s : Shared) (H : Hp) (C : Addr) (cl : List (Str × Addr)) (fp : List Addr), PE (X.blk s H scope (compEnvC scope cl C X.env) fp) kx tk
  va : ∀ (s : Shared) (H : Hp) (C : Addr) (cl : List (Str × Addr)) (fp : List Addr), PE (X.blk s H scope (compEnvC scope cl C X.env) fp) vx tv
  fold : ∀ x, foldedSetIterable iter X.env x = pure x
/-- what the loop asks: D the new dict -/
def tDcL (K : PySem.W.Frag) (J : It) (g : TG) (tt : TT) (tk tv : TE) (vs : List Nat) (σ : L2.St) (H1 : Hp) (D : Addr) (Q : VK) : Prop := ∃ W : Nat → Nat → Hp → Prop, (∃ m, W 0 m (upd H1 D (dnO D noDict))) ∧ ∀ i m H, W i m H →
  (J.stop i H ∧ Q (.ref D) H) ∨ (J.go i H ∧ ∃ Nx : Hp → Prop, (∀ H', Nx H' → ∃ m', m' < m ∧ W (i + 1) m' H') ∧ ∀ x H', J.yld i H x H' → g x (wipe σ vs) H' fun σ2 H2 =>
    wipe σ2 vs = wipe σ vs ∧ tt σ2 H2 fun b H3 => if b = true then tk σ2 H3 fun y H4 => tv σ2 H4 fun z H5 => rSetN K (.ref D) y z H5 Nx else Nx H3)
def tDcN (K : PySem.W.Frag) (wi : TI) (g : TG) (tt : TT) (tk tv : TE) (vs : List Nat) : TE := fun σ H Q => wi σ H fun J H1 => ∀ D, H1 D = none → (D == sysModules) = false → tDcL K J g tt tk tv vs σ H1 D Q
/-- the store of a comprehension -/
theorem dic_set {X : Cx} {n : Nat} (hr : Room n X.A) {pins : List (Addr × Obj)} {s : Shared} {σ : L2.St} {H : Hp} {D : Addr} {i v : V} {iv u : Value} {Q : Hp → Prop} {E : Value → Shared → Prop} {R : Unit → Shared → Prop} (I : Inv X pins σ H s) (ri : RelV i iv) (rv : RelV v u)
    (h : rSetN X.K (.ref D) i v H Q) (hR : ∀ H' s', Inv X pins σ H' s' → Q H' → R () s') : wpAny (model X.prog X.w) X.A (dictSet D iv u) R E s := by
  obtain ⟨p, ob, xs, kvs, a, kd, k, d, e1, rfl, ⟨h1, h2, h3, h4, h5, h6⟩, hk, ek, hd, hz, q⟩ := h
  cases e1
  cases ri
  have un := hr.un
  have hm := dictN_at I h1 h2 h3 h4
  refine wpAny_dictSet_heap (hsz := h6) (by show X.A.units + 8 < cLine; omega) (keyN_at I hk ek) hm fun h' hm' hs => ?_
  obtain ⟨o2, ho2, hd2, nd2⟩ := dictN_of hm' (ents_store ek hk rv hd h3)
  have hl : (storedH xs k a u).length ≤ sizeLine := by
    have := storeN_len kvs kd k d
    rw [← ents_len h3] at this
    rw [ents_len (ents_store ek hk rv hd h3)]
    omega
  exact hR _ _ (I.write (x := D) (e := D) (by rw [h1]; exact True.intro) (.inl rfl) (fun b u hne z => (hs.2 b hne).trans z) ⟨o2, ho2⟩ (dnO_ok ho2)) (q o2 u rv hd2 nd2 hl)
section
variable {X : Cx} {kx vx tg iter : Expr} {ifs : List Expr} {scope : Scope} {own : List (Str × Nat)} {wi : TI} {g : TG} {tt : TT} {tk tv : TE}
theorem dcN_core {n0 : Nat} (hr : Room n0 X.A) (B : DcB X kx vx tg iter ifs scope own wi g tt tk tv) {pins : List (Addr × Obj)} {s : Shared} {σ : L2.St} {H : Hp} {Q : VK} {pos pos' : Pos} {use : Option (Value → Sem Unit)} {Qf : Value → Shared → Prop} (I : Inv X pins σ H s) (h : tDcN X.K wi g tt tk tv (own.map (·.2)) σ H Q)
    (hRR : ∀ D C s' m H', Inv X pins σ H' s' → Q (.ref D) H' → s'.heap.Ns C m → FpOk X pins H' C → compPost (model X.prog X.w) X.A X.xe use Qf (.ref D) C (.ok .next) s') :
    wpAny (model X.prog X.w) X.A (comprehension (.DictComp kx vx [⟨tg, iter, ifs, 0⟩] scope pos) scope X.env pos' newDict false (eval iter X.env) use) Qf X.xe s := by
  have cellHas : ∀ y ∈ scope.names, y.2 = .free → ∃ c, X.env.cells.lookup y.1 = some c := fun y hy e => (B.ok.free y hy e).elim (fun k => I.ok.has _ (.inl k)) fun k => I.ok.has _ (.inr k)
  refine wpAny_comprehension_free (use := use) rfl B.fold (closure_ok cellHas) B.ok.kind (fun y hy e => by rw [B.ok.uniq y hy, e]) (thn (B.src.run pins s σ H _ I h) fun xv s1 hx => thn hx fun itv s2 h2 => ?_)
  obtain ⟨it, fp, tn, J, H2, rfl, I2, T, st2, f2, q⟩ := h2
  refine wpAny_newObj_type (newEnv_comp ?_)
  obtain ⟨D, hD⟩ : ∃ D, s2.heap.objs.size = D := ⟨_, rfl⟩
  rw [hD]
  have freshD : H2 D = none := I2.hok.fresh (Nat.le_of_eq hD)
  have noSys : (D == sysModules) = false := by
    rw [← hD]
    exact beq_eq_false_iff_ne.mpr (Nat.ne_of_gt I2.big)
  obtain ⟨W, ⟨m0, w0⟩, turn⟩ := q D freshD noSys
  obtain ⟨s3, hs3⟩ : ∃ s3 : Shared, ({ s2 with heap := s2.heap.push noDict } : Shared) = s3 := ⟨_, rfl⟩
  have hp3 : s3.heap = s2.heap.push noDict := by rw [← hs3]
  have I3 : Inv X pins σ (upd H2 D (dnO D noDict)) s3 := by
    rw [← hs3]
    exact I2.laid (t' := s2.toks) (fun b o e => Heap.get?_push_of_some _ e) (Nat.le_of_eq hD) (dnO_ok (by rw [← hD]; exact Heap.get?_push_size _ rfl))
  obtain ⟨H3, hH3⟩ : ∃ H3, upd H2 D (dnO D noDict) = H3 := ⟨_, rfl⟩
  rw [hH3] at I3 w0
  have below : ∀ b ∈ fp, b < s2.heap.objs.size := fun b hb => let ⟨_, e, _⟩ := T.obj _ _ st2 b hb; Heap.lt_size e
  have f3 : ∀ b ∈ fp, FpOk X pins H3 b ∧ b < s3.heap.objs.size := fun b hb => by
    have lt := below b hb
    refine ⟨⟨?_, (f2 b hb).2⟩, by rw [hp3, Heap.size_push]; exact Nat.lt_succ_of_lt lt⟩
    rw [← hH3, upd_ne (by rw [← hD]; exact Nat.ne_of_lt lt)]
    exact (f2 b hb).1
  have st3 : tn 0 s3.heap := T.keep _ _ _ st2 fun b _ o e => by
    rw [hp3]
    exact Heap.get?_push_of_some _ e
  have I4 := block_start I3 B.ok B.nd f3
  obtain ⟨C, hC⟩ : ∃ C, s3.heap.objs.size = C := ⟨_, rfl⟩
  rw [hC] at I4
  obtain ⟨cl, hcl⟩ : ∃ cl, cellsFrom (C + 1) scope.names (cloFrom X.env.cells scope.names []) = cl := ⟨_, rfl⟩
  rw [hcl] at I4
  have pg := B.go s3 H3 C cl fp
  have pt := B.ts s3 H3 C cl fp
  have pk := B.ke s3 H3 C cl fp
  have pv := B.va s3 H3 C cl fp
  show codeAny _ _ (.compStart (.DictComp kx vx [⟨tg, iter, ifs, 0⟩] scope pos) 0 (.ref it) (.ref D) (compEnvC scope (cellsFrom (({ s2 with heap := s2.heap.push noDict } : Shared).heap.objs.size + 1) scope.names (cloFrom X.env.cells scope.names [])) ({ s2 with heap := s2.heap.push noDict } : Shared).heap.objs.size X.env))
    (compPost (model X.prog X.w) X.A X.xe use Qf (.ref D) ({ s2 with heap := s2.heap.push noDict } : Shared).heap.objs.size) { ({ s2 with heap := s2.heap.push noDict } : Shared) with heap := pushCells (({ s2 with heap := s2.heap.push noDict } : Shared).heap.push noDict) scope.names }
  rw [hs3, hC, hcl]
  obtain ⟨ce, hce⟩ : ∃ ce, compEnvC scope cl C X.env = ce := ⟨_, rfl⟩
  rw [hce] at I4 pg pt pk pv ⊢
  have cL : ce.locals = C := by rw [← hce]; rfl
  obtain ⟨s4, hs4⟩ : ∃ s4 : Shared, ({ s3 with heap := pushCells (s3.heap.push noDict) scope.names } : Shared) = s4 := ⟨_, rfl⟩
  rw [hs4] at I4 ⊢
  have st4 : tn 0 s4.heap := T.keep _ _ _ st3 fun b _ o e => by
    rw [← hs4]
    exact pushCells_keeps _ _ _ _ (Heap.get?_push_of_some _ e)
  have stand : ∀ {σ' : L2.St} {H' : Hp} {s' : Shared}, Inv (X.blk s3 H3 scope ce fp) [] σ' H' s' → (∀ b ∈ fp, H' b = none) → ∀ b ∈ fp, FpOk (X.blk s3 H3 scope ce fp) [] H' b := fun {σ' H' s'} I' hn b hb =>
    ⟨hn b hb, (I'.ok.exf b hb).1, I'.ok.exfs b hb, .inl hb, fun x c e => (I'.ok.exf b hb).2 x c e, fun p hp => by cases hp⟩
  have loop : codeAny (model X.prog X.w) X.A (.compLoop (.DictComp kx vx [⟨tg, iter, ifs, 0⟩] scope pos) 0 (.ref it) (.ref D) ce) (compPost (model X.prog X.w) X.A X.xe use Qf (.ref D) C) s4 := by
    refine compLoop_anyD (fun n s' => ∃ i H', Inv (X.blk s3 H3 scope ce fp) [] (wipe σ (own.map (·.2))) H' s' ∧ tn i s'.heap ∧ (∀ b ∈ fp, H' b = none) ∧ W i n H') ?_ m0 ⟨0, H3, I4, st4, fun b hb => (f3 b hb).1.1, w0⟩
    rintro n s5 ⟨i, H5, I5, st5, n5, w5⟩
    rcases turn i n H5 w5 with ⟨stop, qq⟩ | ⟨go, Nx, hNx, step⟩
    · refine thnF (T.done (X.blk s3 H3 scope ce fp) rfl rfl rfl B.calm i [] s5 _ H5 (fun _ _ => False) I5 (stand I5 n5) st5 stop) fun r s6 ⟨hr6, I6⟩ => ?_
      subst hr6
      have I7 : Inv X pins σ H5 s6 := I3.call' (ch := fp) I6.os I6.base I6.hok I6.bare fun b hb => let z := (f3 b hb).1.2; ⟨z.2.2.1, z.1, z.2.2.2.1, z.2.2.2.2⟩
      have nC : H5 C = none := by
        have z : H5 ce.locals = none := I6.free
        rw [cL] at z
        exact z
      obtain ⟨m, hn, _⟩ := I6.loc
      have hn : s6.heap.Ns ce.locals m := hn
      rw [cL] at hn
      exact hRR D C s6 m H5 I7 qq hn (I3.fpOk (Nat.le_of_eq hC) nC)
    · refine thnF (T.item (X.blk s3 H3 scope ce fp) rfl rfl rfl B.calm i [] s5 _ H5 (fun _ _ => False) I5 (stand I5 n5) st5 go) fun r s6 ⟨u, hr6, h6⟩ => ?_
      subst hr6
      refine thnF h6 fun _ s7 ⟨x, H7, I7, r7, y7, st7, n7⟩ => ?_
      have J7 := I7.pinned (stand I7 n7) (T.obj _ _ st7)
      refine thnF (pg.run _ s7 _ H7 x u _ J7 r7 (step x H7 y7)) fun _ s8 ⟨σ8, H8, I8, hw8, q8⟩ => thnF (pt.run _ s8 σ8 H8 _ I8 q8) fun b s9 ⟨H9, I9, q9⟩ => ?_
      have done : ∀ {s' : Shared} {H' : Hp}, Inv (X.blk s3 H3 scope ce fp) ([] ++ pinsAt fp s7.heap) σ8 H' s' → Nx H' → ∃ m, m < n ∧ ∃ i H', Inv (X.blk s3 H3 scope ce fp) [] (wipe σ (own.map (·.2))) H' s' ∧ tn i s'.heap ∧ (∀ b ∈ fp, H' b = none) ∧ W i m H' := by
        intro s' H' I' nx
        obtain ⟨m', hm, w'⟩ := hNx H' nx
        have kept : ∀ b ∈ fp, ∀ o, s7.heap.get? b = some o → s'.heap.get? b = some o ∧ H' b = none := fun b hb o e => by
          have z := I'.pin (b, o) (List.mem_append_right _ (List.mem_append_right _ (mem_pinsAt hb e)))
          exact ⟨z.1, z.2.1⟩
        refine ⟨m', hm, i + 1, H', (I'.unpinned (pins := [])).weak (by rw [← hw8, wipe_length]) (fun j v e => ?_), T.keep _ _ _ st7 fun b hb o e => (kept b hb o e).1, fun b hb => ?_, w'⟩
        · rw [← hw8] at e
          exact (wipe_some e).1
        · obtain ⟨o, e, _⟩ := T.obj _ _ st7 b hb
          exact (kept b hb o e).2
      cases b with
      | false =>
        rw [if_neg Bool.false_ne_true] at q9
        rw [if_neg Bool.false_ne_true]
        exact done I9 q9
      | true =>
        rw [if_pos rfl] at q9
        rw [if_pos rfl]
        refine thnF (pk.run _ s9 σ8 H9 _ I9 q9) fun z s10 ⟨yk, H10, I10, r10, q10⟩ => thnF (pv.run _ s10 σ8 H10 _ I10 q10) fun z2 s11 ⟨yv, H11, I11, r11, q11⟩ => ?_
        exact dic_set (X := X.blk s3 H3 scope ce fp) hr I11 r10 r11 q11 fun H' s' I' nx => done I' nx
  exact codeAny_compStart_dict loop (T.self X.A 0 _ _ _ st4 loop)
end
end DN
namespace DN
open PySem PySem.Spec PyProof.Rows L2
abbrev Kvs := List (D × D)
abbrev Fd := En → Option (Kvs × En)
def dcF (js : List Nat) (tg : Fg) (tt : Ft) (kf vf : Fe) : List D → En → Kvs → Option (Kvs × En)
  | [], γ, acc => some (acc, γ)
  | d :: ds, γ, acc => match tg d γ with
    | some γ0 => match tt γ0 with
      | some (true, γ1) => match kf γ1 with
        | some (kd, γ2) => match vf γ2 with
          | some (y, γ3) => match keyD kd with
            | some k => if okN acc.length && noOwns γ3 js then dcF js tg tt kf vf ds (wipeE γ3 js) (storeN acc kd k y) else none
            | none => none
          | none => none
        | none => none
      | some (false, γ1) => if noOwns γ1 js then dcF js tg tt kf vf ds (wipeE γ1 js) acc else none
      | none => none
    | none => none
@[simp] def lDc (js : List Nat) (tg : Fg) (src : Fa) (tt : Ft) (kf vf : Fe) : Fd := fun γ => match src γ with
  | some (ds, γ1) => if noOwns γ1 js then match dcF js tg tt kf vf ds (wipeE γ1 js) [] with
    | some (out, γ2) => some (out, putBack γ1 γ2 js)
    | none => none
    else none
  | none => none
/-- a new dict -/
def NewDic (K : PySem.W.Frag) (Hk : Hp) (p : Addr) (ob : Obj) (xs : List (NestedKey × Addr × Value)) (kvs : Kvs) : Prop := DictO ob xs ∧ DpEnts K Hk xs kvs ∧ (xs.map (·.1)).Nodup ∧ (p == sysModules) = false ∧ xs.length ≤ sizeLine
def tDl (K : PySem.W.Frag) (fl : Fd) : TE := fun σ H Q => ∃ γ Hk kvs γ2, Ok K σ H Hk γ ∧ fl γ = some (kvs, γ2) ∧ ∀ p ob xs H2 Hk2, Go K σ H Hk γ σ H2 Hk2 γ2 → H2 p = none → NewDic K Hk2 p ob xs kvs → Q (.ref p) (upd H2 p (dnO p ob))
section
variable {K : PySem.W.Frag}
theorem dc_imp {js : List Nat} {g : TG} {tg : Fg} {src : Fa} {tt : Ft} {kf vf : Fe} {σ : L2.St} {H : Hp} {Q : VK} (hg : TgOk K g tg js) (h : tDl K (lDc js tg src tt kf vf) σ H Q) : tDcN K (tIt K src) g (tT K tt) (tI K kf) (tI K vf) js σ H Q := by
  obtain ⟨γ, Hk, out, γr, k, e, q⟩ := h
  unfold lDc at e
  split at e
  · rename_i ds γ1 es
    split at e
    · rename_i no
      split at e <;> cases e
      rename_i γ2 el
      refine ⟨γ, Hk, ds, γ1, k, es, fun J H1 Hk1 g1 wk L hL hS => ?_⟩
      have gd := dropAll g1.ok js no
      have hk1L : Hk1 L = none := g1.ok.sub.free hL
      let Wv : Nat → Nat → Hp → Prop := fun i m H' => m = ds.length - i ∧ i ≤ ds.length ∧ ∃ γ' Hk' acc ob xs H0, H' = upd H0 L (dnO L ob) ∧ H0 L = none ∧ Go K (wipe σ js) H1 Hk1 (wipeE γ1 js) (wipe σ js) H0 Hk' γ' ∧ (∀ j ∈ js, gt γ' j = none) ∧ Hk' L = none ∧ Same Hk1 Hk' ∧ NewDic K Hk' L ob xs acc ∧ dcF js tg tt kf vf (ds.drop i) γ' acc = some (out, γ2)
      refine ⟨Wv, ⟨ds.length, by simp, Nat.zero_le _, wipeE γ1 js, Hk1, [], noDict, [], H1, rfl, hL, Go.refl gd.ok, fun j hj => gt_wipe_in _ hj, hk1L, Same.refl _, ⟨noDict_is, .nil, List.nodup_nil, hS, Nat.zero_le _⟩, by simpa using el⟩, ?_⟩
      rintro i m H' ⟨rfl, hi, γ', Hk', acc, ob, xs, H0, rfl, h0L, gg, gj, hkL, sk, ra, ef⟩
      obtain ⟨w1, w2⟩ := wk (upd H0 L (dnO L ob)) Hk' sk (gg.ok.sub.trans (same_upd h0L))
      by_cases hlt : i < ds.length
      · obtain ⟨go, yl⟩ := w1 i hlt
        rw [List.drop_eq_getElem_cons hlt] at ef
        unfold dcF at ef
        refine .inr ⟨go, Wv (i + 1) (ds.length - (i + 1)), fun H3 w => ⟨_, by omega, w⟩, fun x H'' y => ?_⟩
        obtain ⟨Hc, gr, rv⟩ := yl x H'' y
        have ok0 : Ok K (wipe σ js) (upd H0 L (dnO L ob)) Hk' γ' := gg.ok.grow (Grow.newH gg.ok.sub h0L)
        have gy := ok0.go gr
        split at ef
        · rename_i γ0 etg
          refine hg x ds[i] _ _ Hc γ' γ0 _ gy.ok rv etg fun σ2 gt2 hw => ?_
          rw [wipe_wipe] at hw
          have ga := gy.trans gt2
          have back : ∀ {H3 Hk3 : Hp} {γ3 : En}, Go K (wipe σ js) H0 Hk' γ' σ2 H3 Hk3 γ3 → noOwns γ3 js = true → Go K (wipe σ js) H1 Hk1 (wipeE γ1 js) (wipe σ js) H3 Hk3 (wipeE γ3 js) := fun {H3 Hk3 γ3} g3 n3 => by
            have := (gg.trans g3).trans (dropAll g3.ok js n3)
            rw [hw] at this
            exact this
          refine ⟨hw, ?_⟩
          split at ef
          · rename_i γ3 et
            refine ⟨γ0, Hc, true, γ3, gt2.ok, et, fun H3 Hk3 g3 => ?_⟩
            refine iteT ?_
            split at ef
            · rename_i kd γ4 ee
              refine ⟨γ3, Hk3, kd, γ4, g3.ok, ee, fun u H4 Hk4 g4 r4 => ?_⟩
              split at ef
              · rename_i y γ5 ev
                refine ⟨γ4, Hk4, y, γ5, g4.ok, ev, fun z H5 Hk5 g5 r5 => ?_⟩
                split at ef
                · rename_i key ek
                  split at ef
                  · rename_i c
                    rw [Bool.and_eq_true] at c
                    obtain ⟨H05, rfl, h05, hk5, g6⟩ := aside gg.ok h0L hkL (((ga.trans g3).trans g4).trans g5)
                    obtain ⟨d1, d2, d3, d4, d5⟩ := ra
                    have kk5 : Same Hk' Hk5 := g6.kk
                    have r4' := dp_mono g5.kk r4
                    obtain ⟨a, rfl⟩ := key_ref r4' ek
                    have sub5 : Same Hk5 (upd H05 L (dnO L ob)) := g6.ok.sub.trans (same_upd h05)
                    have de := dpe_mono kk5 d2
                    refine ⟨L, ob, xs, acc, a, kd, key, y, rfl, rfl, ⟨upd_same, d1, dpe_mono sub5 de, d3, d4, d5⟩, dp_mono sub5 r4', ek, dp_mono sub5 r5, by rw [ents_len d2]; exact okN_lt c.1, fun o2 u ru ho2 nd2 hl2 => ?_⟩
                    refine ⟨rfl, hlt, _, Hk5, storeN acc kd key y, o2, storedH xs key a u, H05, upd_upd, h05, back g6 c.2, fun j hj => gt_wipe_in _ hj, hk5, sk.trans kk5, ⟨ho2, ents_store ek r4' ru r5 de, nd2, d4, hl2⟩, ef⟩
                  · cases ef
                · cases ef
              · cases ef
            · cases ef
          · rename_i γ3 et
            refine ⟨γ0, Hc, false, γ3, gt2.ok, et, fun H3 Hk3 g3 => ?_⟩
            refine iteF ?_
            split at ef
            · rename_i c
              obtain ⟨H03, rfl, h03, hk3, g5⟩ := aside gg.ok h0L hkL (ga.trans g3)
              obtain ⟨d1, d2, d3, d4, d5⟩ := ra
              exact ⟨rfl, hlt, _, Hk3, acc, ob, xs, H03, rfl, h03, back g5 c, fun j hj => gt_wipe_in _ hj, hk3, sk.trans g5.kk, ⟨d1, dpe_mono g5.kk d2, d3, d4, d5⟩, ef⟩
            · cases ef
          · cases ef
        · cases ef
      · have e0 : i = ds.length := by omega
        subst e0
        rw [List.drop_length] at ef
        cases ef
        exact .inl ⟨w2 _ (Nat.le_refl _), q L ob xs H0 Hk' (g1.trans (restoreAll g1.ok js _ no gg gj)) h0L ra⟩
    · cases e
  · cases e
end
/-- told as data -/
@[simp] def fDl (fl : Fd) : Fe := fun γ => match fl γ with
  | some (kvs, γ2) => some (.dict kvs, γ2)
  | none => none
theorem NewDic.give {K : PySem.W.Frag} {σ : L2.St} {H Hk H2 Hk2 : Hp} {γ γ2 : En} {p : Addr} {ob : Obj} {xs : List (NestedKey × Addr × Value)} {kvs : Kvs} (n : NewDic K Hk2 p ob xs kvs) (g : Go K σ H Hk γ σ H2 Hk2 γ2) (hp : H2 p = none) :
    Go K σ H Hk γ σ (upd H2 p (dnO p ob)) (upd Hk2 p (dnO p ob)) γ2 ∧ Dp K (upd Hk2 p (dnO p ob)) (.ref p) (.dict kvs) := by
  have g2 : Grow H2 Hk2 (upd H2 p (dnO p ob)) (upd Hk2 p (dnO p ob)) := Grow.new g.ok.sub hp
  obtain ⟨d1, d2, d3, d4, d5⟩ := n
  exact ⟨g.trans (g.ok.go g2), .dct upd_same d1 (dpe_mono g2.kk d2) d3 d4 d5⟩
theorem dl_E {K : PySem.W.Frag} {fl : Fd} {σ : L2.St} {H : Hp} {Q : VK} (h : tI K (fDl fl) σ H Q) : tDl K fl σ H Q := by
  obtain ⟨γ, Hk, d, γ2, o, ee, q⟩ := h
  unfold fDl at ee
  split at ee <;> cases ee
  rename_i kvs efa
  refine ⟨γ, Hk, kvs, γ2, o, efa, fun p ob xs H2 Hk2 g hp r => ?_⟩
  obtain ⟨g2, r2⟩ := r.give g hp
  exact q _ _ _ g2 r2
@[simp] def sDl (i : Nat) (fl : Fd) : Fs := fun γ => match fl γ with
  | some (kvs, γ1) => if pinB γ1 i then none else some (.nx (γ1.set i (some (.ow false (.dic kvs)))))
  | none => none
theorem dl_own {K : PySem.W.Frag} {W : WX} {i : Nat} {fl : Fd} {Z : Ends} {σ : L2.St} {H : Hp} (h : tS K W (sDl i fl) Z σ H) : tAsg (tDl K fl) (gName i) Z σ H := by
  obtain ⟨γ, Hk, o, k, e, q⟩ := h
  unfold sDl at e
  split at e
  · rename_i kvs γ1 ef
    split at e <;> cases e
    rename_i c
    refine ⟨γ, Hk, kvs, γ1, k, ef, fun p ob xs H1 Hk1 g1 hp r1 => ?_⟩
    obtain ⟨d1, d2, d3, d4, d5⟩ := r1
    exact q _ _ _ (g1.trans (g1.ok.setNew (same_upd hp) (.dic upd_same (g1.ok.sub.free hp) d1 d2 d3 d4 d5) (fun a ha => by rw [List.mem_singleton.mp ha]; exact hp) (noPin_of g1.ok (by simpa using c))))
  · cases e
theorem dl_dat {K : PySem.W.Frag} {W : WX} {i : Nat} {fl : Fd} {Z : Ends} {σ : L2.St} {H : Hp} (h : tS K W (sAsg (fDl fl) (gDat i)) Z σ H) : tAsg (tDl K fl) (gName i) Z σ H := by
  have h2 := asg_imp h
  refine dl_E (fl := fl) (Q := fun x H1 => gName i x σ H1 Z.nx) ?_
  obtain ⟨γ, Hk, d, γ2, k, ef, q⟩ := h2
  exact ⟨γ, Hk, d, γ2, k, ef, fun v H1 Hk1 g1 r1 => gDat_imp (q v H1 Hk1 g1 r1)⟩
section
variable {X : Cx} {W : WX} {kx vx it tge : Expr} {ifs : List Expr} {scope : Scope} {own : List (Str × Nat)} {src : Fa} {g : TG} {tg : Fg} {tt : Ft} {kf vf : Fe} {pos : Pos} {js : List Nat} {y : Str} {n0 : Nat}
/-- the parts of a dict comprehension, as functions of data -/
abbrev DcE (X : Cx) (kx vx tge it : Expr) (ifs : List Expr) (scope : Scope) (own : List (Str × Nat)) (src : Fa) (g : TG) (tt : Ft) (kf vf : Fe) : Prop := DcB X kx vx tge it ifs scope own (tIt X.K src) g (tT X.K tt) (tI X.K kf) (tI X.K vf)
theorem pe_dcN (hr : Room n0 X.A) (B : DcE X kx vx tge it ifs scope own src g tt kf vf) (hj : own.map (·.2) = js) (htg : TgOk X.K g tg js) : PE X (.DictComp kx vx [⟨tge, it, ifs, 0⟩] scope pos) (tDl X.K (lDc js tg src tt kf vf)) := by
  subst hj
  refine ⟨fun pins s σ H Q I h => ?_⟩
  rw [arm_eval_DictComp]
  refine dcN_core hr B I (dc_imp htg h) fun D C s' m H' I' q hn f => ⟨m, hn, fun h'' sb => ?_⟩
  obtain ⟨f0, f1, f2, f3, f4, f5⟩ := f
  exact ⟨.ref D, H', I'.turned (t' := s'.toks) (fun b o hb e => (sb.2 b hb).trans e) f0 f1 f3 f4 f5, rfl, q⟩
theorem ev_dc (hr : Room n0 X.A) (B : DcE X kx vx tge it ifs scope own src g tt kf vf) (hj : own.map (·.2) = js) (htg : TgOk X.K g tg js) : EV X (.DictComp kx vx [⟨tge, it, ifs, 0⟩] scope pos) (fDl (lDc js tg src tt kf vf)) :=
  PE.imp (pe_dcN hr B hj htg) fun _ _ _ h => dl_E h
theorem swD_true {gs : List Comprehension} {pos py : Pos} {l : Nat} {env : Env} (hk : env.scope.kind = .function) (hy : env.scope.names.lookup y = some .local) (hl : (py.line == pos.line) = true)
    (ha : (scope.names.any fun (n, k) => n == y && (k == .local || k == .cell)) = false) : swapsWith (.DictComp kx vx gs scope pos) (some (.Name y py)) l env = pure true := by
  have k1 : env.kindOf y = some .local := hy
  have k2 : env.blockKind = .function := by unfold Env.blockKind; rw [hk]; rfl
  unfold swapsWith
  simp only [k2, k1, ha, Expr.pos, hl]
  rfl
theorem ps_dcN {i : Nat} {py spos : Pos} (hr : Room n0 X.A) (B : DcE X kx vx tge it ifs scope own src g tt kf vf) (hj : own.map (·.2) = js) (htg : TgOk X.K g tg js) (hy : X.N[i]? = some y) (hyl : X.env.scope.names.lookup y = some .local)
    (hsw : swapsWith (.DictComp kx vx [⟨tge, it, ifs, 0⟩] scope pos) (some (.Name y py)) spos.line X.env = pure true) : PS X (.Assign [.Name y py] (.DictComp kx vx [⟨tge, it, ifs, 0⟩] scope pos) spos) (tAsg (tDl X.K (lDc js tg src tt kf vf)) (gName i)) := by
  subst hj
  refine ⟨fun pins s σ H Z I h => ?_⟩
  rw [exec_Assign_Name_used _ _ _ _ hsw]
  refine wpAny_bind (wpAny_standAt (wpAny_bind ?_))
  show wpAny _ X.A (do let _ ← comprehension (.DictComp kx vx [⟨tge, it, ifs, 0⟩] scope pos) scope X.env (firstIterPos [⟨tge, it, ifs, 0⟩] pos) newDict false (eval it X.env) (some (assign (.Name y py) X.env))) _ _ s
  have h' : tDl X.K (lDc (own.map (·.2)) tg src tt kf vf) σ H (fun x H1 => gName i x σ H1 Z.nx) := h
  refine wpAny_bind (thn (dcN_core (Qf := fun _ s' => SP X pins Z .next s') hr B I (dc_imp htg h') fun L C s' m H' I' q hn f => ?_) fun _ s' hq => wpAny_pure (wpAny_pure hq))
  obtain ⟨f0, f1, f2, f3, f4, f5⟩ := f
  show wpAny _ _ (assign (.Name y py) X.env (.ref L)) _ _ _
  refine wpAny_assign_Name (store_ok2 (v := V.ref L) I' B.nd hy (.inl hyl) rfl (fun s2 I2 ⟨a, sb, ha⟩ => ?_) (.inr hyl))
  have off : C ≠ a := ha.elim (fun z => by rw [z]; exact f1) fun z e => f4 y a z e.symm
  exact ⟨m, hn.sameBut sb off, fun h3 sb3 => ⟨_, H', I2.turned (t' := s2.toks) (fun b o hb e => (sb3.2 b hb).trans e) f0 f1 f3 f4 f5, q⟩⟩
theorem es_dcOwn (i : Nat) {py spos : Pos} (hr : Room n0 X.A) (B : DcE X kx vx tge it ifs scope own src g tt kf vf) (hj : own.map (·.2) = js) (htg : TgOk X.K g tg js) (hy : X.N[i]? = some y) (hyl : X.env.scope.names.lookup y = some .local)
    (hsw : swapsWith (.DictComp kx vx [⟨tge, it, ifs, 0⟩] scope pos) (some (.Name y py)) spos.line X.env = pure true) : ES X W (.Assign [.Name y py] (.DictComp kx vx [⟨tge, it, ifs, 0⟩] scope pos) spos) (sDl i (lDc js tg src tt kf vf)) :=
  PS.imp (ps_dcN hr B hj htg hy hyl hsw) fun _ _ _ h => dl_own h
theorem es_dcDat (i : Nat) {py spos : Pos} (hr : Room n0 X.A) (B : DcE X kx vx tge it ifs scope own src g tt kf vf) (hj : own.map (·.2) = js) (htg : TgOk X.K g tg js) (hy : X.N[i]? = some y) (hyl : X.env.scope.names.lookup y = some .local)
    (hsw : swapsWith (.DictComp kx vx [⟨tge, it, ifs, 0⟩] scope pos) (some (.Name y py)) spos.line X.env = pure true) : ES X W (.Assign [.Name y py] (.DictComp kx vx [⟨tge, it, ifs, 0⟩] scope pos) spos) (sAsg (fDl (lDc js tg src tt kf vf)) (gDat i)) :=
  PS.imp (ps_dcN hr B hj htg hy hyl hsw) fun _ _ _ h => dl_dat h
end
end DN
namespace DN
open PySem PySem.Spec PyProof.Rows L2
/-! ### dicts with text keys that the frame owns -/
theorem tabM_app : ∀ (a b : List (Str × D)) (z : Str) (o : Option D), tabM (a ++ b) z o = tabM b z (tabM a z o)
  | [], _, _, _ => rfl
  | p :: r, b, z, o => tabM_app r b z _
section
variable {K : PySem.W.Frag}
theorem TxtIs.put {H : Hp} {a : List (Key × V)} {b : List (Str × D)} {z : Str} {v : V} {d : D} (h : TxtIs K H a b) (r : Dp K H v d) : TxtIs K H (putK a (Sum.inr z) v) (b ++ [(z, d)]) := by
  refine ⟨by rw [List.length_append]; exact Nat.le_trans (length_putK a _ v) (Nat.succ_le_succ h.1), fun y => ?_⟩
  rw [tabM_app, valV_put]
  show (∀ x, (if z = y then some d else tabM b y none) = some x → _) ∧ ((if z = y then some d else tabM b y none) = none → _)
  by_cases c : z = y
  · rw [if_pos c, if_pos (by rw [c])]
    exact ⟨fun x e => by cases e; exact ⟨v, rfl, r⟩, fun e => by cases e⟩
  · rw [if_neg c, if_neg (fun w => c (by cases w; rfl))]
    exact h.2 y
theorem TxtIs.merge {H : Hp} : ∀ {ks : List (Key × V)} {kvs : List (Str × D)} {a : List (Key × V)} {b : List (Str × D)}, TxtIs K H a b → PR K H ks kvs → TxtIs K H (mergeK a ks) (b ++ kvs)
  | [], [], a, b, h, _ => by rw [List.append_nil]; exact h
  | p :: r, q :: s, a, b, h, ⟨hk, d, t⟩ => by
    obtain ⟨k, v⟩ := p
    cases hk
    have e : b ++ q :: s = (b ++ [(q.1, q.2)]) ++ s := by rw [List.append_assoc]; rfl
    rw [e]
    have h2 : TxtIs K H (putK a (Sum.inr q.1) v) (b ++ [(q.1, q.2)]) := h.put d
    exact TxtIs.merge (ks := r) (kvs := s) h2 t
theorem TxtIs.nil {H : Hp} : TxtIs K H [] [] := ⟨Nat.le_refl _, fun z => ⟨fun x e => (by cases e), fun _ => rfl⟩⟩
end
@[simp] def sTxt (i : Nat) (fs : List (Str × Fe)) : Fs := fun γ => match pairsF fs γ with
  | some (kvs, γ1) => if decide (kvs.length ≤ 15) && !pinB γ1 i then some (.nx (γ1.set i (some (.ow false (.txt kvs))))) else none
  | none => none
@[simp] def sTxtPut (i : Nat) (z : Str) (f : Fe) : Fs := fun γ => match f γ with
  | some (d, γ1) => match gt γ1 i with
    | some (.ow b (.txt kvs)) => if okN kvs.length then some (.nx (γ1.set i (some (.ow b (.txt (kvs ++ [(z, d)])))))) else none
    | _ => none
  | none => none
@[simp] def fTxt (i : Nat) (f : Fe) : Fe := fun γ => match gt γ i with
  | some (.ow _ (.txt _)) => match f γ with
    | some (.str z, γ1) => match gt γ1 i with
      | some (.ow _ (.txt kvs)) => match tabM kvs z none with
        | some x => some (x, γ1)
        | none => none
      | _ => none
    | _ => none
  | _ => none
@[simp] def fTxtGet (i : Nat) (f g : Fe) : Fe := fun γ => match gt γ i with
  | some (.ow _ (.txt _)) => match f γ with
    | some (.str z, γ1) => match g γ1 with
      | some (y, γ2) => match gt γ2 i with
        | some (.ow _ (.txt kvs)) => some ((tabM kvs z none).getD y, γ2)
        | _ => none
      | none => none
    | _ => none
  | _ => none
section
variable {W : WX} {X : Cx} {e o y : Expr} {f g : Fe} {pos p : Pos}
theorem es_txt (i : Nat) {x : Str} {p' dpos : Pos} {keys : List (Option Expr)} {values : List Expr} {fs : List (Str × Fe)} (hN : X.N.Nodup) (hi : X.N[i]? = some x) (hx : Loc X.env.scope x) (h : PPs X dpos keys values (trsF X.K fs)) (hall : keys.all (·.isSome) = true) (hl : keys.length = values.length) (h0 : keys ≠ []) (h15 : keys.length ≤ 15)
    (hs : swapsWith (.Dict keys values dpos) (some (.Name x p')) pos.line X.env = pure false := by rfl) (hf : X.fn x = true ∨ X.env.scope.names.lookup x = some .local := by first | exact .inl rfl | exact .inr rfl | assumption) :
    ES X W (.Assign [.Name x p'] (.Dict keys values dpos) pos) (sTxt i fs) := PS.imp (ps_set hN hi hx (pe_disp h hall hl h0 h15) hs hf) fun Z σ H ⟨γ, Hk, o, k, ee, q⟩ => by
  unfold sTxt at ee
  split at ee
  · rename_i kvs γ1 ef
    split at ee <;> cases ee
    rename_i c
    rw [Bool.and_eq_true] at c
    intro p hp
    have gr : Grow H Hk (upd H p (.dK [])) Hk := Grow.newH k.sub hp
    refine tPairs_F (k.grow gr) ef fun ks H2 Hk2 g pr => ?_
    obtain ⟨H3, rfl, h3, hk3, g3⟩ := aside k hp (k.sub.free hp) g
    refine ⟨upd_same, ks, rfl, by rw [pr.len]; exact of_decide_eq_true c.1, ?_⟩
    rw [upd_upd]
    have t : TxtIs X.K Hk2 (mergeK [] ks) kvs := TxtIs.nil.merge pr
    exact q _ _ _ (g3.trans (g3.ok.setNew (same_upd h3) (.txt upd_same hk3 t) (fun a ha => by rw [List.mem_singleton.mp ha]; exact h3) (noPin_of g3.ok (by simpa using c.2))))
  · cases ee
theorem Ok.txt {K : PySem.W.Frag} {σ : L2.St} {H Hk : Hp} {γ : En} (k : Ok K σ H Hk γ) {i : Nat} {b : Bool} {kvs : List (Str × D)} (h : gt γ i = some (.ow b (.txt kvs))) : ∃ p kvs', σ[i]? = some (some (.ref p)) ∧ H p = some (.dK kvs') ∧ Hk p = none ∧ TxtIs K Hk kvs' kvs := by
  obtain ⟨v, fp, e, r⟩ := k.ow i b _ h
  cases r with
  | txt h1 h2 h3 => exact ⟨_, _, e, h1, h2, h3⟩
theorem es_txtPut (i : Nat) {z : Str} {kp p' : Pos} {jj} (hu : X.A.units + 64 < cLine) (he : EV X e f) (ho : PE X o (tVar i)) (hs : swapsWith e (some (.Subscript o (.Constant (.str z) jj kp) p')) pos.line X.env = pure false := by rfl) :
    ES X W (.Assign [.Subscript o (.Constant (.str z) jj kp) p'] e pos) (sTxtPut i z f) := PS.imp (ps_dput (by omega) ho pe_str he hs) fun Z σ H ⟨γ, Hk, out, k, ee, q⟩ => by
  unfold sTxtPut at ee
  split at ee
  · rename_i d γ1 ef
    split at ee
    · rename_i b kvs ei
      split at ee <;> cases ee
      rename_i c
      refine ⟨γ, Hk, d, γ1, k, ef, fun v H1 Hk1 g1 r1 => ?_⟩
      obtain ⟨p, kvs', e1, hp, hn, t⟩ := g1.ok.txt ei
      have lt : kvs'.length < sizeLine := Nat.lt_of_le_of_lt t.1 (okN_lt c)
      refine ⟨_, e1, p, _, rfl, DPut.k (k := Sum.inr z) hp lt, ?_⟩
      exact q _ _ _ (g1.trans (g1.ok.change ei e1 (.txt hp hn t) (fun a u h n => by rw [upd_ne (fun w => n (by simp [w]))]; exact h) (.txt upd_same hn (t.put r1)) (fun a ha => .inl ha)))
    · cases ee
  · cases ee
theorem ev_txt {i : Nat} (hu : X.A.units + 64 < cLine) (ho : PE X o (tVar i)) (he : EV X e f) (hs : NoSl e) : EV X (.Subscript o e pos) (fTxt i f) := PE.imp (pe_dget (by omega) ho he hs) fun σ H Q ⟨γ, Hk, d, γ2, k, ee, q⟩ => by
  unfold fTxt at ee
  split at ee
  · rename_i b0 kv0 e0
    split at ee
    · rename_i z γ1 ef
      split at ee
      · rename_i b kvs ei
        split at ee <;> cases ee
        rename_i ex
        obtain ⟨p0, _, e1, _⟩ := k.txt e0
        refine ⟨_, e1, γ, Hk, _, γ2, k, ef, fun v H1 Hk1 g1 r1 => ?_⟩
        obtain ⟨p, kvs', e2, hp, hn, t⟩ := g1.ok.txt ei
        rw [e1] at e2
        cases e2
        obtain ⟨u, eu, ru⟩ := (t.2 z).1 _ ex
        cases r1
        exact ⟨p0, u, rfl, .inl ⟨kvs', Sum.inr z, .inl hp, rfl, eu.symm⟩, q u H1 Hk1 g1 ru⟩
      · cases ee
    · cases ee
  · cases ee
theorem ev_txtGet {i : Nat} {apos cpos : Pos} (hu : X.A.units + 64 < cLine) (ho : PE X o (tVar i)) (he : EV X e f) (hy : EV X y g) (m : M2 X o "get" apos e y cpos) : EV X (.Call (.Attribute o "get" apos) [e, y] [] cpos) (fTxtGet i f g) :=
  PE.imp (pe_dget2 (by omega) ho he hy m) fun σ H Q ⟨γ, Hk, d, γ2, k, ee, q⟩ => by
  unfold fTxtGet at ee
  split at ee
  · rename_i b0 kv0 e0
    split at ee
    · rename_i z γ1 ef
      split at ee
      · rename_i y' γ3 eg
        split at ee <;> cases ee
        rename_i b kvs ei
        obtain ⟨p0, kv1, e1, hp0, _⟩ := k.txt e0
        refine ⟨_, e1, p0, rfl, .inl ⟨kv1, .inl hp0⟩, γ, Hk, _, γ1, k, ef, fun v H1 Hk1 g1 r1 => ⟨γ1, Hk1, y', γ2, g1.ok, eg, fun w H2 Hk2 g2 r2 => ?_⟩⟩
        obtain ⟨p, kvs', e2, hp, hn, t⟩ := g2.ok.txt ei
        rw [e1] at e2
        cases e2
        cases r1
        refine ⟨valV kvs' (Sum.inr z), DGet.k (k := Sum.inr z) hp, ?_⟩
        cases ex : tabM kvs z none with
        | none =>
          rw [(t.2 z).2 ex]
          rw [ex] at q
          exact q w H2 Hk2 (g1.trans g2) r2
        | some x =>
          obtain ⟨u, eu, ru⟩ := (t.2 z).1 x ex
          rw [eu]
          rw [ex] at q
          exact q u H2 Hk2 (g1.trans g2) ru
      · cases ee
    · cases ee
  · cases ee
end
end DN
namespace DN
open PySem PySem.Spec PyProof.Rows L2
/-! ### d = {}; for x in ..: d.setdefault(key, []).append(x): the dict lasts from then on -/
section
variable {K : PySem.W.Frag} {σ σ0 σ2 : L2.St} {H Hk H0 Hk0 H2 Hk2 : Hp} {γ γ0 γ2 : En} {i : Nat} {a : Addr} {x : HO}
/-- a slot of which nothing is told -/
theorem Ok.bare {v : Option V} (o : Ok K σ H Hk γ) (n : gt γ i = none) : Ok K (σ.set i v) H Hk γ := by
  have ne : ∀ {j : Nat} {e : Ent}, gt γ j = some e → i ≠ j := fun h z => by rw [← z, n] at h; cases h
  refine ⟨by rw [List.length_set]; exact o.len, o.sub, fun j d e => ?_, fun j b y e => ?_, o.pin, fun j k b c y z w u fp fq ej ek h1 h2 => ?_, fun j t e => ?_⟩
  · obtain ⟨v', e', r⟩ := o.dat j d e
    exact ⟨v', by rw [set_there (ne e)]; exact e', r⟩
  · obtain ⟨w, fp, e', r⟩ := o.ow j b y e
    exact ⟨w, fp, by rw [set_there (ne e)]; exact e', r⟩
  · rw [set_there (ne ej)] at h1
    rw [set_there (ne ek)] at h2
    exact o.sep _ _ _ _ _ _ _ _ _ _ ej ek h1 h2
  · obtain ⟨v', e', r⟩ := o.tab j t e
    exact ⟨v', by rw [set_there (ne e)]; exact e', r⟩
theorem own_bare {v : Option V} (n : gt γ i = none) {b : Addr} : OwnA K (σ.set i v) H Hk γ b ↔ OwnA K σ H Hk γ b := by
  constructor
  · rintro ⟨j, c, y, w, fp, e, h, r⟩
    have : i ≠ j := fun z => by rw [← z, n] at e; cases e
    rw [set_there this] at h
    exact ⟨j, c, y, w, fp, e, h, r⟩
  · rintro ⟨j, c, y, w, fp, e, h, r⟩
    have : i ≠ j := fun z => by rw [← z, n] at e; cases e
    exact ⟨j, c, y, w, fp, e, by rw [set_there this]; exact h, r⟩
theorem Go.bare {v : Option V} (o : Ok K σ H Hk γ) (n : gt γ i = none) : Go K σ H Hk γ (σ.set i v) H Hk γ :=
  ⟨o.bare n, Same.refl _, fun b u h q => (by rw [h] at q; cases q), fun _ _ h _ => h, fun b h => .inl ((own_bare n).mp h), fun j y h => ⟨set_there (fun z => by rw [← z, n] at h; cases h) _, y, h⟩⟩
theorem Go.foreign (g : Go K σ0 H0 Hk0 γ0 σ H Hk γ) (h0 : H0 a = none ∨ OwnA K σ0 H0 Hk0 γ0 a) (hk : Hk a = none) (no : ¬ OwnA K σ H Hk γ a) : Go K σ0 H0 Hk0 γ0 σ (upd H a x) Hk γ :=
  ⟨g.ok.offS hk no, g.kk, g.nw, fun b u e n => (by
    have : b ≠ a := fun z => by
      rcases h0 with h0 | h0
      · rw [z, h0] at e; cases e
      · exact n (by rw [z]; exact h0)
    rw [upd_ne this]
    exact g.kp b u e n), fun b h => g.sh b ((g.ok.offA no).mp h), g.pn⟩
end
theorem inj_nd {α β : Type} {f : α → β} : ∀ {l : List α} {x y : α}, (l.map f).Nodup → x ∈ l → y ∈ l → f x = f y → x = y
  | a :: r, x, y, nd, hx, hy, e => by
    rw [List.map_cons, List.nodup_cons] at nd
    rcases List.mem_cons.mp hx with ex | mx
    · rcases List.mem_cons.mp hy with ey | my
      · rw [ex, ey]
      · exact absurd (by rw [← ex, e]; exact List.mem_map_of_mem my) nd.1
    · rcases List.mem_cons.mp hy with ey | my
      · exact absurd (by rw [← ey, ← e]; exact List.mem_map_of_mem mx) nd.1
      · exact inj_nd nd.2 mx my e
/-- an entry of a dict of lists that is being built: key, where it stands, where the list stands, its items -/
structure GEn where
  k : NestedKey
  ka : Addr
  va : Addr
  vs : List V
def GEn.en (g : GEn) : NestedKey × Addr × Value := (g.k, g.ka, .ref g.va)
abbrev Gkv := List (D × List D)
def FoN (p : Addr) (gs : List GEn) (a : Addr) : Prop := a = p ∨ ∃ g ∈ gs, g.va = a
def GRel (K : PySem.W.Frag) (Hk : Hp) (g : GEn) (kv : D × List D) : Prop := keyD kv.1 = some g.k ∧ Dp K Hk (.ref g.ka) kv.1 ∧ DpAll K Hk g.vs kv.2
structure GrN (K : PySem.W.Frag) (H Hk : Hp) (p : Addr) (gs : List GEn) (kvs : Gkv) : Prop where
  hp : ∃ o, H p = some (dnO p o) ∧ DictO o (gs.map GEn.en)
  hn : Hk p = none
  hs : (p == sysModules) = false
  nd : (gs.map GEn.k).Nodup
  nv : (gs.map GEn.va).Nodup
  el : ∀ g ∈ gs, g.va ≠ p ∧ H g.va = some (.lst g.vs) ∧ Hk g.va = none
  rl : PySem.W.EachIs (GRel K Hk) gs kvs
section
variable {K : PySem.W.Frag} {σ σ0 σ2 : L2.St} {H Hk H0 Hk0 H2 Hk2 : Hp} {γ γ0 γ2 : En} {p : Addr} {gs : List GEn} {kvs : Gkv}
theorem GrN.got (g : GrN K H Hk p gs kvs) {a : Addr} (h : FoN p gs a) : (∃ u, H a = some u) ∧ Hk a = none := by
  rcases h with rfl | ⟨e, he, rfl⟩
  · obtain ⟨o, h1, _⟩ := g.hp
    exact ⟨⟨_, h1⟩, g.hn⟩
  · exact ⟨⟨_, (g.el e he).2.1⟩, (g.el e he).2.2⟩
theorem GrN.go (g : GrN K H Hk p gs kvs) (no : ∀ a, FoN p gs a → ¬ OwnA K σ H Hk γ a) (G : Go K σ H Hk γ σ2 H2 Hk2 γ2) : GrN K H2 Hk2 p gs kvs ∧ ∀ a, FoN p gs a → ¬ OwnA K σ2 H2 Hk2 γ2 a := by
  have free : ∀ a, FoN p gs a → Hk2 a = none := fun a fa => by
    cases e : Hk2 a with
    | none => rfl
    | some u =>
      obtain ⟨⟨v, hv⟩, ha⟩ := g.got fa
      rcases G.nw a u e ha with z | z
      · rw [hv] at z; cases z
      · exact absurd z (no a fa)
  obtain ⟨o, h1, h2⟩ := g.hp
  refine ⟨⟨⟨o, G.kp _ _ h1 (no p (.inl rfl)), h2⟩, free p (.inl rfl), g.hs, g.nd, g.nv, fun e he => ?_, g.rl.mono fun e kv ⟨h1, h2, h3⟩ => ⟨h1, dp_mono G.kk h2, dps_mono G.kk h3⟩⟩, fun a fa h => ?_⟩
  · obtain ⟨h1, h2, h3⟩ := g.el e he
    exact ⟨h1, G.kp _ _ h2 (no _ (.inr ⟨e, he, rfl⟩)), free _ (.inr ⟨e, he, rfl⟩)⟩
  · rcases G.sh a h with z | z
    · exact no a fa z
    · obtain ⟨⟨v, hv⟩, _⟩ := g.got fa
      rw [hv] at z; cases z
theorem GrN.more (g : GrN K H Hk p gs kvs) {l : Addr} {o : HO} (hl : H l = none) : GrN K (upd H l o) Hk p gs kvs := by
  obtain ⟨ob, h1, h2⟩ := g.hp
  refine ⟨⟨ob, by rw [upd_ne (ne_of_none h1 hl)]; exact h1, h2⟩, g.hn, g.hs, g.nd, g.nv, fun e he => ?_, g.rl⟩
  obtain ⟨h1, h2, h3⟩ := g.el e he
  exact ⟨h1, by rw [upd_ne (ne_of_none h2 hl)]; exact h2, h3⟩
end
/-- put into the list at the key -/
def putN : Gkv → D → NestedKey → D → Gkv
  | [], kd, _, x => [(kd, [x])]
  | q :: r, kd, k, x => if keyD q.1 = some k then (q.1, q.2 ++ [x]) :: r else q :: putN r kd k x
section
variable {K : PySem.W.Frag} {H Hk : Hp}
theorem each_snoc {α β : Type} {R : α → β → Prop} {x : α} {y : β} : ∀ {as : List α} {bs : List β}, PySem.W.EachIs R as bs → R x y → PySem.W.EachIs R (as ++ [x]) (bs ++ [y])
  | _, _, .nil, h => .cons h .nil
  | _, _, .cons a t, h => .cons a (each_snoc t h)
theorem putN_new {kd x : D} {k : NestedKey} : ∀ {gs : List GEn} {kvs : Gkv}, PySem.W.EachIs (GRel K Hk) gs kvs → k ∉ gs.map GEn.k → putN kvs kd k x = kvs ++ [(kd, [x])]
  | _, _, .nil, _ => rfl
  | _, _, .cons (a := g) h t, n => by
    rw [List.map_cons, List.mem_cons, not_or] at n
    rw [putN, if_neg (fun z => n.1 (by rw [h.1] at z; exact (Option.some.inj z).symm)), putN_new t n.2]
    rfl
def addN (k : NestedKey) (v : V) (g : GEn) : GEn := if g.k = k then { g with vs := g.vs ++ [v] } else g
theorem addN_k (k : NestedKey) (v : V) (g : GEn) : (addN k v g).k = g.k := by unfold addN; split <;> rfl
theorem addN_va (k : NestedKey) (v : V) (g : GEn) : (addN k v g).va = g.va := by unfold addN; split <;> rfl
theorem addN_en (k : NestedKey) (v : V) (g : GEn) : (addN k v g).en = g.en := by unfold addN; split <;> rfl
theorem mapN_no {k : NestedKey} {v : V} : ∀ {gs : List GEn}, k ∉ gs.map GEn.k → gs.map (addN k v) = gs
  | [], _ => rfl
  | g :: r, h => by
    rw [List.map_cons, List.mem_cons, not_or] at h
    rw [List.map_cons, mapN_no h.2]
    congr 1
    unfold addN
    rw [if_neg (fun z => h.1 z.symm)]
theorem putN_old {kd x : D} {k : NestedKey} {v : V} (hx : Dp K Hk v x) : ∀ {gs : List GEn} {kvs : Gkv}, PySem.W.EachIs (GRel K Hk) gs kvs → (gs.map GEn.k).Nodup → k ∈ gs.map GEn.k → PySem.W.EachIs (GRel K Hk) (gs.map (addN k v)) (putN kvs kd k x)
  | _, _, .nil, _, h => by cases h
  | _, _, .cons (a := g) (b := kv) h t, nd, hk => by
    rw [List.map_cons, List.nodup_cons] at nd
    by_cases c : g.k = k
    · have e1 : addN k v g = { g with vs := g.vs ++ [v] } := by unfold addN; rw [if_pos c]
      rw [List.map_cons, e1, mapN_no (by rw [← c]; exact nd.1), putN, if_pos (by rw [h.1, c])]
      exact .cons ⟨h.1, h.2.1, dps_app h.2.2 (.cons hx .nil)⟩ t
    · have e1 : addN k v g = g := by unfold addN; rw [if_neg c]
      rw [List.map_cons, e1, putN, if_neg (fun z => c (by rw [h.1] at z; exact Option.some.inj z))]
      rw [List.map_cons, List.mem_cons] at hk
      exact .cons h (putN_old hx t nd.2 (hk.resolve_left fun z => c z.symm))
end
section
variable {K : PySem.W.Frag} {H Hk : Hp} {p : Addr} {gs : List GEn} {kvs : Gkv}
theorem GrN.addNew (g : GrN K H Hk p gs kvs) {k : NestedKey} {a l : Addr} {v : V} {x kd : D} {o : Obj} (hk : k ∉ gs.map GEn.k) (ek : keyD kd = some k) (ka : Dp K Hk (.ref a) kd) (hl : H l = some (.lst [])) (lp : l ≠ p) (lf : ∀ e ∈ gs, e.va ≠ l) (ln : Hk l = none) (hx : Dp K Hk v x) (ho : DictO o (gs.map GEn.en ++ [(k, a, .ref l)])) :
    GrN K (upd (upd H p (dnO p o)) l (.lst [v])) Hk p (gs ++ [⟨k, a, l, [v]⟩]) (putN kvs kd k x) := by
  refine ⟨⟨o, by rw [upd_ne lp.symm, upd_same], by rw [List.map_append]; exact ho⟩, g.hn, g.hs, ?_, ?_, fun e he => ?_, ?_⟩
  · rw [List.map_append, List.nodup_append]
    exact ⟨g.nd, by simp, fun y hy z hz e => hk (by
      have : z = k := by simpa using hz
      rw [← this, ← e]; exact hy)⟩
  · rw [List.map_append, List.nodup_append]
    exact ⟨g.nv, by simp, fun y hy z hz e => by
      have hz : z = l := by simpa using hz
      obtain ⟨e', he', q⟩ := List.mem_map.mp hy
      exact lf e' he' (by rw [q, e, hz])⟩
  · rcases List.mem_append.mp he with he | he
    · obtain ⟨h1, h2, h3⟩ := g.el e he
      exact ⟨h1, by rw [upd_ne (lf e he), upd_ne h1]; exact h2, h3⟩
    · have : e = ⟨k, a, l, [v]⟩ := by simpa using he
      subst this
      exact ⟨lp, upd_same, ln⟩
  · rw [putN_new g.rl hk]
    exact each_snoc g.rl ⟨ek, ka, .cons hx .nil⟩
theorem GrN.addOld (g : GrN K H Hk p gs kvs) {e : GEn} (he : e ∈ gs) {v : V} {x kd : D} (hx : Dp K Hk v x) : GrN K (upd H e.va (.lst (e.vs ++ [v]))) Hk p (gs.map (addN e.k v)) (putN kvs kd e.k x) := by
  have h0 := g.el e he
  have one : ∀ f ∈ gs, f.k = e.k → f = e := fun f hf c => inj_nd g.nd hf he c
  have onev : ∀ f ∈ gs, f.va = e.va → f = e := fun f hf c => inj_nd g.nv hf he c
  have ek : (gs.map (addN e.k v)).map GEn.k = gs.map GEn.k := by rw [List.map_map]; exact List.map_congr_left fun f _ => addN_k _ _ f
  have ev : (gs.map (addN e.k v)).map GEn.va = gs.map GEn.va := by rw [List.map_map]; exact List.map_congr_left fun f _ => addN_va _ _ f
  have ee : (gs.map (addN e.k v)).map GEn.en = gs.map GEn.en := by rw [List.map_map]; exact List.map_congr_left fun f _ => addN_en _ _ f
  obtain ⟨o, h1, h2⟩ := g.hp
  refine ⟨⟨o, by rw [upd_ne h0.1.symm]; exact h1, by rw [ee]; exact h2⟩, g.hn, g.hs, by rw [ek]; exact g.nd, by rw [ev]; exact g.nv, fun f' hf' => ?_, putN_old hx g.rl g.nd (List.mem_map_of_mem he)⟩
  obtain ⟨f, hf, rfl⟩ := List.mem_map.mp hf'
  obtain ⟨h1, h2, h3⟩ := g.el f hf
  rw [addN_va]
  refine ⟨h1, ?_, h3⟩
  by_cases c : f.k = e.k
  · obtain rfl := one f hf c
    unfold addN
    rw [if_pos rfl, upd_same]
  · have : f.va ≠ e.va := fun z => c (by rw [onev f hf z])
    rw [upd_ne this]
    unfold addN
    rw [if_neg c]
    exact h2
theorem entsG {Hk Hk2 : Hp} (s : Same Hk Hk2) {gs : List GEn} {kvs : Gkv} (h : ∀ g ∈ gs, Hk2 g.va = some (.lst g.vs)) (r : PySem.W.EachIs (GRel K Hk) gs kvs) : DpEnts K Hk2 (gs.map GEn.en) (kvs.map fun kv => (kv.1, .list kv.2)) := by
  induction r with
  | nil => exact .nil
  | @cons g kv gs' kvs' r t ih =>
    rw [List.map_cons, List.map_cons]
    exact .cons r.1 (dp_mono s r.2.1) (v := .ref g.va) rfl (.lst (SqL.of (h g (by simp))) (dps_mono s r.2.2)) (ih fun e he => h e (by simp [he]))
end
def frozenN (kvs : Gkv) : Kvs := kvs.map fun kv => (kv.1, .list kv.2)
section
variable {K : PySem.W.Frag} {σ σ0 : L2.St} {H Hk H0 Hk0 : Hp} {γ γ0 : En} {p : Addr} {gs : List GEn} {kvs : Gkv}
theorem GrN.freeze (G : Go K σ0 H0 Hk0 γ0 σ H Hk γ) (g : GrN K H Hk p gs kvs) (no : ∀ a, FoN p gs a → ¬ OwnA K σ H Hk γ a ∧ (H0 a = none ∨ OwnA K σ0 H0 Hk0 γ0 a)) (hz : kvs.length ≤ sizeLine) : ∃ Hk2, Go K σ0 H0 Hk0 γ0 σ H Hk2 γ ∧ Dp K Hk2 (.ref p) (.dict (frozenN kvs)) := by
  classical
  let Hk2 : Hp := fun a => if FoN p gs a then H a else Hk a
  have off : ∀ a, FoN p gs a → Hk a = none := fun a fa => (g.got fa).2
  have s1 : Same Hk Hk2 := fun a u e => by
    have : ¬ FoN p gs a := fun fa => by rw [off a fa] at e; cases e
    show (if FoN p gs a then H a else Hk a) = some u
    rw [if_neg this]
    exact e
  have s2 : Same Hk2 H := fun a u e => by
    have e : (if FoN p gs a then H a else Hk a) = some u := e
    split at e
    · exact e
    · exact G.ok.sub a u e
  have at' : ∀ a, FoN p gs a → Hk2 a = H a := fun a fa => if_pos fa
  have nat' : ∀ a, ¬ FoN p gs a → Hk2 a = Hk a := fun a fa => if_neg fa
  obtain ⟨o, h1, h2⟩ := g.hp
  have up : ∀ {i b y v fp}, gt γ i = some (.ow b y) → σ[i]? = some (some v) → OwnV K H Hk v y fp → OwnV K H Hk2 v y fp := fun {i b y v fp} e ev r => r.to s1 (fun _ _ _ q => q) fun a ha => by
    rw [nat' a fun fa => (no a fa).1 ⟨i, b, y, v, fp, e, ev, r, ha⟩]
    exact (r.at a ha).2
  have dn : ∀ {i b y v fp}, gt γ i = some (.ow b y) → σ[i]? = some (some v) → OwnV K H Hk2 v y fp → OwnV K H Hk v y fp := fun {i b y v fp} e ev r => by
    obtain ⟨v', fp', e1, r1⟩ := G.ok.ow i b y e
    rw [ev] at e1; cases e1
    rw [r.det (up e ev r1)]
    exact r1
  refine ⟨Hk2, ⟨⟨G.ok.len, s2, fun j d e => ?_, fun j b y e => ?_, G.ok.pin, fun i j b c y z v u fp fq ei ej vi vj ri rj a mi mj => G.ok.sep i j b c y z v u fp fq ei ej vi vj (dn ei vi ri) (dn ej vj rj) a mi mj, fun j t e => ?_⟩, G.kk.trans s1, fun a u e n => ?_, G.kp, fun a e => ?_, G.pn⟩, ?_⟩
  · obtain ⟨v, e1, r⟩ := G.ok.dat j d e
    exact ⟨v, e1, dp_mono s1 r⟩
  · obtain ⟨v, fp, e1, r⟩ := G.ok.ow j b y e
    exact ⟨v, fp, e1, up e e1 r⟩
  · obtain ⟨v, e1, r⟩ := G.ok.tab j t e
    exact ⟨v, e1, r.mono s1⟩
  · by_cases fa : FoN p gs a
    · exact (no a fa).2
    · rw [nat' a fa] at e
      exact G.nw a u e n
  · obtain ⟨i, b, y, v, fp, e1, e2, r, m⟩ := e
    exact G.sh a ⟨i, b, y, v, fp, e1, e2, dn e1 e2 r, m⟩
  · refine .dct (xs := gs.map GEn.en) (by rw [at' p (.inl rfl)]; exact h1) h2 (entsG s1 (fun e he => by rw [at' _ (.inr ⟨e, he, rfl⟩)]; exact (g.el e he).2.1) g.rl) ?_ g.hs ?_
    · rw [List.map_map]
      exact g.nd
    · rw [List.length_map, g.rl.length]
      exact hz
theorem lenG : ∀ {gs : List GEn} {kvs : Gkv}, PySem.W.EachIs (GRel K Hk) gs kvs → kvs.all (fun kv => okN kv.2.length) = true → ∀ e ∈ gs, okN e.vs.length = true
  | _, _, .cons (a := g) h t, ha, e, he => by
    rw [List.all_cons, Bool.and_eq_true] at ha
    rcases List.mem_cons.mp he with rfl | he
    · rw [dps_len h.2.2]; exact ha.1
    · exact lenG t ha.2 e he
theorem atN_none {k : NestedKey} : ∀ {gs : List GEn}, atKey (gs.map GEn.en) k = none → k ∉ gs.map GEn.k
  | [], _ => by simp
  | g :: r, h => by
    unfold atKey at h
    rw [List.map_cons, List.find?_cons] at h
    rw [List.map_cons, List.mem_cons, not_or]
    by_cases c : g.en.1 = k
    · rw [decide_eq_true c] at h
      cases h
    · rw [decide_eq_false c] at h
      exact ⟨fun z => c z.symm, atN_none (gs := r) h⟩
theorem atN_some {k : NestedKey} {q : Addr × Value} : ∀ {gs : List GEn}, atKey (gs.map GEn.en) k = some q → ∃ e ∈ gs, e.k = k ∧ q = (e.ka, .ref e.va)
  | [], h => by cases h
  | g :: r, h => by
    unfold atKey at h
    rw [List.map_cons, List.find?_cons] at h
    by_cases c : g.en.1 = k
    · rw [decide_eq_true c] at h
      cases h
      exact ⟨g, by simp, c, rfl⟩
    · rw [decide_eq_false c] at h
      obtain ⟨e, he, z⟩ := atN_some (gs := r) h
      exact ⟨e, by simp [he], z⟩
end
def grpN (j : Nat) (kf : Fe) : List D → En → Gkv → Option (Gkv × En)
  | [], γ, kvs => some (kvs, γ)
  | d :: ds, γ, kvs => match gDat j d γ with
    | some γ1 => match kf γ1 with
      | some (kd, γ2) => match keyD kd with
        | some k => if okN kvs.length && kvs.all (fun kv => okN kv.2.length) then grpN j kf ds γ2 (putN kvs kd k d) else none
        | none => none
      | none => none
    | none => none
def sGrpN (i j : Nat) (src : Fa) (kf : Fe) : Fs := fun γ => if (gt γ i).isNone && decide (i < γ.length) && decide (j < γ.length) then
  match src γ with
  | some (ds, γ1) => match grpN j kf ds γ1 [] with
    | some (kvs, γ2) => if !pinB γ2 i && okN kvs.length then some (.nx (γ2.set i (some (.dat (.dict (frozenN kvs)))))) else none
    | none => none
  | none => none
  else none
/-- d.setdefault(k, a new list) -/
def rSetdN (X : Cx) : V → List V → Hp → VK → Prop := fun x vs H Q => ∃ (p a l : Addr) (o : Obj) (xs : List (NestedKey × Addr × Value)) (kvs : Kvs) (kd : D) (k : NestedKey) (el : D), x = .ref p ∧ vs = [.ref a, .ref l] ∧ dicO kvs X.K H p o xs ∧ xs.length ≤ 1000000 ∧
  Dp X.K H (.ref a) kd ∧ keyD kd = some k ∧ Dp X.K H (.ref l) el ∧ (∀ q, atKey xs k = some q → ∃ v, RelV v q.2 ∧ Q v H) ∧ (atKey xs k = none → ∀ o2, DictO o2 (xs ++ [(k, a, .ref l)]) → Q (.ref l) (upd H p (dnO p o2)))
theorem mt_setdN {X : Cx} {n : Nat} (hr : Room n X.A) : MtR X "dict.setdefault" (rSetdN X) := by
  intro pins s σ H x vs v us Q I rx rv h
  obtain ⟨p, a, l, o, xs, kvs, kd, k, el, rfl, rfl, ⟨h1, h2, h3, h4, h5, h6⟩, hz, ka, ek, hl, q1, q2⟩ := h
  cases rx
  cases rv with
  | cons r1 rr =>
    cases r1
    cases rr with
    | cons r2 rr2 =>
      cases r2
      cases rr2
      have un := hr.un
      refine call_setdefault_heap (hsz := Nat.le_trans hz (by decide)) (knd := nestedKind X.prog X.w) (k := k) (by show X.A.in1.units + 8 < cLine; rw [Around.in1_units]; omega) (keyN_at I ka ek) h5 (dictN_at I h1 h2 h3 h4) ?_ ?_
      · intro q hq
        obtain ⟨v, rv, z⟩ := q1 q hq
        exact ⟨v, H, I.tok _, rv, z⟩
      · intro hno h' hd hb
        rw [storedH_new hno] at hd
        obtain ⟨o2, ho2, hd2, _⟩ := dictN_of hd (ents_app h3 (.cons ek ka (u := .ref l) (v := .ref l) rfl hl .nil))
        exact ⟨.ref l, _, I.write (x := p) (e := p) (by rw [h1]; exact True.intro) (.inl rfl) (fun b u hne z => (hb.2 b hne).trans z) ⟨o2, ho2⟩ (dnO_ok ho2), rfl, q2 hno o2 hd2⟩
end DN
namespace DN
open PySem PySem.Spec PyProof.Rows L2
/-- what the loop's body asks -/
def tPutN (X : Cx) (i j : Nat) (kf : Fe) : TE := fun σ H Q => (fun σ H Q => tVar i σ H fun x H1 => TyAt X "dict" x H1 ∧ tCons (tI X.K kf) (tCons (tL X.K (lDisp aNil)) tNil) σ H1 fun vs H2 => rSetdN X x vs H2 Q) σ H fun x H1 => TyAt X "list" x H1 ∧ tCons (tVar j) tNil σ H1 fun vs H2 => rAppend x vs H2 Q
theorem lst_ty {X : Cx} {H : Hp} {l : Addr} {xs : List V} (h : H l = some (.lst xs)) : TyAt X "list" (.ref l) H := fun pins s σ v I r => tyV_is I r (.inl ⟨rfl, xs, SqL.of h⟩)
/-- what is seen of the dict beside a new list: its lists last not, but they are there -/
theorem GrN.seen {K : PySem.W.Frag} {H Hk : Hp} {p : Addr} {gs : List GEn} {kvs : Gkv} (g : GrN K H Hk p gs kvs) (s : Same Hk H) (hz : gs.length ≤ sizeLine) : ∃ o, dicO (frozenN kvs) K H p o (gs.map GEn.en) := by
  obtain ⟨o, h1, h2⟩ := g.hp
  exact ⟨o, h1, h2, entsG s (fun e he => (g.el e he).2.1) g.rl, by rw [List.map_map]; exact g.nd, g.hs, by rw [List.length_map]; exact hz⟩
theorem putN_step {X : Cx} {i j : Nat} {kf : Fe} {σ σ0 : L2.St} {H Hk H0 Hk0 : Hp} {γ γ0 γ2 : En} {p : Addr} {gs : List GEn} {kvs : Gkv} {x : V} {d kd : D} {k : NestedKey} {Q : VK}
    (G : Go X.K σ0 H0 Hk0 γ0 σ H Hk γ) (g : GrN X.K H Hk p gs kvs) (no : ∀ a, FoN p gs a → ¬ OwnA X.K σ H Hk γ a ∧ (H0 a = none ∨ OwnA X.K σ0 H0 Hk0 γ0 a)) (hi : σ[i]? = some (some (.ref p))) (hj : σ[j]? = some (some x)) (hx : Dp X.K Hk x d)
    (ek : kf γ = some (kd, γ2)) (ei : keyD kd = some k) (z1 : okN kvs.length = true) (z2 : kvs.all (fun kv => okN kv.2.length) = true)
    (q : ∀ v H2 Hk2 gs2, Go X.K σ0 H0 Hk0 γ0 σ H2 Hk2 γ2 → Same Hk Hk2 → GrN X.K H2 Hk2 p gs2 (putN kvs kd k d) → (∀ a, FoN p gs2 a → ¬ OwnA X.K σ H2 Hk2 γ2 a ∧ (H0 a = none ∨ OwnA X.K σ0 H0 Hk0 γ0 a)) → Q v H2) : tPutN X i j kf σ H Q := by
  obtain ⟨o0, hp0, hd0⟩ := g.hp
  refine ⟨.ref p, hi, dnO_ty hp0 hd0, γ, Hk, kd, γ2, G.ok, ek, fun v1 H1 Hk1 g1 r1 => ?_⟩
  obtain ⟨a, rfl⟩ := key_ref r1 ei
  obtain ⟨gr1, no1⟩ := g.go (fun b fb => (no b fb).1) g1
  refine ⟨γ2, Hk1, [], γ2, g1.ok, rfl, fun l vs H2 Hk2 g2 hl rl => ?_⟩
  cases rl
  obtain ⟨gr2, no2⟩ := gr1.go no1 g2
  have G2 : Go X.K σ0 H0 Hk0 γ0 σ H2 Hk2 γ2 := (G.trans g1).trans g2
  have fl : ¬ FoN p gs l := fun f => by obtain ⟨⟨u, hu⟩, _⟩ := gr2.got f; rw [hl] at hu; cases hu
  have lk : Hk2 l = none := g2.ok.sub.free hl
  have lo : ¬ OwnA X.K σ H2 Hk2 γ2 l := fun z => z.noN hl
  have l0 : H0 l = none ∨ OwnA X.K σ0 H0 Hk0 γ0 l := by
    cases e : H0 l with
    | none => exact .inl rfl
    | some u =>
      by_cases ho : OwnA X.K σ0 H0 Hk0 γ0 l
      · exact .inr ho
      · have := G2.kp l u e ho
        rw [hl] at this
        cases this
  have S02 : Same Hk Hk2 := g1.kk.trans g2.kk
  have gr3 : GrN X.K (upd H2 l (.lst [])) Hk2 p gs kvs := gr2.more hl
  have s2 : Same Hk2 (upd H2 l (.lst [])) := g2.ok.sub.trans (same_upd hl)
  have kd2 : Dp X.K Hk2 (.ref a) kd := dp_mono g2.kk r1
  have hx2 : Dp X.K Hk2 x d := dp_mono S02 hx
  have len : gs.length ≤ 1000000 := by rw [g.rl.length]; exact of_decide_eq_true z1
  have G3 : Go X.K σ0 H0 Hk0 γ0 σ (upd H2 l (.lst [])) Hk2 γ2 := G2.foreign l0 lk lo
  have no3 : ∀ b, FoN p gs b → ¬ OwnA X.K σ (upd H2 l (.lst [])) Hk2 γ2 b := fun b fb z => no2 b fb ((g2.ok.offA lo).mp z)
  have lo3 : ¬ OwnA X.K σ (upd H2 l (.lst [])) Hk2 γ2 l := fun z => lo ((g2.ok.offA lo).mp z)
  obtain ⟨o3, see⟩ := gr3.seen s2 (Nat.le_trans len (by decide))
  refine ⟨p, a, l, o3, gs.map GEn.en, frozenN kvs, kd, k, .list [], rfl, rfl, see, by rw [List.length_map]; exact len, dp_mono s2 kd2, ei, .lst (SqL.of upd_same) .nil, fun qq hq => ?_, fun hq o2 ho2 => ?_⟩
  · obtain ⟨e, he, rfl, rfl⟩ := atN_some hq
    have ve := (gr3.el e he).2.1
    refine ⟨.ref e.va, rfl, lst_ty ve, x, hj, e.va, e.vs, x, rfl, rfl, ve, okN_lt (lenG g.rl z2 e he), ?_⟩
    have fe : FoN p gs e.va := .inr ⟨e, he, rfl⟩
    have noe := no3 _ fe
    refine q _ _ Hk2 (gs.map (addN e.k x)) (G3.foreign (no _ fe).2 (gr3.el e he).2.2 noe) S02 (gr3.addOld he hx2) fun b fb => ?_
    have fb' : FoN p gs b := by
      rcases fb with rfl | ⟨f', hf', rfl⟩
      · exact .inl rfl
      · obtain ⟨f, hf, rfl⟩ := List.mem_map.mp hf'
        exact .inr ⟨f, hf, (addN_va _ _ f).symm⟩
    exact ⟨fun z => no3 b fb' ((G3.ok.offA noe).mp z), (no b fb').2⟩
  · have lp : l ≠ p := fun z => fl (.inl z)
    have fp : FoN p gs p := .inl rfl
    have hl5 : (upd (upd H2 l (.lst [])) p (dnO p o2)) l = some (.lst []) := by rw [upd_ne lp, upd_same]
    refine ⟨lst_ty hl5, x, hj, l, [], x, rfl, rfl, hl5, by decide, ?_⟩
    show Q .non (upd (upd (upd H2 l (.lst [])) p (dnO p o2)) l (.lst [x]))
    have nop := no3 p fp
    have G4 := G3.foreign (x := dnO p o2) (no p fp).2 gr3.hn nop
    have lo4 : ¬ OwnA X.K σ (upd (upd H2 l (.lst [])) p (dnO p o2)) Hk2 γ2 l := fun z => lo3 ((G3.ok.offA nop).mp z)
    refine q _ _ Hk2 (gs ++ [⟨k, a, l, [x]⟩]) (G4.foreign l0 lk lo4) S02 (gr3.addNew (atN_none hq) ei kd2 upd_same lp (fun e he z => fl (.inr ⟨e, he, z⟩)) lk hx2 ho2) fun b fb => ?_
    have off : ∀ {b}, ¬ OwnA X.K σ (upd H2 l (.lst [])) Hk2 γ2 b → ¬ OwnA X.K σ (upd (upd (upd H2 l (.lst [])) p (dnO p o2)) l (.lst [x])) Hk2 γ2 b := fun {b} n z => n ((G3.ok.offA nop).mp ((G4.ok.offA lo4).mp z))
    rcases fb with rfl | ⟨f, hf, rfl⟩
    · exact ⟨off nop, (no _ fp).2⟩
    · rcases List.mem_append.mp hf with hf | hf
      · exact ⟨off (no3 _ (.inr ⟨f, hf, rfl⟩)), (no _ (.inr ⟨f, hf, rfl⟩)).2⟩
      · have : f = ⟨k, a, l, [x]⟩ := by simpa using hf
        subst this
        exact ⟨off lo3, l0⟩
theorem grpN_nx {i j : Nat} {src : Fa} {kf : Fe} {γ : En} {o : Out} (e : sGrpN i j src kf γ = some o) : ∃ γf, o = .nx γf := by
  unfold sGrpN at e
  split at e
  · split at e
    · split at e
      · split at e
        · cases e
          exact ⟨_, rfl⟩
        · cases e
      · cases e
    · cases e
  · cases e
theorem es_grpN {X : Cx} {W : WX} {i j : Nat} {t it : Expr} {body ss : List Stmt} {s2 : Stmt} {src : Fa} {kf : Fe} {G : Fs} {pos : Pos} (hp : PassesOwn (model X.prog X.w) X.A X.env X.xe) (hc : X.calm = true) (hij : i ≠ j)
    (h2 : PS X s2 (tAsg tDicNew (gName i))) (hi : EI X t it src) (hg : PG X t (gName j)) (hb : PSs X body (tDrop (tPutN X i j kf))) (rest : ESs X W ss G)
    (hs : ∀ x, foldedSetIterable it X.env x = pure x := by intro _; rfl) : ESs X W (s2 :: .For t it body [] pos :: ss) (sSeq (sGrpN i j src kf) G) :=
  PSs.imp (pss_cons h2 (pss_cons (ps_for hp hc hi hg hb hs) rest)) fun Z σ H ⟨γ, Hk, o, k, e, q⟩ => by
  unfold sSeq at e
  split at e
  · rename_i γf ef
    unfold sGrpN at ef
    split at ef
    · rename_i cc
      rw [Bool.and_eq_true, Bool.and_eq_true] at cc
      obtain ⟨⟨c0, c1⟩, c2⟩ := cc
      have ni : gt γ i = none := Option.isNone_iff_eq_none.mp c0
      have li : i < σ.length := by rw [k.len]; exact of_decide_eq_true c1
      have lj : j < σ.length := by rw [k.len]; exact of_decide_eq_true c2
      split at ef
      · rename_i ds γ1 es
        split at ef
        · rename_i kvsE γE eg
          split at ef <;> cases ef
          rename_i ce
          rw [Bool.and_eq_true] at ce
          unfold tSeq tAsg tDicNew gName
          intro p ob hpn hps hob
          have gb : Go X.K σ H Hk γ (σ.set i (some (.ref p))) H Hk γ := Go.bare k ni
          have nown : ¬ OwnA X.K (σ.set i (some (.ref p))) H Hk γ p := fun z => z.noN hpn
          have G0 : Go X.K σ H Hk γ (σ.set i (some (.ref p))) (upd H p (dnO p ob)) Hk γ := gb.foreign (.inl hpn) (k.sub.free hpn) nown
          have at0 : (σ.set i (some (.ref p)))[i]? = some (some (V.ref p)) := List.getElem?_set_self li
          have gr0 : GrN X.K (upd H p (dnO p ob)) Hk p [] [] := ⟨⟨ob, upd_same, hob⟩, k.sub.free hpn, hps, List.nodup_nil, List.nodup_nil, (fun _ h => by cases h), .nil⟩
          have no0 : ∀ a, FoN p [] a → ¬ OwnA X.K (σ.set i (some (.ref p))) (upd H p (dnO p ob)) Hk γ a := fun a fa => by
            rcases fa with rfl | ⟨_, h, _⟩
            · exact fun z => nown ((gb.ok.offA nown).mp z)
            · cases h
          refine ⟨γ, Hk, ds, γ1, G0.ok, es, fun J H1 Hk1 g1 wk => ?_⟩
          obtain ⟨gr1, no1⟩ := gr0.go no0 g1
          let Wv : Nat → Nat → L2.St → Hp → Prop := fun n m σ' H' => m = ds.length - n ∧ n ≤ ds.length ∧ ∃ γ' Hk' gs kvs, Go X.K σ H Hk γ σ' H' Hk' γ' ∧ Same Hk1 Hk' ∧ σ'.length = σ.length ∧ σ'[i]? = some (some (V.ref p)) ∧ GrN X.K H' Hk' p gs kvs ∧
            (∀ a, FoN p gs a → ¬ OwnA X.K σ' H' Hk' γ' a ∧ (H a = none ∨ OwnA X.K σ H Hk γ a)) ∧ grpN j kf (ds.drop n) γ' kvs = some (kvsE, γE)
          refine ⟨Wv, ⟨ds.length, by simp, Nat.zero_le _, γ1, Hk1, [], [], G0.trans g1, Same.refl _, List.length_set, at0, gr1, fun a fa => ⟨no1 a fa, ?_⟩, by simpa using eg⟩, ?_⟩
          · rcases fa with rfl | ⟨_, h, _⟩
            · exact .inl hpn
            · cases h
          rintro n m σ' H' ⟨rfl, hn, γ', Hk', gs, kvs, g, sk, hl, hi', gr, no, ef⟩
          obtain ⟨w1, w2⟩ := wk H' Hk' sk g.ok.sub
          by_cases hlt : n < ds.length
          · obtain ⟨go, yl⟩ := w1 n hlt
            rw [List.drop_eq_getElem_cons hlt] at ef
            unfold grpN at ef
            refine .inr ⟨go, Wv (n + 1) (ds.length - (n + 1)), fun σ3 H3 w => ⟨_, by omega, w⟩, fun x H'' y => ?_⟩
            obtain ⟨Hc, gw, rv⟩ := yl x H'' y
            have gy := g.ok.go gw
            obtain ⟨gr2, no2⟩ := gr.go (fun a fa => (no a fa).1) gy
            split at ef
            · rename_i γ2 et
              unfold gDat at et
              split at et <;> cases et
              rename_i cp
              have gs3 : Go X.K σ' H'' Hc γ' (σ'.set j (some x)) H'' Hc (γ'.set j (some (.dat ds[n]))) := gy.ok.setDat rv (noPin_of gy.ok (by simpa using cp))
              obtain ⟨gr3, no3⟩ := gr2.go no2 gs3
              have hi3 : (σ'.set j (some x))[i]? = some (some (V.ref p)) := by rw [set_there hij.symm]; exact hi'
              have hj3 : (σ'.set j (some x))[j]? = some (some x) := List.getElem?_set_self (by rw [hl]; exact lj)
              split at ef
              · rename_i kd γ3 ek
                split at ef
                · rename_i ks eks
                  split at ef
                  · rename_i cz
                    rw [Bool.and_eq_true] at cz
                    refine putN_step ((g.trans gy).trans gs3) gr3 (fun a fa => ⟨no3 a fa, (no a fa).2⟩) hi3 hj3 rv ek eks cz.1 cz.2 fun v H2 Hk2 gs2 G2 S2 gr4 no4 => ?_
                    exact ⟨rfl, hlt, γ3, Hk2, gs2, putN kvs kd ks ds[n], G2, sk.trans ((gy.kk.trans gs3.kk).trans S2), by rw [List.length_set]; exact hl, hi3, gr4, no4, ef⟩
                  · cases ef
                · cases ef
              · cases ef
            · cases ef
          · have e0 : n = ds.length := by omega
            subst e0
            rw [List.drop_length] at ef
            cases ef
            refine .inl ⟨w2 _ (Nat.le_refl _), ?_⟩
            obtain ⟨Hf, gf, tb⟩ := gr.freeze g no (okN_line ce.2)
            have gt' := gf.ok.setDat (i := i) tb (noPin_of gf.ok (by simpa using ce.1))
            have same : σ'.set i (some (V.ref p)) = σ' := by
              apply List.ext_getElem?
              intro n'
              by_cases hn' : i = n'
              · subst hn'
                rw [List.getElem?_set_self (by rw [hl]; exact li), hi']
              · rw [List.getElem?_set_ne hn']
            rw [same] at gt'
            exact ⟨_, Hf, o, gt'.ok, e, q.back (gf.trans gt')⟩
        · cases ef
      · cases ef
    · cases ef
  · rename_i o' hn
    obtain ⟨γf, rfl⟩ := grpN_nx e
    exact absurd e (hn γf)
section
variable {X : Cx} {i j : Nat}
theorem ps_putN {k : Nat} (hr : Room k X.A) {d ke x : Expr} {kf : Fe} {a1 a2 c1 c2 lp pos : Pos} (hd : PE X d (tVar i)) (hk : EV X ke kf) (hx : PE X x (tVar j))
    (b1 : attributeBase d "setdefault" X.env (eval d X.env) = eval d X.env := by rfl)
    (f1' : ((backTo c1 (starEach [ke, .List [] lp] X.env)).all (fun x => !x.1) && (backToKw c1 (keywordEach [] X.env)).all (fun x => x.1.isSome) && decide ([ke, .List [] lp].length + ([] : List Keyword).length + (if ([] : List Keyword).isEmpty then 0 else 1) < 30)) = true := by rfl)
    (l1 : (a1.endLine == c1.line) = true := by rfl) (s1 : starEach [ke, .List [] lp] X.env = (false, eval ke X.env) :: starEach [.List [] lp] X.env := by rfl) (p1 : (backTo c1 (starEach [.List [] lp] X.env)).any (·.1) = false := by rfl)
    (s1' : starEach [.List [] lp] X.env = (false, eval (.List [] lp) X.env) :: starEach [] X.env := by rfl)
    (b2 : attributeBase (.Call (.Attribute d "setdefault" a1) [ke, .List [] lp] [] c1) "append" X.env (eval (.Call (.Attribute d "setdefault" a1) [ke, .List [] lp] [] c1) X.env) = eval (.Call (.Attribute d "setdefault" a1) [ke, .List [] lp] [] c1) X.env := by rfl)
    (f2' : ((backTo c2 (starEach [x] X.env)).all (fun x => !x.1) && (backToKw c2 (keywordEach [] X.env)).all (fun x => x.1.isSome) && decide ([x].length + ([] : List Keyword).length + (if ([] : List Keyword).isEmpty then 0 else 1) < 30)) = true := by rfl)
    (l2 : (a2.endLine == c2.line) = true := by rfl) (s2 : starEach [x] X.env = (false, eval x X.env) :: starEach [] X.env := by rfl) (p2 : (backTo c2 (starEach [] X.env)).any (·.1) = false := by rfl)
    (sw : swapsWith (.Call (.Attribute (.Call (.Attribute d "setdefault" a1) [ke, .List [] lp] [] c1) "append" a2) [x] [] c2) none pos.line X.env = pure false := by rfl) :
    PSs X [.Expr (.Call (.Attribute (.Call (.Attribute d "setdefault" a1) [ke, .List [] lp] [] c1) "append" a2) [x] [] c2) pos] (tDrop (tPutN X i j kf)) :=
  pss_one (ps_expr (pe_meth PySem.F.plainAttrs_list PySem.F.slot_list_append PySem.F.type_list_append mt_append
    (pe_meth PySem.F.plainAttrs_dict PySem.F.slot_dict_setdefault PySem.F.type_dict_setdefault (mt_setdN hr) hd (pa_cons hk (pa_cons (el_disp ea_nil) pa_nil s1') s1) b1 f1' l1 s1 p1)
    (pa_cons hx pa_nil s2) b2 f2' l2 s2 p2) sw)
theorem ps_dnewN (i : Nat) {x : Str} {p' dp pos : Pos} (hN : X.N.Nodup) (hi : X.N[i]? = some x) (hx : Loc X.env.scope x) (hs : swapsWith (.Dict [] [] dp) (some (.Name x p')) pos.line X.env = pure false := by rfl)
    (hf : X.fn x = true ∨ X.env.scope.names.lookup x = some .local := by first | exact .inl rfl | exact .inr rfl | assumption) : PS X (.Assign [.Name x p'] (.Dict [] [] dp) pos) (tAsg tDicNew (gName i)) := ps_set hN hi hx pe_dicNew hs hf
end
end DN
namespace DN
open PySem PySem.Spec PyProof.Rows L2
/-! ### a def's whole contract: what is lent to it (first), what it tells: data, a thing that the caller owns then, an exception -/
inductive Ret where
  | da (d : D)
  | ow (y : Pay)
  | er (c : Str) (fs : List (Str × D))
abbrev FunX := Option Pay → List D → Option (Ret × Option Pay)
def ArgX (K : PySem.W.Frag) (H Hk : Hp) (y : Option Pay) (vs : List V) (ds : List D) (fp : List Addr) : Prop := match y with
  | none => DpAll K Hk vs ds ∧ fp = []
  | some y => ∃ v vs', vs = v :: vs' ∧ OwnV K H Hk v y fp ∧ DpAll K Hk vs' ds
/-- from the heap ahead of a call to the one behind it -/
structure Aft (K : PySem.W.Frag) (H Hk H2 Hk2 : Hp) (vs : List V) (fp : List Addr) (out : Option Pay) (fq : List Addr) : Prop where
  sub : Same Hk2 H2
  kk : Same Hk Hk2
  nw : ∀ a u, Hk2 a = some u → Hk a = none → H a = none ∨ a ∈ fp
  kp : ∀ a u, H a = some u → a ∉ fp → H2 a = some u
  out : match out with
    | none => fq = []
    | some z => ∃ v, vs[0]? = some v ∧ OwnV K H2 Hk2 v z fq ∧ ∀ a ∈ fq, a ∈ fp ∨ H a = none
def RetX (K : PySem.W.Frag) (H H2 Hk2 : Hp) (fp fq : List Addr) (Q : VK) (E : XK) : Ret → Prop
  | .da d => ∀ v, Dp K Hk2 v d → Q v H2
  | .ow z => ∀ v fr, OwnV K H2 Hk2 v z fr → (∀ a ∈ fr, a ∉ fq ∧ (a ∈ fp ∨ H a = none)) → Q v H2
  | .er c fs => ∀ cls dd, XcIs K Hk2 cls dd c fs → E cls dd H2
def spX (K : PySem.W.Frag) (n : Nat) (F : FunX) (vs : List V) (H : Hp) (Q : VK) (E : XK) : Prop := vs.length = n ∧ ∃ Hk y ds r out fp, Same Hk H ∧ ArgX K H Hk y vs ds fp ∧ F y ds = some (r, out) ∧ ∀ H2 Hk2 fq, Aft K H Hk H2 Hk2 vs fp out fq → RetX K H H2 Hk2 fp fq Q E r
structure FnX (P : Program) (w : World) (K : PySem.W.Frag) (mg : Str → Option Value) (base : Heap) (k : Nat) (f : Addr) (fd : FuncData) (ps : List Str) (F : FunX) : Prop where
  run : ∀ (A : Around) (outer : List Env) (s : Shared) (H : Hp) (args : PySem.Args) (us : List Value) (vs : List V) (Q : VK) (E : XK), Room k A → A.guards = some [] → Env0 P w K mg base A outer s H → BindsTo s fd args (ps.zip us) → Vals vs us →
    spX K ps.length F vs H Q E → codeAny (model P w) A (.call (.ref f) args) (CR (L2.CX P w) outer P w H s Q E) s
@[simp] def iniX (y : Option Pay) (m : Nat) (ds : List D) : En := match y with
  | none => (ds.map fun d => some (.dat d)) ++ List.replicate m none
  | some y => some (.ow true y) :: ((ds.map fun d => some (.dat d)) ++ List.replicate m none)
@[simp] def tellX (y : Option Pay) (r : Ret) (γ : En) : Option (Ret × Option Pay) := match y with
  | none => some (r, none)
  | some _ => match gt γ 0 with
    | some (.ow true z) => some (r, some z)
    | _ => none
@[simp] def runX (m : Nat) (B : Fs) : FunX := fun y ds => match B (iniX y m ds) with
  | some (.rt d γ) => tellX y (.da d) γ
  | some (.nx γ) => tellX y (.da .none) γ
  | some (.ro z γ) => tellX y (.ow z) γ
  | some (.rs c fs γ) => tellX y (.er c fs) γ
  | _ => none
theorem iniX_ok {K : PySem.W.Frag} {N : List Str} {y : Option Pay} {vs : List V} {ds : List D} {fp : List Addr} {H Hk : Hp} {m : Nat} (s : Same Hk H) (a : ArgX K H Hk y vs ds fp) (hl : vs.length + m = N.length) : Ok K (L2.start N vs) H Hk (iniX y m ds) := by
  cases y with
  | none => exact ini_dat s a.1 hl
  | some y =>
    obtain ⟨v, vs', rfl, r, a'⟩ := a
    have hs : L2.start N (v :: vs') = some v :: L2.start (N.drop 1) vs' := by
      unfold L2.start
      simp only [List.map_cons, List.cons_append, List.length_cons, List.length_drop]
      rw [show N.length - (vs'.length + 1) = N.length - 1 - vs'.length by omega]
    have k := ini_dat (N := N.drop 1) (m := m) s a' (by rw [List.length_drop]; simp only [List.length_cons] at hl; omega)
    rw [hs]
    have no : ∀ {i b z}, gt ((ds.map fun d => some (Ent.dat d)) ++ List.replicate m none) i = some (.ow b z) → False := fun {i b z} e => by
      rw [gt_map] at e
      split at e
      · cases e
      · rw [gt_rep] at e; cases e
    refine ⟨by simp only [iniX, List.length_cons]; rw [k.len], s, fun i d e => ?_, fun i b z e => ?_, fun i z e => ?_, fun i j b c z z' v1 u1 f1 f2 ei ej => ?_, fun i t e => ?_⟩
    · cases i with
      | zero => cases e
      | succ i =>
        obtain ⟨v, ev, r⟩ := k.dat i d e
        exact ⟨v, by simpa using ev, r⟩
    · cases i with
      | zero => cases e; exact ⟨v, fp, rfl, r⟩
      | succ i => exact (no e).elim
    · cases i with
      | zero => rfl
      | succ i => exact (no e).elim
    · cases i with
      | zero =>
        cases j with
        | zero => intros; rfl
        | succ j => exact (no ej).elim
      | succ i => exact (no ei).elim
    · cases i with
      | zero => cases e
      | succ i =>
        obtain ⟨v, ev, r⟩ := k.tab i t e
        exact ⟨v, by simpa using ev, r⟩
/-- what the frame owns at the start is what was lent to it -/
theorem iniX_own {K : PySem.W.Frag} {N : List Str} {y : Option Pay} {vs : List V} {ds : List D} {fp : List Addr} {H Hk : Hp} {m : Nat} (a : ArgX K H Hk y vs ds fp) {x : Addr} (h : OwnA K (L2.start N vs) H Hk (iniX y m ds) x) : x ∈ fp := by
  obtain ⟨i, b, z, w, fq, e, ev, r, mm⟩ := h
  have no : ∀ {i b z}, gt ((ds.map fun d => some (Ent.dat d)) ++ List.replicate m none) i = some (.ow b z) → False := fun {i b z} e => by
    rw [gt_map] at e
    split at e
    · cases e
    · rw [gt_rep] at e; cases e
  cases y with
  | none => exact (no e).elim
  | some y =>
    obtain ⟨v, vs', rfl, r', a'⟩ := a
    cases i with
    | zero =>
      cases e
      have ev : some (some v) = some (some w) := ev
      cases ev
      rw [← r.det r']
      exact mm
    | succ i => exact (no e).elim
theorem fnX_of {P : Program} {w : World} {K : PySem.W.Frag} {mg : Str → Option Value} {base : Heap} {x qual : Str} {st : Stmt} {f : Addr} {fd : FuncData} {N ps : List Str} {k m : Nat} {B : Fs} (Fu : Fun K x qual st f fd) (S : FnScope N ps (defScope st)) (hm : ps.length + m = N.length)
    (hb : ∀ (cdv : Value) (A : Around) (outer : List Env) (s : Shared) (H : Hp) (E : XK), (A.deeper (envOfC qual (defScope st) s.heap.objs.size f cdv)).guards = some [] → Room k (A.deeper (envOfC qual (defScope st) s.heap.objs.size f cdv)) →
      Takes (cxOf (L2.CX P w) P w K mg base N qual (defScope st) f cdv A outer s H E) (fun cls d _ H' => E cls d H') → PassesOwn (model P w) (A.deeper (envOfC qual (defScope st) s.heap.objs.size f cdv)) (envOfC qual (defScope st) s.heap.objs.size f cdv) (cxOf (L2.CX P w) P w K mg base N qual (defScope st) f cdv A outer s H E).xe →
      ESs (cxOf (L2.CX P w) P w K mg base N qual (defScope st) f cdv A outer s H E) (fun cls d _ H' => E cls d H') (defBody st) B) :
    FnX P w K mg base (k + 1) f fd ps (runX m B) := by
  obtain ⟨oc, od, kV, doc, pm, an, cdv, ct, osl, rfl, lk, hcd⟩ := Fu.ex
  refine ⟨fun A outer s H args us vs Q E hr hG e0 bd rv sp => ?_⟩
  obtain ⟨hlen, Hk, y, ds, r, out, fp, hsub, ha, eF, post⟩ := sp
  have inK : K.In s.heap := e0.mod.kin.keeps fun b o e => (e0.bs b o e).1
  have noLim : s.heap.NoLimit := e0.mod.nolimit.keeps fun b o e => (e0.bs b o e).1
  have kinds : ∀ y ∈ ps.zip us, (defScope st).names.lookup y.1 = some .local ∨ ((defScope st).names.lookup y.1 = some .cell ∧ ((cellsFrom (s.heap.objs.size + 1) (defScope st).names []).lookup y.1).isSome = true) := by
    rintro ⟨nm, vl⟩ hy
    exact (S.par nm (List.of_mem_zip hy).1).imp id fun z => ⟨z, PySem.W.cellsFrom_some _ _ _ (.inl z)⟩
  refine codeAny_call_function hr.depth (inK _ _ lk) rfl S.co S.gen rfl (PySem.W.codeRec_of inK hcd) (bd _ _ _ _ (wpAny_newFunctionEnv_cells S.kind kinds fun env henv s1 ic => ?_))
  subst henv
  refine ⟨noLim.keeps ic.toInCall.keep, codeAny_func ?_⟩
  have J0 : Inv (cxOf (L2.CX P w) P w K mg base N qual (defScope st) f cdv A outer s H E) [] (L2.start N vs) H s1 := inv_start S hr.hd e0 hlen rv ic
  have body := hb cdv A outer s H E (by simpa [Around.deeper] using hG) (hr.deeper _) (takes_of rfl rfl rfl rfl) PassesOwn.leaving
  have ok0 : Ok K (L2.start N vs) H Hk (iniX y m ds) := iniX_ok hsub ha (by rw [hlen]; exact hm)
  -- behind the body
  have aft : ∀ {σ2 : L2.St} {H2 Hk2 : Hp} {γ2 : En} {r' : Ret}, Go K (L2.start N vs) H Hk (iniX y m ds) σ2 H2 Hk2 γ2 → tellX y r' γ2 = some (r, out) → r' = r ∧ ∃ fq, Aft K H Hk H2 Hk2 vs fp out fq ∧ ∀ a, ¬ OwnA K σ2 H2 Hk2 γ2 a → a ∉ fq := by
    intro σ2 H2 Hk2 γ2 r' g e
    have old : ∀ a, OwnA K (L2.start N vs) H Hk (iniX y m ds) a → a ∈ fp := fun a h => iniX_own ha h
    have nw : ∀ a u, Hk2 a = some u → Hk a = none → H a = none ∨ a ∈ fp := fun a u h n => (g.nw a u h n).imp id (old a)
    have kp : ∀ a u, H a = some u → a ∉ fp → H2 a = some u := fun a u h n => g.kp a u h fun z => n (old a z)
    unfold tellX at e
    cases y with
    | none =>
      simp only at e
      cases e
      exact ⟨rfl, [], ⟨g.ok.sub, g.kk, nw, kp, rfl⟩, fun a _ h => by cases h⟩
    | some y =>
      simp only at e
      split at e
      · rename_i z ez
        cases e
        obtain ⟨v, vs', rfl, rr, a'⟩ := ha
        obtain ⟨v2, fq, ev, r2⟩ := g.ok.ow 0 _ _ ez
        obtain ⟨e2, _⟩ := g.pn 0 y rfl
        rw [e2] at ev
        have ev : some (some v) = some (some v2) := ev
        cases ev
        have mine : ∀ a ∈ fq, OwnA K σ2 H2 Hk2 γ2 a := fun a h => ⟨0, _, _, v, fq, ez, by rw [e2]; rfl, r2, h⟩
        refine ⟨rfl, fq, ⟨g.ok.sub, g.kk, nw, kp, v, rfl, r2, fun a h => ?_⟩, fun a n h => n (mine a h)⟩
        exact (g.sh a (mine a h)).imp (old a) id
      · cases e
  have run : wpAny (model P w) (A.deeper (envOfC qual (defScope st) s.heap.objs.size f cdv)) (execs (defBody st) (envOfC qual (defScope st) s.heap.objs.size f cdv))
      (SP (cxOf (L2.CX P w) P w K mg base N qual (defScope st) f cdv A outer s H E) [] { nx := fun _ H' => Q .non H', rt := Q }) (cxOf (L2.CX P w) P w K mg base N qual (defScope st) f cdv A outer s H E).xe s1 := by
    refine body.run [] s1 (L2.start N vs) H { nx := fun _ H' => Q .non H', rt := Q } J0 ?_
    unfold runX at eF
    split at eF
    · rename_i d γ2 eB
      refine ⟨_, Hk, _, ok0, eB, fun v σ2 H2 Hk2 g rd => ?_⟩
      obtain ⟨rfl, fq, af, _⟩ := aft g eF
      exact post H2 Hk2 fq af v rd
    · rename_i γ2 eB
      refine ⟨_, Hk, _, ok0, eB, fun σ2 H2 Hk2 g => ?_⟩
      obtain ⟨rfl, fq, af, _⟩ := aft g eF
      exact post H2 Hk2 fq af .non .non
    · rename_i z γ2 eB
      refine ⟨_, Hk, _, ok0, eB, fun v fr σ2 H2 Hk2 g rd nn => ?_⟩
      obtain ⟨rfl, fq, af, ff⟩ := aft g eF
      exact post H2 Hk2 fq af v fr rd fun a h => ⟨ff a (nn a h).1, ((nn a h).2.imp id (iniX_own ha)).symm⟩
    · rename_i c fs γ2 eB
      refine ⟨_, Hk, _, ok0, eB, fun σ2 H2 Hk2 cls dd g rd => ?_⟩
      obtain ⟨rfl, fq, af, _⟩ := aft g eF
      exact post H2 Hk2 fq af cls dd rd
    · cases eF
  refine wpAny_mono run (fun fl s' hs => ?_) fun e s' hs => hs
  have fin : ∀ {σ' : L2.St} {H' : Hp} {v : V} {u : Value}, Inv (cxOf (L2.CX P w) P w K mg base N qual (defScope st) f cdv A outer s H E) [] σ' H' s' → RelV v u → Q v H' → CE outer P w H s Q u s' := fun {σ' H' v u} J r q => ⟨v, H', J.os, J.bare, J.base, J.hok, r, q⟩
  cases fl with
  | ret u =>
    obtain ⟨v, σ', H', J, r, q⟩ := hs
    exact fin J r q
  | next =>
    obtain ⟨σ', H', J, q⟩ := hs
    exact fin (v := V.non) (u := Value.none) J rfl q
  | brk =>
    obtain ⟨_, _, _, q⟩ := hs
    exact q.elim
  | cont =>
    obtain ⟨_, _, _, q⟩ := hs
    exact q.elim
/-! ### calls -/
def CalX (P : Program) (w : World) (K : PySem.W.Frag) (mg : Str → Option Value) (base : Heap) (x : Str) (k : Nat) (ps : List Str) (F : FunX) : Prop :=
  ∃ f fd, FnX P w K mg base k f fd ps F ∧ mg x = some (.ref f) ∧ PySem.W.keepIn K (.ref f) = true ∧ Binds K fd ps []
section
variable {W : WX} {X : Cx} {x : Str} {k n : Nat} {ps : List Str} {F : FunX} {e : Expr} {es : List Expr} {fa : Fa} {p pos : Pos}
theorem runXc {f : Addr} {fd : FuncData} {pins : List (Addr × Obj)} {σ : L2.St} {H : Hp} {s : Shared} {Q : VK} {us : List Value} {vs : List V} {E : XK} (G : FnX X.prog X.w X.K X.mg X.base k f fd ps F) (hr : Room k X.A) (hG : X.A.guards = some []) (hb : Binds X.K fd ps []) (hx : PassesAt (L2.CX X.prog X.w) X σ E)
    (I : Inv X pins σ H s) (r : Vals vs us) (h : spX X.K ps.length F vs H Q E) : wpAny (model X.prog X.w) X.A (call (.ref f) us) (EP X pins σ Q) X.xe s := by
  have hl : us.length = ps.length := by rw [← r.length]; exact h.1
  have bd := hb s us I.kIn (by rw [List.append_nil]; exact hl)
  rw [List.append_nil] at bd
  refine wpAny_call (codeAny_mono (G.run X.A X.stack s H ⟨us, []⟩ us vs Q E hr hG I.env0 bd r h) fun res s' hq => ?_)
  cases res with
  | error ex => exact hx pins H s ex s' I hq
  | ok fl =>
    cases fl with
    | ret u => exact I.after hq
    | next => exact hq.elim
    | brk => exact hq.elim
    | cont => exact hq.elim
theorem pass0X {X : Cx} {σ : L2.St} : PassesAt (L2.CX X.prog X.w) X σ E0 := fun _ _ _ _ _ _ h => by
  obtain ⟨_, _, _, _, _, _, _, _, _, _, _, _, z⟩ := h
  exact z.elim
/-- a call that tells data -/
@[simp] def fCallX (n : Nat) (F : FunX) (fa : Fa) : Fe := fun γ => match fa γ with
  | some (ds, γ1) => if ds.length = n then match F none ds with
    | some (.da d, none) => some (d, γ1)
    | _ => none
    else none
  | none => none
theorem ev_callX (C : CalX X.prog X.w X.K X.mg X.base x k ps F) (hr : Room k X.A) (hG : X.A.guards = some []) (hg : Gl X x) (ha : EA X (e :: es) fa) (hn : ps.length = n := by rfl)
    (hdb : (x == ("__debug__" : Str)) = false := by decide) (he : starEach (e :: es) X.env = (false, eval e X.env) :: starEach es X.env := by rfl) (hpl : (backTo pos (starEach es X.env)).any (·.1) = false := by rfl) :
    EV X (.Call (.Name x p) (e :: es) [] pos) (fCallX n F fa) := by
  subst hn
  obtain ⟨f, fd, G, hm, hk, hb⟩ := C
  refine ⟨fun pins s σ H Q I h => ?_⟩
  obtain ⟨γ, Hk, d, γ2, ok, ee, q⟩ := h
  unfold fCallX at ee
  split at ee
  · rename_i ds γ1 ea
    split at ee
    · rename_i hl
      split at ee <;> cases ee
      rename_i eF
      refine wpAny_Call_Name_kw (ld_glob I hg hm ?_ hdb)
      refine PySem.W.callWith_K (h₀ := X.base) I.ok.mod.kin hk (thn (ha.run pos pins s σ H (fun vs H1 => spX X.K ps.length F vs H1 Q E0) I ⟨γ, Hk, ds, _, ok, ea, fun vs H1 Hk1 g1 r1 => ?_⟩) fun us s1 ⟨vs, H1, I1, r, q1⟩ => ⟨I1.kIn, ?_⟩) he hpl
      · refine ⟨by rw [dps_len r1]; exact hl, Hk1, none, ds, .da d, none, [], g1.ok.sub, ⟨r1, rfl⟩, eF, fun H2 Hk2 fq af v r2 => ?_⟩
        exact q v H2 Hk2 (g1.trans (g1.ok.go ⟨fun a u h => af.kp a u h (by simp), af.kk, af.sub, fun a u h1 h2 => (af.nw a u h1 h2).resolve_right (by simp)⟩)) r2
      · exact runXc G hr hG hb pass0X I1 r q1
    · cases ee
  · cases ee
/-- x = f(..): a thing that the frame owns then -/
@[simp] def sOwnX (i n : Nat) (F : FunX) (fa : Fa) : Fs := fun γ => match fa γ with
  | some (ds, γ1) => if ds.length = n then match F none ds with
    | some (.ow y, none) => if pinB γ1 i then none else some (.nx (γ1.set i (some (.ow false y))))
    | _ => none
    else none
  | none => none
def tOwnX (K : PySem.W.Frag) (n : Nat) (F : FunX) (fa : Fa) : TE := fun σ H Q => ∃ γ Hk ds γ1 y, Ok K σ H Hk γ ∧ fa γ = some (ds, γ1) ∧ ds.length = n ∧ F none ds = some (.ow y, none) ∧ ∀ v fr H2 Hk2 H3, Go K σ H Hk γ σ H2 Hk2 γ1 → Same H2 H3 → OwnV K H3 Hk2 v y fr → (∀ a ∈ fr, H2 a = none) → Q v H3
theorem pe_ownX (C : CalX X.prog X.w X.K X.mg X.base x k ps F) (hr : Room k X.A) (hG : X.A.guards = some []) (hg : Gl X x) (ha : EA X (e :: es) fa) (hn : ps.length = n := by rfl)
    (hdb : (x == ("__debug__" : Str)) = false := by decide) (he : starEach (e :: es) X.env = (false, eval e X.env) :: starEach es X.env := by rfl) (hpl : (backTo pos (starEach es X.env)).any (·.1) = false := by rfl) :
    PE X (.Call (.Name x p) (e :: es) [] pos) (tOwnX X.K n F fa) := by
  subst hn
  obtain ⟨f, fd, G, hm, hk, hb⟩ := C
  refine ⟨fun pins s σ H Q I h => ?_⟩
  obtain ⟨γ, Hk, ds, γ1, y, ok, ea, hl, eF, q⟩ := h
  refine wpAny_Call_Name_kw (ld_glob I hg hm ?_ hdb)
  refine PySem.W.callWith_K (h₀ := X.base) I.ok.mod.kin hk (thn (ha.run pos pins s σ H (fun vs H1 => spX X.K ps.length F vs H1 Q E0) I ⟨γ, Hk, ds, _, ok, ea, fun vs H1 Hk1 g1 r1 => ?_⟩) fun us s1 ⟨vs, H1, I1, r, q1⟩ => ⟨I1.kIn, ?_⟩) he hpl
  · refine ⟨by rw [dps_len r1]; exact hl, Hk1, none, ds, .ow y, none, [], g1.ok.sub, ⟨r1, rfl⟩, eF, fun H2 Hk2 fq af v fr r2 hf => ?_⟩
    -- the heap as it was, with what lasts since then
    have fresh : ∀ a ∈ fr, H1 a = none := fun a h => (hf a h).2.resolve_left (by simp)
    have g2 : Grow H1 Hk1 (fun a => if a ∈ fr then none else H2 a) Hk2 := by
      refine ⟨fun a u h => ?_, af.kk, fun a u h => ?_, fun a u h1 h2 => (af.nw a u h1 h2).resolve_right (by simp)⟩
      · show (if a ∈ fr then none else H2 a) = some u
        rw [if_neg (fun m => by rw [fresh a m] at h; cases h)]
        exact af.kp a u h (by simp)
      · show (if a ∈ fr then none else H2 a) = some u
        rw [if_neg (fun m => by rw [(r2.at a m).2] at h; cases h)]
        exact af.sub a u h
    refine q v fr _ Hk2 H2 (g1.trans (g1.ok.go g2)) (fun a u h => ?_) r2 fun a h => if_pos h
    by_cases m : a ∈ fr
    · have h : (if a ∈ fr then none else H2 a) = some u := h
      rw [if_pos m] at h; cases h
    · have h : (if a ∈ fr then none else H2 a) = some u := h
      rw [if_neg m] at h
      exact h
  · exact runXc G hr hG hb pass0X I1 r q1
theorem es_ownX (i : Nat) {z : Str} {p' pos' : Pos} (hN : X.N.Nodup) (hi : X.N[i]? = some z) (hx : Loc X.env.scope z) (C : CalX X.prog X.w X.K X.mg X.base x k ps F) (hr : Room k X.A) (hG : X.A.guards = some []) (hg : Gl X x) (ha : EA X (e :: es) fa) (hn : ps.length = n := by rfl)
    (hdb : (x == ("__debug__" : Str)) = false := by decide) (he : starEach (e :: es) X.env = (false, eval e X.env) :: starEach es X.env := by rfl) (hpl : (backTo pos (starEach es X.env)).any (·.1) = false := by rfl)
    (hs : swapsWith (.Call (.Name x p) (e :: es) [] pos) (some (.Name z p')) pos'.line X.env = pure false := by rfl) (hf : X.fn z = true ∨ X.env.scope.names.lookup z = some .local := by first | exact .inl rfl | exact .inr rfl | assumption) :
    ES X W (.Assign [.Name z p'] (.Call (.Name x p) (e :: es) [] pos) pos') (sOwnX i n F fa) := PS.imp (ps_set hN hi hx (pe_ownX C hr hG hg ha hn hdb he hpl) hs hf) fun Z σ H ⟨γ, Hk, o, k, ee, q⟩ => by
  unfold sOwnX at ee
  split at ee
  · rename_i ds γ1 ea
    split at ee
    · rename_i hl
      split at ee
      · rename_i y eF
        split at ee <;> cases ee
        rename_i c
        exact ⟨γ, Hk, ds, γ1, y, k, ea, hl, eF, fun v fr H2 Hk2 H3 g s r nn => q _ _ _ (g.trans (g.ok.setNew s r nn (noPin_of g.ok (by simpa using c))))⟩
      · cases ee
    · cases ee
  · cases ee
end
end DN
namespace DN
open PySem PySem.Spec PyProof.Rows L2
/-! ### a new list out of two -/
@[simp] def catL : D → D → Option (List D)
  | .list a, .list b => if okN (a.length + b.length) then some (a ++ b) else none
  | _, _ => none
@[simp] def lCat (f g : Fe) : Fa := fun γ => match f γ with
  | some (x, γ1) => match g γ1 with
    | some (y, γ2) => match catL x y with
      | some ds => some (ds, γ2)
      | none => none
    | none => none
  | none => none
@[simp] def lCatn (i : Nat) (g : Fe) : Fa := fun γ => match view γ i with
  | some _ => match g γ with
    | some (y, γ2) => match view γ2 i with
      | some x => match catL x y with
        | some ds => some (ds, γ2)
        | none => none
      | none => none
    | none => none
  | none => none
section
variable {X : Cx} {a b : Expr} {f g : Fe} {pos : Pos}
theorem cat_at {K : PySem.W.Frag} {H Hk : Hp} {x y : V} {dx dy : D} {ds : List D} {Q : VK} (s : Same Hk H) (vx : Vw K H Hk x dx) (vy : Vw K H Hk y dy) (e : catL dx dy = some ds) (q : ∀ p vs, H p = none → DpAll K Hk vs ds → Q (.ref p) (upd H p (.lst vs))) : rCatL K x y H Q := by
  unfold catL at e
  split at e
  · split at e <;> cases e
    rename_i c
    obtain ⟨p, vs, rfl, sp, ap⟩ := vx.lst s
    obtain ⟨u, ws, rfl, su, au⟩ := vy.lst s
    exact ⟨p, u, vs, ws, rfl, rfl, sp, su, by rw [dps_len ap, dps_len au]; exact okN_line c, fun t ht => q t _ ht (dps_app ap au)⟩
  · cases e
theorem el_cat (ha : EV X a f) (hb : EV X b g) : EL X (.BinOp a .Add b pos) (lCat f g) := PE.imp (pe_op op_catL ha hb) fun σ H Q ⟨γ, Hk, ds, γ2, o, ee, q⟩ => by
  unfold lCat at ee
  split at ee
  · rename_i x γ1 ef
    split at ee
    · rename_i y γ3 eg
      split at ee <;> cases ee
      rename_i ec
      refine ⟨γ, Hk, x, γ1, o, ef, fun v H1 Hk1 g1 r1 => ⟨γ1, Hk1, y, _, g1.ok, eg, fun u H2 Hk2 g2 r2 => ?_⟩⟩
      exact cat_at g2.ok.sub (.inl (dp_mono g2.kk r1)) (.inl r2) ec fun p vs hp r => q p vs H2 Hk2 (g1.trans g2) hp r
    · cases ee
  · cases ee
theorem el_catn {i : Nat} (ha : PE X a (tVar i)) (hb : EV X b g) : EL X (.BinOp a .Add b pos) (lCatn i g) := PE.imp (pe_op op_catL ha hb) fun σ H Q ⟨γ, Hk, ds, γ2, o, ee, q⟩ => by
  unfold lCatn at ee
  split at ee
  · rename_i x0 ev0
    split at ee
    · rename_i y γ3 eg
      split at ee
      · rename_i x ev
        split at ee <;> cases ee
        rename_i ec
        obtain ⟨v, e1, _⟩ := o.view ev0
        refine ⟨v, e1, γ, Hk, y, _, o, eg, fun u H2 Hk2 g2 r2 => ?_⟩
        obtain ⟨v', e2, w⟩ := g2.ok.view ev
        rw [e1] at e2; cases e2
        exact cat_at g2.ok.sub w (.inl r2) ec fun p vs hp r => q p vs H2 Hk2 g2 hp r
      · cases ee
    · cases ee
  · cases ee
end
end DN
namespace DN
open PySem PySem.Spec PyProof.Rows L2
/-! ### a call that may raise, as a statement -/
section
variable {W : WX} {X : Cx} {x : Str} {k n : Nat} {ps : List Str} {F : FunX} {e : Expr} {es : List Expr} {fa : Fa} {p pos : Pos}
def tRX (K : PySem.W.Frag) (W : WX) (n : Nat) (F : FunX) (fa : Fa) : TE := fun σ H Q => ∃ γ Hk ds γ1 r, Ok K σ H Hk γ ∧ fa γ = some (ds, γ1) ∧ ds.length = n ∧ F none ds = some (r, none) ∧
  ((∃ d, r = .da d ∧ ∀ v H2 Hk2, Go K σ H Hk γ σ H2 Hk2 γ1 → Dp K Hk2 v d → Q v H2) ∨
   (∃ c fs, r = .er c fs ∧ ∀ cls dd H2 Hk2, Go K σ H Hk γ σ H2 Hk2 γ1 → XcIs K Hk2 cls dd c fs → W cls dd σ H2))
theorem go_call {K : PySem.W.Frag} {σ : L2.St} {H Hk H1 Hk1 H2 Hk2 : Hp} {γ γ1 : En} {vs : List V} {fq : List Addr} (g1 : Go K σ H Hk γ σ H1 Hk1 γ1) (af : Aft K H1 Hk1 H2 Hk2 vs [] none fq) : Go K σ H Hk γ σ H2 Hk2 γ1 :=
  g1.trans (g1.ok.go ⟨fun a u h => af.kp a u h (by simp), af.kk, af.sub, fun a u h1 h2 => (af.nw a u h1 h2).resolve_right (by simp)⟩)
theorem pe_rX (tk : Takes X W) (C : CalX X.prog X.w X.K X.mg X.base x k ps F) (hr : Room k X.A) (hG : X.A.guards = some []) (hg : Gl X x) (ha : EA X (e :: es) fa) (hn : ps.length = n := by rfl)
    (hdb : (x == ("__debug__" : Str)) = false := by decide) (he : starEach (e :: es) X.env = (false, eval e X.env) :: starEach es X.env := by rfl) (hpl : (backTo pos (starEach es X.env)).any (·.1) = false := by rfl) :
    PE X (.Call (.Name x p) (e :: es) [] pos) (tRX X.K W n F fa) := by
  subst hn
  obtain ⟨f, fd, G, hm, hk, hb⟩ := C
  refine ⟨fun pins s σ H Q I h => ?_⟩
  obtain ⟨γ, Hk, ds, γ1, r, ok, ea, hl, eF, q⟩ := h
  refine wpAny_Call_Name_kw (ld_glob I hg hm ?_ hdb)
  refine PySem.W.callWith_K (h₀ := X.base) I.ok.mod.kin hk (thn (ha.run pos pins s σ H (fun vs H1 => spX X.K ps.length F vs H1 Q (WE W σ)) I ⟨γ, Hk, ds, _, ok, ea, fun vs H1 Hk1 g1 r1 => ?_⟩) fun us s1 ⟨vs, H1, I1, rv, q1⟩ => ⟨I1.kIn, ?_⟩) he hpl
  · refine ⟨by rw [dps_len r1]; exact hl, Hk1, none, ds, r, none, [], g1.ok.sub, ⟨r1, rfl⟩, eF, fun H2 Hk2 fq af => ?_⟩
    rcases q with ⟨d, rfl, q⟩ | ⟨c, fs, rfl, q⟩
    · exact fun v r2 => q v H2 Hk2 (go_call g1 af) r2
    · exact fun cls dd xc => q cls dd H2 Hk2 (go_call g1 af) xc
  · exact runXc G hr hG hb (passAt tk σ) I1 rv q1
/-- what such a call does: on with the data, or raised -/
@[simp] def rCall (n : Nat) (F : FunX) (fa : Fa) (on : D → En → Option Out) : Fs := fun γ => match fa γ with
  | some (ds, γ1) => if ds.length = n then match F none ds with
    | some (.da d, none) => on d γ1
    | some (.er c fs, none) => some (.rs c fs γ1)
    | _ => none
    else none
  | none => none
theorem rcall_imp {K : PySem.W.Frag} {Z : Ends} {σ : L2.St} {H : Hp} {on : D → En → Option Out} {Q : VK} (h : tS K W (rCall n F fa on) Z σ H)
    (hq : ∀ (γ : En) (Hk : Hp) (γ1 : En) (d : D) (o : Out), Ok K σ H Hk γ → on d γ1 = some o → Fin K W Z σ H Hk γ o → ∀ v H2 Hk2, Go K σ H Hk γ σ H2 Hk2 γ1 → Dp K Hk2 v d → Q v H2) : tRX K W n F fa σ H Q := by
  obtain ⟨γ, Hk, o, k, ee, q⟩ := h
  unfold rCall at ee
  split at ee
  · rename_i ds γ1 ea
    split at ee
    · rename_i hl
      split at ee
      · rename_i d eF
        exact ⟨γ, Hk, ds, γ1, _, k, ea, hl, eF, .inl ⟨d, rfl, hq γ Hk γ1 d o k ee q⟩⟩
      · rename_i c fs eF
        cases ee
        exact ⟨γ, Hk, ds, γ1, _, k, ea, hl, eF, .inr ⟨c, fs, rfl, fun cls dd H2 Hk2 g xc => q σ H2 Hk2 cls dd g xc⟩⟩
      · cases ee
    · cases ee
  · cases ee
abbrev sRetR (n : Nat) (F : FunX) (fa : Fa) : Fs := rCall n F fa fun d γ => some (.rt d γ)
abbrev sDropR (n : Nat) (F : FunX) (fa : Fa) : Fs := rCall n F fa fun _ γ => some (.nx γ)
abbrev sSetR (i n : Nat) (F : FunX) (fa : Fa) : Fs := rCall n F fa fun d γ => match gDat i d γ with
  | some γ2 => some (.nx γ2)
  | none => none
theorem es_retR {pos' : Pos} (tk : Takes X W) (C : CalX X.prog X.w X.K X.mg X.base x k ps F) (hr : Room k X.A) (hG : X.A.guards = some []) (hg : Gl X x) (ha : EA X (e :: es) fa) (hn : ps.length = n := by rfl)
    (hdb : (x == ("__debug__" : Str)) = false := by decide) (he : starEach (e :: es) X.env = (false, eval e X.env) :: starEach es X.env := by rfl) (hpl : (backTo pos (starEach es X.env)).any (·.1) = false := by rfl) :
    ES X W (.Return (some (.Call (.Name x p) (e :: es) [] pos)) pos') (sRetR n F fa) := PS.imp (ps_ret (pe_rX tk C hr hG hg ha hn hdb he hpl)) fun Z σ H h =>
  rcall_imp h fun γ Hk γ1 d o k ee q v H2 Hk2 g r => by
    cases ee
    exact q v σ H2 Hk2 g r
theorem es_dropR {pos' : Pos} (tk : Takes X W) (C : CalX X.prog X.w X.K X.mg X.base x k ps F) (hr : Room k X.A) (hG : X.A.guards = some []) (hg : Gl X x) (ha : EA X (e :: es) fa) (hn : ps.length = n := by rfl)
    (hdb : (x == ("__debug__" : Str)) = false := by decide) (he : starEach (e :: es) X.env = (false, eval e X.env) :: starEach es X.env := by rfl) (hpl : (backTo pos (starEach es X.env)).any (·.1) = false := by rfl)
    (hs : swapsWith (.Call (.Name x p) (e :: es) [] pos) none pos'.line X.env = pure false := by rfl) :
    ES X W (.Expr (.Call (.Name x p) (e :: es) [] pos) pos') (sDropR n F fa) := PS.imp (ps_expr (pe_rX tk C hr hG hg ha hn hdb he hpl) hs) fun Z σ H h =>
  rcall_imp h fun γ Hk γ1 d o k ee q v H2 Hk2 g r => by
    cases ee
    exact q σ H2 Hk2 g
theorem es_setR (i : Nat) {z : Str} {p' pos' : Pos} (hN : X.N.Nodup) (hi : X.N[i]? = some z) (hx : Loc X.env.scope z) (tk : Takes X W) (C : CalX X.prog X.w X.K X.mg X.base x k ps F) (hr : Room k X.A) (hG : X.A.guards = some []) (hg : Gl X x) (ha : EA X (e :: es) fa) (hn : ps.length = n := by rfl)
    (hdb : (x == ("__debug__" : Str)) = false := by decide) (he : starEach (e :: es) X.env = (false, eval e X.env) :: starEach es X.env := by rfl) (hpl : (backTo pos (starEach es X.env)).any (·.1) = false := by rfl)
    (hs : swapsWith (.Call (.Name x p) (e :: es) [] pos) (some (.Name z p')) pos'.line X.env = pure false := by rfl) (hf : X.fn z = true ∨ X.env.scope.names.lookup z = some .local := by first | exact .inl rfl | exact .inr rfl | assumption) :
    ES X W (.Assign [.Name z p'] (.Call (.Name x p) (e :: es) [] pos) pos') (sSetR i n F fa) := PS.imp (ps_set hN hi hx (pe_rX tk C hr hG hg ha hn hdb he hpl) hs hf) fun Z σ H h =>
  rcall_imp h fun γ Hk γ1 d o k ee q v H2 Hk2 g r => by
    split at ee
    · rename_i γ2 eg
      cases ee
      exact gDat_imp ⟨γ1, Hk2, d, γ2, g.ok, r, eg, fun σ2 g3 => q σ2 H2 Hk2 (g.trans g3)⟩
    · cases ee
end
end DN
namespace DN
open PySem PySem.Spec PyProof.Rows L2
/-! ### raise -/
abbrev Fm := En → Option (Str × List (Str × D) × En)
def tMk (K : PySem.W.Frag) (fm : Fm) : L2.St → Hp → XK → Prop := fun σ H Q => ∃ γ Hk c fs γ1, Ok K σ H Hk γ ∧ fm γ = some (c, fs, γ1) ∧ ∀ cls dd H2 Hk2, Go K σ H Hk γ σ H2 Hk2 γ1 → XcIs K Hk2 cls dd c fs → Q cls dd H2
/-- an expression that makes an exception -/
def EM (X : Cx) (e : Expr) (fm : Fm) : Prop := PMk X e (tMk X.K fm)
@[simp] def sRaise (fm : Fm) : Fs := fun γ => match fm γ with
  | some (c, fs, γ1) => some (.rs c fs γ1)
  | none => none
theorem es_raiseM {W : WX} {X : Cx} {e : Expr} {fm : Fm} {pos : Pos} (hc : X.calm = true) (tk : Takes X W) (he : EM X e fm) : ES X W (.Raise (some e) none pos) (sRaise fm) := PS.imp (ps_raise hc tk he) fun Z σ H ⟨γ, Hk, o, k, ee, q⟩ => by
  unfold sRaise at ee
  split at ee
  · rename_i c fs γ1 ef
    cases ee
    exact ⟨γ, Hk, c, fs, γ1, k, ef, fun cls dd H2 Hk2 g xc => q σ H2 Hk2 cls dd g xc⟩
  · cases ee
/-! ### a slot that nothing is told of -/
section
variable {K : PySem.W.Frag} {σ σ2 : L2.St} {H Hk H2 Hk2 : Hp} {γ γ2 : En} {i : Nat} {x : Option V}
theorem put_at {j : Nat} {e : Ent} (hi : gt γ i = none) (h : gt γ j = some e) : (σ.set i x)[j]? = σ[j]? := by
  refine List.getElem?_set_ne fun z => ?_
  subst z
  rw [hi] at h
  cases h
theorem Ok.put (o : Ok K σ H Hk γ) (hi : gt γ i = none) : Ok K (σ.set i x) H Hk γ := by
  refine ⟨by rw [List.length_set]; exact o.len, o.sub, fun j d h => ?_, fun j b y h => ?_, o.pin, fun j k b c y z v u fp fq h1 h2 e1 e2 => ?_, fun j t h => ?_⟩
  · rw [put_at hi h]; exact o.dat j d h
  · rw [put_at hi h]; exact o.ow j b y h
  · rw [put_at hi h1] at e1
    rw [put_at hi h2] at e2
    exact o.sep j k b c y z v u fp fq h1 h2 e1 e2
  · rw [put_at hi h]; exact o.tab j t h
theorem own_put (hi : gt γ i = none) {a : Addr} : OwnA K (σ.set i x) H Hk γ a ↔ OwnA K σ H Hk γ a := by
  constructor
  · rintro ⟨j, b, y, v, fp, h, e, r, m⟩
    rw [put_at hi h] at e
    exact ⟨j, b, y, v, fp, h, e, r, m⟩
  · rintro ⟨j, b, y, v, fp, h, e, r, m⟩
    exact ⟨j, b, y, v, fp, h, by rw [put_at hi h]; exact e, r, m⟩
theorem Go.put {y : Option V} (g : Go K (σ.set i x) H Hk γ σ2 H2 Hk2 γ2) (hi : gt γ i = none) (hj : gt γ2 i = none) : Go K σ H Hk γ (σ2.set i y) H2 Hk2 γ2 := by
  refine ⟨g.ok.put hj, g.kk, fun a u h1 h2 => (g.nw a u h1 h2).imp id (own_put hi).mp, fun a u h n => g.kp a u h fun z => n ((own_put hi).mp z), fun a h => (g.sh a ((own_put hj).mp h)).imp (own_put hi).mp id, fun j y' h => ?_⟩
  obtain ⟨e1, z, e2⟩ := g.pn j y' h
  refine ⟨?_, z, e2⟩
  rw [put_at hj e2, e1, put_at hi h]
end
/-! ### try: .. except X as n: .. -/
/-- what the suite knows -/
def tSu (K : PySem.W.Frag) (i : Nat) (m : Str → Option Bool) (T : Str → List (Str × D) → Fs) (a : Addr) (cls : Value) (d : Option Addr) : TS := fun Z σ H =>
  ∃ γ Hk c fs C dd vs o, cls = .ref C ∧ ClsIs K c C ∧ m c = some true ∧ d = some dd ∧ Hk dd = some (.xd vs) ∧ FldsIs K Hk vs fs ∧ σ[i]? = some (some (.ref a)) ∧ H a = none ∧ Ok K σ H Hk γ ∧ gt γ i = none ∧ T c fs γ = some o ∧ Fin K (fun _ _ _ _ => False) Z σ H Hk γ o
def sTry (i : Nat) (m : Str → Option Bool) (F : Fs) (T : Str → List (Str × D) → Fs) : Fs := fun γ => match F γ with
  | some (.rs c fs γ1) => match m c with
    | some true => if (gt γ1 i).isNone && decide (i < γ1.length) then match T c fs γ1 with
      | some (.nx γ2) => if (gt γ2 i).isNone then some (.nx γ2) else none
      | some (.rt d γ2) => if (gt γ2 i).isNone then some (.rt d γ2) else none
      | _ => none
      else none
    | some false => some (.rs c fs γ1)
    | none => none
  | o => o
section
variable {X : Cx} {W : WX} {x n : Str} {cv : Value} {i : Nat} {m : Str → Option Bool} {body suite : List Stmt} {b₀ : Stmt} {np pos pos' : Pos} {F : Fs} {T : Str → List (Str × D) → Fs}
theorem es_tryAs (hs : X.stack = X.env :: X.outer) (hf : X.env.frame = some X.env.locals) (hN : X.N.Nodup) (hi : X.N[i]? = some n) (hln : X.env.kindOf n = some .local) (hc : Names X x cv) (tk : Takes X W)
    (hm : ∀ c C b, ClsIs X.K c C → m c = some b → PySem.W.exmOne X.K (.ref C) cv = some b)
    (hb : ∀ (W' : WX) (pn : List (Addr × Obj)) (xe : Value → Shared → Prop), Takes (X.tr pn xe) W' → PassesOwn (model X.prog X.w) X.A X.env xe → ESs (X.tr pn xe) W' body F)
    (hsu : ∀ (a : Addr) (oe : Obj) (cls : Value) (d : Option Addr) (pn : List (Addr × Obj)), Zc cls d oe → (∃ vs, oe.data = .fields vs) → PSs (X.suite a ((a, oe) :: pn)) (b₀ :: suite) (tSu X.K i m T a cls d)) :
    ES X W (.Try body [.ExceptHandler (some (.Name x np)) (some n) (b₀ :: suite) pos'] [] [] pos) (sTry i m F T) :=
  PS.imp (ps_try_as (tb := fun W' => tS X.K W' F) hs hf hN hi hln hc tk hb hsu) fun Z σ H ⟨γ, Hk, o, k, ee, q⟩ => by
  unfold sTry at ee
  split at ee
  · rename_i c fs γ1 eF
    refine ⟨γ, Hk, _, k, eF, fun σ2 H2 Hk2 cls dd g xc => ?_⟩
    obtain ⟨C, dx, vs, rfl, hC, rfl, hx, hfl⟩ := id xc
    split at ee
    · rename_i em
      refine ⟨true, hm c C true hC em, fun _ a na => ?_, fun z => by cases z⟩
      split at ee
      · rename_i hcond
        rw [Bool.and_eq_true, Option.isNone_iff_eq_none, decide_eq_true_eq] at hcond
        obtain ⟨hn1, hlt⟩ := hcond
        have hl : i < σ2.length := by rw [g.ok.len]; exact hlt
        have base := g.ok.put (x := some (.ref a)) hn1
        have e1 : (σ2.set i (some (.ref a)))[i]? = some (some (.ref a)) := List.getElem?_set_self hl
        split at ee
        · rename_i γ2 eT
          split at ee
          · rename_i hn2
            cases ee
            rw [Option.isNone_iff_eq_none] at hn2
            exact ⟨γ1, Hk2, c, fs, C, dx, vs, _, rfl, hC, em, rfl, hx, hfl, e1, na, base, hn1, eT, fun σ3 H3 Hk3 g3 => q _ _ _ (g.trans (g3.put hn1 hn2))⟩
          · cases ee
        · rename_i d γ2 eT
          split at ee
          · rename_i hn2
            cases ee
            rw [Option.isNone_iff_eq_none] at hn2
            exact ⟨γ1, Hk2, c, fs, C, dx, vs, _, rfl, hC, em, rfl, hx, hfl, e1, na, base, hn1, eT, fun v σ3 H3 Hk3 g3 r => q v _ _ _ (g.trans (g3.put (y := none) hn1 hn2)) r⟩
          · cases ee
        · cases ee
      · cases ee
    · rename_i em
      cases ee
      exact ⟨false, hm c C false hC em, fun z => (by cases z), fun _ => q σ2 H2 Hk2 _ _ g xc⟩
    · cases ee
  · rename_i o' hne
    cases hF : F γ with
    | none => rw [hF] at ee; cases ee
    | some o1 =>
      rw [hF] at ee
      cases ee
      refine ⟨γ, Hk, o, k, hF, ?_⟩
      cases o with
      | nx γ2 => exact q
      | rt d γ2 => exact q
      | bk γ2 => exact q
      | ct γ2 => exact q
      | rs c fs γ2 => exact absurd hF (hne c fs γ2)
      | ro y γ2 => exact q
end
/-! ### e.field, in the suite -/
section
variable {X : Cx} {a : Addr} {oe : Obj} {cls : Value} {d : Option Addr} {pn : List (Addr × Obj)} {e : Expr} {te : TE} {pos : Pos} {n : Str}
def tXfE (K : PySem.W.Frag) (a : Addr) (cls : Value) (d : Option Addr) (n : Str) (te : TE) : TE := fun σ H Q => ∃ C, XfC K C ∧ PySem.W.findIn K (.ref C) n = some none ∧ tXf a cls d C n te σ H Q
theorem pe_xfE (hz : Zc cls d oe) (hf : ∃ vs, oe.data = .fields vs) (he : PE (X.suite a ((a, oe) :: pn)) e te) (hb : attributeBase e n X.env (eval e X.env) = eval e X.env := by rfl) : PE (X.suite a ((a, oe) :: pn)) (.Attribute e n pos) (tXfE X.K a cls d n te) :=
  ⟨fun pins s σ H Q I ⟨C, T, hno, h⟩ => (pe_xf T hno hz hf he hb).run pins s σ H Q I h⟩
theorem flds_look {K : PySem.W.Frag} {H : Hp} {n : Str} : ∀ {vs : List (Str × V)} {fs : List (Str × D)} {x : D}, FldsIs K H vs fs → fs.lookup n = some x → ∃ v, vs.lookup n = some v ∧ Dp K H v x
  | _, _, _, .nil, h => by cases h
  | _, _, x, .cons (f := f) (v := v) (d := d) r t, h => by
    rw [List.lookup_cons] at h ⊢
    cases c : n == f with
    | true =>
      rw [c] at h
      cases h
      exact ⟨v, rfl, r⟩
    | false =>
      rw [c] at h
      exact flds_look t h
end
end DN
namespace DN
open PySem PySem.Spec PyProof.Rows L2
/-! ### list(d): the keys -/
section
variable {P : Program} {w : World} {A : Around} {d I : Addr} {o : Obj} {xs : List (NestedKey × Addr × Value)} {es : Array DictEntry} {ep : Nat}
abbrev KeyAt (xs : List (NestedKey × Addr × Value)) (i : Nat) (v : Value) : Prop := ∃ e, xs[i]? = some e ∧ v = .ref e.2.1
theorem walkN (ho : DictO o xs) (hod : o.data = .dict es ep) (hh : A.handled = none) (hne : d ≠ I) :
    PySem.Walks P w A I [I, d] [I] xs.length (KeyAt xs) (fun i h => h.IsKeyIter I d i xs.length ep ∧ h.get? d = some o) := by
  obtain ⟨hx, es', ep', hd', hz, he⟩ := ent_at ho
  rw [hod] at hd'
  cases hd'
  refine ⟨fun b hb => by simp at hb; simp [hb], fun i h h' st hk => ⟨st.1.at fun oi e => hk I (by simp) oi e, hk d (by simp) _ st.2⟩, fun i s Q E hi st hQ => ?_, fun s Q E st hQ => ?_, fun i s Q E st hQ => wpAny_pyIter_keyiter st.1 hQ⟩
  · obtain ⟨e, hxi⟩ : ∃ e, xs[i]? = some e := ⟨_, List.getElem?_eq_getElem hi⟩
    obtain ⟨en, hen, hk, _⟩ := he i _ hxi
    refine next_key_item st.1 st.2 hod hz hen fun h' hit' sb => ?_
    exact hQ en.key h' s.toks ⟨e, hxi, hk⟩ ⟨hit', (sb.2 d hne).trans st.2⟩ fun b ob hb e' => (sb.2 b fun z => hb (by simp [z])).trans e'
  · exact next_key_end hh st.1 st.2 hod hz (Nat.le_refl _) fun h' eb => hQ h' s.toks fun b ob hb e' => eb b ob (fun z => hb (by simp [z])) e'
theorem srcN (ho : DictO o xs) (lo : (d == sysModules) = false) : PySem.W.KdlSrc P w "dict" d d xs.length (KeyAt xs) (fun h => h.get? d = some o) := by
  obtain ⟨hx, es, ep, hod, hz, he⟩ := ent_at ho
  have ty : ∀ s : Shared, s.heap.get? d = some o → s.TypeIs (.ref d) "dict" := fun s h => ⟨o, h, hx.1⟩
  refine ⟨ty, fun h hk => ⟨Heap.lt_size hk, Heap.lt_size hk⟩, fun h h' e hk => hk d (.inl rfl) o e, by decide, by decide, fun A E s Q hk hq => PySem.W.kdl_hint_dict (ty s hk) hq, fun A s hh hk => ?_⟩
  refine ⟨{ cls := .type "dict_keyiterator", data := .fields #[.ref d, .int 0 0, .int es.size 0, .int ep 0] }, _, fun E Q hq => iter_keys lo hk hx hod hq, walkN (I := s.heap.objs.size) ho hod hh (Nat.ne_of_lt (Heap.lt_size hk)), ⟨⟨_, Heap.get?_push_size _ rfl, rfl, ?_⟩, Heap.get?_push_of_some _ hk⟩⟩
  rw [hz]
  rfl
end
abbrev keysV (xs : List (NestedKey × Addr × Value)) : List V := xs.map fun e => .ref e.2.1
theorem vals_keys : ∀ xs : List (NestedKey × Addr × Value), Vals (keysV xs) (xs.map fun e => Value.ref e.2.1)
  | [] => .nil
  | _ :: r => .cons rfl (vals_keys r)
theorem keys_got {xs : List (NestedKey × Addr × Value)} {acc : Array Value} (h : PySem.ItemsOf (KeyAt xs) acc xs.length) : acc.toList = xs.map fun e => Value.ref e.2.1 := by
  refine List.ext_getElem? fun i => ?_
  by_cases hi : i < xs.length
  · have hl : i < acc.toList.length := by rw [Array.length_toList, h.1]; exact hi
    obtain ⟨e, h1, h2⟩ := h.2 i (acc.toList[i]'hl) (by rw [← Array.getElem?_toList]; exact List.getElem?_eq_getElem hl)
    rw [List.getElem?_eq_getElem hl, List.getElem?_map, h1, h2]
    rfl
  · rw [List.getElem?_eq_none (by rw [Array.length_toList, h.1]; omega), List.getElem?_eq_none (by rw [List.length_map]; omega)]
def rListN (K : PySem.W.Frag) : List V → Hp → VK → Prop := fun vs H Q => ∃ p o xs, vs = [.ref p] ∧ H p = some (dnO p o) ∧ DictO o xs ∧ (p == sysModules) = false ∧ xs.length ≤ sizeLine ∧ ∀ l, H l = none → Q (.ref l) (upd H l (.lst (keysV xs)))
theorem call_listN {X : Cx} (hc : X.calm = true) : CallR X (.type "list") (rListN X.K) := by
  intro pins s σ H vs us Q I r h
  obtain ⟨p, o, xs, rfl, hp, ho, lo, hz, q⟩ := h
  obtain ⟨u, rfl, rx⟩ := vals1 r
  obtain rfl : u = Value.ref p := rx
  obtain ⟨hgd, _, _⟩ := I.hok p _ hp
  refine PySem.W.kdl_call (srcN ho lo) (I.ok.hd hc) hgd hz fun h' tk acc' c' kp hl hacc => ?_
  have e := keys_got hacc
  refine ⟨.ref s.heap.objs.size, _, I.laid (t' := tk) (h' := h') kp (Nat.le_refl _) (show ObjOk X.prog X.w _ h' _ (.lst (keysV xs)) from ⟨by rw [List.length_map]; exact hz, acc'.toList, c', by rw [e]; exact vals_keys xs, by simpa using hl⟩), rfl, q _ (I.hok.fresh (Nat.le_refl _))⟩
theorem keys_dp {K : PySem.W.Frag} {H : Hp} : ∀ {xs : List (NestedKey × Addr × Value)} {kvs : List (D × D)}, DpEnts K H xs kvs → DpAll K H (keysV xs) (kvs.map (·.1))
  | _, _, .nil => .nil
  | _, _, .cons h1 h2 h3 h4 t => .cons h2 (keys_dp t)
/-- list(d) of a dict in a slot -/
@[simp] def lKeysn (i : Nat) : Fa := fun γ => match view γ i with
  | some (.dict kvs) => some (kvs.map (·.1), γ)
  | _ => none
theorem el_keysn {X : Cx} {a : Expr} {pos p : Pos} {i : Nat} (hc : X.calm = true) (hm : X.mg "list" = none) (hg : Gl X "list") (ha : PE X a (tVar i)) (he : starEach [a] X.env = (false, eval a X.env) :: starEach [] X.env := by rfl) (hpl : (backTo pos (starEach [] X.env)).any (·.1) = false := by rfl) :
    EL X (.Call (.Name "list" p) [a] [] pos) (lKeysn i) := PE.imp (pe_callTy (call_listN hc) hg hm (by decide +kernel) (pa_cons ha pa_nil he) (he := he) (hpl := hpl)) fun σ H Q ⟨γ, Hk, d, γ2, o, ee, q⟩ => by
  unfold lKeysn at ee
  split at ee <;> cases ee
  rename_i kvs ev
  obtain ⟨v, e1, w⟩ := o.view ev
  obtain ⟨p, ob, xs, rfl, ⟨h1, h2, h3, h4, h5, h6⟩, hk⟩ := w.dicK o.sub
  exact ⟨_, e1, p, ob, xs, rfl, h1, h2, h5, h6, fun l hl => q l _ H Hk (Go.refl o) hl (keys_dp hk)⟩
end DN
namespace DN
open PySem PySem.Spec PyProof.Rows L2
/-! ### xs.index(x), of things that may be keys -/
section
variable {X : Cx} {pins : List (Addr × Obj)} {σ : L2.St} {H : Hp} {s : Shared}
theorem nested_at {h : Heap} : ∀ {ks : List NestedKey} {vs : List Value}, NestedAll h ks vs → ∀ (j : Nat) (h1 : j < vs.length) (h2 : j < ks.length), NestedIs h ks[j] vs[j]
  | _, _, .nil, j, h1, _ => absurd h1 (Nat.not_lt_zero _)
  | _, _, .cons a t, 0, _, _ => a
  | _, _, .cons a t, j + 1, h1, h2 => nested_at t j (Nat.lt_of_succ_lt_succ h1) (Nat.lt_of_succ_lt_succ h2)
def rIdx (K : PySem.W.Frag) : V → List V → Hp → VK → Prop := fun x vs H Q => ∃ p ys ds ks a kd k, x = .ref p ∧ vs = [.ref a] ∧ SqL K H p ys ∧ DpAll K H ys ds ∧ keysOf ds = some ks ∧ Dp K H (.ref a) kd ∧ keyD kd = some k ∧ k ∈ ks ∧ Q (.int (ks.idxOf k : Nat)) H
theorem mt_index {n : Nat} (hr : Room n X.A) : MtR X "list.index" (rIdx X.K) := by
  have un := hr.un
  intro pins s σ H x vs v us Q I rx rv h
  obtain ⟨p, ys, ds, ks, a, kd, k, rfl, rfl, hq, ha, ek, hk, ed, hm, q⟩ := h
  cases rx
  cases rv with
  | @cons _ u _ ur r1 rr =>
    cases rr
    obtain rfl : u = Value.ref a := r1
    obtain ⟨its, r', pl, hz⟩ := I.list hq
    have na := nests_at I ha r' ek
    have nl := NestedAll.length ks its na
    obtain ⟨_, ko, kdp⟩ := keyD_of ed
    have hkv := nest_at I hk (u := .ref a) rfl ko
    have hl := r'.length
    refine PySem.SeqAt.call_list_index (vs := its) (ks := ks) (x := .ref a) (k := k) pl.isList ⟨nl, fun j h1 h2 => ?_⟩ (by rw [← nl, ← hl]; exact hz) hm ⟨.int (ks.idxOf k : Nat), H, I.tok _, ⟨_, rfl⟩, q⟩
    rw [NestedKey.decide_eq]
    refine eqAt_key _ _ X.A.in1 s _ _ (nested_at na j h1 h2) hkv ?_
    rw [Around.in1_units]
    omega
theorem sql_ty {p : Addr} {ys : List V} (hq : SqL X.K H p ys) : TyAt X "list" (.ref p) H := by
  intro pins s σ v I r
  cases r
  obtain ⟨its, r', ⟨o, n, ho, hc, hd, hs⟩, hz⟩ := I.list hq
  exact ⟨⟨o, ho, hc⟩, fun a e => by cases e; exact ⟨o, ho, hd⟩⟩
end
@[simp] def fIdx (i : Nat) (f : Fe) : Fe := fun γ => match view γ i with
  | some (.list _) => match f γ with
    | some (kd, γ1) => match view γ1 i with
      | some (.list ds) => match keysOf ds with
        | some ks => match keyD kd with
          | some k => if k ∈ ks then some (.int (ks.idxOf k : Nat), γ1) else none
          | none => none
        | none => none
      | _ => none
    | none => none
  | _ => none
theorem ev_index {X : Cx} {i n : Nat} (hr : Room n X.A) {d ke : Expr} {f : Fe} {a1 c1 : Pos} (hd : PE X d (tVar i)) (hk : EV X ke f)
    (b1 : attributeBase d "index" X.env (eval d X.env) = eval d X.env := by rfl)
    (f1' : ((backTo c1 (starEach [ke] X.env)).all (fun x => !x.1) && (backToKw c1 (keywordEach [] X.env)).all (fun x => x.1.isSome) && decide ([ke].length + ([] : List Keyword).length + (if ([] : List Keyword).isEmpty then 0 else 1) < 30)) = true := by rfl)
    (l1 : (a1.endLine == c1.line) = true := by rfl) (s1 : starEach [ke] X.env = (false, eval ke X.env) :: starEach [] X.env := by rfl) (p1 : (backTo c1 (starEach [] X.env)).any (·.1) = false := by rfl) :
    EV X (.Call (.Attribute d "index" a1) [ke] [] c1) (fIdx i f) :=
  PE.imp (pe_meth PySem.F.plainAttrs_list PySem.F.slot_list_index PySem.F.type_list_index (mt_index hr) hd (pa_cons hk pa_nil s1) b1 f1' l1 s1 p1) fun σ H Q ⟨γ, Hk, dd, γ2, o, ee, q⟩ => by
  unfold fIdx at ee
  split at ee
  · rename_i ds0 e0
    split at ee
    · rename_i kd γ1 ef
      split at ee
      · rename_i ds ev
        split at ee
        · rename_i ks eks
          split at ee
          · rename_i k ek
            split at ee <;> cases ee
            rename_i hm
            obtain ⟨v0, ev0, w0⟩ := o.view e0
            obtain ⟨p0, ys0, rfl, h0, _⟩ := w0.lst o.sub
            refine ⟨.ref p0, ev0, sql_ty h0, γ, Hk, kd, _, o, ef, fun v1 H1 Hk1 g1 r1 => ?_⟩
            obtain ⟨v2, ev2, w2⟩ := g1.ok.view ev
            rw [ev0] at ev2; cases ev2
            obtain ⟨p1, ys1, e1, h1, h2⟩ := w2.lst g1.ok.sub
            cases e1
            obtain ⟨a, rfl⟩ := key_ref r1 ek
            exact ⟨p0, ys1, ds, ks, a, kd, k, rfl, rfl, h1, dps_mono g1.ok.sub h2, eks, dp_mono g1.ok.sub r1, ek, hm, q _ H1 Hk1 g1 (.int _)⟩
          · cases ee
        · cases ee
      · cases ee
    · cases ee
  · cases ee
end DN
namespace DN
open PySem PySem.Spec PyProof.Rows L2
/-! ### len(set(xs)), xs a list of tuples of whole numbers -/
def intsOf : List D → Option (List Int)
  | [] => some []
  | .int i :: ds => match intsOf ds with
    | some r => some (i :: r)
    | none => none
  | _ => none
def tupsOf : List D → Option (List (List Int))
  | [] => some []
  | .tuple ds :: r => match intsOf ds with
    | some k => match tupsOf r with
      | some ks => some (k :: ks)
      | none => none
    | none => none
  | _ => none
/-- how many are there, each once -/
def dist : List (List Int) → Nat
  | [] => 0
  | k :: r => if k ∈ r then dist r else dist r + 1
theorem dist_of : ∀ (l m : List (List Int)), m.Nodup → (∀ x, x ∈ m ↔ x ∈ l) → dist l = m.length
  | [], m, nd, h => by
    cases m with
    | nil => rfl
    | cons x r => exact absurd ((h x).mp (by simp)) (by simp)
  | k :: r, m, nd, h => by
    rw [dist]
    by_cases c : k ∈ r
    · rw [if_pos c]
      refine dist_of r m nd fun x => (h x).trans ?_
      rw [List.mem_cons]
      exact ⟨fun z => z.elim (fun e => e ▸ c) id, .inr⟩
    · rw [if_neg c]
      have hk : k ∈ m := (h k).mpr (by simp)
      have e := dist_of r (m.erase k) (nd.erase k) fun x => by
        rw [nd.mem_erase_iff, h x, List.mem_cons]
        constructor
        · rintro ⟨h1, rfl | h2⟩
          · exact absurd rfl h1
          · exact h2
        · intro hx
          exact ⟨fun z => c (z ▸ hx), .inr hx⟩
      rw [e, List.length_erase_of_mem hk]
      have := List.length_pos_of_mem hk
      omega
theorem dist_nodup {l : List (List Int)} (h : l.Nodup) : dist l = l.length := dist_of l l h fun _ => Iff.rfl
section
variable {K : PySem.W.Frag} {H Hk : Hp}
theorem dp_ints : ∀ {vs : List V} {ds : List D} {ns : List Int}, DpAll K H vs ds → intsOf ds = some ns → vs = ns.map V.int
  | _, _, _, .nil, e => by rw [intsOf] at e; cases e; rfl
  | _, _, ns, .cons (d := d) (ds := ds) h t, e => by
    cases d with
    | int i =>
      rw [intsOf] at e
      split at e
      · rename_i r er
        cases e
        cases h
        rw [dp_ints t er]
        rfl
      · cases e
    | _ => simp [intsOf] at e
theorem dp_tups (s : Same Hk H) : ∀ {vs : List V} {ds : List D} {kss : List (List Int)}, DpAll K Hk vs ds → tupsOf ds = some kss → ∃ ks : List (Addr × List Int), vs = ks.map (fun p => V.ref p.1) ∧ ks.map (·.2) = kss ∧ ∀ p ∈ ks, SqT K H p.1 (p.2.map V.int)
  | _, _, _, .nil, e => by rw [tupsOf] at e; cases e; exact ⟨[], rfl, rfl, fun p h => by cases h⟩
  | _, _, kss, .cons (d := d) (ds := ds) h t, e => by
    cases d with
    | tuple es =>
      rw [tupsOf] at e
      split at e
      · rename_i k ek
        split at e
        · rename_i r er
          cases e
          obtain ⟨ks, e1, e2, e3⟩ := dp_tups s t er
          cases h with
          | tup hs ha =>
            rename_i a ws
            have hv := dp_ints ha ek
            subst hv
            refine ⟨(a, k) :: ks, by rw [e1]; rfl, by rw [List.map_cons, e2], fun p hp => ?_⟩
            rcases List.mem_cons.mp hp with rfl | hp
            · exact sqt_mono s hs
            · exact e3 p hp
        · cases e
      · cases e
    | _ => simp [tupsOf] at e
end
section
variable {X : Cx}
def rLenT (K : PySem.W.Frag) (P : Program) (w : World) : List V → Hp → VK → Prop := fun vs H Q => ∃ (a : Addr) (L : List (Addr × List Int)), vs = [.ref a] ∧ H a = some (SetTO P w a L) ∧ (∀ p ∈ L, SqT K H p.1 (p.2.map V.int)) ∧ ((L.map (·.2)).Nodup → Q (.int L.length) H)
theorem call_lenT : CallR X (.builtin "len") (rLenT X.K X.prog X.w) := by
  intro pins s σ H vs us Q I r h
  obtain ⟨a, L, rfl, ha, hl, q⟩ := h
  rw [Vals.ref1 r]
  obtain ⟨R0, _, _⟩ := I.hok a _ ha
  obtain ⟨es, ep, t, R⟩ := R0.full fun p hp => I.isT (hl p hp)
  obtain ⟨o, ho, hex, hd⟩ := R.ob
  have hn := R.size
  have hf := R.few
  exact call_len_set ho hex hd R.fits (by rw [hn]; omega) ⟨.int L.length, H, I.tok _, ⟨_, by rw [hn]⟩, q R.nd⟩
end
theorem go_more {K : PySem.W.Frag} {σ : L2.St} {H Hk H1 Hk1 : Hp} {γ γ1 : En} {a : Addr} {o : HO} (g : Go K σ H Hk γ σ H1 Hk1 γ1) (h : H1 a = none) : Go K σ H Hk γ σ (upd H1 a o) Hk1 γ1 :=
  g.trans (g.ok.go ⟨fun b u e => by rw [upd_ne (fun z => by rw [z, h] at e; cases e)]; exact e, Same.refl _, fun b u e => by
    have := g.ok.sub b u e
    rw [upd_ne (fun z => by rw [z, h] at this; cases this)]
    exact this, fun b u e n => by rw [n] at e; cases e⟩)
@[simp] def fLenSet (f : Fe) : Fe := fun γ => match f γ with
  | some (.list ds, γ1) => match tupsOf ds with
    | some ks => if ks.length < 64 then some (.int (dist ks : Nat), γ1) else none
    | none => none
  | _ => none
theorem ev_lenSet {X : Cx} {n : Nat} {a : Expr} {f : Fe} {p p2 q pos : Pos} (hc : X.calm = true) (hr : Room n X.A) (hm : X.mg "len" = none) (hg : Gl X "len") (hm2 : X.mg "set" = none) (hg2 : Gl X "set") (ha : EV X a f)
    (he : starEach [a] X.env = (false, eval a X.env) :: starEach [] X.env := by rfl) (hpl : (backTo q (starEach [] X.env)).any (·.1) = false := by rfl)
    (he2 : starEach [.Call (.Name "set" p2) [a] [] q] X.env = (false, eval (.Call (.Name "set" p2) [a] [] q) X.env) :: starEach [] X.env := by rfl) (hpl2 : (backTo pos (starEach [] X.env)).any (·.1) = false := by rfl) :
    EV X (.Call (.Name "len" p) [.Call (.Name "set" p2) [a] [] q] [] pos) (fLenSet f) :=
  PE.imp (pe_callB call_lenT hg hm (by decide +kernel) (pa_cons (pe_callTy (cr_setOfT hc (by have := hr.un; omega)) hg2 hm2 (by decide +kernel) (pa_cons ha pa_nil he) (he := he) (hpl := hpl)) pa_nil he2) (he := he2) (hpl := hpl2)) fun σ H Q ⟨γ, Hk, d, γ2, o, ee, q⟩ => by
  unfold fLenSet at ee
  split at ee
  · rename_i ds γ1 ef
    split at ee
    · rename_i ks ek
      split at ee <;> cases ee
      rename_i hz
      refine ⟨γ, Hk, _, _, o, ef, fun v H1 Hk1 g1 r1 => ?_⟩
      cases r1 with
      | lst hs hd =>
        obtain ⟨kk, rfl, e2, e3⟩ := dp_tups g1.ok.sub hd ek
        have hl : kk.length < 64 := by rw [← List.length_map (f := (·.2)) (as := kk), e2]; exact hz
        refine ⟨_, kk, rfl, sql_mono g1.ok.sub hs, e3, hl, fun b L hb h1 h2 => ?_⟩
        have g2 := go_more (o := SetTO X.prog X.w b L) g1 hb
        refine ⟨b, L, rfl, upd_same, fun p hp => sqt_mono (fun c u e => by rw [upd_ne (fun z => by rw [z, hb] at e; cases e)]; exact e) (e3 p (h1 p hp)), fun nd => ?_⟩
        have hd' : dist ks = L.length := by
          rw [dist_of ks (L.map (·.2)) nd fun x => ?_, List.length_map]
          rw [← e2]
          constructor
          · intro hx
            obtain ⟨p, hp, rfl⟩ := List.mem_map.mp hx
            exact List.mem_map_of_mem (h1 p hp)
          · intro hx
            obtain ⟨p, hp, rfl⟩ := List.mem_map.mp hx
            exact h2 p hp
        rw [hd'] at q
        exact q _ _ Hk1 g2 (.int _)
    · cases ee
  · cases ee
end DN
namespace DN
open PySem PySem.Spec PyProof.Rows L2
/-! ### xs.pop() -/
theorem dps_split {K : PySem.W.Frag} {H : Hp} {d : D} : ∀ {ds : List D} {vs : List V}, DpAll K H vs (ds ++ [d]) → ∃ vs' y, vs = vs' ++ [y] ∧ DpAll K H vs' ds ∧ Dp K H y d
  | [], _, .cons h .nil => ⟨[], _, rfl, .nil, h⟩
  | x :: ds, _, .cons h t => by
    obtain ⟨vs', y, rfl, h1, h2⟩ := dps_split t
    exact ⟨_ :: vs', y, rfl, .cons h h1, h2⟩
@[simp] def fPop (i : Nat) : Fe := fun γ => match gt γ i with
  | some (.ow b (.lst ds)) => match ds.getLast? with
    | some d => some (d, γ.set i (some (.ow b (.lst ds.dropLast))))
    | none => none
  | _ => none
theorem ev_pop {X : Cx} (i : Nat) {a : Expr} {apos cpos : Pos} (ho : PE X a (tVar i))
    (hbase : attributeBase a "pop" X.env (eval a X.env) = eval a X.env := by rfl) (hline : (apos.endLine == cpos.line) = true := by rfl) : EV X (.Call (.Attribute a "pop" apos) [] [] cpos) (fPop i) :=
  PE.imp (pe_bm0 PySem.F.plainAttrs_list PySem.F.slot_list_pop PySem.F.type_list_pop mt_pop ho hbase hline) fun σ H Q ⟨γ, Hk, d, γ2, k, ee, q⟩ => by
  unfold fPop at ee
  split at ee
  · rename_i b ds e0
    split at ee
    · rename_i x ex
      cases ee
      obtain ⟨p, vs, e1, hp, _, ra⟩ := k.own i _ _ e0
      obtain ⟨ys, rfl⟩ := List.getLast?_eq_some_iff.mp ex
      obtain ⟨vs', y, rfl, h1, h2⟩ := dps_split ra
      refine ⟨_, e1, .inl ⟨rfl, _, SqL.of hp⟩, p, vs' ++ [y], y, rfl, rfl, hp, by simp, ?_⟩
      rw [List.dropLast_concat] at q ⊢
      exact q y _ _ (k.write e0 e1 h1) h2
    · cases ee
  · cases ee
end DN
namespace DN
open PySem PySem.Spec PyProof.Rows L2
/-! ### {k: v} -/
def tDic1 (K : PySem.W.Frag) (tk tv : TE) : TE := fun σ H Q => ∀ p o, H p = none → (p == sysModules) = false → DictO o [] → tk σ (upd H p (dnO p o)) fun x H1 => tv σ H1 fun y H2 => H2 p = some (dnO p o) ∧
  ∃ a kd k d, x = .ref a ∧ Dp K H2 (.ref a) kd ∧ keyD kd = some k ∧ Dp K H2 y d ∧ ∀ o2 u, RelV y u → DictO o2 [(k, a, u)] → Q (.ref p) (upd H2 p (dnO p o2))
theorem pe_dic1 {X : Cx} {n : Nat} (hr : Room n X.A) {ke ve : Expr} {tk tv : TE} {pos : Pos} (hk : PE X ke tk) (hv : PE X ve tv)
    (hshape : (evalEachOpt [some ke] X.env).zip ((evalEach [ve] X.env).map fun v => do let x ← v; standAt pos; pure x) = [(eval ke X.env, (do let x ← eval ve X.env; standAt pos; pure x : Sem Value))].map fun p => (some p.1, p.2) := by rfl) :
    PE X (.Dict [some ke] [ve] pos) (tDic1 X.K tk tv) := by
  refine ⟨fun pins s σ H Q I h => ?_⟩
  have big := I.big
  have un := hr.un
  have e : (s.heap.push { cls := .type "dict", data := .dict #[] }).get? s.heap.objs.size = some { cls := .type "dict", data := .dict #[] } := Heap.get?_push_size _ rfl
  have ho : DictO { cls := .type "dict", data := .dict #[] } [] := ⟨⟨rfl, rfl, rfl⟩, #[], 0, rfl, rfl⟩
  have I0 := I.laid (t' := s.toks) (a := s.heap.objs.size) (fun _ _ q => Heap.get?_push_of_some _ q) (Nat.le_refl _) (dnO_ok e)
  have lo : (s.heap.objs.size == sysModules) = false := beq_eq_false_iff_ne.mpr (Nat.ne_of_gt big)
  have h0 := h s.heap.objs.size _ (I.hok.fresh (Nat.le_refl _)) lo ho
  rw [arm_eval_Dict, hshape, dictDisplay_pairs _ (by simp) (by simp)]
  refine wpAny_bind (wpAny_standAt (wpAny_bind (wpAny_subDictH (knd := nestedKind X.prog X.w) (by show X.A.units + 8 < cLine; omega) (by simp) ?_)))
  simp only [evalPairs]
  refine wpAny_bind (thn (hk.run pins _ σ _ _ I0 h0) fun kv s1 ⟨x, H1, I1, r1, q1⟩ => ?_)
  refine wpAny_bind (wpAny_holding (wpAny_bind (thn (hv.run pins s1 σ H1 _ I1 q1) fun vv s2 ⟨y, H2, I2, r2, hp, a, kd, k, d, ex, dk, ek, dv, q⟩ => wpAny_bind (wpAny_standAt (wpAny_pure ?_)))))
  refine wpAny_bind (wpAny_holding (wpAny_pure (wpAny_pure ?_)))
  subst ex
  obtain rfl : kv = Value.ref a := r1
  have hm := dictN_at I2 hp ho .nil List.nodup_nil
  refine ⟨[(k, a, vv)], ⟨rfl, rfl, keyN_at I2 dk ek, trivial⟩, hm, fun h' tk hm' hs => wpAny_pure ?_⟩
  have st : storedAllH [] [(k, a, vv)] = [(k, a, vv)] := rfl
  rw [st] at hm'
  obtain ⟨o2, ho2, hd2, nd2⟩ := dictN_of (kvs := [(kd, d)]) hm' (.cons ek dk r2 dv .nil)
  exact ⟨.ref s.heap.objs.size, _, I2.write (t' := tk) (x := s.heap.objs.size) (e := s.heap.objs.size) (by rw [hp]; exact True.intro) (.inl rfl) (fun b u hne z => (hs.2 b hne).trans z) ⟨o2, ho2⟩ (dnO_ok ho2), rfl, q o2 vv r2 hd2⟩
end DN
namespace DN
open PySem PySem.Spec PyProof.Rows L2
/-- x = {k: c}, k a name, c a constant -/
@[simp] def sDic1 (i j : Nat) (d : D) : Fs := fun γ => match gt γ j with
  | some (.dat kd) => match keyD kd with
    | some _ => if pinB γ i then none else some (.nx (γ.set i (some (.ow false (.dic [(kd, d)])))))
    | none => none
  | _ => none
theorem upd_twice {H : Hp} {p : Addr} {o o2 : HO} : upd (upd H p o) p o2 = upd H p o2 := by
  funext b
  by_cases h : b = p
  · rw [h, upd_same, upd_same]
  · rw [upd_ne h, upd_ne h, upd_ne h]
theorem es_dic1 {W : WX} {X : Cx} (i j : Nat) {n : Nat} (hr : Room n X.A) {ke ve : Expr} {c : V} {d : D} {x : Str} {p' dp pos : Pos} (hN : X.N.Nodup) (hi : X.N[i]? = some x) (hx : Loc X.env.scope x) (hk : PE X ke (tVar j)) (hv : PE X ve (tC c)) (hd : ∀ Hk, Dp X.K Hk c d)
    (hshape : (evalEachOpt [some ke] X.env).zip ((evalEach [ve] X.env).map fun v => do let x ← v; standAt dp; pure x) = [(eval ke X.env, (do let x ← eval ve X.env; standAt dp; pure x : Sem Value))].map fun p => (some p.1, p.2) := by rfl)
    (hs : swapsWith (.Dict [some ke] [ve] dp) (some (.Name x p')) pos.line X.env = pure false := by rfl)
    (hf : X.fn x = true ∨ X.env.scope.names.lookup x = some .local := by first | exact .inl rfl | exact .inr rfl | assumption) : ES X W (.Assign [.Name x p'] (.Dict [some ke] [ve] dp) pos) (sDic1 i j d) :=
  PS.imp (ps_set hN hi hx (pe_dic1 hr hk hv hshape) hs hf) fun Z σ H ⟨γ, Hk, o, k, e, q⟩ => by
  unfold sDic1 at e
  split at e
  · rename_i kd ej
    split at e
    · rename_i kk ek
      split at e <;> cases e
      rename_i np
      intro p ob hp hsys ho
      obtain ⟨v, ev, rv⟩ := k.dat j kd ej
      obtain ⟨a, rfl⟩ := key_ref rv ek
      have s1 : Same Hk (upd H p (dnO p ob)) := k.sub.trans (same_upd hp)
      refine ⟨_, ev, upd_same, a, kd, kk, d, rfl, dp_mono s1 rv, ek, dp_mono s1 (hd Hk), fun o2 u ru hdo => ?_⟩
      rw [upd_twice]
      exact q _ _ _ (k.setNew (same_upd hp) (.dic upd_same (k.sub.free hp) hdo (.cons ek rv ru (hd Hk) .nil) (by simp) hsys (by rw [sizeLine_eq]; simp)) (fun b hb => by rw [List.mem_singleton.mp hb]; exact hp) (noPin_of k (by simpa using np)))
    · cases e
  · cases e
end DN
namespace DN
open PySem PySem.Spec PyProof.Rows L2
/-! ### x = {k: c}, k any expression -/
def rmH (H : Hp) (p : Addr) : Hp := fun b => if b = p then none else H b
theorem rmH_sub {H : Hp} {p : Addr} : Same (rmH H p) H := fun b u e => by
  unfold rmH at e
  split at e
  · cases e
  · exact e
theorem rmH_ne {H : Hp} {p b : Addr} (h : b ≠ p) : rmH H p b = H b := if_neg h
theorem rmH_at {H : Hp} {p : Addr} : rmH H p p = none := if_pos rfl
section
variable {K : PySem.W.Frag} {σ σ1 : L2.St} {H Hk H1 Hk1 : Hp} {γ γ1 : En} {p : Addr}
theorem rm_up {v : V} {y : Pay} {fp : List Addr} (r : OwnV K (rmH H p) Hk v y fp) : OwnV K H Hk v y fp := r.to (Same.refl _) (fun a _ u e => rmH_sub a u e) fun a ha => (r.at a ha).2
theorem rm_own {a : Addr} (h : OwnA K σ (rmH H p) Hk γ a) : OwnA K σ H Hk γ a := by
  obtain ⟨i, b, y, v, fp, h1, h2, r, m⟩ := h
  exact ⟨i, b, y, v, fp, h1, h2, rm_up r, m⟩
theorem Ok.rm (o : Ok K σ H Hk γ) (hk : Hk p = none) (no : ¬ OwnA K σ H Hk γ p) : Ok K σ (rmH H p) Hk γ where
  len := o.len
  sub := fun b u e => by
    rw [rmH_ne (fun z => by rw [z, hk] at e; cases e)]
    exact o.sub b u e
  dat := o.dat
  ow := fun i b y e => by
    obtain ⟨v, fp, e1, r⟩ := o.ow i b y e
    exact ⟨v, fp, e1, r.to (Same.refl _) (fun a ha u e2 => by
      have ne : a ≠ p := fun z => no ⟨i, b, y, v, fp, e, e1, r, by rw [← z]; exact ha⟩
      rw [rmH_ne ne]; exact e2) fun a ha => (r.at a ha).2⟩
  pin := o.pin
  sep := fun i j b c y z v u fp fq e1 e2 e3 e4 r1 r2 => o.sep i j b c y z v u fp fq e1 e2 e3 e4 (rm_up r1) (rm_up r2)
  tab := o.tab
/-- what went on beside a new object p, told without it -/
theorem go_beside {X : HO} (hp : H p = none) (o : Ok K σ H Hk γ) (g : Go K σ (upd H p X) Hk γ σ1 H1 Hk1 γ1) : Go K σ H Hk γ σ1 (rmH H1 p) Hk1 γ1 ∧ H1 p = some X := by
  have gr : Grow H Hk (upd H p X) Hk := ⟨fun b u e => by rw [upd_ne (fun z => by rw [z, hp] at e; cases e)]; exact e, Same.refl _, fun b u e => by
    have := o.sub b u e
    rw [upd_ne (fun z => by rw [z, hp] at this; cases this)]
    exact this, fun b u e n => by rw [n] at e; cases e⟩
  have back : ∀ {a}, OwnA K σ (upd H p X) Hk γ a → OwnA K σ H Hk γ a := fun h => h.grown o gr
  have no : ¬ OwnA K σ (upd H p X) Hk γ p := fun h => by
    obtain ⟨⟨u, e⟩, _⟩ := (back h).at
    rw [hp] at e
    cases e
  have hn : ∀ {a}, upd H p X a = none → H a = none := fun {a} h => by
    by_cases c : a = p
    · rw [c]; exact hp
    · rw [upd_ne c] at h; exact h
  have hk0 : Hk p = none := o.sub.free hp
  have hk : Hk1 p = none := by
    cases e : Hk1 p with
    | none => rfl
    | some u =>
      rcases g.nw p u e hk0 with z | z
      · rw [upd_same] at z; cases z
      · exact absurd z no
  have no1 : ¬ OwnA K σ1 H1 Hk1 γ1 p := fun h => by
    rcases g.sh p h with z | z
    · exact no z
    · rw [upd_same] at z; cases z
  refine ⟨⟨g.ok.rm hk no1, g.kk, fun a u e n => ?_, fun a u e n => ?_, fun a h => ?_, g.pn⟩, g.kp p X upd_same no⟩
  · rcases g.nw a u e n with z | z
    · exact .inl (hn z)
    · exact .inr (back z)
  · have ne : a ≠ p := fun z => by rw [z, hp] at e; cases e
    rw [rmH_ne ne]
    exact g.kp a u (by rw [upd_ne ne]; exact e) fun h => n (back h)
  · rcases g.sh a (rm_own h) with z | z
    · exact .inl (back z)
    · exact .inr (hn z)
end
@[simp] def sDic1E (i : Nat) (f : Fe) (d : D) : Fs := fun γ => match f γ with
  | some (kd, γ1) => match keyD kd with
    | some _ => if pinB γ1 i then none else some (.nx (γ1.set i (some (.ow false (.dic [(kd, d)])))))
    | none => none
  | none => none
theorem es_dic1E {W : WX} {X : Cx} (i : Nat) {n : Nat} (hr : Room n X.A) {ke ve : Expr} {f : Fe} {c : V} {d : D} {x : Str} {p' dp pos : Pos} (hN : X.N.Nodup) (hi : X.N[i]? = some x) (hx : Loc X.env.scope x) (hk : EV X ke f) (hv : PE X ve (tC c)) (hd : ∀ Hk, Dp X.K Hk c d)
    (hshape : (evalEachOpt [some ke] X.env).zip ((evalEach [ve] X.env).map fun v => do let x ← v; standAt dp; pure x) = [(eval ke X.env, (do let x ← eval ve X.env; standAt dp; pure x : Sem Value))].map fun p => (some p.1, p.2) := by rfl)
    (hs : swapsWith (.Dict [some ke] [ve] dp) (some (.Name x p')) pos.line X.env = pure false := by rfl)
    (hf : X.fn x = true ∨ X.env.scope.names.lookup x = some .local := by first | exact .inl rfl | exact .inr rfl | assumption) : ES X W (.Assign [.Name x p'] (.Dict [some ke] [ve] dp) pos) (sDic1E i f d) :=
  PS.imp (ps_set hN hi hx (pe_dic1 hr hk hv hshape) hs hf) fun Z σ H ⟨γ, Hk, o, k, e, q⟩ => by
  unfold sDic1E at e
  split at e
  · rename_i kd γ1 ef
    split at e
    · rename_i kk ek
      split at e <;> cases e
      rename_i np
      intro p ob hp hsys ho
      have gr : Grow H Hk (upd H p (dnO p ob)) Hk := ⟨fun b u e => by rw [upd_ne (fun z => by rw [z, hp] at e; cases e)]; exact e, Same.refl _, fun b u e => by
        have := k.sub b u e
        rw [upd_ne (fun z => by rw [z, hp] at this; cases this)]
        exact this, fun b u e n => by rw [n] at e; cases e⟩
      refine ⟨γ, Hk, _, _, k.grow gr, ef, fun v H1 Hk1 g1 r1 => ?_⟩
      obtain ⟨g, h1⟩ := go_beside hp k g1
      obtain ⟨a, rfl⟩ := key_ref r1 ek
      have s1 : Same Hk1 H1 := g1.ok.sub
      refine ⟨h1, a, kd, kk, d, rfl, dp_mono s1 r1, ek, dp_mono s1 (hd Hk1), fun o2 u ru hdo => ?_⟩
      have sm : Same (rmH H1 p) (upd H1 p (dnO p o2)) := fun b w e => by
        have ne : b ≠ p := fun z => by rw [z, rmH_at] at e; cases e
        rw [upd_ne ne]
        exact rmH_sub b w e
      exact q _ _ _ (g.trans (g.ok.setNew sm (.dic upd_same (g.ok.sub.free rmH_at) hdo (.cons ek r1 ru (hd Hk1) .nil) (by simp) hsys (by rw [sizeLine_eq]; simp)) (fun b hb => by rw [List.mem_singleton.mp hb]; exact rmH_at) (noPin_of g.ok (by simpa using np))))
    · cases e
  · cases e
end DN
namespace DN
open PySem PySem.Spec PyProof.Rows L2
/-! ### isinstance(x, T), T one of int, bool, str, list, tuple -/
def tyN : D → Option String
  | .int _ => some "int"
  | .bool _ => some "bool"
  | .str _ => some "str"
  | .list _ => some "list"
  | .tuple _ => some "tuple"
  | _ => none
def isN (T n : String) : Bool := n == T || (n == "bool" && T == "int")
def isiD (T : String) (d : D) : Option D := match tyN d with
  | some n => some (.bool (isN T n))
  | none => none
abbrev tyNs : List String := ["int", "bool", "str", "list", "tuple"]
theorem tyN_mem {d : D} {n : String} (h : tyN d = some n) : n ∈ tyNs := by
  cases d <;> simp [tyN] at h <;> subst h <;> simp
theorem ty_list {K : PySem.W.Frag} {H : Hp} {a : Addr} {xs : List V} (h : SqL K H a xs) : TyX K H (.ref a) (.type "list") := by
  rcases h with (h | ⟨o, h⟩) | ⟨o, its, n, h, c, _⟩
  · exact .base (.lst h)
  · exact .base (.frz h)
  · exact .kList h c
theorem ty_tuple {K : PySem.W.Frag} {H : Hp} {a : Addr} {xs : List V} (h : SqT K H a xs) : TyX K H (.ref a) (.type "tuple") := by
  rcases h with (h | ⟨o, h⟩) | ⟨o, its, n, h, c, _⟩
  · exact .base (.tup h)
  · exact .fTuple h
  · exact .kTuple h c
theorem vw_ty {K : PySem.W.Frag} {H Hk : Hp} {v : V} {d : D} {n : String} (s : Same Hk H) (w : Vw K H Hk v d) (h : tyN d = some n) : TyX K H v (.type n) := by
  rcases w with w | ⟨p, vs, ds, rfl, rfl, hp, _⟩ | ⟨p, o, xs, kvs, rfl, rfl, _⟩
  · cases w with
    | non => simp [tyN] at h
    | bl b => simp [tyN] at h; subst h; exact .base (.bl b)
    | int i => simp [tyN] at h; subst h; exact .base (.int i)
    | str x => simp [tyN] at h; subst h; exact .base (.str x)
    | lst hs _ => simp [tyN] at h; subst h; exact ty_list (sql_mono s hs)
    | tup hs _ => simp [tyN] at h; subst h; exact ty_tuple (sqt_mono s hs)
    | dct _ _ _ _ _ _ => simp [tyN] at h
  · simp [tyN] at h; subst h; exact .base (.lst hp)
  · simp [tyN] at h
@[simp] def fIsi (T : String) (f : Fe) : Fe := fun γ => match f γ with
  | some (d, γ1) => match isiD T d with
    | some r => some (r, γ1)
    | none => none
  | none => none
@[simp] def fIsin (T : String) (i : Nat) : Fe := fun γ => match view γ i with
  | some d => match isiD T d with
    | some r => some (r, γ)
    | none => none
  | none => none
theorem ev_isi {X : Cx} {T : String} {tx : Str} {a : Expr} {f : Fe} {p p2 pos : Pos} (hm : X.mg "isinstance" = none) (hg : Gl X "isinstance") (hm2 : X.mg tx = none) (hg2 : Gl X tx) (hv : bootBuiltins tx = some (.type T)) (ha : EV X a f)
    (hT : ∀ n ∈ tyNs, kitB n T = some (isN T n) := by decide +kernel) (hn : tx ≠ "__name__" := by decide) (hdb : (tx == ("__debug__" : Str)) = false := by decide)
    (he1 : starEach [.Name tx p2] X.env = (false, eval (.Name tx p2) X.env) :: starEach [] X.env := by rfl)
    (he : starEach [a, .Name tx p2] X.env = (false, eval a X.env) :: starEach [.Name tx p2] X.env := by rfl) (hpl : (backTo pos (starEach [.Name tx p2] X.env)).any (·.1) = false := by rfl) :
    EV X (.Call (.Name "isinstance" p) [a, .Name tx p2] [] pos) (fIsi T f) :=
  PE.imp (pe_callB call_isi hg hm PyProof.Rows.boot_isinstance (pa_cons ha (pa_cons (pe_bltn (v := .ty T) hg2 hm2 hv rfl hn hdb) pa_nil he1) he) (he := he) (hpl := hpl)) fun σ H Q ⟨γ, Hk, d, γ2, o, ee, q⟩ => by
  unfold fIsi isiD at ee
  split at ee
  · rename_i x γ1 ef
    split at ee
    · rename_i r er
      cases ee
      split at er <;> cases er
      rename_i n en
      refine ⟨γ, Hk, x, _, o, ef, fun v H1 Hk1 g1 r1 => ?_⟩
      exact ⟨v, .ty T, .type n, .type T, isN T n, rfl, .ty T, vw_ty g1.ok.sub (.inl r1) en, kit_ty (hT n (tyN_mem en)), q _ H1 Hk1 g1 (.bl _)⟩
    · cases ee
  · cases ee
theorem ev_isin {X : Cx} {T : String} {tx : Str} {a : Expr} {i : Nat} {p p2 pos : Pos} (hm : X.mg "isinstance" = none) (hg : Gl X "isinstance") (hm2 : X.mg tx = none) (hg2 : Gl X tx) (hv : bootBuiltins tx = some (.type T)) (ha : PE X a (tVar i))
    (hT : ∀ n ∈ tyNs, kitB n T = some (isN T n) := by decide +kernel) (hn : tx ≠ "__name__" := by decide) (hdb : (tx == ("__debug__" : Str)) = false := by decide)
    (he1 : starEach [.Name tx p2] X.env = (false, eval (.Name tx p2) X.env) :: starEach [] X.env := by rfl)
    (he : starEach [a, .Name tx p2] X.env = (false, eval a X.env) :: starEach [.Name tx p2] X.env := by rfl) (hpl : (backTo pos (starEach [.Name tx p2] X.env)).any (·.1) = false := by rfl) :
    EV X (.Call (.Name "isinstance" p) [a, .Name tx p2] [] pos) (fIsin T i) :=
  PE.imp (pe_callB call_isi hg hm PyProof.Rows.boot_isinstance (pa_cons ha (pa_cons (pe_bltn (v := .ty T) hg2 hm2 hv rfl hn hdb) pa_nil he1) he) (he := he) (hpl := hpl)) fun σ H Q ⟨γ, Hk, d, γ2, o, ee, q⟩ => by
  unfold fIsin isiD at ee
  split at ee
  · rename_i x ef
    split at ee
    · rename_i r er
      cases ee
      split at er <;> cases er
      rename_i n en
      obtain ⟨v, e1, w⟩ := o.view ef
      exact ⟨v, e1, v, .ty T, .type n, .type T, isN T n, rfl, .ty T, vw_ty o.sub w en, kit_ty (hT n (tyN_mem en)), q _ H Hk (Go.refl o) (.bl _)⟩
    · cases ee
  · cases ee
example : ∀ n ∈ tyNs, kitB n "tuple" = some (isN "tuple" n) := by decide +kernel
example : ∀ n ∈ tyNs, kitB n "int" = some (isN "int" n) := by decide +kernel
example : ∀ n ∈ tyNs, kitB n "str" = some (isN "str" n) := by decide +kernel
example : ∀ n ∈ tyNs, kitB n "list" = some (isN "list" n) := by decide +kernel
example : ∀ n ∈ tyNs, kitB n "bool" = some (isN "bool" n) := by decide +kernel
end DN
namespace DN
open PySem PySem.Spec PyProof.Rows L2
section
variable {W : WX} {X : Cx}
/-! ### xs.extend(a new list) -/
def sExt (i : Nat) (fl : Fa) : Fs := fun γ => match gt γ i with
  | some (.ow _ (.lst _)) => match fl γ with
    | some (ds, γ1) => match gt γ1 i with
      | some (.ow b (.lst es)) => if okN (es.length + ds.length) then some (.nx (γ1.set i (some (.own b (es ++ ds))))) else none
      | _ => none
    | none => none
  | _ => none
theorem es_ext (i : Nat) {a e : Expr} {fl : Fa} {apos cpos pos : Pos} (ho : PE X a (tVar i)) (he : EL X e fl)
    (b1 : attributeBase a "extend" X.env (eval a X.env) = eval a X.env := by rfl)
    (f1' : ((backTo cpos (starEach [e] X.env)).all (fun x => !x.1) && (backToKw cpos (keywordEach [] X.env)).all (fun x => x.1.isSome) && decide ([e].length + ([] : List Keyword).length + (if ([] : List Keyword).isEmpty then 0 else 1) < 30)) = true := by rfl)
    (l1 : (apos.endLine == cpos.line) = true := by rfl) (s1 : starEach [e] X.env = (false, eval e X.env) :: starEach [] X.env := by rfl) (p1 : (backTo cpos (starEach [] X.env)).any (·.1) = false := by rfl)
    (sw : swapsWith (.Call (.Attribute a "extend" apos) [e] [] cpos) none pos.line X.env = pure false := by rfl) :
    ES X W (.Expr (.Call (.Attribute a "extend" apos) [e] [] cpos) pos) (sExt i fl) :=
  PS.imp (ps_expr (pe_meth PySem.F.plainAttrs_list PySem.F.slot_list_extend PySem.F.type_list_extend mt_extend ho (pa_cons he pa_nil s1) b1 f1' l1 s1 p1) sw) fun Z σ H ⟨γ, Hk, o, k, e, q⟩ => by
  unfold sExt at e
  split at e
  · rename_i b0 ds0 e0
    split at e
    · rename_i ds γ1 ef
      split at e
      · rename_i b es eo
        split at e <;> cases e
        rename_i c
        obtain ⟨p, vs0, e1, hp0, _⟩ := k.own i _ _ e0
        refine ⟨_, e1, lst_ty hp0, γ, Hk, ds, γ1, k, ef, fun l vs H1 Hk1 g1 hl rl => ?_⟩
        obtain ⟨p', ws, e2, hp, _, ra⟩ := g1.ok.own i _ _ eo
        rw [e1] at e2
        cases e2
        have lp : p ≠ l := ne_of_none hp hl
        have g2 : Go X.K σ H1 Hk1 γ1 σ (upd H1 l (.lst vs)) Hk1 γ1 := g1.ok.go (Grow.newH g1.ok.sub hl)
        refine ⟨p, l, ws, vs, rfl, rfl, by rw [upd_ne lp]; exact hp, upd_same, by rw [dps_len ra, dps_len rl]; exact okN_line c, ?_⟩
        exact q _ _ _ ((g1.trans g2).trans (g2.ok.write eo e1 (dps_app ra rl)))
      · cases e
    · cases e
  · cases e
end
end DN
namespace DN
open PySem PySem.Spec PyProof.Rows L2
/-! ### an own exception whose __init__ says super().__init__(f'..') and keeps one field -/
/-- the context of a method that closes over its class -/
def cxS (CX : CXT) (P : Program) (w : World) (K : PySem.W.Frag) (mg : Str → Option Value) (base : Heap) (N : List Str) (qual : Str) (scope : Scope) (f : Addr) (cd : Value) (cc : Addr) (A : Around) (outer : List Env) (s : Shared) (H : Hp) (E : XK) : Cx where
  prog := P
  w := w
  K := K
  mg := mg
  base := base
  A := A.deeper (PySem.W.ksEnv qual scope s.heap.objs.size f cd cc)
  N := N
  s_0 := s
  H_0 := H
  env := PySem.W.ksEnv qual scope s.heap.objs.size f cd cc
  outer := outer
  stack := PySem.W.ksEnv qual scope s.heap.objs.size f cd cc :: outer
  ex := []
  calm := true
  fn := fun _ => false
  pn := []
  xe := fun e s' => wpAny (model P w) (A.deeper (PySem.W.ksEnv qual scope s.heap.objs.size f cd cc)) (leaving (PySem.W.ksEnv qual scope s.heap.objs.size f cd cc) e) (fun _ s'' => CX outer H s E e s'') (fun e' s'' => CX outer H s E e' s'') s'
/-- what the scope of such a method says -/
structure InitScope (r : Str) (sc : Scope) : Prop where
  kind : sc.kind = .function
  co : sc.isCoroutine = false
  gen : sc.isGenerator = false
  cell : ∀ x ∈ sc.names, x.2 ≠ .cell
  free : ∀ x ∈ sc.names, x.2 = .free → x.1 = ("__class__" : Str)
  l0 : sc.names.lookup ("self" : Str) = some .local
  l1 : sc.names.lookup r = some .local
  ks : sc.names.lookup ("super" : Str) = some .globalImplicit
  kc : sc.names.lookup ("__class__" : Str) = some .free
  ne : r ≠ ("self" : Str)
/-- what the written part says of the class at C (its __init__ at f, code at cda, cell at cc) -/
structure InitC (P : Program) (K : PySem.W.Frag) (C : Addr) (cda cc : Addr) : Prop where
  oex : OexC K C
  sup : PySem.W.ks_superIn K C C "__init__" = some (some (.builtin "ValueError.__init__"))
  opq : PySem.W.nsIn K cStatics "thirdparty.any" = some none
  mro : PySem.W.mroIn K C (.ref C) = some true
  sub : PySem.W.subIn K (.ref C) (.type "ValueError") = some true
  cda : ∃ ccl cdd vs ccs file tf, K.lookup cda = some ⟨ccl, cdd, .fields vs, ccs⟩ ∧ vs[2]? = some (.str file tf) ∧ ((P.main.file : Str) == file) = true
  cc : ∃ cl cld csl, K.lookup cc = some ⟨cl, cld, .cell (some (.ref C)), csl⟩
  top : (P.main.scope.names.lookup ("super" : Str)).isSome = false
section
variable {P : Program} {w : World} {K : PySem.W.Frag} {mg : Str → Option Value} {base : Heap}
theorem inv_startS {CX : CXT} {r qual : Str} {scope : Scope} {f C cda cc : Addr} {A : Around} {outer : List Env} {s : Shared} {h0 : Heap} {tk : Nat} {H : Hp} {E : XK} {u1 u2 : Value} {v1 v2 : V}
    (S : InitScope r scope) (IC : InitC P K C cda cc) (hd : A.handled = none) (e0 : Env0 P w K mg base A outer s H) (r1 : RelV v1 u1) (r2 : RelV v2 u2)
    (hns : h0.Ns s.heap.objs.size (fun x => [(("self" : Str), u1), (r, u2)].reverse.lookup x)) (hk : ∀ b o, s.heap.get? b = some o → h0.get? b = some o) :
    Inv (cxS CX P w K mg base ["self", r] qual scope f (.ref cda) cc A outer s H E) [] [some v1, some v2] H { s with heap := h0, toks := tk } := by
  obtain ⟨cl, cld, csl, hcc⟩ := IC.cc
  have hb : base.get? cc = some ⟨cl, cld, .cell (some (.ref C)), csl⟩ := e0.mod.kin _ _ hcc
  have hcells : ∀ x c, ([("__class__", cc)] : List (Str × Addr)).lookup x = some c → x = ("__class__" : Str) ∧ c = cc := fun x c h => by
    rw [List.lookup_cons] at h
    split at h
    · rename_i e; cases h; exact ⟨by simpa using e, rfl⟩
    · cases h
  have noA : ∀ b : Addr, b ∉ (cxS CX P w K mg base ["self", r] qual scope f (.ref cda) cc A outer s H E).ex := fun b z => absurd (show b ∈ ([] : List Addr) from z) (by simp)
  refine ⟨⟨e0.mod, S.kind, rfl, rfl, Nat.le_refl _, fun x y c h1 h2 => (hcells x c h1).1.trans (hcells y c h2).1.symm, fun x hx => ?_, fun y c h _ => (by cases h), fun _ => hd, Around.frames_deeper e0.frames, .inr ⟨rfl, rfl⟩, fun b z => absurd z (noA b), e0.bs, e0.bsz, fun b _ _ => noA b, fun b z => absurd z (noA b), e0.funs, e0.frf⟩,
    rfl, e0.bare, Un.kept hk, ⟨_, hns, fun i y v h1 h2 h3 => ?_⟩, fun x c h => ?_, e0.hok.fresh (Nat.le_refl _), fun x c h => ?_, fun p hp => absurd (show p ∈ ([] : List (Addr × Obj)) from hp) (by simp), e0.hok.kept hk, rfl⟩
  · have hx : scope.names.lookup x = some .cell ∨ scope.names.lookup x = some .free := hx
    rcases hx with hx | hx
    · exact absurd rfl (S.cell _ (PySem.mem_of_lookup hx))
    · have e := S.free _ (PySem.mem_of_lookup hx) rfl
      exact ⟨cc, by rw [show x = _ from e]; show List.lookup _ [(_, cc)] = some cc; simp [List.lookup]⟩
  · match i, h1, h2 with
    | 0, h1, h2 =>
      cases h1; cases h2
      refine ⟨u1, r1, .inl ⟨S.l0, ?_⟩⟩
      show List.lookup _ [(r, u2), (_, u1)] = some u1
      have : (("self" : Str) == r) = false := by simpa using S.ne.symm
      simp [List.lookup, this]
    | 1, h1, h2 =>
      cases h1; cases h2
      refine ⟨u2, r2, .inl ⟨S.l1, ?_⟩⟩
      show List.lookup _ [(r, u2), (_, u1)] = some u2
      simp [List.lookup]
    | n + 2, h1, h2 => exact absurd h1 (by show ¬ ([] : List Str)[n]? = some y; simp)
  · obtain ⟨_, rfl⟩ := hcells x c h
    exact ⟨_, _, hk _ _ (e0.bs _ _ hb).1, rfl⟩
  · obtain ⟨_, rfl⟩ := hcells x c h
    exact (e0.bs _ _ hb).2
/-! ### super().__init__(e) -/
theorem sup_ok {CX : CXT} {r qual : Str} {scope : Scope} {f C cda cc a : Addr} {A : Around} {outer : List Env} {s0 : Shared} {H0 H : Hp} {E : XK} {s : Shared} {σ : L2.St}
    {oc : Value} {od : Option Addr} {osl : Array (Option Value)} {params : Arguments} {body : List Stmt} {dV kV doc pm ct : Value} {an : Option Addr} {name : Str} {ar : Arg} {p0 p1 p2 p3 : Pos} {e : Expr} {te : TE} {Q : Value → Shared → Prop} {b2 : List Stmt} {pl : Sem Bool}
    (S : InitScope r scope) (IC : InitC P K C cda cc) (hm : mg "super" = none) (lk : K.lookup f = some ⟨oc, od, .func (PySem.W.ksFn name qual params body scope dV kV doc pm an (.ref cda) ct cc), osl⟩)
    (hp : (params.posonlyargs ++ params.args).head? = some ar) (har : ar.arg = ("self" : Str))
    (he : PE (cxS CX P w K mg base ["self", r] qual scope f (.ref cda) cc A outer s0 H0 E) e te)
    (I : Inv (cxS CX P w K mg base ["self", r] qual scope f (.ref cda) cc A outer s0 H0 E) [] σ H s) (hσ : σ[0]? = some (some (.ref a))) (hH : H a = some (exo a C none))
    (hte : ∀ (H : Hp) (Q : VK), (∀ x, Q x H) → te σ H Q)
    (q : ∀ s', Inv (cxS CX P w K mg base ["self", r] qual scope f (.ref cda) cc A outer s0 H0 E) [] σ H s' → Q .none s')
    (hst : starEach [e] (PySem.W.ksEnv qual scope s0.heap.objs.size f (.ref cda) cc) = (false, eval e (PySem.W.ksEnv qual scope s0.heap.objs.size f (.ref cda) cc)) :: starEach [] (PySem.W.ksEnv qual scope s0.heap.objs.size f (.ref cda) cc) := by rfl)
    (hev : eval (.Call (.Attribute (.Call (.Name "super" p0) [] [] p1) "__init__" p2) [e] [] p3) (PySem.W.ksEnv qual scope s0.heap.objs.size f (.ref cda) cc) = (do
      let ov ← attributeBase (.Call (.Name "super" p0) [] [] p1) "__init__" (PySem.W.ksEnv qual scope s0.heap.objs.size f (.ref cda) cc) (eval (.Call (.Name "super" p0) [] [] p1) (PySem.W.ksEnv qual scope s0.heap.objs.size f (.ref cda) cc))
      standAt p2.atName
      let (f', first) ← holding [ov] (getMethod ov "__init__" pl)
      callWith p3 f' first (backTo p3 (starEach [e] (PySem.W.ksEnv qual scope s0.heap.objs.size f (.ref cda) cc))) []) := by rfl) :
    _root_.PySem.wpAt (model P w) (A.deeper (PySem.W.ksEnv qual scope s0.heap.objs.size f (.ref cda) cc)) (.func b2 (PySem.W.ksEnv qual scope s0.heap.objs.size f (.ref cda) cc))
      (eval (.Call (.Attribute (.Call (.Name "super" p0) [] [] p1) "__init__" p2) [e] [] p3) (PySem.W.ksEnv qual scope s0.heap.objs.size f (.ref cda) cc)) Q
      (cxS CX P w K mg base ["self", r] qual scope f (.ref cda) cc A outer s0 H0 E).xe s := by
  obtain ⟨ccl, cdd, vs, ccs, file, tf, hcda, hvs, hfile⟩ := IC.cda
  obtain ⟨cl, cld, csl, hcc⟩ := IC.cc
  have KX : K.In s.heap := I.kIn
  have T := IC.oex
  obtain ⟨nm, qn, N, bs, bm, sn, sub, ab, col, dd, k0, k1, k2, k3, k5, hC, hbm⟩ := T.cls
  obtain ⟨t1, ho⟩ := exo_at I.hok hH
  refine ks_wpAt_MethodCall ?_ hev
  refine ks_wpAt_super_base (env := PySem.W.ksEnv qual scope s0.heap.objs.size f (.ref cda) cc) S.ks S.kc (by decide) rfl (KX _ _ lk) rfl hp rfl (KX _ _ hcda) rfl hvs hfile IC.top ?_
  obtain ⟨mb, hb1, hb2⟩ := I.mod.blt
  refine PySem.W.ks_loadName_global S.kind S.ks (Calls.loadGlobal_builtin (env := PySem.W.ksEnv qual scope s0.heap.objs.size f (.ref cda) cc) (I.mod.glob.keeps I.bk) hm (hb1.keeps I.bk) ((hb2 _ (by decide)).trans (by boot_by_name)) ⟨rfl, ?_⟩)
  refine wpAny_loadName_free S.kind S.kc rfl ⟨_, KX _ _ hcc, rfl⟩ ?_
  obtain ⟨m, hn, hl⟩ := I.loc
  obtain ⟨u, ru, hu⟩ := hl 0 "self" (.ref a) rfl hσ (.inl S.l0)
  have hu : m "self" = some (.ref a) := by
    obtain rfl : u = Value.ref a := ru
    rcases hu with ⟨_, hu⟩ | ⟨hk, _⟩
    · exact hu
    · have hk : scope.names.lookup ("self" : Str) = some .cell ∨ scope.names.lookup ("self" : Str) = some .free := hk
      rw [S.l0] at hk
      rcases hk with hk | hk <;> cases hk
  rw [har]
  refine wpAny_loadName_local S.kind S.l0 hn hu ?_
  refine ks_wpAny_isType_cls (KX _ _ hC) rfl ⟨rfl, ?_⟩
  obtain ⟨h, g, d, t, os⟩ := s
  refine ks_wpAny_call_super (KX _ _ hC) rfl ho rfl (fun c z => by cases z) (PySem.W.looks_mroIn KX IC.mro) fun h1 hso k1 => ?_
  have I1 := I.kept (t' := t) k1
  have KX1 : K.In h1 := KX.keeps k1
  have hxC : a ≠ C := by
    rintro rfl
    have z := (KX _ _ hC).symm.trans ho
    cases z
  have hI : PySem.W.Looks (model P w) h1 (isInstance (.ref a) (.type "ValueError")) true :=
    (PySem.W.InstAt.type (M := model P w) (od := none) (⟨k1 _ _ ho, rfl, rfl, trivial⟩ : PySem.W.InstAt h1 a _ C none)).andThen (PySem.W.looks_subIn KX1 IC.sub)
  have hsup : ∃ cd, PySem.W.clsIn K C = some cd ∧ PySem.W.alongIn K "__init__" ((cd.mro.dropWhile (· != .ref C)).drop 1) = some (some (.builtin "ValueError.__init__")) := by
    have z := IC.sup
    unfold PySem.W.ks_superIn at z
    exact Option.bind_eq_some_iff.mp z
  obtain ⟨cd, hcd, hal⟩ := hsup
  refine PySem.W.kxs_getMethod PySem.W.kxs_ValueError hso (PySem.W.looks_opaque KX1 IC.opq) (l₀ := cd.mro) ((PySem.W.looks_clsIn KX1 hcd).andThen .now) rfl KX1 hal hI hxC (by decide) ?_
  have k2 : ∀ b o, h1.get? b = some o → (h1.push (PySem.W.kxs_mw "ValueError.__init__" a)).get? b = some o := fun b o e => Heap.get?_push_of_some _ e
  have I2 := I1.kept (t' := t + 1) k2
  have hu : (h1.push (PySem.W.kxs_mw "ValueError.__init__" a)).get? h1.objs.size = some (PySem.W.kxs_mw "ValueError.__init__" a) := Heap.get?_push_at rfl rfl
  have hnu : H h1.objs.size = none := I1.hok.fresh (Nat.le_refl _)
  have I3 := I2.pins_of (pins' := [(h1.objs.size, PySem.W.kxs_mw "ValueError.__init__" a)]) fun p hp => by
    obtain rfl := List.mem_singleton.mp hp
    refine ⟨hu, hnu, fun z => ?_, fun z => ?_, fun v z => by cases z⟩
    · have y := I1.lt
      have z : h1.objs.size = (cxS CX P w K mg base ["self", r] qual scope f (.ref cda) cc A outer s0 H0 E).env.locals := z
      rw [← z] at y
      exact absurd y (Nat.lt_irrefl _)
    · have y := (I.ok.funs.mem z).2
      obtain ⟨o', e', _⟩ := y
      have y2 := Nat.lt_of_lt_of_le (Heap.lt_size e') I1.sz
      exact absurd y2 (Nat.lt_irrefl _)
  rw [hst]
  refine PySem.W.kxs_callWith (i := "ValueError.__init__") (x := a) (by rfl) (Calls.evalArgs_plain ?_)
  have ha := pa_cons (hs := hst) he pa_nil
  have hrun : wpAny (model P w) (A.deeper (PySem.W.ksEnv qual scope s0.heap.objs.size f (.ref cda) cc)) (spliced (backTo p3 (starEach [e] (PySem.W.ksEnv qual scope s0.heap.objs.size f (.ref cda) cc)))) _ _ _ := ha.run p3 _ _ σ H (fun vs H1 => H1 = H ∧ vs.length = 1) I3 (hte _ _ fun x => ⟨rfl, rfl⟩)
  rw [hst] at hrun
  refine thn hrun fun us s4 ⟨vs', H4, I4, rv, e4, hl4⟩ => ?_
  subst e4
  obtain ⟨hu4, _⟩ := I4.pin _ (List.mem_append_right _ (List.mem_singleton.mpr rfl))
  refine ⟨hu4, ?_⟩
  obtain ⟨t4, ho4⟩ := exo_at I4.hok hH
  have hC4 := I4.kIn _ _ hC
  have hz : us.length ≤ sizeLine := by
    rw [← Paired.length rv, hl4, sizeLine_eq]
    decide
  obtain ⟨hp4, g4, d4, tk4, os4⟩ := s4
  refine wpAny_call (codeAny_of_tree ?_)
  show wpAny _ _ (callAny (.ref h1.objs.size) ⟨us, []⟩) _ _ _
  simp only [callAny]
  refine wpAny_bind (wpAny_load hu4 ?_)
  simp only [PySem.W.kxs_mw, show (Value.type "method-wrapper" == Value.type "method" || Value.type "method-wrapper" == Value.type "builtin_function_or_method" || Value.type "method-wrapper" == Value.type "method-wrapper") = true by decide, if_true]
  refine PySem.W.KFB.if_so (by decide) ?_
  refine wpAny_bind (PySem.W.check_bound_init F.excBase_ValueError.toExcCallFacts hC4 ho4 rfl ?_)
  refine wpAny_bind (wpAny_pure (wpAny_pure ?_))
  refine ⟨plainId_quiet F.excBase_ValueError.init.plain _, codeAny_builtin F.excBase_ValueError.initEntry ?_⟩
  refine PySem.W.exc_init_tree (cls := .ref C) (t0 := t4) (dv := none) (c2 := .none) (c3 := .none) (b4 := .bool false) ho4 hz fun h' k hx _ => ?_
  have J := I4.write (t' := tk4) (x := a) (e := a) (o := exo a C none) (by rw [hH]; exact True.intro) (.inl rfl) k ⟨_, hx⟩ (exo_ok hx)
  have eu : upd H4 a (exo a C none) = H4 := by
    funext b
    by_cases hb : b = a
    · rw [hb, upd_same, hH]
    · rw [upd_ne hb]
  rw [eu] at J
  exact q _ ⟨J.ok, J.os, J.bare, J.base, J.loc, J.cell, J.free, J.freeC, fun p hp => absurd (show p ∈ ([] : List (Addr × Obj)) from hp) (by simp), J.hok, J.len⟩
/-- a value that can be told in the message -/
def TellV (v : V) : Prop := (∃ y : Str, v = .str y ∧ y.length ≤ 1000000) ∨ ∃ i : Int, v = .int i ∧ i.natAbs.log2 < 1920
def spInit (K : PySem.W.Frag) (C : Addr) (fld : Str) : Sp := fun vs H Q _ => ∃ (a : Addr) (v : V), vs = [.ref a, v] ∧ H a = some (exo a C none) ∧ TellV v ∧ ∀ dx, H dx = none → dx ≠ a → Q .non (upd (upd H dx (exd dx [(fld, v)])) a (exo a C (some dx)))
theorem fn_exinit {r qual : Str} {scope : Scope} {f C cda cc : Addr} {oc : Value} {od : Option Addr} {osl : Array (Option Value)} {params : Arguments} {dV kV doc pm ct : Value} {an : Option Addr} {name fld z : Str} {ar : Arg}
    {p0 p1 p2 p3 p4 p5 p6 p7 p8 q1 q2 q3 q4 : Pos} {kd k : Nat}
    (S : InitScope r scope) (IC : InitC P K C cda cc) (hno : PySem.W.findIn K (.ref C) fld = some none) (hm : mg "super" = none) (hcd : PySem.W.codeIn K (.ref cda) qual = true) (hz : z.length ≤ 1000)
    (lk : K.lookup f = some ⟨oc, od, .func (PySem.W.ksFn name qual params [.Expr (.Call (.Attribute (.Call (.Name "super" p0) [] [] p1) "__init__" p2) [.JoinedStr [.Constant (.str z) kd p4, .FormattedValue (.Name r p5) (-1) none p6] p7] [] p3) p8, .Assign [.Attribute (.Name "self" q1) fld q2] (.Name r q3) q4] scope dV kV doc pm an (.ref cda) ct cc), osl⟩)
    (hp : (params.posonlyargs ++ params.args).head? = some ar) (har : ar.arg = ("self" : Str)) (hrd : (r == ("__debug__" : Str)) = false) (hrc : (r == ("__classdict__" : Str)) = false)
    {pl : Addr → Sem Bool} (hev : ∀ L : Addr, eval (.Call (.Attribute (.Call (.Name "super" p0) [] [] p1) "__init__" p2) [.JoinedStr [.Constant (.str z) kd p4, .FormattedValue (.Name r p5) (-1) none p6] p7] [] p3) (PySem.W.ksEnv qual scope L f (.ref cda) cc) = (do
      let ov ← attributeBase (.Call (.Name "super" p0) [] [] p1) "__init__" (PySem.W.ksEnv qual scope L f (.ref cda) cc) (eval (.Call (.Name "super" p0) [] [] p1) (PySem.W.ksEnv qual scope L f (.ref cda) cc))
      standAt p2.atName
      let (f', first) ← holding [ov] (getMethod ov "__init__" (pl L))
      callWith p3 f' first (backTo p3 (starEach [.JoinedStr [.Constant (.str z) kd p4, .FormattedValue (.Name r p5) (-1) none p6] p7] (PySem.W.ksEnv qual scope L f (.ref cda) cc))) [])) :
    FnOk P w K mg base (L2.CX P w) (k + 1) f (PySem.W.ksFn name qual params [.Expr (.Call (.Attribute (.Call (.Name "super" p0) [] [] p1) "__init__" p2) [.JoinedStr [.Constant (.str z) kd p4, .FormattedValue (.Name r p5) (-1) none p6] p7] [] p3) p8, .Assign [.Attribute (.Name "self" q1) fld q2] (.Name r q3) q4] scope dV kV doc pm an (.ref cda) ct cc) ["self", r] (spInit K C fld) := by
  refine ⟨fun vs H Q E ⟨a, v, e, _⟩ => by subst e; rfl, fun A outer s H args us vs Q E hr e0 hb rv sp => ?_⟩
  obtain ⟨a, v, rfl, hH, gv, post⟩ := sp
  cases rv with
  | @cons _ u1 _ ur r1 rr =>
  cases rr with
  | @cons _ u2 _ ur2 r2 rr2 =>
  cases rr2
  have KX : K.In s.heap := e0.mod.kin.keeps fun b o e => (e0.bs b o e).1
  have lim : s.heap.NoLimit := e0.mod.nolimit.keeps fun b o e => (e0.bs b o e).1
  refine ks_codeAny_call_defAt hr.depth (KX _ _ lk) rfl lim (PySem.W.codeRec_of KX hcd) rfl hb S.cell (fun x hx => ?_) (fun h0 hns hk => ?_) S.co S.gen S.kind
  · rcases List.mem_cons.mp hx with rfl | hx
    · exact S.l0
    · rcases List.mem_cons.mp hx with rfl | hx
      · exact S.l1
      · cases hx
  have I0 := inv_startS (P := P) (w := w) (K := K) (mg := mg) (base := base) (CX := L2.CX P w) (qual := qual) (f := f) (E := E) (tk := s.toks + ([(("self" : Str), u1), (r, u2)] : List (Str × Value)).length) S IC hr.hd e0 r1 r2 hns hk
  have hσ : ([some (.ref a), some v] : L2.St)[0]? = some (some (.ref a)) := rfl
  let X := cxS (L2.CX P w) P w K mg base ["self", r] qual scope f (.ref cda) cc A outer s H E
  have pj : PJ X [.Constant (.str z) kd p4, .FormattedValue (.Name r p5) (-1) none p6] [tC (.str z), tFmt (tVar 1)] := .cons pe_str (.cons (pe_fmt (pe_var (i := 1) rfl (.inl S.l1) hrd hrc)) .nil)
  have he : PE X (.JoinedStr [.Constant (.str z) kd p4, .FormattedValue (.Name r p5) (-1) none p6] p7) (fun σ H Q => tJs [tC (.str z), tFmt (tVar 1)] Str.empty σ H fun out H1 => Q (.str out) H1) := pe_joined pj
  have zl : ∀ y : Str, y.length ≤ 1000000 → ((Str.empty ++ z) ++ y).length ≤ sizeLine := fun y hy => by
    have e1 : ((Str.empty ++ z) ++ y).length = Str.empty.length + z.length + y.length := by rw [Str.length_append, Str.length_append]
    rw [e1, sizeLine_eq]
    have : Str.empty.length = 0 := rfl
    omega
  have hte : ∀ (H : Hp) (Q : VK), (∀ x, Q x H) → (fun σ H Q => tJs [tC (.str z), tFmt (tVar 1)] Str.empty σ H fun out H1 => Q (.str out) H1 : TE) [some (.ref a), some v] H Q := fun H Q hQ => by
    refine ⟨z, rfl, ?_, ?_⟩
    · have e1 : (Str.empty ++ z).length = Str.empty.length + z.length := Str.length_append _ _
      rw [e1, sizeLine_eq]
      have : Str.empty.length = 0 := rfl
      omega
    · refine ⟨v, rfl, ?_⟩
      rcases gv with ⟨y, rfl, hy⟩ | ⟨i, rfl, hi⟩
      · exact .inl ⟨y, rfl, by rw [sizeLine_eq]; omega, y, rfl, zl y hy, hQ _⟩
      · exact .inr ⟨i, rfl, hi, _, rfl, zl _ (Nat.le_trans (int_text_len_1921 hi) (by decide)), hQ _⟩
  refine ks_wpAt_execs_cons (ks_wpAt_Expr_any (sup_ok (r := r) (te := fun σ H Q => tJs [tC (.str z), tFmt (tVar 1)] Str.empty σ H fun out H1 => Q (.str out) H1) S IC hm lk hp har he I0 hσ hH hte (fun s1 I1 => ?_) rfl (hev _)) (by show interactive (PySem.W.ksEnv qual scope s.heap.objs.size f (.ref cda) cc) = false; simp [interactive, S.kind]))
  refine wpAt_of_wpAny ?_
  have ps : PSs X [.Assign [.Attribute (.Name "self" q1) fld q2] (.Name r q3) q4] (tOst K fld (tVar 0) (tVar 1)) := pss_one (ps_ost (pe_var (i := 0) rfl (.inl S.l0)) (pe_var (i := 1) rfl (.inl S.l1) hrd hrc))
  refine wpAny_mono (ps.run [] s1 _ H { nx := fun _ H' => Q .non H', rt := Q } I1 ⟨v, rfl, .ref a, rfl, a, C, rfl, IC.oex, hno, .inl ⟨hH, fun dx n ne => post dx n ne⟩⟩) (fun fl s' hs => ?_) fun e s' hs => hs
  have fin : ∀ {σ' : L2.St} {H' : Hp} {v : V} {u : Value}, Inv X [] σ' H' s' → RelV v u → Q v H' → CE outer P w H s Q u s' := fun {σ' H' v u} J rv q => ⟨v, H', J.os, J.bare, J.base, J.hok, rv, q⟩
  cases fl with
  | ret u =>
    obtain ⟨v, σ', H', J, rv, q⟩ := hs
    exact fin J rv q
  | next =>
    obtain ⟨σ', H', J, q⟩ := hs
    exact fin (v := V.non) (u := Value.none) J rfl q
  | brk =>
    obtain ⟨_, _, _, q⟩ := hs
    exact q.elim
  | cont =>
    obtain ⟨_, _, _, q⟩ := hs
    exact q.elim
end
end DN
namespace DN
open PySem PySem.Spec PyProof.Rows L2
/-! ### own exceptions, as the written part has them -/
def oexB (K : PySem.W.Frag) (C : Addr) : Bool := match K.lookup C with
  | some ⟨.type "type", _, .cls cd, sl⟩ => (match cd.mro, sl.toList with
    | .ref C' :: bm, [_, _, _, _, some (.builtin n), _] => C' == C && n == "ValueError.__new__" && !cd.hasDel && cd.hasDict && PySem.HandSPX.refsVE bm
    | _, _ => false)
  | _ => false
theorem oexB_ok {K : PySem.W.Frag} {C : Addr} (q : oexB K C = true) : ∃ nm qn N bs bm sn sub ab col dd k0 k1 k2 k3 k5, K.lookup C = some (excClassObj nm qn C N bs bm true sn sub ab col dd k0 k1 k2 k3 k5 "ValueError.__new__") ∧ PySem.HandSPX.refsVE bm = true := by
  unfold oexB at q
  split at q
  · rename_i dd cd sl ho
    split at q
    · rename_i C' bm k0 k1 k2 k3 n k5 hm hs
      simp only [Bool.and_eq_true, beq_iff_eq, Bool.not_eq_true'] at q
      obtain ⟨⟨⟨⟨rfl, rfl⟩, hdel⟩, hdic⟩, ht⟩ := q
      obtain ⟨nm, bs, mro, ns, qn, hd, sn, sub, ab, col, del⟩ := cd
      dsimp only at hm hdel hdic
      subst hm hdel hdic
      have hsl : sl = #[k0, k1, k2, k3, some (.builtin "ValueError.__new__"), k5] := by
        obtain ⟨l⟩ := sl
        simp only at hs
        rw [hs]
      subst hsl
      exact ⟨nm, qn, ns, bs, bm, sn, sub, ab, col, dd, k0, k1, k2, k3, k5, ho, ht⟩
    · cases q
  · cases q
def cdaB (P : Program) (K : PySem.W.Frag) (cda : Addr) : Bool := match K.lookup cda with
  | some ⟨_, _, .fields vs, _⟩ => (match (vs[2]? : Option Value) with
    | some (.str file _) => (P.main.file : Str) == file
    | _ => false)
  | _ => false
def ccB (K : PySem.W.Frag) (cc C : Addr) : Bool := match K.lookup cc with
  | some ⟨_, _, .cell (some (.ref D)), _⟩ => D == C
  | _ => false
def clsFactsB (K : PySem.W.Frag) (C : Addr) : Bool := decide (PySem.W.findIn K (.ref C) "__class__" = some (some (.builtin "object.__class__"))) && (decide (PySem.W.specialIn K (.builtin "object.__class__") "__get__" = some (some (.builtin "getset_descriptor.__get__"))) && (decide (PySem.W.takesIn K (.builtin "object.__class__") = some true) && decide (PySem.W.mroIn K C (.type "object") = some true)))
def excB (P : Program) (K : PySem.W.Frag) (C fI cda cc : Addr) (fld : Str) : Bool :=
  oexB K C && (xfB K C && (decide (PySem.W.findIn K (.ref C) "__setattr__" = some (some (.builtin "object.__setattr__"))) && (decide (PySem.W.typeIn K (.ref C) = some (.type "type")) && (PySem.W.keepIn K (.ref C) && (decide (PySem.W.ks_superIn K C C "__init__" = some (some (.builtin "ValueError.__init__"))) &&
  (decide (PySem.W.nsIn K cStatics "thirdparty.any" = some none) && (decide (PySem.W.mroIn K C (.ref C) = some true) && (decide (PySem.W.subIn K (.ref C) (.type "ValueError") = some true) && (cdaB P K cda && (ccB K cc C && (!(P.main.scope.names.lookup ("super" : Str)).isSome && (decide (PySem.W.findIn K (.ref C) fld = some none) &&
  (decide (PySem.W.findIn K (.ref C) "__init__" = some (some (.ref fI))) && (decide (PySem.W.typeIn K (.ref fI) = some (.type "function")) && clsFactsB K C))))))))))))))
structure ExcI (P : Program) (K : PySem.W.Frag) (C fI cda cc : Addr) (fld : Str) : Prop where
  ic : InitC P K C cda cc
  xf : XfC K C
  ex : ExcC K C
  no : PySem.W.findIn K (.ref C) fld = some none
  ini : PySem.W.findIn K (.ref C) "__init__" = some (some (.ref fI))
  fn : PySem.W.typeIn K (.ref fI) = some (.type "function")
theorem excB_ok {P : Program} {K : PySem.W.Frag} {C fI cda cc : Addr} {fld : Str} (h : excB P K C fI cda cc fld = true) : ExcI P K C fI cda cc fld := by
  unfold excB clsFactsB at h
  simp only [Bool.and_eq_true, decide_eq_true_eq, Bool.not_eq_true'] at h
  obtain ⟨h1, h2, h3, h4, h5, h6, h7, h8, h9, h10, h11, h12, h13, h14, h15, h16, h17, h18, h19⟩ := h
  have xf := xfB_ok h2
  refine ⟨⟨⟨oexB_ok h1, h3, xf.exC, h4, h5⟩, h6, h7, h8, h9, ?_, ?_, h12⟩, xf, ⟨xf.ga, xf.gg, xf.exC, xf.hdC, h16, h17, h18, h19⟩, h13, h14, h15⟩
  · unfold cdaB at h10
    split at h10
    · rename_i a b vs d e
      split at h10
      · rename_i file tf e2
        exact ⟨_, _, _, _, _, _, e, e2, h10⟩
      · cases h10
    · cases h10
  · unfold ccB at h11
    split at h11
    · rename_i a b D d e
      rw [beq_iff_eq.mp h11] at e
      exact ⟨_, _, _, e⟩
    · cases h11
/-- the class of the name c, at C, with the field fld -/
structure ExcK (P : Program) (w : World) (K : PySem.W.Frag) (mg : Str → Option Value) (base : Heap) (c fld : Str) (C : Addr) : Prop where
  oex : OexC K C
  xf : XfC K C
  ex : ExcC K C
  no : PySem.W.findIn K (.ref C) fld = some none
  cls : ClsIs K c C
  mgc : mg c = some (.ref C)
  ini : ∃ (fI : Addr) (fd : FuncData) (r : Str), PySem.W.findIn K (.ref C) "__init__" = some (some (.ref fI)) ∧ PySem.W.typeIn K (.ref fI) = some (.type "function") ∧ FnOk P w K mg base (L2.CX P w) 1 fI fd ["self", r] (spInit K C fld) ∧ Binds K fd ["self", r] []
abbrev ExcN (P : Program) (w : World) (K : PySem.W.Frag) (mg : Str → Option Value) (base : Heap) (c fld : Str) : Prop := ∃ C, ExcK P w K mg base c fld C
def mkB : D → Bool
  | .str y => decide (y.length ≤ 1000000)
  | .int i => decide (i.natAbs.log2 < 1920)
  | _ => false
@[simp] def fMk (c fld : Str) (f : Fe) : Fm := fun γ => match f γ with
  | some (d, γ1) => if mkB d then some (c, [(fld, d)], γ1) else none
  | none => none
theorem mkB_ok {K : PySem.W.Frag} {H : Hp} {v : V} {d : D} (h : mkB d = true) (r : Dp K H v d) : TellV v := by
  cases r with
  | str x => exact .inl ⟨x, rfl, of_decide_eq_true h⟩
  | int i => exact .inr ⟨i, rfl, of_decide_eq_true h⟩
  | _ => cases h
theorem em_own {X : Cx} {c fld : Str} {e : Expr} {f : Fe} {p pos : Pos} (T : ExcN X.prog X.w X.K X.mg X.base c fld) (hr : Room 2 X.A) (hg : Gl X c) (ha : EV X e f)
    (hdb : (c == ("__debug__" : Str)) = false := by decide) (he : starEach [e] X.env = (false, eval e X.env) :: starEach [] X.env := by rfl) (hpl : (backTo pos (starEach [] X.env)).any (·.1) = false := by rfl) :
    EM X (.Call (.Name c p) [e] [] pos) (fMk c fld f) := by
  obtain ⟨C, T⟩ := T
  obtain ⟨fI, fd, r, iC, tI, F1, hb⟩ := T.ini
  intro pins s σ H Q I h
  refine pmk_oex (CX := L2.CX X.prog X.w) (k := 1) (dvs := []) T.oex iC tI F1 hr hb .nil (fun pins' σ' H' s' e' s'' I' hc => ?_) hg T.mgc (pa_cons (hs := he) ha pa_nil) hdb he hpl pins s σ H Q I ?_
  · obtain ⟨_, _, _, _, _, _, _, _, _, _, _, _, z⟩ := hc
    exact z.elim
  obtain ⟨γ, Hk, c', fs, γ1, ok, ef, post⟩ := h
  unfold fMk at ef
  split at ef
  · rename_i d γ1' efd
    split at ef
    · rename_i hmk
      cases ef
      refine ⟨γ, Hk, d, _, ok, efd, fun v H2 Hk2 g rd => ⟨by simp, fun a na => ⟨a, v, rfl, upd_same, mkB_ok hmk rd, fun dx ndx nea => ⟨rfl, dx, [(fld, v)], upd_same, ?_, ?_, ?_⟩⟩⟩⟩
      · rw [upd_ne nea, upd_same]
      · rw [upd_ne nea] at ndx
        exact ndx
      · rw [upd_ne nea] at ndx
        have e3 : upd (L2.del (upd (upd (upd H2 a (exo a C none)) dx (exd dx [(fld, v)])) a (exo a C (some dx))) a) dx (.xd [(fld, v)]) = upd H2 dx (.xd [(fld, v)]) := by
          funext b
          by_cases hb : b = dx
          · rw [hb, upd_same, upd_same]
          · rw [upd_ne hb, upd_ne hb]
            by_cases hba : b = a
            · rw [hba, L2.del_same]
              exact na.symm
            · rw [L2.del_ne hba, upd_ne hba, upd_ne hb, upd_ne hba]
        rw [e3]
        have gr : Grow H2 Hk2 (upd H2 dx (.xd [(fld, v)])) (upd Hk2 dx (.xd [(fld, v)])) := Grow.new g.ok.sub ndx
        refine post (.ref C) (some dx) _ _ (g.trans (g.ok.go gr)) ⟨C, dx, [(fld, v)], rfl, T.cls, rfl, upd_same, .cons (dp_mono gr.kk rd) .nil⟩
    · cases ef
  · cases ef
end DN
namespace DN
open PySem PySem.Spec PyProof.Rows L2
/-! ### expressions that may raise -/
inductive Res (α : Type) where
  | da (d : α)
  | er (c : Str) (fs : List (Str × D))
abbrev Fr := En → Option (Res D × En)
abbrev Frs := En → Option (Res (List D) × En)
def RaisP (K : PySem.W.Frag) (W : WX) (σ : L2.St) (H Hk : Hp) (γ γ2 : En) (c : Str) (fs : List (Str × D)) : Prop := ∀ cls dd H2 Hk2, Go K σ H Hk γ σ H2 Hk2 γ2 → XcIs K Hk2 cls dd c fs → W cls dd σ H2
theorem RaisP.back {K : PySem.W.Frag} {W : WX} {σ : L2.St} {H Hk H1 Hk1 : Hp} {γ γ1 γ2 : En} {c : Str} {fs : List (Str × D)} (h : RaisP K W σ H Hk γ γ2 c fs) (g : Go K σ H Hk γ σ H1 Hk1 γ1) : RaisP K W σ H1 Hk1 γ1 γ2 c fs :=
  fun cls dd H2 Hk2 g2 => h cls dd H2 Hk2 (g.trans g2)
def ResP (K : PySem.W.Frag) (W : WX) (σ : L2.St) (H Hk : Hp) (γ γ2 : En) (Q : VK) : Res D → Prop
  | .da d => ∀ v H2 Hk2, Go K σ H Hk γ σ H2 Hk2 γ2 → Dp K Hk2 v d → Q v H2
  | .er c fs => RaisP K W σ H Hk γ γ2 c fs
def ResPs (K : PySem.W.Frag) (W : WX) (σ : L2.St) (H Hk : Hp) (γ γ2 : En) (Q : List V → Hp → Prop) : Res (List D) → Prop
  | .da ds => ∀ vs H2 Hk2, Go K σ H Hk γ σ H2 Hk2 γ2 → DpAll K Hk2 vs ds → Q vs H2
  | .er c fs => RaisP K W σ H Hk γ γ2 c fs
def tR (K : PySem.W.Frag) (W : WX) (fr : Fr) : TE := fun σ H Q => ∃ γ Hk r γ2, Ok K σ H Hk γ ∧ fr γ = some (r, γ2) ∧ ResP K W σ H Hk γ γ2 Q r
def tRs (K : PySem.W.Frag) (W : WX) (fr : Frs) : TA := fun σ H Q => ∃ γ Hk r γ2, Ok K σ H Hk γ ∧ fr γ = some (r, γ2) ∧ ResPs K W σ H Hk γ γ2 Q r
def ER (X : Cx) (W : WX) (e : Expr) (fr : Fr) : Prop := PE X e (tR X.K W fr)
def ERs (X : Cx) (W : WX) (es : List Expr) (fr : Frs) : Prop := PA X es (tRs X.K W fr)
@[simp] def rEv (f : Fe) : Fr := fun γ => match f γ with
  | some (d, γ1) => some (.da d, γ1)
  | none => none
@[simp] def rsNil : Frs := fun γ => some (.da [], γ)
@[simp] def rsCons (f : Fr) (fs : Frs) : Frs := fun γ => match f γ with
  | some (.da d, γ1) => (match fs γ1 with
    | some (.da ds, γ2) => some (.da (d :: ds), γ2)
    | some (.er c x, γ2) => some (.er c x, γ2)
    | none => none)
  | some (.er c x, γ1) => some (.er c x, γ1)
  | none => none
@[simp] def rsEv (f : Fa) : Frs := fun γ => match f γ with
  | some (ds, γ1) => some (.da ds, γ1)
  | none => none
/-- on with the values -/
@[simp] def rOn (fs : Frs) (k : List D → En → Option (Res D × En)) : Fr := fun γ => match fs γ with
  | some (.da ds, γ1) => k ds γ1
  | some (.er c x, γ1) => some (.er c x, γ1)
  | none => none
@[simp] def kCallX (n : Nat) (F : FunX) : List D → En → Option (Res D × En) := fun ds γ => if ds.length = n then (match F none ds with
  | some (.da d, none) => some (.da d, γ)
  | some (.er c fs, none) => some (.er c fs, γ)
  | _ => none) else none
@[simp] def kCall (n : Nat) (F : Fun') : List D → En → Option (Res D × En) := fun ds γ => if ds.length = n then (match F ds with
  | some (d, _) => some (.da d, γ)
  | none => none) else none
@[simp] def kTup : List D → En → Option (Res D × En) := fun ds γ => if okN ds.length then some (.da (.tuple ds), γ) else none
@[simp] def r1 (op : D → Option D) (f : Fr) : Fr := fun γ => match f γ with
  | some (.da x, γ1) => (match op x with
    | some z => some (.da z, γ1)
    | none => none)
  | some (.er c x, γ1) => some (.er c x, γ1)
  | none => none
@[simp] def r2 (op : D → D → Option D) (f g : Fr) : Fr := fun γ => match f γ with
  | some (.da x, γ1) => (match g γ1 with
    | some (.da y, γ2) => (match op x y with
      | some z => some (.da z, γ2)
      | none => none)
    | some (.er c x, γ2) => some (.er c x, γ2)
    | none => none)
  | some (.er c x, γ1) => some (.er c x, γ1)
  | none => none
section
variable {W : WX} {X : Cx} {x : Str} {k n : Nat} {ps : List Str} {F : FunX} {G : Fun'} {e a b : Expr} {es : List Expr} {fe : Fe} {fa : Fa} {f g : Fr} {fs : Frs} {p pos : Pos} {r : R2} {fop : D → D → Option D}
theorem er_ev (h : EV X e fe) : ER X W e (rEv fe) := PE.imp h fun σ H Q ⟨γ, Hk, r, γ2, o, ee, q⟩ => by
  unfold rEv at ee
  split at ee <;> cases ee
  rename_i d ef
  exact ⟨γ, Hk, d, γ2, o, ef, q⟩
theorem ers_nil : ERs X W [] rsNil := PA.imp pa_nil fun σ H Q ⟨γ, Hk, r, γ2, o, ee, q⟩ => by
  cases ee
  exact q [] H Hk (Go.refl o) .nil
theorem ers_ev (h : EA X es fa) : ERs X W es (rsEv fa) := PA.imp h fun σ H Q ⟨γ, Hk, r, γ2, o, ee, q⟩ => by
  unfold rsEv at ee
  split at ee <;> cases ee
  rename_i ds ef
  exact ⟨γ, Hk, ds, γ2, o, ef, q⟩
theorem tRaise {K : PySem.W.Frag} {σ : L2.St} {H Hk : Hp} {γ γ2 : En} {c : Str} {x : List (Str × D)} {Q : VK} (o : Ok K σ H Hk γ) (ef : f γ = some (.er c x, γ2)) (h : RaisP K W σ H Hk γ γ2 c x) : tR K W f σ H Q := ⟨γ, Hk, _, γ2, o, ef, h⟩
theorem ers_cons (h : ER X W e f) (hr : ERs X W es fs) (hs : starEach (e :: es) X.env = (false, eval e X.env) :: starEach es X.env := by rfl) : ERs X W (e :: es) (rsCons f fs) := PA.imp (pa_cons h hr hs) fun σ H Q ⟨γ, Hk, r, γ2, o, ee, q⟩ => by
  unfold rsCons at ee
  split at ee
  · rename_i d γ1 ef
    split at ee
    · rename_i ds γ2' efa
      cases ee
      exact ⟨γ, Hk, _, γ1, o, ef, fun v H1 Hk1 g1 r1 => ⟨γ1, Hk1, _, γ2, g1.ok, efa, fun vs H2 Hk2 g2 r2 => q _ H2 Hk2 (g1.trans g2) (.cons (dp_mono g2.kk r1) r2)⟩⟩
    · rename_i c x γ2' efa
      cases ee
      exact ⟨γ, Hk, _, γ1, o, ef, fun v H1 Hk1 g1 r1 => ⟨γ1, Hk1, _, γ2, g1.ok, efa, RaisP.back q g1⟩⟩
    · cases ee
  · rename_i c x γ1 ef
    cases ee
    exact tRaise o ef q
  · cases ee
/-- a call of a def that may raise -/
theorem er_callX (tk : Takes X W) (C : CalX X.prog X.w X.K X.mg X.base x k ps F) (hr : Room k X.A) (hG : X.A.guards = some []) (hg : Gl X x) (ha : ERs X W (e :: es) fs) (hn : ps.length = n := by rfl)
    (hdb : (x == ("__debug__" : Str)) = false := by decide) (he : starEach (e :: es) X.env = (false, eval e X.env) :: starEach es X.env := by rfl) (hpl : (backTo pos (starEach es X.env)).any (·.1) = false := by rfl) :
    ER X W (.Call (.Name x p) (e :: es) [] pos) (rOn fs (kCallX n F)) := by
  subst hn
  obtain ⟨f, fd, G, hm, hk, hb⟩ := C
  refine ⟨fun pins s σ H Q I h => ?_⟩
  obtain ⟨γ, Hk, r, γ2, ok, ee, q⟩ := h
  refine wpAny_Call_Name_kw (ld_glob I hg hm ?_ hdb)
  unfold rOn at ee
  split at ee
  · rename_i ds γ1 ea
    unfold kCallX at ee
    split at ee
    · rename_i hl
      refine PySem.W.callWith_K (h₀ := X.base) I.ok.mod.kin hk (thn (ha.run pos pins s σ H (fun vs H1 => spX X.K ps.length F vs H1 Q (WE W σ)) I ⟨γ, Hk, _, γ1, ok, ea, fun vs H1 Hk1 g1 r1 => ?_⟩) fun us s1 ⟨vs, H1, I1, rv, q1⟩ => ⟨I1.kIn, runXc G hr hG hb (passAt tk σ) I1 rv q1⟩) he hpl
      split at ee
      · rename_i d eF
        cases ee
        exact ⟨by rw [dps_len r1]; exact hl, Hk1, none, ds, _, none, [], g1.ok.sub, ⟨r1, rfl⟩, eF, fun H2 Hk2 fq af v r2 => q v H2 Hk2 (go_call g1 af) r2⟩
      · rename_i c x eF
        cases ee
        exact ⟨by rw [dps_len r1]; exact hl, Hk1, none, ds, _, none, [], g1.ok.sub, ⟨r1, rfl⟩, eF, fun H2 Hk2 fq af cls dd xc => q cls dd H2 Hk2 (go_call g1 af) xc⟩
      · cases ee
    · cases ee
  · rename_i c x γ1 ea
    cases ee
    exact PySem.W.callWith_K (h₀ := X.base) I.ok.mod.kin hk (thn (ha.run pos pins s σ H (fun vs H1 => spX X.K ps.length F vs H1 Q (WE W σ)) I ⟨γ, Hk, _, γ2, ok, ea, q⟩) fun us s1 ⟨vs, H1, I1, rv, q1⟩ => ⟨I1.kIn, runXc G hr hG hb (passAt tk σ) I1 rv q1⟩) he hpl
  · cases ee
/-- a call of a plain def, an argument of which may raise -/
theorem er_call (C : Cal X.prog X.w X.K X.mg X.base x k ps false G) (hr : Room k X.A) (hG : X.A.guards = some []) (hg : Gl X x) (ha : ERs X W (e :: es) fs) (hn : ps.length = n := by rfl)
    (hdb : (x == ("__debug__" : Str)) = false := by decide) (he : starEach (e :: es) X.env = (false, eval e X.env) :: starEach es X.env := by rfl) (hpl : (backTo pos (starEach es X.env)).any (·.1) = false := by rfl) :
    ER X W (.Call (.Name x p) (e :: es) [] pos) (rOn fs (kCall n G)) := by
  subst hn
  obtain ⟨f, fd, Gf, hm, hk, hb⟩ := C
  refine ⟨fun pins s σ H Q I h => ?_⟩
  obtain ⟨γ, Hk, r, γ2, ok, ee, q⟩ := h
  refine wpAny_Call_Name_kw (ld_glob I hg hm ?_ hdb)
  unfold rOn at ee
  split at ee
  · rename_i ds γ1 ea
    unfold kCall at ee
    split at ee
    · rename_i hl
      split at ee <;> cases ee
      rename_i d out eF
      refine PySem.W.callWith_K (h₀ := X.base) I.ok.mod.kin hk (thn (ha.run pos pins s σ H (fun vs H1 => spD X.K false ps.length G vs H1 Q) I ⟨γ, Hk, _, _, ok, ea, fun vs H1 Hk1 g1 r1 => ?_⟩) fun us s1 ⟨vs, H1, I1, r, q1⟩ => ⟨I1.kIn, runG Gf hr hG hb I1 r q1⟩) he hpl
      refine ⟨by rw [dps_len r1]; exact hl, Hk1, ds, d, out, g1.ok.sub, r1, eF, fun v H2 Hk2 s2 k2 nw kp r2 _ => ?_⟩
      exact q v H2 Hk2 (g1.trans (g1.ok.go ⟨fun a u h => kp a u h fun z => absurd z Bool.false_ne_true, k2, s2, nw⟩)) r2
    · cases ee
  · rename_i c x γ1 ea
    cases ee
    exact PySem.W.callWith_K (h₀ := X.base) I.ok.mod.kin hk (thn (ha.run pos pins s σ H (fun vs H1 => spD X.K false ps.length G vs H1 Q) I ⟨γ, Hk, _, γ2, ok, ea, q⟩) fun us s1 ⟨vs, H1, I1, r, q1⟩ => ⟨I1.kIn, runG Gf hr hG hb I1 r q1⟩) he hpl
  · cases ee
theorem er_tup {x1} (h : ERs X W es fs) : ER X W (.Tuple es x1 pos) (rOn fs kTup) := PE.imp (pe_tup h) fun σ H Q ⟨γ, Hk, r, γ2, o, ee, q⟩ => by
  unfold rOn at ee
  split at ee
  · rename_i ds γ1 efa
    unfold kTup at ee
    split at ee <;> cases ee
    rename_i c
    refine ⟨γ, Hk, _, γ2, o, efa, fun vs H1 Hk1 g1 r1 => ⟨by rw [dps_len r1]; exact okN_line c, fun p hp => ?_⟩⟩
    have g2 : Grow H1 Hk1 (upd H1 p (.tup vs)) (upd Hk1 p (.tup vs)) := Grow.new g1.ok.sub hp
    exact q _ _ _ (g1.trans (g1.ok.go g2)) (.tup (SqT.of upd_same) (dps_mono g2.kk r1))
  · rename_i c x γ1 efa
    cases ee
    exact ⟨γ, Hk, _, γ2, o, efa, q⟩
  · cases ee
theorem u1 {K : PySem.W.Frag} {r : List V → Hp → VK → Prop} {op : D → Option D} {σ : L2.St} {H : Hp} {Q : VK} (o : Op1 K (fun x => r [x]) op) (h : tR K W (r1 op f) σ H Q) : tCB r (tCons (tR K W f) tNil) σ H Q := by
  obtain ⟨γ, Hk, d, γ2, ok, e, q⟩ := h
  unfold DN.r1 at e
  split at e
  · rename_i x γ1 ef
    split at e <;> cases e
    rename_i z eo
    exact ⟨γ, Hk, _, _, ok, ef, fun v H1 Hk1 g1 r1 => o H1 Hk1 v x z Q g1.ok.sub (.inl r1) eo fun w H3 Hk3 g3 r3 => q w H3 Hk3 (g1.trans (g1.ok.go g3)) r3⟩
  · rename_i c x γ1 ef
    cases e
    exact tRaise ok ef q
  · cases e
theorem er_callT {id : String} {p : Pos} {r : List V → Hp → VK → Prop} {op : D → Option D} (o : Op1 X.K (fun x => r [x]) op) (hc : CallR X (.type id) r) (hm : X.mg x = none) (hg : Gl X x) (hv : bootBuiltins x = some (.type id)) (ha : ER X W a f)
    (hn : x ≠ "__name__" := by decide) (hdb : (x == ("__debug__" : Str)) = false := by decide) (he : starEach [a] X.env = (false, eval a X.env) :: starEach [] X.env := by rfl) (hpl : (backTo pos (starEach [] X.env)).any (·.1) = false := by rfl) :
    ER X W (.Call (.Name x p) [a] [] pos) (DN.r1 op f) := PE.imp (pe_callTy hc hg hm hv (pa_cons ha pa_nil he) hn hdb he hpl) fun _ _ _ h => u1 o h
theorem u2 {K : PySem.W.Frag} {σ : L2.St} {H : Hp} {Q : VK} (o : Op2 K r fop) (h : tR K W (DN.r2 fop f g) σ H Q) : tOp r (tR K W f) (tR K W g) σ H Q := by
  obtain ⟨γ, Hk, d, γ2, ok, e, q⟩ := h
  unfold DN.r2 at e
  split at e
  · rename_i x γ1 ef
    split at e
    · rename_i y γ2' eg
      split at e
      · rename_i z eo
        cases e
        refine ⟨γ, Hk, _, γ1, ok, ef, fun v H1 Hk1 g1 r1 => ⟨γ1, Hk1, _, γ2, g1.ok, eg, fun u H2 Hk2 g2 r2 => ?_⟩⟩
        exact o H2 Hk2 v u x y z Q g2.ok.sub (.inl (dp_mono g2.kk r1)) (.inl r2) eo fun w H3 Hk3 g3 r3 => q w H3 Hk3 ((g1.trans g2).trans (g2.ok.go g3)) r3
      · cases e
    · rename_i c x2 γ2' eg
      cases e
      exact ⟨γ, Hk, _, γ1, ok, ef, fun v H1 Hk1 g1 r1 => tRaise g1.ok eg (RaisP.back q g1)⟩
    · cases e
  · rename_i c x γ1 ef
    cases e
    exact tRaise ok ef q
  · cases e
theorem er2 {op : Operator} (o : OpR X (binaryOp op) r) (s : Op2 X.K r fop) (ha : ER X W a f) (hb : ER X W b g) : ER X W (.BinOp a op b pos) (DN.r2 fop f g) := PE.imp (pe_op o ha hb) fun _ _ _ h => u2 s h
theorem erc2 {op : CmpOp} (o : OpR X (compareOp op) r) (s : Op2 X.K r fop) (hm : behindInMarks op b = false) (ha : ER X W a f) (hb : ER X W b g) : ER X W (.Compare a [op] [b] pos) (DN.r2 fop f g) := PE.imp (pe_cmpR o ha hb hm) fun _ _ _ h => u2 s h
/-! statements -/
@[simp] def sRetE (f : Fr) : Fs := fun γ => match f γ with
  | some (.da d, γ1) => some (.rt d γ1)
  | some (.er c x, γ1) => some (.rs c x γ1)
  | none => none
@[simp] def sDropE (f : Fr) : Fs := fun γ => match f γ with
  | some (.da d, γ1) => some (.nx γ1)
  | some (.er c x, γ1) => some (.rs c x γ1)
  | none => none
@[simp] def sAsgE (f : Fr) (tg : Fg) : Fs := fun γ => match f γ with
  | some (.da d, γ1) => (match tg d γ1 with
    | some γ2 => some (.nx γ2)
    | none => none)
  | some (.er c x, γ1) => some (.rs c x γ1)
  | none => none
theorem es_retE (he : ER X W e f) : ES X W (.Return (some e) pos) (sRetE f) := PS.imp (ps_ret he) fun Z σ H ⟨γ, Hk, o, k, e, q⟩ => by
  unfold sRetE at e
  split at e
  · rename_i d γ1 ef
    cases e
    exact ⟨γ, Hk, _, γ1, k, ef, fun v H1 Hk1 g1 r1 => q v σ H1 Hk1 g1 r1⟩
  · rename_i c x γ1 ef
    cases e
    exact tRaise k ef fun cls dd H2 Hk2 g xc => q σ H2 Hk2 cls dd g xc
  · cases e
theorem es_exprE (he : ER X W e f) (hs : swapsWith e none pos.line X.env = pure false := by rfl) : ES X W (.Expr e pos) (sDropE f) := PS.imp (ps_expr he hs) fun Z σ H ⟨γ, Hk, o, k, e, q⟩ => by
  unfold sDropE at e
  split at e
  · rename_i d γ1 ef
    cases e
    exact ⟨γ, Hk, _, γ1, k, ef, fun v H1 Hk1 g1 r1 => q σ H1 Hk1 g1⟩
  · rename_i c x γ1 ef
    cases e
    exact tRaise k ef fun cls dd H2 Hk2 g xc => q σ H2 Hk2 cls dd g xc
  · cases e
theorem asgE_imp {K : PySem.W.Frag} {tg : Fg} {Z : Ends} {σ : L2.St} {H : Hp} (h : tS K W (sAsgE f tg) Z σ H) : tAsg (tR K W f) (tGt K tg) Z σ H := by
  obtain ⟨γ, Hk, o, k, e, q⟩ := h
  unfold sAsgE at e
  split at e
  · rename_i d γ1 ef
    split at e <;> cases e
    rename_i γ2 et
    exact ⟨γ, Hk, _, γ1, k, ef, fun v H1 Hk1 g1 r1 => ⟨γ1, Hk1, d, γ2, g1.ok, r1, et, fun σ2 g2 => q σ2 H1 Hk1 (g1.trans g2)⟩⟩
  · rename_i c x γ1 ef
    cases e
    exact tRaise k ef fun cls dd H2 Hk2 g xc => q σ H2 Hk2 cls dd g xc
  · cases e
theorem es_asgE {tg : Fg} (he : ER X W e f) (hg : EG X a tg) (hs : swapsWithSole [a] e pos.line X.env = pure false := by rfl) (hw : swappedStores [a] e X.env = pure none := by rfl)
    (h1 : (assignEach [a] X.env).map (·.2) = [assign a X.env] := by rfl) : ES X W (.Assign [a] e pos) (sAsgE f tg) := PS.imp (ps_asg he hg hs hw h1) fun _ _ _ h => asgE_imp h
theorem es_setE (i : Nat) {x : Str} {p' : Pos} (hN : X.N.Nodup) (hi : X.N[i]? = some x) (hx : Loc X.env.scope x) (he : ER X W e f) (hs : swapsWith e (some (.Name x p')) pos.line X.env = pure false := by rfl) (hf : X.fn x = true ∨ X.env.scope.names.lookup x = some .local := by first | exact .inl rfl | exact .inr rfl | assumption) :
    ES X W (.Assign [.Name x p'] e pos) (sAsgE f (gDat i)) := PS.imp (ps_set hN hi hx he hs hf) fun Z σ H h => by
  obtain ⟨γ, Hk, o, k, ee, q⟩ := h
  unfold sAsgE at ee
  split at ee
  · rename_i d γ1 ef
    split at ee <;> cases ee
    rename_i γ2 et
    exact ⟨γ, Hk, _, γ1, k, ef, fun v H1 Hk1 g1 r1 => gDat_imp ⟨γ1, Hk1, d, γ2, g1.ok, r1, et, fun σ2 g2 => q σ2 H1 Hk1 (g1.trans g2)⟩⟩
  · rename_i c x γ1 ef
    cases ee
    exact tRaise k ef fun cls dd H2 Hk2 g xc => q σ H2 Hk2 cls dd g xc
  · cases ee
end
end DN
namespace DN
open PySem PySem.Spec PyProof.Rows L2
/-! ### the suite of an except clause: expressions that know the exception -/
abbrev Gx := Str → List (Str × D) → Fe
def SuOk (K : PySem.W.Frag) (i : Nat) (a : Addr) (cls : Value) (d : Option Addr) (c : Str) (fs : List (Str × D)) (σ : L2.St) (Hk : Hp) : Prop := ∃ C dd vs, cls = .ref C ∧ ClsIs K c C ∧ d = some dd ∧ Hk dd = some (.xd vs) ∧ FldsIs K Hk vs fs ∧ σ[i]? = some (some (.ref a))
theorem SuOk.mono {K : PySem.W.Frag} {i : Nat} {a : Addr} {cls : Value} {d : Option Addr} {c : Str} {fs : List (Str × D)} {σ : L2.St} {Hk Hk2 : Hp} (h : SuOk K i a cls d c fs σ Hk) (s : Same Hk Hk2) : SuOk K i a cls d c fs σ Hk2 := by
  obtain ⟨C, dd, vs, h1, h2, h3, h4, h5, h6⟩ := h
  exact ⟨C, dd, vs, h1, h2, h3, s _ _ h4, h5.mono s, h6⟩
def tX (K : PySem.W.Frag) (i : Nat) (a : Addr) (cls : Value) (d : Option Addr) (g : Gx) : TE := fun σ H Q => ∃ γ Hk c fs r γ2, SuOk K i a cls d c fs σ Hk ∧ Ok K σ H Hk γ ∧ g c fs γ = some (r, γ2) ∧ ∀ v H2 Hk2, Go K σ H Hk γ σ H2 Hk2 γ2 → Dp K Hk2 v r → Q v H2
def tXs (K : PySem.W.Frag) (i : Nat) (a : Addr) (cls : Value) (d : Option Addr) (g : Str → List (Str × D) → Fa) : TA := fun σ H Q => ∃ γ Hk c fs r γ2, SuOk K i a cls d c fs σ Hk ∧ Ok K σ H Hk γ ∧ g c fs γ = some (r, γ2) ∧ ∀ v H2 Hk2, Go K σ H Hk γ σ H2 Hk2 γ2 → DpAll K Hk2 v r → Q v H2
def EX (X : Cx) (i : Nat) (a : Addr) (cls : Value) (d : Option Addr) (e : Expr) (g : Gx) : Prop := PE X e (tX X.K i a cls d g)
def EXs (X : Cx) (i : Nat) (a : Addr) (cls : Value) (d : Option Addr) (es : List Expr) (g : Str → List (Str × D) → Fa) : Prop := PA X es (tXs X.K i a cls d g)
@[simp] def xEv (f : Fe) : Gx := fun _ _ => f
@[simp] def xFld (cs : List Str) (n : Str) : Gx := fun c fs γ => if c ∈ cs then (match fs.lookup n with
  | some d => some (d, γ)
  | none => none) else none
@[simp] def xIsi (ms : List (Str × Bool)) : Gx := fun c _ γ => match ms.lookup c with
  | some b => some (.bool b, γ)
  | none => none
@[simp] def xAnd (f g : Gx) : Gx := fun c fs γ => match f c fs γ with
  | some (.bool true, γ1) => g c fs γ1
  | some (.bool false, γ1) => some (.bool false, γ1)
  | _ => none
@[simp] def x2 (op : D → D → Option D) (f g : Gx) : Gx := fun c fs γ => match f c fs γ with
  | some (x, γ1) => (match g c fs γ1 with
    | some (y, γ2) => (match op x y with
      | some z => some (z, γ2)
      | none => none)
    | none => none)
  | none => none
@[simp] def x1 (op : D → Option D) (f : Gx) : Gx := fun c fs γ => match f c fs γ with
  | some (x, γ1) => (match op x with
    | some z => some (z, γ1)
    | none => none)
  | none => none
@[simp] def xsNil : Str → List (Str × D) → Fa := fun _ _ γ => some ([], γ)
@[simp] def xsCons (f : Gx) (fa : Str → List (Str × D) → Fa) : Str → List (Str × D) → Fa := fun c fs γ => match f c fs γ with
  | some (d, γ1) => (match fa c fs γ1 with
    | some (ds, γ2) => some (d :: ds, γ2)
    | none => none)
  | none => none
@[simp] def xTup (fa : Str → List (Str × D) → Fa) : Gx := fun c fs γ => match fa c fs γ with
  | some (ds, γ2) => if okN ds.length then some (.tuple ds, γ2) else none
  | none => none
@[simp] def xLst (fa : Str → List (Str × D) → Fa) : Gx := fun c fs γ => match fa c fs γ with
  | some (ds, γ2) => if okN ds.length then some (.list ds, γ2) else none
  | none => none
/-- a class has the field's way of being read -/
def FldC (K : PySem.W.Frag) (n c : Str) : Prop := ∃ C, ClsIs K c C ∧ XfC K C ∧ PySem.W.findIn K (.ref C) n = some none
/-- isinstance of the class c -/
def IsiC (K : PySem.W.Frag) (cv : Value) (p : Str × Bool) : Prop := ∃ C, ClsIs K p.1 C ∧ ExcC K C ∧ PySem.W.kitOne K (.ref C) cv = some p.2
theorem ClsIs.fn {K : PySem.W.Frag} {c : Str} {C C' : Addr} (h : ClsIs K c C) (h' : ClsIs K c C') : C = C' := by
  unfold ClsIs at h h'
  rw [h] at h'
  cases h'
  rfl
section
variable {X : Cx} {i : Nat} {a : Addr} {oe : Obj} {cls : Value} {d : Option Addr} {pn : List (Addr × Obj)} {e b b1 : Expr} {rest : List Expr} {f g : Gx} {fa : Str → List (Str × D) → Fa} {fe : Fe} {p p2 pos : Pos} {n nm : Str}
theorem ex_ev (h : EV X e fe) : EX X i a cls d e (xEv fe) := PE.imp h fun σ H Q ⟨γ, Hk, c, fs, r, γ2, su, o, ee, q⟩ => ⟨γ, Hk, r, γ2, o, ee, q⟩
theorem ex_fld {cs : List Str} (T : ∀ c ∈ cs, FldC X.K n c) (hz : Zc cls d oe) (hf : ∃ vs, oe.data = .fields vs) (hN : X.N[i]? = some nm) (hv : Vis X.env.scope nm) (hd : (nm == ("__debug__" : Str)) = false := by decide) (hcd : (nm == ("__classdict__" : Str)) = false := by decide)
    (hb : attributeBase (.Name nm p) n X.env (eval (.Name nm p) X.env) = eval (.Name nm p) X.env := by rfl) : EX (X.suite a ((a, oe) :: pn)) i a cls d (.Attribute (.Name nm p) n pos) (xFld cs n) :=
  PE.imp (pe_xfE (te := tVar i) hz hf (pe_var (X := X.suite a ((a, oe) :: pn)) hN hv hd hcd) hb) fun σ H Q ⟨γ, Hk, c, fs, r, γ2, su, o, ee, q⟩ => by
  unfold xFld at ee
  split at ee
  · rename_i hc
    split at ee <;> cases ee
    rename_i el
    obtain ⟨C, dd, vs, rfl, hC, rfl, hx, hfl, hσ⟩ := su
    obtain ⟨C', hC', xf, hno⟩ := T c hc
    cases hC.fn hC'
    obtain ⟨v, ev, rv⟩ := flds_look hfl el
    exact ⟨C, xf, hno, .ref a, hσ, rfl, rfl, dd, vs, v, rfl, o.sub _ _ hx, ev, q v H Hk (Go.refl o) rv⟩
  · cases ee
theorem ex_one {op} (h : EX X i a cls d e f) : EX X i a cls d (.BoolOp op [e] pos) f := pe_one h
theorem ex_and (h : EX X i a cls d e f) (hr : EX X i a cls d (.BoolOp .And (b :: rest) pos) g) : EX X i a cls d (.BoolOp .And (e :: b :: rest) pos) (xAnd f g) := PE.imp (pe_and h hr) fun σ H Q ⟨γ, Hk, c, fs, r, γ2, su, o, ee, q⟩ => by
  unfold xAnd at ee
  split at ee
  · rename_i γ1 ef
    exact ⟨γ, Hk, c, fs, _, γ1, su, o, ef, fun w H1 Hk1 g1 r1 => by cases r1; exact ⟨true, rfl, iteT ⟨γ1, Hk1, c, fs, r, γ2, su.mono g1.kk, g1.ok, ee, fun z H2 Hk2 g2 r2 => q z H2 Hk2 (g1.trans g2) r2⟩⟩⟩
  · rename_i γ1 ef
    cases ee
    exact ⟨γ, Hk, c, fs, _, _, su, o, ef, fun w H1 Hk1 g1 r1 => by cases r1; exact ⟨false, rfl, iteF (q _ H1 Hk1 g1 (.bl _))⟩⟩
  · cases ee
theorem v2 {K : PySem.W.Frag} {r : R2} {fop : D → D → Option D} {σ : L2.St} {H : Hp} {Q : VK} (o : Op2 K r fop) (h : tX K i a cls d (x2 fop f g) σ H Q) : tOp r (tX K i a cls d f) (tX K i a cls d g) σ H Q := by
  obtain ⟨γ, Hk, c, fs, z, γ2, su, ok, ee, q⟩ := h
  unfold x2 at ee
  split at ee
  · rename_i x γ1 ef
    split at ee
    · rename_i y γ2' eg
      split at ee
      · rename_i z' eo
        cases ee
        refine ⟨γ, Hk, c, fs, x, γ1, su, ok, ef, fun v H1 Hk1 g1 r1 => ⟨γ1, Hk1, c, fs, y, γ2, su.mono g1.kk, g1.ok, eg, fun u H2 Hk2 g2 r2 => ?_⟩⟩
        exact o H2 Hk2 v u x y z Q g2.ok.sub (.inl (dp_mono g2.kk r1)) (.inl r2) eo fun w H3 Hk3 g3 r3 => q w H3 Hk3 ((g1.trans g2).trans (g2.ok.go g3)) r3
      · cases ee
    · cases ee
  · cases ee
theorem ex2 {op : Operator} {r : R2} {fop : D → D → Option D} (o : OpR X (binaryOp op) r) (s : Op2 X.K r fop) (ha : EX X i a cls d e f) (hb : EX X i a cls d b g) : EX X i a cls d (.BinOp e op b pos) (x2 fop f g) := PE.imp (pe_op o ha hb) fun _ _ _ h => v2 s h
theorem exc2 {op : CmpOp} {r : R2} {fop : D → D → Option D} (o : OpR X (compareOp op) r) (s : Op2 X.K r fop) (hm : behindInMarks op b = false) (ha : EX X i a cls d e f) (hb : EX X i a cls d b g) : EX X i a cls d (.Compare e [op] [b] pos) (x2 fop f g) := PE.imp (pe_cmpR o ha hb hm) fun _ _ _ h => v2 s h
theorem v1 {K : PySem.W.Frag} {r : List V → Hp → VK → Prop} {op : D → Option D} {σ : L2.St} {H : Hp} {Q : VK} (o : Op1 K (fun x => r [x]) op) (h : tX K i a cls d (x1 op f) σ H Q) : tCB r (tCons (tX K i a cls d f) tNil) σ H Q := by
  obtain ⟨γ, Hk, c, fs, z, γ2, su, ok, e, q⟩ := h
  unfold x1 at e
  split at e
  · rename_i x γ1 ef
    split at e <;> cases e
    rename_i eo
    exact ⟨γ, Hk, c, fs, x, _, su, ok, ef, fun v H1 Hk1 g1 r1 => o H1 Hk1 v x z Q g1.ok.sub (.inl r1) eo fun w H3 Hk3 g3 r3 => q w H3 Hk3 (g1.trans (g1.ok.go g3)) r3⟩
  · cases e
theorem ex_callT {x : Str} {id : String} {r : List V → Hp → VK → Prop} {op : D → Option D} (o : Op1 X.K (fun x => r [x]) op) (hc : CallR X (.type id) r) (hm : X.mg x = none) (hg : Gl X x) (hv : bootBuiltins x = some (.type id)) (ha : EX X i a cls d e f)
    (hn : x ≠ "__name__" := by decide) (hdb : (x == ("__debug__" : Str)) = false := by decide) (he : starEach [e] X.env = (false, eval e X.env) :: starEach [] X.env := by rfl) (hpl : (backTo pos (starEach [] X.env)).any (·.1) = false := by rfl) :
    EX X i a cls d (.Call (.Name x p) [e] [] pos) (x1 op f) := PE.imp (pe_callTy hc hg hm hv (pa_cons ha pa_nil he) hn hdb he hpl) fun _ _ _ h => v1 o h
theorem exs_nil : EXs X i a cls d [] xsNil := PA.imp pa_nil fun σ H Q ⟨γ, Hk, c, fs, z, γ2, su, o, e, q⟩ => by
  cases e
  exact q [] H Hk (Go.refl o) .nil
theorem exs_cons {es : List Expr} (h : EX X i a cls d e f) (hr : EXs X i a cls d es fa) (hs : starEach (e :: es) X.env = (false, eval e X.env) :: starEach es X.env := by rfl) : EXs X i a cls d (e :: es) (xsCons f fa) := PA.imp (pa_cons h hr hs) fun σ H Q ⟨γ, Hk, c, fs, ds, γ2, su, o, ee, q⟩ => by
  unfold xsCons at ee
  split at ee
  · rename_i d γ1 ef
    split at ee <;> cases ee
    rename_i ds' efa
    exact ⟨γ, Hk, c, fs, d, γ1, su, o, ef, fun v H1 Hk1 g1 r1 => ⟨γ1, Hk1, c, fs, ds', γ2, su.mono g1.kk, g1.ok, efa, fun vs H2 Hk2 g2 r2 => q _ H2 Hk2 (g1.trans g2) (.cons (dp_mono g2.kk r1) r2)⟩⟩
  · cases ee
theorem ex_tup {es : List Expr} {x1} (h : EXs X i a cls d es fa) : EX X i a cls d (.Tuple es x1 pos) (xTup fa) := PE.imp (pe_tup h) fun σ H Q ⟨γ, Hk, c, fs, r, γ2, su, o, ee, q⟩ => by
  unfold xTup at ee
  split at ee
  · rename_i ds γ1 efa
    split at ee <;> cases ee
    rename_i cz
    refine ⟨γ, Hk, c, fs, ds, γ2, su, o, efa, fun vs H1 Hk1 g1 r1 => ⟨by rw [dps_len r1]; exact okN_line cz, fun p hp => ?_⟩⟩
    have g2 : Grow H1 Hk1 (upd H1 p (.tup vs)) (upd Hk1 p (.tup vs)) := Grow.new g1.ok.sub hp
    exact q _ _ _ (g1.trans (g1.ok.go g2)) (.tup (SqT.of upd_same) (dps_mono g2.kk r1))
  · cases ee
theorem ex_lst {es : List Expr} (h : EXs X i a cls d es fa) : EX X i a cls d (.List es pos) (xLst fa) := PE.imp (pe_lst h) fun σ H Q ⟨γ, Hk, c, fs, r, γ2, su, o, ee, q⟩ => by
  unfold xLst at ee
  split at ee
  · rename_i ds γ1 efa
    split at ee <;> cases ee
    rename_i cz
    refine ⟨γ, Hk, c, fs, ds, γ2, su, o, efa, fun vs H1 Hk1 g1 r1 => ⟨by rw [dps_len r1]; exact okN_line cz, fun p hp => ?_⟩⟩
    have g2 : Grow H1 Hk1 (upd H1 p (.lst vs)) (upd Hk1 p (.lst vs)) := Grow.new g1.ok.sub hp
    exact q _ _ _ (g1.trans (g1.ok.go g2)) (.lst (SqL.of upd_same) (dps_mono g2.kk r1))
  · cases ee
/-! isinstance -/
def rIsO (K : PySem.W.Frag) (a : Addr) (cls : Value) : List V → Hp → VK → Prop := fun xs H Q => ∃ (c : V) (cv : Value) (b : Bool) (C dd : Addr) (fs : List (Str × V)), xs = [.ref a, c] ∧ (∀ u, RelV c u → u = cv) ∧ cls = .ref C ∧ ExcC K C ∧ PySem.W.kitOne K (.ref C) cv = some b ∧ H dd = some (.xd fs) ∧ d = some dd ∧ Q (.bl b) H
theorem call_isO (hz : Zc cls d oe) (hf : ∃ vs, oe.data = .fields vs) : CallR (X.suite a ((a, oe) :: pn)) (.builtin "isinstance") (rIsO (d := d) X.K a cls) := by
  intro pins s σ H xs us Q I r h
  obtain ⟨c, cv, b, C, dd, fs, rfl, hcv, rfl, CC, e, hd, rfl, q⟩ := h
  cases r with
  | cons rx rr =>
    cases rr with
    | cons rt rr =>
      cases rr
      cases rx
      have ec := hcv _ rt
      subst ec
      obtain ⟨hget, _⟩ := I.pin (a, oe) (List.mem_append.mpr (.inl List.mem_cons_self))
      obtain ⟨vs, hv⟩ := hf
      have hx : ObjOk X.prog X.w H s.heap dd (.xd fs) := I.hok dd _ hd
      obtain ⟨mA, hns, hr⟩ := hx
      obtain ⟨od, ho, hl⟩ := lookIn_ns hns
      have J : PySem.W.InstAt s.heap a oe C (some od) := ⟨hget, hz.1, by unfold PySem.W.notCls; rw [hv] <;> rfl, by rw [hz.2]; exact ho⟩
      obtain ⟨cd, hcd, _⟩ := PySem.W.any_some CC.hd
      exact PySem.W.kia_one (PySem.W.kitx_exc (by rw [hcd]; rfl) CC.hg CC.hk CC.hs CC.ha CC.hn CC.ht CC.hm) I.kIn J e (fun z => nomatch z) fun tk => ⟨.bl b, H, I.kept (t' := tk) fun _ _ z => z, rfl, q⟩
theorem isi_imp {K : PySem.W.Frag} {cv : Value} {c : V} {ms : List (Str × Bool)} (T : ∀ p ∈ ms, IsiC K cv p) (hcv : ∀ u, RelV c u → u = cv) {σ : L2.St} {H : Hp} {Q : VK} (h : tX K i a cls d (xIsi ms) σ H Q) : tCB (rIsO (d := d) K a cls) (tCons (tVar i) (tCons (tC c) tNil)) σ H Q := by
  obtain ⟨γ, Hk, k, fs, r, γ2, su, o, ee, q⟩ := h
  unfold xIsi at ee
  split at ee <;> cases ee
  rename_i bb el
  obtain ⟨C, dd, vs, rfl, hC, rfl, hx, hfl, hσ⟩ := su
  have hm : (k, bb) ∈ ms := PySem.mem_of_lookup el
  obtain ⟨C', hC', CC, hk⟩ := T _ hm
  cases hC.fn hC'
  exact ⟨.ref a, hσ, c, cv, bb, C, dd, vs, rfl, hcv, rfl, CC, hk, o.sub _ _ hx, rfl, q _ H Hk (Go.refl o) (.bl _)⟩
/-- isinstance(e, X), X an own class -/
theorem ex_isiC {tx : Str} {C2 : Addr} {ms : List (Str × Bool)} (hm : X.mg "isinstance" = none) (hg : Gl X "isinstance") (hm2 : X.mg tx = some (.ref C2)) (hg2 : Gl X tx) (T : ∀ p ∈ ms, IsiC X.K (.ref C2) p) (hz : Zc cls d oe) (hf : ∃ vs, oe.data = .fields vs) (hN : X.N[i]? = some nm) (hv : Vis X.env.scope nm)
    (hd : (nm == ("__debug__" : Str)) = false := by decide) (hcd : (nm == ("__classdict__" : Str)) = false := by decide) (hdb : (tx == ("__debug__" : Str)) = false := by decide)
    (he1 : starEach [.Name tx p2] X.env = (false, eval (.Name tx p2) X.env) :: starEach [] X.env := by rfl)
    (he : starEach [.Name nm p, .Name tx p2] X.env = (false, eval (.Name nm p) X.env) :: starEach [.Name tx p2] X.env := by rfl) (hpl : (backTo pos (starEach [.Name tx p2] X.env)).any (·.1) = false := by rfl) {p0 : Pos} :
    EX (X.suite a ((a, oe) :: pn)) i a cls d (.Call (.Name "isinstance" p0) [.Name nm p, .Name tx p2] [] pos) (xIsi ms) :=
  PE.imp (pe_callB (X := X.suite a ((a, oe) :: pn)) (call_isO hz hf) hg hm PyProof.Rows.boot_isinstance (pa_cons (pe_var (X := X.suite a ((a, oe) :: pn)) hN hv hd hcd) (pa_cons (pe_glob (v := .ref C2) (X := X.suite a ((a, oe) :: pn)) hg2 hm2 rfl hdb) pa_nil he1) he) (he := he) (hpl := hpl)) fun _ _ _ h => isi_imp (c := .ref C2) T (fun u hu => hu) h
/-- isinstance(e, T), T a built-in class -/
theorem ex_isiT {tx : Str} {T2 : String} {ms : List (Str × Bool)} (hm : X.mg "isinstance" = none) (hg : Gl X "isinstance") (hm2 : X.mg tx = none) (hg2 : Gl X tx) (hbt : bootBuiltins tx = some (.type T2)) (T : ∀ p ∈ ms, IsiC X.K (.type T2) p) (hz : Zc cls d oe) (hf : ∃ vs, oe.data = .fields vs) (hN : X.N[i]? = some nm) (hv : Vis X.env.scope nm)
    (hd : (nm == ("__debug__" : Str)) = false := by decide) (hcd : (nm == ("__classdict__" : Str)) = false := by decide) (hn : tx ≠ "__name__" := by decide) (hdb : (tx == ("__debug__" : Str)) = false := by decide)
    (he1 : starEach [.Name tx p2] X.env = (false, eval (.Name tx p2) X.env) :: starEach [] X.env := by rfl)
    (he : starEach [.Name nm p, .Name tx p2] X.env = (false, eval (.Name nm p) X.env) :: starEach [.Name tx p2] X.env := by rfl) (hpl : (backTo pos (starEach [.Name tx p2] X.env)).any (·.1) = false := by rfl) {p0 : Pos} :
    EX (X.suite a ((a, oe) :: pn)) i a cls d (.Call (.Name "isinstance" p0) [.Name nm p, .Name tx p2] [] pos) (xIsi ms) :=
  PE.imp (pe_callB (X := X.suite a ((a, oe) :: pn)) (call_isO hz hf) hg hm PyProof.Rows.boot_isinstance (pa_cons (pe_var (X := X.suite a ((a, oe) :: pn)) hN hv hd hcd) (pa_cons (pe_bltn (v := .ty T2) (X := X.suite a ((a, oe) :: pn)) hg2 hm2 hbt rfl hn hdb) pa_nil he1) he) (he := he) (hpl := hpl)) fun _ _ _ h => isi_imp (c := .ty T2) T (fun u hu => hu) h
end
/-! statements of the suite -/
abbrev Tx := Str → List (Str × D) → Fs
def tSx (K : PySem.W.Frag) (i : Nat) (a : Addr) (cls : Value) (d : Option Addr) (T : Tx) : TS := fun Z σ H => ∃ γ Hk c fs o, SuOk K i a cls d c fs σ Hk ∧ Ok K σ H Hk γ ∧ T c fs γ = some o ∧ Fin K (fun _ _ _ _ => False) Z σ H Hk γ o
def SX (X : Cx) (i : Nat) (a : Addr) (cls : Value) (d : Option Addr) (s : Stmt) (T : Tx) : Prop := PS X s (tSx X.K i a cls d T)
def SXs (X : Cx) (i : Nat) (a : Addr) (cls : Value) (d : Option Addr) (s : List Stmt) (T : Tx) : Prop := PSs X s (tSx X.K i a cls d T)
@[simp] def xRet (g : Gx) : Tx := fun c fs => sRet (g c fs)
@[simp] def xAsg (g : Gx) (j : Nat) : Tx := fun c fs => sAsg (g c fs) (gDat j)
@[simp] def xApp (j : Nat) (g : Gx) : Tx := fun c fs => sApp j (g c fs)
@[simp] def xIf (g : Gx) (T U : Tx) : Tx := fun c fs => sIf (ofB (g c fs)) (T c fs) (U c fs)
@[simp] def xSeq (T : Tx) (F : Fs) : Tx := fun c fs => sSeq (T c fs) F
section
variable {X : Cx} {i j : Nat} {a : Addr} {cls : Value} {d : Option Addr} {e : Expr} {g : Gx} {T U : Tx} {F : Fs} {pos p' : Pos} {s : Stmt} {ss : List Stmt} {x : Str}
theorem su_of {m : Str → Option Bool} (h : SXs X i a cls d ss T) : PSs X ss (tSu X.K i m T a cls d) := PSs.imp h fun Z σ H ⟨γ, Hk, c, fs, C, dd, vs, o, e1, e2, e3, e4, e5, e6, e7, e8, k, e9, e10, q⟩ => ⟨γ, Hk, c, fs, o, ⟨C, dd, vs, e1, e2, e4, e5, e6, e7⟩, k, e10, q⟩
theorem sx_ret (he : EX X i a cls d e g) : SX X i a cls d (.Return (some e) pos) (xRet g) := PS.imp (ps_ret he) fun Z σ H ⟨γ, Hk, c, fs, o, su, k, ee, q⟩ => by
  unfold xRet sRet at ee
  split at ee <;> cases ee
  rename_i d γ1 ef
  exact ⟨γ, Hk, c, fs, d, γ1, su, k, ef, fun v H1 Hk1 g1 r1 => q _ _ _ _ g1 r1⟩
theorem sx_es (h : ES X (fun _ _ _ _ => False) s F) : SX X i a cls d s (fun _ _ => F) := PS.imp h fun Z σ H ⟨γ, Hk, c, fs, o, su, k, ee, q⟩ => ⟨γ, Hk, o, k, ee, q⟩
theorem sx_set (hN : X.N.Nodup) (hi : X.N[j]? = some x) (hx : Loc X.env.scope x) (he : EX X i a cls d e g) (hs : swapsWith e (some (.Name x p')) pos.line X.env = pure false := by rfl) (hf : X.fn x = true ∨ X.env.scope.names.lookup x = some .local := by first | exact .inl rfl | exact .inr rfl | assumption) :
    SX X i a cls d (.Assign [.Name x p'] e pos) (xAsg g j) := PS.imp (ps_set hN hi hx he hs hf) fun Z σ H ⟨γ, Hk, c, fs, o, su, k, ee, q⟩ => by
  unfold xAsg sAsg at ee
  split at ee
  · rename_i d γ1 ef
    split at ee <;> cases ee
    rename_i γ2 et
    exact ⟨γ, Hk, c, fs, d, γ1, su, k, ef, fun v H1 Hk1 g1 r1 => gDat_imp ⟨γ1, Hk1, d, γ2, g1.ok, r1, et, fun σ2 g2 => q σ2 H1 Hk1 (g1.trans g2)⟩⟩
  · cases ee
/-- tests that know the exception -/
abbrev Ux := Str → List (Str × D) → Ft
def tTx (K : PySem.W.Frag) (i : Nat) (a : Addr) (cls : Value) (d : Option Addr) (u : Ux) : TT := fun σ H Q => ∃ γ Hk c fs b γ2, SuOk K i a cls d c fs σ Hk ∧ Ok K σ H Hk γ ∧ u c fs γ = some (b, γ2) ∧ ∀ H2 Hk2, Go K σ H Hk γ σ H2 Hk2 γ2 → Q b H2
def XT (X : Cx) (i : Nat) (a : Addr) (cls : Value) (d : Option Addr) (e : Expr) (u : Ux) : Prop := PT X e (tTx X.K i a cls d u)
def XW (X : Cx) (i : Nat) (a : Addr) (cls : Value) (d : Option Addr) (e : Expr) (u : Ux) : Prop := PW X e (tTx X.K i a cls d u)
@[simp] def xB (g : Gx) : Ux := fun c fs => ofB (g c fs)
@[simp] def xTAnd (u v : Ux) : Ux := fun c fs => cAnd (u c fs) (v c fs)
theorem xt_val (h : EX X i a cls d e g) (he : ∀ whole, isTrue e X.env whole = (do let v ← whole; standAt e.pos; holding [v] (truthy v)) := by intro _; rfl) : XT X i a cls d e (xB g) := PT.imp (pt_val h he) fun σ H Q ⟨γ, Hk, c, fs, b, γ2, su, o, ee, q⟩ => by
  unfold xB ofB at ee
  split at ee <;> cases ee
  rename_i ef
  refine ⟨γ, Hk, c, fs, _, γ2, su, o, ef, fun v H2 Hk2 g r => ?_⟩
  cases r
  exact ⟨_, rfl, q H2 Hk2 g⟩
theorem xw_and1 {u : Ux} (h : XT X i a cls d e u) : XW X i a cls d (.BoolOp .And [e] pos) u := pw_and1 h
theorem xw_and {u v : Ux} {b : Expr} {rest : List Expr} (h : XT X i a cls d e u) (hr : XW X i a cls d (.BoolOp .And (b :: rest) pos) v) : XW X i a cls d (.BoolOp .And (e :: b :: rest) pos) (xTAnd u v) := PW.imp (pw_and h hr) fun σ H Q ⟨γ, Hk, c, fs, b, γ2, su, o, ee, q⟩ => by
  unfold xTAnd cAnd at ee
  split at ee
  · rename_i γ1 eu
    exact ⟨γ, Hk, c, fs, true, γ1, su, o, eu, fun H1 Hk1 g1 => iteT ⟨γ1, Hk1, c, fs, b, γ2, su.mono g1.kk, g1.ok, ee, fun H2 Hk2 g2 => q H2 Hk2 (g1.trans g2)⟩⟩
  · rename_i γ1 eu
    cases ee
    exact ⟨γ, Hk, c, fs, false, _, su, o, eu, fun H1 Hk1 g1 => iteF (q H1 Hk1 g1)⟩
  · cases ee
theorem xt_w {u : Ux} (h : XW X i a cls d e u) : XT X i a cls d e u := h.pt
@[simp] def xIfT (u : Ux) (T U : Tx) : Tx := fun c fs => sIf (u c fs) (T c fs) (U c fs)
theorem sx_if {u : Ux} {A B : List Stmt} (hc : XT X i a cls d e u) (ha : SXs X i a cls d A T) (hb : SXs X i a cls d B U) : SX X i a cls d (.If e A B pos) (xIfT u T U) := PS.imp (ps_if hc ha hb) fun Z σ H ⟨γ, Hk, c, fs, o, su, k, ee, q⟩ => by
  unfold xIfT sIf at ee
  split at ee
  · rename_i γ1 ec
    exact ⟨γ, Hk, c, fs, true, γ1, su, k, ec, fun H1 Hk1 g1 => iteT ⟨γ1, Hk1, c, fs, o, su.mono g1.kk, g1.ok, ee, q.back g1⟩⟩
  · rename_i γ1 ec
    exact ⟨γ, Hk, c, fs, false, γ1, su, k, ec, fun H1 Hk1 g1 => iteF ⟨γ1, Hk1, c, fs, o, su.mono g1.kk, g1.ok, ee, q.back g1⟩⟩
  · cases ee
theorem sxs_nil : SXs X i a cls d [] (fun _ _ => sNil) := PSs.imp pss_nil fun Z σ H ⟨γ, Hk, c, fs, o, su, k, ee, q⟩ => by
  cases ee
  exact q σ H Hk (Go.refl k)
theorem sx_app (j : Nat) {b : Expr} {apos cpos : Pos} (ho : PE X b (tVar j)) (he : EX X i a cls d e g)
    (hbase : attributeBase b "append" X.env (eval b X.env) = eval b X.env := by rfl)
    (hfew : ((backTo cpos (starEach [e] X.env)).all (fun x => !x.1) && (backToKw cpos (keywordEach [] X.env)).all (fun x => x.1.isSome)
      && decide ([e].length + ([] : List Keyword).length + (if ([] : List Keyword).isEmpty then 0 else 1) < 30)) = true := by rfl)
    (hline : (apos.endLine == cpos.line) = true := by rfl) (hs : starEach [e] X.env = (false, eval e X.env) :: starEach [] X.env := by rfl) (hplain : (backTo cpos (starEach [] X.env)).any (·.1) = false := by rfl)
    (hsw : swapsWith (.Call (.Attribute b "append" apos) [e] [] cpos) none pos.line X.env = pure false := by rfl) :
    SX X i a cls d (.Expr (.Call (.Attribute b "append" apos) [e] [] cpos) pos) (xApp j g) :=
  PS.imp (ps_expr (pe_bm PySem.F.plainAttrs_list PySem.F.slot_list_append PySem.F.type_list_append mt_append ho (pa_cons he pa_nil hs) hbase hfew hline hs hplain) hsw) fun Z σ H ⟨γ, Hk, c, fs, o, su, k, ee, q⟩ => by
  unfold xApp sApp at ee
  split at ee
  · rename_i b0 ds0 e0
    split at ee
    · rename_i d γ1 ef
      split at ee
      · rename_i b ds eo
        split at ee <;> cases ee
        rename_i cz
        obtain ⟨p, vs0, e1, hp0, _⟩ := k.own j _ _ e0
        refine ⟨_, e1, .inl ⟨rfl, _, SqL.of hp0⟩, γ, Hk, c, fs, d, γ1, su, k, ef, fun v H1 Hk1 g1 r1 => ?_⟩
        obtain ⟨p', vs, e2, hp, _, ra⟩ := g1.ok.own j _ _ eo
        rw [e1] at e2; cases e2
        exact ⟨p, vs, v, rfl, rfl, hp, by rw [dps_len ra]; exact okN_lt cz, q _ _ _ (g1.trans (g1.ok.write eo e1 (dps_app ra (.cons r1 .nil))))⟩
      · cases ee
    · cases ee
  · cases ee
theorem sxs_one (h : SX X i a cls d s T) : SXs X i a cls d [s] T := pss_one h
theorem sxs_cons (h : SX X i a cls d s T) (hr : ESs X (fun _ _ _ _ => False) ss F) : SXs X i a cls d (s :: ss) (xSeq T F) := PSs.imp (pss_cons h hr) fun Z σ H ⟨γ, Hk, c, fs, o, su, k, ee, q⟩ => by
  unfold xSeq sSeq at ee
  split at ee
  · rename_i γ1 ef
    exact ⟨γ, Hk, c, fs, _, su, k, ef, fun σ2 H2 Hk2 g => ⟨γ1, Hk2, o, g.ok, ee, q.back g⟩⟩
  · rename_i o' hne
    refine ⟨γ, Hk, c, fs, o, su, k, ee, ?_⟩
    cases o with
    | nx γ2 => exact absurd ee (hne γ2)
    | rt d γ2 => exact q
    | bk γ2 => exact q
    | ct γ2 => exact q
    | rs c fs γ2 => exact q
    | ro y γ2 => exact q
end
end DN
namespace DN
open PySem PySem.Spec PyProof.Rows L2
/-! ### what the written part says of the classes, as questions that are answered by computing -/
def clsAt (K : PySem.W.Frag) (x : Str) : Option Addr := match PySem.W.nsIn K mainGlobals x with
  | some (some (.ref C)) => some C
  | _ => none
theorem clsAt_ok {K : PySem.W.Frag} {x : Str} {C : Addr} (h : clsAt K x = some C) : ClsIs K x C := by
  unfold clsAt at h
  split at h <;> cases h
  rename_i e
  exact e
def exmB (K : PySem.W.Frag) (cv : Value) (ms : List (Str × Bool)) : Bool := ms.all fun p => match clsAt K p.1 with
  | some C => decide (PySem.W.exmOne K (.ref C) cv = some p.2)
  | none => false
def excsB (K : PySem.W.Frag) (x : Str) (ms : List (Str × Bool)) : Bool := match clsAt K x with
  | some C2 => exmB K (.ref C2) ms
  | none => false
def ExmP (K : PySem.W.Frag) (cv : Value) (p : Str × Bool) : Prop := ∃ C, ClsIs K p.1 C ∧ PySem.W.exmOne K (.ref C) cv = some p.2
/-- the class x in an except clause, and which of the own classes it takes -/
def ExcE (K : PySem.W.Frag) (mg : Str → Option Value) (x : Str) (ms : List (Str × Bool)) : Prop := ∃ C2, mg x = some (.ref C2) ∧ ∀ p ∈ ms, ExmP K (.ref C2) p
theorem exmB_ok {K : PySem.W.Frag} {cv : Value} {ms : List (Str × Bool)} (h : exmB K cv ms = true) : ∀ p ∈ ms, ExmP K cv p := by
  intro p hp
  unfold exmB at h
  rw [List.all_eq_true] at h
  have := h p hp
  split at this
  · rename_i C e
    exact ⟨C, clsAt_ok e, of_decide_eq_true this⟩
  · cases this
theorem excsB_ok {K : PySem.W.Frag} {h : Heap} {mg : Str → Option Value} {x : Str} {ms : List (Str × Bool)} (KX : K.In h) (G : h.Ns mainGlobals mg) (q : excsB K x ms = true) : ExcE K mg x ms := by
  unfold excsB at q
  split at q
  · rename_i C2 e
    exact ⟨C2, PySem.W.mg_of KX G (clsAt_ok e), exmB_ok q⟩
  · cases q
theorem exm_hm {K : PySem.W.Frag} {cv : Value} {ms : List (Str × Bool)} (T : ∀ p ∈ ms, ExmP K cv p) : ∀ c C b, ClsIs K c C → (fun c => ms.lookup c) c = some b → PySem.W.exmOne K (.ref C) cv = some b := fun c C b hC hm => by
  obtain ⟨C', hC', e⟩ := T _ (PySem.mem_of_lookup hm)
  cases hC.fn hC'
  exact e
def fldB (K : PySem.W.Frag) (n : Str) (cs : List Str) : Bool := cs.all fun c => match clsAt K c with
  | some C => xfB K C && decide (PySem.W.findIn K (.ref C) n = some none)
  | none => false
theorem fldB_ok {K : PySem.W.Frag} {n : Str} {cs : List Str} (h : fldB K n cs = true) : ∀ c ∈ cs, FldC K n c := by
  intro c hc
  unfold fldB at h
  rw [List.all_eq_true] at h
  have := h c hc
  split at this
  · rename_i C e
    rw [Bool.and_eq_true, decide_eq_true_eq] at this
    exact ⟨C, clsAt_ok e, xfB_ok this.1, this.2⟩
  · cases this
def isiB (K : PySem.W.Frag) (cv : Value) (ms : List (Str × Bool)) : Bool := ms.all fun p => match clsAt K p.1 with
  | some C => xfB K C && (clsFactsB K C && decide (PySem.W.kitOne K (.ref C) cv = some p.2))
  | none => false
theorem isiB_ok {K : PySem.W.Frag} {cv : Value} {ms : List (Str × Bool)} (h : isiB K cv ms = true) : ∀ p ∈ ms, IsiC K cv p := by
  intro p hp
  unfold isiB at h
  rw [List.all_eq_true] at h
  have := h p hp
  split at this
  · rename_i C e
    unfold clsFactsB at this
    simp only [Bool.and_eq_true, decide_eq_true_eq] at this
    obtain ⟨h1, ⟨h2, h3, h4, h5⟩, h6⟩ := this
    have xf := xfB_ok h1
    exact ⟨C, clsAt_ok e, ⟨xf.ga, xf.gg, xf.exC, xf.hdC, h2, h3, h4, h5⟩, h6⟩
  · cases this
def IsiE (K : PySem.W.Frag) (mg : Str → Option Value) (x : Str) (ms : List (Str × Bool)) : Prop := ∃ C2, mg x = some (.ref C2) ∧ ∀ p ∈ ms, IsiC K (.ref C2) p
def isisB (K : PySem.W.Frag) (x : Str) (ms : List (Str × Bool)) : Bool := match clsAt K x with
  | some C2 => isiB K (.ref C2) ms
  | none => false
theorem isisB_ok {K : PySem.W.Frag} {h : Heap} {mg : Str → Option Value} {x : Str} {ms : List (Str × Bool)} (KX : K.In h) (G : h.Ns mainGlobals mg) (q : isisB K x ms = true) : IsiE K mg x ms := by
  unfold isisB at q
  split at q
  · rename_i C2 e
    exact ⟨C2, PySem.W.mg_of KX G (clsAt_ok e), isiB_ok q⟩
  · cases q
/-! ### the makers -/
def clsBody : Stmt → List Stmt
  | .ClassDef _ _ _ b _ _ _ _ _ _ _ => b
  | _ => []
def methS (s : Stmt) (i : Nat) : Stmt := (clsBody s).getD i (.Pass ⟨0, 0, 0, 0⟩)
def scopeB (r : Str) (sc : Scope) : Bool := sc.kind == .function && (!sc.isCoroutine && (!sc.isGenerator && (sc.names.all (fun x => x.2 != .cell) && (sc.names.all (fun x => x.2 != .free || x.1 == ("__class__" : Str)) &&
  (sc.names.lookup ("self" : Str) == some .local && (sc.names.lookup r == some .local && (sc.names.lookup ("super" : Str) == some .globalImplicit && (sc.names.lookup ("__class__" : Str) == some .free && r != ("self" : Str)))))))))
theorem scopeB_ok {r : Str} {sc : Scope} (h : scopeB r sc = true) : InitScope r sc := by
  unfold scopeB at h
  simp only [Bool.and_eq_true, beq_iff_eq, Bool.not_eq_true', List.all_eq_true, bne_iff_ne, Bool.or_eq_true] at h
  obtain ⟨h1, h2, h3, h4, h5, h6, h7, h8, h9, h10⟩ := h
  refine ⟨h1, h2, h3, fun x hx => h4 x hx, fun x hx e => ?_, h6, h7, h8, h9, h10⟩
  rcases h5 x hx with z | z
  · exact absurd e z
  · exact z
theorem exc_mk {P : Program} {w : World} {K : PySem.W.Frag} {mg : Str → Option Value} {base h : Heap} {c fld r qual z : Str} {scope : Scope} {C f cda cc : Addr} {oc : Value} {od : Option Addr} {osl : Array (Option Value)} {params : Arguments} {body : List Stmt} {dV kV doc pm ct : Value} {an : Option Addr} {name : Str} {ar : Arg}
    {p0 p1 p2 p3 p4 p5 p6 p7 p8 q1 q2 q3 q4 : Pos} {kd : Nat} {pl : Addr → Sem Bool} (KX : K.In h) (G : h.Ns mainGlobals mg) (hm : mg "super" = none) (ha : PySem.W.nsIn K mainGlobals c = some (some (.ref C))) (hb : excB P K C f cda cc fld = true) (S : scopeB r scope = true) (hcd : PySem.W.codeIn K (.ref cda) qual = true)
    (lk : K.lookup f = some ⟨oc, od, .func (PySem.W.ksFn name qual params body scope dV kV doc pm an (.ref cda) ct cc), osl⟩)
    (hbo : body = [.Expr (.Call (.Attribute (.Call (.Name "super" p0) [] [] p1) "__init__" p2) [.JoinedStr [.Constant (.str z) kd p4, .FormattedValue (.Name r p5) (-1) none p6] p7] [] p3) p8, .Assign [.Attribute (.Name "self" q1) fld q2] (.Name r q3) q4])
    (hz : z.length ≤ 1000) (hp : (params.posonlyargs ++ params.args).head? = some ar) (har : ar.arg = ("self" : Str)) (hrd : (r == ("__debug__" : Str)) = false) (hrc : (r == ("__classdict__" : Str)) = false)
    (hev : ∀ L : Addr, eval (.Call (.Attribute (.Call (.Name "super" p0) [] [] p1) "__init__" p2) [.JoinedStr [.Constant (.str z) kd p4, .FormattedValue (.Name r p5) (-1) none p6] p7] [] p3) (PySem.W.ksEnv qual scope L f (.ref cda) cc) = (do
      let ov ← attributeBase (.Call (.Name "super" p0) [] [] p1) "__init__" (PySem.W.ksEnv qual scope L f (.ref cda) cc) (eval (.Call (.Name "super" p0) [] [] p1) (PySem.W.ksEnv qual scope L f (.ref cda) cc))
      standAt p2.atName
      let (f', first) ← holding [ov] (getMethod ov "__init__" (pl L))
      callWith p3 f' first (backTo p3 (starEach [.JoinedStr [.Constant (.str z) kd p4, .FormattedValue (.Name r p5) (-1) none p6] p7] (PySem.W.ksEnv qual scope L f (.ref cda) cc))) []))
    (hbi : ∀ us : List Value, us.length = 2 → bindArgs (PySem.W.ksFn name qual params body scope dV kV doc pm an (.ref cda) ct cc) ⟨us, []⟩ = pure ((["self", r] : List Str).zip us)) : ExcN P w K mg base c fld := by
  subst hbo
  have E := excB_ok hb
  exact ⟨C, E.ic.oex, E.xf, E.ex, E.no, ha, PySem.W.mg_of KX G ha, f, _, r, E.ini, E.fn, fn_exinit (scopeB_ok S) E.ic E.no hm hcd hz lk hp har hrd hrc hev, Binds.all hbi⟩
end DN
namespace DN
open PySem PySem.Spec PyProof.Rows L2
/-! ### text * number -/
def repS (x : Str) (n : Int) : Str := if n < 1 then Str.empty else if (n == 1 || x.length == 0) = true then x else ⟨(List.replicate n.toNat x.cps).foldl (· ++ ·) #[]⟩
def mulTD : D → D → Option D
  | .str x, .int n => if decide (-1000 < n) && (decide (n < 1000) && decide (x.length ≤ 1000)) then some (.str (repS x n)) else none
  | _, _ => none
theorem fold_size (a : Array Nat) : ∀ (k : Nat) (b : Array Nat), ((List.replicate k a).foldl (· ++ ·) b).size = b.size + k * a.size
  | 0, b => by simp
  | k + 1, b => by
    rw [List.replicate_succ, List.foldl_cons, fold_size a k, Array.size_append, Nat.succ_mul]
    omega
def rMulT : R2 := fun a b H Q => ∃ (x : Str) (n : Int), a = .str x ∧ b = .int n ∧ -1000 < n ∧ n < 1000 ∧ x.length ≤ 1000 ∧ Q (.str (repS x n)) H
theorem x_mulT {X : Cx} : OpR X (binaryOp .Mult) rMulT := by
  intro pins s σ H a b v u Q I ra rb h
  obtain ⟨x, n, rfl, rfl, h1, h2, h3, q⟩ := h
  obtain ⟨t, rfl⟩ := ra
  obtain ⟨k, rfl⟩ := rb
  have prod : (x.length : Int) * n ≤ 1000 * 1000 := by
    by_cases hn : 0 ≤ n
    · exact Int.mul_le_mul (by omega) (by omega) hn (by omega)
    · have : (x.length : Int) * n ≤ 0 := Int.mul_nonpos_of_nonneg_of_nonpos (by omega) (by omega)
      omega
  refine PySem.P.mul_str (by rw [decide_eq_false (by omega), decide_eq_false (by omega)]; rfl) (fun p _ => ?_) (fun p _ => ?_) ?_
  · have : (x.length : Int) ≤ (2 ^ 63 - 1) / n := Int.le_ediv_of_mul_le (by omega) (by omega)
    omega
  · have e : ((x.length * n.toNat : Nat) : Int) = (x.length : Int) * n := by rw [Int.natCast_mul, show ((n.toNat : Nat) : Int) = n by omega]
    have small : x.length * n.toNat ≤ 1000 * 1000 := by omega
    have : (1000 * 1000 : Nat) ≤ sizeLine := by decide
    unfold PySem.Builtin.Str.tooLong
    exact decide_eq_false (by omega)
  · unfold repS at q
    by_cases c : n < 1
    · rw [if_pos c] at q ⊢
      exact ⟨by decide, .str Str.empty, H, I.tok _, ⟨_, rfl⟩, q⟩
    · rw [if_neg c] at q ⊢
      by_cases c2 : (n == 1 || x.length == 0) = true
      · rw [if_pos c2] at q ⊢
        exact ⟨.str x, H, I, ⟨_, rfl⟩, q⟩
      · rw [if_neg c2] at q ⊢
        refine ⟨?_, .str _, H, I.tok _, ⟨_, rfl⟩, q⟩
        have e : ((x.length * n.toNat : Nat) : Int) = (x.length : Int) * n := by rw [Int.natCast_mul, show ((n.toNat : Nat) : Int) = n by omega]
        have : (1000 * 1000 : Nat) ≤ sizeLine := by decide
        show ((List.replicate n.toNat x.cps).foldl (· ++ ·) #[]).size ≤ sizeLine
        rw [fold_size, Nat.mul_comm]
        have : x.cps.size = x.length := rfl
        rw [this]
        simp only [List.size_toArray, List.length_nil]
        omega
theorem o_mulT {K : PySem.W.Frag} : Op2 K rMulT mulTD := by
  intro H Hk x y dx dy dz Q s vx vy e q
  unfold mulTD at e
  split at e
  · split at e <;> cases e
    rename_i c
    rw [Bool.and_eq_true, Bool.and_eq_true] at c
    cases vx.str
    cases vy.int
    exact ⟨_, _, rfl, rfl, of_decide_eq_true c.1, of_decide_eq_true c.2.1, of_decide_eq_true c.2.2, q _ H Hk (Grow.refl s) (.str _)⟩
  · cases e
/-! ### sum of a tuple of whole numbers -/
theorem pre_sum (ns : List Int) : ∀ n, n ≤ ns.length → preSum (fun i => ns.getD i 0) n = (ns.take n).sum
  | 0, _ => by simp [preSum]
  | n + 1, h => by
    have ih := pre_sum ns n (by omega)
    have e : ns.take (n + 1) = ns.take n ++ [ns.getD n 0] := by
      rw [List.take_add_one]
      congr 1
      have hn : n < ns.length := by omega
      simp [List.getElem?_eq_getElem hn]
    rw [e, List.sum_append, ← ih]
    simp [preSum]
def rSumT (K : PySem.W.Frag) : List V → Hp → VK → Prop := fun vs H Q => ∃ (a : Addr) (ns : List Int), vs = [V.ref a] ∧ SqT K H a (ns.map V.int) ∧ Q (.int ns.sum) H
theorem cr_sumT {X : Cx} (hc : X.calm = true) : CallR X (.builtin "sum") (rSumT X.K) := by
  intro pins s σ H vs us Q I r h
  obtain ⟨a, ns, rfl, hs, q⟩ := h
  obtain ⟨its, rv, hl, _⟩ := I.tuple hs
  rw [Vals.ref1 r]
  have len : its.length = ns.length := by have := rv.length; simpa using this.symm
  have each : ∀ (i : Nat) (v : Value), its.toArray[i]? = some v → ∃ t, v = .int (ns.getD i 0) t := by
    intro i v hv
    have hv' : its[i]? = some v := by simpa using hv
    have hi : i < ns.length := by
      have := (List.getElem?_eq_some_iff.mp hv').1
      omega
    obtain ⟨u, eu, ru⟩ := rv.get (i := i) (x := V.int (ns[i])) (by simp [List.getElem?_map, List.getElem?_eq_getElem hi])
    rw [hv'] at eu
    cases eu
    obtain ⟨t, rfl⟩ := ru
    exact ⟨t, by simp [List.getElem?_eq_getElem hi]⟩
  have tup : s.heap.IsTuple a its.toArray := by
    obtain ⟨o, ho, hc', n, hd⟩ := hl
    exact ⟨o, ho, hc', n, hd⟩
  refine call_sum_walkAnyS (PySem.W.iter_tupleW (I.ok.hd hc) tup fun s2 e2 W st fp hwr keep => ?_)
  refine ⟨_, _, _, _, its.toArray.size, _, _, fun i => ns.getD i 0, rfl, W, st, fp, each, fun s' t' m => ?_⟩
  obtain ⟨h', tk, rfl, hk⟩ := PySem.W.moved_old e2 rfl m
  have e : preSum (fun i => ns.getD i 0) its.toArray.size = ns.sum := by
    rw [List.size_toArray, len, pre_sum ns _ (Nat.le_refl _), List.take_length]
  rw [e]
  exact ⟨.int _, H, I.kept hk, ⟨_, rfl⟩, q⟩
@[simp] def sumTD : D → Option D
  | .tuple ds => match intsD ds with
    | some ns => some (.int ns.sum)
    | none => none
  | _ => none
theorem o_sumT {K : PySem.W.Frag} : Op1 K (fun x => rSumT K [x]) sumTD := by
  intro H Hk x dx dz Q s vx e q
  unfold sumTD at e
  split at e
  · split at e <;> cases e
    rename_i en
    obtain ⟨p, vs, rfl, sp, ap⟩ := vx.tup s
    cases intsD_dps ap en
    exact ⟨p, _, rfl, sp, q _ H Hk (Grow.refl s) (.int _)⟩
  · cases e
end DN
namespace DN
open PySem PySem.Spec PyProof.Rows L2
/-! ### int(x), x a whole number, a truth value or a text -/
@[simp] def intD2 : D → Option D
  | .int i => some (.int i)
  | .bool b => some (.int (if b then 1 else 0))
  | .str a => if decide (a.length ≤ 640) then (match PySem.intText? a with
    | some n => some (.int n)
    | none => none) else none
  | _ => none
abbrev rInt2 : List V → Hp → VK → Prop := fun xs H Q => ((∃ i, xs = [V.int i] ∧ Q (.int i) H) ∨ ∃ k, xs = [V.bl k] ∧ Q (.int (if k then 1 else 0)) H) ∨ ∃ a n, xs = [V.str a] ∧ PySem.intText? a = some n ∧ a.length ≤ 640 ∧ Q (.int n) H
theorem call_int2 {X : Cx} : CallR X (.type "int") rInt2 := by
  intro pins s σ H xs us Q I r h
  rcases h with h | h
  · exact call_int1 pins s σ H xs us Q I r h
  · exact call_int_str pins s σ H xs us Q I r h
theorem o_int2 {K : PySem.W.Frag} : Op1 K (fun x H Q => rInt2 [x] H Q) intD2 := by
  intro H Hk x dx dz Q s vx e q
  unfold intD2 at e
  split at e
  · cases e
    cases vx.int
    exact .inl (.inl ⟨_, rfl, q _ H Hk (Grow.refl s) (.int _)⟩)
  · cases e
    cases vx.bl
    exact .inl (.inr ⟨_, rfl, q _ H Hk (Grow.refl s) (.int _)⟩)
  · split at e
    · split at e <;> cases e
      rename_i c _ n en
      cases vx.str
      exact .inr ⟨_, _, rfl, en, of_decide_eq_true c, q _ H Hk (Grow.refl s) (.int _)⟩
    · cases e
  · cases e
/-! ### x or y, by what x is -/
@[simp] def fOrV (f g : Fe) : Fe := fun γ => match f γ with
  | some (d, γ1) => match truD d with
    | some true => some (d, γ1)
    | some false => g γ1
    | none => none
  | none => none
theorem ev_orV {X : Cx} {a b : Expr} {rest : List Expr} {pos : Pos} {f g : Fe} (h : EV X a f) (hr : EV X (.BoolOp .Or (b :: rest) pos) g) : EV X (.BoolOp .Or (a :: b :: rest) pos) (fOrV f g) := PE.imp (pe_orT h hr) fun σ H Q ⟨γ, Hk, d, γ2, o, e, q⟩ => by
  unfold fOrV at e
  split at e
  · rename_i d1 γ1 ef
    split at e
    · rename_i et
      cases e
      exact ⟨γ, Hk, _, _, o, ef, fun w H1 Hk1 g1 r1 => ⟨true, tru_of g1.ok.sub (.inl r1) et, iteT (q _ H1 Hk1 g1 r1)⟩⟩
    · rename_i et
      exact ⟨γ, Hk, _, γ1, o, ef, fun w H1 Hk1 g1 r1 => ⟨false, tru_of g1.ok.sub (.inl r1) et, iteF ⟨γ1, Hk1, d, γ2, g1.ok, e, fun z H2 Hk2 g2 r2 => q z H2 Hk2 (g1.trans g2) r2⟩⟩⟩
    · cases e
  · cases e
end DN
namespace DN
open PySem PySem.Spec PyProof.Rows L2
/-! ### texts as lists of signs -/
def tx (l : List Nat) : Str := ⟨l.toArray⟩
abbrev Tn (l : List Nat) : D := .str (tx l)
theorem tx_len (l : List Nat) : (tx l).length = l.length := by simp [tx, Str.length]
theorem tx_cps (l : List Nat) : (tx l).cps.toList = l := by simp [tx]
theorem tx_of (s : Str) : s = tx s.cps.toList := by cases s; simp [tx]
theorem tx_inj {a b : List Nat} : tx a = tx b ↔ a = b := ⟨fun h => by have := congrArg (fun s => s.cps.toList) h; simpa [tx] using this, fun h => by rw [h]⟩
theorem tx_app (a b : List Nat) : tx (a ++ b) = tx a ++ tx b := by
  show _ = Str.append _ _
  simp [tx, Str.append]
theorem tx_add (a b : List Nat) (h : a.length + b.length ≤ 1000000) : addD (Tn a) (Tn b) = some (Tn (a ++ b)) := by
  have c : okN ((tx a).length + (tx b).length) = true := by rw [tx_len, tx_len]; exact decide_eq_true h
  show (if okN ((tx a).length + (tx b).length) then some (PyData.str (tx a ++ tx b)) else none) = _
  rw [if_pos c, ← tx_app]
theorem tx_lenD (l : List Nat) (h : l.length ≤ 1000000) : lenD (Tn l) = some (.int l.length) := by
  have c : okN (tx l).length = true := by rw [tx_len]; exact decide_eq_true h
  show (if okN (tx l).length then some (PyData.int ((tx l).length : Int)) else none) = _
  rw [if_pos c, tx_len]
theorem tx_walk (l : List Nat) : (tx l).cps.toList.map (fun c => PyData.str ⟨#[c]⟩) = l.map fun c => Tn [c] := by
  rw [tx_cps]
  rfl
theorem tx_wof {f : Fe} {γ γ1 : En} {l : List Nat} (h : f γ = some (Tn l, γ1)) : wOf f γ = some (l.map fun c => Tn [c], γ1) := by
  unfold wOf
  rw [h]
  show some ((tx l).cps.toList.map (fun c => PyData.str ⟨#[c]⟩), γ1) = _
  rw [tx_walk]
theorem tx_ixD (l : List Nat) (n : Nat) (h : l.length ≤ 1000000) {c : Nat} (hc : l[n]? = some c) : ixD (Tn l) (.int (n : Int)) = some (Tn [c]) := by
  have ck : okN (tx l).length = true := by rw [tx_len]; exact decide_eq_true h
  have hn : n < l.length := (List.getElem?_eq_some_iff.mp hc).1
  have e : atI (tx l).cps.toList (n : Int) = some c := by
    rw [tx_cps]
    have h0 : (0 : Int) ≤ n := by omega
    have h1 : (n : Int) < l.length := by omega
    simp [h0, h1, hc]
  show (if okN (tx l).length then (atI (tx l).cps.toList (n : Int)).map (fun c => PyData.str ⟨#[c]⟩) else none) = _
  rw [if_pos ck, e]
  rfl
theorem tx_ix (l : List Nat) (n : Nat) (h : l.length ≤ 1000000) {c : Nat} (hc : l[n]? = some c) : ixX (Tn l) (.int (n : Int)) = some (Tn [c]) := tx_ixD l n h hc
theorem tx_cut (l : List Nat) (a b : Nat) (h : l.length ≤ 1000000) : slD (Tn l) (some (a : Int)) (some (b : Int)) = some (Tn ((l.take b).drop a)) := by
  have ck : okN (tx l).length = true := by rw [tx_len]; exact decide_eq_true h
  have e : cutS (tx l) (some (a : Int)) (some (b : Int)) = tx ((l.take b).drop a) := by
    unfold cutS
    rw [HT.sIx_nat, HT.sIx_nat, tx_len]
    show (⟨_⟩ : Str) = ⟨_⟩
    congr 1
    rw [tx_cps]
    congr 1
    rw [List.drop_take]
    by_cases ha : a ≤ l.length
    · rw [Nat.min_eq_left ha]
      by_cases hb : b ≤ l.length
      · rw [Nat.min_eq_left hb]
      · rw [Nat.min_eq_right (by omega : l.length ≤ b), List.take_of_length_le (by rw [List.length_drop]; omega), List.take_of_length_le (by rw [List.length_drop]; omega)]
    · rw [Nat.min_eq_right (by omega : l.length ≤ a), List.drop_eq_nil_of_le (Nat.le_refl _), List.drop_eq_nil_of_le (by omega)]
      simp
  show (if okN (tx l).length then some (PyData.str (cutS (tx l) (some (a : Int)) (some (b : Int)))) else none) = _
  rw [if_pos ck, e]
theorem tx_from (l : List Nat) (a : Nat) (h : l.length ≤ 1000000) : slD (Tn l) (some (a : Int)) none = some (Tn (l.drop a)) := by
  have ck : okN (tx l).length = true := by rw [tx_len]; exact decide_eq_true h
  have e : cutS (tx l) (some (a : Int)) none = tx (l.drop a) := by
    unfold cutS
    rw [HT.sIx_nat, HT.sIx_none, tx_len]
    show (⟨_⟩ : Str) = ⟨_⟩
    congr 1
    rw [tx_cps]
    congr 1
    by_cases ha : a ≤ l.length
    · rw [Nat.min_eq_left ha, List.take_of_length_le (by rw [List.length_drop]; omega)]
    · rw [Nat.min_eq_right (by omega), List.drop_eq_nil_of_le (Nat.le_refl _), List.drop_eq_nil_of_le (by omega)]
      simp
  show (if okN (tx l).length then some (PyData.str (cutS (tx l) (some (a : Int)) none)) else none) = _
  rw [if_pos ck, e]
theorem tx_to (l : List Nat) (b : Nat) (h : l.length ≤ 1000000) : slD (Tn l) none (some (b : Int)) = some (Tn (l.take b)) := by
  have ck : okN (tx l).length = true := by rw [tx_len]; exact decide_eq_true h
  have e : cutS (tx l) none (some (b : Int)) = tx (l.take b) := by
    unfold cutS
    rw [HT.sIx_nat, HT.sIx_none, tx_len]
    show (⟨_⟩ : Str) = ⟨_⟩
    congr 1
    rw [tx_cps]
    congr 1
    rw [List.drop_zero, Nat.sub_zero]
    by_cases hb : b ≤ l.length
    · rw [Nat.min_eq_left hb]
    · rw [Nat.min_eq_right (by omega), List.take_of_length_le (Nat.le_refl _), List.take_of_length_le (by omega)]
  show (if okN (tx l).length then some (PyData.str (cutS (tx l) none (some (b : Int)))) else none) = _
  rw [if_pos ck, e]
theorem tx_in1 (c : Nat) (l : List Nat) : inS (tx [c]) (tx l) = decide (c ∈ l) := by
  have := StrLaws.found_one (tx l) c
  rw [tx_cps] at this
  exact this
theorem tx_in (c : Nat) (l : List Nat) : inX (Tn [c]) (Tn l) = some (.bool (decide (c ∈ l))) := by
  show some (PyData.bool (inS (tx [c]) (tx l))) = _
  rw [tx_in1]
theorem tx_notIn (c : Nat) (l : List Nat) : notInX (Tn [c]) (Tn l) = some (.bool (!decide (c ∈ l))) := by
  show some (PyData.bool (!inS (tx [c]) (tx l))) = _
  rw [tx_in1]
theorem tx_notInS (c : Nat) (l : List Nat) : notInSD (Tn [c]) (Tn l) = some (.bool (!decide (c ∈ l))) := by
  show some (PyData.bool (!inS (tx [c]) (tx l))) = _
  rw [tx_in1]
theorem tx_eq (a b : List Nat) : eqD (Tn a) (Tn b) = some (.bool (decide (a = b))) := by
  show some (PyData.bool (decide (tx a = tx b))) = _
  rw [decide_eq_decide.mpr tx_inj]
theorem tx_ne (a b : List Nat) : neD (Tn a) (Tn b) = some (.bool (!decide (a = b))) := by
  show some (PyData.bool (!decide (tx a = tx b))) = _
  rw [decide_eq_decide.mpr tx_inj]
theorem rep_fold (a : Array Nat) : ∀ (k : Nat) (b : Array Nat), ((List.replicate k a).foldl (· ++ ·) b).toList = b.toList ++ (List.replicate k a.toList).flatten
  | 0, b => by simp
  | k + 1, b => by
    rw [List.replicate_succ, List.foldl_cons, rep_fold a k, List.replicate_succ, List.flatten_cons, Array.toList_append, List.append_assoc]
theorem tx_mul (c n : Nat) (hn : n < 1000) : mulTD (Tn [c]) (.int (n : Int)) = some (Tn (List.replicate n c)) := by
  have c1 : (decide ((-1000 : Int) < (n : Int)) && (decide ((n : Int) < 1000) && decide ((tx [c]).length ≤ 1000))) = true := by
    rw [tx_len]
    have h1 : (-1000 : Int) < (n : Int) := by omega
    have h2 : (n : Int) < 1000 := by omega
    rw [decide_eq_true h1, decide_eq_true h2]
    rfl
  have e : repS (tx [c]) (n : Int) = tx (List.replicate n c) := by
    unfold repS
    by_cases h : (n : Int) < 1
    · rw [if_pos h]
      obtain rfl : n = 0 := by omega
      rfl
    · rw [if_neg h]
      by_cases h2 : ((n : Int) == 1 || (tx [c]).length == 0) = true
      · rw [if_pos h2]
        rw [tx_len] at h2
        have : n = 1 := by
          have h3 : (([c] : List Nat).length == 0) = false := rfl
          rw [h3, Bool.or_false] at h2
          have := eq_of_beq h2
          omega
        subst this
        rfl
      · rw [if_neg h2]
        show (⟨_⟩ : Str) = ⟨_⟩
        congr 1
        refine Array.toList_inj.mp ?_
        rw [show ((n : Int)).toNat = n by omega, rep_fold]
        simp only [List.nil_append, tx, List.toList_toArray]
        clear c1 h h2
        induction n with
        | zero => rfl
        | succ n ih => simp only [List.replicate_succ, List.flatten_cons, List.singleton_append] at ih ⊢; rw [ih (by omega)]
  show (if _ then some (PyData.str (repS (tx [c]) (n : Int))) else none) = _
  rw [if_pos c1, e]
theorem tx_join : ∀ ls : List (List Nat), Txt.join "" (ls.map tx) = tx ls.flatten := by
  have e0 : (("" : Str)).cps = #[] := by decide +kernel
  have glue : ∀ (ls : List (List Nat)) (acc : Array Nat), (ls.map tx).foldl (fun acc p => acc ++ (("" : Str)).cps ++ p.cps) acc = acc ++ ls.flatten.toArray := by
    intro ls
    induction ls with
    | nil => intro acc; simp
    | cons l ls ih =>
      intro acc
      rw [List.map_cons, List.foldl_cons, ih, e0]
      simp [tx]
  intro ls
  cases ls with
  | nil => rfl
  | cons l ls =>
    show (⟨(((l :: ls).map tx).drop 1).foldl _ (((l :: ls).map tx).headD Str.empty).cps⟩ : Str) = _
    rw [List.map_cons, List.drop_one, List.tail_cons, glue, List.headD_cons]
    simp [tx]
theorem tx_strs : ∀ ls : List (List Nat), strsD (ls.map Tn) = some (ls.map tx)
  | [] => rfl
  | l :: ls => by
    show (strsD (ls.map Tn)).map (tx l :: ·) = _
    rw [tx_strs ls]
    rfl
theorem tx_sum : ∀ ls : List (List Nat), ((ls.map tx).map (·.length)).sum = ls.flatten.length
  | [] => rfl
  | l :: ls => by
    rw [List.map_cons, List.map_cons, List.sum_cons, tx_sum ls, tx_len, List.flatten_cons, List.length_append]
theorem tx_joinD (ls : List (List Nat)) (h : ls.flatten.length ≤ 1000000) : joinD "" (.list (ls.map Tn)) = some (Tn ls.flatten) := by
  have e0 : (("" : Str)).length = 0 := by decide +kernel
  have c : okN (((ls.map tx).map (·.length)).sum + (ls.map tx).length * (("" : Str)).length) = true := by rw [tx_sum, e0, Nat.mul_zero, Nat.add_zero]; exact decide_eq_true h
  show joinL "" (ls.map Tn) = _
  unfold joinL
  rw [tx_strs]
  simp only [c, if_true, tx_join]
theorem tx_str (n : Nat) (h : n < 10 ^ 9) : strD (.int (n : Int)) = some (Tn (TL.numL n)) := by
  have c : decide (((n : Int)).natAbs < 2 ^ 1900) = true := decide_eq_true (by
    have h2 : (10 : Nat) ^ 9 ≤ 2 ^ 1900 := Nat.le_trans (by decide : (10 : Nat) ^ 9 ≤ 2 ^ 30) (Nat.pow_le_pow_right (by decide) (by decide))
    exact Nat.lt_of_lt_of_le h h2)
  show (if _ then some (PyData.str (toString (n : Int))) else none) = _
  rw [if_pos c]
  congr 2
  refine (tx_of _).trans ?_
  congr 1
  exact TL.tl_num n
theorem tx_tru (l : List Nat) (h : l.length ≤ 1000000) : truD (Tn l) = some (!l.isEmpty) := by
  have c : okN (tx l).length = true := by rw [tx_len]; exact decide_eq_true h
  show (if okN (tx l).length then some (((tx l).length : Int) != 0) else none) = _
  rw [if_pos c, tx_len]
  cases l with
  | nil => rfl
  | cons a l =>
    show some ((((a :: l).length : Nat) : Int) != 0) = some true
    exact congrArg some (bne_iff_ne.mpr (by rw [List.length_cons]; omega))
end DN
namespace DN
open PySem PySem.Spec PyProof.Rows L2
/-! ### steps of expressions, tests and statements, to be put together by a tactic -/
/-- a question that is answered by what is known, not by computing -/
def Ask (p : Prop) : Prop := p
/-- a question that may be computed -/
def Cmp (p : Prop) : Prop := p
theorem ask_of {p : Prop} (h : p) : Ask p := h
theorem cmp_of {p : Prop} (h : p) : Cmp p := h
section
variable {op : D → D → Option D} {o1 : D → Option D} {f g : Fe} {fa : Fa} {fl fh : Fp} {u v : Ft} {S T : Fs} {tg : Fg} {i j n : Nat} {γ γ1 γ2 γ3 : En} {x y z d e : D} {ds es out : List D} {b b0 c : Bool} {F : Fun'} {FX : FunX}
theorem q_C : fC d γ = some (d, γ) := rfl
theorem q_N (h : Cmp (fN i γ = some (d, γ1))) : fN i γ = some (d, γ1) := h
theorem q_f1 (h : f γ = some (x, γ1)) (k : Cmp (o1 x = some z)) : f1 o1 f γ = some (z, γ1) := by
  have k : o1 x = some z := k
  simp only [f1, h, k]
theorem q_f1n (h : Cmp (view γ i = some x)) (k : Cmp (o1 x = some z)) : f1n o1 i γ = some (z, γ) := by
  have h : view γ i = some x := h
  have k : o1 x = some z := k
  simp only [f1n, h, k]
theorem q_f2 (h : f γ = some (x, γ1)) (k : g γ1 = some (y, γ2)) (o : Cmp (op x y = some z)) : f2 op f g γ = some (z, γ2) := by
  have o : op x y = some z := o
  simp only [f2, h, k, o]
theorem q_f2n (h : Cmp (view γ i = some d)) (k : g γ = some (y, γ1)) (h2 : Cmp (view γ1 i = some x)) (o : Cmp (op x y = some z)) : f2n op i g γ = some (z, γ1) := by
  have h : view γ i = some d := h
  have h2 : view γ1 i = some x := h2
  have o : op x y = some z := o
  simp only [f2n, h, k, h2, o]
theorem q_f2m (h : f γ = some (x, γ1)) (h2 : Cmp (view γ1 i = some y)) (o : Cmp (op x y = some z)) : f2m op f i γ = some (z, γ1) := by
  have h2 : view γ1 i = some y := h2
  have o : op x y = some z := o
  simp only [f2m, h, h2, o]
theorem q_f2nn (h : Cmp (view γ i = some x)) (h2 : Cmp (view γ j = some y)) (o : Cmp (op x y = some z)) : f2nn op i j γ = some (z, γ) := by
  have h : view γ i = some x := h
  have h2 : view γ j = some y := h2
  have o : op x y = some z := o
  simp only [f2nn, h, h2, o]
theorem q_tup (h : fa γ = some (ds, γ1)) (k : Cmp (okN ds.length = true)) : fTup fa γ = some (.tuple ds, γ1) := by
  have k : okN ds.length = true := k
  simp only [fTup, h, k, if_true]
theorem q_L (h : fa γ = some (ds, γ1)) : fL fa γ = some (.list ds, γ1) := by simp only [fL, h]
theorem q_disp (h : fa γ = some (ds, γ1)) (k : Cmp (okN ds.length = true)) : lDisp fa γ = some (ds, γ1) := by
  have k : okN ds.length = true := k
  simp only [lDisp, h, k, if_true]
theorem q_nil : aNil γ = some ([], γ) := rfl
theorem q_cons (h : f γ = some (d, γ1)) (k : fa γ1 = some (ds, γ2)) : aCons f fa γ = some (d :: ds, γ2) := by simp only [aCons, h, k]
theorem q_call (h : fa γ = some (ds, γ1)) (hn : Cmp (ds.length = n)) (hf : Ask (F ds = some (d, out))) : fCall n F fa γ = some (d, γ1) := by
  have hn : ds.length = n := hn
  have hf : F ds = some (d, out) := hf
  simp only [fCall, h, hn, hf, if_true]
theorem q_callB {B0 B B' : List D} (h0 : Cmp (gt γ i = some (.ow b0 (.lst B0)))) (h : fa γ = some (ds, γ1)) (h1 : Cmp (gt γ1 i = some (.ow b (.lst B)))) (hn : Cmp (ds.length + 1 = n)) (hf : Ask (F (.list B :: ds) = some (d, B'))) (hs : Cmp (γ1.set i (some (.ow b (.lst B'))) = γ2)) : fCallB n F i fa γ = some (d, γ2) := by
  have h0 : gt γ i = some (.ow b0 (.lst B0)) := h0
  have h1 : gt γ1 i = some (.ow b (.lst B)) := h1
  have hn : ds.length + 1 = n := hn
  have hf : F (.list B :: ds) = some (d, B') := hf
  have hs : γ1.set i (some (.ow b (.lst B'))) = γ2 := hs
  simp only [fCallB, h0, h, h1, hn, hf, if_true]
  rw [← hs]
theorem q_callX (h : fa γ = some (ds, γ1)) (hn : Cmp (ds.length = n)) (hf : Ask (FX none ds = some (.da d, none))) : fCallX n FX fa γ = some (d, γ1) := by
  have hn : ds.length = n := hn
  have hf : FX none ds = some (.da d, none) := hf
  simp only [fCallX, h, hn, hf, if_true]
theorem q_pNo : pNo γ = some (none, γ) := rfl
theorem q_pOf {k : Int} (h : f γ = some (.int k, γ1)) : pOf f γ = some (some k, γ1) := by simp only [pOf, h]
theorem q_sl {lo hi : Option Int} (h : f γ = some (x, γ1)) (h1 : fl γ1 = some (lo, γ2)) (h2 : fh γ2 = some (hi, γ3)) (o : Cmp (slD x lo hi = some z)) : fSl f fl fh γ = some (z, γ3) := by
  have o : slD x lo hi = some z := o
  simp only [fSl, h, h1, h2, o]
theorem q_sln {lo hi : Option Int} (h0 : Cmp (view γ i = some d)) (h1 : fl γ = some (lo, γ1)) (h2 : fh γ1 = some (hi, γ2)) (h : Cmp (view γ2 i = some x)) (o : Cmp (slD x lo hi = some z)) : fSln i fl fh γ = some (z, γ2) := by
  have h0 : view γ i = some d := h0
  have h : view γ2 i = some x := h
  have o : slD x lo hi = some z := o
  simp only [fSln, h0, h1, h2, h, o]
theorem q_not (h : f γ = some (.bool b, γ1)) : fNot f γ = some (.bool (!b), γ1) := by simp only [fNot, h]
theorem q_neg {k : Int} (h : f γ = some (.int k, γ1)) : fNeg f γ = some (.int (-k), γ1) := by simp only [fNeg, h]
theorem q_ifT (h : u γ = some (b, γ1)) (hb : Ask (b = true)) (k : f γ1 = some (d, γ2)) : fIf u f g γ = some (d, γ2) := by
  have hb : b = true := hb
  subst hb
  simp only [fIf, h, k]
theorem q_ifF (h : u γ = some (b, γ1)) (hb : Ask (b = false)) (k : g γ1 = some (d, γ2)) : fIf u f g γ = some (d, γ2) := by
  have hb : b = false := hb
  subst hb
  simp only [fIf, h, k]
theorem q_andT (h : f γ = some (.bool b, γ1)) (hb : Ask (b = true)) (k : g γ1 = some (d, γ2)) : fAnd f g γ = some (d, γ2) := by
  have hb : b = true := hb
  subst hb
  simp only [fAnd, h, k]
theorem q_andF (h : f γ = some (.bool b, γ1)) (hb : Ask (b = false)) : fAnd f g γ = some (.bool false, γ1) := by
  have hb : b = false := hb
  subst hb
  simp only [fAnd, h]
theorem q_orF (h : f γ = some (.bool b, γ1)) (hb : Ask (b = false)) (k : g γ1 = some (d, γ2)) : fOr f g γ = some (d, γ2) := by
  have hb : b = false := hb
  subst hb
  simp only [fOr, h, k]
theorem q_orT (h : f γ = some (.bool b, γ1)) (hb : Ask (b = true)) : fOr f g γ = some (.bool true, γ1) := by
  have hb : b = true := hb
  subst hb
  simp only [fOr, h]
theorem q_orVT (h : f γ = some (d, γ1)) (hb : Cmp (truD d = some true)) : fOrV f g γ = some (d, γ1) := by
  have hb : truD d = some true := hb
  simp only [fOrV, h, hb]
theorem q_orVF (h : f γ = some (d, γ1)) (hb : Cmp (truD d = some false)) (k : g γ1 = some (e, γ2)) : fOrV f g γ = some (e, γ2) := by
  have hb : truD d = some false := hb
  simp only [fOrV, h, hb, k]
theorem q_isin {t : String} (h : Cmp (view γ i = some x)) (k : Cmp (isiD t x = some d)) : fIsin t i γ = some (d, γ) := by
  have h : view γ i = some x := h
  have k : isiD t x = some d := k
  simp only [fIsin, h, k]
theorem q_isi {t : String} (h : f γ = some (x, γ1)) (k : Cmp (isiD t x = some d)) : fIsi t f γ = some (d, γ1) := by
  have k : isiD t x = some d := k
  simp only [fIsi, f1, h, k]
theorem q_lOf (h : f γ = some (x, γ1)) (k : Cmp (listD x = some ds)) : lOf f γ = some (ds, γ1) := by
  have k : listD x = some ds := k
  simp only [lOf, h, k]
theorem q_lOfn (h : Cmp (view γ i = some x)) (k : Cmp (listD x = some ds)) : lOfn i γ = some (ds, γ) := by
  have h : view γ i = some x := h
  have k : listD x = some ds := k
  simp only [lOfn, h, k]
theorem q_wOfL (h : f γ = some (.list ds, γ1)) : wOf f γ = some (ds, γ1) := by simp only [wOf, h]
theorem q_wOfT (h : f γ = some (.tuple ds, γ1)) : wOf f γ = some (ds, γ1) := by simp only [wOf, h]
theorem q_wOfS {l : List Nat} (h : f γ = some (Tn l, γ1)) : wOf f γ = some (l.map fun c => Tn [c], γ1) := tx_wof h
theorem q_wR1 {k : Int} (h : f γ = some (.int k, γ1)) (s : Cmp (small62 k = true)) : wR1 f γ = some (rngD 0 k.toNat, γ1) := by
  have s : small62 k = true := s
  simp only [wR1, h, s, if_true]
theorem q_wR2 {k l : Int} (h : fa γ = some ([.int k, .int l], γ1)) (s : Cmp ((small62 k && small62 l) = true)) : wR2 fa γ = some (rngD k (l - k).toNat, γ1) := by
  have s : (small62 k && small62 l) = true := s
  simp only [wR2, h, s, if_true]
theorem q_wEnumL (h : f γ = some (.list ds, γ1)) : wEnum f γ = some (enumL 0 ds, γ1) := by simp only [wEnum, h]
theorem q_wEnumT (h : f γ = some (.tuple ds, γ1)) : wEnum f γ = some (enumL 0 ds, γ1) := by simp only [wEnum, h]
theorem q_ofB (h : f γ = some (.bool b, γ1)) : ofB f γ = some (b, γ1) := by simp only [ofB, h]
theorem q_cNot (h : u γ = some (b, γ1)) : cNot u γ = some (!b, γ1) := by simp only [cNot, h]
theorem q_cAndT (h : u γ = some (b, γ1)) (hb : Ask (b = true)) (k : v γ1 = some (c, γ2)) : cAnd u v γ = some (c, γ2) := by
  have hb : b = true := hb
  subst hb
  simp only [cAnd, h, k]
theorem q_cAndF (h : u γ = some (b, γ1)) (hb : Ask (b = false)) : cAnd u v γ = some (false, γ1) := by
  have hb : b = false := hb
  subst hb
  simp only [cAnd, h]
theorem q_cOrF (h : u γ = some (b, γ1)) (hb : Ask (b = false)) (k : v γ1 = some (c, γ2)) : cOr u v γ = some (c, γ2) := by
  have hb : b = false := hb
  subst hb
  simp only [cOr, h, k]
theorem q_cOrT (h : u γ = some (b, γ1)) (hb : Ask (b = true)) : cOr u v γ = some (true, γ1) := by
  have hb : b = true := hb
  subst hb
  simp only [cOr, h]
theorem q_cTru (h : f γ = some (d, γ1)) (k : Cmp (truD d = some b)) : cTru f γ = some (b, γ1) := by
  have k : truD d = some b := k
  simp only [cTru, h, k]
theorem q_cTrun (h : Cmp (view γ i = some d)) (k : Cmp (truD d = some b)) : cTrun i γ = some (b, γ) := by
  have h : view γ i = some d := h
  have k : truD d = some b := k
  simp only [cTrun, h, k]
theorem q_tYe : tYe γ = some (true, γ) := rfl
-- statements
theorem q_seq {o : Option Out} (h : S γ = some (.nx γ1)) (k : T γ1 = o) : sSeq S T γ = o := (seq_nx h).trans k
theorem q_seqRt (h : S γ = some (.rt d γ1)) : sSeq S T γ = some (.rt d γ1) := seq_rt h
theorem q_seqRs {cl : Str} {fs : List (Str × D)} (h : S γ = some (.rs cl fs γ1)) : sSeq S T γ = some (.rs cl fs γ1) := by
  unfold sSeq
  rw [h]
theorem q_seqCt (h : S γ = some (.ct γ1)) : sSeq S T γ = some (.ct γ1) := by
  unfold sSeq
  rw [h]
theorem q_seqBk (h : S γ = some (.bk γ1)) : sSeq S T γ = some (.bk γ1) := by
  unfold sSeq
  rw [h]
theorem q_asg (h : f γ = some (d, γ1)) (k : Cmp (tg d γ1 = some γ2)) : sAsg f tg γ = some (.nx γ2) := by
  have k : tg d γ1 = some γ2 := k
  simp only [sAsg, h, k]
theorem q_own (h : fa γ = some (ds, γ1)) (k : Cmp (pinB γ1 i = false)) (s : Cmp (γ1.set i (some (.own false ds)) = γ2)) : sOwn i fa γ = some (.nx γ2) := by
  have k : pinB γ1 i = false := k
  have s : γ1.set i (some (.own false ds)) = γ2 := s
  simp only [sOwn, h, k, s]
  rfl
theorem q_app (h0 : Cmp (gt γ i = some (.ow b0 (.lst es)))) (h : f γ = some (d, γ1)) (h1 : Cmp (gt γ1 i = some (.ow b (.lst ds)))) (k : Cmp (okN ds.length = true)) (s : Cmp (γ1.set i (some (.own b (ds ++ [d]))) = γ2)) : sApp i f γ = some (.nx γ2) := by
  have h0 : gt γ i = some (.ow b0 (.lst es)) := h0
  have h1 : gt γ1 i = some (.ow b (.lst ds)) := h1
  have k : okN ds.length = true := k
  have s : γ1.set i (some (.own b (ds ++ [d]))) = γ2 := s
  simp only [sApp, h0, h, h1, k, if_true, s]
theorem q_set {k : Int} {l : Nat} (h : f γ = some (d, γ1)) (h0 : Cmp (gt γ1 i = some (.ow b0 (.lst es)))) (h1 : g γ1 = some (.int k, γ2)) (h2 : Cmp (gt γ2 i = some (.ow b (.lst ds)))) (hk : Cmp (ixN ds.length k = some l)) (s : Cmp (γ2.set i (some (.own b (ds.set l d))) = γ3)) : sSet i f g γ = some (.nx γ3) := by
  have h0 : gt γ1 i = some (.ow b0 (.lst es)) := h0
  have h2 : gt γ2 i = some (.ow b (.lst ds)) := h2
  have hk : ixN ds.length k = some l := hk
  have s : γ2.set i (some (.own b (ds.set l d))) = γ3 := s
  simp only [sSet, h, h0, h1, h2, hk, s]
theorem q_ret (h : f γ = some (d, γ1)) : sRet f γ = some (.rt d γ1) := by simp only [sRet, h]
theorem q_retN : sRetN γ = some (.rt .none γ) := rfl
theorem q_sNil : sNil γ = some (.nx γ) := rfl
theorem q_sBk : sBk γ = some (.bk γ) := rfl
theorem q_sCt : sCt γ = some (.ct γ) := rfl
theorem q_drop (h : f γ = some (d, γ1)) : sDrop f γ = some (.nx γ1) := by simp only [sDrop, h]
theorem q_if_t {o : Option Out} (h : u γ = some (b, γ1)) (hb : Ask (b = true)) (k : S γ1 = o) : sIf u S T γ = o := by
  have hb : b = true := hb
  subst hb
  simp only [sIf, h, k]
theorem q_if_f {o : Option Out} (h : u γ = some (b, γ1)) (hb : Ask (b = false)) (k : T γ1 = o) : sIf u S T γ = o := by
  have hb : b = false := hb
  subst hb
  simp only [sIf, h, k]
theorem q_for {o : Option Out} (h : fa γ = some (ds, γ1)) (k : Ask (forF tg S ds γ1 = o)) : sFor fa tg S γ = o := by
  have k : forF tg S ds γ1 = o := k
  simp only [sFor, h, k]
theorem q_aug {a c : Int} {opi : Int → Int → Int} (h0 : Cmp (gt γ i = some (.dat (.int a)))) (h : f γ = some (.int c, γ1)) (k : Cmp (pinB γ1 i = false)) (s : Cmp (γ1.set i (some (.dat (.int (opi a c)))) = γ2)) : sAug opi i f γ = some (.nx γ2) := by
  have h0 : gt γ i = some (.dat (.int a)) := h0
  have k : pinB γ1 i = false := k
  have s : γ1.set i (some (.dat (.int (opi a c)))) = γ2 := s
  simp only [sAug, h0, h, k, s]
  rfl
theorem q_ext (h0 : Cmp (gt γ i = some (.ow b0 (.lst ds)))) (h : fa γ = some (es, γ1)) (h1 : Cmp (gt γ1 i = some (.ow b (.lst out)))) (k : Cmp (okN (out.length + es.length) = true)) (s : Cmp (γ1.set i (some (.own b (out ++ es))) = γ2)) : sExt i fa γ = some (.nx γ2) := by
  have h0 : gt γ i = some (.ow b0 (.lst ds)) := h0
  have h1 : gt γ1 i = some (.ow b (.lst out)) := h1
  have k : okN (out.length + es.length) = true := k
  have s : γ1.set i (some (.own b (out ++ es))) = γ2 := s
  unfold sExt
  simp only [h0, h, h1, k, if_true, s]
-- what may raise
variable {fr gr : Fr} {fs : Frs} {cl : Str} {xs : List (Str × D)}
theorem q_rEv (h : f γ = some (d, γ1)) : rEv f γ = some (.da d, γ1) := by simp only [rEv, h]
theorem q_rsEv (h : fa γ = some (ds, γ1)) : rsEv fa γ = some (.da ds, γ1) := by simp only [rsEv, h]
theorem q_rsNil : rsNil γ = some (.da [], γ) := rfl
theorem q_rsCons (h : fr γ = some (.da d, γ1)) (k : fs γ1 = some (.da ds, γ2)) : rsCons fr fs γ = some (.da (d :: ds), γ2) := by simp only [rsCons, h, k]
theorem q_rOnX (h : fs γ = some (.da ds, γ1)) (hn : Cmp (ds.length = n)) (hf : Ask (FX none ds = some (.da d, none))) : rOn fs (kCallX n FX) γ = some (.da d, γ1) := by
  have hn : ds.length = n := hn
  have hf : FX none ds = some (.da d, none) := hf
  simp only [rOn, h, kCallX, hn, if_true, hf]
theorem q_rOnXe (h : fs γ = some (.da ds, γ1)) (hn : Cmp (ds.length = n)) (hf : Ask (FX none ds = some (.er cl xs, none))) : rOn fs (kCallX n FX) γ = some (.er cl xs, γ1) := by
  have hn : ds.length = n := hn
  have hf : FX none ds = some (.er cl xs, none) := hf
  simp only [rOn, h, kCallX, hn, if_true, hf]
theorem q_r2 (h : fr γ = some (.da x, γ1)) (k : gr γ1 = some (.da y, γ2)) (o : Cmp (op x y = some z)) : r2 op fr gr γ = some (.da z, γ2) := by
  have o : op x y = some z := o
  simp only [r2, h, k, o]
theorem q_r2e (h : fr γ = some (.da x, γ1)) (k : gr γ1 = some (.er cl xs, γ2)) : r2 op fr gr γ = some (.er cl xs, γ2) := by
  simp only [r2, h, k]
theorem q_r1 (h : fr γ = some (.da x, γ1)) (o : Cmp (o1 x = some z)) : r1 o1 fr γ = some (.da z, γ1) := by
  have o : o1 x = some z := o
  simp only [r1, h, o]
theorem q_retE (h : fr γ = some (.da d, γ1)) : sRetE fr γ = some (.rt d γ1) := by simp only [sRetE, h]
theorem q_retEe (h : fr γ = some (.er cl xs, γ1)) : sRetE fr γ = some (.rs cl xs γ1) := by simp only [sRetE, h]
theorem q_dropE (h : fr γ = some (.da d, γ1)) : sDropE fr γ = some (.nx γ1) := by simp only [sDropE, h]
theorem q_dropEe (h : fr γ = some (.er cl xs, γ1)) : sDropE fr γ = some (.rs cl xs γ1) := by simp only [sDropE, h]
theorem q_asgE (h : fr γ = some (.da d, γ1)) (k : Cmp (tg d γ1 = some γ2)) : sAsgE fr tg γ = some (.nx γ2) := by
  have k : tg d γ1 = some γ2 := k
  simp only [sAsgE, h, k]
theorem q_asgEe (h : fr γ = some (.er cl xs, γ1)) : sAsgE fr tg γ = some (.rs cl xs γ1) := by simp only [sAsgE, h]
theorem q_raise {fld : Str} (h : f γ = some (d, γ1)) (k : Cmp (mkB d = true)) : sRaise (fMk cl fld f) γ = some (.rs cl [(fld, d)] γ1) := by
  have k : mkB d = true := k
  simp only [sRaise, fMk, h, k, if_true]
theorem q_run {m : Nat} (h0 : Cmp (ini false m ds = γ)) (h : S γ = some (.rt d γ1)) : runF false m S ds = some (d, []) := by
  have h0 : ini false m ds = γ := h0
  simp only [runF, h0, h]
  rfl
theorem q_runX {m : Nat} (h0 : Cmp (iniX none m ds = γ)) (h : S γ = some (.rt d γ1)) : runX m S none ds = some (.da d, none) := by
  have h0 : iniX none m ds = γ := h0
  simp only [runX, h0, h]
  rfl
theorem q_runXe {m : Nat} (h0 : Cmp (iniX none m ds = γ)) (h : S γ = some (.rs cl xs γ1)) : runX m S none ds = some (.er cl xs, none) := by
  have h0 : iniX none m ds = γ := h0
  simp only [runX, h0, h]
  rfl
theorem q_runXn {m : Nat} (h0 : Cmp (iniX none m ds = γ)) (h : S γ = some (.nx γ1)) : runX m S none ds = some (.da .none, none) := by
  have h0 : iniX none m ds = γ := h0
  simp only [runX, h0, h]
  rfl
end
end DN
namespace DN
open PySem PySem.Spec PyProof.Rows L2
/-! ### what is lent and comes back changed -/
section
variable {K : PySem.W.Frag} {σ : L2.St} {H Hk H2 Hk2 : Hp} {γ : En} {i : Nat}
theorem Ok.lend {b : Bool} {v : V} {y z : Pay} {fp fq : List Addr} (o : Ok K σ H Hk γ) (h : gt γ i = some (.ow b y)) (hs : σ[i]? = some (some v)) (r : OwnV K H Hk v y fp) (sub : Same Hk2 H2) (kk : Same Hk Hk2)
    (nw : ∀ a u, Hk2 a = some u → Hk a = none → H a = none ∨ a ∈ fp) (kp : ∀ a u, H a = some u → a ∉ fp → H2 a = some u) (r' : OwnV K H2 Hk2 v z fq) (new : ∀ a ∈ fq, a ∈ fp ∨ H a = none) : Go K σ H Hk γ σ H2 Hk2 (γ.set i (some (.ow b z))) := by
  have hi := gt_lt h
  have mine : ∀ a ∈ fp, OwnA K σ H Hk γ a := fun a ha => ⟨i, b, y, v, fp, h, hs, r, ha⟩
  have up : ∀ {j c w x fr}, i ≠ j → gt γ j = some (.ow c x) → σ[j]? = some (some w) → OwnV K H Hk w x fr → OwnV K H2 Hk2 w x fr := fun {j c w x fr} ne e ew rw' => by
    have dis : ∀ a ∈ fr, a ∉ fp := fun a ha m => ne (o.sep _ _ _ _ _ _ _ _ _ _ h e hs ew r rw' a m ha)
    refine rw'.to kk (fun a ha u q => kp a u q (dis a ha)) fun a ha => ?_
    cases q : Hk2 a with
    | none => rfl
    | some u =>
      obtain ⟨⟨u0, hu0⟩, hn⟩ := rw'.at a ha
      rcases nw a u q hn with c | c
      · rw [hu0] at c; cases c
      · exact absurd c (dis a ha)
  have get : ∀ {j c x w fr}, gt (γ.set i (some (.ow b z))) j = some (.ow c x) → σ[j]? = some (some w) → OwnV K H2 Hk2 w x fr → (i = j ∧ fr = fq) ∨ (i ≠ j ∧ gt γ j = some (.ow c x) ∧ OwnV K H Hk w x fr) := fun {j c x w fr} e ew rw' => by
    rw [gt_set] at e
    split at e
    · rename_i cc
      cases e
      rw [← cc.1, hs] at ew
      cases ew
      exact .inl ⟨cc.1, rw'.det r'⟩
    · rename_i cc
      have ne := set_ne e cc
      obtain ⟨w', fr', e', q'⟩ := o.ow j c x e
      rw [ew] at e'; cases e'
      exact .inr ⟨ne, e, by rw [rw'.det (up ne e ew q')]; exact q'⟩
  refine ⟨⟨by rw [List.length_set]; exact o.len, sub, fun j d' e => ?_, fun j c x e => ?_, fun j x e => ?_, fun j k c c' x x' w w' fr ft ej ek vj vk rj rk a hj hk => ?_, fun j kvs e => ?_⟩, kk, fun a u h n => (nw a u h n).imp id (mine a), fun a u e n => ?_, fun a e => ?_, fun j x e => ?_⟩
  · rw [gt_set] at e
    split at e
    · cases e
    · obtain ⟨w, e1, e2⟩ := o.dat j d' e
      exact ⟨w, e1, dp_mono kk e2⟩
  · rw [gt_set] at e
    split at e
    · rename_i cc
      cases e
      exact ⟨v, fq, by rw [← cc.1]; exact hs, r'⟩
    · rename_i cc
      obtain ⟨w, fr, e2, q⟩ := o.ow j c x e
      exact ⟨w, fr, e2, up (set_ne e cc) e e2 q⟩
  · rw [gt_set] at e
    split at e
    · rename_i cc
      cases e
      rw [← cc.1]
      exact o.pin _ _ h
    · exact o.pin _ _ e
  · rcases get ej vj rj with ⟨c1, rfl⟩ | ⟨c1, e1, r1⟩
    · rcases get ek vk rk with ⟨c2, rfl⟩ | ⟨c2, e2, r2⟩
      · rw [← c1, ← c2]
      · rcases new a hj with m | m
        · exact o.sep _ _ _ _ _ _ _ _ _ _ (by rw [← c1]; exact h) e2 (by rw [← c1]; exact hs) vk r r2 a m hk
        · obtain ⟨⟨u, hu⟩, _⟩ := r2.at a hk
          rw [m] at hu; cases hu
    · rcases get ek vk rk with ⟨c2, rfl⟩ | ⟨c2, e2, r2⟩
      · rcases new a hk with m | m
        · exact (o.sep _ _ _ _ _ _ _ _ _ _ (by rw [← c2]; exact h) e1 (by rw [← c2]; exact hs) vj r r1 a m hj).symm
        · obtain ⟨⟨u, hu⟩, _⟩ := r1.at a hj
          rw [m] at hu; cases hu
      · exact o.sep _ _ _ _ _ _ _ _ _ _ e1 e2 vj vk r1 r2 a hj hk
  · rw [gt_set] at e
    split at e
    · cases e
    · obtain ⟨w, e1, e2⟩ := o.tab j kvs e
      exact ⟨w, e1, e2.mono kk⟩
  · exact kp a u e fun m => n (mine a m)
  · obtain ⟨j, c, x, w, fr, e, h1, r1, m⟩ := e
    rcases get e h1 r1 with ⟨_, rfl⟩ | ⟨_, e1, r2⟩
    · rcases new a m with q | q
      · exact .inl (mine a q)
      · exact .inr q
    · exact .inl ⟨j, c, x, w, fr, e1, h1, r2, m⟩
  · refine ⟨rfl, ?_⟩
    by_cases hij : i = j
    · subst hij
      rw [h] at e; cases e
      exact ⟨z, by rw [gt_set, if_pos ⟨rfl, hi⟩]⟩
    · exact ⟨x, by rw [gt_set, if_neg (fun c => hij c.1)]; exact e⟩
end
/-! ### fields -/
def putP (f : Str) (z : Pay) : List (Str × Pay) → List (Str × Pay)
  | [] => [(f, z)]
  | (g, x) :: r => if g = f then (g, z) :: r else (g, x) :: putP f z r
/-- the value of a field, and what belongs to it; nothing if there is none -/
def FieldAt (K : PySem.W.Frag) (H Hk : Hp) (fvs : List (Str × V)) (fs : List (Str × Pay)) (f : Str) (fq : List Addr) : Prop := (∃ v y, fvs.lookup f = some v ∧ fs.lookup f = some y ∧ OwnV K H Hk v y fq) ∨ (fs.lookup f = none ∧ fvs.lookup f = none ∧ fq = [])
section
variable {K : PySem.W.Frag} {H Hk H2 Hk2 : Hp}
theorem ofs_at : ∀ {fvs : List (Str × V)} {fs : List (Str × Pay)} {fp : List Addr}, OwnFs K H Hk fvs fs fp → ∀ f, ∃ fq, FieldAt K H Hk fvs fs f fq ∧ ∀ a ∈ fq, a ∈ fp
  | _, _, _, .nil, f => ⟨[], .inr ⟨rfl, rfl, rfl⟩, fun a h => by cases h⟩
  | _, _, _, .cons (f := g) (v := v) (y := y) (fp := fp1) h1 h2 h3, f => by
    by_cases e : f = g
    · subst e
      exact ⟨fp1, .inl ⟨v, y, by simp [List.lookup], by simp [List.lookup], h1⟩, fun a h => by simp [h]⟩
    · have eb : (f == g) = false := beq_eq_false_iff_ne.mpr e
      obtain ⟨fq, hf, hs⟩ := ofs_at h2 f
      refine ⟨fq, ?_, fun a h => by simp [hs a h]⟩
      rcases hf with ⟨w, z, a1, a2, a3⟩ | ⟨a1, a2, a3⟩
      · exact .inl ⟨w, z, by simp only [List.lookup, eb]; exact a1, by simp only [List.lookup, eb]; exact a2, a3⟩
      · exact .inr ⟨by simp only [List.lookup, eb]; exact a1, by simp only [List.lookup, eb]; exact a2, a3⟩
theorem ofs_len : ∀ {fvs : List (Str × V)} {fs : List (Str × Pay)} {fp : List Addr}, OwnFs K H Hk fvs fs fp → fvs.length = fs.length
  | _, _, _, .nil => rfl
  | _, _, _, .cons _ h2 _ => congrArg (· + 1) (ofs_len h2)
theorem field_det {fvs : List (Str × V)} {fs : List (Str × Pay)} {f : Str} {fq fr : List Addr} (a : FieldAt K H Hk fvs fs f fq) (b : FieldAt K H Hk fvs fs f fr) : fq = fr := by
  rcases a with ⟨v, y, a1, a2, a3⟩ | ⟨a1, a2, a3⟩
  · rcases b with ⟨w, z, b1, b2, b3⟩ | ⟨b1, b2, b3⟩
    · rw [a1] at b1; cases b1
      rw [a2] at b2; cases b2
      exact a3.det b3
    · rw [a2] at b1; cases b1
  · rcases b with ⟨w, z, b1, b2, b3⟩ | ⟨b1, b2, b3⟩
    · rw [a1] at b2; cases b2
    · rw [a3, b3]
/-- one field is changed, the others stay -/
theorem ofs_put {f : Str} {v' : V} {z : Pay} {fq fq' : List Addr} : ∀ {fvs : List (Str × V)} {fs : List (Str × Pay)} {fp : List Addr}, OwnFs K H Hk fvs fs fp → FieldAt K H Hk fvs fs f fq → Same Hk Hk2 → (∀ a u, H a = some u → a ∈ fp → a ∉ fq → H2 a = some u) →
    (∀ a ∈ fp, a ∉ fq → Hk2 a = none) → OwnV K H2 Hk2 v' z fq' → (∀ a ∈ fq', a ∈ fq ∨ H a = none) → ∃ fp', OwnFs K H2 Hk2 (putF f v' fvs) (putP f z fs) fp' ∧ ∀ a ∈ fp', a ∈ fp ∨ H a = none
  | _, _, _, .nil, hf, kk, kp, kn, r, nw => by
    have e : fq = [] := by
      rcases hf with ⟨_, _, a1, _⟩ | ⟨_, _, e⟩
      · cases a1
      · exact e
    subst e
    exact ⟨fq' ++ [], .cons r .nil (fun a _ h => by cases h), fun a h => by
      rw [List.append_nil] at h
      rcases nw a h with q | q
      · cases q
      · exact .inr q⟩
  | _, _, _, .cons (f := g) (v := v) (y := y) (fvs := fvs) (fs := fs) (fp := fp1) (fq := fp2) h1 h2 h3, hf, kk, kp, kn, r, nw => by
    by_cases e : g = f
    · subst e
      have e1 : fq = fp1 := field_det hf (.inl ⟨v, y, by simp [List.lookup], by simp [List.lookup], h1⟩)
      subst e1
      have hv : putF g v' ((g, v) :: fvs) = (g, v') :: fvs := by simp [putF]
      have hp : putP g z ((g, y) :: fs) = (g, z) :: fs := by simp [putP]
      rw [hv, hp]
      have dis : ∀ a ∈ fp2, a ∉ fq := fun a h m => h3 a m h
      refine ⟨fq' ++ fp2, .cons r (OwnFs.to kk h2 (fun a ha u q => kp a u q (by simp [ha]) (dis a ha)) fun a ha => kn a (by simp [ha]) (dis a ha)) fun a ha hb => ?_, fun a h => ?_⟩
      · rcases nw a ha with q | q
        · exact dis a hb q
        · obtain ⟨⟨u, hu⟩, _⟩ := OwnFs.at h2 a hb
          rw [q] at hu; cases hu
      · rcases List.mem_append.mp h with h | h
        · exact (nw a h).imp (fun q => by simp [q]) id
        · exact .inl (by simp [h])
    · have eb : (f == g) = false := beq_eq_false_iff_ne.mpr (Ne.symm e)
      have hv : putF f v' ((g, v) :: fvs) = (g, v) :: putF f v' fvs := by simp [putF, e]
      have hp : putP f z ((g, y) :: fs) = (g, y) :: putP f z fs := by simp [putP, e]
      have hf2 : FieldAt K H Hk fvs fs f fq := by
        rcases hf with ⟨w, x, a1, a2, a3⟩ | ⟨a1, a2, a3⟩
        · simp only [List.lookup, eb] at a1 a2
          exact .inl ⟨w, x, a1, a2, a3⟩
        · simp only [List.lookup, eb] at a1 a2
          exact .inr ⟨a1, a2, a3⟩
      have inn : ∀ a ∈ fq, a ∈ fp2 := by
        obtain ⟨fr, b1, b2⟩ := ofs_at h2 f
        rw [field_det hf2 b1]
        exact b2
      have dis : ∀ a ∈ fp1, a ∉ fq := fun a h m => h3 a h (inn a m)
      obtain ⟨fp', q1, q2⟩ := ofs_put h2 hf2 kk (fun a u q m n => kp a u q (by simp [m]) n) (fun a m n => kn a (by simp [m]) n) r nw
      rw [hv, hp]
      refine ⟨fp1 ++ fp', .cons (OwnV.to kk h1 (fun a ha u q => kp a u q (by simp [ha]) (dis a ha)) fun a ha => kn a (by simp [ha]) (dis a ha)) q1 fun a ha hb => ?_, fun a h => ?_⟩
      · rcases q2 a hb with q | q
        · exact h3 a ha q
        · obtain ⟨⟨u, hu⟩, _⟩ := OwnV.at h1 a ha
          rw [q] at hu; cases hu
      · rcases List.mem_append.mp h with h | h
        · exact .inl (by simp [h])
        · exact (q2 a h).imp (fun q => by simp [q]) id
end
end DN
namespace DN
open PySem PySem.Spec PyProof.Rows L2
/-! ### places in what is owned: fields of fields, each with its class -/
abbrev Pth := List (Str × Str)
def getP : Pay → Pth → Option Pay
  | y, [] => some y
  | .ins c fs, (c', f) :: r => if c = c' then (match fs.lookup f with
    | some y => getP y r
    | none => none) else none
  | .dat _, _ :: _ => none
  | .lst _, _ :: _ => none
  | .dic _, _ :: _ => none
  | .txt _, _ :: _ => none
def setP : Pay → Pth → Pay → Pay
  | _, [], z => z
  | .ins c fs, (_, f) :: r, z => match fs.lookup f with
    | some y => .ins c (putP f (setP y r z) fs)
    | none => .ins c fs
  | y, _ :: _, _ => y
def PathV (K : PySem.W.Frag) (H : Hp) : V → Pth → V → Prop
  | v, [], u => v = u
  | v, (c, f) :: r, u => ∃ p C dx fvs w, v = .ref p ∧ H p = some (.ins C dx fvs) ∧ ClsIs K c C ∧ fvs.lookup f = some w ∧ PathV K H w r u
theorem putF_id {f : Str} {v : V} : ∀ {fvs : List (Str × V)}, fvs.lookup f = some v → putF f v fvs = fvs
  | [], h => by cases h
  | (g, x) :: r, h => by
    by_cases e : g = f
    · subst e
      simp only [List.lookup, beq_self_eq_true] at h
      cases h
      simp [putF]
    · have eb : (f == g) = false := beq_eq_false_iff_ne.mpr (Ne.symm e)
      simp only [List.lookup, eb] at h
      simp only [putF, if_neg e, putF_id h]
section
variable {K : PySem.W.Frag} {H Hk : Hp}
theorem path_of : ∀ {π : Pth} {v : V} {y z : Pay} {fp : List Addr}, OwnV K H Hk v y fp → getP y π = some z → ∃ u fq, PathV K H v π u ∧ OwnV K H Hk u z fq ∧ (∀ a ∈ fq, a ∈ fp) ∧
    ∀ (H2 Hk2 : Hp) (z' : Pay) (fq' : List Addr), Same Hk Hk2 → (∀ a x, H a = some x → a ∉ fq → H2 a = some x) → (∀ a ∈ fp, a ∉ fq → Hk2 a = none) → OwnV K H2 Hk2 u z' fq' → (∀ a ∈ fq', a ∈ fq ∨ H a = none) → ∃ fp', OwnV K H2 Hk2 v (setP y π z') fp' ∧ ∀ a ∈ fp', a ∈ fp ∨ H a = none
  | [], v, y, z, fp, r, e => by
    have e : some y = some z := by
      cases y <;> exact e
    cases e
    refine ⟨v, fp, rfl, r, fun a h => h, fun H2 Hk2 z' fq' _ _ _ r' nw => ⟨fq', ?_, nw⟩⟩
    have : setP y [] z' = z' := by cases y <;> rfl
    rw [this]
    exact r'
  | (c, f) :: π, v, y, z, fp, r, e => by
    cases r with
    | dat _ => cases e
    | lst _ _ _ => cases e
    | dic _ _ _ _ _ _ _ => cases e
    | txt _ _ _ => cases e
    | ins h1 h2 h3 h4 h5 h6 h7 h8 h9 =>
      rename_i p C dx fvs c' fs fp0
      unfold getP at e
      split at e
      · rename_i ec
        subst ec
        split at e
        · rename_i y1 ey
          obtain ⟨fq1, hf, inn⟩ := ofs_at h6 f
          have hf0 := hf
          rcases hf with ⟨v1, y1', a1, a2, a3⟩ | ⟨a1, _, _⟩
          · rw [ey] at a2; cases a2
            obtain ⟨u, fq, b1, b2, b3, b4⟩ := path_of a3 e
            refine ⟨u, fq, ⟨p, C, dx, fvs, v1, rfl, h1, h5, a1, b1⟩, b2, fun a h => by simp [inn a (b3 a h)], fun H2 Hk2 z' fq' kk kp kn r' nw => ?_⟩
            have dp : p ∉ fq := fun m => h7 (inn p (b3 p m))
            have dd : dx ∉ fq := fun m => h8 (inn dx (b3 dx m))
            obtain ⟨fr, c1, c2⟩ := b4 H2 Hk2 z' fq' kk kp (fun a m n => kn a (by simp [inn a m]) n) r' nw
            obtain ⟨fp', d1, d2⟩ := ofs_put h6 hf0 kk (fun a x q m n => kp a x q fun w => n (b3 a w)) (fun a m n => kn a (by simp [m]) fun w => n (b3 a w)) c1 c2
            rw [putF_id a1] at d1
            have hset : setP (.ins c' fs) ((c', f) :: π) z' = .ins c' (putP f (setP y1 π z') fs) := by
              simp only [setP, ey]
            rw [hset]
            refine ⟨p :: dx :: fp', .ins (kp _ _ h1 dp) (kp _ _ h2 dd) (kn p (by simp) dp) (kn dx (by simp) dd) h5 d1 (fun m => ?_) (fun m => ?_) h9, fun a m => ?_⟩
            · rcases d2 p m with q | q
              · exact h7 q
              · rw [h1] at q; cases q
            · rcases d2 dx m with q | q
              · exact h8 q
              · rw [h2] at q; cases q
            · rcases List.mem_cons.mp m with rfl | m
              · exact .inl (by simp)
              · rcases List.mem_cons.mp m with rfl | m
                · exact .inl (by simp)
                · exact (d2 a m).imp (fun q => by simp [q]) id
          · rw [ey] at a1; cases a1
        · cases e
      · cases e
theorem path_snoc {c f : Str} : ∀ {π : Pth} {v w : V}, PathV K H v (π ++ [(c, f)]) w → ∃ p C dx fvs, PathV K H v π (.ref p) ∧ H p = some (.ins C dx fvs) ∧ ClsIs K c C ∧ fvs.lookup f = some w
  | [], v, w, h => by
    obtain ⟨p, C, dx, fvs, w', rfl, h1, h2, h3, h4⟩ := h
    cases h4
    exact ⟨p, C, dx, fvs, rfl, h1, h2, h3⟩
  | (c', f') :: π, v, w, h => by
    obtain ⟨p, C, dx, fvs, w', rfl, h1, h2, h3, h4⟩ := h
    obtain ⟨q, C2, dx2, fvs2, a1, a2, a3, a4⟩ := path_snoc h4
    exact ⟨q, C2, dx2, fvs2, ⟨p, C, dx, fvs, w', rfl, h1, h2, h3, a1⟩, a2, a3, a4⟩
theorem Ok.place {σ : L2.St} {γ : En} {i : Nat} {b : Bool} {y z : Pay} {π : Pth} (o : Ok K σ H Hk γ) (h : gt γ i = some (.ow b y)) (hg : getP y π = some z) : ∃ v u fq, σ[i]? = some (some v) ∧ PathV K H v π u ∧ OwnV K H Hk u z fq ∧ (∀ a ∈ fq, OwnA K σ H Hk γ a) ∧
    ∀ (H2 Hk2 : Hp) (z' : Pay) (fq' : List Addr), Same Hk2 H2 → Same Hk Hk2 → (∀ a x, Hk2 a = some x → Hk a = none → H a = none ∨ a ∈ fq) → (∀ a x, H a = some x → a ∉ fq → H2 a = some x) → OwnV K H2 Hk2 u z' fq' → (∀ a ∈ fq', a ∈ fq ∨ H a = none) →
      Go K σ H Hk γ σ H2 Hk2 (γ.set i (some (.ow b (setP y π z')))) := by
  obtain ⟨v, fp, hs, r⟩ := o.ow i b y h
  obtain ⟨u, fq, a1, a2, a3, a4⟩ := path_of r hg
  refine ⟨v, u, fq, hs, a1, a2, fun a m => ⟨i, b, y, v, fp, h, hs, r, a3 a m⟩, fun H2 Hk2 z' fq' sub kk nw kp r' new => ?_⟩
  have kn : ∀ a ∈ fp, a ∉ fq → Hk2 a = none := fun a m n => by
    obtain ⟨⟨x, hx⟩, hn⟩ := r.at a m
    cases q : Hk2 a with
    | none => rfl
    | some x' =>
      rcases nw a x' q hn with c | c
      · rw [hx] at c; cases c
      · exact absurd c n
  obtain ⟨fp', b1, b2⟩ := a4 H2 Hk2 z' fq' kk kp kn r' new
  exact o.lend h hs r sub kk (fun a x q n => (nw a x q n).imp id (a3 a)) (fun a x q n => kp a x q fun m => n (a3 a m)) b1 b2
end
/-! ### expressions that tell a place -/
def tPl (K : PySem.W.Frag) (i : Nat) (π : Pth) : TE := fun σ H Q => ∃ v u, σ[i]? = some (some v) ∧ PathV K H v π u ∧ Q u H
def PL (X : Cx) (e : Expr) (i : Nat) (π : Pth) : Prop := PE X e (tPl X.K i π)
/-- a field of the class can be read and stored -/
def FA (K : PySem.W.Frag) (c f : Str) : Prop := ∃ C, ClsIs K c C ∧ Cls K C ∧ NoAttr K C f
section
variable {W : WX} {X : Cx} {e a value : Expr} {i : Nat} {π : Pth} {c f : Str} {pos pos' apos cpos : Pos} {g : Fe} {fl : Fa}
theorem pl_nm (h : PE X e (tVar i)) : PL X e i [] := PE.imp h fun σ H Q ⟨v, u, hs, hp, q⟩ => by
  cases hp
  exact ⟨v, hs, q⟩
theorem pl_fld (L : FA X.K c f) (h : PL X e i π) {π' : Pth} (hπ : π' = π ++ [(c, f)] := by rfl) (hb : attributeBase e f X.env (eval e X.env) = eval e X.env := by rfl) : PL X (.Attribute e f pos) i π' := PE.imp (pe_fld h hb) fun σ H Q ⟨v, u, hs, hp, q⟩ => by
  subst hπ
  obtain ⟨C, hC, hc, hn⟩ := L
  obtain ⟨p, C2, dx, fvs, a1, a2, a3, a4⟩ := path_snoc hp
  cases hC.fn a3
  exact ⟨v, .ref p, hs, a1, p, _, dx, fvs, u, rfl, a2, hc, hn, a4, q⟩
/-- a field that holds data -/
@[simp] def fFld (i : Nat) (π : Pth) : Fe := fun γ => match gt γ i with
  | some (.ow _ y) => match getP y π with
    | some (.dat d) => some (d, γ)
    | _ => none
  | _ => none
theorem ev_fld (h : PL X e i π) : EV X e (fFld i π) := PE.imp h fun σ H Q ⟨γ, Hk, d, γ2, o, ee, q⟩ => by
  unfold fFld at ee
  split at ee
  · rename_i b y eo
    split at ee <;> cases ee
    rename_i eg
    obtain ⟨v, u, fq, hs, hp, r, _, _⟩ := o.place eo eg
    cases r with
    | dat r => exact ⟨v, u, hs, hp, q u H Hk (Go.refl o) r⟩
  · cases ee
/-- the truth of a field -/
@[simp] def truP : Pay → Option Bool
  | .dat d => truD d
  | .lst ds => some (!ds.isEmpty)
  | _ => none
@[simp] def cTruF (i : Nat) (π : Pth) : Ft := fun γ => match gt γ i with
  | some (.ow _ y) => match getP y π with
    | some z => match truP z with
      | some b => some (b, γ)
      | none => none
    | none => none
  | _ => none
theorem et_truF (h : PL X e i π) (he : ∀ whole, isTrue e X.env whole = (do let v ← whole; standAt e.pos; holding [v] (truthy v)) := by intro _; rfl) : ET X e (cTruF i π) := PT.imp (pt_truth h he) fun σ H Q ⟨γ, Hk, b, γ2, o, ee, q⟩ => by
  unfold cTruF at ee
  split at ee
  · rename_i b0 y eo
    split at ee
    · rename_i z eg
      split at ee <;> cases ee
      rename_i et
      obtain ⟨v, u, fq, hs, hp, r, _, _⟩ := o.place eo eg
      refine ⟨v, u, hs, hp, b, ?_, q H Hk (Go.refl o)⟩
      cases r with
      | dat r => exact tru_of o.sub (.inl r) et
      | lst h1 h2 h3 => exact tru_of (d := .list _) o.sub (.inr (.inl ⟨_, _, _, rfl, rfl, h1, h3⟩)) et
      | dic _ _ _ _ _ _ _ => cases et
      | txt _ _ _ => cases et
      | ins _ _ _ _ _ _ _ _ _ => cases et
    · cases ee
  · cases ee
/-! ### expressions that only make new things -/
abbrev Fpu := En → Option D
def tIp (K : PySem.W.Frag) (f : Fpu) : TE := fun σ H Q => ∃ γ Hk d, Ok K σ H Hk γ ∧ f γ = some d ∧ ∀ v H2 Hk2, Grow H Hk H2 Hk2 → Dp K Hk2 v d → Q v H2
def EVp (X : Cx) (e : Expr) (f : Fpu) : Prop := PE X e (tIp X.K f)
@[simp] def pFld (i : Nat) (π : Pth) : Fpu := fun γ => match gt γ i with
  | some (.ow _ y) => match getP y π with
    | some (.dat d) => some d
    | _ => none
  | _ => none
theorem evp_fld (h : PL X e i π) : EVp X e (pFld i π) := PE.imp h fun σ H Q ⟨γ, Hk, d, o, ee, q⟩ => by
  unfold pFld at ee
  split at ee
  · rename_i b y eo
    split at ee <;> cases ee
    rename_i eg
    obtain ⟨v, u, fq, hs, hp, r, _, _⟩ := o.place eo eg
    cases r with
    | dat r => exact ⟨v, u, hs, hp, q u H Hk (Grow.refl o.sub) r⟩
  · cases ee
theorem PathV.same {K : PySem.W.Frag} {H H2 : Hp} : ∀ {π : Pth} {v u : V}, PathV K H v π u → Same H H2 → PathV K H2 v π u
  | [], _, _, h, _ => h
  | (_, _) :: _, _, _, ⟨p, C, dx, fvs, w, h1, h2, h3, h4, h5⟩, s => ⟨p, C, dx, fvs, w, h1, s _ _ h2, h3, h4, h5.same s⟩
theorem PathV.fn {K : PySem.W.Frag} {H : Hp} : ∀ {π : Pth} {v u w : V}, PathV K H v π u → PathV K H v π w → u = w
  | [], _, _, _, h, h' => by
    cases h
    cases h'
    rfl
  | (_, _) :: _, _, _, _, ⟨p, C, dx, fvs, w, h1, h2, h3, h4, h5⟩, ⟨p', C', dx', fvs', w', k1, k2, k3, k4, k5⟩ => by
    subst h1
    cases k1
    rw [h2] at k2
    cases k2
    rw [h4] at k4
    cases k4
    exact h5.fn k5
theorem gAt {K : PySem.W.Frag} {σ : L2.St} {H Hk : Hp} {γ : En} (o : Ok K σ H Hk γ) {b : Bool} {y z : Pay} (h : gt γ i = some (.ow b y)) (hg : getP y π = some z) {v u : V} (hs : σ[i]? = some (some v)) (hp : PathV K H v π u) : ∃ fq, OwnV K H Hk u z fq ∧ (∀ a ∈ fq, OwnA K σ H Hk γ a) ∧
    ∀ (H2 Hk2 : Hp) (z' : Pay) (fq' : List Addr), Same Hk2 H2 → Same Hk Hk2 → (∀ a x, Hk2 a = some x → Hk a = none → H a = none ∨ a ∈ fq) → (∀ a x, H a = some x → a ∉ fq → H2 a = some x) → OwnV K H2 Hk2 u z' fq' → (∀ a ∈ fq', a ∈ fq ∨ H a = none) →
      Go K σ H Hk γ σ H2 Hk2 (γ.set i (some (.ow b (setP y π z')))) := by
  obtain ⟨v', u', fq, hs', hp', r, own, ch⟩ := o.place h hg
  rw [hs] at hs'
  cases hs'
  cases hp.fn hp'
  exact ⟨fq, r, own, ch⟩
/-- o.f.append(e) -/
@[simp] def sAppF (i : Nat) (π : Pth) (p : Fpu) : Fs := fun γ => match gt γ i with
  | some (.ow b y) => match getP y π with
    | some (.lst ds) => match p γ with
      | some d => if okN ds.length then some (.nx (γ.set i (some (.ow b (setP y π (.lst (ds ++ [d]))))))) else none
      | none => none
    | _ => none
  | _ => none
theorem lst_put {K : PySem.W.Frag} {σ : L2.St} {H Hk : Hp} {γ : En} {b : Bool} {y : Pay} {ds es : List D} (o : Ok K σ H Hk γ) (h : gt γ i = some (.ow b y)) (hg : getP y π = some (.lst ds)) {v u : V} (hs : σ[i]? = some (some v)) (hp : PathV K H v π u) :
    ∃ p vs, u = .ref p ∧ H p = some (.lst vs) ∧ Hk p = none ∧ DpAll K Hk vs ds ∧ ∀ us, DpAll K Hk us es → Go K σ H Hk γ σ (upd H p (.lst us)) Hk (γ.set i (some (.ow b (setP y π (.lst es))))) := by
  obtain ⟨fq, r, own, ch⟩ := gAt o h hg hs hp
  cases r with
  | lst h1 h2 h3 =>
    rename_i p vs
    refine ⟨p, vs, rfl, h1, h2, h3, fun us hu => ch _ Hk (.lst es) [p] (fun a x e => ?_) (Same.refl _) (fun a x e n => by rw [e] at n; cases n) (fun a x e n => ?_) (.lst upd_same h2 hu) (fun a m => .inl m)⟩
    · rw [upd_ne (fun q => by subst q; rw [h2] at e; cases e)]
      exact o.sub _ _ e
    · rw [upd_ne (fun q => n (by simp [q]))]
      exact e
theorem es_appF {p : Fpu} (ho : PL X a i π) (he : EVp X e p)
    (hbase : attributeBase a "append" X.env (eval a X.env) = eval a X.env := by rfl)
    (hfew : ((backTo cpos (starEach [e] X.env)).all (fun x => !x.1) && (backToKw cpos (keywordEach [] X.env)).all (fun x => x.1.isSome)
      && decide ([e].length + ([] : List Keyword).length + (if ([] : List Keyword).isEmpty then 0 else 1) < 30)) = true := by rfl)
    (hline : (apos.endLine == cpos.line) = true := by rfl) (hs : starEach [e] X.env = (false, eval e X.env) :: starEach [] X.env := by rfl) (hplain : (backTo cpos (starEach [] X.env)).any (·.1) = false := by rfl)
    (hsw : swapsWith (.Call (.Attribute a "append" apos) [e] [] cpos) none pos.line X.env = pure false := by rfl) :
    ES X W (.Expr (.Call (.Attribute a "append" apos) [e] [] cpos) pos) (sAppF i π p) :=
  PS.imp (ps_expr (pe_bm PySem.F.plainAttrs_list PySem.F.slot_list_append PySem.F.type_list_append mt_append ho (pa_cons he pa_nil hs) hbase hfew hline hs hplain) hsw) fun Z σ H ⟨γ, Hk, o, k, ee, q⟩ => by
  unfold sAppF at ee
  split at ee
  · rename_i b y eo
    split at ee
    · rename_i ds eg
      split at ee
      · rename_i d ef
        split at ee <;> cases ee
        rename_i c
        obtain ⟨v, u, fq, hs0, hp, _, _, _⟩ := k.place eo eg
        obtain ⟨l, vs, rfl, h1, h2, h3, _⟩ := lst_put (es := []) k eo eg hs0 hp
        refine ⟨v, .ref l, hs0, hp, .inl ⟨rfl, _, SqL.of h1⟩, γ, Hk, d, k, ef, fun w H1 Hk1 g1 r1 => ?_⟩
        have k1 := k.grow g1
        obtain ⟨p', vs', e', h1', _, h3', put⟩ := lst_put (es := ds ++ [d]) k1 eo eg hs0 (hp.same g1.hh)
        cases e'
        exact ⟨l, vs', w, rfl, rfl, h1', by rw [dps_len h3']; exact okN_lt c, q _ _ _ ((k.go g1).trans (put _ (dps_app h3' (.cons r1 .nil))))⟩
      · cases ee
    · cases ee
  · cases ee
/-- o.f.pop() -/
@[simp] def fPopF (i : Nat) (π : Pth) : Fe := fun γ => match gt γ i with
  | some (.ow b y) => match getP y π with
    | some (.lst ds) => match ds.getLast? with
      | some d => some (d, γ.set i (some (.ow b (setP y π (.lst ds.dropLast)))))
      | none => none
    | _ => none
  | _ => none
theorem ev_popF (ho : PL X a i π)
    (hbase : attributeBase a "pop" X.env (eval a X.env) = eval a X.env := by rfl) (hline : (apos.endLine == cpos.line) = true := by rfl) : EV X (.Call (.Attribute a "pop" apos) [] [] cpos) (fPopF i π) :=
  PE.imp (pe_bm0 PySem.F.plainAttrs_list PySem.F.slot_list_pop PySem.F.type_list_pop mt_pop ho hbase hline) fun σ H Q ⟨γ, Hk, d, γ2, k, ee, q⟩ => by
  unfold fPopF at ee
  split at ee
  · rename_i b y eo
    split at ee
    · rename_i ds eg
      split at ee
      · rename_i x ex
        cases ee
        obtain ⟨ys, rfl⟩ := List.getLast?_eq_some_iff.mp ex
        obtain ⟨v, u, fq, hs0, hp, _, _, _⟩ := k.place eo eg
        obtain ⟨l, vs, rfl, h1, h2, h3, put⟩ := lst_put (es := ys) k eo eg hs0 hp
        obtain ⟨vs', w, rfl, r1, r2⟩ := dps_split h3
        refine ⟨v, .ref l, hs0, hp, .inl ⟨rfl, _, SqL.of h1⟩, l, vs' ++ [w], w, rfl, rfl, h1, by simp, ?_⟩
        rw [List.dropLast_concat] at q ⊢
        exact q w _ _ (put _ r1) r2
      · cases ee
    · cases ee
  · cases ee
/-! ### a field is stored -/
@[simp] def sFldD (i : Nat) (π : Pth) (c f : Str) (g : Fe) : Fs := fun γ => match g γ with
  | some (d, γ1) => match gt γ1 i with
    | some (.ow b y) => match getP y π with
      | some (.ins c' fs) => if c' = c ∧ fs.length < 1000 then some (.nx (γ1.set i (some (.ow b (setP y π (.ins c (putP f (.dat d) fs))))))) else none
      | _ => none
    | _ => none
  | none => none
theorem ins_put {K : PySem.W.Frag} {σ : L2.St} {H Hk : Hp} {γ : En} {b : Bool} {y : Pay} {fs : List (Str × Pay)} (o : Ok K σ H Hk γ) (h : gt γ i = some (.ow b y)) (hg : getP y π = some (.ins c fs)) {v u : V} (hs : σ[i]? = some (some v)) (hp : PathV K H v π u) :
    ∃ p C dx fvs, u = .ref p ∧ H p = some (.ins C dx fvs) ∧ ClsIs K c C ∧ fvs.length = fs.length ∧ OwnA K σ H Hk γ p ∧ ∀ (w : V) (z : Pay) (fr : List Addr) (H0 : Hp), Same H H0 → OwnV K H0 Hk w z fr → (∀ a ∈ fr, H a = none) →
      Go K σ H Hk γ σ (upd H0 p (.ins C dx (putF f w fvs))) Hk (γ.set i (some (.ow b (setP y π (.ins c (putP f z fs)))))) := by
  obtain ⟨fq, r, own, ch⟩ := gAt o h hg hs hp
  cases r with
  | ins h1 h2 h3 h4 h5 h6 h7 h8 h9 =>
    rename_i p C dx fvs fp
    refine ⟨p, C, dx, fvs, rfl, h1, h5, ofs_len h6, own p (by simp), fun w z fr H0 s r nw => ?_⟩
    obtain ⟨fq1, hf, inn⟩ := ofs_at h6 f
    have pf : p ∉ fr := fun m => by rw [nw p m] at h1; cases h1
    have r2 : OwnV K (upd H0 p (.ins C dx (putF f w fvs))) Hk w z fr := r.off pf
    have keep : ∀ a x, H a = some x → a ≠ p → (upd H0 p (.ins C dx (putF f w fvs))) a = some x := fun a x e n => by
      rw [upd_ne n]
      exact s _ _ e
    obtain ⟨fp', d1, d2⟩ := ofs_put h6 hf (Same.refl _) (fun a x e m n => keep a x e fun q => h7 (q ▸ m)) (fun a m _ => (OwnFs.at h6 a m).2) r2 (fun a m => .inr (nw a m))
    refine ch _ Hk _ (p :: dx :: fp') (fun a x e => ?_) (Same.refl _) (fun a x e n => by rw [e] at n; cases n) (fun a x e n => keep a x e fun q => n (by simp [q])) (.ins upd_same (keep _ _ h2 (Ne.symm h9)) h3 h4 h5 d1 (fun m => ?_) (fun m => ?_) h9) (fun a m => ?_)
    · by_cases q : a = p
      · subst q; rw [h3] at e; cases e
      · exact keep a x (o.sub _ _ e) q
    · rcases d2 p m with q | q
      · exact h7 q
      · rw [h1] at q; cases q
    · rcases d2 dx m with q | q
      · exact h8 q
      · rw [h2] at q; cases q
    · rcases List.mem_cons.mp m with rfl | m
      · exact .inl (by simp)
      · rcases List.mem_cons.mp m with rfl | m
        · exact .inl (by simp)
        · exact (d2 a m).imp (fun q => by simp [q]) id
theorem es_fldD (L : FA X.K c f) (ho : PL X a i π) (hv : EV X value g) (hs : swapsWith value (some (.Attribute a f pos')) pos.line X.env = pure false := by rfl) : ES X W (.Assign [.Attribute a f pos'] value pos) (sFldD i π c f g) :=
  PS.imp (ps_fld ho hv hs) fun Z σ H ⟨γ, Hk, o, k, ee, q⟩ => by
  obtain ⟨C, hC, hc, hn⟩ := L
  unfold sFldD at ee
  split at ee
  · rename_i d γ1 ef
    split at ee
    · rename_i b y eo
      split at ee
      · rename_i c' fs eg
        split at ee <;> cases ee
        rename_i cc
        obtain ⟨rfl, hl⟩ := cc
        refine ⟨γ, Hk, d, γ1, k, ef, fun w H1 Hk1 g1 r1 => ?_⟩
        obtain ⟨v, u, fq, hs0, hp, _, _, _⟩ := g1.ok.place eo eg
        obtain ⟨p, C2, dx, fvs, rfl, a1, a2, a3, _, put⟩ := ins_put (f := f) g1.ok eo eg hs0 hp
        cases hC.fn a2
        exact ⟨v, .ref p, hs0, hp, p, _, dx, fvs, rfl, a1, hc, hn, by rw [a3]; exact hl, q _ _ _ (g1.trans (put w (.dat d) [] H1 (Same.refl _) (.dat r1) (fun a h => by cases h)))⟩
      · cases ee
    · cases ee
  · cases ee
/-- o.f = a new list, to be changed later -/
@[simp] def sFldL (i : Nat) (π : Pth) (c f : Str) (fl : Fa) : Fs := fun γ => match fl γ with
  | some (ds, γ1) => match gt γ1 i with
    | some (.ow b y) => match getP y π with
      | some (.ins c' fs) => if c' = c ∧ fs.length < 1000 then some (.nx (γ1.set i (some (.ow b (setP y π (.ins c (putP f (.lst ds) fs))))))) else none
      | _ => none
    | _ => none
  | none => none
theorem es_fldL (L : FA X.K c f) (ho : PL X a i π) (hv : EL X value fl) (hs : swapsWith value (some (.Attribute a f pos')) pos.line X.env = pure false := by rfl) : ES X W (.Assign [.Attribute a f pos'] value pos) (sFldL i π c f fl) :=
  PS.imp (ps_fld ho hv hs) fun Z σ H ⟨γ, Hk, o, k, ee, q⟩ => by
  obtain ⟨C, hC, hc, hn⟩ := L
  unfold sFldL at ee
  split at ee
  · rename_i ds γ1 ef
    split at ee
    · rename_i b y eo
      split at ee
      · rename_i c' fs eg
        split at ee <;> cases ee
        rename_i cc
        obtain ⟨rfl, hl⟩ := cc
        refine ⟨γ, Hk, ds, γ1, k, ef, fun l ws H1 Hk1 g1 nl r1 => ?_⟩
        obtain ⟨v, u, fq, hs0, hp, _, _, _⟩ := g1.ok.place eo eg
        obtain ⟨p, C2, dx, fvs, rfl, a1, a2, a3, _, put⟩ := ins_put (f := f) g1.ok eo eg hs0 hp
        cases hC.fn a2
        have hkl : Hk1 l = none := g1.ok.sub.free nl
        have s1 : Same H1 (upd H1 l (.lst ws)) := same_upd nl
        exact ⟨v, .ref p, hs0, hp.same s1, p, _, dx, fvs, rfl, s1 _ _ a1, hc, hn, by rw [a3]; exact hl, q _ _ _ (g1.trans (put (.ref l) (.lst ds) [l] _ s1 (.lst upd_same hkl r1) (fun a h => by rw [List.mem_singleton.mp h]; exact nl)))⟩
      · cases ee
    · cases ee
  · cases ee
end
end DN
namespace DN
open PySem PySem.Spec PyProof.Rows L2
/-! ### methods: the object is lent to the def -/
def MethX (P : Program) (w : World) (K : PySem.W.Frag) (mg : Str → Option Value) (base : Heap) (c m : Str) (k : Nat) (ps : List Str) (F : FunX) : Prop := ∃ C f fd, ClsIs K c C ∧ Cls K C ∧ Meth K C m f ∧ FnX P w K mg base k f fd ps F ∧ Binds K fd ps []
section
variable {K : PySem.W.Frag} {σ : L2.St} {H Hk : Hp} {γ : En} {i n : Nat}
theorem lend_call {F : FunX} {b : Bool} {v : V} {vs : List V} {y z : Pay} {ds : List D} {r : Ret} {Q : VK} {E : XK} (o : Ok K σ H Hk γ) (h : gt γ i = some (.ow b y)) (hs : σ[i]? = some (some v)) (ra : DpAll K Hk vs ds) (eF : F (some y) ds = some (r, some z)) (hn : ds.length + 1 = n)
    (post : ∀ H2 Hk2, Go K σ H Hk γ σ H2 Hk2 (γ.set i (some (.ow b z))) → match r with
      | .da d => ∀ u, Dp K Hk2 u d → Q u H2
      | .ow _ => False
      | .er c fs => ∀ cls dd, XcIs K Hk2 cls dd c fs → E cls dd H2) : spX K n F (v :: vs) H Q E := by
  obtain ⟨v', fp, hs', ro⟩ := o.ow i b y h
  rw [hs] at hs'
  cases hs'
  refine ⟨by rw [List.length_cons, dps_len ra]; exact hn, Hk, some y, ds, r, some z, fp, o.sub, ⟨v, vs, rfl, ro, ra⟩, eF, fun H2 Hk2 fq af => ?_⟩
  obtain ⟨v2, e2, r2, nw⟩ := af.out
  have e2 : some v = some v2 := e2
  cases e2
  have go := o.lend h hs ro af.sub af.kk af.nw af.kp r2 nw
  have p := post H2 Hk2 go
  cases r with
  | da d => exact p
  | ow _ => exact p.elim
  | er c fs => exact p
end
section
variable {W : WX} {X : Cx} {x c m : Str} {k n : Nat} {ps : List Str} {F : FunX} {o e a : Expr} {es : List Expr} {fa : Fa} {fs : Frs} {p pos apos : Pos} {i : Nat}
theorem pe_methX {ta : TE} {t : TA} {C f : Addr} {fd : FuncData} {E : L2.St → XK} {pl : Sem Bool} (he : PE X o ta) (hc : Cls X.K C) (hm : Meth X.K C m f) (G : FnX X.prog X.w X.K X.mg X.base k f fd ps F) (hr : Room k X.A) (hG : X.A.guards = some []) (hb : Binds X.K fd ps []) (hx : ∀ σ, PassesAt (L2.CX X.prog X.w) X σ (E σ)) (ha : PA X (e :: es) t)
    (hst : starEach (e :: es) X.env = (false, eval e X.env) :: starEach es X.env := by rfl) (hpl : (backTo pos (starEach es X.env)).any (·.1) = false := by rfl)
    (ht : eval (.Call (.Attribute o m apos) (e :: es) [] pos) X.env = (do
      let ov ← eval o X.env
      standAt apos.atName
      let (f, first) ← holding [ov] (getMethod ov m pl)
      callWith pos f first (backTo pos (starEach (e :: es) X.env)) (backToKw pos (keywordEach [] X.env))) := by rfl) :
    PE X (.Call (.Attribute o m apos) (e :: es) [] pos) (fun σ H Q => ta σ H fun x H1 => ∃ q dx fs, x = .ref q ∧ H1 q = some (.ins C dx fs) ∧ fs.lookup m = none ∧ t σ H1 fun vs H2 => spX X.K ps.length F (.ref q :: vs) H2 Q (E σ)) := by
  refine ⟨fun pins s σ H Q I h => ?_⟩
  refine PySem.W.methodCall_KW (pl := pl) (thn (he.run pins s σ H _ I h) fun u s1 ⟨x, H1, I1, rx, q, dx, fs, ex, ea, l, q0⟩ => ?_) ht
  subst ex
  obtain rfl : u = Value.ref q := rx
  refine getmeth_ok I1 ea hc hm l ?_
  refine PySem.W.callWith_K (first := [.ref q]) (h₀ := X.base) I.ok.mod.kin hm.kp (thn (ha.run pos pins s1 σ H1 _ I1 q0) fun us s2 ⟨vs, H2, I2, r, q2⟩ => ⟨I2.kIn, ?_⟩) hst hpl
  exact runXc (us := .ref q :: us) (vs := .ref q :: vs) G hr hG hb (hx σ) I2 (.cons rfl r) q2
theorem pe_methX0 {ta : TE} {C f : Addr} {fd : FuncData} {E : L2.St → XK} {pl : Sem Bool} (he : PE X o ta) (hc : Cls X.K C) (hm : Meth X.K C m f) (G : FnX X.prog X.w X.K X.mg X.base k f fd ps F) (hr : Room k X.A) (hG : X.A.guards = some []) (hb : Binds X.K fd ps []) (hx : ∀ σ, PassesAt (L2.CX X.prog X.w) X σ (E σ))
    (ht : eval (.Call (.Attribute o m apos) [] [] pos) X.env = (do
      let ov ← eval o X.env
      standAt apos.atName
      let (f, first) ← holding [ov] (getMethod ov m pl)
      callWith pos f first (backTo pos (starEach [] X.env)) (backToKw pos (keywordEach [] X.env))) := by rfl) :
    PE X (.Call (.Attribute o m apos) [] [] pos) (fun σ H Q => ta σ H fun x H1 => ∃ q dx fs, x = .ref q ∧ H1 q = some (.ins C dx fs) ∧ fs.lookup m = none ∧ spX X.K ps.length F [.ref q] H1 Q (E σ)) := by
  refine ⟨fun pins s σ H Q I h => ?_⟩
  refine PySem.W.methodCall_KW (pl := pl) (thn (he.run pins s σ H _ I h) fun u s1 ⟨x, H1, I1, rx, q, dx, fs, ex, ea, l, q0⟩ => ?_) ht
  subst ex
  obtain rfl : u = Value.ref q := rx
  refine getmeth_ok I1 ea hc hm l ?_
  exact PySem.W.callWith_K0 (first := [.ref q]) I1.kIn hm.kp (runXc (us := [.ref q]) (vs := [.ref q]) G hr hG hb (hx σ) I1 (.cons rfl .nil) q0)
/-- what is asked of the object ahead of the call -/
def clsM (c m : Str) : Pay → Bool
  | .ins c0 f0 => decide (c0 = c) && (f0.lookup m).isNone
  | _ => false
def anyM : Pay → Bool := fun _ => true
@[simp] def rLend (chk : Pay → Bool) (n : Nat) (F : FunX) (i : Nat) (fs : Frs) : Fr := fun γ => match gt γ i with
  | some (.ow _ y0) => if chk y0 then (match fs γ with
    | some (.da ds, γ1) => (match gt γ1 i with
      | some (.ow b y) => if ds.length + 1 = n then (match F (some y) ds with
        | some (.da d, some z) => some (.da d, γ1.set i (some (.ow b z)))
        | some (.er cl x, some z) => some (.er cl x, γ1.set i (some (.ow b z)))
        | _ => none) else none
      | _ => none)
    | some (.er cl x, γ1) => some (.er cl x, γ1)
    | none => none) else none
  | _ => none
@[simp] def fLend (chk : Pay → Bool) (n : Nat) (F : FunX) (i : Nat) (fa : Fa) : Fe := fun γ => match gt γ i with
  | some (.ow _ y0) => if chk y0 then (match fa γ with
    | some (ds, γ1) => (match gt γ1 i with
      | some (.ow b y) => if ds.length + 1 = n then (match F (some y) ds with
        | some (.da d, some z) => some (d, γ1.set i (some (.ow b z)))
        | _ => none) else none
      | _ => none)
    | none => none) else none
  | _ => none
theorem obj_at {K : PySem.W.Frag} {σ : L2.St} {H Hk : Hp} {γ : En} {b : Bool} {y : Pay} {C : Addr} (k : Ok K σ H Hk γ) (h : gt γ i = some (.ow b y)) (hm : clsM c m y = true) (hC : ClsIs K c C) : ∃ q dx fvs, σ[i]? = some (some (.ref q)) ∧ H q = some (.ins C dx fvs) ∧ fvs.lookup m = none := by
  obtain ⟨v, fp, hs, r⟩ := k.ow i b y h
  cases r with
  | dat _ => cases hm
  | lst _ _ _ => cases hm
  | dic _ _ _ _ _ _ _ => cases hm
  | txt _ _ _ => cases hm
  | ins h1 h2 h3 h4 h5 h6 h7 h8 h9 =>
    rename_i q C2 dx fvs c0 f0 fp
    unfold clsM at hm
    rw [Bool.and_eq_true, decide_eq_true_eq] at hm
    obtain ⟨rfl, hl⟩ := hm
    cases hC.fn h5
    refine ⟨q, dx, fvs, hs, h1, ?_⟩
    obtain ⟨fq, hf, _⟩ := ofs_at h6 m
    rcases hf with ⟨_, _, _, a2, _⟩ | ⟨_, a2, _⟩
    · rw [a2] at hl; cases hl
    · exact a2
theorem Go.slot {K : PySem.W.Frag} {σ σ2 : L2.St} {H Hk H2 Hk2 : Hp} {γ γ2 : En} (g : Go K σ H Hk γ σ2 H2 Hk2 γ2) {b : Bool} {y : Pay} (h : gt γ2 i = some (.ow b y)) : ∃ v, σ2[i]? = some (some v) := by
  obtain ⟨v, fp, hs, _⟩ := g.ok.ow i b y h
  exact ⟨v, hs⟩
/-- o.m(e, ..), o a name, where an error may leave the def -/
theorem er_meth {pl : Sem Bool} (tk : Takes X W) (M : MethX X.prog X.w X.K X.mg X.base c m k ps F) (ho : PE X o (tVar i)) (hr : Room k X.A) (hG : X.A.guards = some []) (ha : ERs X W (e :: es) fs) (hn : ps.length = n := by rfl)
    (hst : starEach (e :: es) X.env = (false, eval e X.env) :: starEach es X.env := by rfl) (hpl : (backTo pos (starEach es X.env)).any (·.1) = false := by rfl)
    (ht : eval (.Call (.Attribute o m apos) (e :: es) [] pos) X.env = (do
      let ov ← eval o X.env
      standAt apos.atName
      let (f, first) ← holding [ov] (getMethod ov m pl)
      callWith pos f first (backTo pos (starEach (e :: es) X.env)) (backToKw pos (keywordEach [] X.env))) := by rfl) :
    ER X W (.Call (.Attribute o m apos) (e :: es) [] pos) (rLend (clsM c m) n F i fs) := by
  subst hn
  obtain ⟨C, f, fd, hC, hc, hm, G, hb⟩ := M
  refine PE.imp (pe_methX (pl := pl) ho hc hm G hr hG hb (fun σ => passAt tk σ) ha hst hpl ht) fun σ H Q ⟨γ, Hk, r, γ2, o, ee, q⟩ => ?_
  unfold rLend at ee
  split at ee
  · rename_i b0 y0 e0
    split at ee
    · rename_i hchk
      obtain ⟨ad, dx, fvs, hs, h1, h2⟩ := obj_at o e0 hchk hC
      refine ⟨.ref ad, hs, ad, dx, fvs, rfl, h1, h2, ?_⟩
      split at ee
      · rename_i ds γ1 ea
        split at ee
        · rename_i b y e1
          split at ee
          · rename_i hl
            refine ⟨γ, Hk, _, γ1, o, ea, fun vs H1 Hk1 g1 r1 => ?_⟩
            split at ee
            · rename_i d z eF
              cases ee
              exact lend_call g1.ok e1 hs r1 eF hl fun H2 Hk2 g2 u ru => q u H2 Hk2 (g1.trans g2) ru
            · rename_i cl fx z eF
              cases ee
              exact lend_call g1.ok e1 hs r1 eF hl fun H2 Hk2 g2 cls dd xc => q cls dd H2 Hk2 (g1.trans g2) xc
            · cases ee
          · cases ee
        · cases ee
      · rename_i cl fx γ1 ea
        cases ee
        exact ⟨γ, Hk, _, _, o, ea, q⟩
      · cases ee
    · cases ee
  · cases ee
theorem er_meth0 {pl : Sem Bool} (tk : Takes X W) (M : MethX X.prog X.w X.K X.mg X.base c m k ps F) (ho : PE X o (tVar i)) (hr : Room k X.A) (hG : X.A.guards = some []) (hn : ps.length = n := by rfl)
    (ht : eval (.Call (.Attribute o m apos) [] [] pos) X.env = (do
      let ov ← eval o X.env
      standAt apos.atName
      let (f, first) ← holding [ov] (getMethod ov m pl)
      callWith pos f first (backTo pos (starEach [] X.env)) (backToKw pos (keywordEach [] X.env))) := by rfl) :
    ER X W (.Call (.Attribute o m apos) [] [] pos) (rLend (clsM c m) n F i rsNil) := by
  subst hn
  obtain ⟨C, f, fd, hC, hc, hm, G, hb⟩ := M
  refine PE.imp (pe_methX0 (pl := pl) ho hc hm G hr hG hb (fun σ => passAt tk σ) ht) fun σ H Q ⟨γ, Hk, r, γ2, o, ee, q⟩ => ?_
  unfold rLend at ee
  split at ee
  · rename_i b0 y0 e0
    split at ee
    · rename_i hchk
      obtain ⟨ad, dx, fvs, hs, h1, h2⟩ := obj_at o e0 hchk hC
      refine ⟨.ref ad, hs, ad, dx, fvs, rfl, h1, h2, ?_⟩
      simp only [rsNil] at ee
      split at ee
      · rename_i b y e1
        split at ee
        · rename_i hl
          split at ee
          · rename_i d z eF
            cases ee
            exact lend_call o e1 hs .nil eF hl fun H2 Hk2 g2 u ru => q u H2 Hk2 g2 ru
          · rename_i cl fx z eF
            cases ee
            exact lend_call o e1 hs .nil eF hl fun H2 Hk2 g2 cls dd xc => q cls dd H2 Hk2 g2 xc
          · cases ee
        · cases ee
      · cases ee
    · cases ee
  · cases ee
/-- the same where no error leaves it -/
theorem ev_meth {pl : Sem Bool} (M : MethX X.prog X.w X.K X.mg X.base c m k ps F) (ho : PE X o (tVar i)) (hr : Room k X.A) (hG : X.A.guards = some []) (ha : EA X (e :: es) fa) (hn : ps.length = n := by rfl)
    (hst : starEach (e :: es) X.env = (false, eval e X.env) :: starEach es X.env := by rfl) (hpl : (backTo pos (starEach es X.env)).any (·.1) = false := by rfl)
    (ht : eval (.Call (.Attribute o m apos) (e :: es) [] pos) X.env = (do
      let ov ← eval o X.env
      standAt apos.atName
      let (f, first) ← holding [ov] (getMethod ov m pl)
      callWith pos f first (backTo pos (starEach (e :: es) X.env)) (backToKw pos (keywordEach [] X.env))) := by rfl) :
    EV X (.Call (.Attribute o m apos) (e :: es) [] pos) (fLend (clsM c m) n F i fa) := by
  subst hn
  obtain ⟨C, f, fd, hC, hc, hm, G, hb⟩ := M
  refine PE.imp (pe_methX (pl := pl) (E := fun _ => E0) ho hc hm G hr hG hb (fun σ => pass0X) ha hst hpl ht) fun σ H Q ⟨γ, Hk, d, γ2, o, ee, q⟩ => ?_
  unfold fLend at ee
  split at ee
  · rename_i b0 y0 e0
    split at ee
    · rename_i hchk
      obtain ⟨ad, dx, fvs, hs, h1, h2⟩ := obj_at o e0 hchk hC
      refine ⟨.ref ad, hs, ad, dx, fvs, rfl, h1, h2, ?_⟩
      split at ee
      · rename_i ds γ1 ea
        split at ee
        · rename_i b y e1
          split at ee
          · rename_i hl
            refine ⟨γ, Hk, _, γ1, o, ea, fun vs H1 Hk1 g1 r1 => ?_⟩
            split at ee <;> cases ee
            rename_i z eF
            exact lend_call g1.ok e1 hs r1 eF hl fun H2 Hk2 g2 u ru => q u H2 Hk2 (g1.trans g2) ru
          · cases ee
        · cases ee
      · cases ee
    · cases ee
  · cases ee
theorem ev_meth0 {pl : Sem Bool} (M : MethX X.prog X.w X.K X.mg X.base c m k ps F) (ho : PE X o (tVar i)) (hr : Room k X.A) (hG : X.A.guards = some []) (hn : ps.length = n := by rfl)
    (ht : eval (.Call (.Attribute o m apos) [] [] pos) X.env = (do
      let ov ← eval o X.env
      standAt apos.atName
      let (f, first) ← holding [ov] (getMethod ov m pl)
      callWith pos f first (backTo pos (starEach [] X.env)) (backToKw pos (keywordEach [] X.env))) := by rfl) :
    EV X (.Call (.Attribute o m apos) [] [] pos) (fLend (clsM c m) n F i aNil) := by
  subst hn
  obtain ⟨C, f, fd, hC, hc, hm, G, hb⟩ := M
  refine PE.imp (pe_methX0 (pl := pl) (E := fun _ => E0) ho hc hm G hr hG hb (fun σ => pass0X) ht) fun σ H Q ⟨γ, Hk, d, γ2, o, ee, q⟩ => ?_
  unfold fLend at ee
  split at ee
  · rename_i b0 y0 e0
    split at ee
    · rename_i hchk
      obtain ⟨ad, dx, fvs, hs, h1, h2⟩ := obj_at o e0 hchk hC
      refine ⟨.ref ad, hs, ad, dx, fvs, rfl, h1, h2, ?_⟩
      simp only [aNil] at ee
      split at ee
      · rename_i b y e1
        split at ee
        · rename_i hl
          split at ee <;> cases ee
          rename_i z eF
          exact lend_call o e1 hs .nil eF hl fun H2 Hk2 g2 u ru => q u H2 Hk2 g2 ru
        · cases ee
      · cases ee
    · cases ee
  · cases ee
/-! ### an object lent to a def, the first of what it is called with -/
theorem er_lend (tk : Takes X W) (C : CalX X.prog X.w X.K X.mg X.base x k ps F) (hr : Room k X.A) (hG : X.A.guards = some []) (hg : Gl X x) (ho : PE X a (tVar i)) (ha : ERs X W es fs) (hn : ps.length = n := by rfl)
    (hdb : (x == ("__debug__" : Str)) = false := by decide) (he : starEach (a :: es) X.env = (false, eval a X.env) :: starEach es X.env := by rfl) (hpl : (backTo pos (starEach es X.env)).any (·.1) = false := by rfl) :
    ER X W (.Call (.Name x p) (a :: es) [] pos) (rLend anyM n F i fs) := by
  subst hn
  obtain ⟨f, fd, G, hm, hk, hb⟩ := C
  refine ⟨fun pins s σ H Q I h => ?_⟩
  obtain ⟨γ, Hk, r, γ2, ok, ee, q⟩ := h
  refine wpAny_Call_Name_kw (ld_glob I hg hm ?_ hdb)
  unfold rLend at ee
  split at ee
  · rename_i b0 y0 e0
    split at ee
    · rename_i hchk
      obtain ⟨v, fp, hs, _⟩ := ok.ow i b0 y0 e0
      refine PySem.W.callWith_K (h₀ := X.base) I.ok.mod.kin hk (thn ((pa_cons ho ha he).run pos pins s σ H (fun vs H1 => spX X.K ps.length F vs H1 Q (WE W σ)) I ⟨v, hs, ?_⟩) fun us s1 ⟨vs, H1, I1, rv, q1⟩ => ⟨I1.kIn, runXc G hr hG hb (passAt tk σ) I1 rv q1⟩) he hpl
      split at ee
      · rename_i ds γ1 ea
        split at ee
        · rename_i b y e1
          split at ee
          · rename_i hl
            refine ⟨γ, Hk, _, γ1, ok, ea, fun vs H1 Hk1 g1 r1 => ?_⟩
            split at ee
            · rename_i d z eF
              cases ee
              exact lend_call g1.ok e1 hs r1 eF hl fun H2 Hk2 g2 u ru => q u H2 Hk2 (g1.trans g2) ru
            · rename_i cl fx z eF
              cases ee
              exact lend_call g1.ok e1 hs r1 eF hl fun H2 Hk2 g2 cls dd xc => q cls dd H2 Hk2 (g1.trans g2) xc
            · cases ee
          · cases ee
        · cases ee
      · rename_i cl fx γ1 ea
        cases ee
        exact ⟨γ, Hk, _, _, ok, ea, q⟩
      · cases ee
    · cases ee
  · cases ee
theorem ev_lend (C : CalX X.prog X.w X.K X.mg X.base x k ps F) (hr : Room k X.A) (hG : X.A.guards = some []) (hg : Gl X x) (ho : PE X a (tVar i)) (ha : EA X es fa) (hn : ps.length = n := by rfl)
    (hdb : (x == ("__debug__" : Str)) = false := by decide) (he : starEach (a :: es) X.env = (false, eval a X.env) :: starEach es X.env := by rfl) (hpl : (backTo pos (starEach es X.env)).any (·.1) = false := by rfl) :
    EV X (.Call (.Name x p) (a :: es) [] pos) (fLend anyM n F i fa) := by
  subst hn
  obtain ⟨f, fd, G, hm, hk, hb⟩ := C
  refine ⟨fun pins s σ H Q I h => ?_⟩
  obtain ⟨γ, Hk, d, γ2, ok, ee, q⟩ := h
  refine wpAny_Call_Name_kw (ld_glob I hg hm ?_ hdb)
  unfold fLend at ee
  split at ee
  · rename_i b0 y0 e0
    split at ee
    · rename_i hchk
      obtain ⟨v, fp, hs, _⟩ := ok.ow i b0 y0 e0
      refine PySem.W.callWith_K (h₀ := X.base) I.ok.mod.kin hk (thn ((pa_cons ho ha he).run pos pins s σ H (fun vs H1 => spX X.K ps.length F vs H1 Q E0) I ⟨v, hs, ?_⟩) fun us s1 ⟨vs, H1, I1, rv, q1⟩ => ⟨I1.kIn, runXc G hr hG hb pass0X I1 rv q1⟩) he hpl
      split at ee
      · rename_i ds γ1 ea
        split at ee
        · rename_i b y e1
          split at ee
          · rename_i hl
            refine ⟨γ, Hk, _, γ1, ok, ea, fun vs H1 Hk1 g1 r1 => ?_⟩
            split at ee <;> cases ee
            rename_i z eF
            exact lend_call g1.ok e1 hs r1 eF hl fun H2 Hk2 g2 u ru => q u H2 Hk2 (g1.trans g2) ru
          · cases ee
        · cases ee
      · cases ee
    · cases ee
  · cases ee
end
end DN
namespace DN
open PySem PySem.Spec PyProof.Rows L2
/-! ### objects made -/
def MakeX (P : Program) (w : World) (K : PySem.W.Frag) (mg : Str → Option Value) (base : Heap) (c : Str) (k : Nat) (ps : List Str) (F : FunX) : Prop := ∃ C f fd, ClsIs K c C ∧ mg c = some (.ref C) ∧ Mk K C f ∧ FnX P w K mg base k f fd ps F ∧ Binds K fd ps []
section
variable {W : WX} {X : Cx} {c z0 : Str} {k n : Nat} {ps : List Str} {F : FunX} {e : Expr} {es : List Expr} {fa : Fa} {p p' pos pos' : Pos} {i : Nat}
theorem runMk {C f : Addr} {fd : FuncData} {pins : List (Addr × Obj)} {σ : L2.St} {H : Hp} {s : Shared} {Q : VK} {us : List Value} {vs : List V} (M : Mk X.K C f) (G : FnX X.prog X.w X.K X.mg X.base k f fd ps F) (hr : Room (k + 1) X.A) (hG : X.A.guards = some []) (hb : Binds X.K fd ps [])
    (I : Inv X pins σ H s) (r : Vals vs us)
    (h : ∀ x dx, H x = none → H dx = none → dx ≠ x → spX X.K ps.length F (.ref x :: vs) (upd (upd H dx (.own x)) x (.ins C dx [])) (fun v H2 => v = .non ∧ Q (.ref x) H2) E0) :
    wpAny (model X.prog X.w) X.A (call (.ref C) us) (EP X pins σ Q) X.xe s := by
  have hq := h (s.heap.objs.size + 1) s.heap.objs.size (I.hok.fresh (Nat.le_succ _)) (I.hok.fresh (Nat.le_refl _)) (Nat.ne_of_lt (Nat.lt_succ_self _))
  have I2 := Inv.made (C := C) I
  have r2 : Vals (V.ref (s.heap.objs.size + 1) :: vs) (Value.ref (s.heap.objs.size + 1) :: us) := .cons rfl r
  have hl : (Value.ref (s.heap.objs.size + 1) :: us).length = ps.length := by rw [← r2.length]; exact hq.1
  have bd := hb _ (Value.ref (s.heap.objs.size + 1) :: us) I2.kIn (by rw [List.append_nil]; exact hl)
  rw [List.append_nil] at bd
  refine wpAny_call (make_map (f := f) I.kIn M.makes M.init (beq_iff_eq.mp M.fn) (codeAny_mono (G.run _ X.stack _ _ ⟨Value.ref (s.heap.objs.size + 1) :: us, []⟩ (Value.ref (s.heap.objs.size + 1) :: us) _ _ E0 (hr.make C us [])
    (by
      show pushGuards (Code.builtin "type.__call__" ⟨.ref C :: us, []⟩).guards X.A.guards = some []
      have : (Code.builtin "type.__call__" ⟨.ref C :: us, []⟩).guards = [] := by
        have g : (Code.builtin "type.__call__" ⟨.ref C :: us, []⟩).isGuard = false := by
          show guardIds.contains "type.__call__" = false
          decide +kernel
        unfold Code.guards
        rw [g]
        rfl
      rw [this, hG]
      rfl) (I2.env0.make C us []) bd r2 hq) fun r s' hq' => ?_))
  cases r with
  | error ex =>
    obtain ⟨_, _, _, _, _, _, _, _, _, _, _, _, zz⟩ := hq'
    exact zz.elim
  | ok fl =>
    cases fl with
    | ret u =>
      obtain ⟨v, H', I3, rv, ev, q3⟩ := I2.after hq'
      subst ev
      exact ⟨rv, ⟨V.ref (s.heap.objs.size + 1), H', I3, rfl, q3⟩⟩
    | next => exact False.elim hq'
    | brk => exact False.elim hq'
    | cont => exact False.elim hq'
def tMakeX (K : PySem.W.Frag) (n : Nat) (F : FunX) (c : Str) (fa : Fa) : TE := fun σ H Q => ∃ γ Hk ds γ1 z, Ok K σ H Hk γ ∧ fa γ = some (ds, γ1) ∧ ds.length + 1 = n ∧ F (some (.ins c [])) ds = some (.da .none, some z) ∧
  ∀ v fr H2 Hk2 H3, Go K σ H Hk γ σ H2 Hk2 γ1 → Same H2 H3 → OwnV K H3 Hk2 v z fr → (∀ a ∈ fr, H2 a = none) → Q v H3
theorem make_post {K : PySem.W.Frag} {σ : L2.St} {H Hk H1 Hk1 : Hp} {γ γ1 : En} {C x dx : Addr} {z : Pay} {vs : List V} {ds : List D} {Q : VK} (g1 : Go K σ H Hk γ σ H1 Hk1 γ1) (hC : ClsIs K c C) (nx : H1 x = none) (ndx : H1 dx = none) (ne : dx ≠ x) (ra : DpAll K Hk1 vs ds) (hl : ds.length + 1 = n)
    (eF : F (some (.ins c [])) ds = some (.da .none, some z)) (q : ∀ v fr H2 Hk2 H3, Go K σ H Hk γ σ H2 Hk2 γ1 → Same H2 H3 → OwnV K H3 Hk2 v z fr → (∀ a ∈ fr, H2 a = none) → Q v H3) :
    spX K n F (.ref x :: vs) (upd (upd H1 dx (.own x)) x (.ins C dx [])) (fun v H2 => v = .non ∧ Q (.ref x) H2) E0 := by
  have sub := g1.ok.sub
  have kx : Hk1 x = none := sub.free nx
  have kdx : Hk1 dx = none := sub.free ndx
  have s0 : Same H1 (upd (upd H1 dx (.own x)) x (.ins C dx [])) := fun a u e => by
    rw [upd_ne (ne_of_none e nx), upd_ne (ne_of_none e ndx)]
    exact e
  have own0 : OwnV K (upd (upd H1 dx (.own x)) x (.ins C dx [])) Hk1 (.ref x) (.ins c []) [x, dx] := .ins upd_same (by rw [upd_ne ne]; exact upd_same) kx kdx hC .nil (by simp) (by simp) (Ne.symm ne)
  have old : ∀ a, (upd (upd H1 dx (.own x)) x (.ins C dx [])) a = none → H1 a = none := fun a e => by
    cases h : H1 a with
    | none => rfl
    | some u => rw [s0 a u h] at e; cases e
  refine ⟨by rw [List.length_cons, dps_len ra]; exact hl, Hk1, some (.ins c []), ds, .da .none, some z, [x, dx], sub.trans s0, ⟨.ref x, vs, rfl, own0, ra⟩, eF, fun H2 Hk2 fq af v rv => ?_⟩
  obtain ⟨v2, e2, r2, nw⟩ := af.out
  have e2 : some (V.ref x) = some v2 := e2
  cases e2
  cases rv
  have fresh : ∀ a ∈ fq, H1 a = none := fun a m => by
    rcases nw a m with w | w
    · rcases List.mem_cons.mp w with rfl | w
      · exact nx
      · rw [List.mem_singleton.mp w]; exact ndx
    · exact old a w
  have keep : ∀ a u, H1 a = some u → H2 a = some u := fun a u h => af.kp a u (s0 a u h) fun m => by
    rcases List.mem_cons.mp m with rfl | m
    · rw [nx] at h; cases h
    · rw [List.mem_singleton.mp m, ndx] at h; cases h
  have g2 : Grow H1 Hk1 (fun a => if a ∈ fq then none else H2 a) Hk2 := by
    refine ⟨fun a u h => ?_, af.kk, fun a u h => ?_, fun a u h1 h2 => ?_⟩
    · show (if a ∈ fq then none else H2 a) = some u
      rw [if_neg (fun m => by rw [fresh a m] at h; cases h)]
      exact keep a u h
    · show (if a ∈ fq then none else H2 a) = some u
      rw [if_neg (fun m => by rw [(r2.at a m).2] at h; cases h)]
      exact af.sub a u h
    · rcases af.nw a u h1 h2 with w | w
      · exact old a w
      · rcases List.mem_cons.mp w with rfl | w
        · exact nx
        · rw [List.mem_singleton.mp w]; exact ndx
  refine ⟨rfl, q (.ref x) fq _ Hk2 H2 (g1.trans (g1.ok.go g2)) (fun a u h => ?_) r2 fun a h => if_pos h⟩
  by_cases m : a ∈ fq
  · have h : (if a ∈ fq then none else H2 a) = some u := h
    rw [if_pos m] at h; cases h
  · have h : (if a ∈ fq then none else H2 a) = some u := h
    rw [if_neg m] at h
    exact h
theorem pe_makeX (M : MakeX X.prog X.w X.K X.mg X.base c k ps F) (hr : Room (k + 1) X.A) (hG : X.A.guards = some []) (hg : Gl X c) (ha : EA X (e :: es) fa) (hn : ps.length = n := by rfl)
    (hdb : (c == ("__debug__" : Str)) = false := by decide) (he : starEach (e :: es) X.env = (false, eval e X.env) :: starEach es X.env := by rfl) (hpl : (backTo pos (starEach es X.env)).any (·.1) = false := by rfl) :
    PE X (.Call (.Name c p) (e :: es) [] pos) (tMakeX X.K n F c fa) := by
  subst hn
  obtain ⟨C, f, fd, hC, hm, mk, G, hb⟩ := M
  refine ⟨fun pins s σ H Q I h => ?_⟩
  obtain ⟨γ, Hk, ds, γ1, z, ok, ea, hl, eF, q⟩ := h
  refine wpAny_Call_Name_kw (ld_glob I hg hm ?_ hdb)
  refine PySem.W.callWith_K (h₀ := X.base) I.ok.mod.kin mk.kp (thn (ha.run pos pins s σ H (fun vs H1 => ∀ x dx, H1 x = none → H1 dx = none → dx ≠ x → spX X.K ps.length F (.ref x :: vs) (upd (upd H1 dx (.own x)) x (.ins C dx [])) (fun v H2 => v = .non ∧ Q (.ref x) H2) E0) I
    ⟨γ, Hk, ds, _, ok, ea, fun vs H1 Hk1 g1 r1 => fun x dx nx ndx ne => make_post g1 hC nx ndx ne r1 hl eF q⟩) fun us s1 ⟨vs, H1, I1, r, q1⟩ => ⟨I1.kIn, runMk mk G hr hG hb I1 r q1⟩) he hpl
theorem pe_makeX0 (M : MakeX X.prog X.w X.K X.mg X.base c k ps F) (hr : Room (k + 1) X.A) (hG : X.A.guards = some []) (hg : Gl X c) (hn : ps.length = n := by rfl)
    (hdb : (c == ("__debug__" : Str)) = false := by decide) : PE X (.Call (.Name c p) [] [] pos) (tMakeX X.K n F c aNil) := by
  subst hn
  obtain ⟨C, f, fd, hC, hm, mk, G, hb⟩ := M
  refine ⟨fun pins s σ H Q I h => ?_⟩
  obtain ⟨γ, Hk, ds, γ1, z, ok, ea, hl, eF, q⟩ := h
  cases ea
  refine wpAny_Call_Name_kw (ld_glob I hg hm ?_ hdb)
  exact PySem.W.callWith_K0 I.kIn mk.kp (runMk (us := []) (vs := []) mk G hr hG hb I .nil fun x dx nx ndx ne => make_post (Go.refl ok) hC nx ndx ne .nil hl eF q)
@[simp] def sMake (i n : Nat) (F : FunX) (c : Str) (fa : Fa) : Fs := fun γ => match fa γ with
  | some (ds, γ1) => if ds.length + 1 = n then (match F (some (.ins c [])) ds with
    | some (.da .none, some z) => if pinB γ1 i then none else some (.nx (γ1.set i (some (.ow false z))))
    | _ => none) else none
  | none => none
theorem make_own {K : PySem.W.Frag} {i : Nat} {Z : Ends} {σ : L2.St} {H : Hp} (h : tS K W (sMake i n F c fa) Z σ H) : tAsg (tMakeX K n F c fa) (gName i) Z σ H := by
  obtain ⟨γ, Hk, o, k, ee, q⟩ := h
  unfold sMake at ee
  split at ee
  · rename_i ds γ1 ea
    split at ee
    · rename_i hl
      split at ee
      · rename_i z eF
        split at ee <;> cases ee
        rename_i cc
        exact ⟨γ, Hk, ds, γ1, z, k, ea, hl, eF, fun v fr H2 Hk2 H3 g s r nn => q _ _ _ (g.trans (g.ok.setNew s r nn (noPin_of g.ok (by simpa using cc))))⟩
      · cases ee
    · cases ee
  · cases ee
theorem es_make (i : Nat) (hN : X.N.Nodup) (hi : X.N[i]? = some z0) (hx : Loc X.env.scope z0) (M : MakeX X.prog X.w X.K X.mg X.base c k ps F) (hr : Room (k + 1) X.A) (hG : X.A.guards = some []) (hg : Gl X c) (ha : EA X (e :: es) fa) (hn : ps.length = n := by rfl)
    (hdb : (c == ("__debug__" : Str)) = false := by decide) (he : starEach (e :: es) X.env = (false, eval e X.env) :: starEach es X.env := by rfl) (hpl : (backTo pos (starEach es X.env)).any (·.1) = false := by rfl)
    (hs : swapsWith (.Call (.Name c p) (e :: es) [] pos) (some (.Name z0 p')) pos'.line X.env = pure false := by rfl) (hf : X.fn z0 = true ∨ X.env.scope.names.lookup z0 = some .local := by first | exact .inl rfl | exact .inr rfl | assumption) :
    ES X W (.Assign [.Name z0 p'] (.Call (.Name c p) (e :: es) [] pos) pos') (sMake i n F c fa) := PS.imp (ps_set hN hi hx (pe_makeX M hr hG hg ha hn hdb he hpl) hs hf) fun _ _ _ h => make_own h
theorem es_make0 (i : Nat) (hN : X.N.Nodup) (hi : X.N[i]? = some z0) (hx : Loc X.env.scope z0) (M : MakeX X.prog X.w X.K X.mg X.base c k ps F) (hr : Room (k + 1) X.A) (hG : X.A.guards = some []) (hg : Gl X c) (hn : ps.length = n := by rfl)
    (hdb : (c == ("__debug__" : Str)) = false := by decide)
    (hs : swapsWith (.Call (.Name c p) [] [] pos) (some (.Name z0 p')) pos'.line X.env = pure false := by rfl) (hf : X.fn z0 = true ∨ X.env.scope.names.lookup z0 = some .local := by first | exact .inl rfl | exact .inr rfl | assumption) :
    ES X W (.Assign [.Name z0 p'] (.Call (.Name c p) [] [] pos) pos') (sMake i n F c aNil) := PS.imp (ps_set hN hi hx (pe_makeX0 M hr hG hg hn hdb) hs hf) fun _ _ _ h => make_own h
end
/-! ### what the written part says of the classes -/
def clsX (K : PySem.W.Frag) (c : Str) : Bool := match clsAt K c with
  | some C => PySem.W.plainGet K C Str.empty && (PySem.W.hasDictIn K C && (PySem.W.plainOver K C && decide (PySem.W.findIn K (.ref C) "__setattr__" = some (some (.builtin "object.__setattr__")))))
  | none => false
theorem clsX_ok {K : PySem.W.Frag} {c : Str} (h : clsX K c = true) : ∃ C, ClsIs K c C ∧ Cls K C := by
  unfold clsX at h
  split at h
  · rename_i C e
    simp only [Bool.and_eq_true, decide_eq_true_eq] at h
    exact ⟨C, clsAt_ok e, ⟨h.1, h.2.1, h.2.2.1, h.2.2.2⟩⟩
  · cases h
def faB (K : PySem.W.Frag) (c f : Str) : Bool := clsX K c && (match clsAt K c with
  | some C => decide (PySem.W.findIn K (.ref C) f = some none)
  | none => false)
theorem faB_ok {K : PySem.W.Frag} {c f : Str} (h : faB K c f = true) : FA K c f := by
  unfold faB at h
  rw [Bool.and_eq_true] at h
  obtain ⟨h1, h2⟩ := h
  obtain ⟨C, hC, hc⟩ := clsX_ok h1
  split at h2
  · rename_i C2 e
    cases hC.fn (clsAt_ok e)
    have h3 : PySem.W.findIn K (.ref C) f = some none := of_decide_eq_true h2
    exact ⟨C, hC, hc, h3⟩
  · cases h2
def methB (K : PySem.W.Frag) (c m : Str) (f : Addr) : Bool := clsX K c && (match clsAt K c with
  | some C => decide (PySem.W.findIn K (.ref C) m = some (some (.ref f))) && (PySem.W.isFn K (.ref f) && PySem.W.keepIn K (.ref f))
  | none => false)
theorem methB_ok {K : PySem.W.Frag} {c m : Str} {f : Addr} (h : methB K c m f = true) : ∃ C, ClsIs K c C ∧ Cls K C ∧ Meth K C m f := by
  unfold methB at h
  rw [Bool.and_eq_true] at h
  obtain ⟨h1, h2⟩ := h
  obtain ⟨C, hC, hc⟩ := clsX_ok h1
  split at h2
  · rename_i C2 e
    cases hC.fn (clsAt_ok e)
    simp only [Bool.and_eq_true, decide_eq_true_eq] at h2
    exact ⟨C, hC, hc, ⟨h2.1, h2.2.1, h2.2.2⟩⟩
  · cases h2
def mkX (K : PySem.W.Frag) (c : Str) (f : Addr) : Bool := match clsAt K c with
  | some C => PySem.W.makesIn K C && (decide (PySem.W.findIn K (.ref C) "__init__" = some (some (.ref f))) && (PySem.W.isFn K (.ref f) && PySem.W.keepIn K (.ref C)))
  | none => false
theorem mkX_ok {K : PySem.W.Frag} {h : Heap} {mg : Str → Option Value} {c : Str} {f : Addr} (KX : K.In h) (G : h.Ns mainGlobals mg) (q : mkX K c f = true) : ∃ C, ClsIs K c C ∧ mg c = some (.ref C) ∧ Mk K C f := by
  unfold mkX at q
  split at q
  · rename_i C e
    simp only [Bool.and_eq_true, decide_eq_true_eq] at q
    exact ⟨C, clsAt_ok e, PySem.W.mg_of KX G (clsAt_ok e), ⟨q.1, q.2.1, q.2.2.1, q.2.2.2⟩⟩
  · cases q
end DN
namespace DN
open PySem PySem.Spec PyProof.Rows L2
/-! ### a < b < c as a test -/
@[simp] def fCh (op1 op2 : D → D → Option D) (f g h : Fe) : Ft := fun γ => match f γ with
  | some (x, γ1) => (match g γ1 with
    | some (y, γ2) => (match op1 x y with
      | some (.bool true) => (match h γ2 with
        | some (z, γ3) => (match op2 y z with
          | some (.bool b) => some (b, γ3)
          | _ => none)
        | none => none)
      | some (.bool false) => some (false, γ2)
      | _ => none)
    | none => none)
  | none => none
section
variable {W : WX} {X : Cx} {a b c e : Expr} {f g h : Fe} {fr gr : Fr} {r r' : R2} {op1 op2 : D → D → Option D} {pos p p2 pos2 : Pos}
theorem et_chain {o o' : CmpOp} (ho : OpR X (compareOp o) r) (s : Op2 X.K r op1) (ho' : OpR X (compareOp o') r') (s' : Op2 X.K r' op2) (ha : EV X a f) (hb : EV X b g) (hc : EV X c h)
    (hm : lastMarks [o, o'] [b, c] = false := by with_unfolding_all rfl) : ET X (.Compare a [o, o'] [b, c] pos) (fCh op1 op2 f g h) := PT.imp (pt_chain ho ho' ha hb hc hm) fun σ H Q ⟨γ, Hk, k, γ2, ok, ee, q⟩ => by
  unfold fCh at ee
  split at ee
  · rename_i x γ1 ef
    split at ee
    · rename_i y γ3 eg
      split at ee
      · rename_i e1
        split at ee
        · rename_i z γ4 eh
          split at ee <;> cases ee
          rename_i e2
          refine ⟨γ, Hk, x, γ1, ok, ef, fun v H1 Hk1 g1 r1 => ⟨γ1, Hk1, y, γ3, g1.ok, eg, fun u H2 Hk2 g2 r2 => ?_⟩⟩
          refine s H2 Hk2 v u x y _ _ g2.ok.sub (.inl (dp_mono g2.kk r1)) (.inl r2) e1 fun w H3 Hk3 g3 r3 => ?_
          cases r3
          have k3 := g2.ok.grow g3
          refine ⟨true, rfl, iteT ⟨γ3, Hk3, z, _, k3, eh, fun w' H4 Hk4 g4 r4 => ?_⟩⟩
          refine s' H4 Hk4 u w' y z _ _ g4.ok.sub (.inl (dp_mono g4.kk (dp_mono g3.kk r2))) (.inl r4) e2 fun w2 H5 Hk5 g5 r5 => ?_
          cases r5
          exact ⟨_, rfl, q H5 Hk5 ((((g1.trans g2).trans (g2.ok.go g3)).trans g4).trans (g4.ok.go g5))⟩
        · cases ee
      · rename_i e1
        cases ee
        refine ⟨γ, Hk, x, γ1, ok, ef, fun v H1 Hk1 g1 r1 => ⟨γ1, Hk1, y, _, g1.ok, eg, fun u H2 Hk2 g2 r2 => ?_⟩⟩
        refine s H2 Hk2 v u x y _ _ g2.ok.sub (.inl (dp_mono g2.kk r1)) (.inl r2) e1 fun w H3 Hk3 g3 r3 => ?_
        cases r3
        exact ⟨false, rfl, iteF ⟨false, rfl, q H3 Hk3 ((g1.trans g2).trans (g2.ok.go g3))⟩⟩
      · cases ee
    · cases ee
  · cases ee
/-- an item of what may raise -/
theorem er_ix {n : Nat} (hr : Room n X.A) (ha : ER X W a fr) (hb : ER X W b gr) (hs : PlainIx b) : ER X W (.Subscript a b pos) (r2 ixX fr gr) := PE.imp (pe_ix (ix_seq.or (ix_dic hr)) ha hb hs) fun _ _ _ h => u2 o_ixX h
/-! ### tuple(range(..)) -/
def rgB (a b : Int) : Bool := decide (-(2 ^ 62) ≤ a) && (decide (a < 2 ^ 62) && (decide (-(2 ^ 62) ≤ b) && (decide (b < 2 ^ 62) && decide ((b - a).toNat ≤ 2 ^ 20))))
theorem rgB_ok {a b : Int} (h : rgB a b = true) : RgOk a b := by
  unfold rgB at h
  simp only [Bool.and_eq_true, decide_eq_true_eq] at h
  obtain ⟨h1, h2, h3, h4, h5⟩ := h
  exact ⟨h1, h2, h3, h4, Nat.le_trans h5 (by decide)⟩
@[simp] def fTupR1 (f : Fe) : Fe := fun γ => match f γ with
  | some (.int n, γ1) => if rgB 0 n then some (.tuple (rngD 0 (n - 0).toNat), γ1) else none
  | _ => none
@[simp] def fTupR2 (f g : Fe) : Fe := fun γ => match f γ with
  | some (.int m, γ1) => (match g γ1 with
    | some (.int n, γ2) => if rgB m n then some (.tuple (rngD m (n - m).toNat), γ2) else none
    | _ => none)
  | _ => none
theorem rg_dps {K : PySem.W.Frag} {H : Hp} (a b : Int) : DpAll K H (rgV a b) (rngD a (b - a).toNat) := dps_map (fun (i : Nat) => V.int (a + (i : Nat))) (fun (i : Nat) => PyData.int (a + (i : Int))) (fun i => .int _) _
theorem ev_tupR1 (hc : X.calm = true) (hmt : X.mg "tuple" = none) (hgt : Gl X "tuple") (hmr : X.mg "range" = none) (hgr : Gl X "range") (ha : EV X a f) (na : starEach [a] X.env = (false, eval a X.env) :: starEach [] X.env := by rfl)
    (na2 : starEach [.Call (.Name "range" p2) [a] [] pos2] X.env = (false, eval (.Call (.Name "range" p2) [a] [] pos2) X.env) :: starEach [] X.env := by rfl) : EV X (.Call (.Name "tuple" p) [.Call (.Name "range" p2) [a] [] pos2] [] pos) (fTupR1 f) :=
  PE.imp (pe_tupRg hc hgt hmt (prg_1 hgr hmr ha na) na2) fun σ H Q ⟨γ, Hk, d, γ2, o, ee, q⟩ => by
  unfold fTupR1 at ee
  split at ee
  · rename_i n γ1 ef
    split at ee <;> cases ee
    rename_i c
    refine ⟨γ, Hk, _, _, o, ef, fun v H1 Hk1 g1 r1 => ?_⟩
    cases r1
    refine ⟨n, rfl, rgB_ok c, fun t ht => ?_⟩
    have g2 : Grow H1 Hk1 (upd H1 t (.tup (rgV 0 n))) (upd Hk1 t (.tup (rgV 0 n))) := Grow.new g1.ok.sub ht
    exact q _ _ _ (g1.trans (g1.ok.go g2)) (.tup (SqT.of upd_same) (rg_dps 0 n))
  · cases ee
theorem ev_tupR2 (hc : X.calm = true) (hmt : X.mg "tuple" = none) (hgt : Gl X "tuple") (hmr : X.mg "range" = none) (hgr : Gl X "range") (ha : EV X a f) (hb : EV X b g) (na : starEach [a, b] X.env = (false, eval a X.env) :: starEach [b] X.env := by rfl)
    (nb : starEach [b] X.env = (false, eval b X.env) :: starEach [] X.env := by rfl) (hp : (backTo pos2 (starEach [b] X.env)).any (·.1) = false := by rfl)
    (na2 : starEach [.Call (.Name "range" p2) [a, b] [] pos2] X.env = (false, eval (.Call (.Name "range" p2) [a, b] [] pos2) X.env) :: starEach [] X.env := by rfl) : EV X (.Call (.Name "tuple" p) [.Call (.Name "range" p2) [a, b] [] pos2] [] pos) (fTupR2 f g) :=
  PE.imp (pe_tupRg hc hgt hmt (prg_2 hgr hmr ha hb na nb hp) na2) fun σ H Q ⟨γ, Hk, d, γ2, o, ee, q⟩ => by
  unfold fTupR2 at ee
  split at ee
  · rename_i m γ1 ef
    split at ee
    · rename_i n γ3 eg
      split at ee <;> cases ee
      rename_i c
      refine ⟨γ, Hk, _, _, o, ef, fun v H1 Hk1 g1 r1 => ⟨γ1, Hk1, _, _, g1.ok, eg, fun u H2 Hk2 g2 r2 => ?_⟩⟩
      cases r1
      cases r2
      refine ⟨m, n, rfl, rfl, rgB_ok c, fun t ht => ?_⟩
      have g3 : Grow H2 Hk2 (upd H2 t (.tup (rgV m n))) (upd Hk2 t (.tup (rgV m n))) := Grow.new g2.ok.sub ht
      exact q _ _ _ ((g1.trans g2).trans (g2.ok.go g3)) (.tup (SqT.of upd_same) (rg_dps m n))
    · cases ee
  · cases ee
/-! ### (a dict).get(key) -/
@[simp] def fGetE (fd f : Fe) : Fe := fun γ => match fd γ with
  | some (.dict kvs, γ1) => (match f γ1 with
    | some (kd, γ2) => (match keyD kd with
      | some k => some ((lookN kvs k).getD .none, γ2)
      | none => none)
    | none => none)
  | _ => none
theorem ev_getE1 {n : Nat} (hr : Room n X.A) {d ke : Expr} {fd f : Fe} {a1 c1 : Pos} (hd : EV X d fd) (hk : EV X ke f)
    (b1 : attributeBase d "get" X.env (eval d X.env) = eval d X.env := by rfl)
    (f1' : ((backTo c1 (starEach [ke] X.env)).all (fun x => !x.1) && (backToKw c1 (keywordEach [] X.env)).all (fun x => x.1.isSome) && decide ([ke].length + ([] : List Keyword).length + (if ([] : List Keyword).isEmpty then 0 else 1) < 30)) = true := by rfl)
    (l1 : (a1.endLine == c1.line) = true := by rfl) (s1 : starEach [ke] X.env = (false, eval ke X.env) :: starEach [] X.env := by rfl) (p1 : (backTo c1 (starEach [] X.env)).any (·.1) = false := by rfl) :
    EV X (.Call (.Attribute d "get" a1) [ke] [] c1) (fGetE fd f) :=
  PE.imp (DN.pe_meth PySem.F.plainAttrs_dict PySem.F.slot_dict_get PySem.F.type_dict_get (mt_getN hr) hd (pa_cons hk pa_nil s1) b1 f1' l1 s1 p1) fun σ H Q ⟨γ, Hk, dd, γ2, o, ee, q⟩ => by
  unfold fGetE at ee
  split at ee
  · rename_i kvs γ1 ed
    split at ee
    · rename_i kd γ3 ef
      split at ee <;> cases ee
      rename_i k ek
      refine ⟨γ, Hk, _, γ1, o, ed, fun v H1 Hk1 g1 r1 => ?_⟩
      have w0 : Vw X.K H1 Hk1 v (.dict kvs) := .inl r1
      obtain ⟨p0, o0, xs0, rfl, hd0⟩ := w0.dic g1.ok.sub
      refine ⟨dnO_ty hd0.1 hd0.2.1, γ1, Hk1, kd, _, g1.ok, ef, fun v1 H2 Hk2 g2 r2 => ?_⟩
      have w2 : Vw X.K H2 Hk2 (.ref p0) (.dict kvs) := .inl (dp_mono g2.kk r1)
      obtain ⟨p1, o1, xs1, e1, hd1, he1⟩ := w2.dicK g2.ok.sub
      cases e1
      obtain ⟨a, rfl⟩ := key_ref r2 ek
      refine ⟨a, p0, o1, xs1, kvs, kd, k, rfl, hd1, dp_mono g2.ok.sub r2, ek, .inl ⟨rfl, fun no => ?_⟩, fun qq hq => ?_⟩
      · rw [(lookN_at he1).2 no] at q
        exact q .non H2 Hk2 (g1.trans g2) .non
      · obtain ⟨w, d, e2, rw', hw⟩ := (lookN_at he1).1 qq hq
        rw [e2] at q
        exact ⟨w, rw', q w H2 Hk2 (g1.trans g2) hw⟩
    · cases ee
  · cases ee
end
end DN
namespace DN
open PySem PySem.Spec PyProof.Rows L2
/-! ### steps with objects -/
section
variable {op : D → D → Option D} {f g h : Fe} {fa : Fa} {S T : Fs} {i n m : Nat} {π : Pth} {γ γ1 γ2 γ3 : En} {x y z d e : D} {ds es out : List D} {b b0 : Bool} {FX : FunX} {p p0 q : Pay} {c fn : Str} {fs : List (Str × Pay)} {chk : Pay → Bool} {rs : Frs} {cl : Str} {xs : List (Str × D)}
theorem q_fld (h : Cmp (gt γ i = some (.ow b p))) (k : Cmp (getP p π = some (.dat d))) : fFld i π γ = some (d, γ) := by
  have h : gt γ i = some (.ow b p) := h
  have k : getP p π = some (.dat d) := k
  simp only [fFld, h, k]
theorem q_pfld (h : Cmp (gt γ i = some (.ow b p))) (k : Cmp (getP p π = some (.dat d))) : pFld i π γ = some d := by
  have h : gt γ i = some (.ow b p) := h
  have k : getP p π = some (.dat d) := k
  simp only [pFld, h, k]
theorem q_truF (h : Cmp (gt γ i = some (.ow b p))) (k : Cmp (getP p π = some q)) (t : Cmp (truP q = some b0)) : cTruF i π γ = some (b0, γ) := by
  have h : gt γ i = some (.ow b p) := h
  have k : getP p π = some q := k
  have t : truP q = some b0 := t
  simp only [cTruF, h, k, t]
theorem q_appF {pf : Fpu} (h : Cmp (gt γ i = some (.ow b p))) (k : Cmp (getP p π = some (.lst ds))) (hf : pf γ = some d) (ok : Cmp (okN ds.length = true)) (hs : Cmp (setP p π (.lst (ds ++ [d])) = q)) (s : Cmp (γ.set i (some (.ow b q)) = γ1)) : sAppF i π pf γ = some (.nx γ1) := by
  have h : gt γ i = some (.ow b p) := h
  have k : getP p π = some (.lst ds) := k
  have ok : okN ds.length = true := ok
  have hs : setP p π (.lst (ds ++ [d])) = q := hs
  have s : γ.set i (some (.ow b q)) = γ1 := s
  simp only [sAppF, h, k, hf, ok, if_true, hs, s]
theorem q_popF (h : Cmp (gt γ i = some (.ow b p))) (k : Cmp (getP p π = some (.lst (ds ++ [d])))) (hs : Cmp (setP p π (.lst ds) = q)) (s : Cmp (γ.set i (some (.ow b q)) = γ1)) : fPopF i π γ = some (d, γ1) := by
  have h : gt γ i = some (.ow b p) := h
  have k : getP p π = some (.lst (ds ++ [d])) := k
  have hs : setP p π (.lst ds) = q := hs
  have s : γ.set i (some (.ow b q)) = γ1 := s
  simp only [fPopF, h, k, List.getLast?_concat, List.dropLast_concat, hs, s]
theorem q_fldD (hg : g γ = some (d, γ1)) (h : Cmp (gt γ1 i = some (.ow b p))) (k : Cmp (getP p π = some (.ins c fs))) (hl : Cmp (fs.length < 1000)) (hs : Cmp (setP p π (.ins c (putP fn (.dat d) fs)) = q)) (s : Cmp (γ1.set i (some (.ow b q)) = γ2)) : sFldD i π c fn g γ = some (.nx γ2) := by
  have h : gt γ1 i = some (.ow b p) := h
  have k : getP p π = some (.ins c fs) := k
  have hl : fs.length < 1000 := hl
  have hs : setP p π (.ins c (putP fn (.dat d) fs)) = q := hs
  have s : γ1.set i (some (.ow b q)) = γ2 := s
  simp only [sFldD, hg, h, k, hl, and_self, if_true, hs, s]
theorem q_fldL (hg : fa γ = some (ds, γ1)) (h : Cmp (gt γ1 i = some (.ow b p))) (k : Cmp (getP p π = some (.ins c fs))) (hl : Cmp (fs.length < 1000)) (hs : Cmp (setP p π (.ins c (putP fn (.lst ds) fs)) = q)) (s : Cmp (γ1.set i (some (.ow b q)) = γ2)) : sFldL i π c fn fa γ = some (.nx γ2) := by
  have h : gt γ1 i = some (.ow b p) := h
  have k : getP p π = some (.ins c fs) := k
  have hl : fs.length < 1000 := hl
  have hs : setP p π (.ins c (putP fn (.lst ds) fs)) = q := hs
  have s : γ1.set i (some (.ow b q)) = γ2 := s
  simp only [sFldL, hg, h, k, hl, and_self, if_true, hs, s]
theorem q_lend (h0 : Cmp (gt γ i = some (.ow b0 p0))) (hc : Cmp (chk p0 = true)) (ha : fa γ = some (ds, γ1)) (h : Cmp (gt γ1 i = some (.ow b p))) (hn : Cmp (ds.length + 1 = n)) (hF : Ask (FX (some p) ds = some (.da d, some q))) (s : Cmp (γ1.set i (some (.ow b q)) = γ2)) : fLend chk n FX i fa γ = some (d, γ2) := by
  have h0 : gt γ i = some (.ow b0 p0) := h0
  have hc : chk p0 = true := hc
  have h : gt γ1 i = some (.ow b p) := h
  have hn : ds.length + 1 = n := hn
  have hF : FX (some p) ds = some (.da d, some q) := hF
  have s : γ1.set i (some (.ow b q)) = γ2 := s
  simp only [fLend, h0, hc, if_true, ha, h, hn, hF, s]
theorem q_rlend (h0 : Cmp (gt γ i = some (.ow b0 p0))) (hc : Cmp (chk p0 = true)) (ha : rs γ = some (.da ds, γ1)) (h : Cmp (gt γ1 i = some (.ow b p))) (hn : Cmp (ds.length + 1 = n)) (hF : Ask (FX (some p) ds = some (.da d, some q))) (s : Cmp (γ1.set i (some (.ow b q)) = γ2)) : rLend chk n FX i rs γ = some (.da d, γ2) := by
  have h0 : gt γ i = some (.ow b0 p0) := h0
  have hc : chk p0 = true := hc
  have h : gt γ1 i = some (.ow b p) := h
  have hn : ds.length + 1 = n := hn
  have hF : FX (some p) ds = some (.da d, some q) := hF
  have s : γ1.set i (some (.ow b q)) = γ2 := s
  simp only [rLend, h0, hc, if_true, ha, h, hn, hF, s]
theorem q_rlendE (h0 : Cmp (gt γ i = some (.ow b0 p0))) (hc : Cmp (chk p0 = true)) (ha : rs γ = some (.da ds, γ1)) (h : Cmp (gt γ1 i = some (.ow b p))) (hn : Cmp (ds.length + 1 = n)) (hF : Ask (FX (some p) ds = some (.er cl xs, some q))) (s : Cmp (γ1.set i (some (.ow b q)) = γ2)) : rLend chk n FX i rs γ = some (.er cl xs, γ2) := by
  have h0 : gt γ i = some (.ow b0 p0) := h0
  have hc : chk p0 = true := hc
  have h : gt γ1 i = some (.ow b p) := h
  have hn : ds.length + 1 = n := hn
  have hF : FX (some p) ds = some (.er cl xs, some q) := hF
  have s : γ1.set i (some (.ow b q)) = γ2 := s
  simp only [rLend, h0, hc, if_true, ha, h, hn, hF, s]
theorem q_r2e1 {fr gr : Fr} (h : fr γ = some (.er cl xs, γ1)) : r2 op fr gr γ = some (.er cl xs, γ1) := by simp only [r2, h]
theorem q_make (ha : fa γ = some (ds, γ1)) (hn : Cmp (ds.length + 1 = n)) (hF : Ask (FX (some (.ins c [])) ds = some (.da .none, some q))) (hp : Cmp (pinB γ1 i = false)) (s : Cmp (γ1.set i (some (.ow false q)) = γ2)) : sMake i n FX c fa γ = some (.nx γ2) := by
  have hn : ds.length + 1 = n := hn
  have hF : FX (some (.ins c [])) ds = some (.da .none, some q) := hF
  have hp : pinB γ1 i = false := hp
  have s : γ1.set i (some (.ow false q)) = γ2 := s
  simp only [sMake, ha, hn, if_true, hF, hp, s]
  rfl
theorem q_chT {op1 op2 : D → D → Option D} (hf : f γ = some (x, γ1)) (hg : g γ1 = some (y, γ2)) (o1 : Cmp (op1 x y = some (.bool b))) (hb : Ask (b = true)) (hh : h γ2 = some (z, γ3)) (o2 : Cmp (op2 y z = some (.bool b0))) : fCh op1 op2 f g h γ = some (b0, γ3) := by
  have hb : b = true := hb
  subst hb
  have o1 : op1 x y = some (.bool true) := o1
  have o2 : op2 y z = some (.bool b0) := o2
  simp only [fCh, hf, hg, o1, hh, o2]
theorem q_chF {op1 op2 : D → D → Option D} (hf : f γ = some (x, γ1)) (hg : g γ1 = some (y, γ2)) (o1 : Cmp (op1 x y = some (.bool b))) (hb : Ask (b = false)) : fCh op1 op2 f g h γ = some (false, γ2) := by
  have hb : b = false := hb
  subst hb
  have o1 : op1 x y = some (.bool false) := o1
  simp only [fCh, hf, hg, o1]
theorem q_tupR1 {k : Int} (hf : f γ = some (.int k, γ1)) (hr : Cmp (rgB 0 k = true)) : fTupR1 f γ = some (.tuple (rngD 0 (k - 0).toNat), γ1) := by
  have hr : rgB 0 k = true := hr
  simp only [fTupR1, hf, hr, if_true]
theorem q_tupR2 {k l : Int} (hf : f γ = some (.int k, γ1)) (hg : g γ1 = some (.int l, γ2)) (hr : Cmp (rgB k l = true)) : fTupR2 f g γ = some (.tuple (rngD k (l - k).toNat), γ2) := by
  have hr : rgB k l = true := hr
  simp only [fTupR2, hf, hg, hr, if_true]
theorem q_runP {p1 : Pay} (h0 : Cmp (iniX (some p) m ds = γ)) (h : S γ = some (.rt d γ1)) (hz : Cmp (gt γ1 0 = some (.ow true p1))) : runX m S (some p) ds = some (.da d, some p1) := by
  have h0 : iniX (some p) m ds = γ := h0
  have hz : gt γ1 0 = some (.ow true p1) := hz
  simp only [runX, h0, h, tellX, hz]
theorem q_runPn {p1 : Pay} (h0 : Cmp (iniX (some p) m ds = γ)) (h : S γ = some (.nx γ1)) (hz : Cmp (gt γ1 0 = some (.ow true p1))) : runX m S (some p) ds = some (.da .none, some p1) := by
  have h0 : iniX (some p) m ds = γ := h0
  have hz : gt γ1 0 = some (.ow true p1) := hz
  simp only [runX, h0, h, tellX, hz]
theorem q_runPe {p1 : Pay} (h0 : Cmp (iniX (some p) m ds = γ)) (h : S γ = some (.rs cl xs γ1)) (hz : Cmp (gt γ1 0 = some (.ow true p1))) : runX m S (some p) ds = some (.er cl xs, some p1) := by
  have h0 : iniX (some p) m ds = γ := h0
  have hz : gt γ1 0 = some (.ow true p1) := hz
  simp only [runX, h0, h, tellX, hz]
theorem q_try_rt {mm : Str → Option Bool} {U : Str → List (Str × D) → Fs} (h : S γ = some (.rt d γ1)) : sTry i mm S U γ = some (.rt d γ1) := by
  unfold sTry
  rw [h]
theorem q_try_rs {mm : Str → Option Bool} {U : Str → List (Str × D) → Fs} (h : S γ = some (.rs cl xs γ1)) (hm : Cmp (mm cl = some true)) (h1 : Cmp (gt γ1 i = none)) (hi : Cmp (i < γ1.length)) (hT : Cmp (U cl xs γ1 = some (.rt d γ2))) (h2 : Cmp (gt γ2 i = none)) : sTry i mm S U γ = some (.rt d γ2) := by
  have hm : mm cl = some true := hm
  have h1 : gt γ1 i = none := h1
  have hi : i < γ1.length := hi
  have hT : U cl xs γ1 = some (.rt d γ2) := hT
  have h2 : gt γ2 i = none := h2
  unfold sTry
  rw [h]
  simp only [hm, h1, hT, h2, decide_eq_true hi, Option.isNone_none, Bool.and_self, if_true]
end
end DN
namespace DN
open PySem PySem.Spec PyProof.Rows L2
def topS (i : Nat) : Stmt := PySem.Challenge.pw_railshut_k09_full_floors.main.body.getD i (.Pass ⟨0, 0, 0, 0⟩)
/-! ### Layout____init__ -/
abbrev s_Layout____init__ : Stmt := methS (topS 18) 0
abbrev N_Layout____init__ : List Str := ["self"]
theorem sc_Layout____init__ : FnScope N_Layout____init__ ["self"] (defScope s_Layout____init__) := ⟨rfl, rfl, rfl, by decide +kernel, rfl, by decide +kernel, by decide +kernel⟩
def B_Layout____init__ : Fs := (sSeq (sFldD 0 [] "Layout" "_pieces" (fL (lDisp aNil)))
    (sFldL 0 [] "Layout" "_past" (lDisp aNil)))
def F_Layout____init__ : FunX := runX 0 B_Layout____init__
theorem fn_Layout____init__ {P : Program} {w : World} {K : PySem.W.Frag} {mg : Str → Option Value} {base : Heap} {f : Addr} {fd : FuncData} (Fu : Fun K "__init__" "Layout.__init__" s_Layout____init__ f fd)  (L_Layout__past : FA K "Layout" "_past") (L_Layout__pieces : FA K "Layout" "_pieces")  :
    FnX P w K mg base 1 f fd ["self"] F_Layout____init__ :=
  fnX_of Fu sc_Layout____init__ rfl fun cdv A outer s H E hG hr tk hp =>
    (ess_cons (es_fldD L_Layout__pieces (pl_nm (pv 0)) (ev_L (el_disp ea_nil)))
    (ess_one (es_fldL L_Layout__past (pl_nm (pv 0)) (el_disp ea_nil))))
/-! ### _law_draw -/
abbrev s__law_draw : Stmt := topS 29
abbrev N__law_draw : List Str := ["box", "many", "at"]
theorem sc__law_draw : FnScope N__law_draw ["box", "many"] (defScope s__law_draw) := ⟨rfl, rfl, rfl, by decide +kernel, rfl, by decide +kernel, by decide +kernel⟩
def B__law_draw : Fs := (sSeq (sAsg (f2n ixX 0 (fC (.int 1))) (gDat 2))
    (sSeq (sSet 0 (f2n addD 2 (fC (.int 1))) (fC (.int 1)))
    (sSeq (sIf (ofB (f2n ltD 2 (f1 lenD (f2n ixX 0 (fC (.int 0)))))) (sRet (f2m modD (f1 intD (f2m ixX (f2n ixX 0 (fC (.int 0))) 2)) 1)) sNil)
    (sRet (f2m modD (f1 intD (f2 addD (f2n mulD 2 (fC (.int 7))) (fC (.int 3)))) 1)))))
def F__law_draw : Fun' := runF true 1 B__law_draw
theorem fn__law_draw {P : Program} {w : World} {K : PySem.W.Frag} {mg : Str → Option Value} {base : Heap} {f : Addr} {fd : FuncData} (Fu : Fun K "_law_draw" "_law_draw" s__law_draw f fd) (z_int : mg "int" = none) (z_len : mg "len" = none)  :
    FnG P w K mg base 1 f fd ["box", "many"] true F__law_draw :=
  fnG_of Fu sc__law_draw rfl (does_run _ _ _) fun cdv A outer s H hG hr =>
    (ess_cons (es_set 2 sc__law_draw.nd rfl (by first | exact Or.inl rfl | exact Or.inr rfl) (dixn hr (pv 0) ev_int (fun _ _ => rfl)))
    (ess_cons (es_item 0 (ev2n x_add o_add (pv 2) ev_int) (pv 0) ev_int)
    (ess_cons (es_if (et2n x_lt o_cmp (nomark _) (pv 2) (ev_callB o_len x_len z_len (by rfl) (by decide +kernel) (dixn hr (pv 0) ev_int (fun _ _ => rfl)))) (ess_one (es_ret (ev2m op_mod o_mod (ev_callT o_int call_int1 z_int (by rfl) (by decide +kernel) (dixm hr (dixn hr (pv 0) ev_int (fun _ _ => rfl)) (pv 2) (fun _ _ => rfl))) (pv 1)))) ess_nil)
    (ess_one (es_ret (ev2m op_mod o_mod (ev_callT o_int call_int1 z_int (by rfl) (by decide +kernel) (ev2 x_add o_add (ev2n x_mul o_mul (pv 2) ev_int) ev_int)) (pv 1)))))))
/-! ### _law_cell -/
abbrev s__law_cell : Stmt := topS 25
abbrev N__law_cell : List Str := ["script", "k"]
theorem sc__law_cell : FnScope N__law_cell ["script", "k"] (defScope s__law_cell) := ⟨rfl, rfl, rfl, by decide +kernel, rfl, by decide +kernel, by decide +kernel⟩
def B__law_cell : Fs := (sSeq (sIf (ofB (f2n ltD 1 (f1n lenD 0))) (sRet (f2nn ixX 0 1)) sNil)
    (sRet (fC (.int 0))))
def F__law_cell : Fun' := runF false 0 B__law_cell
theorem fn__law_cell {P : Program} {w : World} {K : PySem.W.Frag} {mg : Str → Option Value} {base : Heap} {f : Addr} {fd : FuncData} (Fu : Fun K "_law_cell" "_law_cell" s__law_cell f fd) (z_len : mg "len" = none)  :
    FnG P w K mg base 1 f fd ["script", "k"] false F__law_cell :=
  fnG_of Fu sc__law_cell rfl (does_run _ _ _) fun cdv A outer s H hG hr =>
    (ess_cons (es_if (et2n x_lt o_cmp (nomark _) (pv 1) (ev_callBn o_len x_len z_len (by rfl) (by decide +kernel) (pv 0))) (ess_one (es_ret (dixnn hr (pv 0) (pv 1) (fun _ _ => rfl)))) ess_nil)
    (ess_one (es_ret ev_int)))
/-! ### _law_digits -/
abbrev s__law_digits : Stmt := topS 28
abbrev N__law_digits : List Str := ["script", "first", "last", "digits", "k", "cell", "turn", "seed"]
theorem sc__law_digits : FnScope N__law_digits ["script", "first", "last"] (defScope s__law_digits) := ⟨rfl, rfl, rfl, by decide +kernel, rfl, by decide +kernel, by decide +kernel⟩
def L1__law_digits : Fs := (sIf (ofB (f2n gtD 5 (fC (.int 0)))) (sSeq (sApp 3 (f2 modD (f1n intD 5) (fC (.int 1000))))
    (sAsg (f2n fdivD 5 (fC (.int 1000))) (gDat 5))) sNil)
def L2__law_digits : Fs := (sSeq (sAsg (f2 modD (f1 intD (f2 addD (f2 addD (f2n mulD 7 (fC (.int 16807))) (f2m mulD (fC (.int 7)) 6)) (fC (.int 1)))) (fC (.int 2147483647))) (gDat 7))
    (sApp 3 (f2 modD (f1 intD (f2n fdivD 7 (fC (.int 997)))) (fC (.int 1000)))))
def L3__law_digits : Fs := (sSeq (sAsg (fCall 2 F__law_cell (aCons (fN 0) (aCons (fN 4) aNil))) (gDat 5))
    (sSeq (sIf (ofB (f2n ltD 5 (fC (.int 0)))) (sAsg (f2 subD (fC (.int 1)) (f2m mulD (fC (.int 2)) 5)) (gDat 5)) sNil)
    (sIf (ofB (f2n geD 5 (f2 powD (fC (.int 10)) (fC (.int 18))))) (sFor (wR1 (fC (.int 60))) (gDat 6) L1__law_digits) (sSeq (sAsg (f2 modD (f1 intD (f2 addD (f2 addD (f2n mulD 5 (fC (.int 48271))) (f2n mulD 4 (fC (.int 69621)))) (fC (.int 11)))) (fC (.int 2147483647))) (gDat 7))
    (sFor (wR1 (fC (.int 12))) (gDat 6) L2__law_digits)))))
def B__law_digits : Fs := (sSeq (sOwn 3 (lDisp aNil))
    (sSeq (sFor (wR2 (aCons (fN 1) (aCons (fN 2) aNil))) (gDat 4) L3__law_digits)
    (sRet (fN 3))))
def F__law_digits : Fun' := runF false 5 B__law_digits
theorem fn__law_digits {P : Program} {w : World} {K : PySem.W.Frag} {mg : Str → Option Value} {base : Heap} {f : Addr} {fd : FuncData} (Fu : Fun K "_law_digits" "_law_digits" s__law_digits f fd) (z_int : mg "int" = none) (z_range : mg "range" = none) (C__law_cell : Cal P w K mg base "_law_cell" 1 ["script", "k"] false F__law_cell) :
    FnG P w K mg base 2 f fd ["script", "first", "last"] false F__law_digits :=
  fnG_of Fu sc__law_digits rfl (does_run _ _ _) fun cdv A outer s H hG hr =>
    (ess_cons (es_own 3 sc__law_digits.nd rfl (by first | exact Or.inl rfl | exact Or.inr rfl) (el_disp ea_nil))
    (ess_cons (es_for PassesOwn.never rfl (ei_r2 z_range (by rfl) (ea_cons (ev_name 1) (ea_cons (ev_name 2) ea_nil))) (eg_name 4 sc__law_digits.nd rfl (by first | exact Or.inl rfl | exact Or.inr rfl)) (ess_cons (es_set 5 sc__law_digits.nd rfl (by first | exact Or.inl rfl | exact Or.inr rfl) (ev_call C__law_cell (hr.mono (by decide)) hG (by rfl) (ea_cons (ev_name 0) (ea_cons (ev_name 4) ea_nil))))
    (ess_cons (es_if (et2n x_lt o_cmp (nomark _) (pv 5) ev_int) (ess_one (es_set 5 sc__law_digits.nd rfl (by first | exact Or.inl rfl | exact Or.inr rfl) (ev2 op_sub o_sub ev_int (ev2m x_mul o_mul ev_int (pv 5))))) ess_nil)
    (ess_one (es_if (et2n x_ge o_cmp (nomark _) (pv 5) (ev2 op_pow o_pow ev_int ev_int)) (ess_one (es_for PassesOwn.never rfl (ei_r1 z_range (by rfl) ev_int) (eg_name 6 sc__law_digits.nd rfl (by first | exact Or.inl rfl | exact Or.inr rfl)) (ess_one (es_if (et2n x_gt o_cmp (nomark _) (pv 5) ev_int) (ess_cons (es_app 3 (pv 3) (ev2 op_mod o_mod (ev_callTn o_int call_int1 z_int (by rfl) (by decide +kernel) (pv 5)) ev_int))
    (ess_one (es_set 5 sc__law_digits.nd rfl (by first | exact Or.inl rfl | exact Or.inr rfl) (ev2n op_fdiv o_fdiv (pv 5) ev_int)))) ess_nil)))) (ess_cons (es_set 7 sc__law_digits.nd rfl (by first | exact Or.inl rfl | exact Or.inr rfl) (ev2 op_mod o_mod (ev_callT o_int call_int1 z_int (by rfl) (by decide +kernel) (ev2 x_add o_add (ev2 x_add o_add (ev2n x_mul o_mul (pv 5) ev_int) (ev2n x_mul o_mul (pv 4) ev_int)) ev_int)) ev_int))
    (ess_one (es_for PassesOwn.never rfl (ei_r1 z_range (by rfl) ev_int) (eg_name 6 sc__law_digits.nd rfl (by first | exact Or.inl rfl | exact Or.inr rfl)) (ess_cons (es_set 7 sc__law_digits.nd rfl (by first | exact Or.inl rfl | exact Or.inr rfl) (ev2 op_mod o_mod (ev_callT o_int call_int1 z_int (by rfl) (by decide +kernel) (ev2 x_add o_add (ev2 x_add o_add (ev2n x_mul o_mul (pv 7) ev_int) (ev2m x_mul o_mul ev_int (pv 6))) ev_int)) ev_int))
    (ess_one (es_app 3 (pv 3) (ev2 op_mod o_mod (ev_callT o_int call_int1 z_int (by rfl) (by decide +kernel) (ev2n op_fdiv o_fdiv (pv 7) ev_int)) ev_int))))))))))))
    (ess_one (es_ret (ev_name 3)))))
/-! ### back -/
abbrev s_back : Stmt := topS 8
abbrev N_back : List Str := ["pose"]
theorem sc_back : FnScope N_back ["pose"] (defScope s_back) := ⟨rfl, rfl, rfl, by decide +kernel, rfl, by decide +kernel, by decide +kernel⟩
def B_back : Fs := (sRet (f2 addD (fSln 0 pNo (pOf (fC (.int 4)))) (fTup (aCons (f2 modD (f2 addD (f2n ixX 0 (fC (.int 4))) (fC (.int 4))) (fC (.int 8))) aNil))))
def F_back : Fun' := runF false 0 B_back
theorem fn_back {P : Program} {w : World} {K : PySem.W.Frag} {mg : Str → Option Value} {base : Heap} {f : Addr} {fd : FuncData} (Fu : Fun K "back" "back" s_back f fd)   :
    FnG P w K mg base 1 f fd ["pose"] false F_back :=
  fnG_of Fu sc_back rfl (does_run _ _ _) fun cdv A outer s H hG hr =>
    (ess_one (es_ret (ev2 x_add o_add (ev_sln (pv 0) ep_no (ep_of ev_int)) (ev_tup (ea_cons (ev2 op_mod o_mod (ev2 x_add o_add (dixn hr (pv 0) ev_int (fun _ _ => rfl)) ev_int) ev_int) ea_nil)))))
/-! ### moved -/
abbrev s_moved : Stmt := topS 5
abbrev N_moved : List Str := ["position", "other", "one", "more"]
theorem sc_moved : FnScope N_moved ["position", "other"] (defScope s_moved) := ⟨rfl, rfl, rfl, by decide +kernel, rfl, by decide +kernel, by decide +kernel⟩
def E1_moved : Fe := (f2nn addD 2 3)
def B_moved : Fs := (sRet (f1 tupleD (fL (lLc [2, 3] (gTp 2 (gsCons (gDat 2) (gsCons (gDat 3) gsNo))) (wZip (aCons (fN 0) (aCons (fN 1) aNil))) tYe E1_moved))))
def F_moved : Fun' := runF false 2 B_moved
theorem fn_moved {P : Program} {w : World} {K : PySem.W.Frag} {mg : Str → Option Value} {base : Heap} {f : Addr} {fd : FuncData} (Fu : Fun K "moved" "moved" s_moved f fd) (z_tuple : mg "tuple" = none) (z_zip : mg "zip" = none)  :
    FnG P w K mg base 1 f fd ["position", "other"] false F_moved :=
  fnG_of Fu sc_moved rfl (does_run _ _ _) fun cdv A outer s H hG hr =>
    (ess_one (es_ret (ev_callT o_tuple call_tuple_of z_tuple (by rfl) (by decide +kernel) (ev_L (el_lc (js := [2, 3]) rfl (tg_pair 2 3) rfl sc_moved.nd (ei_zip z_zip (by rfl) (ea_cons (ev_name 0) (ea_cons (ev_name 1) ea_nil))) (blkOk_by (own := [("one", 2), ("more", 3)]) (N := N_moved) (sc := defScope s_moved) (by decide +kernel)) (fun _ _ _ _ _ => pg_tup rfl (pgs_cons (pg_name (i := 2) sc_moved.nd rfl (Or.inl rfl)) (pgs_cons (pg_name (i := 3) sc_moved.nd rfl (Or.inl rfl)) pgs_nil))) (fun _ _ _ _ _ => ets_nil) (fun _ _ _ _ _ => (ev2nn x_add o_add (pv 2) (pv 3))))))))
/-! ### turned -/
abbrev s_turned : Stmt := topS 6
abbrev N_turned : List Str := ["position", "eighths", "a", "b", "c", "d", "steps", "direction"]
theorem sc_turned : FnScope N_turned ["position", "eighths"] (defScope s_turned) := ⟨rfl, rfl, rfl, by decide +kernel, rfl, by decide +kernel, by decide +kernel⟩
def E1_turned : Fe := (f2n ixX 6 (f2 modD (f2nn subD 7 1) (fC (.int 8))))
def B_turned : Fs := (sSeq (sAsg (fN 0) (gTp 4 (gsCons (gDat 2) (gsCons (gDat 3) (gsCons (gDat 4) (gsCons (gDat 5) gsNo))))))
    (sSeq (sAsg (fTup (aCons (fN 2) (aCons (fN 3) (aCons (fN 4) (aCons (fN 5) (aCons (fNeg (fN 2)) (aCons (fNeg (fN 3)) (aCons (fNeg (fN 4)) (aCons (fNeg (fN 5)) aNil))))))))) (gDat 6))
    (sRet (f1 tupleD (fL (lLc [7] (gDat 7) (wR1 (fC (.int 4))) tYe E1_turned))))))
def F_turned : Fun' := runF false 6 B_turned
theorem fn_turned {P : Program} {w : World} {K : PySem.W.Frag} {mg : Str → Option Value} {base : Heap} {f : Addr} {fd : FuncData} (Fu : Fun K "turned" "turned" s_turned f fd) (z_range : mg "range" = none) (z_tuple : mg "tuple" = none)  :
    FnG P w K mg base 1 f fd ["position", "eighths"] false F_turned :=
  fnG_of Fu sc_turned rfl (does_run _ _ _) fun cdv A outer s H hG hr =>
    (ess_cons (es_asg (ev_name 0) (eg_tup 4 rfl (egs_cons (eg_name 2 sc_turned.nd rfl (by first | exact Or.inl rfl | exact Or.inr rfl)) (egs_cons (eg_name 3 sc_turned.nd rfl (by first | exact Or.inl rfl | exact Or.inr rfl)) (egs_cons (eg_name 4 sc_turned.nd rfl (by first | exact Or.inl rfl | exact Or.inr rfl)) (egs_cons (eg_name 5 sc_turned.nd rfl (by first | exact Or.inl rfl | exact Or.inr rfl)) egs_nil))))))
    (ess_cons (es_set 6 sc_turned.nd rfl (by first | exact Or.inl rfl | exact Or.inr rfl) (ev_tup (ea_cons (ev_name 2) (ea_cons (ev_name 3) (ea_cons (ev_name 4) (ea_cons (ev_name 5) (ea_cons (ev_neg (ev_name 2)) (ea_cons (ev_neg (ev_name 3)) (ea_cons (ev_neg (ev_name 4)) (ea_cons (ev_neg (ev_name 5)) ea_nil))))))))))
    (ess_one (es_ret (ev_callT o_tuple call_tuple_of z_tuple (by rfl) (by decide +kernel) (ev_L (el_lc (js := [7]) rfl (tg_name 7) rfl sc_turned.nd (ei_r1 z_range (by rfl) ev_int) (blkOk_by (own := [("direction", 7)]) (N := N_turned) (sc := defScope s_turned) (by decide +kernel)) (fun _ _ _ _ _ => pg_name (i := 7) sc_turned.nd rfl (Or.inl rfl)) (fun _ _ _ _ _ => ets_nil) (fun _ _ _ _ _ => (dixn hr (pv 6) (ev2 op_mod o_mod (ev2nn op_sub o_sub (pv 7) (pv 1)) ev_int) (fun _ _ => rfl))))))))))
/-! ### laid -/
abbrev s_laid : Stmt := topS 7
abbrev N_laid : List Str := ["pose", "other"]
theorem sc_laid : FnScope N_laid ["pose", "other"] (defScope s_laid) := ⟨rfl, rfl, rfl, by decide +kernel, rfl, by decide +kernel, by decide +kernel⟩
def B_laid : Fs := (sRet (f2 addD (fCall 2 F_moved (aCons (fCall 2 F_turned (aCons (fSln 1 pNo (pOf (fC (.int 4)))) (aCons (f2n ixX 0 (fC (.int 4))) aNil))) (aCons (fSln 0 pNo (pOf (fC (.int 4)))) aNil))) (fTup (aCons (f2 modD (f2 addD (f2n ixX 1 (fC (.int 4))) (f2n ixX 0 (fC (.int 4)))) (fC (.int 8))) aNil))))
def F_laid : Fun' := runF false 0 B_laid
theorem fn_laid {P : Program} {w : World} {K : PySem.W.Frag} {mg : Str → Option Value} {base : Heap} {f : Addr} {fd : FuncData} (Fu : Fun K "laid" "laid" s_laid f fd)  (C_moved : Cal P w K mg base "moved" 1 ["position", "other"] false F_moved) (C_turned : Cal P w K mg base "turned" 1 ["position", "eighths"] false F_turned) :
    FnG P w K mg base 2 f fd ["pose", "other"] false F_laid :=
  fnG_of Fu sc_laid rfl (does_run _ _ _) fun cdv A outer s H hG hr =>
    (ess_one (es_ret (ev2 x_add o_add (ev_call C_moved (hr.mono (by decide)) hG (by rfl) (ea_cons (ev_call C_turned (hr.mono (by decide)) hG (by rfl) (ea_cons (ev_sln (pv 1) ep_no (ep_of ev_int)) (ea_cons (dixn hr (pv 0) ev_int (fun _ _ => rfl)) ea_nil))) (ea_cons (ev_sln (pv 0) ep_no (ep_of ev_int)) ea_nil))) (ev_tup (ea_cons (ev2 op_mod o_mod (ev2 x_add o_add (dixn hr (pv 1) ev_int (fun _ _ => rfl)) (dixn hr (pv 0) ev_int (fun _ _ => rfl))) ev_int) ea_nil)))))
def c_ENDS_AHEAD : List (Str × D) := [("S", (.tuple [(.tuple [.int 2, .int 0, .int 0, .int 0, .int 0])])), ("H", (.tuple [(.tuple [.int 1, .int 0, .int 0, .int 0, .int 0])])), ("C", (.tuple [(.tuple [.int 0, .int 0, .int 2, .int (-2), .int 1])])), ("P", (.tuple [(.tuple [.int 2, .int 0, .int 0, .int 0, .int 0]), (.tuple [.int 0, .int 0, .int 2, .int (-2), .int 1])])), ("Q", (.tuple [(.tuple [.int 2, .int 0, .int 0, .int 0, .int 0]), (.tuple [.int 0, .int 2, .int (-2), .int 0, .int 7])])), ("X", (.tuple [(.tuple [.int 2, .int 0, .int 0, .int 0, .int 0]), (.tuple [.int 1, .int 0, .int 1, .int 0, .int 2]), (.tuple [.int 1, .int 0, .int (-1), .int 0, .int 6])]))]
/-! ### ends_of -/
abbrev s_ends_of : Stmt := topS 11
abbrev N_ends_of : List Str := ["kind", "pose", "end"]
theorem sc_ends_of : FnScope N_ends_of ["kind", "pose"] (defScope s_ends_of) := ⟨rfl, rfl, rfl, by decide +kernel, rfl, by decide +kernel, by decide +kernel⟩
def E1_ends_of : Fe := (fCall 2 F_laid (aCons (fN 1) (aCons (fN 2) aNil)))
def B_ends_of : Fs := (sRet (f1 tupleD (f2 addD (fL (lDisp (aCons (fCall 1 F_back (aCons (fN 1) aNil)) aNil))) (fL (lLc [2] (gDat 2) (wOf (f1 (tabD c_ENDS_AHEAD) (fN 0))) tYe E1_ends_of)))))
def F_ends_of : Fun' := runF false 1 B_ends_of
theorem fn_ends_of {P : Program} {w : World} {K : PySem.W.Frag} {mg : Str → Option Value} {base : Heap} {f : Addr} {fd : FuncData} (Fu : Fun K "ends_of" "ends_of" s_ends_of f fd) (z_tuple : mg "tuple" = none) {u_ENDS_AHEAD : Value} (V_ENDS_AHEAD : Tab K w u_ENDS_AHEAD c_ENDS_AHEAD) (g_ENDS_AHEAD : mg "ENDS_AHEAD" = some u_ENDS_AHEAD) (C_back : Cal P w K mg base "back" 1 ["pose"] false F_back) (C_laid : Cal P w K mg base "laid" 2 ["pose", "other"] false F_laid) :
    FnG P w K mg base 3 f fd ["kind", "pose"] false F_ends_of :=
  fnG_of Fu sc_ends_of rfl (does_run _ _ _) fun cdv A outer s H hG hr =>
    (ess_one (es_ret (ev_callT o_tuple call_tuple_of z_tuple (by rfl) (by decide +kernel) (ev2 x_add o_add (ev_L (el_disp (ea_cons (ev_call C_back (hr.mono (by decide)) hG (by rfl) (ea_cons (ev_name 1) ea_nil)) ea_nil))) (ev_L (el_lc (js := [2]) rfl (tg_name 2) rfl sc_ends_of.nd (ei_seq (ev_tab V_ENDS_AHEAD g_ENDS_AHEAD (by rfl) (ev_name 0) (fun _ _ => rfl))) (blkOk_by (own := [("end", 2)]) (N := N_ends_of) (sc := defScope s_ends_of) (by decide +kernel)) (fun _ _ _ _ _ => pg_name (i := 2) sc_ends_of.nd rfl (Or.inl rfl)) (fun _ _ _ _ _ => ets_nil) (fun _ _ _ _ _ => (ev_call C_laid (hr.mono (by decide)) hG (by rfl) (ea_cons (ev_name 1) (ea_cons (ev_name 2) ea_nil))))))))))
/-! ### ends_in -/
abbrev s_ends_in : Stmt := topS 19
abbrev N_ends_in : List Str := ["layout", "placed", "number", "piece", "end", "pose"]
theorem sc_ends_in : FnScope N_ends_in ["layout"] (defScope s_ends_in) := ⟨rfl, rfl, rfl, by decide +kernel, rfl, by decide +kernel, by decide +kernel⟩
def E1_ends_in : Fe := (fTup (aCons (fN 2) (aCons (fN 3) aNil)))
def W2_ends_in : Fa := (wEnum (fCall 2 F_ends_of (aCons (f2n ixX 3 (fC (.int 0))) (aCons (f2n ixX 3 (fC (.int 1))) aNil))))
def E3_ends_in : Fe := (fTup (aCons (fN 2) (aCons (fN 4) (aCons (fN 5) aNil))))
def B_ends_in : Fs := (sSeq (sAsg (fL (lLc [2, 3] (gTp 2 (gsCons (gDat 2) (gsCons (gDat 3) gsNo))) (wEnum (fN 0)) (ofB (f2n notNd 3 (fC .none))) E1_ends_in)) (gDat 1))
    (sRet (f1 tupleD (fL (lLc2 [2, 3, 4, 5] (gTp 2 (gsCons (gDat 2) (gsCons (gDat 3) gsNo))) (wOf (fN 1)) tYe W2_ends_in [4, 5] (gTp 2 (gsCons (gDat 4) (gsCons (gDat 5) gsNo))) tYe E3_ends_in)))))
def F_ends_in : Fun' := runF false 5 B_ends_in
theorem fn_ends_in {P : Program} {w : World} {K : PySem.W.Frag} {mg : Str → Option Value} {base : Heap} {f : Addr} {fd : FuncData} (Fu : Fun K "ends_in" "ends_in" s_ends_in f fd) (z_enumerate : mg "enumerate" = none) (z_tuple : mg "tuple" = none) (C_ends_of : Cal P w K mg base "ends_of" 3 ["kind", "pose"] false F_ends_of) :
    FnG P w K mg base 4 f fd ["layout"] false F_ends_in :=
  fnG_of Fu sc_ends_in rfl (does_run _ _ _) fun cdv A outer s H hG hr =>
    (ess_cons (es_lcDat 1 (js := [2, 3]) rfl (tg_pair 2 3) rfl sc_ends_in.nd rfl rfl (sw_true rfl rfl rfl (by decide +kernel)) (ei_enum z_enumerate (by rfl) (ev_name 0)) (blkOk_by (own := [("number", 2), ("piece", 3)]) (N := N_ends_in) (sc := defScope s_ends_in) (by decide +kernel)) (fun _ _ _ _ _ => pg_tup rfl (pgs_cons (pg_name (i := 2) sc_ends_in.nd rfl (Or.inl rfl)) (pgs_cons (pg_name (i := 3) sc_ends_in.nd rfl (Or.inl rfl)) pgs_nil))) (fun _ _ _ _ _ => (ets_one (et2n op_notN o_notN (nomark _) (pv 3) ev_non))) (fun _ _ _ _ _ => (ev_tup (ea_cons (ev_name 2) (ea_cons (ev_name 3) ea_nil)))))
    (ess_one (es_ret (ev_callT o_tuple call_tuple_of z_tuple (by rfl) (by decide +kernel) (ev_L (el_lc2 (js := [2, 3, 4, 5]) (js1 := [4, 5]) rfl (by decide) (tg_t (tgs_cons (tg_n 2 (by decide)) (tgs_cons (tg_n 3 (by decide)) tgs_nil))) (tg_t (tgs_cons (tg_n 4 (by decide)) (tgs_cons (tg_n 5 (by decide)) tgs_nil))) rfl sc_ends_in.nd (ei_seq (ev_name 1)) (blkOk_by (own := [("number", 2), ("piece", 3), ("end", 4), ("pose", 5)]) (N := N_ends_in) (sc := defScope s_ends_in) (by decide +kernel)) (fun _ _ _ _ _ => (pg_tup rfl (pgs_cons (pg_name (i := 2) sc_ends_in.nd rfl (Or.inl rfl)) (pgs_cons (pg_name (i := 3) sc_ends_in.nd rfl (Or.inl rfl)) pgs_nil)))) (fun _ _ _ _ _ => ets_nil) (fun _ _ _ _ _ => (ei_enum z_enumerate (by rfl) (ev_call C_ends_of (hr.mono (by decide)) hG (by rfl) (ea_cons (dixn hr (pv 3) ev_int (fun _ _ => rfl)) (ea_cons (dixn hr (pv 3) ev_int (fun _ _ => rfl)) ea_nil))))) (fun _ _ _ _ _ => (pg_tup rfl (pgs_cons (pg_name (i := 4) sc_ends_in.nd rfl (Or.inl rfl)) (pgs_cons (pg_name (i := 5) sc_ends_in.nd rfl (Or.inl rfl)) pgs_nil)))) (fun _ _ _ _ _ => ets_nil) (fun _ _ _ _ _ => (ev_tup (ea_cons (ev_name 2) (ea_cons (ev_name 4) (ea_cons (ev_name 5) ea_nil)))))))))))
def c_MOST_NUMBERS : D := .int 24
/-! ### reason_against -/
abbrev s_reason_against : Stmt := topS 22
abbrev N_reason_against : List Str := ["layout", "pieces", "poses", "_", "pose"]
theorem sc_reason_against : FnScope N_reason_against ["layout", "pieces"] (defScope s_reason_against) := ⟨rfl, rfl, rfl, by decide +kernel, rfl, by decide +kernel, by decide +kernel⟩
def E1_reason_against : Fe := (fN 4)
def B_reason_against : Fs := (sSeq (sIf (ofB (f2 gtD (f2 addD (f1n lenD 0) (f1n lenD 1)) (fC c_MOST_NUMBERS))) (sRet (fC (.str "too many pieces"))) sNil)
    (sSeq (sAsg (fL (lLc [3, 4] (gTp 3 (gsCons (gDat 3) (gsCons (gDat 3) (gsCons (gDat 4) gsNo)))) (wOf (fCall 1 F_ends_in (aCons (f2 addD (fL (lOfn 0)) (fL (lOfn 1))) aNil))) tYe E1_reason_against)) (gDat 2))
    (sSeq (sIf (ofB (f2 ltD (fLenSet (fN 2)) (f1n lenD 2))) (sRet (fC (.str "ends overlap"))) sNil)
    (sRet (fC .none)))))
def F_reason_against : Fun' := runF false 3 B_reason_against
theorem fn_reason_against {P : Program} {w : World} {K : PySem.W.Frag} {mg : Str → Option Value} {base : Heap} {f : Addr} {fd : FuncData} (Fu : Fun K "reason_against" "reason_against" s_reason_against f fd) (z_len : mg "len" = none) (z_list : mg "list" = none) (z_set : mg "set" = none) {u_MOST_NUMBERS : Value} (V_MOST_NUMBERS : VD K u_MOST_NUMBERS c_MOST_NUMBERS) (g_MOST_NUMBERS : mg "MOST_NUMBERS" = some u_MOST_NUMBERS) (C_ends_in : Cal P w K mg base "ends_in" 4 ["layout"] false F_ends_in) :
    FnG P w K mg base 5 f fd ["layout", "pieces"] false F_reason_against :=
  fnG_of Fu sc_reason_against rfl (does_run _ _ _) fun cdv A outer s H hG hr =>
    (ess_cons (es_if (et2 x_gt o_cmp (nomark _) (ev2 x_add o_add (ev_callBn o_len x_len z_len (by rfl) (by decide +kernel) (pv 0)) (ev_callBn o_len x_len z_len (by rfl) (by decide +kernel) (pv 1))) (ev_glob V_MOST_NUMBERS g_MOST_NUMBERS (by rfl))) (ess_one (es_ret ev_str)) ess_nil)
    (ess_cons (es_lcDat 2 (js := [3, 4]) rfl (tg_t (tgs_cons (tg_n 3 (by decide)) (tgs_cons (tg_n 3 (by decide)) (tgs_cons (tg_n 4 (by decide)) tgs_nil)))) rfl sc_reason_against.nd rfl rfl (sw_true rfl rfl rfl (by decide +kernel)) (ei_seq (ev_call C_ends_in (hr.mono (by decide)) hG (by rfl) (ea_cons (ev2 x_add o_add (ev_L (el_listn z_list (by rfl) (pv 0))) (ev_L (el_listn z_list (by rfl) (pv 1)))) ea_nil))) (blkOk_by (own := [("_", 3), ("pose", 4)]) (N := N_reason_against) (sc := defScope s_reason_against) (by decide +kernel)) (fun _ _ _ _ _ => (pg_tup rfl (pgs_cons (pg_name (i := 3) sc_reason_against.nd rfl (Or.inl rfl)) (pgs_cons (pg_name (i := 3) sc_reason_against.nd rfl (Or.inl rfl)) (pgs_cons (pg_name (i := 4) sc_reason_against.nd rfl (Or.inl rfl)) pgs_nil))))) (fun _ _ _ _ _ => ets_nil) (fun _ _ _ _ _ => (ev_name 4)))
    (ess_cons (es_if (et2 x_lt o_cmp (nomark _) (ev_lenSet rfl hr z_len (by rfl) z_set (by rfl) (ev_name 2)) (ev_callBn o_len x_len z_len (by rfl) (by decide +kernel) (pv 2))) (ess_one (es_ret ev_str)) ess_nil)
    (ess_one (es_ret ev_non)))))
/-! ### Layout___put -/
abbrev s_Layout___put : Stmt := methS (topS 18) 11
abbrev N_Layout___put : List Str := ["self", "pieces", "reason"]
theorem sc_Layout___put : FnScope N_Layout___put ["self", "pieces"] (defScope s_Layout___put) := ⟨rfl, rfl, rfl, by decide +kernel, rfl, by decide +kernel, by decide +kernel⟩
def B_Layout___put : Fs := (sSeq (sAsg (fCall 2 F_reason_against (aCons (fFld 0 [("Layout", "_pieces")]) (aCons (fN 1) aNil))) (gDat 2))
    (sSeq (sIf (ofB (f2n notNd 2 (fC .none))) (sRaise (fMk "BadPiece" "reason" (fN 2))) sNil)
    (sSeq (sAppF 0 [("Layout", "_past")] (pFld 0 [("Layout", "_pieces")]))
    (sSeq (sFldD 0 [] "Layout" "_pieces" (f2m addD (fFld 0 [("Layout", "_pieces")]) 1))
    (sRet (fTupR2 (f2 subD (f1 lenD (fFld 0 [("Layout", "_pieces")])) (f1n lenD 1)) (f1 lenD (fFld 0 [("Layout", "_pieces")]))))))))
def F_Layout___put : FunX := runX 1 B_Layout___put
theorem fn_Layout___put {P : Program} {w : World} {K : PySem.W.Frag} {mg : Str → Option Value} {base : Heap} {f : Addr} {fd : FuncData} (Fu : Fun K "_put" "Layout._put" s_Layout___put f fd) (z_len : mg "len" = none) (z_range : mg "range" = none) (z_tuple : mg "tuple" = none) (X_BadPiece : ExcN P w K mg base "BadPiece" "reason") (L_Layout__past : FA K "Layout" "_past") (L_Layout__pieces : FA K "Layout" "_pieces") (C_reason_against : Cal P w K mg base "reason_against" 5 ["layout", "pieces"] false F_reason_against) :
    FnX P w K mg base 6 f fd ["self", "pieces"] F_Layout___put :=
  fnX_of Fu sc_Layout___put rfl fun cdv A outer s H E hG hr tk hp =>
    (ess_cons (es_set 2 sc_Layout___put.nd rfl (by first | exact Or.inl rfl | exact Or.inr rfl) (ev_call C_reason_against (hr.mono (by decide)) hG (by rfl) (ea_cons (ev_fld (pl_fld L_Layout__pieces (pl_nm (pv 0)))) (ea_cons (ev_name 1) ea_nil))))
    (ess_cons (es_if (et2n op_notN o_notN (nomark _) (pv 2) ev_non) (ess_one (es_raiseM rfl tk (em_own X_BadPiece (hr.mono (by decide)) (by rfl) (ev_name 2)))) ess_nil)
    (ess_cons (es_appF (pl_fld L_Layout__past (pl_nm (pv 0))) (evp_fld (pl_fld L_Layout__pieces (pl_nm (pv 0)))))
    (ess_cons (es_fldD L_Layout__pieces (pl_nm (pv 0)) (ev2m x_add o_add (ev_fld (pl_fld L_Layout__pieces (pl_nm (pv 0)))) (pv 1)))
    (ess_one (es_ret (ev_tupR2 rfl z_tuple (by rfl) z_range (by rfl) (ev2 op_sub o_sub (ev_callB o_len x_len z_len (by rfl) (by decide +kernel) (ev_fld (pl_fld L_Layout__pieces (pl_nm (pv 0))))) (ev_callBn o_len x_len z_len (by rfl) (by decide +kernel) (pv 1))) (ev_callB o_len x_len z_len (by rfl) (by decide +kernel) (ev_fld (pl_fld L_Layout__pieces (pl_nm (pv 0))))))))))))
/-! ### Layout__place -/
abbrev s_Layout__place : Stmt := methS (topS 18) 1
abbrev N_Layout__place : List Str := ["self", "kind", "pose"]
theorem sc_Layout__place : FnScope N_Layout__place ["self", "kind", "pose"] (defScope s_Layout__place) := ⟨rfl, rfl, rfl, by decide +kernel, rfl, by decide +kernel, by decide +kernel⟩
def B_Layout__place : Fs := (sRetE (r2 ixX (rLend (clsM "Layout" "_put") 2 F_Layout___put 0 (rsEv (aCons (fL (lDisp (aCons (fTup (aCons (fN 1) (aCons (fN 2) aNil))) aNil))) aNil))) (rEv (fC (.int 0)))))
def F_Layout__place : FunX := runX 0 B_Layout__place
theorem fn_Layout__place {P : Program} {w : World} {K : PySem.W.Frag} {mg : Str → Option Value} {base : Heap} {f : Addr} {fd : FuncData} (Fu : Fun K "place" "Layout.place" s_Layout__place f fd)  (C_Layout___put : MethX P w K mg base "Layout" "_put" 6 ["self", "pieces"] F_Layout___put)  :
    FnX P w K mg base 7 f fd ["self", "kind", "pose"] F_Layout__place :=
  fnX_of Fu sc_Layout__place rfl fun cdv A outer s H E hG hr tk hp =>
    (ess_one (es_retE (er_ix hr (er_meth tk C_Layout___put (pv 0) (hr.mono (by decide)) hG (ers_ev (ea_cons (ev_L (el_disp (ea_cons (ev_tup (ea_cons (ev_name 1) (ea_cons (ev_name 2) ea_nil))) ea_nil))) ea_nil))) (er_ev ev_int) (fun _ _ => rfl))))
/-! ### Layout___refuse_no_piece -/
abbrev s_Layout___refuse_no_piece : Stmt := methS (topS 18) 12
abbrev N_Layout___refuse_no_piece : List Str := ["self", "number"]
theorem sc_Layout___refuse_no_piece : FnScope N_Layout___refuse_no_piece ["self", "number"] (defScope s_Layout___refuse_no_piece) := ⟨rfl, rfl, rfl, by decide +kernel, rfl, by decide +kernel, by decide +kernel⟩
def B_Layout___refuse_no_piece : Fs := (sIf (cOr (cNot (fCh leD ltD (fC (.int 0)) (fN 1) (f1 lenD (fFld 0 [("Layout", "_pieces")])))) (ofB (f2 isNd (f2m ixX (fFld 0 [("Layout", "_pieces")]) 1) (fC .none)))) (sRaise (fMk "BadPiece" "reason" (fC (.str "no such piece")))) sNil)
def F_Layout___refuse_no_piece : FunX := runX 0 B_Layout___refuse_no_piece
theorem fn_Layout___refuse_no_piece {P : Program} {w : World} {K : PySem.W.Frag} {mg : Str → Option Value} {base : Heap} {f : Addr} {fd : FuncData} (Fu : Fun K "_refuse_no_piece" "Layout._refuse_no_piece" s_Layout___refuse_no_piece f fd) (z_len : mg "len" = none) (X_BadPiece : ExcN P w K mg base "BadPiece" "reason") (L_Layout__pieces : FA K "Layout" "_pieces")  :
    FnX P w K mg base 3 f fd ["self", "number"] F_Layout___refuse_no_piece :=
  fnX_of Fu sc_Layout___refuse_no_piece rfl fun cdv A outer s H E hG hr tk hp =>
    (ess_one (es_if (et_w (ew_or (et_not (et_chain x_le o_cmp x_lt o_cmp ev_int (ev_name 1) (ev_callB o_len x_len z_len (by rfl) (by decide +kernel) (ev_fld (pl_fld L_Layout__pieces (pl_nm (pv 0))))))) (ew_or1 (et2 op_isN o_isN (nomark _) (dixm hr (ev_fld (pl_fld L_Layout__pieces (pl_nm (pv 0)))) (pv 1) (fun _ _ => rfl)) ev_non)))) (ess_one (es_raiseM rfl tk (em_own X_BadPiece (hr.mono (by decide)) (by rfl) ev_str))) ess_nil))
/-! ### Layout__remove -/
abbrev s_Layout__remove : Stmt := methS (topS 18) 3
abbrev N_Layout__remove : List Str := ["self", "number"]
theorem sc_Layout__remove : FnScope N_Layout__remove ["self", "number"] (defScope s_Layout__remove) := ⟨rfl, rfl, rfl, by decide +kernel, rfl, by decide +kernel, by decide +kernel⟩
def B_Layout__remove : Fs := (sSeq (sDropE (rLend (clsM "Layout" "_refuse_no_piece") 2 F_Layout___refuse_no_piece 0 (rsEv (aCons (fN 1) aNil))))
    (sSeq (sAppF 0 [("Layout", "_past")] (pFld 0 [("Layout", "_pieces")]))
    (sFldD 0 [] "Layout" "_pieces" (f2 addD (f2 addD (fSl (fFld 0 [("Layout", "_pieces")]) pNo (pOf (fN 1))) (fL (lDisp (aCons (fC .none) aNil)))) (fSl (fFld 0 [("Layout", "_pieces")]) (pOf (f2n addD 1 (fC (.int 1)))) pNo)))))
def F_Layout__remove : FunX := runX 0 B_Layout__remove
theorem fn_Layout__remove {P : Program} {w : World} {K : PySem.W.Frag} {mg : Str → Option Value} {base : Heap} {f : Addr} {fd : FuncData} (Fu : Fun K "remove" "Layout.remove" s_Layout__remove f fd)  (L_Layout__past : FA K "Layout" "_past") (L_Layout__pieces : FA K "Layout" "_pieces") (C_Layout___refuse_no_piece : MethX P w K mg base "Layout" "_refuse_no_piece" 3 ["self", "number"] F_Layout___refuse_no_piece)  :
    FnX P w K mg base 4 f fd ["self", "number"] F_Layout__remove :=
  fnX_of Fu sc_Layout__remove rfl fun cdv A outer s H E hG hr tk hp =>
    (ess_cons (es_exprE (er_meth tk C_Layout___refuse_no_piece (pv 0) (hr.mono (by decide)) hG (ers_ev (ea_cons (ev_name 1) ea_nil))))
    (ess_cons (es_appF (pl_fld L_Layout__past (pl_nm (pv 0))) (evp_fld (pl_fld L_Layout__pieces (pl_nm (pv 0)))))
    (ess_one (es_fldD L_Layout__pieces (pl_nm (pv 0)) (ev2 x_add o_add (ev2 x_add o_add (ev_sl (ev_fld (pl_fld L_Layout__pieces (pl_nm (pv 0)))) ep_no (ep_of (ev_name 1))) (ev_L (el_disp (ea_cons ev_non ea_nil)))) (ev_sl (ev_fld (pl_fld L_Layout__pieces (pl_nm (pv 0)))) (ep_of (ev2n x_add o_add (pv 1) ev_int)) ep_no))))))
/-! ### joints_in -/
abbrev s_joints_in : Stmt := topS 20
abbrev N_joints_in : List Str := ["layout", "at", "number", "end", "pose"]
theorem sc_joints_in : FnScope N_joints_in ["layout"] (defScope s_joints_in) := ⟨rfl, rfl, rfl, by decide +kernel, rfl, by decide +kernel, by decide +kernel⟩
def E1_joints_in : Fe := (fN 4)
def E2_joints_in : Fe := (fTup (aCons (fN 2) (aCons (fN 3) aNil)))
def E3_joints_in : Fe := (f2nn ixX 1 4)
def E4_joints_in : Fe := (f2n ixX 1 (fCall 1 F_back (aCons (fN 4) aNil)))
def B_joints_in : Fs := (sSeq (sAsg (fDl (lDc [2, 3, 4] (gTp 3 (gsCons (gDat 2) (gsCons (gDat 3) (gsCons (gDat 4) gsNo)))) (wOf (fCall 1 F_ends_in (aCons (fN 0) aNil))) tYe E1_joints_in E2_joints_in)) (gDat 1))
    (sRet (fDl (lDc [4] (gDat 4) (wKey (fN 1)) (ofB (f2m inX (fCall 1 F_back (aCons (fN 4) aNil)) 1)) E3_joints_in E4_joints_in))))
def F_joints_in : Fun' := runF false 4 B_joints_in
theorem fn_joints_in {P : Program} {w : World} {K : PySem.W.Frag} {mg : Str → Option Value} {base : Heap} {f : Addr} {fd : FuncData} (Fu : Fun K "joints_in" "joints_in" s_joints_in f fd)  (C_ends_in : Cal P w K mg base "ends_in" 4 ["layout"] false F_ends_in) (C_back : Cal P w K mg base "back" 1 ["pose"] false F_back) :
    FnG P w K mg base 5 f fd ["layout"] false F_joints_in :=
  fnG_of Fu sc_joints_in rfl (does_run _ _ _) fun cdv A outer s H hG hr =>
    (ess_cons (es_set 1 sc_joints_in.nd rfl (by first | exact Or.inl rfl | exact Or.inr rfl) (ev_dc hr ⟨rfl, sc_joints_in.nd, (ei_seq (ev_call C_ends_in (hr.mono (by decide)) hG (by rfl) (ea_cons (ev_name 0) ea_nil))), blkOk_by (own := [("number", 2), ("end", 3), ("pose", 4)]) (N := N_joints_in) (sc := defScope s_joints_in) (by decide +kernel), (fun _ _ _ _ _ => (pg_tup rfl (pgs_cons (pg_name (i := 2) sc_joints_in.nd rfl (Or.inl rfl)) (pgs_cons (pg_name (i := 3) sc_joints_in.nd rfl (Or.inl rfl)) (pgs_cons (pg_name (i := 4) sc_joints_in.nd rfl (Or.inl rfl)) pgs_nil))))), (fun _ _ _ _ _ => ets_nil), (fun _ _ _ _ _ => (ev_name 4)), (fun _ _ _ _ _ => (ev_tup (ea_cons (ev_name 2) (ea_cons (ev_name 3) ea_nil)))), fun _ => rfl⟩ (js := [2, 3, 4]) rfl (tg_t (tgs_cons (tg_n 2 (by decide)) (tgs_cons (tg_n 3 (by decide)) (tgs_cons (tg_n 4 (by decide)) tgs_nil))))))
    (ess_one (es_ret (ev_dc hr ⟨rfl, sc_joints_in.nd, (ei_key (ev_name 1)), blkOk_by (own := [("pose", 4)]) (N := N_joints_in) (sc := defScope s_joints_in) (by decide +kernel), (fun _ _ _ _ _ => (pg_name (i := 4) sc_joints_in.nd rfl (Or.inl rfl))), (fun _ _ _ _ _ => (ets_one (et2m (x_inX hr) o_inX (by rfl) (ev_call C_back (hr.mono (by decide)) hG (by rfl) (ea_cons (ev_name 4) ea_nil)) (pv 1)))), (fun _ _ _ _ _ => (dixnn hr (pv 1) (pv 4) (fun _ _ => rfl))), (fun _ _ _ _ _ => (dixn hr (pv 1) (ev_call C_back (hr.mono (by decide)) hG (by rfl) (ea_cons (ev_name 4) ea_nil)) (fun _ _ => rfl))), fun _ => rfl⟩ (js := [4]) rfl (tg_name 4)))))
/-! ### Layout__joined -/
abbrev s_Layout__joined : Stmt := methS (topS 18) 7
abbrev N_Layout__joined : List Str := ["self", "number", "end", "kind", "pose"]
theorem sc_Layout__joined : FnScope N_Layout__joined ["self", "number", "end"] (defScope s_Layout__joined) := ⟨rfl, rfl, rfl, by decide +kernel, rfl, by decide +kernel, by decide +kernel⟩
def B_Layout__joined : Fs := (sSeq (sDropE (rLend (clsM "Layout" "_refuse_no_piece") 2 F_Layout___refuse_no_piece 0 (rsEv (aCons (fN 1) aNil))))
    (sSeq (sAsg (f2m ixX (fFld 0 [("Layout", "_pieces")]) 1) (gTp 2 (gsCons (gDat 3) (gsCons (gDat 4) gsNo))))
    (sSeq (sIf (cNot (fCh leD ltD (fC (.int 0)) (fN 2) (f1 lenD (fCall 2 F_ends_of (aCons (fN 3) (aCons (fN 4) aNil)))))) (sRaise (fMk "BadPiece" "reason" (fC (.str "no such end")))) sNil)
    (sRet (fGetE (fCall 1 F_joints_in (aCons (fFld 0 [("Layout", "_pieces")]) aNil)) (fTup (aCons (fN 1) (aCons (fN 2) aNil))))))))
def F_Layout__joined : FunX := runX 2 B_Layout__joined
theorem fn_Layout__joined {P : Program} {w : World} {K : PySem.W.Frag} {mg : Str → Option Value} {base : Heap} {f : Addr} {fd : FuncData} (Fu : Fun K "joined" "Layout.joined" s_Layout__joined f fd) (z_len : mg "len" = none) (X_BadPiece : ExcN P w K mg base "BadPiece" "reason") (L_Layout__pieces : FA K "Layout" "_pieces") (C_Layout___refuse_no_piece : MethX P w K mg base "Layout" "_refuse_no_piece" 3 ["self", "number"] F_Layout___refuse_no_piece) (C_ends_of : Cal P w K mg base "ends_of" 3 ["kind", "pose"] false F_ends_of) (C_joints_in : Cal P w K mg base "joints_in" 5 ["layout"] false F_joints_in) :
    FnX P w K mg base 6 f fd ["self", "number", "end"] F_Layout__joined :=
  fnX_of Fu sc_Layout__joined rfl fun cdv A outer s H E hG hr tk hp =>
    (ess_cons (es_exprE (er_meth tk C_Layout___refuse_no_piece (pv 0) (hr.mono (by decide)) hG (ers_ev (ea_cons (ev_name 1) ea_nil))))
    (ess_cons (es_asg (dixm hr (ev_fld (pl_fld L_Layout__pieces (pl_nm (pv 0)))) (pv 1) (fun _ _ => rfl)) (eg_tup 2 rfl (egs_cons (eg_name 3 sc_Layout__joined.nd rfl (by first | exact Or.inl rfl | exact Or.inr rfl)) (egs_cons (eg_name 4 sc_Layout__joined.nd rfl (by first | exact Or.inl rfl | exact Or.inr rfl)) egs_nil))))
    (ess_cons (es_if (et_not (et_chain x_le o_cmp x_lt o_cmp ev_int (ev_name 2) (ev_callB o_len x_len z_len (by rfl) (by decide +kernel) (ev_call C_ends_of (hr.mono (by decide)) hG (by rfl) (ea_cons (ev_name 3) (ea_cons (ev_name 4) ea_nil)))))) (ess_one (es_raiseM rfl tk (em_own X_BadPiece (hr.mono (by decide)) (by rfl) ev_str))) ess_nil)
    (ess_one (es_ret (ev_getE1 hr (ev_call C_joints_in (hr.mono (by decide)) hG (by rfl) (ea_cons (ev_fld (pl_fld L_Layout__pieces (pl_nm (pv 0)))) ea_nil)) (ev_tup (ea_cons (ev_name 1) (ea_cons (ev_name 2) ea_nil)))))))))
def c_LEADS : List (Str × D) := [("H", (.tuple [.int 1, .int 0, .int 0, .int 0, .int 0])), ("L", (.tuple [.int 0, .int 0, .int 2, .int (-2), .int 1])), ("R", (.tuple [.int 0, .int 2, .int (-2), .int 0, .int 7])), ("S", (.tuple [.int 2, .int 0, .int 0, .int 0, .int 0]))]
/-! ### lead -/
abbrev s_lead : Stmt := topS 14
abbrev N_lead : List Str := ["pose", "row", "here", "letter"]
theorem sc_lead : FnScope N_lead ["pose", "row"] (defScope s_lead) := ⟨rfl, rfl, rfl, by decide +kernel, rfl, by decide +kernel, by decide +kernel⟩
def L1_lead : Fs := (sAsg (fCall 2 F_laid (aCons (fN 2) (aCons (f1 (tabD c_LEADS) (fN 3)) aNil))) (gDat 2))
def B_lead : Fs := (sSeq (sAsg (fN 0) (gDat 2))
    (sSeq (sFor (wOf (fN 1)) (gDat 3) L1_lead)
    (sRet (fN 2))))
def F_lead : Fun' := runF false 2 B_lead
theorem fn_lead {P : Program} {w : World} {K : PySem.W.Frag} {mg : Str → Option Value} {base : Heap} {f : Addr} {fd : FuncData} (Fu : Fun K "lead" "lead" s_lead f fd)  {u_LEADS : Value} (V_LEADS : Tab K w u_LEADS c_LEADS) (g_LEADS : mg "LEADS" = some u_LEADS) (C_laid : Cal P w K mg base "laid" 2 ["pose", "other"] false F_laid) :
    FnG P w K mg base 3 f fd ["pose", "row"] false F_lead :=
  fnG_of Fu sc_lead rfl (does_run _ _ _) fun cdv A outer s H hG hr =>
    (ess_cons (es_set 2 sc_lead.nd rfl (by first | exact Or.inl rfl | exact Or.inr rfl) (ev_name 0))
    (ess_cons (es_for PassesOwn.never rfl (ei_seq (ev_name 1)) (eg_name 3 sc_lead.nd rfl (by first | exact Or.inl rfl | exact Or.inr rfl)) (ess_one (es_set 2 sc_lead.nd rfl (by first | exact Or.inl rfl | exact Or.inr rfl) (ev_call C_laid (hr.mono (by decide)) hG (by rfl) (ea_cons (ev_name 2) (ea_cons (ev_tab V_LEADS g_LEADS (by rfl) (ev_name 3) (fun _ _ => rfl)) ea_nil))))))
    (ess_one (es_ret (ev_name 2)))))
def c_LAID_FORWARDS : List (Str × D) := [("S", .str "S"), ("H", .str "H"), ("L", .str "C")]
/-! ### pieces_along -/
abbrev s_pieces_along : Stmt := topS 21
abbrev N_pieces_along : List Str := ["pose", "row", "pieces", "here", "letter", "ahead"]
theorem sc_pieces_along : FnScope N_pieces_along ["pose", "row"] (defScope s_pieces_along) := ⟨rfl, rfl, rfl, by decide +kernel, rfl, by decide +kernel, by decide +kernel⟩
def L1_pieces_along : Fs := (sSeq (sAsg (fCall 2 F_lead (aCons (fN 3) (aCons (fN 4) aNil))) (gDat 5))
    (sSeq (sApp 2 (fIf (ofB (f2n eqD 4 (fC (.str "R")))) (fTup (aCons (fC (.str "C")) (aCons (fCall 1 F_back (aCons (fN 5) aNil)) aNil))) (fTup (aCons (f1 (tabD c_LAID_FORWARDS) (fN 4)) (aCons (fN 3) aNil)))))
    (sAsg (fN 5) (gDat 3))))
def B_pieces_along : Fs := (sSeq (sOwn 2 (lDisp aNil))
    (sSeq (sAsg (fN 0) (gDat 3))
    (sSeq (sFor (wOf (fN 1)) (gDat 4) L1_pieces_along)
    (sRet (fN 2)))))
def F_pieces_along : Fun' := runF false 4 B_pieces_along
theorem fn_pieces_along {P : Program} {w : World} {K : PySem.W.Frag} {mg : Str → Option Value} {base : Heap} {f : Addr} {fd : FuncData} (Fu : Fun K "pieces_along" "pieces_along" s_pieces_along f fd)  {u_LAID_FORWARDS : Value} (V_LAID_FORWARDS : Tab K w u_LAID_FORWARDS c_LAID_FORWARDS) (g_LAID_FORWARDS : mg "LAID_FORWARDS" = some u_LAID_FORWARDS) (C_lead : Cal P w K mg base "lead" 3 ["pose", "row"] false F_lead) (C_back : Cal P w K mg base "back" 1 ["pose"] false F_back) :
    FnG P w K mg base 4 f fd ["pose", "row"] false F_pieces_along :=
  fnG_of Fu sc_pieces_along rfl (does_run _ _ _) fun cdv A outer s H hG hr =>
    (ess_cons (es_own 2 sc_pieces_along.nd rfl (by first | exact Or.inl rfl | exact Or.inr rfl) (el_disp ea_nil))
    (ess_cons (es_set 3 sc_pieces_along.nd rfl (by first | exact Or.inl rfl | exact Or.inr rfl) (ev_name 0))
    (ess_cons (es_for PassesOwn.never rfl (ei_seq (ev_name 1)) (eg_name 4 sc_pieces_along.nd rfl (by first | exact Or.inl rfl | exact Or.inr rfl)) (ess_cons (es_set 5 sc_pieces_along.nd rfl (by first | exact Or.inl rfl | exact Or.inr rfl) (ev_call C_lead (hr.mono (by decide)) hG (by rfl) (ea_cons (ev_name 3) (ea_cons (ev_name 4) ea_nil))))
    (ess_cons (es_app 2 (pv 2) (ev_if (et2n (x_eq hr.units) o_eq (nomark _) (pv 4) ev_str) (ev_tup (ea_cons ev_str (ea_cons (ev_call C_back (hr.mono (by decide)) hG (by rfl) (ea_cons (ev_name 5) ea_nil)) ea_nil))) (ev_tup (ea_cons (ev_tab V_LAID_FORWARDS g_LAID_FORWARDS (by rfl) (ev_name 4) (fun _ _ => rfl)) (ea_cons (ev_name 3) ea_nil)))))
    (ess_one (es_set 3 sc_pieces_along.nd rfl (by first | exact Or.inl rfl | exact Or.inr rfl) (ev_name 5))))))
    (ess_one (es_ret (ev_name 2))))))
/-! ### Layout__lay -/
abbrev s_Layout__lay : Stmt := methS (topS 18) 2
abbrev N_Layout__lay : List Str := ["self", "pose", "row"]
theorem sc_Layout__lay : FnScope N_Layout__lay ["self", "pose", "row"] (defScope s_Layout__lay) := ⟨rfl, rfl, rfl, by decide +kernel, rfl, by decide +kernel, by decide +kernel⟩
def B_Layout__lay : Fs := (sRetE (rLend (clsM "Layout" "_put") 2 F_Layout___put 0 (rsEv (aCons (fCall 2 F_pieces_along (aCons (fN 1) (aCons (fN 2) aNil))) aNil))))
def F_Layout__lay : FunX := runX 0 B_Layout__lay
theorem fn_Layout__lay {P : Program} {w : World} {K : PySem.W.Frag} {mg : Str → Option Value} {base : Heap} {f : Addr} {fd : FuncData} (Fu : Fun K "lay" "Layout.lay" s_Layout__lay f fd)  (C_Layout___put : MethX P w K mg base "Layout" "_put" 6 ["self", "pieces"] F_Layout___put) (C_pieces_along : Cal P w K mg base "pieces_along" 4 ["pose", "row"] false F_pieces_along) :
    FnX P w K mg base 7 f fd ["self", "pose", "row"] F_Layout__lay :=
  fnX_of Fu sc_Layout__lay rfl fun cdv A outer s H E hG hr tk hp =>
    (ess_one (es_retE (er_meth tk C_Layout___put (pv 0) (hr.mono (by decide)) hG (ers_ev (ea_cons (ev_call C_pieces_along (hr.mono (by decide)) hG (by rfl) (ea_cons (ev_name 1) (ea_cons (ev_name 2) ea_nil))) ea_nil)))))
/-! ### _law_told -/
abbrev s__law_told : Stmt := topS 30
abbrev N__law_told : List Str := ["floor", "kind", "first", "second", "e"]
theorem sc__law_told : FnScope N__law_told ["floor", "kind", "first", "second"] (defScope s__law_told) := ⟨rfl, rfl, rfl, by decide +kernel, rfl, by decide +kernel, by decide +kernel⟩
def L1__law_told : Fs := (sSeq (sIf (ofB (f2n eqD 1 (fC (.int 0)))) (sRetE (rLend (clsM "Layout" "place") 3 F_Layout__place 0 (rsEv (aCons (fN 2) (aCons (fN 3) aNil))))) sNil)
    (sSeq (sIf (ofB (f2n eqD 1 (fC (.int 1)))) (sRetE (rLend (clsM "Layout" "lay") 3 F_Layout__lay 0 (rsEv (aCons (fN 3) (aCons (fN 2) aNil))))) sNil)
    (sRetE (rLend (clsM "Layout" "joined") 3 F_Layout__joined 0 (rsEv (aCons (fN 2) (aCons (fN 3) aNil)))))))
def B__law_told : Fs := (sTry 4 (fun c => List.lookup c [("BadPiece", true)]) L1__law_told (xRet (xLst (xsCons (xAnd (xIsi [("BadPiece", true)]) (xIsi [("BadPiece", true)])) (xsCons (xFld ["BadPiece"] "reason") xsNil)))))
def F__law_told : FunX := runX 1 B__law_told
theorem fn__law_told {P : Program} {w : World} {K : PySem.W.Frag} {mg : Str → Option Value} {base : Heap} {f : Addr} {fd : FuncData} (Fu : Fun K "_law_told" "_law_told" s__law_told f fd) (z_ValueError : mg "ValueError" = none) (z_isinstance : mg "isinstance" = none) {cE_RailError : Addr} (gE_RailError : mg "RailError" = some (.ref cE_RailError)) (T_RailError : ∀ p ∈ ([("BadPiece", true)] : List (Str × Bool)), ExmP K (.ref cE_RailError) p) {cI_BadPiece : Addr} (gI_BadPiece : mg "BadPiece" = some (.ref cI_BadPiece)) (I_BadPiece : ∀ p ∈ ([("BadPiece", true)] : List (Str × Bool)), IsiC K (.ref cI_BadPiece) p) (J_ValueError : ∀ p ∈ ([("BadPiece", true)] : List (Str × Bool)), IsiC K (.type "ValueError") p) (L_reason : ∀ c ∈ (["BadPiece"] : List Str), FldC K "reason" c) (C_Layout__place : MethX P w K mg base "Layout" "place" 7 ["self", "kind", "pose"] F_Layout__place) (C_Layout__lay : MethX P w K mg base "Layout" "lay" 7 ["self", "pose", "row"] F_Layout__lay) (C_Layout__joined : MethX P w K mg base "Layout" "joined" 6 ["self", "number", "end"] F_Layout__joined)  :
    FnX P w K mg base 8 f fd ["floor", "kind", "first", "second"] F__law_told :=
  fnX_of Fu sc__law_told rfl fun cdv A outer s H E hG hr tk hp =>
    (ess_one (es_tryAs (i := 4) (m := fun c => List.lookup c [("BadPiece", true)]) rfl rfl sc__law_told.nd rfl rfl ⟨rfl, by decide, Or.inl gE_RailError⟩ tk (exm_hm T_RailError)
      (fun W1 pn1 xe1 tk hp => (ess_cons (es_if (et2n (x_eq hr.units) o_eq (nomark _) (pv 1) ev_int) (ess_one (es_retE (er_meth tk C_Layout__place (pv 0) (hr.mono (by decide)) hG (ers_ev (ea_cons (ev_name 2) (ea_cons (ev_name 3) ea_nil)))))) ess_nil)
    (ess_cons (es_if (et2n (x_eq hr.units) o_eq (nomark _) (pv 1) ev_int) (ess_one (es_retE (er_meth tk C_Layout__lay (pv 0) (hr.mono (by decide)) hG (ers_ev (ea_cons (ev_name 3) (ea_cons (ev_name 2) ea_nil)))))) ess_nil)
    (ess_one (es_retE (er_meth tk C_Layout__joined (pv 0) (hr.mono (by decide)) hG (ers_ev (ea_cons (ev_name 2) (ea_cons (ev_name 3) ea_nil)))))))))
      (fun a1 oe1 cls1 d1 pn1 hz1 hf1 => su_of (sxs_one (sx_ret (ex_lst (exs_cons (ex_and (ex_isiC (i := 4) z_isinstance (by rfl) gI_BadPiece (by rfl) I_BadPiece hz1 hf1 rfl (Or.inl rfl)) (ex_one (ex_isiT (i := 4) z_isinstance (by rfl) z_ValueError (by rfl) (by decide +kernel) J_ValueError hz1 hf1 rfl (Or.inl rfl)))) (exs_cons (ex_fld (i := 4) L_reason hz1 hf1 rfl (Or.inl rfl)) exs_nil))))))))
/-! ### Layout__undo -/
abbrev s_Layout__undo : Stmt := methS (topS 18) 4
abbrev N_Layout__undo : List Str := ["self"]
theorem sc_Layout__undo : FnScope N_Layout__undo ["self"] (defScope s_Layout__undo) := ⟨rfl, rfl, rfl, by decide +kernel, rfl, by decide +kernel, by decide +kernel⟩
def B_Layout__undo : Fs := (sSeq (sIf (cNot (cTruF 0 [("Layout", "_past")])) (sRet (fC (.bool false))) sNil)
    (sSeq (sFldD 0 [] "Layout" "_pieces" (fPopF 0 [("Layout", "_past")]))
    (sRet (fC (.bool true)))))
def F_Layout__undo : FunX := runX 0 B_Layout__undo
theorem fn_Layout__undo {P : Program} {w : World} {K : PySem.W.Frag} {mg : Str → Option Value} {base : Heap} {f : Addr} {fd : FuncData} (Fu : Fun K "undo" "Layout.undo" s_Layout__undo f fd)  (L_Layout__past : FA K "Layout" "_past") (L_Layout__pieces : FA K "Layout" "_pieces")  :
    FnX P w K mg base 1 f fd ["self"] F_Layout__undo :=
  fnX_of Fu sc_Layout__undo rfl fun cdv A outer s H E hG hr tk hp =>
    (ess_cons (es_if (et_not (et_truF (pl_fld L_Layout__past (pl_nm (pv 0))))) (ess_one (es_ret ev_bl)) ess_nil)
    (ess_cons (es_fldD L_Layout__pieces (pl_nm (pv 0)) (ev_popF (pl_fld L_Layout__past (pl_nm (pv 0)))))
    (ess_one (es_ret ev_bl))))
/-! ### Layout__layout -/
abbrev s_Layout__layout : Stmt := methS (topS 18) 5
abbrev N_Layout__layout : List Str := ["self"]
theorem sc_Layout__layout : FnScope N_Layout__layout ["self"] (defScope s_Layout__layout) := ⟨rfl, rfl, rfl, by decide +kernel, rfl, by decide +kernel, by decide +kernel⟩
def B_Layout__layout : Fs := (sRet (f1 tupleD (fFld 0 [("Layout", "_pieces")])))
def F_Layout__layout : FunX := runX 0 B_Layout__layout
theorem fn_Layout__layout {P : Program} {w : World} {K : PySem.W.Frag} {mg : Str → Option Value} {base : Heap} {f : Addr} {fd : FuncData} (Fu : Fun K "layout" "Layout.layout" s_Layout__layout f fd) (z_tuple : mg "tuple" = none) (L_Layout__pieces : FA K "Layout" "_pieces")  :
    FnX P w K mg base 1 f fd ["self"] F_Layout__layout :=
  fnX_of Fu sc_Layout__layout rfl fun cdv A outer s H E hG hr tk hp =>
    (ess_one (es_ret (ev_callT o_tuple call_tuple_of z_tuple (by rfl) (by decide +kernel) (ev_fld (pl_fld L_Layout__pieces (pl_nm (pv 0)))))))
/-! ### law -/
abbrev s_law : Stmt := topS 31
abbrev N_law : List Str := ["script", "box", "floor", "many", "k", "gone", "left", "place"]
theorem sc_law : FnScope N_law ["script"] (defScope s_law) := ⟨rfl, rfl, rfl, by decide +kernel, rfl, by decide +kernel, by decide +kernel⟩
def L1_law : Fs := (sIf (ofB (f2m neD (fLend (clsM "Layout" "place") 3 F_Layout__place 2 (aCons (fC (.str "H")) (aCons (fTup (aCons (f1n intD 4) (aCons (fC (.int 0)) (aCons (fC (.int 0)) (aCons (fC (.int 0)) (aCons (fC (.int 0)) aNil)))))) aNil))) 4)) (sRet (fC (.bool false))) sNil)
def L2_law : Fs := (sIf (ofB (f2 neD (fLend anyM 4 F__law_told 2 (aCons (fC (.int 0)) (aCons (fC (.str "H")) (aCons (fTup (aCons (f1n intD 4) (aCons (fC (.int 0)) (aCons (fC (.int 7)) (aCons (fC (.int 0)) (aCons (fC (.int 0)) aNil)))))) aNil)))) (f2nn addD 3 4))) (sRet (fC (.bool false))) sNil)
def L3_law : Fs := (sIf (ofB (f2 notBd (fLend (clsM "Layout" "undo") 1 F_Layout__undo 2 aNil) (fC (.bool true)))) (sRet (fC (.bool false))) sNil)
def B_law : Fs := (sSeq (sOwn 1 (lDisp (aCons (fCall 3 F__law_digits (aCons (fN 0) (aCons (fC (.int 0)) (aCons (fC (.int 30)) aNil)))) (aCons (fC (.int 0)) aNil))))
    (sSeq (sMake 2 1 F_Layout____init__ "Layout" aNil)
    (sSeq (sAsg (f2 addD (fC (.int 20)) (fCallB 2 F__law_draw 1 (aCons (fC (.int 5)) aNil))) (gDat 3))
    (sSeq (sFor (wR1 (fN 3)) (gDat 4) L1_law)
    (sSeq (sAsg (fCallB 2 F__law_draw 1 (aCons (fC (.int 20)) aNil)) (gDat 5))
    (sSeq (sIf (cOr (ofB (f2 notNd (fLend (clsM "Layout" "remove") 2 F_Layout__remove 2 (aCons (fN 5) aNil)) (fC .none))) (cOr (ofB (f2 neD (fLend anyM 4 F__law_told 2 (aCons (fC (.int 2)) (aCons (fN 5) (aCons (fC (.int 0)) aNil)))) (fL (lDisp (aCons (fC (.bool true)) (aCons (fC (.str "no such piece")) aNil)))))) (ofB (f2 neD (fLend anyM 4 F__law_told 2 (aCons (fC (.int 2)) (aCons (fC (.int 24)) (aCons (fC (.int 0)) aNil)))) (fL (lDisp (aCons (fC (.bool true)) (aCons (fC (.str "no such piece")) aNil)))))))) (sRet (fC (.bool false))) sNil)
    (sSeq (sAsg (f2m subD (fC (.int 24)) 3) (gDat 6))
    (sSeq (sIf (ofB (f2 neD (fLend anyM 4 F__law_told 2 (aCons (fC (.int 1)) (aCons (f2 mulTD (fC (.str "H")) (f2n addD 6 (fC (.int 1)))) (aCons (fTup (aCons (fC (.int 0)) (aCons (fC (.int 0)) (aCons (fC (.int 5)) (aCons (fC (.int 0)) (aCons (fC (.int 0)) aNil)))))) aNil)))) (fL (lDisp (aCons (fC (.bool true)) (aCons (fC (.str "too many pieces")) aNil)))))) (sRet (fC (.bool false))) sNil)
    (sSeq (sFor (wR1 (fN 6)) (gDat 4) L2_law)
    (sSeq (sIf (cOr (ofB (f2 neD (fLend anyM 4 F__law_told 2 (aCons (fC (.int 0)) (aCons (fC (.str "S")) (aCons (fTup (aCons (fC (.int 0)) (aCons (fC (.int 0)) (aCons (fC (.int 9)) (aCons (fC (.int 0)) (aCons (fC (.int 0)) aNil)))))) aNil)))) (fL (lDisp (aCons (fC (.bool true)) (aCons (fC (.str "too many pieces")) aNil)))))) (ofB (f2 neD (fLend anyM 4 F__law_told 2 (aCons (fC (.int 0)) (aCons (fC (.str "H")) (aCons (fTup (aCons (fN 5) (aCons (fC (.int 0)) (aCons (fC (.int 0)) (aCons (fC (.int 0)) (aCons (fC (.int 0)) aNil)))))) aNil)))) (fL (lDisp (aCons (fC (.bool true)) (aCons (fC (.str "too many pieces")) aNil))))))) (sRet (fC (.bool false))) sNil)
    (sSeq (sAsg (f2 modD (f1 intD (f2n addD 5 (fC (.int 1)))) (fC (.int 20))) (gDat 7))
    (sSeq (sIf (cOr (ofB (f2 neD (fLend anyM 4 F__law_told 2 (aCons (fC (.int 2)) (aCons (fN 7) (aCons (fC (.int 2)) aNil)))) (fL (lDisp (aCons (fC (.bool true)) (aCons (fC (.str "no such end")) aNil)))))) (ofB (f2 neD (f1 lenD (fLend (clsM "Layout" "layout") 1 F_Layout__layout 2 aNil)) (fC (.int 24))))) (sRet (fC (.bool false))) sNil)
    (sSeq (sFor (wR1 (f2n addD 6 (fC (.int 1)))) (gDat 4) L3_law)
    (sSeq (sIf (cOr (ofB (f2m neD (f1 lenD (fLend (clsM "Layout" "layout") 1 F_Layout__layout 2 aNil)) 3)) (ofB (f2 inX (fC .none) (fLend (clsM "Layout" "layout") 1 F_Layout__layout 2 aNil)))) (sRet (fC (.bool false))) sNil)
    (sRet (f2 eqD (fLend anyM 4 F__law_told 2 (aCons (fC (.int 0)) (aCons (fC (.str "H")) (aCons (fTup (aCons (fC (.int 3)) (aCons (fC (.int 0)) (aCons (fC (.int 0)) (aCons (fC (.int 0)) (aCons (fC (.int 0)) aNil)))))) aNil)))) (fL (lDisp (aCons (fC (.bool true)) (aCons (f2 ixX (fL (lDisp (aCons (fC (.str "ends overlap")) (aCons (fC (.str "too many pieces")) aNil)))) (f1 intD (f2n eqD 3 (fC (.int 24))))) aNil))))))))))))))))))))
def F_law : Fun' := runF false 7 B_law
theorem fn_law {P : Program} {w : World} {K : PySem.W.Frag} {mg : Str → Option Value} {base : Heap} {f : Addr} {fd : FuncData} (Fu : Fun K "law" "law" s_law f fd) (z_int : mg "int" = none) (z_len : mg "len" = none) (z_range : mg "range" = none) (M_Layout : MakeX P w K mg base "Layout" 1 ["self"] F_Layout____init__) (C_Layout__place : MethX P w K mg base "Layout" "place" 7 ["self", "kind", "pose"] F_Layout__place) (C_Layout__remove : MethX P w K mg base "Layout" "remove" 4 ["self", "number"] F_Layout__remove) (C_Layout__layout : MethX P w K mg base "Layout" "layout" 1 ["self"] F_Layout__layout) (C_Layout__undo : MethX P w K mg base "Layout" "undo" 1 ["self"] F_Layout__undo) (C__law_digits : Cal P w K mg base "_law_digits" 2 ["script", "first", "last"] false F__law_digits) (C__law_draw : Cal P w K mg base "_law_draw" 1 ["box", "many"] true F__law_draw) (C__law_told : CalX P w K mg base "_law_told" 8 ["floor", "kind", "first", "second"] F__law_told) :
    FnG P w K mg base 9 f fd ["script"] false F_law :=
  fnG_of Fu sc_law rfl (does_run _ _ _) fun cdv A outer s H hG hr =>
    (ess_cons (es_own 1 sc_law.nd rfl (by first | exact Or.inl rfl | exact Or.inr rfl) (el_disp (ea_cons (ev_call C__law_digits (hr.mono (by decide)) hG (by rfl) (ea_cons (ev_name 0) (ea_cons ev_int (ea_cons ev_int ea_nil)))) (ea_cons ev_int ea_nil))))
    (ess_cons (es_make0 2 sc_law.nd rfl (by first | exact Or.inl rfl | exact Or.inr rfl) M_Layout (hr.mono (by decide)) hG (by rfl))
    (ess_cons (es_set 3 sc_law.nd rfl (by first | exact Or.inl rfl | exact Or.inr rfl) (ev2 x_add o_add ev_int (ev_callO 1 C__law_draw (hr.mono (by decide)) hG (by rfl) (pv 1) (ea_cons ev_int ea_nil))))
    (ess_cons (es_for PassesOwn.never rfl (ei_r1 z_range (by rfl) (ev_name 3)) (eg_name 4 sc_law.nd rfl (by first | exact Or.inl rfl | exact Or.inr rfl)) (ess_one (es_if (et2m (x_ne hr.units) o_ne (nomark _) (ev_meth C_Layout__place (pv 2) (hr.mono (by decide)) hG (ea_cons ev_str (ea_cons (ev_tup (ea_cons (ev_callTn o_int call_int1 z_int (by rfl) (by decide +kernel) (pv 4)) (ea_cons ev_int (ea_cons ev_int (ea_cons ev_int (ea_cons ev_int ea_nil)))))) ea_nil))) (pv 4)) (ess_one (es_ret ev_bl)) ess_nil)))
    (ess_cons (es_set 5 sc_law.nd rfl (by first | exact Or.inl rfl | exact Or.inr rfl) (ev_callO 1 C__law_draw (hr.mono (by decide)) hG (by rfl) (pv 1) (ea_cons ev_int ea_nil)))
    (ess_cons (es_if (et_w (ew_or (et2 op_notN o_notN (nomark _) (ev_meth C_Layout__remove (pv 2) (hr.mono (by decide)) hG (ea_cons (ev_name 5) ea_nil)) ev_non) (ew_or (et2 (x_ne hr.units) o_ne (nomark _) (ev_lend C__law_told (hr.mono (by decide)) hG (by rfl) (pv 2) (ea_cons ev_int (ea_cons (ev_name 5) (ea_cons ev_int ea_nil)))) (ev_L (el_disp (ea_cons ev_bl (ea_cons ev_str ea_nil))))) (ew_or1 (et2 (x_ne hr.units) o_ne (nomark _) (ev_lend C__law_told (hr.mono (by decide)) hG (by rfl) (pv 2) (ea_cons ev_int (ea_cons ev_int (ea_cons ev_int ea_nil)))) (ev_L (el_disp (ea_cons ev_bl (ea_cons ev_str ea_nil))))))))) (ess_one (es_ret ev_bl)) ess_nil)
    (ess_cons (es_set 6 sc_law.nd rfl (by first | exact Or.inl rfl | exact Or.inr rfl) (ev2m op_sub o_sub ev_int (pv 3)))
    (ess_cons (es_if (et2 (x_ne hr.units) o_ne (nomark _) (ev_lend C__law_told (hr.mono (by decide)) hG (by rfl) (pv 2) (ea_cons ev_int (ea_cons (ev2 x_mulT o_mulT ev_str (ev2n x_add o_add (pv 6) ev_int)) (ea_cons (ev_tup (ea_cons ev_int (ea_cons ev_int (ea_cons ev_int (ea_cons ev_int (ea_cons ev_int ea_nil)))))) ea_nil)))) (ev_L (el_disp (ea_cons ev_bl (ea_cons ev_str ea_nil))))) (ess_one (es_ret ev_bl)) ess_nil)
    (ess_cons (es_for PassesOwn.never rfl (ei_r1 z_range (by rfl) (ev_name 6)) (eg_name 4 sc_law.nd rfl (by first | exact Or.inl rfl | exact Or.inr rfl)) (ess_one (es_if (et2 (x_ne hr.units) o_ne (nomark _) (ev_lend C__law_told (hr.mono (by decide)) hG (by rfl) (pv 2) (ea_cons ev_int (ea_cons ev_str (ea_cons (ev_tup (ea_cons (ev_callTn o_int call_int1 z_int (by rfl) (by decide +kernel) (pv 4)) (ea_cons ev_int (ea_cons ev_int (ea_cons ev_int (ea_cons ev_int ea_nil)))))) ea_nil)))) (ev2nn x_add o_add (pv 3) (pv 4))) (ess_one (es_ret ev_bl)) ess_nil)))
    (ess_cons (es_if (et_w (ew_or (et2 (x_ne hr.units) o_ne (nomark _) (ev_lend C__law_told (hr.mono (by decide)) hG (by rfl) (pv 2) (ea_cons ev_int (ea_cons ev_str (ea_cons (ev_tup (ea_cons ev_int (ea_cons ev_int (ea_cons ev_int (ea_cons ev_int (ea_cons ev_int ea_nil)))))) ea_nil)))) (ev_L (el_disp (ea_cons ev_bl (ea_cons ev_str ea_nil))))) (ew_or1 (et2 (x_ne hr.units) o_ne (nomark _) (ev_lend C__law_told (hr.mono (by decide)) hG (by rfl) (pv 2) (ea_cons ev_int (ea_cons ev_str (ea_cons (ev_tup (ea_cons (ev_name 5) (ea_cons ev_int (ea_cons ev_int (ea_cons ev_int (ea_cons ev_int ea_nil)))))) ea_nil)))) (ev_L (el_disp (ea_cons ev_bl (ea_cons ev_str ea_nil)))))))) (ess_one (es_ret ev_bl)) ess_nil)
    (ess_cons (es_set 7 sc_law.nd rfl (by first | exact Or.inl rfl | exact Or.inr rfl) (ev2 op_mod o_mod (ev_callT o_int call_int1 z_int (by rfl) (by decide +kernel) (ev2n x_add o_add (pv 5) ev_int)) ev_int))
    (ess_cons (es_if (et_w (ew_or (et2 (x_ne hr.units) o_ne (nomark _) (ev_lend C__law_told (hr.mono (by decide)) hG (by rfl) (pv 2) (ea_cons ev_int (ea_cons (ev_name 7) (ea_cons ev_int ea_nil)))) (ev_L (el_disp (ea_cons ev_bl (ea_cons ev_str ea_nil))))) (ew_or1 (et2 (x_ne hr.units) o_ne (nomark _) (ev_callB o_len x_len z_len (by rfl) (by decide +kernel) (ev_meth0 C_Layout__layout (pv 2) (hr.mono (by decide)) hG)) ev_int)))) (ess_one (es_ret ev_bl)) ess_nil)
    (ess_cons (es_for PassesOwn.never rfl (ei_r1 z_range (by rfl) (ev2n x_add o_add (pv 6) ev_int)) (eg_name 4 sc_law.nd rfl (by first | exact Or.inl rfl | exact Or.inr rfl)) (ess_one (es_if (et2 op_notBl o_notB (nomark _) (ev_meth0 C_Layout__undo (pv 2) (hr.mono (by decide)) hG) ev_bl) (ess_one (es_ret ev_bl)) ess_nil)))
    (ess_cons (es_if (et_w (ew_or (et2m (x_ne hr.units) o_ne (nomark _) (ev_callB o_len x_len z_len (by rfl) (by decide +kernel) (ev_meth0 C_Layout__layout (pv 2) (hr.mono (by decide)) hG)) (pv 3)) (ew_or1 (et2 (x_inX hr) o_inX (by rfl) ev_non (ev_meth0 C_Layout__layout (pv 2) (hr.mono (by decide)) hG))))) (ess_one (es_ret ev_bl)) ess_nil)
    (ess_one (es_ret (ec2 (x_eq hr.units) o_eq (nomark _) (ev_lend C__law_told (hr.mono (by decide)) hG (by rfl) (pv 2) (ea_cons ev_int (ea_cons ev_str (ea_cons (ev_tup (ea_cons ev_int (ea_cons ev_int (ea_cons ev_int (ea_cons ev_int (ea_cons ev_int ea_nil)))))) ea_nil)))) (ev_L (el_disp (ea_cons ev_bl (ea_cons (dix hr (ev_L (el_disp (ea_cons ev_str (ea_cons ev_str ea_nil)))) (ev_callT o_int call_int1 z_int (by rfl) (by decide +kernel) (ec2n (x_eq hr.units) o_eq (nomark _) (pv 3) ev_int)) (fun _ _ => rfl)) ea_nil)))))))))))))))))))))
set_option maxHeartbeats 4000000
/-! ### what the law draws -/
def bx (ds : List Int) (i : Int) : List D := [.list (ds.map .int), .int i]
theorem draw_ok (ds : List Int) (i m : Int) (h0 : 0 ≤ i) (hm : 0 < m) : ∃ d, F__law_draw [.list (bx ds i), .int m] = some (.int d, bx ds (i + 1)) ∧ 0 ≤ d ∧ d < m := by
  have pos : ∀ x : Int, 0 ≤ x % m ∧ x % m < m := fun x => ⟨Int.emod_nonneg x (by omega), Int.emod_lt_of_pos x hm⟩
  by_cases h : i < ds.length
  · refine ⟨ds[i.toNat]'(by omega) % m, ?_, pos _⟩
    simp [F__law_draw, B__law_draw, bx, h0, h, hm]
  · refine ⟨(i * 7 + 3) % m, ?_, pos _⟩
    simp [F__law_draw, B__law_draw, bx, h0, h, hm]
theorem cell_ok (ns : List Int) (k : Int) (h0 : 0 ≤ k) : ∃ c, F__law_cell [scriptD ns, .int k] = some (.int c, []) := by
  by_cases h : k < ns.length
  · refine ⟨ns[k.toNat]'(by omega), ?_⟩
    simp [F__law_cell, B__law_cell, h0, h]
  · refine ⟨0, ?_⟩
    simp [F__law_cell, B__law_cell, h0, h]
theorem digits_1 (a b c d e : Option Ent) : ∀ (ks : List D) (f : Option Ent) (ds : List Int) (cell : Int), ds.length + ks.length ≤ 1000000 → ∃ (ds' : List Int) (cell' : Int) (f' : Option Ent), forF (gDat 6) L1__law_digits ks [a, b, c, some (.own false (ds.map .int)), d, some (.dat (.int cell)), f, e] =
    some (.nx [a, b, c, some (.own false (ds'.map .int)), d, some (.dat (.int cell')), f', e]) ∧ ds'.length ≤ ds.length + ks.length
  | [], f, ds, cell, _ => ⟨ds, cell, f, rfl, Nat.le_refl _⟩
  | k :: ks, f, ds, cell, h => by
    simp only [List.length_cons] at h
    by_cases hc : 0 < cell
    · obtain ⟨ds', c', f', e1, e2⟩ := digits_1 a b c d e ks (some (.dat k)) (ds ++ [cell % 1000]) (cell / 1000) (by simp; omega)
      refine ⟨ds', c', f', ?_, by simp at e2 ⊢; omega⟩
      rw [← e1]
      have h1 : ds.length ≤ 1000000 := by omega
      simp [forF, L1__law_digits, hc, h1]
    · obtain ⟨ds', c', f', e1, e2⟩ := digits_1 a b c d e ks (some (.dat k)) ds cell (by omega)
      refine ⟨ds', c', f', ?_, by simp at e2 ⊢; omega⟩
      rw [← e1]
      simp [forF, L1__law_digits, hc]
theorem digits_2 (a b c d e : Option Ent) : ∀ (ks : List Int) (f : Option Ent) (ds : List Int) (seed : Int), ds.length + ks.length ≤ 1000000 → ∃ (ds' : List Int) (seed' : Int) (f' : Option Ent), forF (gDat 6) L2__law_digits (ks.map .int) [a, b, c, some (.own false (ds.map .int)), d, e, f, some (.dat (.int seed))] =
    some (.nx [a, b, c, some (.own false (ds'.map .int)), d, e, f', some (.dat (.int seed'))]) ∧ ds'.length ≤ ds.length + ks.length
  | [], f, ds, seed, _ => ⟨ds, seed, f, rfl, Nat.le_refl _⟩
  | k :: ks, f, ds, seed, h => by
    simp only [List.length_cons] at h
    obtain ⟨ds', c', f', e1, e2⟩ := digits_2 a b c d e ks (some (.dat (.int k))) (ds ++ [(seed * 16807 + 7 * k + 1) % 2147483647 / 997 % 1000]) ((seed * 16807 + 7 * k + 1) % 2147483647) (by simp; omega)
    refine ⟨ds', c', f', ?_, by simp at e2 ⊢; omega⟩
    rw [← e1]
    have h1 : ds.length ≤ 1000000 := by omega
    simp [forF, L2__law_digits, h1]
theorem rngD_map (lo : Int) (n : Nat) : rngD lo n = ((List.range n).map fun (k : Nat) => lo + (k : Int)).map PyData.int := by
  unfold rngD
  rw [List.map_map]
  rfl
theorem digits_3 (ns : List Int) (b c : Option Ent) : ∀ (ks : List Int) (e4 e5 e6 e7 : Option Ent) (ds : List Int), (∀ k ∈ ks, 0 ≤ k) → ds.length + 60 * ks.length ≤ 1000000 → ∃ (ds' : List Int) (f4 f5 f6 f7 : Option Ent), forF (gDat 4) L3__law_digits (ks.map .int) [some (.dat (scriptD ns)), b, c, some (.own false (ds.map .int)), e4, e5, e6, e7] =
    some (.nx [some (.dat (scriptD ns)), b, c, some (.own false (ds'.map .int)), f4, f5, f6, f7])
  | [], e4, e5, e6, e7, ds, _, _ => ⟨ds, e4, e5, e6, e7, rfl⟩
  | k :: ks, e4, e5, e6, e7, ds, hk, h => by
    simp only [List.length_cons] at h
    obtain ⟨cell, ec⟩ := cell_ok ns k (hk k (by simp))
    have step : ∃ (ds1 : List Int) (f5 f6 f7 : Option Ent), L3__law_digits [some (.dat (scriptD ns)), b, c, some (.own false (ds.map .int)), some (.dat (.int k)), e5, e6, e7] =
        some (.nx [some (.dat (scriptD ns)), b, c, some (.own false (ds1.map .int)), some (.dat (.int k)), f5, f6, f7]) ∧ ds1.length ≤ ds.length + 60 := by
      by_cases hn : cell < 0
      · by_cases hb : (1000000000000000000 : Int) ≤ 1 - 2 * cell
        · obtain ⟨ds1, cell1, f1, e1, l1⟩ := digits_1 (some (.dat (scriptD ns))) b c (some (.dat (.int k))) e7 (rngD 0 60) e6 ds (1 - 2 * cell) (by simp [rngD]; omega)
          refine ⟨ds1, some (.dat (.int cell1)), f1, e7, ?_, by simpa [rngD] using l1⟩
          simp only [scriptD] at e1 ec ⊢
          simp [L3__law_digits, ec, hn, e1, powD, hb]
        · obtain ⟨ds1, seed1, f1, e1, l1⟩ := digits_2 (some (.dat (scriptD ns))) b c (some (.dat (.int k))) (some (.dat (.int (1 - 2 * cell)))) ((List.range 12).map fun (k : Nat) => 0 + (k : Int)) e6 ds (((1 - 2 * cell) * 48271 + k * 69621 + 11) % 2147483647) (by simp; omega)
          rw [← rngD_map] at e1
          refine ⟨ds1, some (.dat (.int (1 - 2 * cell))), f1, some (.dat (.int seed1)), ?_, by simp at l1; omega⟩
          simp only [scriptD] at e1 ec ⊢
          simp [L3__law_digits, ec, hn, e1, powD, hb]
      · by_cases hb : (1000000000000000000 : Int) ≤ cell
        · obtain ⟨ds1, cell1, f1, e1, l1⟩ := digits_1 (some (.dat (scriptD ns))) b c (some (.dat (.int k))) e7 (rngD 0 60) e6 ds cell (by simp [rngD]; omega)
          refine ⟨ds1, some (.dat (.int cell1)), f1, e7, ?_, by simpa [rngD] using l1⟩
          simp only [scriptD] at e1 ec ⊢
          simp [L3__law_digits, ec, hn, e1, powD, hb]
        · obtain ⟨ds1, seed1, f1, e1, l1⟩ := digits_2 (some (.dat (scriptD ns))) b c (some (.dat (.int k))) (some (.dat (.int cell))) ((List.range 12).map fun (k : Nat) => 0 + (k : Int)) e6 ds ((cell * 48271 + k * 69621 + 11) % 2147483647) (by simp; omega)
          rw [← rngD_map] at e1
          refine ⟨ds1, some (.dat (.int cell)), f1, some (.dat (.int seed1)), ?_, by simp at l1; omega⟩
          simp only [scriptD] at e1 ec ⊢
          simp [L3__law_digits, ec, hn, e1, powD, hb]
    obtain ⟨ds1, g5, g6, g7, e1, l1⟩ := step
    obtain ⟨ds', f4, f5, f6, f7, e2⟩ := digits_3 ns b c ks (some (.dat (.int k))) g5 g6 g7 ds1 (fun x hx => hk x (by simp [hx])) (by omega)
    exact ⟨ds', f4, f5, f6, f7, (forF_nx rfl e1).trans e2⟩
theorem digits_ok (ns : List Int) : ∃ ds : List Int, F__law_digits [scriptD ns, .int 0, .int 30] = some (.list (ds.map .int), []) := by
  obtain ⟨ds', f4, f5, f6, f7, e⟩ := digits_3 ns (some (.dat (.int 0))) (some (.dat (.int 30))) ((List.range 30).map fun (k : Nat) => 0 + (k : Int)) none none none none [] (by simp) (by simp)
  rw [← rngD_map] at e
  refine ⟨ds', ?_⟩
  simp only [scriptD, List.map_nil] at e ⊢
  simp [F__law_digits, B__law_digits, e]
/-! ### positions and poses as four and five ints -/
abbrev I4 := Int × Int × Int × Int
abbrev Q4 (x : I4) : D := .tuple [.int x.1, .int x.2.1, .int x.2.2.1, .int x.2.2.2]
abbrev L4 (x : I4) : D := .list [.int x.1, .int x.2.1, .int x.2.2.1, .int x.2.2.2]
abbrev P5 (x : I4) (h : Int) : D := .tuple [.int x.1, .int x.2.1, .int x.2.2.1, .int x.2.2.2, .int h]
def add4 (x y : I4) : I4 := (x.1 + y.1, x.2.1 + y.2.1, x.2.2.1 + y.2.2.1, x.2.2.2 + y.2.2.2)
def sub4 (x y : I4) : I4 := (x.1 - y.1, x.2.1 - y.2.1, x.2.2.1 - y.2.2.1, x.2.2.2 - y.2.2.2)
/-- turned by e eighths -/
def tn (e : Int) (x : I4) : I4 :=
  if e % 8 = 0 then x
  else if e % 8 = 1 then (-x.2.2.2, x.1, x.2.1, x.2.2.1)
  else if e % 8 = 2 then (-x.2.2.1, -x.2.2.2, x.1, x.2.1)
  else if e % 8 = 3 then (-x.2.1, -x.2.2.1, -x.2.2.2, x.1)
  else if e % 8 = 4 then (-x.1, -x.2.1, -x.2.2.1, -x.2.2.2)
  else if e % 8 = 5 then (x.2.2.2, -x.1, -x.2.1, -x.2.2.1)
  else if e % 8 = 6 then (x.2.2.1, x.2.2.2, -x.1, -x.2.1)
  else (x.2.1, x.2.2.1, x.2.2.2, -x.1)
theorem mod8 (e : Int) : e % 8 = 0 ∨ e % 8 = 1 ∨ e % 8 = 2 ∨ e % 8 = 3 ∨ e % 8 = 4 ∨ e % 8 = 5 ∨ e % 8 = 6 ∨ e % 8 = 7 := by omega
theorem neg_h (e : Int) : (-e) % 8 = if e % 8 = 0 then 0 else 8 - e % 8 := by
  split <;> omega
theorem tn_mod {e f : Int} (h : e % 8 = f % 8) (x : I4) : tn e x = tn f x := by
  unfold tn
  rw [h]
theorem tn_back (e : Int) (x : I4) : tn e (tn (-e) x) = x := by
  obtain ⟨a, b, c, d⟩ := x
  unfold tn
  rw [neg_h]
  rcases mod8 e with h | h | h | h | h | h | h | h <;> simp [h]
theorem tn_there (e : Int) (x : I4) : tn (-e) (tn e x) = x := by
  have := tn_back (-e) x
  rw [Int.neg_neg] at this
  exact this
theorem tn_add (e : Int) (x y : I4) : tn e (add4 x y) = add4 (tn e x) (tn e y) := by
  obtain ⟨a, b, c, d⟩ := x
  obtain ⟨a', b', c', d'⟩ := y
  unfold tn add4
  rcases mod8 e with h | h | h | h | h | h | h | h <;> simp [h] <;> omega
theorem tn_sum (e f : Int) (x : I4) : tn e (tn f x) = tn (e + f) x := by
  obtain ⟨a, b, c, d⟩ := x
  unfold tn
  have k : (e + f) % 8 = (e % 8 + f % 8) % 8 := by omega
  rw [k]
  rcases mod8 e with h | h | h | h | h | h | h | h <;> rcases mod8 f with h' | h' | h' | h' | h' | h' | h' | h' <;> simp [h, h']
theorem sub_add (x y : I4) : add4 (sub4 x y) y = x := by
  obtain ⟨a, b, c, d⟩ := x
  obtain ⟨a', b', c', d'⟩ := y
  unfold add4 sub4
  simp
theorem add_sub (x y : I4) : sub4 (add4 x y) y = x := by
  obtain ⟨a, b, c, d⟩ := x
  obtain ⟨a', b', c', d'⟩ := y
  unfold add4 sub4
  simp

/-! ### the program's poses -/
theorem turned_eq (x : I4) (e : Int) : F_turned [Q4 x, .int e] = some (Q4 (tn e x), []) := by
  obtain ⟨a, b, c, d⟩ := x
  unfold tn
  rcases mod8 e with h | h | h | h | h | h | h | h
  · have h0 : (0 - e) % 8 = 0 := by omega
    have h1 : (1 - e) % 8 = 1 := by omega
    have h2 : (2 - e) % 8 = 2 := by omega
    have h3 : (3 - e) % 8 = 3 := by omega
    have h0' : (-e) % 8 = 0 := by omega
    simp [F_turned, B_turned, E1_turned, rngD, List.range, List.range.loop, lcF, h, h0, h1, h2, h3, h0']
  · have h0 : (0 - e) % 8 = 7 := by omega
    have h1 : (1 - e) % 8 = 0 := by omega
    have h2 : (2 - e) % 8 = 1 := by omega
    have h3 : (3 - e) % 8 = 2 := by omega
    have h0' : (-e) % 8 = 7 := by omega
    simp [F_turned, B_turned, E1_turned, rngD, List.range, List.range.loop, lcF, h, h0, h1, h2, h3, h0']
  · have h0 : (0 - e) % 8 = 6 := by omega
    have h1 : (1 - e) % 8 = 7 := by omega
    have h2 : (2 - e) % 8 = 0 := by omega
    have h3 : (3 - e) % 8 = 1 := by omega
    have h0' : (-e) % 8 = 6 := by omega
    simp [F_turned, B_turned, E1_turned, rngD, List.range, List.range.loop, lcF, h, h0, h1, h2, h3, h0']
  · have h0 : (0 - e) % 8 = 5 := by omega
    have h1 : (1 - e) % 8 = 6 := by omega
    have h2 : (2 - e) % 8 = 7 := by omega
    have h3 : (3 - e) % 8 = 0 := by omega
    have h0' : (-e) % 8 = 5 := by omega
    simp [F_turned, B_turned, E1_turned, rngD, List.range, List.range.loop, lcF, h, h0, h1, h2, h3, h0']
  · have h0 : (0 - e) % 8 = 4 := by omega
    have h1 : (1 - e) % 8 = 5 := by omega
    have h2 : (2 - e) % 8 = 6 := by omega
    have h3 : (3 - e) % 8 = 7 := by omega
    have h0' : (-e) % 8 = 4 := by omega
    simp [F_turned, B_turned, E1_turned, rngD, List.range, List.range.loop, lcF, h, h0, h1, h2, h3, h0']
  · have h0 : (0 - e) % 8 = 3 := by omega
    have h1 : (1 - e) % 8 = 4 := by omega
    have h2 : (2 - e) % 8 = 5 := by omega
    have h3 : (3 - e) % 8 = 6 := by omega
    have h0' : (-e) % 8 = 3 := by omega
    simp [F_turned, B_turned, E1_turned, rngD, List.range, List.range.loop, lcF, h, h0, h1, h2, h3, h0']
  · have h0 : (0 - e) % 8 = 2 := by omega
    have h1 : (1 - e) % 8 = 3 := by omega
    have h2 : (2 - e) % 8 = 4 := by omega
    have h3 : (3 - e) % 8 = 5 := by omega
    have h0' : (-e) % 8 = 2 := by omega
    simp [F_turned, B_turned, E1_turned, rngD, List.range, List.range.loop, lcF, h, h0, h1, h2, h3, h0']
  · have h0 : (0 - e) % 8 = 1 := by omega
    have h1 : (1 - e) % 8 = 2 := by omega
    have h2 : (2 - e) % 8 = 3 := by omega
    have h3 : (3 - e) % 8 = 4 := by omega
    have h0' : (-e) % 8 = 1 := by omega
    simp [F_turned, B_turned, E1_turned, rngD, List.range, List.range.loop, lcF, h, h0, h1, h2, h3, h0']
theorem moved_eq (x y : I4) : F_moved [Q4 x, Q4 y] = some (Q4 (add4 x y), []) := by
  obtain ⟨a, b, c, d⟩ := x
  obtain ⟨a', b', c', d'⟩ := y
  simp [F_moved, B_moved, E1_moved, lcF, zipD, add4]
theorem cut4 (x : I4) (h : Int) : cutD [PyData.int x.1, .int x.2.1, .int x.2.2.1, .int x.2.2.2, .int h] none (some 4) = [.int x.1, .int x.2.1, .int x.2.2.1, .int x.2.2.2] := rfl
theorem laid_eq (x y : I4) (h k : Int) : F_laid [P5 x h, P5 y k] = some (P5 (add4 (tn h y) x) ((k + h) % 8), []) := by
  have e := turned_eq y h
  have e2 := moved_eq (tn h y) x
  have c1 := cut4 x h
  have c2 := cut4 y k
  simp [F_laid, B_laid, e, e2, c1, c2]
/-! ### the law's own -/
theorem back_eq (x : I4) (h : Int) : F_back [P5 x h] = some (P5 x ((h + 4) % 8), []) := by
  have c1 := cut4 x h
  simp [F_back, B_back, c1]

/-! ### comprehensions that change nothing around them -/
def LcStep (js : List Nat) (tg : Fg) (tt : Ft) (elt : Fe) (γ : En) (d : D) (o : Option D) : Prop :=
  ∃ γ0, tg d γ = some γ0 ∧ ((o = none ∧ ∃ γ1, tt γ0 = some (false, γ1) ∧ noOwns γ1 js = true ∧ wipeE γ1 js = γ) ∨
    (∃ y γ1 γ2, o = some y ∧ tt γ0 = some (true, γ1) ∧ elt γ1 = some (y, γ2) ∧ noOwns γ2 js = true ∧ wipeE γ2 js = γ))
theorem lcF_pure {α : Type} {enc : α → D} {js : List Nat} {tg : Fg} {tt : Ft} {elt : Fe} {γ : En} (h : α → Option D) : ∀ (ds : List α) (acc : List D), (∀ d ∈ ds, LcStep js tg tt elt γ (enc d) (h d)) → acc.length + ds.length ≤ 1000000 →
    lcF js tg tt elt (ds.map enc) γ acc = some (acc ++ ds.filterMap h, γ)
  | [], acc, _, _ => by simp [lcF]
  | d :: ds, acc, hs, hl => by
    rw [List.length_cons] at hl
    obtain ⟨γ0, e0, r⟩ := hs d (by simp)
    have ih := fun acc hl => lcF_pure (enc := enc) (js := js) (tg := tg) (tt := tt) (elt := elt) (γ := γ) h ds acc (fun x hx => hs x (by simp [hx])) hl
    rcases r with ⟨eo, γ1, e1, n1, w1⟩ | ⟨y, γ1, γ2, eo, e1, e2, n2, w2⟩
    · have := ih acc (by omega)
      simp only [List.map_cons, lcF, e0, e1, n1, if_true, w1, this, List.filterMap_cons, eo]
    · have := ih (acc ++ [y]) (by simp; omega)
      have hz : acc.length ≤ 1000000 := by omega
      simp only [List.map_cons, lcF, e0, e1, e2, n2, okN, hz, decide_true, Bool.and_self, if_true, w2, this, List.filterMap_cons, eo, List.append_assoc, List.cons_append, List.nil_append]
theorem lLc_pure {α : Type} {enc : α → D} {js : List Nat} {tg : Fg} {src : Fa} {tt : Ft} {elt : Fe} {γ γ1 : En} {ds : List α} (h : α → Option D) (hs : src γ = some (ds.map enc, γ1)) (hn : noOwns γ1 js = true) (hw : wipeE γ1 js = γ1) (hp : putBack γ1 γ1 js = γ1)
    (hst : ∀ d ∈ ds, LcStep js tg tt elt γ1 (enc d) (h d)) (hl : ds.length ≤ 1000000) : lLc js tg src tt elt γ = some (ds.filterMap h, γ1) := by
  have e := lcF_pure (enc := enc) (js := js) (tg := tg) (tt := tt) (elt := elt) (γ := γ1) h ds [] hst (by simpa using hl)
  simp only [List.nil_append] at e
  simp only [lLc, hs, hn, if_true, hw, e, hp]
/-- a step without a test -/
theorem lcs {js : List Nat} {tg : Fg} {elt : Fe} {γ γ0 γ2 : En} {d y : D} (h0 : tg d γ = some γ0) (h1 : elt γ0 = some (y, γ2)) (hn : noOwns γ2 js = true) (hw : wipeE γ2 js = γ) : LcStep js tg tYe elt γ d (some y) :=
  ⟨γ0, h0, .inr ⟨y, γ0, γ2, rfl, rfl, h1, hn, hw⟩⟩
def LcStep2 (js : List Nat) (tg : Fg) (tt : Ft) (src1 : Fa) (js1 : List Nat) (tg1 : Fg) (tt1 : Ft) (elt : Fe) (γ : En) (d : D) (out : List D) : Prop :=
  ∃ γ0, tg d γ = some γ0 ∧ ((out = [] ∧ ∃ γ1, tt γ0 = some (false, γ1) ∧ noOwns γ1 js = true ∧ wipeE γ1 js = γ) ∨
    (∃ γ1 γ2 es, tt γ0 = some (true, γ1) ∧ src1 γ1 = some (es, γ2) ∧ noOwns γ2 js1 = true ∧ out.length ≤ 1000 ∧
      ∀ acc : List D, acc.length ≤ 999000 → ∃ γ3, lcF js1 tg1 tt1 elt es (wipeE γ2 js1) acc = some (acc ++ out, γ3) ∧ noOwns γ3 js = true ∧ wipeE γ3 js = γ))
theorem lcF2_pure {α : Type} {enc : α → D} {js : List Nat} {tg : Fg} {tt : Ft} {src1 : Fa} {js1 : List Nat} {tg1 : Fg} {tt1 : Ft} {elt : Fe} {γ : En} (h : α → List D) : ∀ (ds : List α) (acc : List D), (∀ d ∈ ds, LcStep2 js tg tt src1 js1 tg1 tt1 elt γ (enc d) (h d)) → acc.length + (ds.flatMap h).length ≤ 999000 →
    lcF2 js tg tt src1 js1 tg1 tt1 elt (ds.map enc) γ acc = some (acc ++ ds.flatMap h, γ)
  | [], acc, _, _ => by simp [lcF2]
  | d :: ds, acc, hs, hl => by
    rw [List.flatMap_cons, List.length_append] at hl
    obtain ⟨γ0, e0, r⟩ := hs d (by simp)
    have ih := fun acc hl => lcF2_pure (enc := enc) (js := js) (tg := tg) (tt := tt) (src1 := src1) (js1 := js1) (tg1 := tg1) (tt1 := tt1) (elt := elt) (γ := γ) h ds acc (fun x hx => hs x (by simp [hx])) hl
    rcases r with ⟨eo, γ1, e1, n1, w1⟩ | ⟨γ1, γ2, es, e1, e2, n2, l2, q⟩
    · have := ih acc (by omega)
      simp only [List.map_cons, lcF2, e0, e1, n1, if_true, w1, this, List.flatMap_cons, eo, List.nil_append]
    · obtain ⟨γ3, q, n3, w3⟩ := q acc (by omega)
      have := ih (acc ++ h d) (by rw [List.length_append]; omega)
      simp only [List.map_cons, lcF2, e0, e1, e2, n2, if_true, q, n3, w3, this, List.flatMap_cons, List.append_assoc]
theorem lLc2_pure {α : Type} {enc : α → D} {js : List Nat} {tg : Fg} {src : Fa} {tt : Ft} {src1 : Fa} {js1 : List Nat} {tg1 : Fg} {tt1 : Ft} {elt : Fe} {γ γ1 : En} {ds : List α} (h : α → List D) (hs : src γ = some (ds.map enc, γ1)) (hn : noOwns γ1 js = true) (hw : wipeE γ1 js = γ1) (hp : putBack γ1 γ1 js = γ1)
    (hst : ∀ d ∈ ds, LcStep2 js tg tt src1 js1 tg1 tt1 elt γ1 (enc d) (h d)) (hl : (ds.flatMap h).length ≤ 999000) : lLc2 js tg src tt src1 js1 tg1 tt1 elt γ = some (ds.flatMap h, γ1) := by
  have e := lcF2_pure (enc := enc) (js := js) (tg := tg) (tt := tt) (elt := elt) (γ := γ1) h ds [] hst (by simpa using hl)
  simp only [List.nil_append] at e
  simp only [lLc2, hs, hn, if_true, hw, e, hp]
def idxL {α : Type} : Nat → List α → List (Nat × α)
  | _, [] => []
  | i, x :: r => (i, x) :: idxL (i + 1) r
theorem idxL_len {α : Type} : ∀ (l : List α) (i : Nat), (idxL i l).length = l.length
  | [], _ => rfl
  | _ :: r, i => congrArg (· + 1) (idxL_len r (i + 1))
theorem idxL_snd {α : Type} : ∀ (l : List α) (i : Nat), (idxL i l).map (·.2) = l
  | [], _ => rfl
  | x :: r, i => congrArg (x :: ·) (idxL_snd r (i + 1))
theorem enumL_map {α : Type} (f : α → D) : ∀ (l : List α) (i : Nat), enumL i (l.map f) = (idxL i l).map fun x => PyData.tuple [.int (x.1 : Int), f x.2]
  | [], _ => rfl
  | x :: r, i => congrArg (_ :: ·) (enumL_map f r (i + 1))
theorem fm_map {α β : Type} (f : α → β) : ∀ l : List α, l.filterMap (fun x => some (f x)) = l.map f
  | [] => rfl
  | a :: r => by rw [List.filterMap_cons, List.map_cons, fm_map f r]
/-! ### pieces and their ends -/
abbrev Ps := I4 × Int
abbrev F5 (p : Ps) : D := P5 p.1 p.2
def comp (p q : Ps) : Ps := (add4 (tn p.2 q.1) p.1, (q.2 + p.2) % 8)
def bk (p : Ps) : Ps := (p.1, (p.2 + 4) % 8)
theorem add_comm4 (x y : I4) : add4 x y = add4 y x := by
  unfold add4
  rw [Int.add_comm x.1, Int.add_comm x.2.1, Int.add_comm x.2.2.1, Int.add_comm x.2.2.2]
inductive Kd where
  | s | h | c | p | q | x
deriving DecidableEq
def kt : Kd → Str
  | .s => "S"
  | .h => "H"
  | .c => "C"
  | .p => "P"
  | .q => "Q"
  | .x => "X"
def ahd : Kd → List Ps
  | .s => [((2, 0, 0, 0), 0)]
  | .h => [((1, 0, 0, 0), 0)]
  | .c => [((0, 0, 2, -2), 1)]
  | .p => [((2, 0, 0, 0), 0), ((0, 0, 2, -2), 1)]
  | .q => [((2, 0, 0, 0), 0), ((0, 2, -2, 0), 7)]
  | .x => [((2, 0, 0, 0), 0), ((1, 0, 1, 0), 2), ((1, 0, -1, 0), 6)]
def ends (k : Kd) (p : Ps) : List Ps := bk p :: (ahd k).map (comp p)
theorem ends_len (k : Kd) (p : Ps) : (ends k p).length ≤ 4 := by cases k <;> simp [ends, ahd]
theorem ends_pos (k : Kd) (p : Ps) : 2 ≤ (ends k p).length := by cases k <;> simp [ends, ahd]
theorem if_t {c : Ft} {a b : Fs} {γ γ1 : En} {o : Option Out} (h : c γ = some (true, γ1)) (k : a γ1 = o) : sIf c a b γ = o := by
  unfold sIf
  rw [h]
  exact k
theorem if_f {c : Ft} {a b : Fs} {γ γ1 : En} {o : Option Out} (h : c γ = some (false, γ1)) (k : b γ1 = o) : sIf c a b γ = o := by
  unfold sIf
  rw [h]
  exact k
theorem plaid (p q : Ps) : F_laid [F5 p, F5 q] = some (F5 (comp p q), []) := laid_eq p.1 q.1 p.2 q.2
theorem pback (p : Ps) : F_back [F5 p] = some (F5 (bk p), []) := back_eq p.1 p.2
theorem ends_lc (a : Option Ent) (p : Ps) : ∀ (es : List Ps) (acc : List Ps), acc.length + es.length ≤ 1000 → lcF [2] (gDat 2) tYe E1_ends_of (es.map F5) [a, some (.dat (F5 p)), none] (acc.map F5) = some ((acc ++ es.map (comp p)).map F5, [a, some (.dat (F5 p)), none])
  | [], acc, _ => by simp [lcF]
  | q :: es, acc, hl => by
    rw [List.length_cons] at hl
    have k := ends_lc a p es (acc ++ [comp p q]) (by simp; omega)
    have hz : acc.length ≤ 1000000 := by omega
    have l := plaid p q
    have ee : E1_ends_of [a, some (.dat (F5 p)), some (.dat (F5 q))] = some (F5 (comp p q), [a, some (.dat (F5 p)), some (.dat (F5 q))]) := by simp only [E1_ends_of, runF, ini, gt, view, fN, fC, f2, f2n, f2m, f2nn, okN, addD, subD, fdivD, modD, cmpI, isNo, isNd, notNd, ixD, tYe, ofB, cNot, cAnd, cOr, fAnd, fOr, fNot, fNeg, fIf, aNil, aCons, fTup, fL, lDisp, DN.f1, f1n, lenD, intD, absD, tupleD, listD, lOf, lOfn, pNo, pOf, slD, fSl, fSln, pinB, gDat, gsNo, gsCons, gTp, gLp, sNil, sSeq, sAsg, sOwn, sSet, sApp, sDrop, sRet, sRetN, sBk, sCt, sIf, wOf, wR1, wR2, small62, sFor, cTru, cTrun, truD, lRep, sAsg2, fCallL, aLend, allD, sumD, wEnum, revTD, sNone, fCall, fCallB, ownB, lLc, simp_ix1, simp_ix2, List.set, List.length_cons, List.length_nil, List.map_cons, List.map_nil, List.cons_append, List.nil_append, List.replicate, Option.bind_some, Option.map_some, if_true, if_false, Bool.false_eq_true, Bool.not_true, Bool.not_false, decide_true, decide_false, reduceIte, Nat.reduceAdd, Nat.reduceLeDiff, Nat.reduceEqDiff, Int.reduceLE, Int.reduceLT, Int.reduceToNat, List.getElem?_cons_zero, List.getElem?_cons_succ, Int.cast_ofNat_Int, Nat.zero_add, Int.zero_le_ofNat, ixX, inX, notInX, catL, lCat, lCatn, fTxt, fTxtGet, sTxtPut, sTxt, sDicNew, sDicPut, fGet1, fGet2, wKey, fDl, sOwnX, sRetO, runX, iniX, tellX, notInD, l]
    rw [List.map_append, List.map_cons, List.map_nil, List.append_assoc] at k
    simp [lcF, ee, hz, k]
theorem ends_ok (key : Str) (p : Ps) (es : List Ps) (h : tabD c_ENDS_AHEAD (.str key) = some (.tuple (es.map F5))) (hl : es.length ≤ 100) : F_ends_of [.str key, F5 p] = some (.tuple (F5 (bk p) :: (es.map (comp p)).map F5), []) := by
  have e := ends_lc (some (.dat (.str key))) p es [] (by simp; omega)
  have b := pback p
  simp only [List.map_nil, List.nil_append] at e
  have hz : (([F5 (bk p)] : List D).length + ((es.map (comp p)).map F5).length ≤ 1000000) := by simp; omega
  have ad : addD (.list [F5 (bk p)]) (.list ((es.map (comp p)).map F5)) = some (.list (F5 (bk p) :: (es.map (comp p)).map F5)) := by
    simp only [addD, okN, hz, decide_true, if_true, List.cons_append, List.nil_append]
  simp only [↓ad, ↓h, F_ends_of, B_ends_of, runF, ini, gt, view, fN, fC, f2, f2n, f2m, f2nn, okN, addD, subD, fdivD, modD, cmpI, isNo, isNd, notNd, ixD, tYe, ofB, cNot, cAnd, cOr, fAnd, fOr, fNot, fNeg, fIf, aNil, aCons, fTup, fL, lDisp, DN.f1, f1n, lenD, intD, absD, tupleD, listD, lOf, lOfn, pNo, pOf, slD, fSl, fSln, pinB, gDat, gsNo, gsCons, gTp, gLp, sNil, sSeq, sAsg, sOwn, sSet, sApp, sDrop, sRet, sRetN, sBk, sCt, sIf, wOf, wR1, wR2, small62, sFor, cTru, cTrun, truD, lRep, sAsg2, fCallL, aLend, allD, sumD, wEnum, revTD, sNone, fCall, fCallB, ownB, lLc, simp_ix1, simp_ix2, List.set, List.length_cons, List.length_nil, List.map_cons, List.map_nil, List.cons_append, List.nil_append, List.replicate, Option.bind_some, Option.map_some, if_true, if_false, Bool.false_eq_true, Bool.not_true, Bool.not_false, decide_true, decide_false, reduceIte, Nat.reduceAdd, Nat.reduceLeDiff, Nat.reduceEqDiff, Int.reduceLE, Int.reduceLT, Int.reduceToNat, List.getElem?_cons_zero, List.getElem?_cons_succ, Int.cast_ofNat_Int, Nat.zero_add, Int.zero_le_ofNat, ixX, inX, notInX, catL, lCat, lCatn, fTxt, fTxtGet, sTxtPut, sTxt, sDicNew, sDicPut, fGet1, fGet2, wKey, fDl, sOwnX, sRetO, runX, iniX, tellX, notInD, noOwns, wipeE, putBack, Bool.and_self, b, e]
theorem pends (k : Kd) (p : Ps) : F_ends_of [.str (kt k), F5 p] = some (.tuple ((ends k p).map F5), []) := by
  cases k <;> exact ends_ok _ p _ rfl (by simp [ahd])
/-! ### the law's ends -/
/-! ### layouts -/
abbrev Pc := Option (Kd × Ps)
def pcD : Pc → D
  | none => .none
  | some (k, p) => .tuple [.str (kt k), F5 p]
def endsP : Pc → List Ps
  | none => []
  | some (k, p) => ends k p
def endsA (l : List Pc) : List Ps := l.flatMap endsP
theorem endsP_len (x : Pc) : (endsP x).length ≤ 4 := by
  cases x with
  | none => simp [endsP]
  | some kp => exact ends_len kp.1 kp.2
theorem endsA_len : ∀ l : List Pc, (endsA l).length ≤ 4 * l.length
  | [] => by simp [endsA]
  | x :: r => by
    have h1 := endsP_len x
    have h2 := endsA_len r
    simp only [endsA, List.flatMap_cons, List.length_append, List.length_cons] at h2 ⊢
    omega

/-! ### all ends of a layout -/
def pl (l : List Pc) : List (Nat × Kd × Ps) := (idxL 0 l).filterMap fun x => x.2.map fun kp => (x.1, kp)
def encP (x : Nat × Kd × Ps) : D := .tuple [.int (x.1 : Int), .tuple [.str (kt x.2.1), F5 x.2.2]]
def eE (x : Nat × Kd × Ps) : List (Nat × Nat × Ps) := (idxL 0 (ends x.2.1 x.2.2)).map fun y => (x.1, y.1, y.2)
def allE (l : List Pc) : List (Nat × Nat × Ps) := (pl l).flatMap eE
def rowT (x : Nat × Nat × Ps) : D := .tuple [.int (x.1 : Int), .int (x.2.1 : Int), F5 x.2.2]
def rowL (x : Nat × Nat × Ps) : D := .list [.int (x.1 : Int), .int (x.2.1 : Int), F5 x.2.2]
theorem eE_len (x : Nat × Kd × Ps) : (eE x).length ≤ 4 := by
  simp only [eE, List.length_map, idxL_len]
  exact ends_len _ _
theorem eE_pose (x : Nat × Kd × Ps) : (eE x).map (·.2.2) = ends x.2.1 x.2.2 := by
  unfold eE
  rw [List.map_map]
  exact idxL_snd (ends x.2.1 x.2.2) 0
theorem flat_len {α β : Type} {f : α → List β} {n : Nat} (h : ∀ x, (f x).length ≤ n) : ∀ l : List α, (l.flatMap f).length ≤ n * l.length
  | [] => by simp
  | x :: r => by
    have h1 := h x
    have h2 := flat_len h r
    simp only [List.flatMap_cons, List.length_append, List.length_cons, Nat.mul_succ]
    omega
theorem pl_len (l : List Pc) : (pl l).length ≤ l.length := by
  have := List.length_filterMap_le (fun x : Nat × Pc => x.2.map fun kp => (x.1, kp)) (idxL 0 l)
  rw [idxL_len] at this
  exact this
theorem pl_at : ∀ (l : List Pc) (i : Nat), ((idxL i l).filterMap fun x => x.2.map fun kp => (x.1, kp)).flatMap (fun x => ends x.2.1 x.2.2) = endsA l
  | [], _ => rfl
  | none :: r, i => by
    have := pl_at r (i + 1)
    simp only [idxL, List.filterMap_cons, Option.map_none, endsA, List.flatMap_cons, endsP, List.nil_append] at this ⊢
    exact this
  | some (k, p) :: r, i => by
    have := pl_at r (i + 1)
    simp only [idxL, List.filterMap_cons, Option.map_some, endsA, List.flatMap_cons, endsP] at this ⊢
    rw [this]
theorem allE_pose (l : List Pc) : (allE l).map (·.2.2) = endsA l := by
  rw [allE, List.map_flatMap]
  have : (fun x : Nat × Kd × Ps => (eE x).map (·.2.2)) = fun x => ends x.2.1 x.2.2 := funext eE_pose
  rw [this]
  exact pl_at l 0
theorem allE_len (l : List Pc) : (allE l).length ≤ 4 * l.length := by
  have h1 := flat_len eE_len (pl l)
  have h2 := pl_len l
  unfold allE
  omega
theorem ends_inL (l : List Pc) (hl : l.length ≤ 1000) : F_ends_in [.list (l.map pcD)] = some (.tuple ((allE l).map rowT), []) := by
  let G : Option Ent → En := fun g => [some (.dat (.list (l.map pcD))), g, none, none, none, none]
  have c1 : lLc [2, 3] (gTp 2 (gsCons (gDat 2) (gsCons (gDat 3) gsNo))) (wEnum (fN 0)) (ofB (f2n notNd 3 (fC .none))) E1_ends_in (G none) = some ((pl l).map encP, G none) := by
    have := lLc_pure (enc := fun x : Nat × Pc => PyData.tuple [.int (x.1 : Int), pcD x.2]) (js := [2, 3]) (tg := gTp 2 (gsCons (gDat 2) (gsCons (gDat 3) gsNo))) (src := wEnum (fN 0)) (tt := ofB (f2n notNd 3 (fC .none))) (elt := E1_ends_in) (γ := G none) (γ1 := G none) (ds := idxL 0 l)
      (fun x => (x.2.map fun kp => (x.1, kp)).map encP) (by simp only [runF, ini, gt, view, fN, fC, f2, f2n, f2m, f2nn, okN, addD, subD, fdivD, modD, cmpI, isNo, isNd, notNd, ixD, tYe, ofB, cNot, cAnd, cOr, fAnd, fOr, fNot, fNeg, fIf, aNil, aCons, fTup, fL, lDisp, DN.f1, f1n, lenD, intD, absD, tupleD, listD, lOf, lOfn, pNo, pOf, slD, fSl, fSln, pinB, gDat, gsNo, gsCons, gTp, gLp, sNil, sSeq, sAsg, sOwn, sSet, sApp, sDrop, sRet, sRetN, sBk, sCt, sIf, wOf, wR1, wR2, small62, sFor, cTru, cTrun, truD, lRep, sAsg2, fCallL, aLend, allD, sumD, wEnum, revTD, sNone, fCall, fCallB, ownB, lLc, simp_ix1, simp_ix2, List.set, List.length_cons, List.length_nil, List.map_cons, List.map_nil, List.cons_append, List.nil_append, List.replicate, Option.bind_some, Option.map_some, if_true, if_false, Bool.false_eq_true, Bool.not_true, Bool.not_false, decide_true, decide_false, reduceIte, Nat.reduceAdd, Nat.reduceLeDiff, Nat.reduceEqDiff, Int.reduceLE, Int.reduceLT, Int.reduceToNat, List.getElem?_cons_zero, List.getElem?_cons_succ, Int.cast_ofNat_Int, Nat.zero_add, Int.zero_le_ofNat, ixX, inX, notInX, catL, lCat, lCatn, fTxt, fTxtGet, sTxtPut, sTxt, sDicNew, sDicPut, fGet1, fGet2, wKey, fDl, sOwnX, sRetO, runX, iniX, tellX, notInD, G, enumL_map]) (by simp [G, noOwns]) (by simp [G, wipeE]) (by simp [G, putBack, wipeE]) (fun d hd => by
        obtain ⟨n, x⟩ := d
        cases x with
        | none => exact ⟨[some (.dat (.list (l.map pcD))), none, some (.dat (.int n)), some (.dat .none), none, none], by simp [G, pcD], .inl ⟨rfl, [some (.dat (.list (l.map pcD))), none, some (.dat (.int n)), some (.dat .none), none, none], by simp [isNo], by simp [noOwns], by simp [wipeE, G]⟩⟩
        | some kp =>
          obtain ⟨k, p⟩ := kp
          let g : En := [some (.dat (.list (l.map pcD))), none, some (.dat (.int n)), some (.dat (pcD (some (k, p)))), none, none]
          exact ⟨g, by simp [G, pcD, g], .inr ⟨encP (n, k, p), g, g, rfl, by simp [g, pcD, isNo], by simp [E1_ends_in, g, pcD, encP], by simp [noOwns, g], by simp [wipeE, G, g]⟩⟩) (by rw [idxL_len]; omega)
    rw [this]
    congr 2
    unfold pl
    rw [List.map_filterMap]
  have c2 : lLc2 [2, 3, 4, 5] (gTp 2 (gsCons (gDat 2) (gsCons (gDat 3) gsNo))) (wOf (fN 1)) tYe W2_ends_in [4, 5] (gTp 2 (gsCons (gDat 4) (gsCons (gDat 5) gsNo))) tYe E3_ends_in (G (some (.dat (.list ((pl l).map encP))))) = some ((allE l).map rowT, G (some (.dat (.list ((pl l).map encP))))) := by
    have := lLc2_pure (enc := encP) (js := [2, 3, 4, 5]) (tg := gTp 2 (gsCons (gDat 2) (gsCons (gDat 3) gsNo))) (src := wOf (fN 1)) (tt := tYe) (src1 := W2_ends_in) (js1 := [4, 5]) (tg1 := gTp 2 (gsCons (gDat 4) (gsCons (gDat 5) gsNo))) (tt1 := tYe) (elt := E3_ends_in) (γ := G (some (.dat (.list ((pl l).map encP))))) (γ1 := G (some (.dat (.list ((pl l).map encP))))) (ds := pl l)
      (fun x => (eE x).map rowT) (by simp only [runF, ini, gt, view, fN, fC, f2, f2n, f2m, f2nn, okN, addD, subD, fdivD, modD, cmpI, isNo, isNd, notNd, ixD, tYe, ofB, cNot, cAnd, cOr, fAnd, fOr, fNot, fNeg, fIf, aNil, aCons, fTup, fL, lDisp, DN.f1, f1n, lenD, intD, absD, tupleD, listD, lOf, lOfn, pNo, pOf, slD, fSl, fSln, pinB, gDat, gsNo, gsCons, gTp, gLp, sNil, sSeq, sAsg, sOwn, sSet, sApp, sDrop, sRet, sRetN, sBk, sCt, sIf, wOf, wR1, wR2, small62, sFor, cTru, cTrun, truD, lRep, sAsg2, fCallL, aLend, allD, sumD, wEnum, revTD, sNone, fCall, fCallB, ownB, lLc, simp_ix1, simp_ix2, List.set, List.length_cons, List.length_nil, List.map_cons, List.map_nil, List.cons_append, List.nil_append, List.replicate, Option.bind_some, Option.map_some, if_true, if_false, Bool.false_eq_true, Bool.not_true, Bool.not_false, decide_true, decide_false, reduceIte, Nat.reduceAdd, Nat.reduceLeDiff, Nat.reduceEqDiff, Int.reduceLE, Int.reduceLT, Int.reduceToNat, List.getElem?_cons_zero, List.getElem?_cons_succ, Int.cast_ofNat_Int, Nat.zero_add, Int.zero_le_ofNat, ixX, inX, notInX, catL, lCat, lCatn, fTxt, fTxtGet, sTxtPut, sTxt, sDicNew, sDicPut, fGet1, fGet2, wKey, fDl, sOwnX, sRetO, runX, iniX, tellX, notInD, G]) (by simp [G, noOwns]) (by simp [G, wipeE]) (by simp [G, putBack, wipeE]) (fun d hd => by
        obtain ⟨n, k, p⟩ := d
        let g : En := [some (.dat (.list (l.map pcD))), some (.dat (.list ((pl l).map encP))), some (.dat (.int n)), some (.dat (pcD (some (k, p)))), none, none]
        have pe := pends k p
        refine ⟨g, by simp [G, encP, g, pcD], .inr ⟨g, g, (idxL 0 (ends k p)).map fun x => PyData.tuple [.int (x.1 : Int), F5 x.2], rfl, ?_, by simp [noOwns, g], ?_, fun acc ha => ⟨g, ?_, by simp [noOwns, g], by simp [wipeE, G, g]⟩⟩⟩
        · simp only [W2_ends_in, runF, ini, gt, view, fN, fC, f2, f2n, f2m, f2nn, okN, addD, subD, fdivD, modD, cmpI, isNo, isNd, notNd, ixD, tYe, ofB, cNot, cAnd, cOr, fAnd, fOr, fNot, fNeg, fIf, aNil, aCons, fTup, fL, lDisp, DN.f1, f1n, lenD, intD, absD, tupleD, listD, lOf, lOfn, pNo, pOf, slD, fSl, fSln, pinB, gDat, gsNo, gsCons, gTp, gLp, sNil, sSeq, sAsg, sOwn, sSet, sApp, sDrop, sRet, sRetN, sBk, sCt, sIf, wOf, wR1, wR2, small62, sFor, cTru, cTrun, truD, lRep, sAsg2, fCallL, aLend, allD, sumD, wEnum, revTD, sNone, fCall, fCallB, ownB, lLc, simp_ix1, simp_ix2, List.set, List.length_cons, List.length_nil, List.map_cons, List.map_nil, List.cons_append, List.nil_append, List.replicate, Option.bind_some, Option.map_some, if_true, if_false, Bool.false_eq_true, Bool.not_true, Bool.not_false, decide_true, decide_false, reduceIte, Nat.reduceAdd, Nat.reduceLeDiff, Nat.reduceEqDiff, Int.reduceLE, Int.reduceLT, Int.reduceToNat, List.getElem?_cons_zero, List.getElem?_cons_succ, Int.cast_ofNat_Int, Nat.zero_add, Int.zero_le_ofNat, ixX, inX, notInX, catL, lCat, lCatn, fTxt, fTxtGet, sTxtPut, sTxt, sDicNew, sDicPut, fGet1, fGet2, wKey, fDl, sOwnX, sRetO, runX, iniX, tellX, notInD, g, pcD, pe, enumL_map]
        · have := eE_len (n, k, p)
          simp; omega
        · have w : wipeE g [4, 5] = g := by simp [wipeE, g]
          rw [w]
          have := lcF_pure (enc := fun x : Nat × Ps => PyData.tuple [.int (x.1 : Int), F5 x.2]) (js := [4, 5]) (tg := gTp 2 (gsCons (gDat 4) (gsCons (gDat 5) gsNo))) (tt := tYe) (elt := E3_ends_in) (γ := g) (fun y => some (rowT (n, y.1, y.2))) (idxL 0 (ends k p)) acc (fun y hy => by
            refine lcs (γ0 := [some (.dat (.list (l.map pcD))), some (.dat (.list ((pl l).map encP))), some (.dat (.int n)), some (.dat (pcD (some (k, p)))), some (.dat (.int y.1)), some (.dat (F5 y.2))]) (by simp [g]) (γ2 := [some (.dat (.list (l.map pcD))), some (.dat (.list ((pl l).map encP))), some (.dat (.int n)), some (.dat (pcD (some (k, p)))), some (.dat (.int y.1)), some (.dat (F5 y.2))]) ?_ (by simp [noOwns]) (by simp [wipeE, g])
            simp [E3_ends_in, rowT]) (by have := ends_len k p; rw [idxL_len]; omega)
          rw [this, fm_map]
          simp only [eE, List.map_map]
          rfl) (by
        have h1 : ∀ x, ((eE x).map rowT).length ≤ 4 := fun x => by rw [List.length_map]; exact eE_len x
        have h2 := flat_len h1 (pl l)
        have h3 := pl_len l
        omega)
    rw [this]
    unfold allE
    rw [List.map_flatMap]
  simp only [G] at c1 c2
  simp only [F_ends_in, B_ends_in, runF, ini, gt, view, fN, fC, f2, f2n, f2m, f2nn, okN, addD, subD, fdivD, modD, cmpI, isNo, isNd, notNd, ixD, tYe, ofB, cNot, cAnd, cOr, fAnd, fOr, fNot, fNeg, fIf, aNil, aCons, fTup, fL, lDisp, DN.f1, f1n, lenD, intD, absD, tupleD, listD, lOf, lOfn, pNo, pOf, slD, fSl, fSln, pinB, gDat, gsNo, gsCons, gTp, gLp, sNil, sSeq, sAsg, sOwn, sSet, sApp, sDrop, sRet, sRetN, sBk, sCt, sIf, wOf, wR1, wR2, small62, sFor, cTru, cTrun, truD, lRep, sAsg2, fCallL, aLend, allD, sumD, wEnum, revTD, sNone, fCall, fCallB, ownB, simp_ix1, simp_ix2, List.set, List.length_cons, List.length_nil, List.map_cons, List.map_nil, List.cons_append, List.nil_append, List.replicate, Option.bind_some, Option.map_some, if_true, if_false, Bool.false_eq_true, Bool.not_true, Bool.not_false, decide_true, decide_false, reduceIte, Nat.reduceAdd, Nat.reduceLeDiff, Nat.reduceEqDiff, Int.reduceLE, Int.reduceLT, Int.reduceToNat, List.getElem?_cons_zero, List.getElem?_cons_succ, Int.cast_ofNat_Int, Nat.zero_add, Int.zero_le_ofNat, ixX, inX, notInX, catL, lCat, lCatn, fTxt, fTxtGet, sTxtPut, sTxt, sDicNew, sDicPut, fGet1, fGet2, wKey, fDl, sOwnX, sRetO, runX, iniX, tellX, notInD, c1, c2]

local macro_rules | `(tactic| walk_at "frame") => `(tactic| first
  | exact (rfl : _ = [_]) | exact (rfl : _ = [_, _]) | exact (rfl : _ = [_, _, _]) | exact (rfl : _ = [_, _, _, _]) | exact (rfl : _ = [_, _, _, _, _]) | exact (rfl : _ = [_, _, _, _, _, _])
  | exact (rfl : _ = [_, _, _, _, _, _, _]) | exact (rfl : _ = [_, _, _, _, _, _, _, _]) | exact (rfl : _ = [_, _, _, _, _, _, _, _, _]) | exact (rfl : _ = [_, _, _, _, _, _, _, _, _, _])
  | exact (rfl : _ = [_, _, _, _, _, _, _, _, _, _, _]) | exact (rfl : _ = [_, _, _, _, _, _, _, _, _, _, _, _]) | exact (rfl : _ = [_, _, _, _, _, _, _, _, _, _, _, _, _])
  | exact (rfl : _ = [_, _, _, _, _, _, _, _, _, _, _, _, _, _]) | exact (rfl : _ = [_, _, _, _, _, _, _, _, _, _, _, _, _, _, _]) | exact (rfl : _ = [_, _, _, _, _, _, _, _, _, _, _, _, _, _, _, _])
  | exact (rfl : _ = some [_]) | exact (rfl : _ = some [_, _]) | exact (rfl : _ = some [_, _, _]) | exact (rfl : _ = some [_, _, _, _]) | exact (rfl : _ = some [_, _, _, _, _]) | exact (rfl : _ = some [_, _, _, _, _, _])
  | exact (rfl : _ = some [_, _, _, _, _, _, _]) | exact (rfl : _ = some [_, _, _, _, _, _, _, _]) | exact (rfl : _ = some [_, _, _, _, _, _, _, _, _]) | exact (rfl : _ = some [_, _, _, _, _, _, _, _, _, _])
  | exact (rfl : _ = some [_, _, _, _, _, _, _, _, _, _, _]) | exact (rfl : _ = some [_, _, _, _, _, _, _, _, _, _, _, _]) | exact (rfl : _ = some [_, _, _, _, _, _, _, _, _, _, _, _, _])
  | exact (rfl : _ = some [_, _, _, _, _, _, _, _, _, _, _, _, _, _]) | exact (rfl : _ = some [_, _, _, _, _, _, _, _, _, _, _, _, _, _, _]) | exact (rfl : _ = some [_, _, _, _, _, _, _, _, _, _, _, _, _, _, _, _]))
local macro_rules | `(tactic| walk_at "cmp") => `(tactic| first | with_reducible assumption | walk_at "frame" | exact rfl)
local macro_rules | `(tactic| walk_at "ask") => `(tactic| first | ((with_reducible apply ask_of); walk_at "ask") | with_reducible assumption | with_reducible rfl | exact decide_eq_true (by first | assumption | omega) | exact decide_eq_false (by first | assumption | omega) | exact decide_eq_true rfl | rfl)
local macro_rules | `(tactic| walk_at "ev") => `(tactic| first
  | with_reducible assumption
  | with_reducible exact q_C | with_reducible exact q_nil | with_reducible exact q_pNo | with_reducible exact q_tYe | with_reducible exact q_rsNil
  | ((with_reducible apply q_N) <;> walk_at "ev") | ((with_reducible apply q_f1) <;> walk_at "ev") | ((with_reducible apply q_f1n) <;> walk_at "ev")
  | ((with_reducible apply q_f2) <;> walk_at "ev") | ((with_reducible apply q_f2n) <;> walk_at "ev") | ((with_reducible apply q_f2m) <;> walk_at "ev") | ((with_reducible apply q_f2nn) <;> walk_at "ev")
  | ((with_reducible apply q_cons) <;> walk_at "ev") | ((with_reducible apply q_tup) <;> walk_at "ev") | ((with_reducible apply q_L) <;> walk_at "ev") | ((with_reducible apply q_disp) <;> walk_at "ev")
  | ((with_reducible apply q_call) <;> walk_at "ev") | ((with_reducible apply q_callB) <;> walk_at "ev") | ((with_reducible apply q_callX) <;> walk_at "ev")
  | ((with_reducible apply q_pOf) <;> walk_at "ev") | ((with_reducible apply q_sl) <;> walk_at "ev") | ((with_reducible apply q_sln) <;> walk_at "ev")
  | ((with_reducible apply q_not) <;> walk_at "ev") | ((with_reducible apply q_neg) <;> walk_at "ev")
  | ((with_reducible apply q_ifT) <;> walk_at "ev") | ((with_reducible apply q_ifF) <;> walk_at "ev")
  | ((with_reducible apply q_andT) <;> walk_at "ev") | ((with_reducible apply q_andF) <;> walk_at "ev") | ((with_reducible apply q_orF) <;> walk_at "ev") | ((with_reducible apply q_orT) <;> walk_at "ev")
  | ((with_reducible apply q_orVT) <;> walk_at "ev") | ((with_reducible apply q_orVF) <;> walk_at "ev")
  | ((with_reducible apply q_isin) <;> walk_at "ev") | ((with_reducible apply q_isi) <;> walk_at "ev") | ((with_reducible apply q_lOf) <;> walk_at "ev") | ((with_reducible apply q_lOfn) <;> walk_at "ev")
  | ((with_reducible apply q_wOfL) <;> walk_at "ev") | ((with_reducible apply q_wOfT) <;> walk_at "ev") | ((with_reducible apply q_wOfS) <;> walk_at "ev") | ((with_reducible apply q_wR1) <;> walk_at "ev") | ((with_reducible apply q_wR2) <;> walk_at "ev")
  | ((with_reducible apply q_wEnumL) <;> walk_at "ev") | ((with_reducible apply q_wEnumT) <;> walk_at "ev")
  | ((with_reducible apply q_ofB) <;> walk_at "ev") | ((with_reducible apply q_cNot) <;> walk_at "ev") | ((with_reducible apply q_cAndT) <;> walk_at "ev") | ((with_reducible apply q_cAndF) <;> walk_at "ev") | ((with_reducible apply q_cOrF) <;> walk_at "ev") | ((with_reducible apply q_cOrT) <;> walk_at "ev")
  | ((with_reducible apply q_cTru) <;> walk_at "ev") | ((with_reducible apply q_cTrun) <;> walk_at "ev")
  | ((with_reducible apply q_rEv) <;> walk_at "ev") | ((with_reducible apply q_rsEv) <;> walk_at "ev") | ((with_reducible apply q_rsCons) <;> walk_at "ev") | ((with_reducible apply q_rOnX) <;> walk_at "ev") | ((with_reducible apply q_rOnXe) <;> walk_at "ev") | ((with_reducible apply q_r2) <;> walk_at "ev") | ((with_reducible apply q_r2e) <;> walk_at "ev") | ((with_reducible apply q_r1) <;> walk_at "ev")
  | ((with_reducible apply ask_of); walk_at "ask") | ((with_reducible apply cmp_of); walk_at "cmp"))
local macro_rules | `(tactic| walk_at "st") => `(tactic| first
  | with_reducible assumption
  | with_reducible exact q_sNil | with_reducible exact q_retN | with_reducible exact q_sBk | with_reducible exact q_sCt
  | ((with_reducible apply q_asg) <;> walk_at "ev") | ((with_reducible apply q_own) <;> walk_at "ev") | ((with_reducible apply q_app) <;> walk_at "ev") | ((with_reducible apply q_set) <;> walk_at "ev")
  | ((with_reducible apply q_ret) <;> walk_at "ev") | ((with_reducible apply q_drop) <;> walk_at "ev") | ((with_reducible apply q_aug) <;> walk_at "ev") | ((with_reducible apply q_ext) <;> walk_at "ev")
  | ((with_reducible apply q_retE) <;> walk_at "ev") | ((with_reducible apply q_retEe) <;> walk_at "ev") | ((with_reducible apply q_dropE) <;> walk_at "ev") | ((with_reducible apply q_dropEe) <;> walk_at "ev") | ((with_reducible apply q_asgE) <;> walk_at "ev") | ((with_reducible apply q_asgEe) <;> walk_at "ev") | ((with_reducible apply q_raise) <;> walk_at "ev")
  | ((with_reducible apply q_for) <;> walk_at "ev"))
local macro_rules | `(tactic| walk_at "q") => `(tactic| ((with_reducible apply q_seq); (focus walk_at "st")))
local macro_rules | `(tactic| walk_at "ift") => `(tactic| ((with_reducible apply q_if_t); (focus walk_at "ev"); (focus walk_at "ask")))
local macro_rules | `(tactic| walk_at "iff") => `(tactic| ((with_reducible apply q_if_f); (focus walk_at "ev"); (focus walk_at "ask")))
local macro_rules | `(tactic| walk_at "qift") => `(tactic| ((with_reducible apply q_seq); (focus (walk_at "ift"; walk_at "st"))))
local macro_rules | `(tactic| walk_at "qiff") => `(tactic| ((with_reducible apply q_seq); (focus (walk_at "iff"; walk_at "st"))))
local macro_rules | `(tactic| walk_at "run") => `(tactic| ((first | with_reducible apply q_run | with_reducible apply q_runX | with_reducible apply q_runXe | with_reducible apply q_runXn); (focus (apply cmp_of; walk_at "frame"))))
local macro_rules | `(tactic| walk_at "runX") => `(tactic| ((with_reducible apply q_runX); (focus (apply cmp_of; walk_at "frame"))))
local macro_rules | `(tactic| walk_at "runE") => `(tactic| ((with_reducible apply q_runXe); (focus (apply cmp_of; walk_at "frame"))))
local macro_rules | `(tactic| walk_at "runN") => `(tactic| ((with_reducible apply q_runXn); (focus (apply cmp_of; walk_at "frame"))))
local macro_rules | `(tactic| walk_at "ev") => `(tactic| first
  | ((with_reducible apply q_fld) <;> walk_at "ev") | ((with_reducible apply q_pfld) <;> walk_at "ev") | ((with_reducible apply q_truF) <;> walk_at "ev") | ((with_reducible apply q_popF) <;> walk_at "ev")
  | ((with_reducible apply q_lend) <;> walk_at "ev") | ((with_reducible apply q_rlend) <;> walk_at "ev") | ((with_reducible apply q_rlendE) <;> walk_at "ev") | ((with_reducible apply q_r2e1) <;> walk_at "ev")
  | ((with_reducible apply q_chT) <;> walk_at "ev") | ((with_reducible apply q_chF) <;> walk_at "ev") | ((with_reducible apply q_tupR1) <;> walk_at "ev") | ((with_reducible apply q_tupR2) <;> walk_at "ev"))
local macro_rules | `(tactic| walk_at "st") => `(tactic| first
  | ((with_reducible apply q_appF) <;> walk_at "ev") | ((with_reducible apply q_fldD) <;> walk_at "ev") | ((with_reducible apply q_fldL) <;> walk_at "ev") | ((with_reducible apply q_make) <;> walk_at "ev"))
local macro_rules | `(tactic| walk_at "runP") => `(tactic| ((with_reducible apply q_runP); (focus (apply cmp_of; walk_at "frame"))))
local macro_rules | `(tactic| walk_at "runPn") => `(tactic| ((with_reducible apply q_runPn); (focus (apply cmp_of; walk_at "frame"))))
local macro_rules | `(tactic| walk_at "runPe") => `(tactic| ((with_reducible apply q_runPe); (focus (apply cmp_of; walk_at "frame"))))
/-! ### floors -/
abbrev lD (l : List Pc) : D := .list (l.map pcD)
def flF (ps : List Pc) (past : List (List Pc)) : List (Str × Pay) := [("_pieces", .dat (lD ps)), ("_past", .lst (past.map lD))]
def FLD (ps : List Pc) (past : List (List Pc)) : Pay := .ins "Layout" (flF ps past)
theorem fld_gp (ps : List Pc) (past : List (List Pc)) : getP (FLD ps past) [("Layout", "_pieces")] = some (.dat (lD ps)) := by kernel_rfl
theorem fld_gq (ps : List Pc) (past : List (List Pc)) : getP (FLD ps past) [("Layout", "_past")] = some (.lst (past.map lD)) := by kernel_rfl
theorem fld_g0 (ps : List Pc) (past : List (List Pc)) : getP (FLD ps past) [] = some (.ins "Layout" (flF ps past)) := rfl
theorem fld_len (ps : List Pc) (past : List (List Pc)) : (flF ps past).length < 1000 := by show 2 < 1000; omega
theorem fld_sq (ps l : List Pc) (past : List (List Pc)) : setP (FLD ps past) [("Layout", "_past")] (.lst (past.map lD ++ [lD l])) = FLD ps (past ++ [l]) := by
  have e : (past ++ [l]).map lD = past.map lD ++ [lD l] := by rw [List.map_append]; rfl
  show _ = Pay.ins "Layout" [("_pieces", .dat (lD ps)), ("_past", .lst ((past ++ [l]).map lD))]
  rw [e]
  kernel_rfl
theorem fld_sr (ps : List Pc) (past : List (List Pc)) : ∀ q, setP (FLD ps q) [("Layout", "_past")] (.lst (past.map lD)) = FLD ps past := fun q => by kernel_rfl
theorem fld_sp (ps l : List Pc) (past : List (List Pc)) : setP (FLD ps past) [] (.ins "Layout" (putP "_pieces" (.dat (lD l)) (flF ps past))) = FLD l past := by kernel_rfl
theorem fld_init : F_Layout____init__ (some (.ins "Layout" [])) [] = some (.da .none, some (FLD [] [])) := by kernel_rfl
theorem fld_put (ps : List Pc) (past : List (List Pc)) : clsM "Layout" "_put" (FLD ps past) = true := by kernel_rfl
theorem fld_ref (ps : List Pc) (past : List (List Pc)) : clsM "Layout" "_refuse_no_piece" (FLD ps past) = true := by kernel_rfl
theorem fld_place (ps : List Pc) (past : List (List Pc)) : clsM "Layout" "place" (FLD ps past) = true := by kernel_rfl
theorem fld_lay (ps : List Pc) (past : List (List Pc)) : clsM "Layout" "lay" (FLD ps past) = true := by kernel_rfl
theorem fld_joined (ps : List Pc) (past : List (List Pc)) : clsM "Layout" "joined" (FLD ps past) = true := by kernel_rfl
theorem fld_remove (ps : List Pc) (past : List (List Pc)) : clsM "Layout" "remove" (FLD ps past) = true := by kernel_rfl
theorem fld_undo (ps : List Pc) (past : List (List Pc)) : clsM "Layout" "undo" (FLD ps past) = true := by kernel_rfl
theorem fld_layout (ps : List Pc) (past : List (List Pc)) : clsM "Layout" "layout" (FLD ps past) = true := by kernel_rfl
local macro_rules | `(tactic| walk_at "cmp") => `(tactic| with_reducible first
  | exact fld_gp _ _ | exact fld_gq _ _ | exact fld_g0 _ _ | exact fld_len _ _ | exact fld_sq _ _ _ | exact fld_sp _ _ _ | exact fld_put _ _ | exact fld_ref _ _ | exact fld_place _ _ | exact fld_lay _ _ | exact fld_joined _ _ | exact fld_remove _ _ | exact fld_undo _ _ | exact fld_layout _ _)
local macro_rules | `(tactic| walk_at "ask") => `(tactic| with_reducible first | exact fld_init)
/-! ### why pieces cannot be put there -/
def k5 (p : Ps) : List Int := [p.1.1, p.1.2.1, p.1.2.2.1, p.1.2.2.2, p.2]
theorem k5_inj {p q : Ps} (h : k5 p = k5 q) : p = q := by
  obtain ⟨⟨a, b, c, d⟩, e⟩ := p
  obtain ⟨⟨a', b', c', d'⟩, e'⟩ := q
  simp only [k5, List.cons.injEq, and_true] at h
  obtain ⟨h1, h2, h3, h4, h5⟩ := h
  rw [h1, h2, h3, h4, h5]
theorem tups_k5 : ∀ l : List Ps, tupsOf (l.map F5) = some (l.map k5)
  | [] => rfl
  | p :: l => by
    have ih := tups_k5 l
    show tupsOf (F5 p :: l.map F5) = _
    unfold tupsOf
    rw [ih]
    rfl
theorem dist_le : ∀ l : List (List Int), dist l ≤ l.length
  | [] => Nat.le_refl _
  | k :: r => by
    have := dist_le r
    unfold dist
    split <;> simp <;> omega
theorem dist_lt : ∀ {l : List (List Int)}, ¬ l.Nodup → dist l < l.length
  | [], h => absurd List.nodup_nil h
  | k :: r, h => by
    unfold dist
    have le := dist_le r
    split
    · rw [List.length_cons]
      omega
    · rename_i c
      have : ¬ r.Nodup := fun z => h (List.nodup_cons.mpr ⟨c, z⟩)
      have := dist_lt this
      rw [List.length_cons]
      omega
theorem k5_nodup {l : List Ps} : (l.map k5).Nodup ↔ l.Nodup := by
  constructor
  · intro h
    exact (List.pairwise_map.mp h).imp fun n e => n (by rw [e])
  · intro h
    exact List.pairwise_map.mpr (h.imp fun n e => n (k5_inj e))
theorem reason_many {ps qs : List Pc} (h : ps.length + qs.length > 24) : F_reason_against [lD ps, lD qs] = some (.str "too many pieces", []) := by
  have e1 : lenD (lD ps) = some (.int (ps.length : Int)) := by show some (PyData.int ((ps.map pcD).length : Int)) = _; rw [List.length_map]
  have e2 : lenD (lD qs) = some (.int (qs.length : Int)) := by show some (PyData.int ((qs.map pcD).length : Int)) = _; rw [List.length_map]
  have e3 : addD (.int (ps.length : Int)) (.int (qs.length : Int)) = some (.int ((ps.length : Int) + (qs.length : Int))) := rfl
  have e4 : gtD (.int ((ps.length : Int) + (qs.length : Int))) c_MOST_NUMBERS = some (.bool true) := by
    show some (PyData.bool (decide ((24 : Int) < (ps.length : Int) + (qs.length : Int)))) = _
    rw [decide_eq_true (by omega)]
  unfold F_reason_against B_reason_against
  walk_at "run"
  with_reducible apply q_seqRt
  walk_at "ift"
  walk_at "st"
theorem reason_few {ps qs : List Pc} (h : ps.length + qs.length ≤ 24) (hz : (endsA (ps ++ qs)).length < 64) : F_reason_against [lD ps, lD qs] = some (if (endsA (ps ++ qs)).Nodup then .none else .str "ends overlap", []) := by
  have e1 : lenD (lD ps) = some (.int (ps.length : Int)) := by show some (PyData.int ((ps.map pcD).length : Int)) = _; rw [List.length_map]
  have e2 : lenD (lD qs) = some (.int (qs.length : Int)) := by show some (PyData.int ((qs.map pcD).length : Int)) = _; rw [List.length_map]
  have e3 : addD (.int (ps.length : Int)) (.int (qs.length : Int)) = some (.int ((ps.length : Int) + (qs.length : Int))) := rfl
  have e4 : gtD (.int ((ps.length : Int) + (qs.length : Int))) c_MOST_NUMBERS = some (.bool false) := by
    show some (PyData.bool (decide ((24 : Int) < (ps.length : Int) + (qs.length : Int)))) = _
    rw [decide_eq_false (by omega)]
  have e5 : addD (lD ps) (lD qs) = some (lD (ps ++ qs)) := by
    have c : okN ((ps.map pcD).length + (qs.map pcD).length) = true := decide_eq_true (by rw [List.length_map, List.length_map]; omega)
    show (if okN ((ps.map pcD).length + (qs.map pcD).length) then some (PyData.list (ps.map pcD ++ qs.map pcD)) else none) = _
    rw [if_pos c, ← List.map_append]
  have ei := ends_inL (ps ++ qs) (by rw [List.length_append]; omega)
  let G : En := [some (.dat (lD ps)), some (.dat (lD qs)), none, none, none]
  have src : wOf (fCall 1 F_ends_in (aCons (f2 addD (fL (lOfn 0)) (fL (lOfn 1))) aNil)) [some (.dat (lD ps)), some (.dat (lD qs)), none, none, none] = some ((allE (ps ++ qs)).map rowT, [some (.dat (lD ps)), some (.dat (lD qs)), none, none, none]) := by walk_at "ev"
  have lc := lLc_pure (enc := rowT) (js := [3, 4]) (tg := (gTp 3 (gsCons (gDat 3) (gsCons (gDat 3) (gsCons (gDat 4) gsNo))))) (src := wOf (fCall 1 F_ends_in (aCons (f2 addD (fL (lOfn 0)) (fL (lOfn 1))) aNil))) (tt := tYe) (elt := E1_reason_against) (γ := G) (γ1 := G) (ds := allE (ps ++ qs)) (fun x => some (F5 x.2.2)) src rfl rfl rfl
    (fun x _ => lcs (γ0 := [some (.dat (lD ps)), some (.dat (lD qs)), none, some (.dat (.int (x.2.1 : Int))), some (.dat (F5 x.2.2))]) rfl rfl rfl rfl) (by have := allE_len (ps ++ qs); rw [List.length_append] at this; omega)
  rw [fm_map] at lc
  have en : (allE (ps ++ qs)).map (fun x => F5 x.2.2) = (endsA (ps ++ qs)).map F5 := by
    rw [← allE_pose, List.map_map]
    rfl
  rw [en] at lc
  obtain ⟨P, eP⟩ : ∃ P, endsA (ps ++ qs) = P := ⟨_, rfl⟩
  rw [eP] at lc hz ⊢
  have lc : lLc [3, 4] (gTp 3 (gsCons (gDat 3) (gsCons (gDat 3) (gsCons (gDat 4) gsNo)))) (wOf (fCall 1 F_ends_in (aCons (f2 addD (fL (lOfn 0)) (fL (lOfn 1))) aNil))) tYe E1_reason_against [some (.dat (lD ps)), some (.dat (lD qs)), none, none, none] = some (P.map F5, [some (.dat (lD ps)), some (.dat (lD qs)), none, none, none]) := lc
  have ls : fLenSet (fN 2) [some (.dat (lD ps)), some (.dat (lD qs)), some (.dat (.list (P.map F5))), none, none] = some (.int ((dist (P.map k5) : Nat) : Int), [some (.dat (lD ps)), some (.dat (lD qs)), some (.dat (.list (P.map F5))), none, none]) := by
    have hz2 : (P.map k5).length < 64 := by rw [List.length_map]; exact hz
    unfold fLenSet
    have v : fN 2 [some (.dat (lD ps)), some (.dat (lD qs)), some (.dat (.list (P.map F5))), none, none] = some (.list (P.map F5), [some (.dat (lD ps)), some (.dat (lD qs)), some (.dat (.list (P.map F5))), none, none]) := rfl
    rw [v]
    simp only [tups_k5, if_pos hz2]
  have lp : lenD (.list (P.map F5)) = some (.int (P.length : Int)) := by show some (PyData.int ((P.map F5).length : Int)) = _; rw [List.length_map]
  unfold F_reason_against B_reason_against
  by_cases nd : P.Nodup
  · rw [if_pos nd]
    have lt : ltD (.int ((dist (P.map k5) : Nat) : Int)) (.int (P.length : Int)) = some (.bool false) := by
      have := dist_nodup (k5_nodup.mpr nd)
      rw [List.length_map] at this
      show some (PyData.bool (decide (((dist (P.map k5) : Nat) : Int) < (P.length : Int)))) = _
      rw [decide_eq_false (by omega)]
    walk_at "run"
    walk_at "qiff"
    walk_at "q"
    walk_at "qiff"
    walk_at "st"
  · rw [if_neg nd]
    have lt : ltD (.int ((dist (P.map k5) : Nat) : Int)) (.int (P.length : Int)) = some (.bool true) := by
      have := dist_lt (fun z => nd (k5_nodup.mp z))
      rw [List.length_map] at this
      show some (PyData.bool (decide (((dist (P.map k5) : Nat) : Int) < (P.length : Int)))) = _
      rw [decide_eq_true (by omega)]
    walk_at "run"
    walk_at "qiff"
    walk_at "q"
    with_reducible apply q_seqRt
    walk_at "ift"
    walk_at "st"
/-! ### deeds on a floor -/
local macro_rules | `(tactic| walk_at "cmp") => `(tactic| with_reducible first
  | exact fld_gp _ _ | exact fld_gq _ _ | exact fld_g0 _ _ | exact fld_len _ _ | exact fld_sq _ _ _ | exact fld_sp _ _ _ | exact fld_put _ _ | exact fld_ref _ _ | exact fld_place _ _ | exact fld_lay _ _ | exact fld_joined _ _ | exact fld_remove _ _ | exact fld_undo _ _ | exact fld_layout _ _)
abbrev BP (s : Str) : List (Str × D) := [("reason", .str s)]
theorem lD_len (l : List Pc) : lenD (lD l) = some (.int (l.length : Int)) := by
  show some (PyData.int ((l.map pcD).length : Int)) = _
  rw [List.length_map]
theorem lD_add (a b : List Pc) (h : a.length + b.length ≤ 1000) : addD (lD a) (lD b) = some (lD (a ++ b)) := by
  have c : okN ((a.map pcD).length + (b.map pcD).length) = true := decide_eq_true (by rw [List.length_map, List.length_map]; omega)
  show (if okN ((a.map pcD).length + (b.map pcD).length) then some (PyData.list (a.map pcD ++ b.map pcD)) else none) = _
  rw [if_pos c, ← List.map_append]
theorem put_ok {ps qs : List Pc} {past : List (List Pc)} (h : F_reason_against [lD ps, lD qs] = some (.none, [])) (hl : ps.length + qs.length ≤ 1000) (hp : past.length ≤ 1000) :
    F_Layout___put (some (FLD ps past)) [lD qs] = some (.da (.tuple (rngD (ps.length : Int) qs.length)), some (FLD (ps ++ qs) (past ++ [ps]))) := by
  have a := lD_add ps qs hl
  have l1 := lD_len (ps ++ qs)
  have l2 := lD_len qs
  have nn : notNd .none .none = some (.bool false) := rfl
  have s1 : subD (.int ((ps ++ qs).length : Int)) (.int (qs.length : Int)) = some (.int (ps.length : Int)) := by
    show some (PyData.int (((ps ++ qs).length : Int) - (qs.length : Int))) = _
    rw [List.length_append]
    congr 2
    omega
  have rg : rgB (ps.length : Int) ((ps ++ qs).length : Int) = true := by
    unfold rgB
    rw [List.length_append]
    simp only [Bool.and_eq_true, decide_eq_true_eq]
    exact ⟨by omega, by omega, by omega, by omega, by omega⟩
  have ok : okN (past.map lD).length = true := decide_eq_true (by rw [List.length_map]; omega)
  have en : (((ps ++ qs).length : Int) - (ps.length : Int)).toNat = qs.length := by rw [List.length_append]; omega
  unfold F_Layout___put B_Layout___put
  rw [← en]
  walk_at "runP"
  · walk_at "q"
    walk_at "qiff"
    walk_at "q"
    walk_at "q"
    walk_at "st"
  · exact cmp_of rfl
theorem put_er {ps qs : List Pc} {past : List (List Pc)} {s : Str} (h : F_reason_against [lD ps, lD qs] = some (.str s, [])) (hs : mkB (.str s) = true) :
    F_Layout___put (some (FLD ps past)) [lD qs] = some (.er "BadPiece" (BP s), some (FLD ps past)) := by
  have nn : notNd (.str s) .none = some (.bool true) := rfl
  unfold F_Layout___put B_Layout___put
  walk_at "runPe"
  · walk_at "q"
    with_reducible apply q_seqRs
    walk_at "ift"
    walk_at "st"
  · exact cmp_of rfl
theorem rng_first (lo : Int) (n : Nat) (h : 0 < n) : ixX (.tuple (rngD lo n)) (.int 0) = some (.int lo) := by
  cases n with
  | zero => omega
  | succ n =>
    unfold rngD
    rw [List.range_succ_eq_map, List.map_cons]
    have e : lo + ((0 : Nat) : Int) = lo := by omega
    have h1 : (0 : Int) < ((PyData.int (lo + ((0 : Nat) : Int)) :: (List.map Nat.succ (List.range n)).map fun (k : Nat) => PyData.int (lo + (k : Int))).length : Int) := by rw [List.length_cons]; omega
    show atI (PyData.int (lo + ((0 : Nat) : Int)) :: _) 0 = _
    simp only [simp_ix1, simp_ix2, h1, Int.le_refl, if_true, Option.bind_some]
    rw [e]
    rfl
/-- the piece as it is placed -/
abbrev kD (k : Kd) : D := .str (kt k)
theorem place_ok {ps : List Pc} {past : List (List Pc)} {k : Kd} {p : Ps} (h : F_reason_against [lD ps, lD [some (k, p)]] = some (.none, [])) (hl : ps.length ≤ 900) (hp : past.length ≤ 1000) :
    F_Layout__place (some (FLD ps past)) [kD k, F5 p] = some (.da (.int (ps.length : Int)), some (FLD (ps ++ [some (k, p)]) (past ++ [ps]))) := by
  have e := put_ok (qs := [some (k, p)]) h (by simp; omega) hp
  have f := rng_first (ps.length : Int) 1 (by omega)
  have e : F_Layout___put (some (FLD ps past)) [.list [.tuple [kD k, F5 p]]] = some (.da (.tuple (rngD (ps.length : Int) 1)), some (FLD (ps ++ [some (k, p)]) (past ++ [ps]))) := e
  unfold F_Layout__place B_Layout__place
  walk_at "runP"
  · walk_at "st"
  · exact cmp_of rfl
theorem place_er {ps : List Pc} {past : List (List Pc)} {k : Kd} {p : Ps} {s : Str} (h : F_reason_against [lD ps, lD [some (k, p)]] = some (.str s, [])) (hs : mkB (.str s) = true) :
    F_Layout__place (some (FLD ps past)) [kD k, F5 p] = some (.er "BadPiece" (BP s), some (FLD ps past)) := by
  have e := put_er (past := past) (qs := [some (k, p)]) h hs
  have e : F_Layout___put (some (FLD ps past)) [.list [.tuple [kD k, F5 p]]] = some (.er "BadPiece" (BP s), some (FLD ps past)) := e
  unfold F_Layout__place B_Layout__place
  walk_at "runPe"
  · walk_at "st"
  · exact cmp_of rfl
/-! ### a piece that is there, or not -/
theorem lD_ix {ps : List Pc} {n : Nat} {x : Pc} (h : ps[n]? = some x) : ixX (lD ps) (.int (n : Int)) = some (pcD x) := by
  have h1 : (ps.map pcD)[n]? = some (pcD x) := by rw [List.getElem?_map, h]; rfl
  have hn : n < ps.length := (List.getElem?_eq_some_iff.mp h).1
  have a : (0 : Int) ≤ (n : Int) := by omega
  have b : (n : Int) < ((ps.map pcD).length : Int) := by rw [List.length_map]; omega
  show atI (ps.map pcD) (n : Int) = _
  simp only [simp_ix1, simp_ix2, a, b, if_true, Option.bind_some, Int.toNat_natCast, h1]
theorem mk_np : mkB (.str "no such piece") = true := by decide +kernel
theorem refuse_ok {ps : List Pc} {past : List (List Pc)} {n : Nat} {k : Kd} {p : Ps} (h : ps[n]? = some (some (k, p))) : F_Layout___refuse_no_piece (some (FLD ps past)) [.int (n : Int)] = some (.da .none, some (FLD ps past)) := by
  have hn : n < ps.length := (List.getElem?_eq_some_iff.mp h).1
  have l := lD_len ps
  have ix := lD_ix h
  have c1 : leD (.int 0) (.int (n : Int)) = some (.bool true) := by
    show some (PyData.bool (decide ((0 : Int) ≤ (n : Int)))) = _
    rw [decide_eq_true (by omega)]
  have c2 : ltD (.int (n : Int)) (.int (ps.length : Int)) = some (.bool true) := by
    show some (PyData.bool (decide ((n : Int) < (ps.length : Int)))) = _
    rw [decide_eq_true (by omega)]
  have nd : isNd (pcD (some (k, p))) .none = some (.bool false) := rfl
  unfold F_Layout___refuse_no_piece B_Layout___refuse_no_piece
  walk_at "runPn"
  · walk_at "iff"
    walk_at "st"
  · exact cmp_of rfl
theorem refuse_none {ps : List Pc} {past : List (List Pc)} {n : Nat} (h : ps[n]? = some none) : F_Layout___refuse_no_piece (some (FLD ps past)) [.int (n : Int)] = some (.er "BadPiece" (BP "no such piece"), some (FLD ps past)) := by
  have hn : n < ps.length := (List.getElem?_eq_some_iff.mp h).1
  have l := lD_len ps
  have ix := lD_ix h
  have m := mk_np
  have c1 : leD (.int 0) (.int (n : Int)) = some (.bool true) := by
    show some (PyData.bool (decide ((0 : Int) ≤ (n : Int)))) = _
    rw [decide_eq_true (by omega)]
  have c2 : ltD (.int (n : Int)) (.int (ps.length : Int)) = some (.bool true) := by
    show some (PyData.bool (decide ((n : Int) < (ps.length : Int)))) = _
    rw [decide_eq_true (by omega)]
  have nd : isNd (pcD none) .none = some (.bool true) := rfl
  unfold F_Layout___refuse_no_piece B_Layout___refuse_no_piece
  walk_at "runPe"
  · walk_at "ift"
    walk_at "st"
  · exact cmp_of rfl
theorem refuse_out {ps : List Pc} {past : List (List Pc)} {i : Int} (h : ¬ (0 ≤ i ∧ i < ps.length)) : F_Layout___refuse_no_piece (some (FLD ps past)) [.int i] = some (.er "BadPiece" (BP "no such piece"), some (FLD ps past)) := by
  have l := lD_len ps
  have m := mk_np
  unfold F_Layout___refuse_no_piece B_Layout___refuse_no_piece
  by_cases c : 0 ≤ i
  · have c1 : leD (.int 0) (.int i) = some (.bool true) := by
      show some (PyData.bool (decide ((0 : Int) ≤ i))) = _
      rw [decide_eq_true c]
    have c2 : ltD (.int i) (.int (ps.length : Int)) = some (.bool false) := by
      show some (PyData.bool (decide (i < (ps.length : Int)))) = _
      rw [decide_eq_false (by omega)]
    walk_at "runPe"
    · walk_at "ift"
      walk_at "st"
    · exact cmp_of rfl
  · have c1 : leD (.int 0) (.int i) = some (.bool false) := by
      show some (PyData.bool (decide ((0 : Int) ≤ i))) = _
      rw [decide_eq_false c]
    walk_at "runPe"
    · walk_at "ift"
      walk_at "st"
    · exact cmp_of rfl
theorem lD_to (ps : List Pc) (n : Nat) : slD (lD ps) none (some (n : Int)) = some (lD (ps.take n)) := by
  show some (PyData.list (cutD (ps.map pcD) none (some (n : Int)))) = _
  unfold cutD
  rw [HT.sIx_nat, HT.sIx_none, List.length_map, List.drop_zero, Nat.sub_zero]
  by_cases h : n ≤ ps.length
  · rw [Nat.min_eq_left h, ← List.map_take]
  · rw [Nat.min_eq_right (by omega), List.take_of_length_le (by rw [List.length_map]; exact Nat.le_refl _), List.take_of_length_le (by omega)]
theorem lD_from (ps : List Pc) (n : Nat) : slD (lD ps) (some (n : Int)) none = some (lD (ps.drop n)) := by
  show some (PyData.list (cutD (ps.map pcD) (some (n : Int)) none)) = _
  unfold cutD
  rw [HT.sIx_nat, HT.sIx_none, List.length_map]
  by_cases h : n ≤ ps.length
  · rw [Nat.min_eq_left h, List.take_of_length_le (by rw [List.length_drop, List.length_map]; exact Nat.le_refl _), ← List.map_drop]
  · rw [Nat.min_eq_right (by omega), List.drop_eq_nil_of_le (by rw [List.length_map]; exact Nat.le_refl _), List.drop_eq_nil_of_le (by omega)]
    simp
theorem set_cut (ps : List Pc) (n : Nat) (h : n < ps.length) : ps.take n ++ [none] ++ ps.drop (n + 1) = ps.set n none := by
  rw [List.set_eq_take_append_cons_drop, if_pos h, List.append_assoc]
  rfl
theorem remove_ok {ps : List Pc} {past : List (List Pc)} {n : Nat} {k : Kd} {p : Ps} (h : ps[n]? = some (some (k, p))) (hl : ps.length ≤ 900) (hp : past.length ≤ 1000) : F_Layout__remove (some (FLD ps past)) [.int (n : Int)] = some (.da .none, some (FLD (ps.set n none) (past ++ [ps]))) := by
  have hn : n < ps.length := (List.getElem?_eq_some_iff.mp h).1
  have r := refuse_ok (past := past) h
  have ok : okN (past.map lD).length = true := decide_eq_true (by rw [List.length_map]; omega)
  have a0 : addD (.int (n : Int)) (.int 1) = some (.int ((n + 1 : Nat) : Int)) := by
    show some (PyData.int ((n : Int) + 1)) = _
    rw [Int.natCast_add]
    rfl
  have c1 := lD_to ps n
  have c2 := lD_from ps (n + 1)
  have a1 : addD (lD (ps.take n)) (.list [.none]) = some (lD (ps.take n ++ [none])) := lD_add (ps.take n) [none] (by rw [List.length_take]; simp; omega)
  have a2 : addD (lD (ps.take n ++ [none])) (lD (ps.drop (n + 1))) = some (lD (ps.set n none)) := by
    rw [lD_add _ _ (by simp; omega), set_cut ps n hn]
  unfold F_Layout__remove B_Layout__remove
  walk_at "runPn"
  · walk_at "q"
    walk_at "q"
    walk_at "st"
  · exact cmp_of rfl
theorem remove_er {ps : List Pc} {past : List (List Pc)} {i : Int} (h : F_Layout___refuse_no_piece (some (FLD ps past)) [.int i] = some (.er "BadPiece" (BP "no such piece"), some (FLD ps past))) : F_Layout__remove (some (FLD ps past)) [.int i] = some (.er "BadPiece" (BP "no such piece"), some (FLD ps past)) := by
  unfold F_Layout__remove B_Layout__remove
  walk_at "runPe"
  · with_reducible apply q_seqRs
    walk_at "st"
  · exact cmp_of rfl
theorem undo_ok (ps l : List Pc) (past : List (List Pc)) : F_Layout__undo (some (FLD ps (past ++ [l]))) [] = some (.da (.bool true), some (FLD l past)) := by
  have e : (past ++ [l]).map lD = past.map lD ++ [lD l] := by rw [List.map_append]; rfl
  have g : getP (FLD ps (past ++ [l])) [("Layout", "_past")] = some (.lst (past.map lD ++ [lD l])) := by rw [fld_gq, e]
  have s := fld_sr ps past (past ++ [l])
  have t : truP (.lst (past.map lD ++ [lD l])) = some true := by
    show some (!(past.map lD ++ [lD l]).isEmpty) = _
    cases past <;> rfl
  obtain ⟨Q, eQ⟩ : ∃ Q, FLD ps (past ++ [l]) = Q := ⟨_, rfl⟩
  rw [eQ] at g s ⊢
  have g0 : getP (FLD ps past) [] = some (.ins "Layout" (flF ps past)) := rfl
  unfold F_Layout__undo B_Layout__undo
  walk_at "runP"
  · walk_at "qiff"
    walk_at "q"
    walk_at "st"
  · exact cmp_of rfl
theorem undo_none (ps : List Pc) : F_Layout__undo (some (FLD ps [])) [] = some (.da (.bool false), some (FLD ps [])) := by
  have g : getP (FLD ps []) [("Layout", "_past")] = some (.lst []) := fld_gq ps []
  have t : truP (.lst []) = some false := rfl
  unfold F_Layout__undo B_Layout__undo
  walk_at "runP"
  · with_reducible apply q_seqRt
    walk_at "ift"
    walk_at "st"
  · exact cmp_of rfl
theorem layout_ok (ps : List Pc) (past : List (List Pc)) : F_Layout__layout (some (FLD ps past)) [] = some (.da (.tuple (ps.map pcD)), some (FLD ps past)) := by
  unfold F_Layout__layout B_Layout__layout
  walk_at "runP"
  · walk_at "st"
  · exact cmp_of rfl
theorem joined_er {ps : List Pc} {past : List (List Pc)} {i : Int} {e : D} (h : F_Layout___refuse_no_piece (some (FLD ps past)) [.int i] = some (.er "BadPiece" (BP "no such piece"), some (FLD ps past))) : F_Layout__joined (some (FLD ps past)) [.int i, e] = some (.er "BadPiece" (BP "no such piece"), some (FLD ps past)) := by
  unfold F_Layout__joined B_Layout__joined
  walk_at "runPe"
  · with_reducible apply q_seqRs
    walk_at "st"
  · exact cmp_of rfl
theorem mk_ne : mkB (.str "no such end") = true := by decide +kernel
theorem joined_end {ps : List Pc} {past : List (List Pc)} {n : Nat} {k : Kd} {p : Ps} {e : Int} (h : ps[n]? = some (some (k, p))) (he : ¬ (0 ≤ e ∧ e < ((ends k p).length : Int))) : F_Layout__joined (some (FLD ps past)) [.int (n : Int), .int e] = some (.er "BadPiece" (BP "no such end"), some (FLD ps past)) := by
  have r := refuse_ok (past := past) h
  have ix := lD_ix h
  have pe := pends k p
  have m := mk_ne
  have le : lenD (.tuple ((ends k p).map F5)) = some (.int ((ends k p).length : Int)) := by show some (PyData.int (((ends k p).map F5).length : Int)) = _; rw [List.length_map]
  unfold F_Layout__joined B_Layout__joined
  by_cases c : 0 ≤ e
  · have c1 : leD (.int 0) (.int e) = some (.bool true) := by
      show some (PyData.bool (decide ((0 : Int) ≤ e))) = _
      rw [decide_eq_true c]
    have c2 : ltD (.int e) (.int ((ends k p).length : Int)) = some (.bool false) := by
      show some (PyData.bool (decide (e < ((ends k p).length : Int)))) = _
      rw [decide_eq_false (by omega)]
    walk_at "runPe"
    · walk_at "q"
      walk_at "q"
      with_reducible apply q_seqRs
      walk_at "ift"
      walk_at "st"
    · exact cmp_of rfl
  · have c1 : leD (.int 0) (.int e) = some (.bool false) := by
      show some (PyData.bool (decide ((0 : Int) ≤ e))) = _
      rw [decide_eq_false c]
    walk_at "runPe"
    · walk_at "q"
      walk_at "q"
      with_reducible apply q_seqRs
      walk_at "ift"
      walk_at "st"
    · exact cmp_of rfl
/-! ### rows of letters -/
inductive Ltr where
  | h | l | r | s
def one : Ltr → Str
  | .h => "H"
  | .l => "L"
  | .r => "R"
  | .s => "S"
def cd : Ltr → Nat
  | .h => 72
  | .l => 76
  | .r => 82
  | .s => 83
theorem one_cd (x : Ltr) : one x = ⟨#[cd x]⟩ := by cases x <;> decide +kernel
theorem one_inj {x y : Ltr} : one x = one y ↔ cd x = cd y := by
  rw [one_cd, one_cd]
  simp
abbrev O (x : Ltr) : D := .str (one x)
def txt (r : List Ltr) : Str := ⟨(r.map cd).toArray⟩
theorem txt_len (r : List Ltr) : (txt r).length = r.length := by simp [txt, Str.length]
theorem txt_walk (r : List Ltr) : (txt r).cps.toList.map (fun c => PyData.str ⟨#[c]⟩) = r.map O := by
  simp only [txt, List.map_map]
  exact List.map_congr_left fun x _ => by simp [one_cd]
theorem txt_app (a b : List Ltr) : txt (a ++ b) = txt a ++ txt b := by
  show _ = Str.append _ _
  simp [txt, Str.append]
theorem txt_rev (r : List Ltr) : revS (txt r) = txt r.reverse := by simp [revS, txt]
theorem glue_all : ∀ (r : List Ltr) (acc : Array Nat), (r.map one).foldl (fun acc p => acc ++ (("" : Str)).cps ++ p.cps) acc = acc ++ (r.map cd).toArray
  | [], acc => by simp
  | x :: r, acc => by
    have e : (("" : Str)).cps = #[] := by decide +kernel
    rw [List.map_cons, List.foldl_cons, glue_all r, e, one_cd]
    simp
theorem txt_join : ∀ r : List Ltr, Txt.join "" (r.map one) = txt r
  | [] => by decide +kernel
  | x :: r => by
    show (⟨(((x :: r).map one).drop 1).foldl _ (((x :: r).map one).headD Str.empty).cps⟩ : Str) = _
    rw [List.map_cons, List.drop_one, List.tail_cons, glue_all, List.headD_cons, one_cd]
    simp [txt]
theorem strs_one : ∀ r : List Ltr, strsD (r.map O) = some (r.map one)
  | [] => rfl
  | x :: r => by
    show (strsD (r.map O)).map (one x :: ·) = _
    rw [strs_one r]
    rfl
theorem sum_one : ∀ r : List Ltr, ((r.map one).map (·.length)).sum = r.length
  | [] => rfl
  | x :: r => by
    rw [List.map_cons, List.map_cons, List.sum_cons, sum_one r, List.length_cons, one_cd]
    show 1 + r.length = _
    omega
theorem join_ok (r : List Ltr) (h : r.length ≤ 100000) : joinL "" (r.map O) = some (.str (txt r)) := by
  have e : (("" : Str)).length = 0 := by decide +kernel
  have hl : r.length ≤ 1000000 := by omega
  have sm : ((r.map one).map (·.length)).sum + (r.map one).length * (("" : Str)).length = r.length := by rw [sum_one, e]; omega
  simp only [joinL, strs_one, txt_join, sm, okN, hl, decide_true, if_true]
def vl : Ltr → I4
  | .h => (1, 0, 0, 0)
  | .l => (0, 0, 2, -2)
  | .r => (0, 2, -2, 0)
  | .s => (2, 0, 0, 0)
def tl : Ltr → Int
  | .h => 0
  | .l => 1
  | .r => 7
  | .s => 0
theorem leads_ok (x : Ltr) : tabD c_LEADS (O x) = some (P5 (vl x) (tl x)) := by
  cases x <;> rfl
def stp (p : Ps) (x : Ltr) : Ps := (add4 (tn p.2 (vl x)) p.1, (tl x + p.2) % 8)
def walk (p : Ps) (r : List Ltr) : Ps := r.foldl stp p
theorem lead_loop (a b : Option Ent) : ∀ (r : List Ltr) (p : Ps) (e : Option Ent), ∃ e', forF (gDat 3) L1_lead (r.map O) [a, b, some (.dat (F5 p)), e] = some (.nx [a, b, some (.dat (F5 (walk p r))), e'])
  | [], p, e => ⟨e, rfl⟩
  | x :: r, p, e => by
    obtain ⟨e', h⟩ := lead_loop a b r (stp p x) (some (.dat (O x)))
    refine ⟨e', (forF_nx rfl (γ2 := [a, b, some (.dat (F5 (stp p x))), some (.dat (O x))]) ?_).trans h⟩
    have k := leads_ok x
    have m := laid_eq p.1 (vl x) p.2 (tl x)
    simp only [tabD] at k
    simp only [L1_lead, runF, ini, gt, view, fN, fC, f2, f2n, f2m, f2nn, okN, addD, subD, fdivD, modD, cmpI, isNo, isNd, notNd, ixD, tYe, ofB, cNot, cAnd, cOr, fAnd, fOr, fNot, fNeg, fIf, aNil, aCons, fTup, fL, lDisp, DN.f1, f1n, lenD, intD, absD, tupleD, listD, lOf, lOfn, pNo, pOf, slD, fSl, fSln, pinB, gDat, gsNo, gsCons, gTp, gLp, sNil, sSeq, sAsg, sOwn, sSet, sApp, sDrop, sRet, sRetN, sBk, sCt, sIf, wOf, wR1, wR2, small62, sFor, cTru, cTrun, truD, lRep, sAsg2, fCallL, aLend, allD, sumD, wEnum, revTD, sNone, fCall, fCallB, ownB, lLc, simp_ix1, simp_ix2, List.set, List.length_cons, List.length_nil, List.map_cons, List.map_nil, List.cons_append, List.nil_append, List.replicate, Option.bind_some, Option.map_some, if_true, if_false, Bool.false_eq_true, Bool.not_true, Bool.not_false, decide_true, decide_false, reduceIte, Nat.reduceAdd, Nat.reduceLeDiff, Nat.reduceEqDiff, Int.reduceLE, Int.reduceLT, Int.reduceToNat, List.getElem?_cons_zero, List.getElem?_cons_succ, Int.cast_ofNat_Int, Nat.zero_add, Int.zero_le_ofNat, ixX, inX, notInX, catL, lCat, lCatn, fTxt, fTxtGet, sTxtPut, sTxt, sDicNew, sDicPut, fGet1, fGet2, wKey, fDl, sOwnX, sRetO, runX, iniX, tellX, notInD, tabD, k, m, stp]
theorem lead_eq (p : Ps) (r : List Ltr) : F_lead [F5 p, .str (txt r)] = some (F5 (walk p r), []) := by
  obtain ⟨e', h⟩ := lead_loop (some (.dat (F5 p))) (some (.dat (.str (txt r)))) r p none
  simp only [F_lead, B_lead, runF, ini, gt, view, fN, fC, f2, f2n, f2m, f2nn, okN, addD, subD, fdivD, modD, cmpI, isNo, isNd, notNd, ixD, tYe, ofB, cNot, cAnd, cOr, fAnd, fOr, fNot, fNeg, fIf, aNil, aCons, fTup, fL, lDisp, DN.f1, f1n, lenD, intD, absD, tupleD, listD, lOf, lOfn, pNo, pOf, slD, fSl, fSln, pinB, gDat, gsNo, gsCons, gTp, gLp, sNil, sSeq, sAsg, sOwn, sSet, sApp, sDrop, sRet, sRetN, sBk, sCt, sIf, wOf, wR1, wR2, small62, sFor, cTru, cTrun, truD, lRep, sAsg2, fCallL, aLend, allD, sumD, wEnum, revTD, sNone, fCall, fCallB, ownB, lLc, simp_ix1, simp_ix2, List.set, List.length_cons, List.length_nil, List.map_cons, List.map_nil, List.cons_append, List.nil_append, List.replicate, Option.bind_some, Option.map_some, if_true, if_false, Bool.false_eq_true, Bool.not_true, Bool.not_false, decide_true, decide_false, reduceIte, Nat.reduceAdd, Nat.reduceLeDiff, Nat.reduceEqDiff, Int.reduceLE, Int.reduceLT, Int.reduceToNat, List.getElem?_cons_zero, List.getElem?_cons_succ, Int.cast_ofNat_Int, Nat.zero_add, Int.zero_le_ofNat, ixX, inX, notInX, catL, lCat, lCatn, fTxt, fTxtGet, sTxtPut, sTxt, sDicNew, sDicPut, fGet1, fGet2, wKey, fDl, sOwnX, sRetO, runX, iniX, tellX, notInD, txt_walk, h]
def trail (p : Ps) : List Ltr → List Ps
  | [] => [p]
  | x :: r => p :: trail (stp p x) r
theorem trail_len (p : Ps) (r : List Ltr) : (trail p r).length = r.length + 1 := by
  induction r generalizing p with
  | nil => rfl
  | cons x r ih => simp [trail, ih]
theorem trail_last (p : Ps) (r : List Ltr) : ∃ q, trail p r = q ++ [walk p r] := by
  induction r generalizing p with
  | nil => exact ⟨[], rfl⟩
  | cons x r ih =>
    obtain ⟨q, e⟩ := ih (stp p x)
    exact ⟨p :: q, by simp [trail, e, walk]⟩
theorem last_ix (xs : List D) (d : D) (h : xs.length ≤ 1000000) : ixD (.list (xs ++ [d])) (.int (-1)) = some d := by
  have h1 : ¬ ((0 : Int) ≤ -1) := by omega
  have h2 : (-1 + ((xs ++ [d]).length : Int)).toNat = xs.length := by simp; omega
  have h3 : -((xs ++ [d]).length : Int) ≤ -1 := by simp; omega
  simp only [ixD, simp_ix1, simp_ix2, h1, h2, h3, if_true, if_false, Option.bind_some]
  simp
theorem trail_ix (p : Ps) (r : List Ltr) (h : r.length ≤ 100000) : ixD (.list ((trail p r).map F5)) (.int (-1)) = some (F5 (walk p r)) := by
  obtain ⟨q, e⟩ := trail_last p r
  have l := trail_len p r
  rw [e] at l ⊢
  rw [List.map_append, List.map_cons, List.map_nil]
  refine last_ix _ _ ?_
  simp at l ⊢
  omega

/-! ### rows laid piece by piece -/
instance ltrDec : DecidableEq Ltr := fun a b => by
  cases a <;> cases b <;> first | exact .isTrue rfl | exact .isFalse nofun
local macro_rules | `(tactic| walk_at "cmp") => `(tactic| with_reducible first
  | exact fld_gp _ _ | exact fld_gq _ _ | exact fld_g0 _ _ | exact fld_len _ _ | exact fld_sq _ _ _ | exact fld_sp _ _ _ | exact fld_put _ _ | exact fld_ref _ _ | exact fld_place _ _ | exact fld_lay _ _ | exact fld_joined _ _ | exact fld_remove _ _ | exact fld_undo _ _ | exact fld_layout _ _)
def plc (p : Ps) : Ltr → Kd × Ps
  | .h => (.h, p)
  | .l => (.c, p)
  | .r => (.c, bk (stp p .r))
  | .s => (.s, p)
def along (p : Ps) : List Ltr → List Pc
  | [] => []
  | x :: r => some (plc p x) :: along (stp p x) r
theorem along_len : ∀ (r : List Ltr) (p : Ps), (along p r).length = r.length
  | [], _ => rfl
  | x :: r, p => congrArg (· + 1) (along_len r (stp p x))
theorem one_txt' (x : Ltr) : one x = txt [x] := by simp [txt, one_cd]
theorem lead1 (p : Ps) (x : Ltr) : F_lead [F5 p, O x] = some (F5 (stp p x), []) := by
  have := lead_eq p [x]
  rw [← one_txt'] at this
  exact this
theorem eq_R (x : Ltr) : eqD (O x) (.str "R") = some (.bool (decide (x = .r))) := by
  have : (decide (one x = "R") : Bool) = decide (x = .r) := by cases x <;> decide +kernel
  show some (PyData.bool (decide (one x = "R"))) = _
  rw [this]
theorem forw_ok (x : Ltr) (h : x ≠ .r) (p : Ps) : tabD c_LAID_FORWARDS (O x) = some (.str (kt (plc p x).1)) ∧ (plc p x).2 = p := by
  cases x
  · exact ⟨rfl, rfl⟩
  · exact ⟨rfl, rfl⟩
  · exact absurd rfl h
  · exact ⟨rfl, rfl⟩
abbrev PA (p0 row : D) (acc : List Pc) (p : Ps) (e4 e5 : Option Ent) : En := [some (.dat p0), some (.dat row), some (.ow false (.lst (acc.map pcD))), some (.dat (F5 p)), e4, e5]
theorem along_run (p0 row : D) : ∀ (r : List Ltr) (p : Ps) (acc : List Pc) (e4 e5 : Option Ent), acc.length + r.length ≤ 1000 → ∃ q f4 f5, forF (gDat 4) L1_pieces_along (r.map O) (PA p0 row acc p e4 e5) = some (.nx (PA p0 row (acc ++ along p r) q f4 f5))
  | [], p, acc, e4, e5, _ => ⟨p, e4, e5, by simp [forF, along]⟩
  | x :: r, p, acc, e4, e5, h => by
    rw [List.length_cons] at h
    obtain ⟨q, f4, f5, ih⟩ := along_run p0 row r (stp p x) (acc ++ [some (plc p x)]) (some (.dat (O x))) (some (.dat (F5 (stp p x)))) (by simp; omega)
    refine ⟨q, f4, f5, ?_⟩
    rw [List.map_cons]
    have e0 : acc ++ along p (x :: r) = acc ++ [some (plc p x)] ++ along (stp p x) r := by rw [List.append_assoc]; rfl
    rw [e0]
    refine (forF_nx (γ1 := PA p0 row acc p (some (.dat (O x))) e5) rfl ?_).trans ih
    have l := lead1 p x
    have b := pback (stp p x)
    have eR := eq_R x
    have ok : okN (acc.map pcD).length = true := decide_eq_true (by rw [List.length_map]; omega)
    have el : (acc ++ [some (plc p x)]).map pcD = acc.map pcD ++ [pcD (some (plc p x))] := by rw [List.map_append]; rfl
    unfold L1_pieces_along
    unfold PA
    rw [el]
    by_cases c : x = .r
    · subst c
      have eR : eqD (O .r) (.str "R") = some (.bool true) := eR
      walk_at "q"
      refine q_seq (γ1 := [some (.dat p0), some (.dat row), some (.ow false (.lst (acc.map pcD ++ [pcD (some (plc p .r))]))), some (.dat (F5 p)), some (.dat (O .r)), some (.dat (F5 (stp p .r)))]) (by walk_at "st") ?_
      walk_at "st"
    · obtain ⟨f1, f2⟩ := forw_ok x c p
      have eR : eqD (O x) (.str "R") = some (.bool false) := by rw [eR, decide_eq_false c]
      have ep : pcD (some (plc p x)) = .tuple [.str (kt (plc p x).1), F5 p] := by
        show PyData.tuple [.str (kt (plc p x).1), F5 (plc p x).2] = _
        rw [f2]
      rw [ep]
      walk_at "q"
      walk_at "q"
      walk_at "st"
theorem along_eq (p : Ps) (r : List Ltr) (h : r.length ≤ 900) : F_pieces_along [F5 p, .str (txt r)] = some (lD (along p r), []) := by
  obtain ⟨q, f4, f5, e⟩ := along_run (F5 p) (.str (txt r)) r p [] none none (by simp; omega)
  rw [List.nil_append] at e
  have e : forF (gDat 4) L1_pieces_along (r.map O) [some (.dat (F5 p)), some (.dat (.str (txt r))), some (.ow false (.lst [])), some (.dat (F5 p)), none, none] = _ := e
  have w : wOf (fN 1) [some (.dat (F5 p)), some (.dat (.str (txt r))), some (.ow false (.lst [])), some (.dat (F5 p)), none, none] = some (r.map O, [some (.dat (F5 p)), some (.dat (.str (txt r))), some (.ow false (.lst [])), some (.dat (F5 p)), none, none]) := by
    show some ((txt r).cps.toList.map (fun c => PyData.str ⟨#[c]⟩), _) = _
    rw [txt_walk]
  unfold F_pieces_along B_pieces_along
  walk_at "run"
  · walk_at "q"
    walk_at "q"
    walk_at "q"
    walk_at "st"
theorem lay_ok {ps : List Pc} {past : List (List Pc)} {p : Ps} {r : List Ltr} (hr : r.length ≤ 900) (h : F_reason_against [lD ps, lD (along p r)] = some (.none, [])) (hl : ps.length + r.length ≤ 1000) (hp : past.length ≤ 1000) :
    F_Layout__lay (some (FLD ps past)) [F5 p, .str (txt r)] = some (.da (.tuple (rngD (ps.length : Int) r.length)), some (FLD (ps ++ along p r) (past ++ [ps]))) := by
  have a := along_eq p r hr
  have e := put_ok (qs := along p r) h (by rw [along_len]; omega) hp
  rw [along_len] at e
  unfold F_Layout__lay B_Layout__lay
  walk_at "runP"
  · walk_at "st"
  · exact cmp_of rfl
theorem lay_er {ps : List Pc} {past : List (List Pc)} {p : Ps} {r : List Ltr} {s : Str} (hr : r.length ≤ 900) (h : F_reason_against [lD ps, lD (along p r)] = some (.str s, [])) (hs : mkB (.str s) = true) :
    F_Layout__lay (some (FLD ps past)) [F5 p, .str (txt r)] = some (.er "BadPiece" (BP s), some (FLD ps past)) := by
  have a := along_eq p r hr
  have e := put_er (past := past) (qs := along p r) h hs
  unfold F_Layout__lay B_Layout__lay
  walk_at "runPe"
  · walk_at "st"
  · exact cmp_of rfl
theorem rngD_cons (lo : Int) (n : Nat) : rngD lo (n + 1) = .int lo :: rngD (lo + 1) n := by
  unfold rngD
  rw [List.range_succ_eq_map, List.map_cons, List.map_map]
  congr 1
  · simp
  · refine List.map_congr_left fun k _ => ?_
    show PyData.int (lo + ((k + 1 : Nat) : Int)) = PyData.int (lo + 1 + (k : Int))
    congr 1
    omega
/-! ### the law: full floors -/
local macro_rules | `(tactic| walk_at "cmp") => `(tactic| with_reducible first
  | exact fld_gp _ _ | exact fld_gq _ _ | exact fld_g0 _ _ | exact fld_len _ _ | exact fld_sq _ _ _ | exact fld_sp _ _ _ | exact fld_put _ _ | exact fld_ref _ _ | exact fld_place _ _ | exact fld_lay _ _ | exact fld_joined _ _ | exact fld_remove _ _ | exact fld_undo _ _ | exact fld_layout _ _)
local macro_rules | `(tactic| walk_at "ask") => `(tactic| with_reducible first | exact fld_init)
def T3 (s : Str) : D := .list [.bool true, .str s]
theorem t3_ne (s : Str) (hs : PyData.strOk s = true := by decide +kernel) : neD (T3 s) (.list [.bool true, .str s]) = some (.bool false) := by
  simp [T3, neD, SeqAt.shaped, PyData.canLay0, PyData.canLayAll0, PyData.depth, PyData.depthAll, PyData.eqv, PyData.eqvAll, hs]
theorem t3_eq (s : Str) (hs : PyData.strOk s = true := by decide +kernel) : eqD (T3 s) (.list [.bool true, .str s]) = some (.bool true) := by
  simp [T3, eqD, SeqAt.shaped, PyData.canLay0, PyData.canLayAll0, PyData.depth, PyData.depthAll, PyData.eqv, PyData.eqvAll, hs]
section
variable {ps ps' : List Pc} {past past' : List (List Pc)} {a b d : D} {s : Str}
theorem told_rt {k : Int} (h : L1__law_told [some (.ow true (FLD ps past)), some (.dat (.int k)), some (.dat a), some (.dat b), none] = some (.rt d [some (.ow true (FLD ps' past')), some (.dat (.int k)), some (.dat a), some (.dat b), none])) :
    F__law_told (some (FLD ps past)) [.int k, a, b] = some (.da d, some (FLD ps' past')) := by
  unfold F__law_told B__law_told
  walk_at "runP"
  · exact q_try_rt h
  · exact cmp_of rfl
theorem told_rs {k : Int} (h : L1__law_told [some (.ow true (FLD ps past)), some (.dat (.int k)), some (.dat a), some (.dat b), none] = some (.rs "BadPiece" (BP s) [some (.ow true (FLD ps past)), some (.dat (.int k)), some (.dat a), some (.dat b), none])) :
    F__law_told (some (FLD ps past)) [.int k, a, b] = some (.da (T3 s), some (FLD ps past)) := by
  unfold F__law_told B__law_told
  walk_at "runP"
  · refine q_try_rs (γ2 := [some (.ow true (FLD ps past)), some (.dat (.int k)), some (.dat a), some (.dat b), none]) h (cmp_of rfl) (cmp_of rfl) (cmp_of ?_) (cmp_of rfl) (cmp_of rfl)
    show 4 < 5
    omega
  · exact cmp_of rfl
theorem eq00 : eqD (.int 0) (.int 0) = some (.bool true) := rfl
theorem eq10 : eqD (.int 1) (.int 0) = some (.bool false) := rfl
theorem eq11 : eqD (.int 1) (.int 1) = some (.bool true) := rfl
theorem eq20 : eqD (.int 2) (.int 0) = some (.bool false) := rfl
theorem eq21 : eqD (.int 2) (.int 1) = some (.bool false) := rfl
theorem told_place (h : F_Layout__place (some (FLD ps past)) [a, b] = some (.da d, some (FLD ps' past'))) : F__law_told (some (FLD ps past)) [.int 0, a, b] = some (.da d, some (FLD ps' past')) := by
  refine told_rt ?_
  have e := eq00
  unfold L1__law_told
  with_reducible apply q_seqRt
  walk_at "ift"
  walk_at "st"
theorem told_placeE (h : F_Layout__place (some (FLD ps past)) [a, b] = some (.er "BadPiece" (BP s), some (FLD ps past))) : F__law_told (some (FLD ps past)) [.int 0, a, b] = some (.da (T3 s), some (FLD ps past)) := by
  refine told_rs ?_
  have e := eq00
  unfold L1__law_told
  with_reducible apply q_seqRs
  walk_at "ift"
  walk_at "st"
theorem told_layE (h : F_Layout__lay (some (FLD ps past)) [b, a] = some (.er "BadPiece" (BP s), some (FLD ps past))) : F__law_told (some (FLD ps past)) [.int 1, a, b] = some (.da (T3 s), some (FLD ps past)) := by
  refine told_rs ?_
  have e := eq10
  have e2 := eq11
  unfold L1__law_told
  walk_at "qiff"
  with_reducible apply q_seqRs
  walk_at "ift"
  walk_at "st"
theorem told_joinE (h : F_Layout__joined (some (FLD ps past)) [a, b] = some (.er "BadPiece" (BP s), some (FLD ps past))) : F__law_told (some (FLD ps past)) [.int 2, a, b] = some (.da (T3 s), some (FLD ps past)) := by
  refine told_rs ?_
  have e := eq20
  have e2 := eq21
  unfold L1__law_told
  walk_at "qiff"
  walk_at "qiff"
  walk_at "st"
end
/-- half straights in rows -/
def hq (x : Int × Nat) : Pc := some (.h, (((x.2 : Int), 0, x.1, 0), 0))
abbrev hp (k : Nat) : Pc := hq (0, k)
def rows (n : Nat) : List Pc := (List.range n).map hp
def hist (n : Nat) : List (List Pc) := (List.range n).map rows
theorem rows_len (n : Nat) : (rows n).length = n := by simp [rows]
theorem hist_len (n : Nat) : (hist n).length = n := by simp [hist]
theorem rows_succ (n : Nat) : rows (n + 1) = rows n ++ [hp n] := by simp [rows, List.range_succ]
theorem hist_succ (n : Nat) : hist (n + 1) = hist n ++ [rows n] := by simp [hist, List.range_succ]
theorem rows_at {n k : Nat} (h : k < n) : (rows n)[k]? = some (hp k) := by simp [rows, h]
theorem ends_hq (x : Int × Nat) : endsP (hq x) = [(((x.2 : Int), 0, x.1, 0), 4), ((1 + (x.2 : Int), 0, x.1, 0), 0)] := by
  simp [hq, endsP, ends, ahd, bk, comp, tn, add4]
theorem ends_nodup : ∀ {l : List (Int × Nat)}, l.Nodup → (endsA (l.map hq)).Nodup
  | [], _ => List.nodup_nil
  | x :: l, h => by
    obtain ⟨h1, h2⟩ := List.nodup_cons.mp h
    have ih := ends_nodup h2
    have e : endsA ((x :: l).map hq) = endsP (hq x) ++ endsA (l.map hq) := by rw [List.map_cons]; rfl
    rw [e, List.nodup_append]
    refine ⟨by rw [ends_hq]; simp, ih, fun p hp q hq' e => ?_⟩
    subst e
    rw [ends_hq] at hp
    unfold endsA at hq'
    rw [List.mem_flatMap] at hq'
    obtain ⟨y, hy, hpy⟩ := hq'
    obtain ⟨z, hz, rfl⟩ := List.mem_map.mp hy
    rw [ends_hq] at hpy
    have : x = z := by
      obtain ⟨x1, x2⟩ := x
      obtain ⟨z1, z2⟩ := z
      simp only [List.mem_cons, List.not_mem_nil, or_false] at hp hpy
      rcases hp with rfl | rfl
      · rcases hpy with e | e
        · simp only [Prod.mk.injEq] at e
          obtain ⟨⟨e1, _, e2, _⟩, _⟩ := e
          rw [e2, show x2 = z2 by omega]
        · simp at e
      · rcases hpy with e | e
        · simp at e
        · simp only [Prod.mk.injEq] at e
          obtain ⟨⟨e1, _, e2, _⟩, _⟩ := e
          rw [e2, show x2 = z2 by omega]
    exact h1 (this ▸ hz)
theorem endsA_app (a b : List Pc) : endsA (a ++ b) = endsA a ++ endsA b := by simp [endsA]
theorem endsA_set : ∀ (l : List Pc) (n : Nat), (endsA (l.set n none)).Sublist (endsA l)
  | [], _ => by simp
  | x :: l, 0 => by
    show (endsP none ++ endsA l).Sublist (endsP x ++ endsA l)
    exact List.sublist_append_right _ _
  | x :: l, n + 1 => by
    show (endsP x ++ endsA (l.set n none)).Sublist (endsP x ++ endsA l)
    exact List.Sublist.append (List.Sublist.refl _) (endsA_set l n)
theorem endsA_hq : ∀ l : List (Int × Nat), (endsA (l.map hq)).length = 2 * l.length
  | [] => rfl
  | x :: l => by
    have ih := endsA_hq l
    have e : endsA ((x :: l).map hq) = endsP (hq x) ++ endsA (l.map hq) := by rw [List.map_cons]; rfl
    rw [e, List.length_append, ih, ends_hq, List.length_cons]
    simp
    omega
theorem mk_rsn {s : Str} (h : mkB (.str s) = true := by decide +kernel) : mkB (.str s) = true := h
abbrev xs7 (n : Nat) : List (Int × Nat) := (List.range n).map fun k => (7, k)
abbrev xs0 (n : Nat) : List (Int × Nat) := (List.range n).map fun k => (0, k)
theorem rows_xs (n : Nat) : rows n = (xs0 n).map hq := by simp [rows]
theorem xs_nodup (n k : Nat) : (xs0 n ++ xs7 k).Nodup := by
  rw [List.nodup_append]
  refine ⟨?_, ?_, ?_⟩
  · exact List.pairwise_map.mpr (List.nodup_range.imp fun h e => h (by simpa using e))
  · exact List.pairwise_map.mpr (List.nodup_range.imp fun h e => h (by simpa using e))
  · intro a ha b hb e
    simp only [List.mem_map] at ha hb
    obtain ⟨i, _, rfl⟩ := ha
    obtain ⟨j, _, rfl⟩ := hb
    simp at e
/-- the floor behind a piece is taken away, and some more are placed -/
def gon (m g k : Nat) : List Pc := (rows m).set g none ++ (xs7 k).map hq
theorem gon_len (m g k : Nat) : (gon m g k).length = m + k := by simp [gon, rows]
theorem gon_succ (m g k : Nat) : gon m g (k + 1) = gon m g k ++ [hq (7, k)] := by simp [gon, List.range_succ]
theorem gon_ends (m g k : Nat) : (endsA (gon m g k)).Nodup ∧ (endsA (gon m g k)).length ≤ 2 * (m + k) := by
  have s : (endsA (gon m g k)).Sublist (endsA ((xs0 m ++ xs7 k).map hq)) := by
    rw [List.map_append, endsA_app]
    unfold gon
    rw [endsA_app, rows_xs]
    exact List.Sublist.append (endsA_set _ _) (List.Sublist.refl _)
  refine ⟨(ends_nodup (xs_nodup m k)).sublist s, ?_⟩
  have := s.length_le
  rw [endsA_hq] at this
  simp at this
  omega
def hist2 (m g : Nat) : Nat → List (List Pc)
  | 0 => hist m ++ [rows m]
  | k + 1 => hist2 m g k ++ [gon m g k]
theorem hist2_len (m g : Nat) : ∀ k, (hist2 m g k).length = m + 1 + k
  | 0 => by simp [hist2, hist]
  | k + 1 => by rw [hist2, List.length_append, hist2_len m g k]; simp; omega
theorem hp_D (k : Nat) : pcD (hp k) = .tuple [.str "H", F5 (((k : Int), 0, 0, 0), 0)] := rfl
abbrev LF (s : D) (B : List D) (m : Nat) (f : Pay) (e4 e5 e6 e7 : Option Ent) : En := [some (.dat s), some (.ow false (.lst B)), some (.ow false f), some (.dat (.int (m : Int))), e4, e5, e6, e7]
theorem place_row {n : Nat} (h : n < 24) : F_Layout__place (some (FLD (rows n) (hist n))) [.str "H", .tuple [.int (n : Int), .int 0, .int 0, .int 0, .int 0]] = some (.da (.int (n : Int)), some (FLD (rows (n + 1)) (hist (n + 1)))) := by
  have z : (endsA (rows n ++ [hp n])).length < 64 := by
    rw [← rows_succ, rows_xs, endsA_hq]
    simp
    omega
  have nd : (endsA (rows n ++ [hp n])).Nodup := by
    have := ends_nodup (xs_nodup (n + 1) 0)
    rw [← rows_succ, rows_xs]
    simpa using this
  have r := reason_few (ps := rows n) (qs := [hp n]) (by rw [rows_len]; simp; omega) z
  rw [if_pos nd] at r
  have := place_ok (past := hist n) (k := .h) (p := (((n : Int), 0, 0, 0), 0)) r (by rw [rows_len]; omega) (by rw [hist_len]; omega)
  rw [rows_len] at this
  rw [rows_succ, hist_succ]
  exact this
theorem place_7 {m g k : Nat} (h : m + k < 24) : F_Layout__place (some (FLD (gon m g k) (hist2 m g k))) [.str "H", .tuple [.int (k : Int), .int 0, .int 7, .int 0, .int 0]] = some (.da (.int ((m + k : Nat) : Int)), some (FLD (gon m g (k + 1)) (hist2 m g (k + 1)))) := by
  obtain ⟨nd, z⟩ := gon_ends m g (k + 1)
  rw [gon_succ] at nd z
  have r := reason_few (ps := gon m g k) (qs := [hq (7, k)]) (by rw [gon_len]; simp; omega) (by omega)
  rw [if_pos nd] at r
  have := place_ok (past := hist2 m g k) (k := .h) (p := (((k : Int), 0, 7, 0), 0)) r (by rw [gon_len]; omega) (by rw [hist2_len]; omega)
  rw [gon_len] at this
  rw [gon_succ]
  exact this
theorem rows_run (s : D) (B : List D) (m : Nat) (hm : m ≤ 24) (e5 e6 e7 : Option Ent) : ∀ (n k : Nat) (e4 : Option Ent), k + n = m → ∃ f4, forF (gDat 4) L1_law (rngD (k : Int) n) (LF s B m (FLD (rows k) (hist k)) e4 e5 e6 e7) = some (.nx (LF s B m (FLD (rows m) (hist m)) f4 e5 e6 e7))
  | 0, k, e4, h => by
    obtain rfl : k = m := by omega
    exact ⟨e4, rfl⟩
  | n + 1, k, e4, h => by
    obtain ⟨f4, ih⟩ := rows_run s B m hm e5 e6 e7 n (k + 1) (some (.dat (.int (k : Int)))) (by omega)
    refine ⟨f4, ?_⟩
    rw [rngD_cons, show (k : Int) + 1 = ((k + 1 : Nat) : Int) by omega]
    refine (forF_nx (γ1 := LF s B m (FLD (rows k) (hist k)) (some (.dat (.int (k : Int)))) e5 e6 e7) rfl ?_).trans ih
    have p := place_row (n := k) (by omega)
    have n0 : neD (.int (k : Int)) (.int (k : Int)) = some (.bool false) := by
      show some (PyData.bool (!decide ((k : Int) = k))) = _
      rw [decide_eq_true rfl]
      rfl
    unfold L1_law
    walk_at "iff"
    walk_at "st"
theorem sevens_run (s : D) (B : List D) (m g : Nat) (e5 e6 e7 : Option Ent) : ∀ (n k : Nat) (e4 : Option Ent), m + k + n = 24 → ∃ f4, forF (gDat 4) L2_law (rngD (k : Int) n) (LF s B m (FLD (gon m g k) (hist2 m g k)) e4 e5 e6 e7) = some (.nx (LF s B m (FLD (gon m g (k + n)) (hist2 m g (k + n))) f4 e5 e6 e7))
  | 0, k, e4, h => ⟨e4, rfl⟩
  | n + 1, k, e4, h => by
    obtain ⟨f4, ih⟩ := sevens_run s B m g e5 e6 e7 n (k + 1) (some (.dat (.int (k : Int)))) (by omega)
    refine ⟨f4, ?_⟩
    rw [rngD_cons, show (k : Int) + 1 = ((k + 1 : Nat) : Int) by omega, show k + (n + 1) = k + 1 + n by omega]
    refine (forF_nx (γ1 := LF s B m (FLD (gon m g k) (hist2 m g k)) (some (.dat (.int (k : Int)))) e5 e6 e7) rfl ?_).trans ih
    have p := told_place (place_7 (m := m) (g := g) (k := k) (by omega))
    have a : addD (.int (m : Int)) (.int (k : Int)) = some (.int ((m + k : Nat) : Int)) := by
      show some (PyData.int ((m : Int) + (k : Int))) = _
      rw [Int.natCast_add]
    have n0 : neD (.int ((m + k : Nat) : Int)) (.int ((m + k : Nat) : Int)) = some (.bool false) := by
      show some (PyData.bool (!decide (((m + k : Nat) : Int) = ((m + k : Nat) : Int)))) = _
      rw [decide_eq_true rfl]
      rfl
    unfold L2_law
    walk_at "iff"
    walk_at "st"
theorem undo_2 (m g : Nat) : ∀ k, F_Layout__undo (some (FLD (gon m g (k + 1)) (hist2 m g (k + 1)))) [] = some (.da (.bool true), some (FLD (gon m g k) (hist2 m g k))) := fun k => undo_ok _ _ _
theorem undo_1 (m g : Nat) : F_Layout__undo (some (FLD (gon m g 0) (hist2 m g 0))) [] = some (.da (.bool true), some (FLD (rows m) (hist m))) := undo_ok _ _ _
theorem undos_run (s : D) (B : List D) (m g : Nat) (e5 e6 e7 : Option Ent) : ∀ (k : Nat) (lo : Int) (e4 : Option Ent), ∃ f4, forF (gDat 4) L3_law (rngD lo (k + 1)) (LF s B m (FLD (gon m g k) (hist2 m g k)) e4 e5 e6 e7) = some (.nx (LF s B m (FLD (rows m) (hist m)) f4 e5 e6 e7)) := by
  have tt : notBd (.bool true) (.bool true) = some (.bool false) := rfl
  intro k
  induction k with
  | zero =>
    intro lo e4
    refine ⟨some (.dat (.int lo)), ?_⟩
    rw [rngD_cons]
    refine (forF_nx (γ1 := LF s B m (FLD (gon m g 0) (hist2 m g 0)) (some (.dat (.int lo))) e5 e6 e7) (γ2 := LF s B m (FLD (rows m) (hist m)) (some (.dat (.int lo))) e5 e6 e7) rfl ?_).trans rfl
    have u := undo_1 m g
    unfold L3_law
    walk_at "iff"
    walk_at "st"
  | succ k ih =>
    intro lo e4
    obtain ⟨f4, ih⟩ := ih (lo + 1) (some (.dat (.int lo)))
    refine ⟨f4, ?_⟩
    rw [rngD_cons]
    refine (forF_nx (γ1 := LF s B m (FLD (gon m g (k + 1)) (hist2 m g (k + 1))) (some (.dat (.int lo))) e5 e6 e7) rfl ?_).trans ih
    have u := undo_2 m g k
    unfold L3_law
    walk_at "iff"
    walk_at "st"
theorem small_nat' {n : Nat} (h : n ≤ 1000) : small62 (n : Int) = true := by
  have h1 : decide (-(2 ^ 62) ≤ (n : Int)) = true := decide_eq_true (by omega)
  have h2 : decide ((n : Int) < 2 ^ 62) = true := decide_eq_true (by omega)
  unfold small62
  rw [h1, h2]
  rfl
theorem rows_shaped : ∀ n < 25, SeqAt.shaped (.list ((rows n).map pcD)) = true := by decide +kernel
theorem rows_noNone : ∀ n : Nat, ((rows n).map pcD).any (fun z => PyData.eqv z .none) = false := by
  intro n
  rw [List.any_eq_false]
  intro x hx
  obtain ⟨y, hy, rfl⟩ := List.mem_map.mp hx
  obtain ⟨k, _, rfl⟩ := List.mem_map.mp hy
  simp [hq, pcD, PyData.eqv]
theorem law_true (ns : List Int) (_ : ns.length ≤ 63) : ∃ out, F_law [scriptD ns] = some (.bool true, out) := by
  obtain ⟨ds, ed⟩ := digits_ok ns
  obtain ⟨s, hs⟩ : ∃ s, scriptD ns = s := ⟨_, rfl⟩
  rw [hs] at ed ⊢
  have ed : F__law_digits [s, .int 0, .int 30] = some (.list (ds.map .int), []) := ed
  obtain ⟨d, dr, d0, d1⟩ := draw_ok ds 0 5 (by omega) (by omega)
  obtain ⟨m, em⟩ : ∃ m : Nat, 20 + d = (m : Int) := ⟨(20 + d).toNat, by omega⟩
  have hm : 20 ≤ m ∧ m ≤ 24 := by omega
  have am : addD (.int 20) (.int d) = some (.int (m : Int)) := by
    show some (PyData.int (20 + d)) = _
    rw [em]
  obtain ⟨g', dg, g0, g1⟩ := draw_ok ds (0 + 1) 20 (by omega) (by omega)
  obtain ⟨g, rfl⟩ : ∃ g : Nat, g' = (g : Int) := ⟨g'.toNat, by omega⟩
  have hg : g < 20 := by omega
  obtain ⟨f4, q1⟩ := rows_run s (bx ds (0 + 1)) m hm.2 none none none m 0 none (by omega)
  have q1 : forF (gDat 4) L1_law (rngD 0 (m : Int).toNat) (LF s (bx ds (0 + 1)) m (FLD [] []) none none none none) = some (.nx (LF s (bx ds (0 + 1)) m (FLD (rows m) (hist m)) f4 none none none)) := q1
  have sm := small_nat' (n := m) (by omega)
  -- a piece goes
  have rm := remove_ok (past := hist m) (rows_at (n := m) (k := g) (by omega)) (by rw [rows_len]; omega) (by rw [hist_len]; omega)
  have e0 : (rows m).set g none = gon m g 0 := by simp [gon]
  have h0 : hist m ++ [rows m] = hist2 m g 0 := rfl
  rw [e0, h0] at rm
  have nn : notNd .none .none = some (.bool false) := rfl
  have at0 : (gon m g 0)[g]? = some none := by
    rw [← e0, List.getElem?_set_self (by rw [rows_len]; omega)]
  have j1 := told_joinE (b := .int 0) (joined_er (refuse_none (past := hist2 m g 0) at0))
  have j2 := told_joinE (b := .int 0) (joined_er (e := .int 0) (refuse_out (ps := gon m g 0) (past := hist2 m g 0) (i := 24) (by rw [gon_len]; omega)))
  have t1 := t3_ne "no such piece"
  obtain ⟨l, hl⟩ : ∃ l : Nat, m + l = 24 := ⟨24 - m, by omega⟩
  have sl : subD (.int 24) (.int (m : Int)) = some (.int (l : Int)) := by
    show some (PyData.int (24 - (m : Int))) = _
    rw [show 24 - (m : Int) = (l : Int) by omega]
  -- too long a row
  have al : addD (.int (l : Int)) (.int 1) = some (.int ((l + 1 : Nat) : Int)) := by
    show some (PyData.int ((l : Int) + 1)) = _
    rw [Int.natCast_add]
    rfl
  have mt : mulTD (.str "H") (.int ((l + 1 : Nat) : Int)) = some (.str (txt (List.replicate (l + 1) .h))) := by
    have e : ("H" : Str) = tx [72] := by decide +kernel
    have e2 : tx (List.replicate (l + 1) 72) = txt (List.replicate (l + 1) .h) := by
      show (⟨_⟩ : Str) = ⟨_⟩
      rw [List.map_replicate]
      rfl
    rw [e, tx_mul 72 (l + 1) (by omega)]
    exact congrArg (fun z => some (PyData.str z)) e2
  have le := told_layE (b := F5 ((0, 0, 5, 0), 0)) (lay_er (past := hist2 m g 0) (ps := gon m g 0) (p := ((0, 0, 5, 0), 0)) (r := List.replicate (l + 1) .h) (by simp; omega) (reason_many (by rw [gon_len, along_len]; simp; omega)) mk_rsn)
  have le : F__law_told (some (FLD (gon m g 0) (hist2 m g 0))) [.int 1, .str (txt (List.replicate (l + 1) .h)), .tuple [.int 0, .int 0, .int 5, .int 0, .int 0]] = some (.da (T3 "too many pieces"), some (FLD (gon m g 0) (hist2 m g 0))) := le
  have t2 := t3_ne "too many pieces"
  -- more pieces
  let B : List D := bx ds (0 + 1 + 1)
  obtain ⟨f4', q2⟩ := sevens_run s (bx ds (0 + 1 + 1)) m g (some (.dat (.int (g : Int)))) (some (.dat (.int (l : Int)))) none l 0 f4 (by omega)
  rw [Nat.zero_add] at q2
  have q2 : forF (gDat 4) L2_law (rngD 0 (l : Int).toNat) _ = _ := q2
  have sm2 := small_nat' (n := l) (by omega)
  have p1 := told_placeE (place_er (past := hist2 m g l) (ps := gon m g l) (k := .s) (p := ((0, 0, 9, 0), 0)) (reason_many (by rw [gon_len]; simp; omega)) mk_rsn)
  have p1 : F__law_told (some (FLD (gon m g l) (hist2 m g l))) [.int 0, .str "S", .tuple [.int 0, .int 0, .int 9, .int 0, .int 0]] = some (.da (T3 "too many pieces"), some (FLD (gon m g l) (hist2 m g l))) := p1
  have p2 := told_placeE (place_er (past := hist2 m g l) (ps := gon m g l) (k := .h) (p := (((g : Int), 0, 0, 0), 0)) (reason_many (by rw [gon_len]; simp; omega)) mk_rsn)
  have p2 : F__law_told (some (FLD (gon m g l) (hist2 m g l))) [.int 0, .str "H", .tuple [.int (g : Int), .int 0, .int 0, .int 0, .int 0]] = some (.da (T3 "too many pieces"), some (FLD (gon m g l) (hist2 m g l))) := p2
  -- an end that is not there
  have ag : addD (.int (g : Int)) (.int 1) = some (.int ((g : Int) + 1)) := rfl
  obtain ⟨r, hr⟩ : ∃ r : Nat, ((g : Int) + 1) % 20 = (r : Int) := ⟨(((g : Int) + 1) % 20).toNat, by omega⟩
  have mg : modD (.int ((g : Int) + 1)) (.int 20) = some (.int (r : Int)) := by
    have c : decide ((0 : Int) < 20) = true := by decide
    show (if decide ((0 : Int) < 20) then some (PyData.int (((g : Int) + 1) % 20)) else none) = _
    rw [if_pos c, hr]
  have atr : (gon m g l)[r]? = some (hp r) := by
    unfold gon
    rw [List.getElem?_append_left (by rw [List.length_set, rows_len]; omega), List.getElem?_set_ne (by omega)]
    exact rows_at (by omega)
  have j3 := told_joinE (joined_end (past := hist2 m g l) (e := 2) atr (by simp [ends, ahd]))
  have t4 := t3_ne "no such end"
  have lay := layout_ok (gon m g l) (hist2 m g l)
  have ll : lenD (.tuple ((gon m g l).map pcD)) = some (.int 24) := by
    show some (PyData.int (((gon m g l).map pcD).length : Int)) = _
    rw [List.length_map, gon_len, hl]
    rfl
  have n24 : neD (.int 24) (.int 24) = some (.bool false) := rfl
  -- all is undone
  obtain ⟨f4'', q3⟩ := undos_run s (bx ds (0 + 1 + 1)) m g (some (.dat (.int (g : Int)))) (some (.dat (.int (l : Int)))) (some (.dat (.int (r : Int)))) l 0 f4'
  have q3 : forF (gDat 4) L3_law (rngD 0 ((l + 1 : Nat) : Int).toNat) _ = _ := q3
  have sm3 := small_nat' (n := l + 1) (by omega)
  have lay2 := layout_ok (rows m) (hist m)
  have ll2 : lenD (.tuple ((rows m).map pcD)) = some (.int (m : Int)) := by
    show some (PyData.int (((rows m).map pcD).length : Int)) = _
    rw [List.length_map, rows_len]
  have nm : neD (.int (m : Int)) (.int (m : Int)) = some (.bool false) := by
    show some (PyData.bool (!decide ((m : Int) = m))) = _
    rw [decide_eq_true rfl]
    rfl
  have inn : inX .none (.tuple ((rows m).map pcD)) = some (.bool false) := by
    have h : inX .none (.tuple ((rows m).map pcD)) = if SeqAt.shaped .none && SeqAt.shaped (.list ((rows m).map pcD)) then some (.bool (((rows m).map pcD).any fun z => PyData.eqv z .none)) else none := rfl
    rw [h, rows_shaped m (by omega), rows_noNone m]
    rfl
  -- the last one
  have fin : ∃ s : Str, ixX (.list [.str "ends overlap", .str "too many pieces"]) (.int (if m = 24 then 1 else 0)) = some (.str s) ∧ F__law_told (some (FLD (rows m) (hist m))) [.int 0, .str "H", .tuple [.int 3, .int 0, .int 0, .int 0, .int 0]] = some (.da (T3 s), some (FLD (rows m) (hist m))) ∧ eqD (T3 s) (.list [.bool true, .str s]) = some (.bool true) := by
    by_cases c : m = 24
    · rw [if_pos c]
      exact ⟨"too many pieces", rfl, told_placeE (place_er (k := .h) (p := ((3, 0, 0, 0), 0)) (reason_many (by rw [rows_len]; simp; omega)) mk_rsn), t3_eq _⟩
    · rw [if_neg c]
      have z : (endsA (rows m ++ [hp 3])).length < 64 := by
        rw [endsA_app, rows_xs, List.length_append, endsA_hq]
        show 2 * (xs0 m).length + (endsA ([(0, 3)].map hq)).length < 64
        rw [endsA_hq]
        simp
        omega
      have r := reason_few (ps := rows m) (qs := [hp 3]) (by rw [rows_len]; simp; omega) z
      have nd : ¬ (endsA (rows m ++ [hp 3])).Nodup := by
        rw [endsA_app, List.nodup_append]
        rintro ⟨_, _, h⟩
        refine h ((((3 : Nat) : Int), 0, 0, 0), 4) ?_ ((((3 : Nat) : Int), 0, 0, 0), 4) ?_ rfl
        · unfold endsA
          rw [List.mem_flatMap]
          refine ⟨hp 3, List.mem_map.mpr ⟨3, List.mem_range.mpr (by omega), rfl⟩, ?_⟩
          rw [ends_hq]
          exact List.mem_cons_self
        · show _ ∈ endsP (hp 3) ++ []
          rw [ends_hq]
          exact List.mem_cons_self
      rw [if_neg nd] at r
      exact ⟨"ends overlap", rfl, told_placeE (place_er (k := .h) (p := ((3, 0, 0, 0), 0)) r mk_rsn), t3_eq _⟩
  obtain ⟨w, w1, w2, w3⟩ := fin
  have e24 : f1 intD (f2n eqD 3 (fC (.int 24))) (LF s (bx ds (0 + 1 + 1)) m (FLD (rows m) (hist m)) f4'' (some (.dat (.int (g : Int)))) (some (.dat (.int (l : Int)))) (some (.dat (.int (r : Int))))) = some (.int (if m = 24 then 1 else 0), LF s (bx ds (0 + 1 + 1)) m (FLD (rows m) (hist m)) f4'' (some (.dat (.int (g : Int)))) (some (.dat (.int (l : Int)))) (some (.dat (.int (r : Int))))) := by
    by_cases c : m = 24
    · have e : eqD (.int (m : Int)) (.int 24) = some (.bool true) := by
        show some (PyData.bool (decide ((m : Int) = 24))) = _
        rw [decide_eq_true (by omega)]
      have i : intD (.bool true) = some (.int 1) := rfl
      rw [if_pos c]
      walk_at "ev"
    · have e : eqD (.int (m : Int)) (.int 24) = some (.bool false) := by
        show some (PyData.bool (decide ((m : Int) = 24))) = _
        rw [decide_eq_false (by omega)]
      have i : intD (.bool false) = some (.int 0) := rfl
      rw [if_neg c]
      walk_at "ev"
  refine ⟨[], ?_⟩
  unfold F_law B_law
  walk_at "run"
  refine q_seq (γ1 := [some (.dat s), some (.ow false (.lst (bx ds 0))), none, none, none, none, none, none]) (by walk_at "st") ?_
  refine q_seq (γ1 := [some (.dat s), some (.ow false (.lst (bx ds 0))), some (.ow false (FLD [] [])), none, none, none, none, none]) (by walk_at "st") ?_
  walk_at "q"
  walk_at "q"
  walk_at "q"
  walk_at "qiff"
  walk_at "q"
  walk_at "qiff"
  walk_at "q"
  walk_at "qiff"
  walk_at "q"
  walk_at "qiff"
  walk_at "q"
  walk_at "qiff"
  walk_at "st"
/-! ### what the top has written -/
theorem all_mk {l : PySem.W.OpenLaw} {w : World} {K : PySem.W.Frag} {h : Heap} {mg : Str → Option Value} {fa : Addr} (KX : K.In h) (G : h.Ns mainGlobals mg) (hfa : mg "law" = some (.ref fa))
    {od__law_draw an__law_draw : Option Addr} {sl__law_draw : Array (Option Value)} {oc__law_draw kV__law_draw dc__law_draw pm__law_draw cd__law_draw ct__law_draw : Value} {f__law_draw : Addr} {od__law_cell an__law_cell : Option Addr} {sl__law_cell : Array (Option Value)} {oc__law_cell kV__law_cell dc__law_cell pm__law_cell cd__law_cell ct__law_cell : Value} {f__law_cell : Addr} {od__law_digits an__law_digits : Option Addr} {sl__law_digits : Array (Option Value)} {oc__law_digits kV__law_digits dc__law_digits pm__law_digits cd__law_digits ct__law_digits : Value} {f__law_digits : Addr} {od_back an_back : Option Addr} {sl_back : Array (Option Value)} {oc_back kV_back dc_back pm_back cd_back ct_back : Value} {f_back : Addr} {od_moved an_moved : Option Addr} {sl_moved : Array (Option Value)} {oc_moved kV_moved dc_moved pm_moved cd_moved ct_moved : Value} {f_moved : Addr} {od_turned an_turned : Option Addr} {sl_turned : Array (Option Value)} {oc_turned kV_turned dc_turned pm_turned cd_turned ct_turned : Value} {f_turned : Addr} {od_laid an_laid : Option Addr} {sl_laid : Array (Option Value)} {oc_laid kV_laid dc_laid pm_laid cd_laid ct_laid : Value} {f_laid : Addr} {od_ends_of an_ends_of : Option Addr} {sl_ends_of : Array (Option Value)} {oc_ends_of kV_ends_of dc_ends_of pm_ends_of cd_ends_of ct_ends_of : Value} {f_ends_of : Addr} {od_ends_in an_ends_in : Option Addr} {sl_ends_in : Array (Option Value)} {oc_ends_in kV_ends_in dc_ends_in pm_ends_in cd_ends_in ct_ends_in : Value} {f_ends_in : Addr} {od_reason_against an_reason_against : Option Addr} {sl_reason_against : Array (Option Value)} {oc_reason_against kV_reason_against dc_reason_against pm_reason_against cd_reason_against ct_reason_against : Value} {f_reason_against : Addr} {od_joints_in an_joints_in : Option Addr} {sl_joints_in : Array (Option Value)} {oc_joints_in kV_joints_in dc_joints_in pm_joints_in cd_joints_in ct_joints_in : Value} {f_joints_in : Addr} {od_lead an_lead : Option Addr} {sl_lead : Array (Option Value)} {oc_lead kV_lead dc_lead pm_lead cd_lead ct_lead : Value} {f_lead : Addr} {od_pieces_along an_pieces_along : Option Addr} {sl_pieces_along : Array (Option Value)} {oc_pieces_along kV_pieces_along dc_pieces_along pm_pieces_along cd_pieces_along ct_pieces_along : Value} {f_pieces_along : Addr} {od__law_told an__law_told : Option Addr} {sl__law_told : Array (Option Value)} {oc__law_told kV__law_told dc__law_told pm__law_told cd__law_told ct__law_told : Value} {f__law_told : Addr} {od_law an_law : Option Addr} {sl_law : Array (Option Value)} {oc_law kV_law dc_law pm_law cd_law ct_law : Value} {f_law : Addr} {u_ENDS_AHEAD : Value} {u_LAID_FORWARDS : Value} {u_LEADS : Value} {u_MOST_NUMBERS : Value}{od_Layout____init__ an_Layout____init__ : Option Addr} {sl_Layout____init__ : Array (Option Value)} {oc_Layout____init__ kV_Layout____init__ dc_Layout____init__ pm_Layout____init__ cd_Layout____init__ ct_Layout____init__ : Value} {f_Layout____init__ : Addr} {od_Layout___put an_Layout___put : Option Addr} {sl_Layout___put : Array (Option Value)} {oc_Layout___put kV_Layout___put dc_Layout___put pm_Layout___put cd_Layout___put ct_Layout___put : Value} {f_Layout___put : Addr} {od_Layout__place an_Layout__place : Option Addr} {sl_Layout__place : Array (Option Value)} {oc_Layout__place kV_Layout__place dc_Layout__place pm_Layout__place cd_Layout__place ct_Layout__place : Value} {f_Layout__place : Addr} {od_Layout___refuse_no_piece an_Layout___refuse_no_piece : Option Addr} {sl_Layout___refuse_no_piece : Array (Option Value)} {oc_Layout___refuse_no_piece kV_Layout___refuse_no_piece dc_Layout___refuse_no_piece pm_Layout___refuse_no_piece cd_Layout___refuse_no_piece ct_Layout___refuse_no_piece : Value} {f_Layout___refuse_no_piece : Addr} {od_Layout__remove an_Layout__remove : Option Addr} {sl_Layout__remove : Array (Option Value)} {oc_Layout__remove kV_Layout__remove dc_Layout__remove pm_Layout__remove cd_Layout__remove ct_Layout__remove : Value} {f_Layout__remove : Addr} {od_Layout__joined an_Layout__joined : Option Addr} {sl_Layout__joined : Array (Option Value)} {oc_Layout__joined kV_Layout__joined dc_Layout__joined pm_Layout__joined cd_Layout__joined ct_Layout__joined : Value} {f_Layout__joined : Addr} {od_Layout__lay an_Layout__lay : Option Addr} {sl_Layout__lay : Array (Option Value)} {oc_Layout__lay kV_Layout__lay dc_Layout__lay pm_Layout__lay cd_Layout__lay ct_Layout__lay : Value} {f_Layout__lay : Addr} {od_Layout__undo an_Layout__undo : Option Addr} {sl_Layout__undo : Array (Option Value)} {oc_Layout__undo kV_Layout__undo dc_Layout__undo pm_Layout__undo cd_Layout__undo ct_Layout__undo : Value} {f_Layout__undo : Addr} {od_Layout__layout an_Layout__layout : Option Addr} {sl_Layout__layout : Array (Option Value)} {oc_Layout__layout kV_Layout__layout dc_Layout__layout pm_Layout__layout cd_Layout__layout ct_Layout__layout : Value} {f_Layout__layout : Addr} {C_Layout : Addr} {od_BadPiece an_BadPiece : Option Addr} {sl_BadPiece : Array (Option Value)} {oc_BadPiece kV_BadPiece dc_BadPiece pm_BadPiece ct_BadPiece : Value} {f_BadPiece k_BadPiece j_BadPiece C_BadPiece : Addr}
    (a__law_draw : PySem.W.nsIn K mainGlobals "_law_draw" = some (some (.ref f__law_draw))) (l__law_draw : K.lookup f__law_draw = some ⟨oc__law_draw, od__law_draw, .func (PySem.W.fnOf "_law_draw" "_law_draw" (defArgs s__law_draw) (defBody s__law_draw) (defScope s__law_draw) .none kV__law_draw dc__law_draw pm__law_draw an__law_draw cd__law_draw ct__law_draw), sl__law_draw⟩) (c__law_draw : PySem.W.codeIn K cd__law_draw "_law_draw" = true) (k__law_draw : PySem.W.keepIn K (.ref f__law_draw) = true)
    (a__law_cell : PySem.W.nsIn K mainGlobals "_law_cell" = some (some (.ref f__law_cell))) (l__law_cell : K.lookup f__law_cell = some ⟨oc__law_cell, od__law_cell, .func (PySem.W.fnOf "_law_cell" "_law_cell" (defArgs s__law_cell) (defBody s__law_cell) (defScope s__law_cell) .none kV__law_cell dc__law_cell pm__law_cell an__law_cell cd__law_cell ct__law_cell), sl__law_cell⟩) (c__law_cell : PySem.W.codeIn K cd__law_cell "_law_cell" = true) (k__law_cell : PySem.W.keepIn K (.ref f__law_cell) = true)
    (a__law_digits : PySem.W.nsIn K mainGlobals "_law_digits" = some (some (.ref f__law_digits))) (l__law_digits : K.lookup f__law_digits = some ⟨oc__law_digits, od__law_digits, .func (PySem.W.fnOf "_law_digits" "_law_digits" (defArgs s__law_digits) (defBody s__law_digits) (defScope s__law_digits) .none kV__law_digits dc__law_digits pm__law_digits an__law_digits cd__law_digits ct__law_digits), sl__law_digits⟩) (c__law_digits : PySem.W.codeIn K cd__law_digits "_law_digits" = true) (k__law_digits : PySem.W.keepIn K (.ref f__law_digits) = true)
    (a_back : PySem.W.nsIn K mainGlobals "back" = some (some (.ref f_back))) (l_back : K.lookup f_back = some ⟨oc_back, od_back, .func (PySem.W.fnOf "back" "back" (defArgs s_back) (defBody s_back) (defScope s_back) .none kV_back dc_back pm_back an_back cd_back ct_back), sl_back⟩) (c_back : PySem.W.codeIn K cd_back "back" = true) (k_back : PySem.W.keepIn K (.ref f_back) = true)
    (a_moved : PySem.W.nsIn K mainGlobals "moved" = some (some (.ref f_moved))) (l_moved : K.lookup f_moved = some ⟨oc_moved, od_moved, .func (PySem.W.fnOf "moved" "moved" (defArgs s_moved) (defBody s_moved) (defScope s_moved) .none kV_moved dc_moved pm_moved an_moved cd_moved ct_moved), sl_moved⟩) (c_moved : PySem.W.codeIn K cd_moved "moved" = true) (k_moved : PySem.W.keepIn K (.ref f_moved) = true)
    (a_turned : PySem.W.nsIn K mainGlobals "turned" = some (some (.ref f_turned))) (l_turned : K.lookup f_turned = some ⟨oc_turned, od_turned, .func (PySem.W.fnOf "turned" "turned" (defArgs s_turned) (defBody s_turned) (defScope s_turned) .none kV_turned dc_turned pm_turned an_turned cd_turned ct_turned), sl_turned⟩) (c_turned : PySem.W.codeIn K cd_turned "turned" = true) (k_turned : PySem.W.keepIn K (.ref f_turned) = true)
    (a_laid : PySem.W.nsIn K mainGlobals "laid" = some (some (.ref f_laid))) (l_laid : K.lookup f_laid = some ⟨oc_laid, od_laid, .func (PySem.W.fnOf "laid" "laid" (defArgs s_laid) (defBody s_laid) (defScope s_laid) .none kV_laid dc_laid pm_laid an_laid cd_laid ct_laid), sl_laid⟩) (c_laid : PySem.W.codeIn K cd_laid "laid" = true) (k_laid : PySem.W.keepIn K (.ref f_laid) = true)
    (a_ends_of : PySem.W.nsIn K mainGlobals "ends_of" = some (some (.ref f_ends_of))) (l_ends_of : K.lookup f_ends_of = some ⟨oc_ends_of, od_ends_of, .func (PySem.W.fnOf "ends_of" "ends_of" (defArgs s_ends_of) (defBody s_ends_of) (defScope s_ends_of) .none kV_ends_of dc_ends_of pm_ends_of an_ends_of cd_ends_of ct_ends_of), sl_ends_of⟩) (c_ends_of : PySem.W.codeIn K cd_ends_of "ends_of" = true) (k_ends_of : PySem.W.keepIn K (.ref f_ends_of) = true)
    (a_ends_in : PySem.W.nsIn K mainGlobals "ends_in" = some (some (.ref f_ends_in))) (l_ends_in : K.lookup f_ends_in = some ⟨oc_ends_in, od_ends_in, .func (PySem.W.fnOf "ends_in" "ends_in" (defArgs s_ends_in) (defBody s_ends_in) (defScope s_ends_in) .none kV_ends_in dc_ends_in pm_ends_in an_ends_in cd_ends_in ct_ends_in), sl_ends_in⟩) (c_ends_in : PySem.W.codeIn K cd_ends_in "ends_in" = true) (k_ends_in : PySem.W.keepIn K (.ref f_ends_in) = true)
    (a_reason_against : PySem.W.nsIn K mainGlobals "reason_against" = some (some (.ref f_reason_against))) (l_reason_against : K.lookup f_reason_against = some ⟨oc_reason_against, od_reason_against, .func (PySem.W.fnOf "reason_against" "reason_against" (defArgs s_reason_against) (defBody s_reason_against) (defScope s_reason_against) .none kV_reason_against dc_reason_against pm_reason_against an_reason_against cd_reason_against ct_reason_against), sl_reason_against⟩) (c_reason_against : PySem.W.codeIn K cd_reason_against "reason_against" = true) (k_reason_against : PySem.W.keepIn K (.ref f_reason_against) = true)
    (a_joints_in : PySem.W.nsIn K mainGlobals "joints_in" = some (some (.ref f_joints_in))) (l_joints_in : K.lookup f_joints_in = some ⟨oc_joints_in, od_joints_in, .func (PySem.W.fnOf "joints_in" "joints_in" (defArgs s_joints_in) (defBody s_joints_in) (defScope s_joints_in) .none kV_joints_in dc_joints_in pm_joints_in an_joints_in cd_joints_in ct_joints_in), sl_joints_in⟩) (c_joints_in : PySem.W.codeIn K cd_joints_in "joints_in" = true) (k_joints_in : PySem.W.keepIn K (.ref f_joints_in) = true)
    (a_lead : PySem.W.nsIn K mainGlobals "lead" = some (some (.ref f_lead))) (l_lead : K.lookup f_lead = some ⟨oc_lead, od_lead, .func (PySem.W.fnOf "lead" "lead" (defArgs s_lead) (defBody s_lead) (defScope s_lead) .none kV_lead dc_lead pm_lead an_lead cd_lead ct_lead), sl_lead⟩) (c_lead : PySem.W.codeIn K cd_lead "lead" = true) (k_lead : PySem.W.keepIn K (.ref f_lead) = true)
    (a_pieces_along : PySem.W.nsIn K mainGlobals "pieces_along" = some (some (.ref f_pieces_along))) (l_pieces_along : K.lookup f_pieces_along = some ⟨oc_pieces_along, od_pieces_along, .func (PySem.W.fnOf "pieces_along" "pieces_along" (defArgs s_pieces_along) (defBody s_pieces_along) (defScope s_pieces_along) .none kV_pieces_along dc_pieces_along pm_pieces_along an_pieces_along cd_pieces_along ct_pieces_along), sl_pieces_along⟩) (c_pieces_along : PySem.W.codeIn K cd_pieces_along "pieces_along" = true) (k_pieces_along : PySem.W.keepIn K (.ref f_pieces_along) = true)
    (a__law_told : PySem.W.nsIn K mainGlobals "_law_told" = some (some (.ref f__law_told))) (l__law_told : K.lookup f__law_told = some ⟨oc__law_told, od__law_told, .func (PySem.W.fnOf "_law_told" "_law_told" (defArgs s__law_told) (defBody s__law_told) (defScope s__law_told) .none kV__law_told dc__law_told pm__law_told an__law_told cd__law_told ct__law_told), sl__law_told⟩) (c__law_told : PySem.W.codeIn K cd__law_told "_law_told" = true) (k__law_told : PySem.W.keepIn K (.ref f__law_told) = true)
    (a_law : PySem.W.nsIn K mainGlobals "law" = some (some (.ref f_law))) (l_law : K.lookup f_law = some ⟨oc_law, od_law, .func (PySem.W.fnOf "law" "law" (defArgs s_law) (defBody s_law) (defScope s_law) .none kV_law dc_law pm_law an_law cd_law ct_law), sl_law⟩) (c_law : PySem.W.codeIn K cd_law "law" = true) (k_law : PySem.W.keepIn K (.ref f_law) = true)
    (z_ValueError : PySem.W.nsIn K mainGlobals "ValueError" = some none) (z_enumerate : PySem.W.nsIn K mainGlobals "enumerate" = some none) (z_int : PySem.W.nsIn K mainGlobals "int" = some none) (z_isinstance : PySem.W.nsIn K mainGlobals "isinstance" = some none) (z_len : PySem.W.nsIn K mainGlobals "len" = some none) (z_list : PySem.W.nsIn K mainGlobals "list" = some none) (z_range : PySem.W.nsIn K mainGlobals "range" = some none) (z_set : PySem.W.nsIn K mainGlobals "set" = some none) (z_super : PySem.W.nsIn K mainGlobals "super" = some none) (z_tuple : PySem.W.nsIn K mainGlobals "tuple" = some none) (z_zip : PySem.W.nsIn K mainGlobals "zip" = some none)
    (a_ENDS_AHEAD : PySem.W.nsIn K mainGlobals "ENDS_AHEAD" = some (some u_ENDS_AHEAD)) (V_ENDS_AHEAD : Tab K w u_ENDS_AHEAD c_ENDS_AHEAD)
    (a_LAID_FORWARDS : PySem.W.nsIn K mainGlobals "LAID_FORWARDS" = some (some u_LAID_FORWARDS)) (V_LAID_FORWARDS : Tab K w u_LAID_FORWARDS c_LAID_FORWARDS)
    (a_LEADS : PySem.W.nsIn K mainGlobals "LEADS" = some (some u_LEADS)) (V_LEADS : Tab K w u_LEADS c_LEADS)
    (a_MOST_NUMBERS : PySem.W.nsIn K mainGlobals "MOST_NUMBERS" = some (some u_MOST_NUMBERS)) (V_MOST_NUMBERS : VD K u_MOST_NUMBERS c_MOST_NUMBERS)
    (a_Layout : PySem.W.nsIn K mainGlobals "Layout" = some (some (.ref C_Layout)))
    (i_Layout____init__ : PySem.W.findIn K (.ref C_Layout) "__init__" = some (some (.ref f_Layout____init__))) (l_Layout____init__ : K.lookup f_Layout____init__ = some ⟨oc_Layout____init__, od_Layout____init__, .func (PySem.W.fnOf "__init__" "Layout.__init__" (defArgs s_Layout____init__) (defBody s_Layout____init__) (defScope s_Layout____init__) .none kV_Layout____init__ dc_Layout____init__ pm_Layout____init__ an_Layout____init__ cd_Layout____init__ ct_Layout____init__), sl_Layout____init__⟩) (c_Layout____init__ : PySem.W.codeIn K cd_Layout____init__ "Layout.__init__" = true) (k_Layout____init__ : PySem.W.keepIn K (.ref f_Layout____init__) = true) (b_Layout____init__ : mkX K "Layout" f_Layout____init__ = true)
    (i_Layout___put : PySem.W.findIn K (.ref C_Layout) "_put" = some (some (.ref f_Layout___put))) (l_Layout___put : K.lookup f_Layout___put = some ⟨oc_Layout___put, od_Layout___put, .func (PySem.W.fnOf "_put" "Layout._put" (defArgs s_Layout___put) (defBody s_Layout___put) (defScope s_Layout___put) .none kV_Layout___put dc_Layout___put pm_Layout___put an_Layout___put cd_Layout___put ct_Layout___put), sl_Layout___put⟩) (c_Layout___put : PySem.W.codeIn K cd_Layout___put "Layout._put" = true) (k_Layout___put : PySem.W.keepIn K (.ref f_Layout___put) = true) (b_Layout___put : methB K "Layout" "_put" f_Layout___put = true)
    (i_Layout__place : PySem.W.findIn K (.ref C_Layout) "place" = some (some (.ref f_Layout__place))) (l_Layout__place : K.lookup f_Layout__place = some ⟨oc_Layout__place, od_Layout__place, .func (PySem.W.fnOf "place" "Layout.place" (defArgs s_Layout__place) (defBody s_Layout__place) (defScope s_Layout__place) .none kV_Layout__place dc_Layout__place pm_Layout__place an_Layout__place cd_Layout__place ct_Layout__place), sl_Layout__place⟩) (c_Layout__place : PySem.W.codeIn K cd_Layout__place "Layout.place" = true) (k_Layout__place : PySem.W.keepIn K (.ref f_Layout__place) = true) (b_Layout__place : methB K "Layout" "place" f_Layout__place = true)
    (i_Layout___refuse_no_piece : PySem.W.findIn K (.ref C_Layout) "_refuse_no_piece" = some (some (.ref f_Layout___refuse_no_piece))) (l_Layout___refuse_no_piece : K.lookup f_Layout___refuse_no_piece = some ⟨oc_Layout___refuse_no_piece, od_Layout___refuse_no_piece, .func (PySem.W.fnOf "_refuse_no_piece" "Layout._refuse_no_piece" (defArgs s_Layout___refuse_no_piece) (defBody s_Layout___refuse_no_piece) (defScope s_Layout___refuse_no_piece) .none kV_Layout___refuse_no_piece dc_Layout___refuse_no_piece pm_Layout___refuse_no_piece an_Layout___refuse_no_piece cd_Layout___refuse_no_piece ct_Layout___refuse_no_piece), sl_Layout___refuse_no_piece⟩) (c_Layout___refuse_no_piece : PySem.W.codeIn K cd_Layout___refuse_no_piece "Layout._refuse_no_piece" = true) (k_Layout___refuse_no_piece : PySem.W.keepIn K (.ref f_Layout___refuse_no_piece) = true) (b_Layout___refuse_no_piece : methB K "Layout" "_refuse_no_piece" f_Layout___refuse_no_piece = true)
    (i_Layout__remove : PySem.W.findIn K (.ref C_Layout) "remove" = some (some (.ref f_Layout__remove))) (l_Layout__remove : K.lookup f_Layout__remove = some ⟨oc_Layout__remove, od_Layout__remove, .func (PySem.W.fnOf "remove" "Layout.remove" (defArgs s_Layout__remove) (defBody s_Layout__remove) (defScope s_Layout__remove) .none kV_Layout__remove dc_Layout__remove pm_Layout__remove an_Layout__remove cd_Layout__remove ct_Layout__remove), sl_Layout__remove⟩) (c_Layout__remove : PySem.W.codeIn K cd_Layout__remove "Layout.remove" = true) (k_Layout__remove : PySem.W.keepIn K (.ref f_Layout__remove) = true) (b_Layout__remove : methB K "Layout" "remove" f_Layout__remove = true)
    (i_Layout__joined : PySem.W.findIn K (.ref C_Layout) "joined" = some (some (.ref f_Layout__joined))) (l_Layout__joined : K.lookup f_Layout__joined = some ⟨oc_Layout__joined, od_Layout__joined, .func (PySem.W.fnOf "joined" "Layout.joined" (defArgs s_Layout__joined) (defBody s_Layout__joined) (defScope s_Layout__joined) .none kV_Layout__joined dc_Layout__joined pm_Layout__joined an_Layout__joined cd_Layout__joined ct_Layout__joined), sl_Layout__joined⟩) (c_Layout__joined : PySem.W.codeIn K cd_Layout__joined "Layout.joined" = true) (k_Layout__joined : PySem.W.keepIn K (.ref f_Layout__joined) = true) (b_Layout__joined : methB K "Layout" "joined" f_Layout__joined = true)
    (i_Layout__lay : PySem.W.findIn K (.ref C_Layout) "lay" = some (some (.ref f_Layout__lay))) (l_Layout__lay : K.lookup f_Layout__lay = some ⟨oc_Layout__lay, od_Layout__lay, .func (PySem.W.fnOf "lay" "Layout.lay" (defArgs s_Layout__lay) (defBody s_Layout__lay) (defScope s_Layout__lay) .none kV_Layout__lay dc_Layout__lay pm_Layout__lay an_Layout__lay cd_Layout__lay ct_Layout__lay), sl_Layout__lay⟩) (c_Layout__lay : PySem.W.codeIn K cd_Layout__lay "Layout.lay" = true) (k_Layout__lay : PySem.W.keepIn K (.ref f_Layout__lay) = true) (b_Layout__lay : methB K "Layout" "lay" f_Layout__lay = true)
    (i_Layout__undo : PySem.W.findIn K (.ref C_Layout) "undo" = some (some (.ref f_Layout__undo))) (l_Layout__undo : K.lookup f_Layout__undo = some ⟨oc_Layout__undo, od_Layout__undo, .func (PySem.W.fnOf "undo" "Layout.undo" (defArgs s_Layout__undo) (defBody s_Layout__undo) (defScope s_Layout__undo) .none kV_Layout__undo dc_Layout__undo pm_Layout__undo an_Layout__undo cd_Layout__undo ct_Layout__undo), sl_Layout__undo⟩) (c_Layout__undo : PySem.W.codeIn K cd_Layout__undo "Layout.undo" = true) (k_Layout__undo : PySem.W.keepIn K (.ref f_Layout__undo) = true) (b_Layout__undo : methB K "Layout" "undo" f_Layout__undo = true)
    (i_Layout__layout : PySem.W.findIn K (.ref C_Layout) "layout" = some (some (.ref f_Layout__layout))) (l_Layout__layout : K.lookup f_Layout__layout = some ⟨oc_Layout__layout, od_Layout__layout, .func (PySem.W.fnOf "layout" "Layout.layout" (defArgs s_Layout__layout) (defBody s_Layout__layout) (defScope s_Layout__layout) .none kV_Layout__layout dc_Layout__layout pm_Layout__layout an_Layout__layout cd_Layout__layout ct_Layout__layout), sl_Layout__layout⟩) (c_Layout__layout : PySem.W.codeIn K cd_Layout__layout "Layout.layout" = true) (k_Layout__layout : PySem.W.keepIn K (.ref f_Layout__layout) = true) (b_Layout__layout : methB K "Layout" "layout" f_Layout__layout = true)
    (b_Layout__past : faB K "Layout" "_past" = true)
    (b_Layout__pieces : faB K "Layout" "_pieces" = true)
    (a_BadPiece : PySem.W.nsIn K mainGlobals "BadPiece" = some (some (.ref C_BadPiece))) (i_BadPiece : PySem.W.findIn K (.ref C_BadPiece) "__init__" = some (some (.ref f_BadPiece))) (l_BadPiece : K.lookup f_BadPiece = some ⟨oc_BadPiece, od_BadPiece, .func (PySem.W.ksFn "__init__" "BadPiece.__init__" (defArgs (methS (topS 3) 0)) (defBody (methS (topS 3) 0)) (defScope (methS (topS 3) 0)) .none kV_BadPiece dc_BadPiece pm_BadPiece an_BadPiece (.ref k_BadPiece) ct_BadPiece j_BadPiece), sl_BadPiece⟩) (c_BadPiece : PySem.W.codeIn K (.ref k_BadPiece) "BadPiece.__init__" = true) (b_BadPiece : excB l.prog K C_BadPiece f_BadPiece k_BadPiece j_BadPiece "reason" = true)
    (bE_RailError : excsB K "RailError" [("BadPiece", true)] = true)
    (bI_BadPiece : isisB K "BadPiece" [("BadPiece", true)] = true)
    (bJ_ValueError : isiB K (.type "ValueError") [("BadPiece", true)] = true)
    (bL_reason : fldB K "reason" ["BadPiece"] = true) :
    ∃ fd : FuncData, (∀ (s : Shared) (v : Value), BindsTo s fd ⟨[v], []⟩ [("script", v)]) ∧ ∀ base : Heap, K.In base → base.Ns mainGlobals mg → FnG l.prog w K mg base 9 fa fd ["script"] false F_law := by
  have e := hfa.symm.trans (PySem.W.mg_of KX G a_law)
  cases e
  have y_ValueError := PySem.W.mg_none_of KX G z_ValueError
  have y_enumerate := PySem.W.mg_none_of KX G z_enumerate
  have y_int := PySem.W.mg_none_of KX G z_int
  have y_isinstance := PySem.W.mg_none_of KX G z_isinstance
  have y_len := PySem.W.mg_none_of KX G z_len
  have y_list := PySem.W.mg_none_of KX G z_list
  have y_range := PySem.W.mg_none_of KX G z_range
  have y_set := PySem.W.mg_none_of KX G z_set
  have y_super := PySem.W.mg_none_of KX G z_super
  have y_tuple := PySem.W.mg_none_of KX G z_tuple
  have y_zip := PySem.W.mg_none_of KX G z_zip
  refine ⟨PySem.W.fnOf "law" "law" (defArgs s_law) (defBody s_law) (defScope s_law) .none kV_law dc_law pm_law an_law cd_law ct_law, fun s v => .of_eq rfl, fun base _ _ => ?_⟩
  have X_BadPiece : ExcN l.prog w K mg base "BadPiece" "reason" := exc_mk (r := "reason") (z := "bad piece: ") KX G y_super a_BadPiece b_BadPiece (by decide +kernel) c_BadPiece l_BadPiece rfl (by decide +kernel) rfl rfl (by decide) (by decide) (fun _ => rfl) (fun us hl => match us, hl with | [_, _], _ => rfl)
  obtain ⟨cE_RailError, gE_RailError, T_RailError⟩ := excsB_ok KX G bE_RailError
  obtain ⟨cI_BadPiece, gI_BadPiece, I_BadPiece⟩ := isisB_ok KX G bI_BadPiece
  have J_ValueError := isiB_ok bJ_ValueError
  have L_reason := fldB_ok bL_reason
  have L_Layout__past := faB_ok b_Layout__past
  have L_Layout__pieces := faB_ok b_Layout__pieces
  have Fu_Layout____init__ := fun_mk (st := s_Layout____init__) l_Layout____init__ c_Layout____init__ k_Layout____init__
  have M_Layout : MakeX l.prog w K mg base "Layout" 1 ["self"] F_Layout____init__ := by
    obtain ⟨C, h1, h2, h3⟩ := mkX_ok KX G b_Layout____init__
    exact ⟨C, _, _, h1, h2, h3, fn_Layout____init__ Fu_Layout____init__   L_Layout__past L_Layout__pieces , Fu_Layout____init__.binds (ps := ["self"]) fun _ _ _ _ _ _ us hl => match us, hl with | [_], _ => rfl⟩
  have Fu__law_draw := fun_mk (st := s__law_draw) l__law_draw c__law_draw k__law_draw
  have C__law_draw : Cal l.prog w K mg base "_law_draw" 1 ["box", "many"] true F__law_draw := ⟨_, _, fn__law_draw Fu__law_draw y_int y_len   , PySem.W.mg_of KX G a__law_draw, k__law_draw, Fu__law_draw.binds (ps := ["box", "many"]) fun _ _ _ _ _ _ us hl => match us, hl with | [_, _], _ => rfl⟩
  have Fu__law_cell := fun_mk (st := s__law_cell) l__law_cell c__law_cell k__law_cell
  have C__law_cell : Cal l.prog w K mg base "_law_cell" 1 ["script", "k"] false F__law_cell := ⟨_, _, fn__law_cell Fu__law_cell y_len   , PySem.W.mg_of KX G a__law_cell, k__law_cell, Fu__law_cell.binds (ps := ["script", "k"]) fun _ _ _ _ _ _ us hl => match us, hl with | [_, _], _ => rfl⟩
  have Fu__law_digits := fun_mk (st := s__law_digits) l__law_digits c__law_digits k__law_digits
  have C__law_digits : Cal l.prog w K mg base "_law_digits" 2 ["script", "first", "last"] false F__law_digits := ⟨_, _, fn__law_digits Fu__law_digits y_int y_range   C__law_cell, PySem.W.mg_of KX G a__law_digits, k__law_digits, Fu__law_digits.binds (ps := ["script", "first", "last"]) fun _ _ _ _ _ _ us hl => match us, hl with | [_, _, _], _ => rfl⟩
  have Fu_back := fun_mk (st := s_back) l_back c_back k_back
  have C_back : Cal l.prog w K mg base "back" 1 ["pose"] false F_back := ⟨_, _, fn_back Fu_back    , PySem.W.mg_of KX G a_back, k_back, Fu_back.binds (ps := ["pose"]) fun _ _ _ _ _ _ us hl => match us, hl with | [_], _ => rfl⟩
  have Fu_moved := fun_mk (st := s_moved) l_moved c_moved k_moved
  have C_moved : Cal l.prog w K mg base "moved" 1 ["position", "other"] false F_moved := ⟨_, _, fn_moved Fu_moved y_tuple y_zip   , PySem.W.mg_of KX G a_moved, k_moved, Fu_moved.binds (ps := ["position", "other"]) fun _ _ _ _ _ _ us hl => match us, hl with | [_, _], _ => rfl⟩
  have Fu_turned := fun_mk (st := s_turned) l_turned c_turned k_turned
  have C_turned : Cal l.prog w K mg base "turned" 1 ["position", "eighths"] false F_turned := ⟨_, _, fn_turned Fu_turned y_range y_tuple   , PySem.W.mg_of KX G a_turned, k_turned, Fu_turned.binds (ps := ["position", "eighths"]) fun _ _ _ _ _ _ us hl => match us, hl with | [_, _], _ => rfl⟩
  have Fu_laid := fun_mk (st := s_laid) l_laid c_laid k_laid
  have C_laid : Cal l.prog w K mg base "laid" 2 ["pose", "other"] false F_laid := ⟨_, _, fn_laid Fu_laid    C_moved C_turned, PySem.W.mg_of KX G a_laid, k_laid, Fu_laid.binds (ps := ["pose", "other"]) fun _ _ _ _ _ _ us hl => match us, hl with | [_, _], _ => rfl⟩
  have Fu_ends_of := fun_mk (st := s_ends_of) l_ends_of c_ends_of k_ends_of
  have C_ends_of : Cal l.prog w K mg base "ends_of" 3 ["kind", "pose"] false F_ends_of := ⟨_, _, fn_ends_of Fu_ends_of y_tuple V_ENDS_AHEAD (PySem.W.mg_of KX G a_ENDS_AHEAD)  C_back C_laid, PySem.W.mg_of KX G a_ends_of, k_ends_of, Fu_ends_of.binds (ps := ["kind", "pose"]) fun _ _ _ _ _ _ us hl => match us, hl with | [_, _], _ => rfl⟩
  have Fu_ends_in := fun_mk (st := s_ends_in) l_ends_in c_ends_in k_ends_in
  have C_ends_in : Cal l.prog w K mg base "ends_in" 4 ["layout"] false F_ends_in := ⟨_, _, fn_ends_in Fu_ends_in y_enumerate y_tuple   C_ends_of, PySem.W.mg_of KX G a_ends_in, k_ends_in, Fu_ends_in.binds (ps := ["layout"]) fun _ _ _ _ _ _ us hl => match us, hl with | [_], _ => rfl⟩
  have Fu_reason_against := fun_mk (st := s_reason_against) l_reason_against c_reason_against k_reason_against
  have C_reason_against : Cal l.prog w K mg base "reason_against" 5 ["layout", "pieces"] false F_reason_against := ⟨_, _, fn_reason_against Fu_reason_against y_len y_list y_set V_MOST_NUMBERS (PySem.W.mg_of KX G a_MOST_NUMBERS)  C_ends_in, PySem.W.mg_of KX G a_reason_against, k_reason_against, Fu_reason_against.binds (ps := ["layout", "pieces"]) fun _ _ _ _ _ _ us hl => match us, hl with | [_, _], _ => rfl⟩
  have Fu_Layout___put := fun_mk (st := s_Layout___put) l_Layout___put c_Layout___put k_Layout___put
  have C_Layout___put : MethX l.prog w K mg base "Layout" "_put" 6 ["self", "pieces"] F_Layout___put := by
    obtain ⟨C, h1, h2, h3⟩ := methB_ok b_Layout___put
    exact ⟨C, _, _, h1, h2, h3, fn_Layout___put Fu_Layout___put y_len y_range y_tuple  X_BadPiece L_Layout__past L_Layout__pieces C_reason_against, Fu_Layout___put.binds (ps := ["self", "pieces"]) fun _ _ _ _ _ _ us hl => match us, hl with | [_, _], _ => rfl⟩
  have Fu_Layout__place := fun_mk (st := s_Layout__place) l_Layout__place c_Layout__place k_Layout__place
  have C_Layout__place : MethX l.prog w K mg base "Layout" "place" 7 ["self", "kind", "pose"] F_Layout__place := by
    obtain ⟨C, h1, h2, h3⟩ := methB_ok b_Layout__place
    exact ⟨C, _, _, h1, h2, h3, fn_Layout__place Fu_Layout__place   C_Layout___put , Fu_Layout__place.binds (ps := ["self", "kind", "pose"]) fun _ _ _ _ _ _ us hl => match us, hl with | [_, _, _], _ => rfl⟩
  have Fu_Layout___refuse_no_piece := fun_mk (st := s_Layout___refuse_no_piece) l_Layout___refuse_no_piece c_Layout___refuse_no_piece k_Layout___refuse_no_piece
  have C_Layout___refuse_no_piece : MethX l.prog w K mg base "Layout" "_refuse_no_piece" 3 ["self", "number"] F_Layout___refuse_no_piece := by
    obtain ⟨C, h1, h2, h3⟩ := methB_ok b_Layout___refuse_no_piece
    exact ⟨C, _, _, h1, h2, h3, fn_Layout___refuse_no_piece Fu_Layout___refuse_no_piece y_len  X_BadPiece L_Layout__pieces , Fu_Layout___refuse_no_piece.binds (ps := ["self", "number"]) fun _ _ _ _ _ _ us hl => match us, hl with | [_, _], _ => rfl⟩
  have Fu_Layout__remove := fun_mk (st := s_Layout__remove) l_Layout__remove c_Layout__remove k_Layout__remove
  have C_Layout__remove : MethX l.prog w K mg base "Layout" "remove" 4 ["self", "number"] F_Layout__remove := by
    obtain ⟨C, h1, h2, h3⟩ := methB_ok b_Layout__remove
    exact ⟨C, _, _, h1, h2, h3, fn_Layout__remove Fu_Layout__remove   L_Layout__past L_Layout__pieces C_Layout___refuse_no_piece , Fu_Layout__remove.binds (ps := ["self", "number"]) fun _ _ _ _ _ _ us hl => match us, hl with | [_, _], _ => rfl⟩
  have Fu_joints_in := fun_mk (st := s_joints_in) l_joints_in c_joints_in k_joints_in
  have C_joints_in : Cal l.prog w K mg base "joints_in" 5 ["layout"] false F_joints_in := ⟨_, _, fn_joints_in Fu_joints_in    C_ends_in C_back, PySem.W.mg_of KX G a_joints_in, k_joints_in, Fu_joints_in.binds (ps := ["layout"]) fun _ _ _ _ _ _ us hl => match us, hl with | [_], _ => rfl⟩
  have Fu_Layout__joined := fun_mk (st := s_Layout__joined) l_Layout__joined c_Layout__joined k_Layout__joined
  have C_Layout__joined : MethX l.prog w K mg base "Layout" "joined" 6 ["self", "number", "end"] F_Layout__joined := by
    obtain ⟨C, h1, h2, h3⟩ := methB_ok b_Layout__joined
    exact ⟨C, _, _, h1, h2, h3, fn_Layout__joined Fu_Layout__joined y_len  X_BadPiece L_Layout__pieces C_Layout___refuse_no_piece C_ends_of C_joints_in, Fu_Layout__joined.binds (ps := ["self", "number", "end"]) fun _ _ _ _ _ _ us hl => match us, hl with | [_, _, _], _ => rfl⟩
  have Fu_lead := fun_mk (st := s_lead) l_lead c_lead k_lead
  have C_lead : Cal l.prog w K mg base "lead" 3 ["pose", "row"] false F_lead := ⟨_, _, fn_lead Fu_lead  V_LEADS (PySem.W.mg_of KX G a_LEADS)  C_laid, PySem.W.mg_of KX G a_lead, k_lead, Fu_lead.binds (ps := ["pose", "row"]) fun _ _ _ _ _ _ us hl => match us, hl with | [_, _], _ => rfl⟩
  have Fu_pieces_along := fun_mk (st := s_pieces_along) l_pieces_along c_pieces_along k_pieces_along
  have C_pieces_along : Cal l.prog w K mg base "pieces_along" 4 ["pose", "row"] false F_pieces_along := ⟨_, _, fn_pieces_along Fu_pieces_along  V_LAID_FORWARDS (PySem.W.mg_of KX G a_LAID_FORWARDS)  C_lead C_back, PySem.W.mg_of KX G a_pieces_along, k_pieces_along, Fu_pieces_along.binds (ps := ["pose", "row"]) fun _ _ _ _ _ _ us hl => match us, hl with | [_, _], _ => rfl⟩
  have Fu_Layout__lay := fun_mk (st := s_Layout__lay) l_Layout__lay c_Layout__lay k_Layout__lay
  have C_Layout__lay : MethX l.prog w K mg base "Layout" "lay" 7 ["self", "pose", "row"] F_Layout__lay := by
    obtain ⟨C, h1, h2, h3⟩ := methB_ok b_Layout__lay
    exact ⟨C, _, _, h1, h2, h3, fn_Layout__lay Fu_Layout__lay   C_Layout___put C_pieces_along, Fu_Layout__lay.binds (ps := ["self", "pose", "row"]) fun _ _ _ _ _ _ us hl => match us, hl with | [_, _, _], _ => rfl⟩
  have Fu__law_told := fun_mk (st := s__law_told) l__law_told c__law_told k__law_told
  have C__law_told : CalX l.prog w K mg base "_law_told" 8 ["floor", "kind", "first", "second"] F__law_told := ⟨_, _, fn__law_told Fu__law_told y_ValueError y_isinstance  gE_RailError T_RailError gI_BadPiece I_BadPiece J_ValueError L_reason C_Layout__place C_Layout__lay C_Layout__joined , PySem.W.mg_of KX G a__law_told, k__law_told, Fu__law_told.binds (ps := ["floor", "kind", "first", "second"]) fun _ _ _ _ _ _ us hl => match us, hl with | [_, _, _, _], _ => rfl⟩
  have Fu_Layout__undo := fun_mk (st := s_Layout__undo) l_Layout__undo c_Layout__undo k_Layout__undo
  have C_Layout__undo : MethX l.prog w K mg base "Layout" "undo" 1 ["self"] F_Layout__undo := by
    obtain ⟨C, h1, h2, h3⟩ := methB_ok b_Layout__undo
    exact ⟨C, _, _, h1, h2, h3, fn_Layout__undo Fu_Layout__undo   L_Layout__past L_Layout__pieces , Fu_Layout__undo.binds (ps := ["self"]) fun _ _ _ _ _ _ us hl => match us, hl with | [_], _ => rfl⟩
  have Fu_Layout__layout := fun_mk (st := s_Layout__layout) l_Layout__layout c_Layout__layout k_Layout__layout
  have C_Layout__layout : MethX l.prog w K mg base "Layout" "layout" 1 ["self"] F_Layout__layout := by
    obtain ⟨C, h1, h2, h3⟩ := methB_ok b_Layout__layout
    exact ⟨C, _, _, h1, h2, h3, fn_Layout__layout Fu_Layout__layout y_tuple  L_Layout__pieces , Fu_Layout__layout.binds (ps := ["self"]) fun _ _ _ _ _ _ us hl => match us, hl with | [_], _ => rfl⟩
  exact fn_law (fun_mk (st := s_law) l_law c_law k_law) y_int y_len y_range  M_Layout C_Layout__place C_Layout__remove C_Layout__layout C_Layout__undo C__law_digits C__law_draw C__law_told
end DN
open PySem PySem.W PyProof.Rows
set_option maxRecDepth 100000 in
set_option maxHeartbeats 0 in
theorem PySem.Challenge.cw_railshut_k09_full_floors_holds : PySem.Challenge.rw_railshut_k09_full_floors.Holds := by
  w_on; o_law; k_head; (case hw => w_witness2)
  k_fill
  refine DN.walkG (l := PySem.Challenge.rw_railshut_k09_full_floors) (n := 63) (k := 9) (x := "script") (F := DN.F_law) rfl (by decide) rfl ⟨rfl, by decide, by decide⟩ (fun w h Y => PySem.W.kIn_of Y) ?G DN.law_true
  case G =>
    intro w mg fa h KX Gm hmg
    refine' DN.all_mk KX Gm hmg ?a__law_draw ?l__law_draw ?c__law_draw ?k__law_draw ?a__law_cell ?l__law_cell ?c__law_cell ?k__law_cell ?a__law_digits ?l__law_digits ?c__law_digits ?k__law_digits ?a_back ?l_back ?c_back ?k_back ?a_moved ?l_moved ?c_moved ?k_moved ?a_turned ?l_turned ?c_turned ?k_turned ?a_laid ?l_laid ?c_laid ?k_laid ?a_ends_of ?l_ends_of ?c_ends_of ?k_ends_of ?a_ends_in ?l_ends_in ?c_ends_in ?k_ends_in ?a_reason_against ?l_reason_against ?c_reason_against ?k_reason_against ?a_joints_in ?l_joints_in ?c_joints_in ?k_joints_in ?a_lead ?l_lead ?c_lead ?k_lead ?a_pieces_along ?l_pieces_along ?c_pieces_along ?k_pieces_along ?a__law_told ?l__law_told ?c__law_told ?k__law_told ?a_law ?l_law ?c_law ?k_law ?z_ValueError ?z_enumerate ?z_int ?z_isinstance ?z_len ?z_list ?z_range ?z_set ?z_super ?z_tuple ?z_zip ?a_ENDS_AHEAD ?V_ENDS_AHEAD ?a_LAID_FORWARDS ?V_LAID_FORWARDS ?a_LEADS ?V_LEADS ?a_MOST_NUMBERS ?V_MOST_NUMBERS ?a_Layout ?i_Layout____init__ ?l_Layout____init__ ?c_Layout____init__ ?k_Layout____init__ ?b_Layout____init__ ?i_Layout___put ?l_Layout___put ?c_Layout___put ?k_Layout___put ?b_Layout___put ?i_Layout__place ?l_Layout__place ?c_Layout__place ?k_Layout__place ?b_Layout__place ?i_Layout___refuse_no_piece ?l_Layout___refuse_no_piece ?c_Layout___refuse_no_piece ?k_Layout___refuse_no_piece ?b_Layout___refuse_no_piece ?i_Layout__remove ?l_Layout__remove ?c_Layout__remove ?k_Layout__remove ?b_Layout__remove ?i_Layout__joined ?l_Layout__joined ?c_Layout__joined ?k_Layout__joined ?b_Layout__joined ?i_Layout__lay ?l_Layout__lay ?c_Layout__lay ?k_Layout__lay ?b_Layout__lay ?i_Layout__undo ?l_Layout__undo ?c_Layout__undo ?k_Layout__undo ?b_Layout__undo ?i_Layout__layout ?l_Layout__layout ?c_Layout__layout ?k_Layout__layout ?b_Layout__layout ?b_Layout__past ?b_Layout__pieces ?a_BadPiece ?i_BadPiece ?l_BadPiece ?c_BadPiece ?b_BadPiece ?bE_RailError ?bI_BadPiece ?bJ_ValueError ?bL_reason
    (case a__law_draw => k_is); (case l__law_draw => k_is); (case c__law_draw => k_is); (case k__law_draw => k_is)
    (case a__law_cell => k_is); (case l__law_cell => k_is); (case c__law_cell => k_is); (case k__law_cell => k_is)
    (case a__law_digits => k_is); (case l__law_digits => k_is); (case c__law_digits => k_is); (case k__law_digits => k_is)
    (case a_back => k_is); (case l_back => k_is); (case c_back => k_is); (case k_back => k_is)
    (case a_moved => k_is); (case l_moved => k_is); (case c_moved => k_is); (case k_moved => k_is)
    (case a_turned => k_is); (case l_turned => k_is); (case c_turned => k_is); (case k_turned => k_is)
    (case a_laid => k_is); (case l_laid => k_is); (case c_laid => k_is); (case k_laid => k_is)
    (case a_ends_of => k_is); (case l_ends_of => k_is); (case c_ends_of => k_is); (case k_ends_of => k_is)
    (case a_ends_in => k_is); (case l_ends_in => k_is); (case c_ends_in => k_is); (case k_ends_in => k_is)
    (case a_reason_against => k_is); (case l_reason_against => k_is); (case c_reason_against => k_is); (case k_reason_against => k_is)
    (case a_joints_in => k_is); (case l_joints_in => k_is); (case c_joints_in => k_is); (case k_joints_in => k_is)
    (case a_lead => k_is); (case l_lead => k_is); (case c_lead => k_is); (case k_lead => k_is)
    (case a_pieces_along => k_is); (case l_pieces_along => k_is); (case c_pieces_along => k_is); (case k_pieces_along => k_is)
    (case a__law_told => k_is); (case l__law_told => k_is); (case c__law_told => k_is); (case k__law_told => k_is)
    (case a_law => k_is); (case l_law => k_is); (case c_law => k_is); (case k_law => k_is)
    (case a_Layout => k_is)
    (case i_Layout____init__ => k_is); (case l_Layout____init__ => k_is); (case c_Layout____init__ => k_is); (case k_Layout____init__ => k_is); (case b_Layout____init__ => kernel_rfl)
    (case i_Layout___put => k_is); (case l_Layout___put => k_is); (case c_Layout___put => k_is); (case k_Layout___put => k_is); (case b_Layout___put => kernel_rfl)
    (case i_Layout__place => k_is); (case l_Layout__place => k_is); (case c_Layout__place => k_is); (case k_Layout__place => k_is); (case b_Layout__place => kernel_rfl)
    (case i_Layout___refuse_no_piece => k_is); (case l_Layout___refuse_no_piece => k_is); (case c_Layout___refuse_no_piece => k_is); (case k_Layout___refuse_no_piece => k_is); (case b_Layout___refuse_no_piece => kernel_rfl)
    (case i_Layout__remove => k_is); (case l_Layout__remove => k_is); (case c_Layout__remove => k_is); (case k_Layout__remove => k_is); (case b_Layout__remove => kernel_rfl)
    (case i_Layout__joined => k_is); (case l_Layout__joined => k_is); (case c_Layout__joined => k_is); (case k_Layout__joined => k_is); (case b_Layout__joined => kernel_rfl)
    (case i_Layout__lay => k_is); (case l_Layout__lay => k_is); (case c_Layout__lay => k_is); (case k_Layout__lay => k_is); (case b_Layout__lay => kernel_rfl)
    (case i_Layout__undo => k_is); (case l_Layout__undo => k_is); (case c_Layout__undo => k_is); (case k_Layout__undo => k_is); (case b_Layout__undo => kernel_rfl)
    (case i_Layout__layout => k_is); (case l_Layout__layout => k_is); (case c_Layout__layout => k_is); (case k_Layout__layout => k_is); (case b_Layout__layout => kernel_rfl)
    (case b_Layout__past => kernel_rfl)
    (case b_Layout__pieces => kernel_rfl)
    (case z_ValueError => k_is)
    (case z_enumerate => k_is)
    (case z_int => k_is)
    (case z_isinstance => k_is)
    (case z_len => k_is)
    (case z_list => k_is)
    (case z_range => k_is)
    (case z_set => k_is)
    (case z_super => k_is)
    (case z_tuple => k_is)
    (case z_zip => k_is)
    (case a_BadPiece => k_is); (case i_BadPiece => k_is); (case l_BadPiece => k_is); (case c_BadPiece => k_is); (case b_BadPiece => kernel_rfl)
    (case bE_RailError => kernel_rfl)
    (case bI_BadPiece => kernel_rfl)
    (case bJ_ValueError => kernel_rfl)
    (case bL_reason => kernel_rfl)
    (case a_ENDS_AHEAD => k_is)
    case V_ENDS_AHEAD =>
      refine' DN.tab_of ?l ?k ?lo ?t
      (case l => k_is)
      (case k => k_keys)
      (case lo => decide)
      case t =>
        refine' DN.tabk_cons ?n0 ?v0 (DN.tabk_cons ?n1 ?v1 (DN.tabk_cons ?n2 ?v2 (DN.tabk_cons ?n3 ?v3 (DN.tabk_cons ?n4 ?v4 (DN.tabk_cons ?n5 ?v5 (DN.tabk_nil))))))
        (case n0 => k_is)
        case v0 =>
          refine' DN.vd_tup ?l ?z ?v
          (case l => k_is)
          (case z => decide)
          case v =>
            refine' (DN.vds_cons ?q0 DN.vds_nil)
            case q0 =>
              refine' DN.vd_tup ?l ?z ?v
              (case l => k_is)
              (case z => decide)
              (case v => exact (DN.vds_cons DN.vd_int (DN.vds_cons DN.vd_int (DN.vds_cons DN.vd_int (DN.vds_cons DN.vd_int (DN.vds_cons DN.vd_int DN.vds_nil))))))
        (case n1 => k_is)
        case v1 =>
          refine' DN.vd_tup ?l ?z ?v
          (case l => k_is)
          (case z => decide)
          case v =>
            refine' (DN.vds_cons ?q0 DN.vds_nil)
            case q0 =>
              refine' DN.vd_tup ?l ?z ?v
              (case l => k_is)
              (case z => decide)
              (case v => exact (DN.vds_cons DN.vd_int (DN.vds_cons DN.vd_int (DN.vds_cons DN.vd_int (DN.vds_cons DN.vd_int (DN.vds_cons DN.vd_int DN.vds_nil))))))
        (case n2 => k_is)
        case v2 =>
          refine' DN.vd_tup ?l ?z ?v
          (case l => k_is)
          (case z => decide)
          case v =>
            refine' (DN.vds_cons ?q0 DN.vds_nil)
            case q0 =>
              refine' DN.vd_tup ?l ?z ?v
              (case l => k_is)
              (case z => decide)
              (case v => exact (DN.vds_cons DN.vd_int (DN.vds_cons DN.vd_int (DN.vds_cons DN.vd_int (DN.vds_cons DN.vd_int (DN.vds_cons DN.vd_int DN.vds_nil))))))
        (case n3 => k_is)
        case v3 =>
          refine' DN.vd_tup ?l ?z ?v
          (case l => k_is)
          (case z => decide)
          case v =>
            refine' (DN.vds_cons ?q0 (DN.vds_cons ?q1 DN.vds_nil))
            case q0 =>
              refine' DN.vd_tup ?l ?z ?v
              (case l => k_is)
              (case z => decide)
              (case v => exact (DN.vds_cons DN.vd_int (DN.vds_cons DN.vd_int (DN.vds_cons DN.vd_int (DN.vds_cons DN.vd_int (DN.vds_cons DN.vd_int DN.vds_nil))))))
            case q1 =>
              refine' DN.vd_tup ?l ?z ?v
              (case l => k_is)
              (case z => decide)
              (case v => exact (DN.vds_cons DN.vd_int (DN.vds_cons DN.vd_int (DN.vds_cons DN.vd_int (DN.vds_cons DN.vd_int (DN.vds_cons DN.vd_int DN.vds_nil))))))
        (case n4 => k_is)
        case v4 =>
          refine' DN.vd_tup ?l ?z ?v
          (case l => k_is)
          (case z => decide)
          case v =>
            refine' (DN.vds_cons ?q0 (DN.vds_cons ?q1 DN.vds_nil))
            case q0 =>
              refine' DN.vd_tup ?l ?z ?v
              (case l => k_is)
              (case z => decide)
              (case v => exact (DN.vds_cons DN.vd_int (DN.vds_cons DN.vd_int (DN.vds_cons DN.vd_int (DN.vds_cons DN.vd_int (DN.vds_cons DN.vd_int DN.vds_nil))))))
            case q1 =>
              refine' DN.vd_tup ?l ?z ?v
              (case l => k_is)
              (case z => decide)
              (case v => exact (DN.vds_cons DN.vd_int (DN.vds_cons DN.vd_int (DN.vds_cons DN.vd_int (DN.vds_cons DN.vd_int (DN.vds_cons DN.vd_int DN.vds_nil))))))
        (case n5 => k_is)
        case v5 =>
          refine' DN.vd_tup ?l ?z ?v
          (case l => k_is)
          (case z => decide)
          case v =>
            refine' (DN.vds_cons ?q0 (DN.vds_cons ?q1 (DN.vds_cons ?q2 DN.vds_nil)))
            case q0 =>
              refine' DN.vd_tup ?l ?z ?v
              (case l => k_is)
              (case z => decide)
              (case v => exact (DN.vds_cons DN.vd_int (DN.vds_cons DN.vd_int (DN.vds_cons DN.vd_int (DN.vds_cons DN.vd_int (DN.vds_cons DN.vd_int DN.vds_nil))))))
            case q1 =>
              refine' DN.vd_tup ?l ?z ?v
              (case l => k_is)
              (case z => decide)
              (case v => exact (DN.vds_cons DN.vd_int (DN.vds_cons DN.vd_int (DN.vds_cons DN.vd_int (DN.vds_cons DN.vd_int (DN.vds_cons DN.vd_int DN.vds_nil))))))
            case q2 =>
              refine' DN.vd_tup ?l ?z ?v
              (case l => k_is)
              (case z => decide)
              (case v => exact (DN.vds_cons DN.vd_int (DN.vds_cons DN.vd_int (DN.vds_cons DN.vd_int (DN.vds_cons DN.vd_int (DN.vds_cons DN.vd_int DN.vds_nil))))))
    (case a_LAID_FORWARDS => k_is)
    case V_LAID_FORWARDS =>
      refine' DN.tab_of ?l ?k ?lo ?t
      (case l => k_is)
      (case k => k_keys)
      (case lo => decide)
      case t =>
        refine' DN.tabk_cons ?n0 ?v0 (DN.tabk_cons ?n1 ?v1 (DN.tabk_cons ?n2 ?v2 (DN.tabk_nil)))
        (case n0 => k_is)
        case v0 =>
          exact DN.vd_str
        (case n1 => k_is)
        case v1 =>
          exact DN.vd_str
        (case n2 => k_is)
        case v2 =>
          exact DN.vd_str
    (case a_LEADS => k_is)
    case V_LEADS =>
      refine' DN.tab_of ?l ?k ?lo ?t
      (case l => k_is)
      (case k => k_keys)
      (case lo => decide)
      case t =>
        refine' DN.tabk_cons ?n0 ?v0 (DN.tabk_cons ?n1 ?v1 (DN.tabk_cons ?n2 ?v2 (DN.tabk_cons ?n3 ?v3 (DN.tabk_nil))))
        (case n0 => k_is)
        case v0 =>
          refine' DN.vd_tup ?l ?z ?v
          (case l => k_is)
          (case z => decide)
          (case v => exact (DN.vds_cons DN.vd_int (DN.vds_cons DN.vd_int (DN.vds_cons DN.vd_int (DN.vds_cons DN.vd_int (DN.vds_cons DN.vd_int DN.vds_nil))))))
        (case n1 => k_is)
        case v1 =>
          refine' DN.vd_tup ?l ?z ?v
          (case l => k_is)
          (case z => decide)
          (case v => exact (DN.vds_cons DN.vd_int (DN.vds_cons DN.vd_int (DN.vds_cons DN.vd_int (DN.vds_cons DN.vd_int (DN.vds_cons DN.vd_int DN.vds_nil))))))
        (case n2 => k_is)
        case v2 =>
          refine' DN.vd_tup ?l ?z ?v
          (case l => k_is)
          (case z => decide)
          (case v => exact (DN.vds_cons DN.vd_int (DN.vds_cons DN.vd_int (DN.vds_cons DN.vd_int (DN.vds_cons DN.vd_int (DN.vds_cons DN.vd_int DN.vds_nil))))))
        (case n3 => k_is)
        case v3 =>
          refine' DN.vd_tup ?l ?z ?v
          (case l => k_is)
          (case z => decide)
          (case v => exact (DN.vds_cons DN.vd_int (DN.vds_cons DN.vd_int (DN.vds_cons DN.vd_int (DN.vds_cons DN.vd_int (DN.vds_cons DN.vd_int DN.vds_nil))))))
    (case a_MOST_NUMBERS => k_is)
    case V_MOST_NUMBERS =>
      exact DN.vd_int
