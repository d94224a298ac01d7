import PyProof.Rows.All
import Wide.All
import OpenK.AllK
import Wide.FinOn
import Lean
import PyProof.EqAt
import PyProof.EqKinds
import PyProof.TupleCall
import PyProof.EnumMake
import PyProof.ZipIter
import PyProof.NeKinds
import PyProof.Rows.SortWalk
import PyProof.AttrMiss
import PyProof.IsiH_list
import KE.KDictOf
import PyProof.Draws
import PyProof.StrCalls
import PyProof.StrCalls2
import PyProof.FString5
import PyProof.DictWalks
import PyProof.MeetsDict
import PyProof.EqAt
import PyProof.Rows.RuleM_int
import KE.KEqDict
import KE.KDictSum
import PyProof.WalkInts
import PyProof.FactsAll.dict_4
import PyProof.StrBlockI
import PyProof.StrBlock2
import PyProof.StrCalls3
import KE.KIntText
import PyProof.ListStr
import PyProof.Rows.StrNews2
import PyProof.SliceStr2
import PyProof.StrLawsFrom
import PyProof.StrLawsIn
import KE.KSortTup
import PySem.Challenge.RW_bitdraws_k16_whole_plans_for_weights
set_option Elab.async false
set_option linter.all false
set_option maxRecDepth 100000
namespace L2
open PySem PySem.Spec PyProof.Rows
noncomputable abbrev Key := Sum Int Str
noncomputable def keyIs : Key → Value → Bool
  | .inl k, v => Value.isInt k v
  | .inr x, v => Value.isStrOf x v
noncomputable def keyH (w : World) : Key → Int
  | .inl k => hashInt k
  | .inr x => hashStr w x
theorem keyIs_shape : ∀ {k : Key} {v : Value}, keyIs k v = true → (∃ i t, k = Sum.inl i ∧ v = Value.int i t) ∨ (∃ x t, k = Sum.inr x ∧ v = Value.str x t)
  | .inl i, v, h => by
    obtain ⟨t, e⟩ := Value.isInt_shape (k := i) (v := v) h
    exact .inl ⟨i, t, rfl, e⟩
  | .inr x, v, h => by
    obtain ⟨t, e⟩ := Value.isStrOf_shape (x := x) (v := v) h
    exact .inr ⟨x, t, rfl, e⟩
theorem keyIs_int (i : Int) (t : Tok) : keyIs (.inl i) (.int i t) = true := by simp [keyIs, Value.isInt]
theorem keyIs_str (x : Str) (t : Tok) : keyIs (.inr x) (.str x t) = true := by simp [keyIs, Value.isStrOf]
theorem key_ll (a b : Int) : decide ((Sum.inl a : Key) = Sum.inl b) = (a == b) := by
  by_cases e : a = b
  · subst e; simp
  · have h : ¬ (Sum.inl a : Key) = Sum.inl b := fun q => e (Sum.inl.inj q)
    rw [decide_eq_false h]
    exact (beq_eq_false_iff_ne.mpr e).symm
theorem key_rr (a b : Str) : decide ((Sum.inr a : Key) = Sum.inr b) = decide (a = b) := by
  by_cases e : a = b
  · subst e; simp
  · have h : ¬ (Sum.inr a : Key) = Sum.inr b := fun q => e (Sum.inr.inj q)
    rw [decide_eq_false h, decide_eq_false e]
theorem key_lr (a : Int) (b : Str) : decide ((Sum.inl a : Key) = Sum.inr b) = false := decide_eq_false (fun q => nomatch q)
theorem key_rl (a : Str) (b : Int) : decide ((Sum.inr a : Key) = Sum.inl b) = false := decide_eq_false (fun q => nomatch q)
noncomputable def mixKind (prog : Program) (w : World) : PySem.KeyKind prog w Key where
  is := keyIs
  hash := keyH w
  inj := fun v a b ha hb => by
    rcases keyIs_shape ha with ⟨i, t, rfl, rfl⟩ | ⟨x, t, rfl, rfl⟩
    · rcases keyIs_shape hb with ⟨j, u, rfl, e⟩ | ⟨y, u, rfl, e⟩
      · injection e with e1 _; rw [e1]
      · exact nomatch e
    · rcases keyIs_shape hb with ⟨j, u, rfl, e⟩ | ⟨y, u, rfl, e⟩
      · exact nomatch e
      · injection e with e1 _; rw [e1]
  byValue := fun k v h => by
    rcases keyIs_shape h with ⟨i, t, rfl, rfl⟩ | ⟨x, t, rfl, rfl⟩ <;> rfl
  pyHash := fun hv h => by
    rcases keyIs_shape hv with ⟨i, t, rfl, rfl⟩ | ⟨x, t, rfl, rfl⟩
    · exact wpAny_pyHash_int h
    · exact wpAny_pyHash_str h
  eqBool := fun hu hv h => by
    rcases keyIs_shape hu with ⟨i, t, rfl, rfl⟩ | ⟨x, t, rfl, rfl⟩
    · rcases keyIs_shape hv with ⟨j, u, rfl, rfl⟩ | ⟨y, u, rfl, rfl⟩
      · rw [key_ll] at h; exact wpAny_eqBool_int h
      · rw [key_lr] at h; exact SeqAt.EqAt.int_str i t y u _ _ _ _ h
    · rcases keyIs_shape hv with ⟨j, u, rfl, rfl⟩ | ⟨y, u, rfl, rfl⟩
      · rw [key_rl] at h; exact SeqAt.EqAt.str_int x t j u _ _ _ _ h
      · rw [key_rr] at h; exact wpAny_eqBool_str h
  «strs» := fun k x t v h => by
    rcases keyIs_shape h with ⟨i, u, rfl, e⟩ | ⟨y, u, rfl, e⟩
    · exact nomatch e
    · injection e with e1 _
      subst e1
      cases v <;> rfl
theorem mixKind_int (prog : Program) (w : World) (i : Int) (t : Tok) : (mixKind prog w).is (.inl i) (.int i t) = true := keyIs_int i t
theorem mixKind_str (prog : Program) (w : World) (x : Str) (t : Tok) : (mixKind prog w).is (.inr x) (.str x t) = true := keyIs_str x t
end L2
namespace L2
open PySem PySem.Spec PyProof.Rows
inductive V where
  | non | bl (b : Bool) | int (i : Int) | str (x : Str) | byt (b : Array UInt8) | flt (b : UInt64) | ref (a : Addr) | ty (n : String)
  deriving DecidableEq
noncomputable def RelV : V → Value → Prop
  | .non, u => u = Value.none
  | .bl b, u => u = Value.bool b
  | .int i, u => ∃ t, u = Value.int i t
  | .str x, u => ∃ t, u = Value.str x t
  | .byt b, u => ∃ t, u = Value.bytes b t
  | .flt b, u => ∃ t, u = Value.float b t
  | .ref a, u => u = Value.ref a
  | .ty n, u => u = Value.type n
noncomputable abbrev Vals : List V → List Value → Prop := Paired RelV
theorem Vals.length {xs : List V} {us : List Value} (r : Vals xs us) : xs.length = us.length := Paired.length r
theorem Vals.get : ∀ {xs : List V} {us : List Value} {i : Nat} {x : V}, Vals xs us → xs[i]? = some x → ∃ u, us[i]? = some u ∧ RelV x u
  | _, _, _, _, .nil, e => by simp at e
  | _, _, 0, _, .cons r _, e => by simp at e; subst e; exact ⟨_, rfl, r⟩
  | _, _, i + 1, x, .cons _ t, e => by
    obtain ⟨u, h1, h2⟩ := Vals.get (i := i) (x := x) t (by simpa using e)
    exact ⟨u, by simpa using h1, h2⟩
theorem Vals.set {x : V} {u : Value} (r : RelV x u) : ∀ {xs : List V} {us : List Value} (i : Nat), Vals xs us → Vals (xs.set i x) (us.set i u)
  | _, _, _, .nil => .nil
  | _, _, 0, .cons _ t => .cons r t
  | _, _, i + 1, .cons q t => .cons q (Vals.set r i t)
theorem Vals.append : ∀ {xs ys : List V} {us ws : List Value}, Vals xs us → Vals ys ws → Vals (xs ++ ys) (us ++ ws)
  | _, _, _, _, .nil, s => s
  | _, _, _, _, .cons r t, s => .cons r (Vals.append t s)
noncomputable def RelO : Option V → Option Value → Prop
  | some v, some u => RelV v u
  | none, none => True
  | _, _ => False
noncomputable def KV {κ : Type} : List (κ × V) → List (κ × Value) → Prop := Paired fun (p : κ × V) (q : κ × Value) => p.1 = q.1 ∧ RelV p.2 q.2
noncomputable def kV : Key → V
  | .inl i => .int i
  | .inr x => .str x
inductive HO where
  /-- a list -/
  | lst (xs : List V)
  /-- a tuple (never changes) -/
  | tup (xs : List V)
  /-- a dict whose keys are ints and texts; one whose keys are tuples of ints and texts (the empty one is both) -/
  | dK (kvs : List (Key × V)) | dT (kvs : List (List Key × V))
  /-- a set of ints: its members, its size -/
  | set (S : Int → Bool) (n : Nat)
  /-- an instance of the class at C, its dict at dx, its attributes -/
  | ins (C dx : Addr) (fs : List (Str × V))
  /-- the dict of the instance at x -/
  | own (x : Addr)
  /-- the dict of an exception -/
  | xd (fs : List (Str × V))
  /-- a bound method, f of x -/
  | met (f x : Addr)
  /-- a range object lo, lo + 1, .. below hi -/
  | rng (lo hi : Int)
  /-- a thing that is known to the object (the script; a dict while a loop walks it): read, never written while it is so -/
  | frz (o : Obj) (u : HO)
  /-- a code object's table -/
  | tbl (ps : Array Value)
  /-- any other thing, by what is true of its one object (a def of one's own: SetO a S n := HO.ext fun h => ..) -/
  | ext (φ : Heap → Prop)
noncomputable abbrev Hp := Addr → Option HO
noncomputable def upd (H : Hp) (a : Addr) (o : HO) : Hp := fun b => if b = a then some o else H b
theorem upd_same {H : Hp} {a : Addr} {o : HO} : upd H a o a = some o := by unfold upd; rw [if_pos rfl]
theorem upd_ne {H : Hp} {a b : Addr} {o : HO} (h : b ≠ a) : upd H a o b = H b := by unfold upd; rw [if_neg h]
theorem ne_of {H : Hp} {a b : Addr} {o u : HO} (h : H a = some o) (h' : H b = some u) (d : o ≠ u) : a ≠ b := by
  intro e; subst e; rw [h] at h'; exact d (Option.some.inj h')
theorem ne_of_none {H : Hp} {a b : Addr} {o : HO} (h : H a = some o) (h' : H b = none) : a ≠ b := by
  intro e; subst e; rw [h] at h'; cases h'
section
variable (P : Program) (w : World)
noncomputable def ObjOk (H : Hp) (h : Heap) (a : Addr) : HO → Prop
  | .lst xs => xs.length ≤ sizeLine ∧ ∃ (its : List Value) (n : Nat), Vals xs its ∧ h.get? a = some { cls := .type "list", data := .seq its.toArray n }
  | .tup xs => xs.length ≤ sizeLine ∧ ∃ its : List Value, Vals xs its ∧ IsTup h a its.toArray ∧ ∃ ob, h.get? a = some ob ∧ ob.dict = none
  | .dK kvs => kvs.length ≤ sizeLine ∧ (a == sysModules) = false ∧ ∃ vs, KV kvs vs ∧ h.DictOf (mixKind P w) a vs
  | .dT kvs => kvs.length ≤ sizeLine ∧ (a == sysModules) = false ∧ ∃ xs : List (List Key × Addr × Value),
      Paired (fun (p : List Key × V) (q : List Key × Addr × Value) => p.1 = q.1 ∧ H q.2.1 = some (.tup (p.1.map kV)) ∧ RelV p.2 q.2.2) kvs xs ∧
      ∃ o es ep, h.get? a = some o ∧ o.ExactDict ∧ o.data = .dict es ep ∧ es.toList = xs.map (entryOfKey (tupleKind (mixKind P w))) ∧ (xs.map (·.1)).Nodup
  | .set S n => h.SetOf (intKind P w) a S n
  | .ins C dx fs => H dx = some (.own a) ∧ fs.length ≤ 1000 ∧ dx ≠ a ∧ h.get? a = some (PySem.W.instObj C dx) ∧
      ∃ mA, h.Ns1 dx mA ∧ (∀ f, RelO (fs.lookup f) (mA f)) ∧ PySem.Within mA (fs.map (·.1))
  | .own _ => ∃ o, h.get? a = some o
  | .xd fs => ∃ mA, h.Ns1 a mA ∧ ∀ f, RelO (fs.lookup f) (mA f)
  | .rng lo hi => ∃ t u v, h.get? a = some { cls := .type "range", data := .fields #[.int lo t, .int hi u, .int 1 v] }
  | .frz o u => h.get? a = some o ∧ ObjOk H h a u
  | .tbl ps => h.get? a = some { cls := .none, data := .fields ps }
  | .met f x => h.get? a = some (PySem.W.methodObj (.ref f) (.ref x))
  | .ext φ => φ h ∧ (∃ o, h.get? a = some o) ∧ ∀ h1 h2 : Heap, φ h1 → (∀ o, h1.get? a = some o → h2.get? a = some o) → φ h2
noncomputable def HOk (H : Hp) (h : Heap) : Prop := ∀ a o, H a = some o → ObjOk P w H h a o
end
section
variable {P : Program} {w : World} {H H' : Hp} {h h' : Heap} {a : Addr} {o : HO}
theorem ObjOk.lt (x : ObjOk P w H h a o) : a < h.objs.size := by
  cases o with
  | lst xs => obtain ⟨_, _, _, _, e⟩ := x; exact Heap.lt_size e
  | tup xs => obtain ⟨_, _, _, p, _⟩ := x; exact p.lt
  | dK kvs => obtain ⟨_, _, _, _, o, _, _, e, _⟩ := x; exact Heap.lt_size e
  | dT kvs => obtain ⟨_, _, _, _, o, _, _, e, _⟩ := x; exact Heap.lt_size e
  | set S n => obtain ⟨o, _, _, _, e, _⟩ := x; exact Heap.lt_size e
  | ins C dx fs => obtain ⟨_, _, _, e, _⟩ := x; exact Heap.lt_size e
  | own y => obtain ⟨_, e⟩ := x; exact Heap.lt_size e
  | xd fs => obtain ⟨_, ⟨_, _, _, e, _⟩, _⟩ := x; exact Heap.lt_size e
  | rng lo hi => obtain ⟨_, _, _, e⟩ := x; exact Heap.lt_size e
  | frz ob u => obtain ⟨e, _⟩ := x; exact Heap.lt_size e
  | tbl ps => exact Heap.lt_size (show h.get? a = some _ from x)
  | met f y => exact Heap.lt_size (show h.get? a = some _ from x)
  | ext φ => obtain ⟨_, ⟨_, e⟩, _⟩ := x; exact Heap.lt_size e
theorem Paired.mapP {α β : Type} {F G : α → β → Prop} : ∀ {l₁ : List α} {l₂ : List β}, Paired F l₁ l₂ → (∀ a b, F a b → G a b) → Paired G l₁ l₂
  | _, _, .nil, _ => .nil
  | _, _, .cons r t, f => .cons (f _ _ r) (Paired.mapP t f)
theorem ObjOk.stay (x : ObjOk P w H h a o) (k : ∀ b u, (b = a ∨ H b = some (.own a)) → h.get? b = some u → h'.get? b = some u)
    (ho : ∀ b, H b = some (.own a) → H' b = some (.own a)) (ht : ∀ b xs, H b = some (.tup xs) → H' b = some (.tup xs)) : ObjOk P w H' h' a o := by
  induction o with
  | lst xs => obtain ⟨z, its, n, r, e⟩ := x; exact ⟨z, its, n, r, k _ _ (.inl rfl) e⟩
  | tup xs => obtain ⟨z, its, r, ⟨ob, e, c⟩, od, ed, dd⟩ := x; exact ⟨z, its, r, ⟨ob, k _ _ (.inl rfl) e, c⟩, od, k _ _ (.inl rfl) ed, dd⟩
  | dK kvs => obtain ⟨z, y, vs, r, ob, es, ep, e, c⟩ := x; exact ⟨z, y, vs, r, ob, es, ep, k _ _ (.inl rfl) e, c⟩
  | dT kvs =>
    obtain ⟨z, y, xs, r, ob, es, ep, e, c⟩ := x
    exact ⟨z, y, xs, Paired.mapP r fun p q z => ⟨z.1, ht _ _ z.2.1, z.2.2⟩, ob, es, ep, k _ _ (.inl rfl) e, c⟩
  | set S n => obtain ⟨ob, es, ep, t, e, c⟩ := x; exact ⟨ob, es, ep, t, k _ _ (.inl rfl) e, c⟩
  | ins C dx fs =>
    obtain ⟨d, z, ne, e, mA, ⟨od, es, ep, e2, c⟩, r⟩ := x
    exact ⟨ho _ d, z, ne, k _ _ (.inl rfl) e, mA, ⟨od, es, ep, k _ _ (.inr d) e2, c⟩, r⟩
  | own y => obtain ⟨ob, e⟩ := x; exact ⟨ob, k _ _ (.inl rfl) e⟩
  | xd fs => obtain ⟨mA, ⟨od, es, ep, e, c⟩, r⟩ := x; exact ⟨mA, ⟨od, es, ep, k _ _ (.inl rfl) e, c⟩, r⟩
  | rng lo hi => obtain ⟨t, u, v, e⟩ := x; exact ⟨t, u, v, k _ _ (.inl rfl) e⟩
  | frz ob u ih => obtain ⟨e, q⟩ := x; exact ⟨k _ _ (.inl rfl) e, ih q⟩
  | tbl ps =>
    have e : h.get? a = some { cls := .none, data := .fields ps } := x
    show h'.get? a = some { cls := .none, data := .fields ps }
    exact k a _ (.inl rfl) e
  | met f y =>
    have e : h.get? a = some (PySem.W.methodObj (.ref f) (.ref y)) := x
    show h'.get? a = some (PySem.W.methodObj (.ref f) (.ref y))
    exact k a _ (.inl rfl) e
  | ext φ => obtain ⟨p, ⟨o, e⟩, st⟩ := x; exact ⟨st _ _ p fun o q => k _ _ (.inl rfl) q, ⟨o, k _ _ (.inl rfl) e⟩, st⟩
theorem HOk.lt (x : HOk P w H h) (e : H a = some o) : a < h.objs.size := (x a o e).lt
theorem HOk.fresh (x : HOk P w H h) (e : h.objs.size ≤ a) : H a = none := by
  cases q : H a with
  | none => rfl
  | some u => exact absurd (Nat.lt_of_lt_of_le (x.lt q) e) (Nat.lt_irrefl _)
theorem HOk.kept (x : HOk P w H h) (k : ∀ b u, h.get? b = some u → h'.get? b = some u) : HOk P w H h' := fun a o e =>
  (x a o e).stay (fun b u _ q => k b u q) (fun _ q => q) fun _ _ q => q
theorem HOk.laid (x : HOk P w H h) (k : ∀ b u, h.get? b = some u → h'.get? b = some u) (hp : h.objs.size ≤ a) (new : ObjOk P w (upd H a o) h' a o) : HOk P w (upd H a o) h' := fun b u e => by
  have hn := x.fresh hp
  by_cases hb : b = a
  · subst hb; rw [upd_same] at e; cases e; exact new
  · rw [upd_ne hb] at e
    exact (x b u e).stay (fun c v _ q => k c v q) (fun c q => by rw [upd_ne (ne_of_none q hn)]; exact q) fun c xs q => by rw [upd_ne (ne_of_none q hn)]; exact q
end
noncomputable def Rd (H : Hp) (a : Addr) (u : HO) : Prop := H a = some u ∨ ∃ o, H a = some (.frz o u)
theorem Rd.ok {P : Program} {w : World} {H : Hp} {h : Heap} {a : Addr} {u : HO} (r : Rd H a u) (x : HOk P w H h) : ObjOk P w H h a u := by
  rcases r with r | ⟨o, r⟩
  · exact x a u r
  · obtain ⟨_, q⟩ := x a _ r
    exact q
noncomputable def Mut : Option HO → Prop
  | some (.lst _) => True
  | some (.dK _) => True
  | some (.dT _) => True
  | some (.set _ _) => True
  | some (.ins _ _ _) => True
  | some (.ext _) => True
  | _ => False
section
variable {P : Program} {w : World} {H : Hp} {h h' : Heap} {x e : Addr} {o' : HO}
theorem HOk.write (ok : HOk P w H h) (mu : Mut (H x)) (he : e = x ∨ H e = some (.own x)) (k : ∀ b u, b ≠ e → h.get? b = some u → h'.get? b = some u) (heo : ∃ u, h'.get? e = some u)
    (new : ObjOk P w (upd H x o') h' x o') : HOk P w (upd H x o') h' := fun b u q => by
  have nown : ∀ c y, H c = some (.own y) → c ≠ x := fun c y r z => by subst z; rw [r] at mu; exact mu
  have ntup : ∀ c xs, H c = some (.tup xs) → c ≠ x := fun c xs r z => by subst z; rw [r] at mu; exact mu
  by_cases hb : b = x
  · subst hb; rw [upd_same] at q; cases q; exact new
  · rw [upd_ne hb] at q
    by_cases hbe : b = e
    · have q' : H b = some (.own x) := by
        rcases he with z | z
        · exact absurd (hbe.trans z) hb
        · rw [hbe]; exact z
      rw [q] at q'; cases q'
      obtain ⟨v, hv⟩ := heo
      exact ⟨v, by rw [hbe]; exact hv⟩
    · refine (ok b u q).stay (fun c v hc r => k c v ?_ r) (fun c r => by rw [upd_ne (nown c b r)]; exact r) fun c xs r => by rw [upd_ne (ntup c xs r)]; exact r
      rcases hc with rfl | hc
      · exact hbe
      · rintro rfl
        rcases he with z | z
        · exact nown c b hc z
        · rw [hc] at z; cases z; exact hb rfl
end
structure Un (fs ex : List Addr) (H H' : Hp) (h h' : Heap) : Prop where
  keep : ∀ b o, h.get? b = some o → H b = none → b ∉ fs → b ∉ ex → h'.get? b = some o
  slot : ∀ b o, h.get? b = some o → H b = none → b ∈ fs → b ∉ ex → ∃ sl, h'.get? b = some { o with slots := sl }
  free : ∀ b o, h.get? b = some o → H b = none → b ∉ ex → H' b = none
  there : ∀ b o, h.get? b = some o → b ∉ ex → ∃ o', h'.get? b = some o'
  tups : ∀ b xs, H b = some (.tup xs) → H' b = some (.tup xs)
  frzs : ∀ b o u, H b = some (.frz o u) → H' b = some (.frz o u)
  tbls : ∀ b ps, H b = some (.tbl ps) → ∃ more, H' b = some (.tbl (ps ++ more))
section
variable {fs fs' ex ex' : List Addr} {H H1 H2 : Hp} {h h1 h2 h' : Heap} {a x e : Addr} {o : HO}
theorem Un.any (u : Un fs ex H H1 h h1) {b : Addr} {ob : Obj} (q : h.get? b = some ob) (n : H b = none) (hx : b ∉ ex) : ∃ sl, h1.get? b = some { ob with slots := sl } := by
  by_cases hb : b ∈ fs
  · exact u.slot b ob q n hb hx
  · exact ⟨ob.slots, u.keep b ob q n hb hx⟩
theorem Un.kept (k : ∀ b u, h.get? b = some u → h'.get? b = some u) : Un fs ex H H h h' :=
  ⟨fun b ob q _ _ _ => k b ob q, fun b ob q _ _ _ => ⟨ob.slots, k b ob q⟩, fun _ _ _ n _ => n, fun b ob q _ => ⟨ob, k b ob q⟩, fun _ _ q => q, fun _ _ _ q => q, fun _ ps q => ⟨#[], by rw [q]; simp⟩⟩
theorem Un.refl : Un fs ex H H h h := Un.kept fun _ _ q => q
theorem Un.laid (k : ∀ b u, h.get? b = some u → h'.get? b = some u) (hp : h.objs.size ≤ a) (hn : H a = none) : Un fs ex H (upd H a o) h h' where
  keep := fun b u q _ _ _ => k b u q
  slot := fun b u q _ _ _ => ⟨u.slots, k b u q⟩
  free := fun b u q n _ => by rw [upd_ne (Nat.ne_of_lt (Nat.lt_of_lt_of_le (Heap.lt_size q) hp))]; exact n
  there := fun b u q _ => ⟨u, k b u q⟩
  tups := fun b xs q => by rw [upd_ne (ne_of_none q hn)]; exact q
  frzs := fun b u xs q => by rw [upd_ne (ne_of_none q hn)]; exact q
  tbls := fun b ps q => ⟨#[], by rw [upd_ne (ne_of_none q hn), q]; simp⟩
theorem Un.write (mu : Mut (H x)) (he : e = x ∨ H e = some (.own x)) (k : ∀ b u, b ≠ e → h.get? b = some u → h'.get? b = some u) (heo : ∃ u, h'.get? e = some u) : Un fs ex H (upd H x o) h h' := by
  have hx : ∀ b, H b = none → b ≠ x := fun b n z => by subst z; rw [n] at mu; exact mu
  have hb : ∀ b, H b = none → b ≠ e := fun b n z => by
    subst z
    rcases he with r | r
    · exact hx b n r
    · rw [n] at r; cases r
  have hm : ∀ b u, H b = some u → ¬ Mut (some u) → b ≠ x := fun b u q nm z => by subst z; rw [q] at mu; exact nm mu
  refine ⟨fun b u q n _ _ => k b u (hb b n) q, fun b u q n _ _ => ⟨u.slots, k b u (hb b n) q⟩, fun b u q n _ => by rw [upd_ne (hx b n)]; exact n, fun b u q _ => ?_,
    fun b xs q => by rw [upd_ne (hm b _ q fun z => z)]; exact q, fun b u xs q => by rw [upd_ne (hm b _ q fun z => z)]; exact q, fun b ps q => ⟨#[], by rw [upd_ne (hm b _ q fun z => z), q]; simp⟩⟩
  by_cases hbe : b = e
  · subst hbe; exact heo
  · exact ⟨u, k b u hbe q⟩
end
noncomputable def trk (h : Heap) (H : Hp) : List Addr := (List.range h.objs.size).filter fun a => (H a).isSome
noncomputable def hidT (h : Heap) (H : Hp) : Heap := PySem.W.hideAll h (trk h H)
theorem hidT_size (h : Heap) (H : Hp) : (hidT h H).objs.size = h.objs.size := PySem.W.hideAll_size _ _
theorem hidT_get {h : Heap} {H : Hp} {b : Addr} {o : Obj} (e : h.get? b = some o) (n : H b = none) : (hidT h H).get? b = some o :=
  PySem.W.hideAll_get _ e fun hm => by
    have q : (H b).isSome = true := (List.mem_filter.mp hm).2
    rw [n] at q; simp at q
theorem of_hidT {h : Heap} {H : Hp} {b : Addr} {o : Obj} (e : (hidT h H).get? b = some o) : h.get? b = some o ∧ H b = none := by
  have e' : h.get? b = some o := PySem.W.of_hideAll (trk h H) e
  refine ⟨e', ?_⟩
  cases q : H b with
  | none => rfl
  | some x =>
    have hm : b ∈ trk h H := List.mem_filter.mpr ⟨List.mem_range.mpr (Heap.lt_size e'), by simp [q]⟩
    have z : (hidT h H).get? b = none := PySem.W.hideAll_none (trk h H) hm
    rw [z] at e; cases e
end L2
namespace L2
open PySem PySem.Spec PyProof.Rows
structure Mod (K : PySem.W.Frag) (mg : Str → Option Value) (base : Heap) : Prop where
  kin : K.In base
  glob : base.Ns mainGlobals mg
  blt : ∃ mb, base.Ns builtinsNs mb ∧ ∀ x : Str, x ≠ "__name__" → mb x = bootBuiltins x
  nolimit : base.NoLimit
structure Cx where
  prog : Program
  w : World
  K : PySem.W.Frag
  mg : Str → Option Value
  base : Heap
  A : Around
  N : List Str
  s₀ : Shared
  H₀ : Hp
  env : Env
  outer : List Env
  stack : List Env
  ex : List Addr
  fn : Str → Bool
  calm : Bool
  pn : List (Addr × Obj)
  xe : Value → Shared → Prop
noncomputable def frs (l : List Env) : List Addr := l.filterMap (·.frame)
noncomputable abbrev Cx.fs (X : Cx) : List Addr := frs X.outer
noncomputable def Vis (sc : Scope) (x : Str) : Prop := sc.names.lookup x = some .local ∨ sc.names.lookup x = some .cell ∨ sc.names.lookup x = some .free
noncomputable def Loc (sc : Scope) (x : Str) : Prop := sc.names.lookup x = some .local ∨ sc.names.lookup x = some .cell
noncomputable def Look (env : Env) (h : Heap) (m : Str → Option Value) (x : Str) (u : Value) : Prop :=
  (env.kindOf x = some .local ∧ m x = some u) ∨ ((env.kindOf x = some .cell ∨ env.kindOf x = some .free) ∧ ∃ c, env.cells.lookup x = some c ∧ h.IsCell c (some u))
structure Cx.Ok (X : Cx) : Prop where
  mod : Mod X.K X.mg X.base
  kind : X.env.scope.kind = .function
  glob : X.env.globals = mainGlobals
  blt : X.env.builtins = builtinsNs
  above : X.s₀.heap.objs.size ≤ X.env.locals
  inj : ∀ x y c, X.env.cells.lookup x = some c → X.env.cells.lookup y = some c → x = y
  has : ∀ x, (X.env.kindOf x = some .cell ∨ X.env.kindOf x = some .free) → ∃ c, X.env.cells.lookup x = some c
  cab : ∀ x c, X.fn x = true → X.env.cells.lookup x = some c → X.s₀.heap.objs.size ≤ c
  hd : X.calm = true → X.A.handled = none
  frames : X.A.frames = some X.stack
  stk : X.stack = X.outer ∨ (X.stack = X.env :: X.outer ∧ X.env.frame = some X.env.locals)
  exf : ∀ b ∈ X.ex, b ≠ X.env.locals ∧ ∀ x c, X.env.cells.lookup x = some c → c ≠ b
  bs : ∀ b o, X.base.get? b = some o → X.s₀.heap.get? b = some o ∧ X.H₀ b = none
  bsz : X.base.objs.size ≤ X.s₀.heap.objs.size
  noex : ∀ b o, X.base.get? b = some o → b ∉ X.ex
  exfs : ∀ b ∈ X.ex, b ∉ X.fs
  funs : X.s₀.heap.FunFrames X.base X.outer
  frf : ∀ b ∈ X.fs, X.H₀ b = none
structure Inv (X : Cx) (pins : List (Addr × Obj)) (σ : List (Option V)) (H : Hp) (s : Shared) : Prop where
  ok : X.Ok
  os : s.os = X.s₀.os
  bare : AllBare s.gens
  base : Un X.fs X.ex X.H₀ H X.s₀.heap s.heap
  loc : ∃ m, s.heap.Ns X.env.locals m ∧ ∀ (i : Nat) (x : Str) (v : V), X.N[i]? = some x → σ[i]? = some (some v) → Vis X.env.scope x → ∃ u, RelV v u ∧ Look X.env s.heap m x u
  cell : ∀ x c, X.env.cells.lookup x = some c → ∃ v, s.heap.IsCell c v
  free : H X.env.locals = none
  freeC : ∀ x c, X.env.cells.lookup x = some c → H c = none
  pin : ∀ p ∈ X.pn ++ pins, s.heap.get? p.1 = some p.2 ∧ H p.1 = none ∧ p.1 ≠ X.env.locals ∧ p.1 ∉ X.fs ∧ ∀ v, p.2.data ≠ .cell v
  hok : HOk X.prog X.w H s.heap
  len : σ.length = X.N.length
section
variable {X : Cx} {pins : List (Addr × Obj)} {σ : List (Option V)} {H H' : Hp} {s : Shared} {h' : Heap}
theorem Cx.Ok.nofr (ok : X.Ok) {b : Addr} {o : Obj} (e : X.base.get? b = some o) : b ∉ X.fs := fun hb => by
  have := (ok.funs.mem hb).1
  rw [e] at this; cases this
theorem Inv.bs (I : Inv X pins σ H s) : ∀ b o, X.base.get? b = some o → s.heap.get? b = some o ∧ H b = none := fun b o e =>
  ⟨I.base.keep b o (I.ok.bs b o e).1 (I.ok.bs b o e).2 (I.ok.nofr e) (I.ok.noex b o e), I.base.free b o (I.ok.bs b o e).1 (I.ok.bs b o e).2 (I.ok.noex b o e)⟩
theorem Inv.bk (I : Inv X pins σ H s) : ∀ b o, X.base.get? b = some o → s.heap.get? b = some o := fun b o e => (I.bs b o e).1
theorem Inv.mod (I : Inv X pins σ H s) : Mod X.K X.mg X.base := I.ok.mod
theorem Inv.kIn (I : Inv X pins σ H s) : X.K.In s.heap := I.ok.mod.kin.keeps I.bk
theorem Inv.lt (I : Inv X pins σ H s) : X.env.locals < s.heap.objs.size := let ⟨_, hn, _⟩ := I.loc; hn.lt
theorem Inv.sz (I : Inv X pins σ H s) : X.s₀.heap.objs.size ≤ s.heap.objs.size := Nat.le_trans I.ok.above (Nat.le_of_lt I.lt)
theorem Inv.nofs (I : Inv X pins σ H s) {a : Addr} (h : s.heap.objs.size ≤ a) : a ∉ X.fs := fun hb => by
  obtain ⟨_, o, ho, _⟩ := I.ok.funs.mem hb
  exact absurd (Nat.lt_of_lt_of_le (Heap.lt_size ho) (Nat.le_trans I.sz h)) (Nat.lt_irrefl _)
theorem Inv.cne (I : Inv X pins σ H s) : ∀ x c, X.env.cells.lookup x = some c → c ≠ X.env.locals := fun x c e z => by
  obtain ⟨v, o, ho, hd⟩ := I.cell x c e
  obtain ⟨m, ⟨o', es, ep, ho', hd', _⟩, _⟩ := I.loc
  rw [z, ho'] at ho; cases ho; rw [hd'] at hd; cases hd
theorem Inv.funs (I : Inv X pins σ H s) : s.heap.FunFrames X.base X.outer := by
  have all : ∀ (l : List Env), (∀ b ∈ frs l, b ∈ X.fs) → X.s₀.heap.FunFrames X.base l → s.heap.FunFrames X.base l := by
    intro l
    induction l with
    | nil => intro _ _; trivial
    | cons env r ih =>
      intro hs hl
      obtain ⟨hk, ⟨L, o, hf, hn, ho, hd⟩, hr⟩ := hl
      have hL : L ∈ X.fs := hs L (by unfold frs; rw [List.filterMap_cons, hf]; exact List.mem_cons_self)
      obtain ⟨sl, e⟩ := I.base.slot L o ho (I.ok.frf L hL) hL fun z => I.ok.exfs L z hL
      exact ⟨hk, ⟨L, _, hf, hn, e, hd⟩, ih (fun b hb => hs b (by unfold frs; rw [List.filterMap_cons, hf]; exact List.mem_cons_of_mem _ hb)) hr⟩
  exact all X.outer (fun _ hb => hb) I.ok.funs
theorem Inv.stack (I : Inv X pins σ H s) : s.heap.FunFrames X.base X.stack := by
  rcases I.ok.stk with e | ⟨e, hf⟩
  · rw [e]; exact I.funs
  · rw [e]
    obtain ⟨m, hn, _⟩ := I.loc
    refine .cons (by rw [I.ok.kind]; decide) hf hn ?_ I.funs
    exact Heap.get?_none_of_le (Nat.le_trans I.ok.bsz I.ok.above)
theorem Inv.stkSub (I : Inv X pins σ H s) : ∀ b ∈ frs X.stack, b ∈ X.env.locals :: X.fs := fun b hb => by
  rcases I.ok.stk with e | ⟨e, hf⟩
  · rw [e] at hb; exact List.mem_cons_of_mem _ hb
  · rw [e] at hb
    unfold frs at hb
    rw [List.filterMap_cons, hf] at hb
    exact hb
theorem Inv.stkFree (I : Inv X pins σ H s) : ∀ b ∈ frs X.stack, H b = none := fun b hb => by
  rcases List.mem_cons.mp (I.stkSub b hb) with e | hb
  · rw [e]; exact I.free
  · obtain ⟨_, o, ho, _⟩ := I.ok.funs.mem hb
    exact I.base.free b o ho (I.ok.frf b hb) fun z => I.ok.exfs b z hb
theorem Inv.step {g' : Array GenState} {t' : Nat} {d' : Drawn} {ch : List Addr} (I : Inv X pins σ H s)
    (hch : ∀ b ∈ ch, (b ∈ X.ex ∨ X.s₀.heap.objs.size ≤ b) ∧ b ≠ X.env.locals ∧ (∀ x c, X.env.cells.lookup x = some c → c ≠ b) ∧ ∀ p ∈ X.pn ++ pins, p.1 ≠ b)
    (keep : ∀ b o, b ≠ X.env.locals → b ∉ X.fs → b ∉ ch → s.heap.get? b = some o → H b = none → h'.get? b = some o)
    (slot : ∀ b o, b ≠ X.env.locals → b ∈ X.fs → b ∉ ch → s.heap.get? b = some o → H b = none → ∃ sl, h'.get? b = some { o with slots := sl }) (free : ∀ b o, b ∉ ch → s.heap.get? b = some o → H b = none → H' b = none)
    (there : ∀ b o, b ∉ ch → s.heap.get? b = some o → ∃ o', h'.get? b = some o')
    (tups : ∀ b xs, H b = some (.tup xs) → H' b = some (.tup xs)) (frzs : ∀ b o u, H b = some (.frz o u) → H' b = some (.frz o u)) (tbls : ∀ b ps, H b = some (.tbl ps) → ∃ more, H' b = some (.tbl (ps ++ more)))
    (ns : ∀ m, s.heap.Ns X.env.locals m → h'.Ns X.env.locals m) (hok : HOk X.prog X.w H' h') (hg : AllBare g') :
    Inv X pins σ H' { s with heap := h', gens := g', drawn := d', toks := t' } := by
  have neL : ∀ b o, X.s₀.heap.get? b = some o → b ≠ X.env.locals := fun b o e => Nat.ne_of_lt (Nat.lt_of_lt_of_le (Heap.lt_size e) I.ok.above)
  have neC : ∀ b o, X.s₀.heap.get? b = some o → b ∉ X.ex → b ∉ ch := fun b o e hx hb => by
    rcases (hch b hb).1 with z | z
    · exact hx z
    · exact absurd (Nat.lt_of_lt_of_le (Heap.lt_size e) z) (Nat.lt_irrefl _)
  have cellK : ∀ x c, X.env.cells.lookup x = some c → ∀ v, s.heap.IsCell c v → h'.IsCell c v := fun x c e v ⟨o, ho, hd⟩ => by
    have nch : c ∉ ch := fun z => (hch c z).2.2.1 x c e rfl
    by_cases hc : c ∈ X.fs
    · obtain ⟨sl, q⟩ := slot c o (I.cne x c e) hc nch ho (I.freeC x c e)
      exact ⟨_, q, hd⟩
    · exact ⟨o, keep c o (I.cne x c e) hc nch ho (I.freeC x c e), hd⟩
  refine ⟨I.ok, I.os, hg, ⟨fun b o e n hb hx => ?_, fun b o e n hb hx => ?_, fun b o e n hx => ?_, fun b o e hx => ?_, fun b xs e => tups b xs (I.base.tups b xs e), fun b o xs e => frzs b o xs (I.base.frzs b o xs e), fun b ps e => ?_⟩, ?_, fun x c e => ?_, ?_, fun x c e => ?_, fun p hp => ?_, hok, I.len⟩
  · exact keep b o (neL b o e) hb (neC b o e hx) (I.base.keep b o e n hb hx) (I.base.free b o e n hx)
  · obtain ⟨sl, e1⟩ := I.base.slot b o e n hb hx
    obtain ⟨sl', e2⟩ := slot b _ (neL b o e) hb (neC b o e hx) e1 (I.base.free b o e n hx)
    exact ⟨sl', e2⟩
  · obtain ⟨o', e1⟩ := I.base.there b o e hx
    exact free b o' (neC b o e hx) e1 (I.base.free b o e n hx)
  · obtain ⟨o', e1⟩ := I.base.there b o e hx
    exact there b o' (neC b o e hx) e1
  · obtain ⟨m1, e1⟩ := I.base.tbls b ps e
    obtain ⟨m2, e2⟩ := tbls b _ e1
    exact ⟨m1 ++ m2, by rw [e2, Array.append_assoc]⟩
  · obtain ⟨m, hn, hl⟩ := I.loc
    refine ⟨m, ns m hn, fun i x v e1 e2 e3 => ?_⟩
    obtain ⟨u, r, l⟩ := hl i x v e1 e2 e3
    refine ⟨u, r, ?_⟩
    rcases l with l | ⟨k, c, e, z⟩
    · exact .inl l
    · exact .inr ⟨k, c, e, cellK x c e _ z⟩
  · obtain ⟨v, z⟩ := I.cell x c e
    exact ⟨v, cellK x c e v z⟩
  · obtain ⟨m, ⟨o, _, _, ho, _⟩, _⟩ := I.loc
    exact free _ o (fun z => (hch _ z).2.1 rfl) ho I.free
  · obtain ⟨v, o, ho, hd⟩ := I.cell x c e
    exact free c o (fun z => (hch c z).2.2.1 x c e rfl) ho (I.freeC x c e)
  · obtain ⟨e, n, ne, nf, d⟩ := I.pin p hp
    have nch : p.1 ∉ ch := fun z => (hch p.1 z).2.2.2 p hp rfl
    exact ⟨keep p.1 p.2 ne nf nch e n, free p.1 p.2 nch e n, ne, nf, d⟩
theorem Inv.un {t' : Nat} (I : Inv X pins σ H s) (u : Un X.fs [] H H' s.heap h') (hok : HOk X.prog X.w H' h') : Inv X pins σ H' { s with heap := h', toks := t' } := by
  obtain ⟨m, ⟨o, es, ep, ho, r⟩, _⟩ := id I.loc
  obtain ⟨sl, hL⟩ := u.any ho I.free (by simp)
  exact I.step (g' := s.gens) (d' := s.drawn) (ch := []) (fun _ z => nomatch z) (fun b o _ hb _ e n => u.keep b o e n hb (by simp)) (fun b o _ hb _ e n => u.slot b o e n hb (by simp)) (fun b o _ e n => u.free b o e n (by simp)) (fun b o _ e => u.there b o e (by simp)) u.tups u.frzs u.tbls (fun m' hm => by
    obtain ⟨o', es', ep', ho', r'⟩ := hm
    rw [ho] at ho'; cases ho'
    exact ⟨_, es', ep', hL, r'⟩) hok I.bare
theorem Inv.call {g' : Array GenState} {t' : Nat} {d' : Drawn} {ch : List Addr} (I : Inv X pins σ H s) (u : Un (frs X.stack) ch H H' s.heap h') (hok : HOk X.prog X.w H' h') (hg : AllBare g')
    (hch : ∀ b ∈ ch, (b ∈ X.ex ∨ X.s₀.heap.objs.size ≤ b) ∧ b ≠ X.env.locals ∧ (∀ x c, X.env.cells.lookup x = some c → c ≠ b) ∧ ∀ p ∈ X.pn ++ pins, p.1 ≠ b) :
    Inv X pins σ H' { s with heap := h', gens := g', drawn := d', toks := t' } := by
  obtain ⟨m, ⟨o, es, ep, ho, r⟩, _⟩ := id I.loc
  obtain ⟨sl, hL⟩ := u.any ho I.free fun z => (hch _ z).2.1 rfl
  exact I.step (ch := ch) hch (fun b o hL hb hc e n => u.keep b o e n (fun z => (List.mem_cons.mp (I.stkSub b z)).elim hL hb) hc) (fun b o _ _ hc e n => u.any e n hc) (fun b o hc e n => u.free b o e n hc) (fun b o hc e => u.there b o e hc) u.tups u.frzs u.tbls (fun m' hm => by
    obtain ⟨o', es', ep', ho', r'⟩ := hm
    rw [ho] at ho'; cases ho'
    exact ⟨_, es', ep', hL, r'⟩) hok hg
theorem Inv.turned {t' : Nat} {it : Addr} (I : Inv X pins σ H s) (k : ∀ b o, b ≠ it → s.heap.get? b = some o → h'.get? b = some o) (hn : H it = none) (hL : it ≠ X.env.locals)
    (h1 : it ∈ X.ex ∨ X.s₀.heap.objs.size ≤ it) (h2 : ∀ x c, X.env.cells.lookup x = some c → c ≠ it) (h3 : ∀ p ∈ X.pn ++ pins, p.1 ≠ it) : Inv X pins σ H { s with heap := h', toks := t' } := by
  have nit : ∀ b u, H b = some u → b ≠ it := fun b u e z => by rw [z, hn] at e; cases e
  refine I.step (g' := s.gens) (d' := s.drawn) (ch := [it]) (fun b hb => ?_) (fun b o _ _ hc e _ => k b o (fun z => hc (by simp [z])) e) (fun b o _ _ hc e _ => ⟨o.slots, k b o (fun z => hc (by simp [z])) e⟩) (fun _ _ _ _ n => n)
    (fun b o hc e => ⟨o, k b o (fun z => hc (by simp [z])) e⟩) (fun _ _ e => e) (fun _ _ _ e => e) (fun b ps e => ⟨#[], by rw [e]; simp⟩) (fun m hm => ?_) (fun b u e => ?_) I.bare
  · have e : b = it := by simpa using hb
    subst e
    exact ⟨h1, hL, h2, h3⟩
  · obtain ⟨o, es, ep, ho, r⟩ := hm
    exact ⟨o, es, ep, k _ o (Ne.symm hL) ho, r⟩
  · refine (I.hok b u e).stay (fun c v hc q => k c v ?_ q) (fun _ q => q) fun _ _ q => q
    rcases hc with z | z
    · rw [z]; exact nit b u e
    · exact nit c _ z
theorem Inv.tok (I : Inv X pins σ H s) (t : Nat) : Inv X pins σ H { s with toks := t } := I.un (h' := s.heap) (t' := t) Un.refl I.hok
theorem Inv.kept {t' : Nat} (I : Inv X pins σ H s) (k : ∀ b u, s.heap.get? b = some u → h'.get? b = some u) : Inv X pins σ H { s with heap := h', toks := t' } := I.un (Un.kept k) (I.hok.kept k)
theorem Inv.laid {a : Addr} {o : HO} {t' : Nat} (I : Inv X pins σ H s) (k : ∀ b u, s.heap.get? b = some u → h'.get? b = some u) (hp : s.heap.objs.size ≤ a) (new : ObjOk X.prog X.w (upd H a o) h' a o) :
    Inv X pins σ (upd H a o) { s with heap := h', toks := t' } := I.un (Un.laid k hp (I.hok.fresh hp)) (I.hok.laid k hp new)
theorem Inv.write {x e : Addr} {o : HO} {t' : Nat} (I : Inv X pins σ H s) (mu : Mut (H x)) (he : e = x ∨ H e = some (.own x)) (k : ∀ b u, b ≠ e → s.heap.get? b = some u → h'.get? b = some u) (heo : ∃ u, h'.get? e = some u)
    (new : ObjOk X.prog X.w (upd H x o) h' x o) : Inv X pins σ (upd H x o) { s with heap := h', toks := t' } := I.un (Un.write mu he k heo) (I.hok.write mu he k heo new)
theorem Inv.pins_of {pins' : List (Addr × Obj)} (I : Inv X pins σ H s) (h : ∀ p ∈ pins', s.heap.get? p.1 = some p.2 ∧ H p.1 = none ∧ p.1 ≠ X.env.locals ∧ p.1 ∉ X.fs ∧ ∀ v, p.2.data ≠ .cell v) : Inv X pins' σ H s :=
  ⟨I.ok, I.os, I.bare, I.base, I.loc, I.cell, I.free, I.freeC, fun p hp => (List.mem_append.mp hp).elim (fun z => I.pin p (List.mem_append_left _ z)) (h p), I.hok, I.len⟩
theorem nodup_ix {N : List Str} (hN : N.Nodup) {i j : Nat} {x : Str} (a : N[i]? = some x) (b : N[j]? = some x) : i = j := by
  obtain ⟨h1, e1⟩ := List.getElem?_eq_some_iff.mp a
  obtain ⟨h2, e2⟩ := List.getElem?_eq_some_iff.mp b
  exact (List.getElem_inj hN).mp (e1.trans e2.symm)
theorem store_ok2 {M : Model} {A : Around} {E : Value → Shared → Prop} {i : Nat} {x : Str} {v : V} {u : Value} {Q : Unit → Shared → Prop} (I : Inv X pins σ H s) (hN : X.N.Nodup) (hi : X.N[i]? = some x) (hx : Loc X.env.scope x) (r : RelV v u)
    (h : ∀ s', Inv X pins (σ.set i (some v)) H s' → (∃ a, Heap.SameBut a s.heap s'.heap ∧ (a = X.env.locals ∨ X.env.cells.lookup x = some a)) → Q () s') (hf : X.fn x = true ∨ X.env.scope.names.lookup x = some .local := by first | exact .inl rfl | exact .inr rfl | assumption) : wpAny M A (storeName X.env x u) Q E s := by
  obtain ⟨m, hn, hl⟩ := id I.loc
  have hcls : (X.env.scope.kind == .class || (X.env.scope.kind == .module && X.env.locals != X.env.globals)) = false := by rw [I.ok.kind]; rfl
  have hiσ : i < σ.length := by rw [I.len]; exact (List.getElem?_eq_some_iff.mp hi).1
  have cne := I.cne
  have tracked : ∀ {a : Addr} {h' : Heap}, (∃ o, s.heap.get? a = some o ∧ H a = none) → Heap.SameBut a s.heap h' → HOk X.prog X.w H h' := fun {a h'} ha hs b ob e => by
    obtain ⟨_, _, hfree⟩ := ha
    refine (I.hok b ob e).stay (fun c w' hc q => (hs.2 c ?_).trans q) (fun _ q => q) fun _ _ q => q
    rintro rfl
    rcases hc with rfl | hc
    · rw [hfree] at e; cases e
    · rw [hfree] at hc; cases hc
  rcases hx with hk | hk
  · refine wpAny_storeName_local hk hn (fun h' hn' hs => ?_) hcls
    obtain ⟨oL, _, _, hoL, _⟩ := id hn
    refine h _ ⟨I.ok, I.os, I.bare, ⟨fun b o e n hb hx => ?_, fun b o e n hb hx => ?_, I.base.free, fun b o e hx => ?_, I.base.tups, I.base.frzs, I.base.tbls⟩, ⟨_, hn', fun j y v' e1 e2 e3 => ?_⟩, fun y c e => ?_, I.free, I.freeC, fun p hp => ?_, tracked ⟨oL, hoL, I.free⟩ hs, by simpa using I.len⟩ ⟨_, hs, .inl rfl⟩
    · exact (hs.2 b (Nat.ne_of_lt (Nat.lt_of_lt_of_le (Heap.lt_size e) I.ok.above))).trans (I.base.keep b o e n hb hx)
    · obtain ⟨sl, e1⟩ := I.base.slot b o e n hb hx
      exact ⟨sl, (hs.2 b (Nat.ne_of_lt (Nat.lt_of_lt_of_le (Heap.lt_size e) I.ok.above))).trans e1⟩
    · obtain ⟨o', e1⟩ := I.base.there b o e hx
      exact ⟨o', (hs.2 b (Nat.ne_of_lt (Nat.lt_of_lt_of_le (Heap.lt_size e) I.ok.above))).trans e1⟩
    · by_cases hj : j = i
      · subst hj
        rw [hi] at e1; cases e1
        rw [List.getElem?_set_self hiσ] at e2
        cases e2
        exact ⟨u, r, .inl ⟨hk, by simp⟩⟩
      · rw [List.getElem?_set_ne (Ne.symm hj)] at e2
        obtain ⟨u', r', q⟩ := hl j y v' e1 e2 e3
        refine ⟨u', r', ?_⟩
        rcases q with ⟨k, e⟩ | ⟨k, c, e, z⟩
        · refine .inl ⟨k, ?_⟩
          have : y ≠ x := fun e => hj (nodup_ix hN e1 (e ▸ hi))
          simp [this, e]
        · exact .inr ⟨k, c, e, z.sameBut hs (cne y c e)⟩
    · obtain ⟨w', z⟩ := I.cell y c e
      exact ⟨w', z.sameBut hs (cne y c e)⟩
    · obtain ⟨e, n, ne, nf, d⟩ := I.pin p hp
      exact ⟨(hs.2 p.1 ne).trans e, n, ne, nf, d⟩
  · have hfn : X.fn x = true := by
      rcases hf with z | z
      · exact z
      · rw [z] at hk; cases hk
    obtain ⟨c, hc⟩ := I.ok.has x (.inl hk)
    obtain ⟨w', z⟩ := I.cell x c hc
    refine wpAny_storeName_cell I.ok.kind hk hc z (fun h' hc' hs => ?_)
    obtain ⟨oc, hoc, hocd⟩ := id z
    refine h { s with heap := h' } ⟨I.ok, I.os, I.bare, ⟨fun b o e n hb hx => ?_, fun b o e n hb hx => ?_, I.base.free, fun b o e hx => ?_, I.base.tups, I.base.frzs, I.base.tbls⟩, ⟨m, hn.sameBut hs (Ne.symm (cne x c hc)), fun j y v' e1 e2 e3 => ?_⟩, fun y c' e => ?_, I.free, I.freeC, fun p hp => ?_, tracked ⟨oc, hoc, I.freeC x c hc⟩ hs, by simpa using I.len⟩ ⟨c, hs, .inr hc⟩
    · exact (hs.2 b (Nat.ne_of_lt (Nat.lt_of_lt_of_le (Heap.lt_size e) (I.ok.cab x c hfn hc)))).trans (I.base.keep b o e n hb hx)
    · obtain ⟨sl, e1⟩ := I.base.slot b o e n hb hx
      exact ⟨sl, (hs.2 b (Nat.ne_of_lt (Nat.lt_of_lt_of_le (Heap.lt_size e) (I.ok.cab x c hfn hc)))).trans e1⟩
    · obtain ⟨o', e1⟩ := I.base.there b o e hx
      exact ⟨o', (hs.2 b (Nat.ne_of_lt (Nat.lt_of_lt_of_le (Heap.lt_size e) (I.ok.cab x c hfn hc)))).trans e1⟩
    · by_cases hj : j = i
      · subst hj
        rw [hi] at e1; cases e1
        rw [List.getElem?_set_self hiσ] at e2
        cases e2
        exact ⟨u, r, .inr ⟨.inl hk, c, hc, hc'⟩⟩
      · rw [List.getElem?_set_ne (Ne.symm hj)] at e2
        obtain ⟨u', r', q⟩ := hl j y v' e1 e2 e3
        refine ⟨u', r', ?_⟩
        rcases q with q | ⟨k, c', e, z'⟩
        · exact .inl q
        · refine .inr ⟨k, c', e, z'.sameBut hs ?_⟩
          rintro rfl
          exact hj (nodup_ix hN e1 (I.ok.inj _ _ _ e hc ▸ hi))
    · by_cases hcc : c' = c
      · subst hcc; exact ⟨_, hc'⟩
      · obtain ⟨w2, z2⟩ := I.cell y c' e
        exact ⟨w2, z2.sameBut hs hcc⟩
    · obtain ⟨e, n, ne, nf, d⟩ := I.pin p hp
      refine ⟨(hs.2 p.1 ?_).trans e, n, ne, nf, d⟩
      intro q
      rw [q, hoc] at e
      have q' : oc = p.2 := Option.some.inj e
      exact d w' (by rw [← q']; exact hocd)
theorem store_ok {M : Model} {A : Around} {E : Value → Shared → Prop} {i : Nat} {x : Str} {v : V} {u : Value} {Q : Unit → Shared → Prop} (I : Inv X pins σ H s) (hN : X.N.Nodup) (hi : X.N[i]? = some x) (hx : Loc X.env.scope x) (r : RelV v u)
    (h : ∀ s', Inv X pins (σ.set i (some v)) H s' → Q () s') (hf : X.fn x = true ∨ X.env.scope.names.lookup x = some .local := by first | exact .inl rfl | exact .inr rfl | assumption) : wpAny M A (storeName X.env x u) Q E s :=
  store_ok2 I hN hi hx r (fun s' I' _ => h s' I') hf
theorem Inv.call' {s' : Shared} {ch : List Addr} (I : Inv X pins σ H s) (ho : s'.os = s.os) (u : Un (frs X.stack) ch H H' s.heap s'.heap) (hok : HOk X.prog X.w H' s'.heap) (hg : AllBare s'.gens)
    (hch : ∀ b ∈ ch, (b ∈ X.ex ∨ X.s₀.heap.objs.size ≤ b) ∧ b ≠ X.env.locals ∧ (∀ x c, X.env.cells.lookup x = some c → c ≠ b) ∧ ∀ p ∈ X.pn ++ pins, p.1 ≠ b) : Inv X pins σ H' s' := by
  obtain ⟨h', g', d', t', o'⟩ := s'
  have e : o' = s.os := ho
  subst e
  exact I.call (g' := g') (t' := t') (d' := d') u hok hg hch
end
noncomputable abbrev XK := Value → Option Addr → Hp → Prop
noncomputable abbrev St := List (Option V)
noncomputable abbrev VK := V → Hp → Prop
noncomputable abbrev TE := St → Hp → VK → Prop
noncomputable abbrev TT := St → Hp → (Bool → Hp → Prop) → Prop
noncomputable abbrev TA := St → Hp → (List V → Hp → Prop) → Prop
structure Ends where
  nx : St → Hp → Prop
  rt : VK
  bk : St → Hp → Prop := fun _ _ => False
  ct : St → Hp → Prop := fun _ _ => False
noncomputable abbrev TS := Ends → St → Hp → Prop
noncomputable def EP (X : Cx) (pins : List (Addr × Obj)) (σ : St) (Q : VK) (u : Value) (s' : Shared) : Prop := ∃ v H', Inv X pins σ H' s' ∧ RelV v u ∧ Q v H'
noncomputable def TP (X : Cx) (pins : List (Addr × Obj)) (σ : St) (Q : Bool → Hp → Prop) (b : Bool) (s' : Shared) : Prop := ∃ H', Inv X pins σ H' s' ∧ Q b H'
noncomputable def AP (X : Cx) (pins : List (Addr × Obj)) (σ : St) (Q : List V → Hp → Prop) (us : List Value) (s' : Shared) : Prop := ∃ vs H', Inv X pins σ H' s' ∧ Vals vs us ∧ Q vs H'
noncomputable def SP (X : Cx) (pins : List (Addr × Obj)) (D : Ends) (f : Flow) (s' : Shared) : Prop :=
  match f with
  | .next => ∃ σ' H', Inv X pins σ' H' s' ∧ D.nx σ' H'
  | .brk => ∃ σ' H', Inv X pins σ' H' s' ∧ D.bk σ' H'
  | .cont => ∃ σ' H', Inv X pins σ' H' s' ∧ D.ct σ' H'
  | .ret u => ∃ v σ' H', Inv X pins σ' H' s' ∧ RelV v u ∧ D.rt v H'
noncomputable def PE (X : Cx) (e : Expr) (t : TE) : Prop :=
  ∀ (pins : List (Addr × Obj)) (s : Shared) (σ : St) (H : Hp) (Q : VK), Inv X pins σ H s → t σ H Q → wpAny (model X.prog X.w) X.A (eval e X.env) (EP X pins σ Q) X.xe s
noncomputable def PT (X : Cx) (e : Expr) (t : TT) : Prop :=
  ∀ (pins : List (Addr × Obj)) (s : Shared) (σ : St) (H : Hp) (Q : Bool → Hp → Prop), Inv X pins σ H s → t σ H Q → wpAny (model X.prog X.w) X.A (isTrue e X.env (eval e X.env)) (TP X pins σ Q) X.xe s
noncomputable def PW (X : Cx) (e : Expr) (t : TT) : Prop :=
  ∀ (whole : Sem Value) (pins : List (Addr × Obj)) (s : Shared) (σ : St) (H : Hp) (Q : Bool → Hp → Prop), Inv X pins σ H s → t σ H Q → wpAny (model X.prog X.w) X.A (isTrue e X.env whole) (TP X pins σ Q) X.xe s
theorem PW.pt {X : Cx} {e : Expr} {t : TT} (h : PW X e t) : PT X e t := h _
noncomputable def PA (X : Cx) (es : List Expr) (t : TA) : Prop :=
  ∀ (pos : Pos) (pins : List (Addr × Obj)) (s : Shared) (σ : St) (H : Hp) (Q : List V → Hp → Prop), Inv X pins σ H s → t σ H Q → wpAny (model X.prog X.w) X.A (spliced (backTo pos (starEach es X.env))) (AP X pins σ Q) X.xe s
noncomputable def PS (X : Cx) (st : Stmt) (t : TS) : Prop :=
  ∀ (pins : List (Addr × Obj)) (s : Shared) (σ : St) (H : Hp) (D : Ends), Inv X pins σ H s → t D σ H → wpAny (model X.prog X.w) X.A (exec st X.env) (SP X pins D) X.xe s
noncomputable def PSs (X : Cx) (st : List Stmt) (t : TS) : Prop :=
  ∀ (pins : List (Addr × Obj)) (s : Shared) (σ : St) (H : Hp) (D : Ends), Inv X pins σ H s → t D σ H → wpAny (model X.prog X.w) X.A (execs st X.env) (SP X pins D) X.xe s
theorem thn {α : Type} {t : Sem α} {Q Q' : α → Shared → Prop} {M : Model} {A : Around} {E : Value → Shared → Prop} {s : Shared} (h : wpAny M A t Q E s) (hQ : ∀ a s, Q a s → Q' a s) : wpAny M A t Q' E s := wpAny_mono h hQ fun _ _ x => x
end L2
namespace L2
open PySem PySem.Spec PyProof.Rows
section
variable {X : Cx}
inductive tVar (i : Nat) (σ : St) (H : Hp) (Q : VK) : Prop
  | mk (v : _) (f1 : σ[i]? = some (some v)) (f2 : Q v H) : tVar i σ H Q
noncomputable def tC (v : V) : TE := fun _ H Q => Q v H
theorem pe_var {i : Nat} {x : Str} {pos : Pos} (hN : X.N[i]? = some x) (hv : Vis X.env.scope x) (hd : (x == ("__debug__" : Str)) = false := by decide) (hcd : (x == ("__classdict__" : Str)) = false := by decide) : PE X (.Name x pos) (tVar i) := by
  intro pins s σ H Q I h
  obtain ⟨v, e, h⟩ := h
  obtain ⟨m, hn, hl⟩ := I.loc
  obtain ⟨u, r, l⟩ := hl i x v hN e hv
  have fin : EP X pins σ Q u s := ⟨v, H, I, r, h⟩
  rcases l with ⟨hk, hm⟩ | ⟨hk, c, hc, hcell⟩
  · exact wpAny_Name (wpAny_loadName_local I.ok.kind hk hn hm fin) hd
  · rcases hk with hk | hk
    · exact wpAny_Name (wpAny_loadName_cell I.ok.kind hk hc hcell fin) hd
    · exact wpAny_Name (wpAny_loadName_free I.ok.kind hk hc hcell fin hcd) hd
theorem pe_int {i j pos} : PE X (.Constant (.int i) j pos) (tC (.int i)) := fun _ _ _ H _ I h => wpAny_Constant_int ⟨.int i, H, I.tok _, ⟨_, rfl⟩, h⟩
theorem pe_bl {b j pos} : PE X (.Constant (.bool b) j pos) (tC (.bl b)) := fun _ _ _ H _ I h => Constant_bool ⟨.bl b, H, I, rfl, h⟩
theorem pe_non {j pos} : PE X (.Constant .none j pos) (tC .non) := fun _ _ _ H _ I h => Constant_none ⟨.non, H, I, rfl, h⟩
theorem pe_str {x j pos} : PE X (.Constant (.str x) j pos) (tC (.str x)) := fun _ _ _ H _ I h => Calls.Constant_str ⟨.str x, H, I.tok _, ⟨_, rfl⟩, h⟩
noncomputable def Gl (X : Cx) (x : Str) : Prop := X.env.kindOf x = some .globalImplicit
theorem ld_glob {E : Value → Shared → Prop} {pins : List (Addr × Obj)} {s : Shared} {σ : St} {H : Hp} {x : Str} {u : Value} {pos : Pos} {Q : Value → Shared → Prop} (I : Inv X pins σ H s) (hg : Gl X x) (hm : X.mg x = some u) (h : Q u s)
    (hd : (x == ("__debug__" : Str)) = false := by decide) : wpAny (model X.prog X.w) X.A (eval (.Name x pos) X.env) Q E s :=
  Calls.Name_function_global I.ok.kind hg (Calls.loadGlobal_global (by rw [I.ok.glob]; exact I.mod.glob.keeps I.bk) hm h) hd
theorem ld_blt {E : Value → Shared → Prop} {pins : List (Addr × Obj)} {s : Shared} {σ : St} {H : Hp} {x : Str} {u : Value} {pos : Pos} {Q : Value → Shared → Prop} (I : Inv X pins σ H s) (hg : Gl X x) (hm : X.mg x = none) (hv : bootBuiltins x = some u) (h : Q u s)
    (hn : x ≠ "__name__" := by decide) (hd : (x == ("__debug__" : Str)) = false := by decide) : wpAny (model X.prog X.w) X.A (eval (.Name x pos) X.env) Q E s := by
  obtain ⟨mb, h1, h2⟩ := I.mod.blt
  exact Calls.Name_function_global I.ok.kind hg (Calls.loadGlobal_builtin (by rw [I.ok.glob]; exact I.mod.glob.keeps I.bk) hm (by rw [I.ok.blt]; exact h1.keeps I.bk) ((h2 x hn).trans hv) h) hd
theorem pe_glob {x : Str} {v : V} {u : Value} {pos : Pos} (hg : Gl X x) (hm : X.mg x = some u) (r : RelV v u) (hd : (x == ("__debug__" : Str)) = false := by decide) : PE X (.Name x pos) (tC v) :=
  fun _ _ _ H _ I h => ld_glob I hg hm ⟨v, H, I, r, h⟩ hd
theorem pe_bltn {x : Str} {v : V} {u : Value} {pos : Pos} (hg : Gl X x) (hm : X.mg x = none) (hv : bootBuiltins x = some u) (r : RelV v u) (hn : x ≠ "__name__" := by decide) (hd : (x == ("__debug__" : Str)) = false := by decide) : PE X (.Name x pos) (tC v) :=
  fun _ _ _ H _ I h => ld_blt I hg hm hv ⟨v, H, I, r, h⟩ hn hd
variable {a b : Expr} {ta tb : TE} {pos : Pos}
variable {tA tB' : TT} {rest : List Expr}
noncomputable def tOr (t u : TT) : TT := fun σ H Q => t σ H fun c H1 => if c = true then Q true H1 else u σ H1 Q
noncomputable def tNot (t : TT) : TT := fun σ H Q => t σ H fun c H1 => Q (!c) H1
theorem pw_or1 (ha : PT X a tA) : PW X (.BoolOp .Or [a] pos) tA := by
  intro wh pins s σ H Q I h
  refine isTrue_or (thn (ha pins s σ H Q I h) fun c s1 e => ?_)
  cases c with
  | false => exact isTrue_or_nil e
  | true => exact e
theorem pw_or (ha : PT X a tA) (hb : PW X (.BoolOp .Or (b :: rest) pos) tB') : PW X (.BoolOp .Or (a :: b :: rest) pos) (tOr tA tB') := by
  intro wh pins s σ H Q I h
  refine isTrue_or (thn (ha pins s σ H _ I h) fun c s1 ⟨H1, I1, q1⟩ => ?_)
  cases c with
  | true => exact ⟨H1, I1, q1⟩
  | false => exact hb wh pins s1 σ H1 Q I1 q1
theorem pt_not (ha : PT X a tA) : PT X (.UnaryOp .Not a pos) (tNot tA) := by
  intro pins s σ H Q I h
  exact isTrue_not (ha pins s σ H (fun c H1 => Q (!c) H1) I h)
inductive tAndVI (tb : TE) (σ : St) (Q : VK) (x : V) (H1 : Hp) : Prop
  | mk (c : _) (f1 : x = .bl c) (f2 : if c = true then tb σ H1 Q else Q (.bl false) H1) : tAndVI tb σ Q x H1
noncomputable def tAndV (ta tb : TE) : TE := fun σ H Q => ta σ H fun x H1 => tAndVI tb σ Q x H1
inductive tNotVI (Q : VK) (x : V) (H1 : Hp) : Prop
  | mk (c : _) (f1 : x = .bl c) (f2 : Q (.bl (!c)) H1) : tNotVI  Q x H1
noncomputable def tNotV (ta : TE) : TE := fun σ H Q => ta σ H fun x H1 => tNotVI  Q x H1
theorem pe_one {op} {t : TE} (h : PE X a t) : PE X (.BoolOp op [a] pos) t := fun pins s σ H Q I hw => BoolOp_one (h pins s σ H Q I hw)
theorem pe_and (ha : PE X a ta) (hb : PE X (.BoolOp .And (b :: rest) pos) tb) : PE X (.BoolOp .And (a :: b :: rest) pos) (tAndV ta tb) := by
  intro pins s σ H Q I h
  refine BoolOp_and (thn (ha pins s σ H _ I h) fun v s1 ⟨x, H1, I1, r1, q1⟩ => ?_)
  obtain ⟨c, rfl, q1⟩ := q1
  cases r1
  refine wpAny_truthy_bool ?_
  cases c with
  | true => exact hb pins s1 σ H1 Q I1 q1
  | false => exact ⟨.bl false, H1, I1, rfl, q1⟩
theorem pe_not (ha : PE X a ta) : PE X (.UnaryOp .Not a pos) (tNotV ta) := by
  intro pins s σ H Q I h
  refine UnaryOp_ (thn (ha pins s σ H _ I h) fun v s1 ⟨x, H1, I1, r1, q1⟩ => ?_)
  obtain ⟨c, rfl, q1⟩ := q1
  cases r1
  exact not_of (wpAny_truthy_bool ⟨.bl (!c), H1, I1, rfl, q1⟩)
noncomputable def tIf (t : TT) (ta tb : TE) : TE := fun σ H Q => t σ H fun c H1 => if c = true then ta σ H1 Q else tb σ H1 Q
theorem pe_ifExp {c : Expr} (hc : PT X c tA) (ha : PE X a ta) (hb : PE X b tb) : PE X (.IfExp c a b pos) (tIf tA ta tb) := by
  intro pins s σ H Q I h
  refine wpAny_IfExp (thn (hc pins s σ H _ I h) fun d s1 ⟨H1, I1, q1⟩ => ?_)
  cases d with
  | true => exact ha pins s1 σ H1 Q I1 q1
  | false => exact hb pins s1 σ H1 Q I1 q1
end
end L2
namespace L2
open PySem PySem.Spec PyProof.Rows
noncomputable def SqL (K : PySem.W.Frag) (H : Hp) (a : Addr) (xs : List V) : Prop :=
  Rd H a (.lst xs) ∨
    ∃ (o : Obj) (its : Array Value) (n : Nat), K.lookup a = some o ∧ o.cls = .type "list" ∧ o.dict = none ∧ o.data = .seq its n ∧ its.size ≤ sizeLine ∧ Vals xs its.toList
noncomputable def SqT (K : PySem.W.Frag) (H : Hp) (a : Addr) (xs : List V) : Prop :=
  Rd H a (.tup xs) ∨
    ∃ (o : Obj) (its : Array Value) (n : Nat), K.lookup a = some o ∧ o.cls = .type "tuple" ∧ o.data = .seq its n ∧ its.size ≤ sizeLine ∧ Vals xs its.toList
noncomputable def absV : Value → Option V
  | .none => some .non
  | .bool b => some (.bl b)
  | .int i _ => some (.int i)
  | .str x _ => some (.str x)
  | .bytes b _ => some (.byt b)
  | .float b _ => some (.flt b)
  | .ref a => some (.ref a)
  | .type n => some (.ty n)
  | _ => none
theorem RelV.abs {x : V} {u : Value} (r : RelV x u) : absV u = some x := by
  cases x with
  | non => cases r; rfl
  | bl _ => cases r; rfl
  | int _ => obtain ⟨t, rfl⟩ := r; rfl
  | str _ => obtain ⟨t, rfl⟩ := r; rfl
  | byt _ => obtain ⟨t, rfl⟩ := r; rfl
  | flt _ => obtain ⟨t, rfl⟩ := r; rfl
  | ref _ => cases r; rfl
  | ty _ => cases r; rfl
theorem RelV.inj {x y : V} {u : Value} (r : RelV x u) (q : RelV y u) : x = y := Option.some.inj (r.abs.symm.trans q.abs)
theorem Vals.inj : ∀ {xs ys : List V} {us : List Value}, Vals xs us → Vals ys us → xs = ys
  | _, _, _, .nil, .nil => rfl
  | _, _, _, .cons r t, .cons r' t' => by rw [r.inj r', Vals.inj t t']
section
variable {X : Cx} {pins : List (Addr × Obj)} {σ : St} {H : Hp} {s : Shared} {a : Addr} {xs ys : List V}
theorem SqL.of {K : PySem.W.Frag} (h : H a = some (.lst xs)) : SqL K H a xs := .inl (.inl h)
theorem SqT.of {K : PySem.W.Frag} (h : H a = some (.tup xs)) : SqT K H a xs := .inl (.inl h)
theorem Inv.list (I : Inv X pins σ H s) (h : SqL X.K H a xs) : ∃ its : List Value, Vals xs its ∧ PlainL s.heap a its.toArray ∧ xs.length ≤ sizeLine := by
  rcases h with h | ⟨o, its, n, hk, hc, hd, hs, hz, r⟩
  · obtain ⟨z, its, n, r, e⟩ := h.ok I.hok
    exact ⟨its, r, ⟨_, n, e, rfl, rfl, rfl⟩, z⟩
  · refine ⟨its.toList, r, ⟨o, n, I.kIn a o hk, hc, hd, by simpa using hs⟩, ?_⟩
    have e := r.length
    simp only [Array.length_toList] at e
    lia
theorem Inv.tuple (I : Inv X pins σ H s) (h : SqT X.K H a xs) : ∃ its : List Value, Vals xs its ∧ IsTup s.heap a its.toArray ∧ xs.length ≤ sizeLine := by
  rcases h with h | ⟨o, its, n, hk, hc, hs, hz, r⟩
  · obtain ⟨z, its, r, p, _⟩ := h.ok I.hok
    exact ⟨its, r, p, z⟩
  · refine ⟨its.toList, r, ⟨o, I.kIn a o hk, hc, n, by simpa using hs⟩, ?_⟩
    have e := r.length
    simp only [Array.length_toList] at e
    lia
theorem Inv.list_inj (I : Inv X pins σ H s) (h : SqL X.K H a xs) (h' : SqL X.K H a ys) : xs = ys := by
  obtain ⟨its, r, ⟨o, n, e, _, _, d⟩, _⟩ := I.list h
  obtain ⟨its', r', ⟨o', n', e', _, _, d'⟩, _⟩ := I.list h'
  rw [e] at e'; cases e'
  rw [d] at d'
  injection d' with d1 _
  have : its = its' := by simpa using congrArg Array.toList d1
  subst this
  exact r.inj r'
theorem Inv.tuple_inj (I : Inv X pins σ H s) (h : SqT X.K H a xs) (h' : SqT X.K H a ys) : xs = ys := by
  obtain ⟨its, r, ⟨o, e, _, n, d⟩, _⟩ := I.tuple h
  obtain ⟨its', r', ⟨o', e', _, n', d'⟩, _⟩ := I.tuple h'
  rw [e] at e'; cases e'
  rw [d] at d'
  injection d' with d1 _
  have : its = its' := by simpa using congrArg Array.toList d1
  subst this
  exact r.inj r'
end
noncomputable abbrev Cx.wish (X : Cx) (E : Value → Shared → Prop) : Cx := { X with xe := E }
noncomputable abbrev Cx.nox (X : Cx) : Cx := X.wish fun _ _ => False
theorem Cx.Ok.wish {X : Cx} (ok : X.Ok) (E : Value → Shared → Prop) : (X.wish E).Ok :=
  ⟨ok.mod, ok.kind, ok.glob, ok.blt, ok.above, ok.inj, ok.has, ok.cab, ok.hd, ok.frames, ok.stk, ok.exf, ok.bs, ok.bsz, ok.noex, ok.exfs, ok.funs, ok.frf⟩
theorem Cx.Ok.unwish {X : Cx} {E : Value → Shared → Prop} (ok : (X.wish E).Ok) : X.Ok :=
  ⟨ok.mod, ok.kind, ok.glob, ok.blt, ok.above, ok.inj, ok.has, ok.cab, ok.hd, ok.frames, ok.stk, ok.exf, ok.bs, ok.bsz, ok.noex, ok.exfs, ok.funs, ok.frf⟩
section
variable {X : Cx} {pins : List (Addr × Obj)} {σ : St} {H : Hp} {s : Shared} {E : Value → Shared → Prop}
theorem Inv.wish (I : Inv X pins σ H s) (E : Value → Shared → Prop) : Inv (X.wish E) pins σ H s := ⟨I.ok.wish E, I.os, I.bare, I.base, I.loc, I.cell, I.free, I.freeC, I.pin, I.hok, I.len⟩
theorem Inv.unwish (I : Inv (X.wish E) pins σ H s) : Inv X pins σ H s := ⟨I.ok.unwish, I.os, I.bare, I.base, I.loc, I.cell, I.free, I.freeC, I.pin, I.hok, I.len⟩
theorem SP.unwish {D : Ends} {f : Flow} {s' : Shared} (h : SP (X.wish E) pins D f s') : SP X pins D f s' := by
  cases f with
  | next => obtain ⟨σ', H', I, q⟩ := h; exact ⟨σ', H', I.unwish, q⟩
  | brk => obtain ⟨σ', H', I, q⟩ := h; exact ⟨σ', H', I.unwish, q⟩
  | cont => obtain ⟨σ', H', I, q⟩ := h; exact ⟨σ', H', I.unwish, q⟩
  | ret u => obtain ⟨v, σ', H', I, r, q⟩ := h; exact ⟨v, σ', H', I.unwish, r, q⟩
theorem PSs.nox {st : List Stmt} {t : TS} (h : PSs X.nox st t) : PSs X st t := fun pins s σ H D I hw =>
  wpAny_mono (h pins s σ H D (I.wish _) hw) (fun _ _ q => q.unwish) fun _ _ z => False.elim z
end
section
variable {X : Cx} {st : Stmt} {rest : List Stmt} {t u : TS} {e : Expr} {te : TE} {pos : Pos}
noncomputable def tNext : TS := fun D σ H => D.nx σ H
noncomputable def tSeq (t u : TS) : TS := fun D σ H => t { D with nx := u D } σ H
theorem pss_nil : PSs X [] tNext := fun _ _ σ H _ I h => wpAny_execs_nil ⟨σ, H, I, h⟩
theorem pss_cons (h1 : PS X st t) (h2 : PSs X rest u) : PSs X (st :: rest) (tSeq t u) := by
  intro pins s σ H D I h
  refine wpAny_execs_cons (thn (h1 pins s σ H { D with nx := u D } I h) fun f s1 q => ?_)
  cases f with
  | next =>
    obtain ⟨σ', H', I', q⟩ := q
    exact h2 pins s1 σ' H' D I' q
  | ret v => exact q
  | brk => exact q
  | cont => exact q
theorem pss_one (h1 : PS X st t) : PSs X [st] t := by
  intro pins s σ H D I h
  refine wpAny_execs_cons (thn (h1 pins s σ H D I h) fun f s1 q => ?_)
  cases f with
  | next => exact wpAny_execs_nil q
  | ret v => exact q
  | brk => exact q
  | cont => exact q
theorem Inv.quiet {pins : List (Addr × Obj)} {σ : St} {H : Hp} {s : Shared} (I : Inv X pins σ H s) : interactive X.env = false := by simp [interactive, I.ok.kind]
noncomputable def tDrop (te : TE) : TS := fun D σ H => te σ H fun _ H1 => D.nx σ H1
theorem ps_expr (he : PE X e te) (hs : swapsWith e none pos.line X.env = pure false := by rfl) : PS X (.Expr e pos) (tDrop te) := by
  intro pins s σ H D I h
  exact wpAny_Expr_any (thn (he pins s σ H _ I h) fun v s1 ⟨x, H1, I1, r1, q1⟩ => ⟨σ, H1, I1, q1⟩) I.quiet hs
noncomputable def tRet (te : TE) : TS := fun D σ H => te σ H D.rt
theorem ps_ret (he : PE X e te) : PS X (.Return (some e) pos) (tRet te) := by
  intro pins s σ H D I h
  exact wpAny_Return_some (thn (he pins s σ H _ I h) fun v s1 ⟨x, H1, I1, r1, q1⟩ => ⟨x, σ, H1, I1, r1, q1⟩)
noncomputable def tIfS (c : TT) (t u : TS) : TS := fun D σ H => c σ H fun b H1 => if b = true then t D σ H1 else u D σ H1
theorem ps_if {c : Expr} {a b : List Stmt} {tc : TT} (hc : PT X c tc) (ha : PSs X a t) (hb : PSs X b u) : PS X (.If c a b pos) (tIfS tc t u) := by
  intro pins s σ H D I h
  refine wpAny_If (thn (hc pins s σ H _ I h) fun d s1 ⟨H1, I1, q1⟩ => ?_)
  cases d with
  | true => exact ha pins s1 σ H1 D I1 q1
  | false => exact hb pins s1 σ H1 D I1 q1
noncomputable def tNever : TS := fun _ _ _ => False
theorem ps_never : PS X st tNever := fun _ _ _ _ _ _ h => h.elim
end
noncomputable abbrev TG := V → St → Hp → (St → Hp → Prop) → Prop
noncomputable abbrev TGs := List V → St → Hp → (St → Hp → Prop) → Prop
noncomputable def PG (X : Cx) (target : Expr) (t : TG) : Prop :=
  ∀ (pins : List (Addr × Obj)) (s : Shared) (σ : St) (H : Hp) (v : V) (u : Value) (Q : St → Hp → Prop), Inv X pins σ H s → RelV v u → t v σ H Q →
    wpAny (model X.prog X.w) X.A (assign target X.env u) (fun _ s' => ∃ σ' H', Inv X pins σ' H' s' ∧ Q σ' H') X.xe s
noncomputable def PGs (X : Cx) (ts : List Expr) (t : TGs) : Prop :=
  ∀ (pins : List (Addr × Obj)) (s : Shared) (σ : St) (H : Hp) (vs : List V) (us : List Value) (Q : St → Hp → Prop), Inv X pins σ H s → Vals vs us → t vs σ H Q →
    wpAny (model X.prog X.w) X.A (assignInOrder ((assignEach ts X.env).map (·.2)) us) (fun _ s' => ∃ σ' H', Inv X pins σ' H' s' ∧ Q σ' H') X.xe s
noncomputable abbrev TSet := V → V → V → Hp → (Hp → Prop) → Prop
noncomputable def PSet (X : Cx) (t : TSet) : Prop :=
  ∀ (pins : List (Addr × Obj)) (s : Shared) (σ : St) (H : Hp) (o i v : V) (ov iv u : Value) (Q : Hp → Prop), Inv X pins σ H s → RelV o ov → RelV i iv → RelV v u → t o i v H Q →
    wpAny (model X.prog X.w) X.A (setItem ov iv u) (fun _ s' => ∃ H', Inv X pins σ H' s' ∧ Q H') X.xe s
section
variable {X : Cx} {pos : Pos}
noncomputable def gName (i : Nat) : TG := fun v σ H Q => Q (σ.set i (some v)) H
theorem pg_name {i : Nat} {x : Str} (hN : X.N.Nodup) (hi : X.N[i]? = some x) (hx : Loc X.env.scope x) (hf : X.fn x = true ∨ X.env.scope.names.lookup x = some .local := by first | exact .inl rfl | exact .inr rfl | assumption) : PG X (.Name x pos) (gName i) := by
  intro pins s σ H v u Q I r h
  exact wpAny_assign_Name (store_ok I hN hi hx r (fun s' I' => ⟨_, H, I', h⟩) hf)
noncomputable def gNil : TGs := fun vs σ H Q => vs = [] ∧ Q σ H
inductive gCons (t : TG) (u : TGs) (vs : List V) (σ : St) (H : Hp) (Q : St → Hp → Prop) : Prop
  | mk (v : _) (r : _) (f1 : vs = v :: r) (f2 : t v σ H fun σ' H' => u r σ' H' Q) : gCons t u vs σ H Q
theorem pgs_nil : PGs X [] gNil := by
  intro pins s σ H vs us Q I r h
  obtain ⟨e, h⟩ := h
  subst e
  cases r
  exact assignInOrder_nil ⟨σ, H, I, h⟩
theorem pgs_cons {e : Expr} {es : List Expr} {t : TG} {u : TGs} (h1 : PG X e t) (h2 : PGs X es u)
    (hs : (assignEach (e :: es) X.env).map (·.2) = assign e X.env :: (assignEach es X.env).map (·.2) := by rfl) : PGs X (e :: es) (gCons t u) := by
  intro pins s σ H vs us Q I r h
  obtain ⟨v, vr, e1, h⟩ := h
  subst e1
  cases r with
  | cons r rr =>
    rw [hs]
    refine assignInOrder_cons (thn (h1 pins s σ H _ _ _ I r h) fun _ s1 ⟨σ1, H1, I1, q1⟩ => ?_)
    exact h2 pins s1 σ1 H1 _ _ Q I1 rr q1
inductive gTup (K : PySem.W.Frag) (n : Nat) (t : TGs) (v : V) (σ : St) (H : Hp) (Q : St → Hp → Prop) : Prop
  | mk (a : _) (xs : _) (f1 : v = .ref a) (f2 : SqT K H a xs) (f3 : xs.length = n) (f4 : t xs σ H Q) : gTup K n t v σ H Q
theorem pg_tup {es : List Expr} {k : Nat} {t : TGs} {n : Nat} (hc : X.calm = true) (h : PGs X es t)
    (hn : (assignEach es X.env).length = n := by rfl) (hst : (assignEach es X.env).findIdx? (·.1) = none := by rfl) : PG X (.Tuple es k pos) (gTup X.K n t) := by
  intro pins s σ H v u Q I r hw
  obtain ⟨a, xs, e1, hq, hl, hw⟩ := hw
  subst e1
  cases r
  obtain ⟨its, rv, ht, hz⟩ := I.tuple hq
  refine assign_Tuple_tuple (I.ok.hd hc) ht (by simp [hn, ← hl, rv.length]) hst fun h' hx => ?_
  have I1 : Inv X pins σ H { s with heap := h' } := I.kept (t' := s.toks) fun b o e => hx b o (Nat.ne_of_lt (Heap.lt_size e)) e
  exact h pins _ σ H xs _ Q I1 (by simpa using rv) hw
noncomputable def gSub (to ti : TE) (t : TSet) : TG := fun v σ H Q => to σ H fun o H1 => ti σ H1 fun i H2 => t o i v H2 fun H3 => Q σ H3
theorem pg_sub {o i : Expr} {to ti : TE} {t : TSet} (ho : PE X o to) (hi : PE X i ti) (hs : PSet X t)
    (ha : ∀ v, assign (.Subscript o i pos) X.env v = (do
      let ov ← holding [v] (eval o X.env)
      let iv ← holding [v, ov] (eval i X.env)
      standAt pos
      holding [v, ov, iv] (setItem ov iv v)
      release [v, ov, iv] []) := by intro _; rfl) : PG X (.Subscript o i pos) (gSub to ti t) := by
  intro pins s σ H v u Q I r h
  rw [ha]
  refine wpAny_bind (wpAny_holding (thn (ho pins s σ H _ I h) fun ov s1 ⟨x, H1, I1, r1, q1⟩ => ?_))
  refine wpAny_bind (wpAny_holding (thn (hi pins s1 σ H1 _ I1 q1) fun iv s2 ⟨y, H2, I2, r2, q2⟩ => ?_))
  refine wpAny_bind (wpAny_standAt (wpAny_bind (wpAny_holding (thn (hs pins s2 σ H2 x y v ov iv u _ I2 r1 r2 r q2) fun _ s3 ⟨H3, I3, q3⟩ => ?_))))
  exact wpAny_release ⟨σ, H3, I3, q3⟩
noncomputable def tAsg (te : TE) (g : TG) : TS := fun D σ H => te σ H fun x H1 => g x σ H1 D.nx
theorem ps_asg {tg e : Expr} {te : TE} {g : TG} (he : PE X e te) (hg : PG X tg g) (hs : swapsWithSole [tg] e pos.line X.env = pure false := by rfl) (hw : swappedStores [tg] e X.env = pure none := by rfl)
    (h1 : (assignEach [tg] X.env).map (·.2) = [assign tg X.env] := by rfl) : PS X (.Assign [tg] e pos) (tAsg te g) := by
  intro pins s σ H D I h
  refine wpAny_Assign_stores (thn (he pins s σ H _ I h) fun v s1 ⟨x, H1, I1, r1, q1⟩ => ?_) hs hw
  rw [h1]
  exact thn (hg pins s1 σ H1 x v _ I1 r1 q1) fun _ s2 q => q
theorem ps_set {i : Nat} {x : Str} {e : Expr} {te : TE} {pos' : Pos} (hN : X.N.Nodup) (hi : X.N[i]? = some x) (hx : Loc X.env.scope x) (he : PE X e te) (hs : swapsWith e (some (.Name x pos')) pos.line X.env = pure false := by rfl) (hf : X.fn x = true ∨ X.env.scope.names.lookup x = some .local := by first | exact .inl rfl | exact .inr rfl | assumption) :
    PS X (.Assign [.Name x pos'] e pos) (tAsg te (gName i)) := by
  intro pins s σ H D I h
  refine wpAny_Assign_Name (thn (he pins s σ H _ I h) fun v s1 ⟨y, H1, I1, r1, q1⟩ => ?_) hs
  exact store_ok I1 hN hi hx r1 (fun s2 I2 => ⟨_, H1, I2, q1⟩) hf
inductive tParI (i j : Nat) (D : Ends) (σ : St) (vs : List V) (H1 : Hp) : Prop
  | mk (v : _) (w : _) (f1 : vs = [v, w]) (f2 : D.nx ((σ.set i (some v)).set j (some w)) H1) : tParI i j D σ vs H1
noncomputable def tPar (i j : Nat) (ta : TA) : TS := fun D σ H => ta σ H fun vs H1 => tParI i j D σ vs H1
theorem ps_par {i j : Nat} {x y : Str} {a b : Expr} {ta : TA} {px py pt : Pos} {kt k2 pt2} (hc : X.calm = true) (hN : X.N.Nodup) (hi : X.N[i]? = some x) (hj : X.N[j]? = some y) (hij : i ≠ j)
    (hx : X.env.scope.names.lookup x = some .local) (hy : X.env.scope.names.lookup y = some .local) (ha : PA X [a, b] ta)
    (hw : swappedStores [.Tuple [.Name x px, .Name y py] kt pt] (.Tuple [a, b] k2 pt2) X.env = pure (some [x, y]))
    (hs : swapsWithSole [.Tuple [.Name x px, .Name y py] kt pt] (.Tuple [a, b] k2 pt2) pos.line X.env = pure false := by rfl) :
    PS X (.Assign [.Tuple [.Name x px, .Name y py] kt pt] (.Tuple [a, b] k2 pt2) pos) (tPar i j ta) := by
  intro pins s σ H D I h
  rw [exec_Assign_arm]
  refine wpAny_bind (wpAny_standAt ?_)
  rw [hs]
  refine wpAny_bind (wpAny_pure ?_)
  rw [if_neg (by decide)]
  refine wpAny_bind (Tuple_ (thn (ha _ pins s σ H _ I h) fun us s1 ⟨vs, H1, I1, r1, q1⟩ => ?_))
  obtain ⟨v, w, e1, q1⟩ := q1
  subst e1
  obtain ⟨u1, u2, rfl, rv, rw'⟩ : ∃ u1 u2, us = [u1, u2] ∧ RelV v u1 ∧ RelV w u2 := by
    cases r1 with
    | cons p q =>
      cases q with
      | cons p' q' =>
        cases q'
        exact ⟨_, _, rfl, p, p'⟩
  refine wpAny_newObj_type ?_ (by show 2 ≤ sizeLine; decide)
  have I2 : Inv X pins σ H1 { s1 with heap := s1.heap.push { cls := .type "tuple", data := .seq [u1, u2].toArray } } := I1.kept (t' := s1.toks) fun b o e => Heap.get?_push_of_some _ e
  rw [hw]
  refine wpAny_bind (wpAny_pure ?_)
  show wpAny (model X.prog X.w) X.A (do rule "assign.swapped-stores"; let items ← unpackItems (.ref s1.heap.objs.size) 2 none; assignInOrder [fun v => bindName X.env y v, fun v => bindName X.env x v] items.reverse; pure Flow.next) _ _ _
  refine wpAny_bind (wpAny_rule (wpAny_bind (unpackItems_tuple (items := #[u1, u2]) (I.ok.hd hc) (IsTup.new s1.heap _) fun h' hx' => ?_)))
  have I3 := I2.kept (h' := h') (t' := s1.toks) fun b o e => hx' b o (Nat.ne_of_lt (Heap.lt_size e)) e
  show wpAny _ _ (assignInOrder [fun v => bindName X.env y v, fun v => bindName X.env x v] [u2, u1] >>= fun _ => pure Flow.next) _ _ _
  refine wpAny_bind (assignInOrder_cons (wpAny_bindName (store_ok I3 hN hj (.inl hy) rw' (fun s2 I4 => ?_) (.inr hy))))
  refine assignInOrder_cons (wpAny_bindName (store_ok I4 hN hi (.inl hx) rv (fun s3 I5 => assignInOrder_nil (wpAny_pure ?_)) (.inr hx)))
  rw [List.set_comm _ _ (Ne.symm hij)] at I5
  exact ⟨_, H1, I5, q1⟩
end
section
variable {X : Cx} {pos : Pos}
noncomputable def tWhile (c : TT) (tb : TS) : TS := fun D σ H => ∃ W : Nat → St → Hp → Prop, (∃ m, W m σ H) ∧ ∀ m σ H, W m σ H →
  c σ H fun b H1 => if b = true then ∃ N : St → Hp → Prop, (∀ σ' H', N σ' H' → ∃ m', m' < m ∧ W m' σ' H') ∧ tb { D with nx := N, ct := N, bk := D.nx } σ H1 else D.nx σ H1
theorem ps_while {c : Expr} {body : List Stmt} {tc : TT} {tb : TS} (hp : PassesOwn (model X.prog X.w) X.A X.env X.xe) (hc : PT X c tc) (hb : PSs X body tb) : PS X (.While c body [] pos) (tWhile tc tb) := by
  intro pins s σ H D I h
  obtain ⟨W, ⟨m0, w0⟩, turn⟩ := h
  refine wpAny_While (codeAny_whileLoop (fun n s' => ∃ σ' H', Inv X pins σ' H' s' ∧ W n σ' H') ?_ m0 ⟨σ, H, I, w0⟩)
  rintro n s1 ⟨σ1, H1, I1, w1⟩
  refine wpAny_passesOwn hp (thn (hc pins s1 σ1 H1 _ I1 (turn n σ1 H1 w1)) fun b s2 ⟨H2, I2, q2⟩ => ?_)
  cases b with
  | true =>
    obtain ⟨N, hN, q2⟩ := q2
    rw [if_pos rfl]
    refine wpAny_passesOwn hp (thn (hb pins s2 σ1 H2 _ I2 q2) fun f s3 q3 => ?_)
    cases f with
    | next =>
      obtain ⟨σ3, H3, I3, n3⟩ := q3
      obtain ⟨m', hm, w3⟩ := hN σ3 H3 n3
      exact ⟨m', hm, σ3, H3, I3, w3⟩
    | cont =>
      obtain ⟨σ3, H3, I3, n3⟩ := q3
      obtain ⟨m', hm, w3⟩ := hN σ3 H3 n3
      exact ⟨m', hm, σ3, H3, I3, w3⟩
    | brk => exact q3
    | ret v => exact q3
  | false =>
    rw [if_neg Bool.false_ne_true]
    exact wpAny_execs_nil ⟨σ1, H2, I2, q2⟩
end
structure It where
  go : Nat → Hp → Prop
  yld : Nat → Hp → V → Hp → Prop
  stop : Nat → Hp → Prop
noncomputable def FpOk (X : Cx) (pins : List (Addr × Obj)) (H : Hp) (b : Addr) : Prop :=
  H b = none ∧ b ≠ X.env.locals ∧ b ∉ X.fs ∧ (b ∈ X.ex ∨ X.s₀.heap.objs.size ≤ b) ∧ (∀ x c, X.env.cells.lookup x = some c → c ≠ b) ∧ ∀ p ∈ X.pn ++ pins, p.1 ≠ b
theorem Inv.fpOk {X : Cx} {pins : List (Addr × Obj)} {σ : St} {H H' : Hp} {s : Shared} {b : Addr} (I : Inv X pins σ H s) (hb : s.heap.objs.size ≤ b) (hn : H' b = none) : FpOk X pins H' b := by
  refine ⟨hn, Nat.ne_of_gt (Nat.lt_of_lt_of_le I.lt hb), I.nofs hb, .inr (Nat.le_trans I.sz hb), fun x c e z => ?_, fun p hp z => ?_⟩
  · obtain ⟨v, q⟩ := I.cell x c e
    exact absurd (Nat.lt_of_lt_of_le q.lt (by rw [z]; exact hb)) (Nat.lt_irrefl _)
  · exact absurd (Nat.lt_of_lt_of_le (Heap.lt_size (I.pin p hp).1) (by rw [z]; exact hb)) (Nat.lt_irrefl _)
structure Turn (P : Program) (w : World) (K : PySem.W.Frag) (tg : Expr) (J : It) (fp : List Addr) (it : Addr) (tn : Nat → Heap → Prop) : Prop where
  mem : it ∈ fp
  obj : ∀ i h, tn i h → ∀ b ∈ fp, ∃ o, h.get? b = some o ∧ ∀ v, o.data ≠ .cell v
  keep : ∀ i h h', tn i h → (∀ b ∈ fp, ∀ o, h.get? b = some o → h'.get? b = some o) → tn i h'
  item : ∀ (X : Cx), X.prog = P → X.w = w → X.K = K → X.calm = true → ∀ (i : Nat) (pins : List (Addr × Obj)) (s : Shared) (σ : St) (H : Hp) (E : Value → Shared → Prop), Inv X pins σ H s → (∀ b ∈ fp, FpOk X pins H b) → tn i s.heap → J.go i H →
    wpAny (model P w) X.A (pyNext (.ref it)) (fun r s1 => ∃ u, r = some u ∧
      wpAny (model P w) X.A (letOwnedTupleGo tg (.ref it) u) (fun _ s2 => ∃ x H', Inv X pins σ H' s2 ∧ RelV x u ∧ J.yld i H x H' ∧ tn (i + 1) s2.heap ∧ ∀ b ∈ fp, H' b = none) E s1) E s
  done : ∀ (X : Cx), X.prog = P → X.w = w → X.K = K → X.calm = true → ∀ (i : Nat) (pins : List (Addr × Obj)) (s : Shared) (σ : St) (H : Hp) (E : Value → Shared → Prop), Inv X pins σ H s → (∀ b ∈ fp, FpOk X pins H b) → tn i s.heap → J.stop i H →
    wpAny (model P w) X.A (pyNext (.ref it)) (fun r s1 => r = none ∧ Inv X pins σ H s1) E s
  self : ∀ (A : Around) (i : Nat) (s : Shared) (Q : Value → Shared → Prop) (E : Value → Shared → Prop), tn i s.heap → Q (.ref it) s → wpAny (model P w) A (pyIter (.ref it)) Q E s
noncomputable abbrev TI := St → Hp → (It → Hp → Prop) → Prop
noncomputable def PIE (X : Cx) (pins : List (Addr × Obj)) (σ : St) (tg : Expr) (R : It → Hp → Prop) (itv : Value) (s2 : Shared) : Prop :=
  ∃ (it : Addr) (fp : List Addr) (tn : Nat → Heap → Prop) (J : It) (H' : Hp), itv = .ref it ∧ Inv X pins σ H' s2 ∧ Turn X.prog X.w X.K tg J fp it tn ∧ tn 0 s2.heap ∧ (∀ b ∈ fp, FpOk X pins H' b) ∧ R J H'
noncomputable def PI (X : Cx) (tg iter : Expr) (wi : TI) : Prop :=
  ∀ (pins : List (Addr × Obj)) (s : Shared) (σ : St) (H : Hp) (R : It → Hp → Prop), Inv X pins σ H s → wi σ H R →
    wpAny (model X.prog X.w) X.A (eval iter X.env) (fun v s1 => wpAny (model X.prog X.w) X.A (pyIter v) (PIE X pins σ tg R) X.xe s1) X.xe s
theorem go_of {M : Model} {A : Around} {E : Value → Shared → Prop} {s : Shared} {tg : Expr} {it : Addr} {u : Value} {o : Obj} {n : String} {vs : Array Value} {Q : Unit → Shared → Prop} (ho : s.heap.get? it = some o) (hc : o.cls = .type n) (hd : o.data = .fields vs)
    (hn : ["enumerate", "zip", "dict_itemiterator", "dict_reverseitemiterator", "odict_iterator", "itertools.zip_longest", "itertools.pairwise"].contains n = false) (hQ : Q () s) : wpAny M A (letOwnedTupleGo tg (.ref it) u) Q E s := by
  unfold letOwnedTupleGo
  cases tg <;> first
    | exact wpAny_pure hQ
    | (cases u <;> first
        | exact wpAny_pure hQ
        | (refine wpAny_bind (wpAny_load ho ?_)
           rw [hc, hd]
           show wpAny M A (if (["enumerate", "zip", "dict_itemiterator", "dict_reverseitemiterator", "odict_iterator", "itertools.zip_longest", "itertools.pairwise"].contains n && vs[0]? == some (rawInt _)) = true then _ else _) Q E s
           rw [if_neg (by intro h; rw [hn, Bool.false_and] at h; cases h)]
           exact wpAny_pure hQ))
noncomputable def Itl (K : PySem.W.Frag) (a : Addr) : It :=
  ⟨fun i H => ∃ xs x, SqL K H a xs ∧ xs[i]? = some x, fun i H x H' => H' = H ∧ ∀ xs, SqL K H a xs → xs[i]? = some x, fun i H => ∃ xs, SqL K H a xs ∧ xs.length ≤ i⟩
noncomputable def Itt (K : PySem.W.Frag) (a : Addr) : It :=
  ⟨fun i H => ∃ xs x, SqT K H a xs ∧ xs[i]? = some x, fun i H x H' => H' = H ∧ ∀ xs, SqT K H a xs → xs[i]? = some x, fun i H => ∃ xs, SqT K H a xs ∧ xs.length ≤ i⟩
noncomputable def Itr (lo : Int) (n : Nat) : It := ⟨fun i _ => i < n, fun i H x H' => H' = H ∧ x = .int (lo + i), fun i _ => n ≤ i⟩
theorem turn_list {P : Program} {w : World} {K : PySem.W.Frag} {tg : Expr} (a it : Addr) : Turn P w K tg (Itl K a) [it] it (fun i h => h.IsListIter it a i) where
  mem := by simp
  obj := fun i h st b hb => by
    have e : b = it := by simpa using hb
    subst e
    obtain ⟨o, e, c, d⟩ := st
    exact ⟨o, e, fun v z => by rw [d] at z; cases z⟩
  keep := fun i h h' st k => st.at fun o e => k it (by simp) o e
  item := by
    intro X hP hw hK hc i pins s σ H E I hf st hg
    subst hP hw hK
    obtain ⟨xs, x, hq, hx⟩ := hg
    obtain ⟨its, rv, p, hz⟩ := I.list hq
    obtain ⟨u, hu, ru⟩ := rv.get hx
    obtain ⟨f0, f1, f2, f3, f4, f5⟩ := hf it (by simp)
    refine wpAny_pyNext_list_item st p.isList (x := u) (by simpa using hu) fun h' st' sb => ?_
    have I1 : Inv X pins σ H { s with heap := h' } := I.turned (t' := s.toks) (fun b o hb e => (sb.2 b hb).trans e) f0 f1 f3 f4 f5
    obtain ⟨o, e, c, d⟩ := id st'
    exact ⟨u, rfl, go_of (s := { s with heap := h' }) e c d (by decide) ⟨x, H, I1, ru, ⟨rfl, fun ys hy => by rw [I.list_inj hy hq]; exact hx⟩, st', fun b hb => (hf b hb).1⟩⟩
  done := by
    intro X hP hw hK hc i pins s σ H E I hf st hg
    subst hP hw hK
    obtain ⟨xs, hq, hx⟩ := hg
    obtain ⟨its, rv, p, hz⟩ := I.list hq
    obtain ⟨f0, f1, f2, f3, f4, f5⟩ := hf it (by simp)
    have hl := rv.length
    exact wpAny_pyNext_list_end (I.ok.hd hc) st p.isList (by simp; lia) fun h' eb => ⟨rfl, I.turned (t' := s.toks) (fun b o hb e => eb b o hb e) f0 f1 f3 f4 f5⟩
  self := fun _ _ _ _ _ st h => wpAny_pyIter_listiter st h
theorem turn_tuple {P : Program} {w : World} {K : PySem.W.Frag} {tg : Expr} (a it : Addr) : Turn P w K tg (Itt K a) [it] it (fun i h => h.IsTupleIter it a i) where
  mem := by simp
  obj := fun i h st b hb => by
    have e : b = it := by simpa using hb
    subst e
    obtain ⟨o, e, c, d⟩ := st
    exact ⟨o, e, fun v z => by rw [d] at z; cases z⟩
  keep := fun i h h' st k => st.at fun o e => k it (by simp) o e
  item := by
    intro X hP hw hK hc i pins s σ H E I hf st hg
    subst hP hw hK
    obtain ⟨xs, x, hq, hx⟩ := hg
    obtain ⟨its, rv, p, hz⟩ := I.tuple hq
    obtain ⟨u, hu, ru⟩ := rv.get hx
    obtain ⟨f0, f1, f2, f3, f4, f5⟩ := hf it (by simp)
    refine wpAny_pyNext_tuple_item st (show s.heap.IsTuple a its.toArray from p) (x := u) (by simpa using hu) fun h' st' sb => ?_
    have I1 : Inv X pins σ H { s with heap := h' } := I.turned (t' := s.toks) (fun b o hb e => (sb.2 b hb).trans e) f0 f1 f3 f4 f5
    obtain ⟨o, e, c, d⟩ := id st'
    exact ⟨u, rfl, go_of (s := { s with heap := h' }) e c d (by decide) ⟨x, H, I1, ru, ⟨rfl, fun ys hy => by rw [I.tuple_inj hy hq]; exact hx⟩, st', fun b hb => (hf b hb).1⟩⟩
  done := by
    intro X hP hw hK hc i pins s σ H E I hf st hg
    subst hP hw hK
    obtain ⟨xs, hq, hx⟩ := hg
    obtain ⟨its, rv, p, hz⟩ := I.tuple hq
    obtain ⟨f0, f1, f2, f3, f4, f5⟩ := hf it (by simp)
    have hl := rv.length
    exact wpAny_pyNext_tuple_end (I.ok.hd hc) st (show s.heap.IsTuple a its.toArray from p) (by simp; lia) fun h' eb => ⟨rfl, I.turned (t' := s.toks) (fun b o hb e => eb b o hb e) f0 f1 f3 f4 f5⟩
  self := fun _ _ _ _ _ st h => wpAny_pyIter_tupleiter st h
theorem turn_range {P : Program} {w : World} {K : PySem.W.Frag} {tg : Expr} (it : Addr) (lo : Int) (n : Nat) : Turn P w K tg (Itr lo n) [it] it (fun i h => IsRangeIter h it (lo + (i : Nat) * 1) ((n : Int) - (i : Nat)) 1) where
  mem := by simp
  obj := fun i h st b hb => by
    have e : b = it := by simpa using hb
    subst e
    exact ⟨_, st, fun v z => by
      have z' : Data.fields _ = Data.cell v := z
      cases z'⟩
  keep := fun i h h' st k => k it (by simp) _ st
  item := by
    intro X hP hw hK hc i pins s σ H E I hf st hg
    subst hP hw hK
    obtain ⟨f0, f1, f2, f3, f4, f5⟩ := hf it (by simp)
    have W := Walks.range (prog := X.prog) (w := X.w) (I.ok.hd hc) it lo 1 n
    refine W.item i s _ _ hg st fun v h' tk hv st' kk => ?_
    obtain ⟨t, rfl⟩ := hv
    have I1 : Inv X pins σ H { s with heap := h', toks := tk } := I.turned (fun b o hb e => kk b o (by simpa using hb) e) f0 f1 f3 f4 f5
    refine ⟨_, rfl, go_of (s := { s with heap := h', toks := tk }) (n := "range_iterator") st' rfl rfl (by decide) ⟨.int (lo + i), H, I1, ⟨t, ?_⟩, ⟨rfl, rfl⟩, st', fun b hb => (hf b hb).1⟩⟩
    rw [Int.mul_one]
  done := by
    intro X hP hw hK hc i pins s σ H E I hf st hg
    subst hP hw hK
    obtain ⟨f0, f1, f2, f3, f4, f5⟩ := hf it (by simp)
    exact wpAny_pyNext_range_end (I.ok.hd hc) st (by have : n ≤ i := hg; lia) fun h' eb => ⟨rfl, I.turned (t' := s.toks) (fun b o hb e => eb b o hb e) f0 f1 f3 f4 f5⟩
  self := fun _ _ _ _ _ st h => wpAny_pyIter_rangeiter st h
end L2
namespace L2
open PySem PySem.Spec PyProof.Rows
section
variable {X : Cx} {tg : Expr}
inductive iListI (K : PySem.W.Frag) (R : It → Hp → Prop) (x : V) (H1 : Hp) : Prop
  | mk (a : _) (f1 : x = .ref a) (f2 : (∃ xs, SqL K H1 a xs)) (f3 : R (Itl K a) H1) : iListI K R x H1
noncomputable def iList (K : PySem.W.Frag) (tl : TE) : TI := fun σ H R => tl σ H fun x H1 => iListI K R x H1
inductive iTupI (K : PySem.W.Frag) (R : It → Hp → Prop) (x : V) (H1 : Hp) : Prop
  | mk (a : _) (f1 : x = .ref a) (f2 : (∃ xs, SqT K H1 a xs)) (f3 : R (Itt K a) H1) : iTupI K R x H1
noncomputable def iTup (K : PySem.W.Frag) (tl : TE) : TI := fun σ H R => tl σ H fun x H1 => iTupI K R x H1
theorem pi_list {l : Expr} {tl : TE} (hl : PE X l tl) : PI X tg l (iList X.K tl) := by
  intro pins s σ H R I h
  refine thn (hl pins s σ H _ I h) fun v s1 ⟨x, H1, I1, r1, q1⟩ => ?_
  obtain ⟨a, e, ⟨xs, hq⟩, q⟩ := q1
  subst e
  cases r1
  obtain ⟨its, rv, p, hz⟩ := I1.list hq
  refine wpAny_pyIter_list p.isList ?_
  refine ⟨s1.heap.objs.size, [s1.heap.objs.size], _, _, H1, rfl, I1.kept (t' := s1.toks) fun b o e => Heap.get?_push_of_some _ e, turn_list a _, ⟨_, Heap.get?_push_size _ rfl, rfl, rfl⟩, fun b hb => ?_, q⟩
  have e : b = s1.heap.objs.size := by simpa using hb
  subst e
  exact I1.fpOk (Nat.le_refl _) (I1.hok.fresh (Nat.le_refl _))
theorem pi_tup {l : Expr} {tl : TE} (hl : PE X l tl) : PI X tg l (iTup X.K tl) := by
  intro pins s σ H R I h
  refine thn (hl pins s σ H _ I h) fun v s1 ⟨x, H1, I1, r1, q1⟩ => ?_
  obtain ⟨a, e, ⟨xs, hq⟩, q⟩ := q1
  subst e
  cases r1
  obtain ⟨its, rv, p, hz⟩ := I1.tuple hq
  refine wpAny_pyIter_tuple (show s1.heap.IsTuple a its.toArray from p) ?_
  refine ⟨s1.heap.objs.size, [s1.heap.objs.size], _, _, H1, rfl, I1.kept (t' := s1.toks) fun b o e => Heap.get?_push_of_some _ e, turn_tuple a _, ⟨_, Heap.get?_push_size _ rfl, rfl, rfl⟩, fun b hb => ?_, q⟩
  have e : b = s1.heap.objs.size := by simpa using hb
  subst e
  exact I1.fpOk (Nat.le_refl _) (I1.hok.fresh (Nat.le_refl _))
theorem range_it {pins : List (Addr × Obj)} {σ : St} {H : Hp} {s : Shared} {R : It → Hp → Prop} {E : Value → Shared → Prop} {lo hi : Int} {t u v : Tok} {tk : Nat} (I : Inv X pins σ H s) (h1 : -(2 ^ 62) ≤ lo) (h2 : lo < 2 ^ 62) (h3 : -(2 ^ 62) ≤ hi) (h4 : hi < 2 ^ 62)
    (q : R (Itr lo (hi - lo).toNat) H) : wpAny (model X.prog X.w) X.A (pyIter (.ref s.heap.objs.size)) (PIE X pins σ tg R) E { s with heap := s.heap.push { cls := .type "range", data := .fields #[.int lo t, .int hi u, .int 1 v] }, toks := tk } := by
  refine wpAny_pyIter_range (IsRange.new ..) (small_one h1 h2 h3 h4) ?_
  have I1 : Inv X pins σ H { s with heap := s.heap.push { cls := .type "range", data := .fields #[.int lo t, .int hi u, .int 1 v] }, toks := tk } := I.kept fun b o e => Heap.get?_push_of_some _ e
  refine ⟨(s.heap.push { cls := .type "range", data := .fields #[.int lo t, .int hi u, .int 1 v] }).objs.size, [(s.heap.push { cls := .type "range", data := .fields #[.int lo t, .int hi u, .int 1 v] }).objs.size], _, _, H, rfl,
    I1.kept (t' := tk) fun b o e => Heap.get?_push_of_some _ e, turn_range _ lo (hi - lo).toNat, ?_, fun b hb => ?_, q⟩
  · have e1 : lo + ((0 : Nat) : Int) * 1 = lo := by simp
    have e2 : (((hi - lo).toNat : Nat) : Int) - ((0 : Nat) : Int) = Builtin.Range.rangeSize lo hi 1 := by rw [rangeSize_one]; split <;> lia
    show IsRangeIter _ _ (lo + ((0 : Nat) : Int) * 1) ((((hi - lo).toNat : Nat) : Int) - ((0 : Nat) : Int)) 1
    rw [e1, e2]
    exact Heap.get?_push_size _ rfl
  · have e : b = (s.heap.push { cls := .type "range", data := .fields #[.int lo t, .int hi u, .int 1 v] }).objs.size := by simpa using hb
    subst e
    exact I1.fpOk (Nat.le_refl _) (I1.hok.fresh (Nat.le_refl _))
inductive iRng1I (R : It → Hp → Prop) (vs : List V) (H1 : Hp) : Prop
  | mk (j : Int) (f1 : vs = [.int j]) (f2 : -(2 ^ 62) ≤ j) (f3 : j < 2 ^ 62) (f4 : R (Itr 0 j.toNat) H1) : iRng1I  R vs H1
noncomputable def iRng1 (ta : TA) : TI := fun σ H R => ta σ H fun vs H1 => iRng1I  R vs H1
theorem pi_range1 {a : Expr} {ta : TA} {p pos : Pos} (hg : Gl X "range") (hm : X.mg "range" = none) (ha : PA X [a] ta) (hs : starEach [a] X.env = [(false, eval a X.env)] := by rfl) : PI X tg (.Call (.Name "range" p) [a] [] pos) (iRng1 ta) := by
  intro pins s σ H R I h
  refine Call_ (ld_blt I hg hm boot_range (PyProof.Rows.callWith_type1 (thn (ha pos pins s σ H _ I h) fun us s1 ⟨vs, H1, I1, r1, q1⟩ => ?_) hs rfl))
  obtain ⟨j, e, q1, q2, q⟩ := q1
  subst e
  cases r1 with
  | cons r rr =>
    cases rr
    obtain ⟨t, rfl⟩ := r
    exact call_range_1 (range_it I1 (by lia) (by lia) q1 q2 (by simpa using q))
noncomputable def tFor (wi : TI) (g : TG) (tb : TS) : TS := fun D σ H => wi σ H fun J H1 => ∃ W : Nat → Nat → St → Hp → Prop, (∃ m, W 0 m σ H1) ∧ ∀ i m σ H, W i m σ H →
  (J.stop i H ∧ D.nx σ H) ∨ (J.go i H ∧ ∃ N : St → Hp → Prop, (∀ σ' H', N σ' H' → ∃ m', m' < m ∧ W (i + 1) m' σ' H') ∧ ∀ x H', J.yld i H x H' → g x σ H' fun σ2 H2 => tb { D with nx := N, ct := N, bk := D.nx } σ2 H2)
noncomputable def pinsAt (fp : List Addr) (h : Heap) : List (Addr × Obj) := fp.filterMap fun b => (h.get? b).map fun o => (b, o)
theorem mem_pinsAt {fp : List Addr} {h : Heap} {b : Addr} {o : Obj} (hb : b ∈ fp) (e : h.get? b = some o) : (b, o) ∈ pinsAt fp h := List.mem_filterMap.mpr ⟨b, hb, by rw [e]; rfl⟩
theorem of_pinsAt {fp : List Addr} {h : Heap} {p : Addr × Obj} (hp : p ∈ pinsAt fp h) : p.1 ∈ fp ∧ h.get? p.1 = some p.2 := by
  obtain ⟨b, hb, e⟩ := List.mem_filterMap.mp hp
  cases q : h.get? b with
  | none => rw [q] at e; cases e
  | some o =>
    rw [q] at e
    have e' : (b, o) = p := Option.some.inj e
    subst e'
    exact ⟨hb, q⟩
theorem Inv.pinned {pins : List (Addr × Obj)} {σ : St} {H : Hp} {s : Shared} {fp : List Addr} (I : Inv X pins σ H s) (hf : ∀ b ∈ fp, FpOk X pins H b) (ho : ∀ b ∈ fp, ∃ o, s.heap.get? b = some o ∧ ∀ v, o.data ≠ .cell v) : Inv X (pins ++ pinsAt fp s.heap) σ H s :=
  I.pins_of fun p hp => (List.mem_append.mp hp).elim (fun z => I.pin p (List.mem_append_right _ z)) fun z => by
    obtain ⟨hb, e⟩ := of_pinsAt z
    obtain ⟨f0, f1, f2, _⟩ := hf p.1 hb
    obtain ⟨o, e', d⟩ := ho p.1 hb
    rw [e] at e'; cases e'
    exact ⟨e, f0, f1, f2, d⟩
theorem Inv.unpinned {pins pl : List (Addr × Obj)} {σ : St} {H : Hp} {s : Shared} (I : Inv X (pins ++ pl) σ H s) : Inv X pins σ H s := I.pins_of fun p hp => I.pin p (List.mem_append_right _ (List.mem_append_left _ hp))
theorem ps_for {iter : Expr} {body : List Stmt} {wi : TI} {g : TG} {tb : TS} {pos : Pos} (hp : PassesOwn (model X.prog X.w) X.A X.env X.xe) (hc : X.calm = true) (hi : PI X tg iter wi) (hg : PG X tg g) (hb : PSs X body tb)
    (hs : ∀ x, foldedSetIterable iter X.env x = pure x := by intro _; rfl) : PS X (.For tg iter body [] pos) (tFor wi g tb) := by
  intro pins s σ H D I h
  refine wpAny_For (thn (hi pins s σ H _ I h) fun v s1 h1 => thn h1 fun itv s2 h2 => ?_) hs
  obtain ⟨it, fp, tn, J, H2, e, I2, T, st2, f2, W, ⟨m0, w0⟩, turn⟩ := h2
  subst e
  -- what stays true of the iterator's objects through the loop
  have stat : ∀ {H' : Hp}, (∀ b ∈ fp, H' b = none) → ∀ b ∈ fp, FpOk X pins H' b := fun hn b hb => ⟨hn b hb, (f2 b hb).2⟩
  refine codeAny_forLoop_any (fun n s' => ∃ i σ' H', Inv X pins σ' H' s' ∧ tn i s'.heap ∧ (∀ b ∈ fp, H' b = none) ∧ W i n σ' H') ?_ m0 ⟨0, σ, H2, I2, st2, fun b hb => (f2 b hb).1, w0⟩
  rintro n s3 ⟨i, σ3, H3, I3, st3, fr3, w3⟩
  rcases turn i n σ3 H3 w3 with ⟨stop, qn⟩ | ⟨go, N, hN, step⟩
  · refine wpAny_passesOwn hp (thn (T.done X rfl rfl rfl hc i pins s3 σ3 H3 X.xe I3 (stat fr3) st3 stop) fun r s4 ⟨hr, I4⟩ => ?_)
    subst hr
    exact wpAny_execs_nil ⟨σ3, H3, I4, qn⟩
  · refine wpAny_passesOwn hp (thn (T.item X rfl rfl rfl hc i pins s3 σ3 H3 X.xe I3 (stat fr3) st3 go) fun r s4 ⟨u, hr, h4⟩ => ?_)
    subst hr
    refine wpAny_passesOwn hp (thn h4 fun _ s5 ⟨x, H5, I5, r5, y5, st5, fr5⟩ => ?_)
    have I5' := I5.pinned (stat fr5) (T.obj _ _ st5)
    refine wpAny_passesOwn hp (thn (hg _ s5 σ3 H5 x u _ I5' r5 (step x H5 y5)) fun _ s6 ⟨σ6, H6, I6, q6⟩ => ?_)
    refine wpAny_passesOwn hp (thn (hb _ s6 σ6 H6 _ I6 q6) fun f s7 q7 => ?_)
    have again : ∀ {σ7 : St} {H7 : Hp}, Inv X (pins ++ pinsAt fp s5.heap) σ7 H7 s7 → N σ7 H7 → ∃ m, m < n ∧ ∃ i σ' H', Inv X pins σ' H' s7 ∧ tn i s7.heap ∧ (∀ b ∈ fp, H' b = none) ∧ W i m σ' H' := fun {σ7 H7} I7 n7 => by
      obtain ⟨m', hm, w7⟩ := hN σ7 H7 n7
      refine ⟨m', hm, i + 1, σ7, H7, I7.unpinned, T.keep _ _ _ st5 fun b hb o e => (I7.pin (b, o) (List.mem_append_right _ (List.mem_append_right _ (mem_pinsAt hb e)))).1, fun b hb => ?_, w7⟩
      obtain ⟨o, e, d⟩ := T.obj _ _ st5 b hb
      exact (I7.pin (b, o) (List.mem_append_right _ (List.mem_append_right _ (mem_pinsAt hb e)))).2.1
    cases f with
    | next => obtain ⟨σ7, H7, I7, n7⟩ := q7; exact again I7 n7
    | cont => obtain ⟨σ7, H7, I7, n7⟩ := q7; exact again I7 n7
    | brk => obtain ⟨σ7, H7, I7, q7⟩ := q7; exact ⟨σ7, H7, I7.unpinned, q7⟩
    | ret v => obtain ⟨x7, σ7, H7, I7, r7, q7⟩ := q7; exact ⟨x7, σ7, H7, I7.unpinned, r7, q7⟩
end
theorem for_list {K : PySem.W.Frag} {a : Addr} {xs : List V} {g : TG} {tb : TS} {D : Ends} {σ : St} {H : Hp} (Pv : Nat → St → Hp → Prop) (h0 : Pv 0 σ H) (hl : ∀ i σ H, i ≤ xs.length → Pv i σ H → SqL K H a xs)
    (hs : ∀ i x σ H, xs[i]? = some x → Pv i σ H → g x σ H fun σ2 H2 => tb { D with nx := Pv (i + 1), ct := Pv (i + 1), bk := D.nx } σ2 H2) (hd : ∀ σ H, Pv xs.length σ H → D.nx σ H) :
    ∃ W : Nat → Nat → St → Hp → Prop, (∃ m, W 0 m σ H) ∧ ∀ i m σ H, W i m σ H →
      ((Itl K a).stop i H ∧ D.nx σ H) ∨ ((Itl K a).go i H ∧ ∃ N : St → Hp → Prop, (∀ σ' H', N σ' H' → ∃ m', m' < m ∧ W (i + 1) m' σ' H') ∧ ∀ x H', (Itl K a).yld i H x H' → g x σ H' fun σ2 H2 => tb { D with nx := N, ct := N, bk := D.nx } σ2 H2) := by
  refine ⟨fun i m σ H => m = xs.length - i ∧ i ≤ xs.length ∧ Pv i σ H, ⟨xs.length, by simp, Nat.zero_le _, h0⟩, ?_⟩
  rintro i m σ H ⟨rfl, hi, p⟩
  have q := hl i σ H hi p
  by_cases hlt : i < xs.length
  · refine .inr ⟨⟨xs, xs[i], q, by simp [hlt]⟩, Pv (i + 1), fun σ' H' p' => ⟨xs.length - (i + 1), by lia, rfl, hlt, p'⟩, fun x H' y => ?_⟩
    obtain ⟨e, y⟩ := y
    subst e
    exact hs i x σ _ (y xs q) p
  · have e : i = xs.length := by lia
    subst e
    exact .inl ⟨⟨xs, q, Nat.le_refl _⟩, hd σ H p⟩
theorem for_range {lo : Int} {n : Nat} {g : TG} {tb : TS} {D : Ends} {σ : St} {H : Hp} (Pv : Nat → St → Hp → Prop) (h0 : Pv 0 σ H)
    (hs : ∀ i σ H, i < n → Pv i σ H → g (.int (lo + i)) σ H fun σ2 H2 => tb { D with nx := Pv (i + 1), ct := Pv (i + 1), bk := D.nx } σ2 H2) (hd : ∀ σ H, Pv n σ H → D.nx σ H) :
    ∃ W : Nat → Nat → St → Hp → Prop, (∃ m, W 0 m σ H) ∧ ∀ i m σ H, W i m σ H →
      ((Itr lo n).stop i H ∧ D.nx σ H) ∨ ((Itr lo n).go i H ∧ ∃ N : St → Hp → Prop, (∀ σ' H', N σ' H' → ∃ m', m' < m ∧ W (i + 1) m' σ' H') ∧ ∀ x H', (Itr lo n).yld i H x H' → g x σ H' fun σ2 H2 => tb { D with nx := N, ct := N, bk := D.nx } σ2 H2) := by
  refine ⟨fun i m σ H => m = n - i ∧ i ≤ n ∧ Pv i σ H, ⟨n, by simp, Nat.zero_le _, h0⟩, ?_⟩
  rintro i m σ H ⟨rfl, hi, p⟩
  by_cases hlt : i < n
  · refine .inr ⟨hlt, Pv (i + 1), fun σ' H' p' => ⟨n - (i + 1), by lia, rfl, hlt, p'⟩, fun x H' y => ?_⟩
    obtain ⟨e, y⟩ := y
    subst e y
    exact hs i σ _ hlt p
  · have e : i = n := by lia
    subst e
    exact .inl ⟨Nat.le_refl _, hd σ H p⟩
end L2
namespace L2
open PySem PySem.Spec PyProof.Rows
noncomputable abbrev R2 := V → V → Hp → VK → Prop
noncomputable def OpR (X : Cx) (f : Value → Value → Sem Value) (r : R2) : Prop :=
  ∀ (pins : List (Addr × Obj)) (s : Shared) (σ : St) (H : Hp) (x y : V) (v u : Value) (Q : VK), Inv X pins σ H s → RelV x v → RelV y u → r x y H Q →
    wpAny (model X.prog X.w) X.A (f v u) (EP X pins σ Q) X.xe s
noncomputable def UnR (X : Cx) (f : Value → Sem Value) (r : V → Hp → VK → Prop) : Prop :=
  ∀ (pins : List (Addr × Obj)) (s : Shared) (σ : St) (H : Hp) (x : V) (v : Value) (Q : VK), Inv X pins σ H s → RelV x v → r x H Q →
    wpAny (model X.prog X.w) X.A (f v) (EP X pins σ Q) X.xe s
noncomputable def CallR (X : Cx) (f : Value) (r : List V → Hp → VK → Prop) : Prop :=
  ∀ (pins : List (Addr × Obj)) (s : Shared) (σ : St) (H : Hp) (xs : List V) (us : List Value) (Q : VK), Inv X pins σ H s → Vals xs us → r xs H Q →
    wpAny (model X.prog X.w) X.A (call f us) (EP X pins σ Q) X.xe s
noncomputable def TruR (X : Cx) (r : V → Hp → (Bool → Hp → Prop) → Prop) : Prop :=
  ∀ (pins : List (Addr × Obj)) (s : Shared) (σ : St) (H : Hp) (x : V) (v : Value) (Q : Bool → Hp → Prop), Inv X pins σ H s → RelV x v → r x H Q →
    wpAny (model X.prog X.w) X.A (truthy v) (TP X pins σ Q) X.xe s
noncomputable def tOp (r : R2) (ta tb : TE) : TE := fun σ H Q => ta σ H fun x H1 => tb σ H1 fun y H2 => r x y H2 Q
noncomputable def tUn (r : V → Hp → VK → Prop) (ta : TE) : TE := fun σ H Q => ta σ H fun x H1 => r x H1 Q
inductive rI (C : Int → Int → Prop) (g : Int → Int → V) (x : V) (y : V) (H : Hp) (Q : VK) : Prop
  | mk (i : _) (j : _) (f1 : x = .int i) (f2 : y = .int j) (f3 : C i j) (f4 : Q (g i j) H) : rI C g x y H Q
inductive rI0 (g : Int → Int → V) (x : V) (y : V) (H : Hp) (Q : VK) : Prop
  | mk (i : _) (j : _) (f1 : x = .int i) (f2 : y = .int j) (f3 : Q (g i j) H) : rI0 g x y H Q
inductive rU (g : Int → V) (x : V) (H : Hp) (Q : VK) : Prop
  | mk (i : _) (f1 : x = .int i) (f2 : Q (g i) H) : rU g x H Q
section
variable {X : Cx} {a b c : Expr} {ta tb tc : TE} {pos : Pos}
theorem binT (ha : PE X a ta) (hb : PE X b tb) {pins : List (Addr × Obj)} {s : Shared} {σ : St} {H : Hp} {R : V → V → Hp → Prop} (I : Inv X pins σ H s)
    (h : ta σ H fun x H1 => tb σ H1 fun y H2 => R x y H2) {Q : Value → Shared → Prop} {f : Value → Value → Sem Value}
    (hf : ∀ v u s2 x y H2, Inv X pins σ H2 s2 → RelV x v → RelV y u → R x y H2 → wpAny (model X.prog X.w) X.A (f v u) Q X.xe s2) :
    wpAny (model X.prog X.w) X.A (eval a X.env) (fun v s₁ => wpAny (model X.prog X.w) X.A (eval b X.env) (fun u s₂ => wpAny (model X.prog X.w) X.A (f v u) Q X.xe s₂) X.xe s₁) X.xe s := by
  refine thn (ha pins s σ H _ I h) fun v s1 ⟨x, H1, I1, r1, q1⟩ => ?_
  refine thn (hb pins s1 σ H1 _ I1 q1) fun u s2 ⟨y, H2, I2, r2, q2⟩ => ?_
  exact hf v u s2 x y H2 I2 r1 r2 q2
theorem pe_op {op : Operator} {r : R2} (ho : OpR X (binaryOp op) r) (ha : PE X a ta) (hb : PE X b tb) : PE X (.BinOp a op b pos) (tOp r ta tb) := by
  intro pins s σ H Q I h
  exact wpAny_BinOp (binT ha hb I h fun v u s2 x y H2 I2 rx ry q => ho pins s2 σ H2 x y v u Q I2 rx ry q)
theorem pe_un {op : UnaryOp} {r : V → Hp → VK → Prop} (ho : UnR X (unaryOp op) r) (ha : PE X a ta) : PE X (.UnaryOp op a pos) (tUn r ta) := by
  intro pins s σ H Q I h
  exact UnaryOp_ (thn (ha pins s σ H _ I h) fun v s1 ⟨x, H1, I1, r1, q1⟩ => ho pins s1 σ H1 x v Q I1 r1 q1)
theorem opI {f : Value → Value → Sem Value} {C : Int → Int → Prop} {g : Int → Int → Int}
    (rule : ∀ (i j : Int) (t u : Tok) (s : Shared) (Q : Value → Shared → Prop) (E : Value → Shared → Prop), C i j → Q (.int (g i j) s.toks) { s with toks := s.toks + 1 } → wpAny (model X.prog X.w) X.A (f (.int i t) (.int j u)) Q E s) :
    OpR X f (rI C fun i j => .int (g i j)) := by
  intro pins s σ H x y v u Q I rx ry h
  obtain ⟨i, j, rfl, rfl, hc, q⟩ := h
  obtain ⟨t, rfl⟩ := rx
  obtain ⟨t', rfl⟩ := ry
  exact rule i j t t' s _ _ hc ⟨.int (g i j), H, I.tok _, ⟨_, rfl⟩, q⟩
theorem opI0 {f : Value → Value → Sem Value} {g : Int → Int → Int}
    (rule : ∀ (i j : Int) (t u : Tok) (s : Shared) (Q : Value → Shared → Prop) (E : Value → Shared → Prop), Q (.int (g i j) s.toks) { s with toks := s.toks + 1 } → wpAny (model X.prog X.w) X.A (f (.int i t) (.int j u)) Q E s) :
    OpR X f (rI0 fun i j => .int (g i j)) := by
  intro pins s σ H x y v u Q I rx ry h
  obtain ⟨i, j, rfl, rfl, q⟩ := h
  obtain ⟨t, rfl⟩ := rx
  obtain ⟨t', rfl⟩ := ry
  exact rule i j t t' s _ _ ⟨.int (g i j), H, I.tok _, ⟨_, rfl⟩, q⟩
theorem opB0 {f : Value → Value → Sem Value} {g : Int → Int → Bool}
    (rule : ∀ (i j : Int) (t u : Tok) (s : Shared) (Q : Value → Shared → Prop) (E : Value → Shared → Prop), Q (.bool (g i j)) s → wpAny (model X.prog X.w) X.A (f (.int i t) (.int j u)) Q E s) :
    OpR X f (rI0 fun i j => .bl (g i j)) := by
  intro pins s σ H x y v u Q I rx ry h
  obtain ⟨i, j, rfl, rfl, q⟩ := h
  obtain ⟨t, rfl⟩ := rx
  obtain ⟨t', rfl⟩ := ry
  exact rule i j t t' s _ _ ⟨.bl (g i j), H, I, rfl, q⟩
noncomputable def CDiv (i j : Int) : Prop := 0 < j ∧ j < 1073741824
noncomputable def CPow (i j : Int) : Prop := 0 ≤ j ∧ j ≤ 1000000 ∧ i.natAbs < 2 ^ 64
noncomputable def CMul (i j : Int) : Prop := (-(2 ^ 64) < i ∧ i < 2 ^ 64) ∨ (-(2 ^ 64) < j ∧ j < 2 ^ 64)
theorem CMul.ok {i j : Int} (h : CMul i j) : IntMulOk i j := by
  rcases h with ⟨h1, h2⟩ | ⟨h1, h2⟩
  · exact .of_left (intBits_le_64 h1 h2)
  · exact .of_right (intBits_le_64 h1 h2)
theorem two_pow_nn (k : Nat) : (0 : Int) ≤ 2 ^ k := by
  rw [two_pow_cast]
  exact Int.natCast_nonneg _
theorem op_add : OpR X (binaryOp .Add) (rI0 fun i j => .int (i + j)) := opI0 fun _ _ _ _ _ _ _ q => add_int q
theorem op_sub : OpR X (binaryOp .Sub) (rI0 fun i j => .int (i - j)) := opI0 fun _ _ _ _ _ _ _ q => sub_int q
theorem op_mul : OpR X (binaryOp .Mult) (rI CMul fun i j => .int (i * j)) := opI fun _ _ _ _ _ _ _ hc q => mul_int q hc.ok
theorem op_fdiv : OpR X (binaryOp .FloorDiv) (rI CDiv fun i j => .int (i / j)) := opI fun i j _ _ _ _ _ hc q => by
  have h1 : (0 : Int) < j := hc.1
  have h2 : j < 1073741824 := hc.2
  exact floordiv_int (by lia) (by rw [Int.fdiv_eq_ediv_of_nonneg i (by lia)]; exact q) (.inl (PyProof.noPylong_small (by lia)))
theorem op_mod : OpR X (binaryOp .Mod) (rI (fun _ j => 0 < j) fun i j => .int (i % j)) := opI fun i j _ _ _ _ _ hc q => by
  have h1 : (0 : Int) < j := hc
  exact mod_int' (by lia) (by rw [Int.fmod_eq_emod_of_nonneg i (by lia)]; exact q)
theorem op_shl : OpR X (binaryOp .LShift) (rI CPow fun i j => .int (i * 2 ^ j.toNat)) := opI fun _ _ _ _ _ _ _ hc q => lshift_int_small hc.1 hc.2.1 hc.2.2 q
theorem op_shr : OpR X (binaryOp .RShift) (rI (fun _ j => 0 ≤ j) fun i j => .int (i / 2 ^ j.toNat)) := opI fun i j _ _ _ _ _ hc q =>
  rshift_int hc (by rw [Int.fdiv_eq_ediv_of_nonneg i (two_pow_nn _)]; exact q)
theorem unI {f : Value → Sem Value} {g : Int → Int}
    (rule : ∀ (i : Int) (t : Tok) (s : Shared) (Q : Value → Shared → Prop) (E : Value → Shared → Prop), Q (.int (g i) s.toks) { s with toks := s.toks + 1 } → wpAny (model X.prog X.w) X.A (f (.int i t)) Q E s) :
    UnR X f (rU fun i => .int (g i)) := by
  intro pins s σ H x v Q I rx h
  obtain ⟨i, rfl, q⟩ := h
  obtain ⟨t, rfl⟩ := rx
  exact rule i t s _ _ ⟨.int (g i), H, I.tok _, ⟨_, rfl⟩, q⟩
theorem un_neg : UnR X (unaryOp .USub) (rU fun i => .int (-i)) := unI fun _ _ _ _ _ q => neg_int q
end
noncomputable def scal : V → V → Bool
  | .non, .non => true | .non, .int _ => true | .int _, .non => true | .non, .bl _ => true | .bl _, .non => true | .non, .str _ => true | .str _, .non => true
  | .int _, .int _ => true | .bl _, .bl _ => true | .str _, .str _ => true | .byt _, .byt _ => true
  | .int _, .str _ => true | .str _, .int _ => true | .bl _, .str _ => true | .str _, .bl _ => true
  | _, _ => false
noncomputable def rEq : R2 := fun x y H Q => scal x y = true ∧ Q (.bl (decide (x = y))) H
noncomputable def rNe : R2 := fun x y H Q => scal x y = true ∧ Q (.bl (!decide (x = y))) H
theorem dec_int {i j : Int} : decide (V.int i = V.int j) = (i == j) := by
  rw [Bool.eq_iff_iff]
  simp
theorem dec_bl {i j : Bool} : decide (V.bl i = V.bl j) = (i == j) := by
  rw [Bool.eq_iff_iff]
  simp
theorem dec_str {i j : Str} : decide (V.str i = V.str j) = (i == j) := by
  rw [Bool.eq_iff_iff]
  simp
theorem dec_byt {i j : Array UInt8} : decide (V.byt i = V.byt j) = (i.toList == j.toList) := by
  rw [Bool.eq_iff_iff]
  cases i
  cases j
  simp
section
variable {X : Cx} {a b c : Expr} {ta tb tc : TE} {pos : Pos}
theorem fin_bl {pins : List (Addr × Obj)} {σ : St} {H : Hp} {s : Shared} {Q : VK} {k k' : Bool} (I : Inv X pins σ H s) (q : Q (.bl k) H) (e : k = k') : EP X pins σ Q (.bool k') s := by
  subst e
  exact ⟨.bl k, H, I, rfl, q⟩
theorem op_eq : OpR X (compareOp .Eq) rEq := by
  intro pins s σ H x y v u Q I rx ry h
  obtain ⟨hs, q⟩ := h
  cases x with
  | non =>
    cases rx
    cases y with
    | non => cases ry; exact PySem.EqNone.eq_none_none (fin_bl I q (by simp))
    | bl j => cases ry; exact PySem.EqNone.eq_none_bool (fin_bl I q (by simp))
    | int j => obtain ⟨t', rfl⟩ := ry; exact PySem.EqNone.eq_none_int (fin_bl I q (by simp))
    | str j => obtain ⟨t', rfl⟩ := ry; exact PySem.EqNone.eq_none_str (fin_bl I q (by simp))
    | _ => exact absurd (show false = true from hs) Bool.false_ne_true
  | bl i =>
    cases rx
    cases y with
    | non => cases ry; exact PySem.EqNone.eq_bool_none (fin_bl I q (by simp))
    | bl j => cases ry; exact eq_bool (fin_bl I q dec_bl)
    | str j => obtain ⟨t', rfl⟩ := ry; exact PySem.EqMixed.eq_bool_str (fin_bl I q (by simp))
    | _ => exact absurd (show false = true from hs) Bool.false_ne_true
  | int i =>
    obtain ⟨t, rfl⟩ := rx
    cases y with
    | non => cases ry; exact PySem.EqNone.eq_int_none (fin_bl I q (by simp))
    | int j => obtain ⟨t', rfl⟩ := ry; exact eq_int (fin_bl I q dec_int)
    | str j => obtain ⟨t', rfl⟩ := ry; exact PySem.EqMixed.eq_int_str (fin_bl I q (by simp))
    | _ => exact absurd (show false = true from hs) Bool.false_ne_true
  | str i =>
    obtain ⟨t, rfl⟩ := rx
    cases y with
    | non => cases ry; exact PySem.EqNone.eq_str_none (fin_bl I q (by simp))
    | bl j => cases ry; exact PySem.EqMixed.eq_str_bool (fin_bl I q (by simp))
    | int j => obtain ⟨t', rfl⟩ := ry; exact PySem.EqMixed.eq_str_int (fin_bl I q (by simp))
    | str j => obtain ⟨t', rfl⟩ := ry; exact eq_str (fin_bl I q dec_str)
    | _ => exact absurd (show false = true from hs) Bool.false_ne_true
  | byt i =>
    obtain ⟨t, rfl⟩ := rx
    cases y with
    | byt j => obtain ⟨t', rfl⟩ := ry; exact PySem.W.eq_bytes (fin_bl I q dec_byt)
    | _ => exact absurd (show false = true from hs) Bool.false_ne_true
  | _ => cases y <;> exact absurd (show false = true from hs) Bool.false_ne_true
theorem op_ne : OpR X (compareOp .NotEq) rNe := by
  intro pins s σ H x y v u Q I rx ry h
  obtain ⟨hs, q⟩ := h
  cases x with
  | non =>
    cases rx
    cases y with
    | non => cases ry; exact PySem.EqNone.ne_none_none (fin_bl I q (by simp))
    | bl j => cases ry; exact PySem.EqNone.ne_none_bool (fin_bl I q (by simp))
    | int j => obtain ⟨t', rfl⟩ := ry; exact PySem.EqNone.ne_none_int (fin_bl I q (by simp))
    | str j => obtain ⟨t', rfl⟩ := ry; exact PySem.EqNone.ne_none_str (fin_bl I q (by simp))
    | _ => exact absurd (show false = true from hs) Bool.false_ne_true
  | bl i =>
    cases rx
    cases y with
    | non => cases ry; exact PySem.EqNone.ne_bool_none (fin_bl I q (by simp))
    | bl j => cases ry; exact ne_bool (fin_bl I q (congrArg not dec_bl))
    | str j => obtain ⟨t', rfl⟩ := ry; exact PySem.EqMixed.ne_bool_str (fin_bl I q (by simp))
    | _ => exact absurd (show false = true from hs) Bool.false_ne_true
  | int i =>
    obtain ⟨t, rfl⟩ := rx
    cases y with
    | non => cases ry; exact PySem.EqNone.ne_int_none (fin_bl I q (by simp))
    | int j => obtain ⟨t', rfl⟩ := ry; exact ne_int (fin_bl I q (congrArg not dec_int))
    | str j => obtain ⟨t', rfl⟩ := ry; exact PySem.EqMixed.ne_int_str (fin_bl I q (by simp))
    | _ => exact absurd (show false = true from hs) Bool.false_ne_true
  | str i =>
    obtain ⟨t, rfl⟩ := rx
    cases y with
    | non => cases ry; exact PySem.EqNone.ne_str_none (fin_bl I q (by simp))
    | bl j => cases ry; exact PySem.EqMixed.ne_str_bool (fin_bl I q (by simp))
    | int j => obtain ⟨t', rfl⟩ := ry; exact PySem.EqMixed.ne_str_int (fin_bl I q (by simp))
    | str j => obtain ⟨t', rfl⟩ := ry; exact ne_str (fin_bl I q (congrArg not dec_str))
    | _ => exact absurd (show false = true from hs) Bool.false_ne_true
  | byt i =>
    obtain ⟨t, rfl⟩ := rx
    cases y with
    | byt j => obtain ⟨t', rfl⟩ := ry; exact PySem.W.ne_bytes (fin_bl I q (congrArg not dec_byt))
    | _ => exact absurd (show false = true from hs) Bool.false_ne_true
  | _ => cases y <;> exact absurd (show false = true from hs) Bool.false_ne_true
theorem op_lt : OpR X (compareOp .Lt) (rI0 fun i j => .bl (decide (i < j))) := opB0 fun _ _ _ _ _ _ _ q => lt_int q
theorem op_le : OpR X (compareOp .LtE) (rI0 fun i j => .bl (decide (i ≤ j))) := opB0 fun _ _ _ _ _ _ _ q => le_int q
theorem op_gt : OpR X (compareOp .Gt) (rI0 fun i j => .bl (decide (j < i))) := opB0 fun _ _ _ _ _ _ _ q => gt_int q
theorem op_ge : OpR X (compareOp .GtE) (rI0 fun i j => .bl (decide (j ≤ i))) := opB0 fun _ _ _ _ _ _ _ q => ge_int q
theorem op_isN : OpR X (compareOp .Is) (fun x y H Q => y = .non ∧ Q (.bl (decide (x = .non))) H) := by
  intro pins s σ H x y v u Q I rx ry h
  obtain ⟨rfl, q⟩ := h
  cases ry
  refine is_none_gen (fin_bl I q ?_)
  cases x <;> first
    | (cases rx; rfl)
    | (obtain ⟨t, rfl⟩ := rx; rfl)
theorem nomark (b : Expr) {op : CmpOp} (h : op ≠ .In := by decide) (h2 : op ≠ .NotIn := by decide) : behindInMarks op b = false := by
  have e1 : (op == CmpOp.In) = false := by cases op <;> first | rfl | exact absurd rfl h
  have e2 : (op == CmpOp.NotIn) = false := by cases op <;> first | rfl | exact absurd rfl h2
  cases b <;> simp [behindInMarks, e1, e2]
theorem pe_cmpR {op : CmpOp} {r : R2} (ho : OpR X (compareOp op) r) (ha : PE X a ta) (hb : PE X b tb) (hm : behindInMarks op b = false) : PE X (.Compare a [op] [b] pos) (tOp r ta tb) := by
  intro pins s σ H Q I h
  exact wpAny_Compare1 (binT ha hb I h fun v u s2 x y H2 I2 rx ry q => ho pins s2 σ H2 x y v u Q I2 rx ry q) hm
inductive tTestI (Q : Bool → Hp → Prop) (x : V) (H' : Hp) : Prop
  | mk (k : _) (f1 : x = .bl k) (f2 : Q k H') : tTestI  Q x H'
noncomputable def tTest (t : TE) : TT := fun σ H Q => t σ H fun x H' => tTestI  Q x H'
theorem pt_cmpR {op : CmpOp} {r : R2} (ho : OpR X (compareOp op) r) (ha : PE X a ta) (hb : PE X b tb) (hm : behindInMarks op b = false) : PT X (.Compare a [op] [b] pos) (tTest (tOp r ta tb)) := by
  intro pins s σ H Q I h
  refine wpAny_isTrue_Compare1 (thn (ha pins s σ H _ I h) fun v s1 ⟨x, H1, I1, r1, q1⟩ => thn (hb pins s1 σ H1 _ I1 q1) fun u s2 ⟨y, H2, I2, r2, q2⟩ =>
    thn (ho pins s2 σ H2 x y v u _ I2 r1 r2 q2) fun c s3 ⟨z, H3, I3, r3, k, e, q3⟩ => ?_) hm
  subst e
  cases r3
  exact wpAny_truthy_bool ⟨H3, I3, q3⟩
noncomputable def tChain (r r' : R2) (ta tb tc : TE) : TE := fun σ H Q => ta σ H fun x H1 => tb σ H1 fun y H2 => r x y H2 fun z H3 => ∃ k, z = .bl k ∧
  (if k = true then tc σ H3 fun w' H4 => r' y w' H4 Q else Q (.bl false) H3)
theorem pe_chain {op op' : CmpOp} {r r' : R2} (ho : OpR X (compareOp op) r) (ho' : OpR X (compareOp op') r') (ha : PE X a ta) (hb : PE X b tb) (hc : PE X c tc)
    (hm : lastMarks [op, op'] [b, c] = false := by with_unfolding_all rfl) : PE X (.Compare a [op, op'] [b, c] pos) (tChain r r' ta tb tc) := by
  intro pins s σ H Q I h
  refine Compare_chain (thn (ha pins s σ H _ I h) fun v s1 ⟨x, H1, I1, r1, q1⟩ => chain_link (thn (hb pins s1 σ H1 _ I1 q1) fun u s2 ⟨y, H2, I2, r2, q2⟩ =>
    thn (ho pins s2 σ H2 x y v u _ I2 r1 r2 q2) fun d s3 ⟨z, H3, I3, r3, k, e, q3⟩ => ?_)) hm
  subst e
  cases r3
  refine wpAny_truthy_bool ?_
  cases k with
  | false => exact ite_ff ⟨.bl false, H3, I3, rfl, q3⟩
  | true => exact ite_tt (chain_last (thn (hc pins s3 σ H3 _ I3 q3) fun w' s4 ⟨z', H4, I4, r4, q4⟩ => ho' pins s4 σ H4 y z' u w' Q I4 r2 r4 q4))
noncomputable def TruV (K : PySem.W.Frag) (x : V) (H : Hp) (k : Bool) : Prop :=
  match x with
  | .non => k = false
  | .bl b => k = b
  | .int i => k = (i != 0)
  | .str y => y.length ≤ sizeLine ∧ k = ((y.length : Int) != 0)
  | .byt y => y.size ≤ sizeLine ∧ k = ((y.size : Int) != 0)
  | .ref p => (∃ xs, SqL K H p xs ∧ k = !xs.isEmpty) ∨ (∃ xs, SqT K H p xs ∧ k = !xs.isEmpty) ∨ ∃ kvs, H p = some (.dK kvs) ∧ k = !kvs.isEmpty
  | _ => False
theorem isEmpty_kv {κ : Type} {kvs : List (κ × V)} {vs : List (κ × Value)} (r : KV kvs vs) : (!vs.isEmpty) = !kvs.isEmpty := by
  cases r <;> rfl
theorem isEmpty_of {xs : List V} {its : List Value} (r : Vals xs its) : (!its.toArray.isEmpty) = !xs.isEmpty := by
  cases r <;> simp
theorem line63 : (sizeLine : Nat) < 2 ^ 63 := by rw [sizeLine_eq]; decide
theorem tru_ok : TruR X (fun x H Q => ∃ k, TruV X.K x H k ∧ Q k H) := by
  intro pins s σ H x v Q I rx h
  obtain ⟨k, e, q⟩ := h
  have hl := line63
  have hs : sizeLine = 16777216 := sizeLine_eq
  cases x with
  | non =>
    cases rx
    have e' : k = false := e
    subst e'
    exact truthy_none ⟨H, I, q⟩
  | bl b =>
    cases rx
    have e' : k = b := e
    subst e'
    exact wpAny_truthy_bool ⟨H, I, q⟩
  | int i =>
    obtain ⟨t, rfl⟩ := rx
    have e' : k = (i != 0) := e
    subst e'
    exact PySem.P.truthy_int ⟨H, I, q⟩
  | str y =>
    obtain ⟨t, rfl⟩ := rx
    obtain ⟨hy, e'⟩ : y.length ≤ sizeLine ∧ k = ((y.length : Int) != 0) := e
    subst e'
    exact PySem.P.truthy_str (by lia) ⟨H, I.tok _, q⟩
  | byt y =>
    obtain ⟨t, rfl⟩ := rx
    obtain ⟨hy, e'⟩ : y.size ≤ sizeLine ∧ k = ((y.size : Int) != 0) := e
    subst e'
    exact PySem.W.truthy_bytes (by lia) ⟨H, I.tok _, q⟩
  | ref p =>
    cases rx
    have e' : (∃ xs, SqL X.K H p xs ∧ k = !xs.isEmpty) ∨ (∃ xs, SqT X.K H p xs ∧ k = !xs.isEmpty) ∨ ∃ kvs, H p = some (.dK kvs) ∧ k = !kvs.isEmpty := e
    rcases e' with ⟨xs, hx, e'⟩ | ⟨xs, hx, e'⟩ | ⟨kvs, hx, e'⟩
    · subst e'
      obtain ⟨its, r, pl, hz⟩ := I.list hx
      have hlen := r.length
      exact wpAny_truthy_list pl.isList (by simp only [List.size_toArray]; lia) ⟨H, I.tok _, by rw [isEmpty_of r]; exact q⟩
    · subst e'
      obtain ⟨its, r, pl, hz⟩ := I.tuple hx
      have hlen := r.length
      exact truthy_tuple pl (by simp only [List.size_toArray]; lia) ⟨H, I.tok _, by rw [isEmpty_of r]; exact q⟩
    · subst e'
      obtain ⟨hz, hS, vs, r, m⟩ : kvs.length ≤ sizeLine ∧ (p == sysModules) = false ∧ ∃ vs, KV kvs vs ∧ s.heap.DictOf (mixKind X.prog X.w) p vs := I.hok p _ hx
      have hlen : kvs.length = vs.length := Paired.length r
      exact wpAny_truthy_dict hS m (by lia) ⟨H, I.tok _, by rw [isEmpty_kv r]; exact q⟩
  | _ => exact (show False from e).elim
theorem pt_truth (ha : PE X a ta) (he : ∀ whole, isTrue a X.env whole = (do let v ← whole; standAt a.pos; holding [v] (truthy v))) :
    PT X a (fun σ H Q => ta σ H fun x H' => ∃ k, TruV X.K x H' k ∧ Q k H') := by
  intro pins s σ H Q I h
  exact isTrue_plain (thn (ha pins s σ H _ I h) fun v s1 ⟨x, H1, I1, r1, q1⟩ => tru_ok pins s1 σ H1 x v Q I1 r1 q1) (he _)
theorem vals1 {x : V} {us : List Value} (r : Vals [x] us) : ∃ u, us = [u] ∧ RelV x u := by
  cases r with
  | cons r1 r2 => cases r2; exact ⟨_, rfl, r1⟩
theorem vals2 {x y : V} {us : List Value} (r : Vals [x, y] us) : ∃ u w', us = [u, w'] ∧ RelV x u ∧ RelV y w' := by
  cases r with
  | cons r1 r2 =>
    cases r2 with
    | cons r3 r4 => cases r4; exact ⟨_, _, rfl, r1, r3⟩
theorem call_abs : CallR X (.builtin "abs") (fun xs H Q => ∃ i, xs = [.int i] ∧ Q (.int (if i < 0 then -i else i)) H) := by
  intro pins s σ H xs us Q I r h
  obtain ⟨i, rfl, q⟩ := h
  obtain ⟨u, rfl, t, rfl⟩ := vals1 r
  exact call_abs_int fun u tk => ⟨.int (if i < 0 then -i else i), H, I.tok _, ⟨_, rfl⟩, q⟩
theorem call_max2 (hc : X.calm = true) : CallR X (.builtin "max") (fun xs H Q => ∃ i j, xs = [.int i, .int j] ∧ Q (.int (if j > i then j else i)) H) := by
  intro pins s σ H xs us Q I r h
  obtain ⟨i, j, rfl, q⟩ := h
  obtain ⟨u, w', rfl, ⟨t, rfl⟩, ⟨t', rfl⟩⟩ := vals2 r
  refine max_two_ints (I.ok.hd hc) fun h' tk k => ⟨_, H, I.kept k, ?_, q⟩
  by_cases hj : j > i
  · rw [if_pos hj, if_pos hj]; exact ⟨_, rfl⟩
  · rw [if_neg hj, if_neg hj]; exact ⟨_, rfl⟩
theorem call_int1 : CallR X (.type "int") (fun xs H Q => (∃ i, xs = [.int i] ∧ Q (.int i) H) ∨ ∃ k, xs = [.bl k] ∧ Q (.int (if k then 1 else 0)) H) := by
  intro pins s σ H xs us Q I r h
  rcases h with ⟨i, rfl, q⟩ | ⟨k, rfl, q⟩
  · obtain ⟨u, rfl, t, rfl⟩ := vals1 r
    exact call_int_int ⟨.int i, H, I, ⟨_, rfl⟩, q⟩
  · obtain ⟨u, rfl, r1⟩ := vals1 r
    cases r1
    exact call_int_bool ⟨.int (if k then 1 else 0), H, I.tok _, ⟨_, rfl⟩, q⟩
end
end L2
namespace L2
open PySem PySem.Spec PyProof.Rows
structure ObjM (h : Heap) (x dx C : Addr) (mA : Str → Option Value) : Prop where
  obj : h.get? x = some (PySem.W.instObj C dx)
  ns : h.Ns1 dx mA
  ne : dx ≠ x
theorem lookIn_ns {h : Heap} {dx : Addr} {mA : Str → Option Value} (n : h.Ns1 dx mA) : ∃ od, h.get? dx = some od ∧ ∀ name, PySem.W.lookIn name od = some (mA name) := by
  obtain ⟨o, es, ep, ho, hd, hk, _, hm⟩ := n
  refine ⟨o, ho, fun name => ?_⟩
  have e := hm name
  unfold nsFind findBy at e
  rw [← Array.find?_toList] at e
  unfold PySem.W.lookIn
  rw [hd]
  dsimp only
  split
  · rename_i y q
    rw [q] at e
    exact congrArg some e
  · rename_i q
    rw [q] at e
    have a : es.toList.any (·.refKey) = false := by
      rw [List.any_eq_false]
      intro y hy
      obtain ⟨z, t, hkey⟩ := hk y (Array.mem_toList_iff.mp hy)
      simp [DictEntry.refKey, hkey]
    have a' : ¬ es.toList.any (·.refKey) = true := by rw [a]; exact Bool.false_ne_true
    rw [if_neg a']
    exact congrArg some e
theorem ObjM.look {h : Heap} {x dx C : Addr} {mA : Str → Option Value} (I : ObjM h x dx C mA) : ∃ od, PySem.W.InstAt h x (PySem.W.instObj C dx) C (some od) ∧ ∀ name, PySem.W.lookIn name od = some (mA name) :=
  let ⟨od, ho, hl⟩ := lookIn_ns I.ns
  ⟨od, ⟨I.obj, rfl, rfl, ho⟩, hl⟩
section
variable {prog : Program} {w : World} {A : Around} {E : Value → Shared → Prop} {s : Shared} {K : PySem.W.Frag} {x dx C f : Addr} {mA : Str → Option Value} {name : Str} {v : Value}
theorem get_map {expr : Bool} {Q : Value → Shared → Prop} (X : K.In s.heap) (I : ObjM s.heap x dx C mA) (hg : PySem.W.plainGet K C name = true) (hh : PySem.W.hasDictIn K C = true)
    (ha : PySem.W.findIn K (.ref C) name = some none) (hv : mA name = some v) (hv' : PySem.W.handedIn v = true) (h : Q v { s with toks := s.toks + 1 }) :
    wpAny (model prog w) A (getAttr (.ref x) name expr) Q E s := by
  obtain ⟨od, J, hl⟩ := I.look
  exact PySem.W.get_value X J (PySem.W.plainGet_of hg).1 (PySem.W.findObj_own hh ha rfl (by rw [hl, hv])) hv' h
theorem get_meth {pl : Sem Bool} {Q : Value × List Value → Shared → Prop} (X : K.In s.heap) (I : ObjM s.heap x dx C mA) (hg : PySem.W.plainGet K C name = true)
    (hf : PySem.W.findIn K (.ref C) name = some (some (.ref f))) (ht : PySem.W.isFn K (.ref f) = true) (hv : mA name = none) (h : Q (.ref f, [.ref x]) s) :
    wpAny (model prog w) A (getMethod (.ref x) name pl) Q E s := by
  obtain ⟨od, J, hl⟩ := I.look
  exact PySem.W.method_fn X J (PySem.W.plainGet_of hg).1 (PySem.W.plainGet_of hg).2 hf (beq_iff_eq.mp ht) (by show (PySem.W.lookIn name od).map (·.isSome) = some false; rw [hl, hv]; rfl) h
theorem set_map {ns : List Str} {Q : Unit → Shared → Prop} (X : K.In s.heap) (I : ObjM s.heap x dx C mA)
    (hs : PySem.W.findIn K (.ref C) "__setattr__" = some (some (.builtin "object.__setattr__"))) (hp : PySem.W.plainOver K C = true) (ht : PySem.W.takerIn K C name = some none) (hh : PySem.W.hasDictIn K C = true)
    (hw : PySem.Within mA ns) (hsz : ns.length ≤ sizeLine)
    (h : ∀ h', ObjM h' x dx C (fun y => if y = name then some v else mA y) → Heap.SameBut dx s.heap h' → Q () { s with heap := h', toks := s.toks + 2 }) :
    wpAny (model prog w) A (setAttr (.ref x) name v) Q E s := by
  obtain ⟨od, J, hl⟩ := I.look
  refine PySem.W.set_plain X J hs (PySem.W.osa_open (s := { s with toks := s.toks + 1 }) (r := none) X J hp ht fun b => ?_)
  obtain ⟨cd, hc, hd'⟩ := PySem.W.any_some hh
  have hx : s.heap.get? x = some ⟨.ref C, some dx, .plain, #[]⟩ := I.obj
  refine wpAny_bind (wpAny_pure (wpAny_bind (wpAny_bind (wpAny_loadPart hx (wpAny_bind (PySem.W.Looks.here (s := { s with toks := s.toks + 1 }) (PySem.W.looks_clsIn X hc) ?_))))))
  rw [hd']
  refine wpAny_pure (a := some dx) (wpAny_bind (wpAny_pure (wpAny_bind ?_)))
  refine wpAny_nsSet1 (s := { s with toks := s.toks + 1 }) I.ns fun h' hn2 hs2 => ?_
  obtain ⟨oD, esD, epD, hoD, hdD, hcD⟩ := hn2.count (PySem.Within.cons name v hw)
  refine wpAny_bind (wpAny_lookBehind hoD (by rw [hdD]; exact pastItsLine_dict (Nat.le_trans hcD (by rw [List.length_cons]; lia))) ?_)
  exact wpAny_pure (h _ ⟨(hs2.2 _ (Ne.symm I.ne)).trans I.obj, hn2, I.ne⟩ hs2)
theorem make_map {R : Result → Shared → Prop} {vs : List Value} {kw : List (Str × Value)} (X : K.In s.heap) (hm : PySem.W.makesIn K C = true)
    (hi : PySem.W.findIn K (.ref C) "__init__" = some (some (.ref f))) (hf : PySem.W.typeIn K (.ref f) = some (.type "function"))
    (h : codeAny (model prog w) (A.under (.builtin "type.__call__" ⟨.ref C :: vs, kw⟩)) (.call (.ref f) ⟨.ref (s.heap.objs.size + 1) :: vs, kw⟩) (PySem.W.InitBack (s.heap.objs.size + 1) R)
      { s with heap := (s.heap.push PySem.W.emptyDict).push (PySem.W.instObj C s.heap.objs.size) }) :
    codeAny (model prog w) A (.call (.ref C) ⟨vs, kw⟩) R s := by
  obtain ⟨hh, g, d, t, os⟩ := s
  exact PySem.W.make_core (PySem.W.makes_of X hm) (PySem.W.looks_findIn X hi) (fun self => PySem.W.bind_fn X self hf) (.inl rfl) h
end
noncomputable def putF (f : Str) (v : V) : List (Str × V) → List (Str × V)
  | [] => [(f, v)]
  | (g, x) :: r => if g = f then (g, v) :: r else (g, x) :: putF f v r
theorem lookup_putF (f g : Str) (v : V) : ∀ fs : List (Str × V), (putF f v fs).lookup g = if g = f then some v else fs.lookup g
  | [] => by
    show List.lookup g [(f, v)] = _
    by_cases h : g = f
    · have hb : (g == f) = true := beq_iff_eq.mpr h
      simp only [List.lookup, hb, if_pos h]
    · have hb : (g == f) = false := beq_eq_false_iff_ne.mpr h
      simp only [List.lookup, hb, if_neg h]
  | (k, x) :: r => by
    have ih := lookup_putF f g v r
    rw [show putF f v ((k, x) :: r) = (if k = f then (k, v) :: r else (k, x) :: putF f v r) from rfl]
    by_cases hk : k = f
    · rw [if_pos hk]
      by_cases h : g = k
      · have hb : (g == k) = true := beq_iff_eq.mpr h
        simp only [List.lookup, hb, if_pos (h.trans hk)]
      · have hb : (g == k) = false := beq_eq_false_iff_ne.mpr h
        simp only [List.lookup, hb, if_neg (fun e : g = f => h (e.trans hk.symm))]
    · rw [if_neg hk]
      by_cases h : g = k
      · have hb : (g == k) = true := beq_iff_eq.mpr h
        simp only [List.lookup, hb, if_neg (fun e : g = f => hk (h.symm.trans e))]
      · have hb : (g == k) = false := beq_eq_false_iff_ne.mpr h
        simp only [List.lookup, hb]
        exact ih
theorem keys_putF (f : Str) (v : V) : ∀ fs : List (Str × V), f ∈ (putF f v fs).map (·.1) ∧ ∀ g, g ∈ fs.map (·.1) → g ∈ (putF f v fs).map (·.1)
  | [] => ⟨by simp [putF], fun g h => by simp at h⟩
  | (k, x) :: r => by
    obtain ⟨i1, i2⟩ := keys_putF f v r
    rw [show putF f v ((k, x) :: r) = (if k = f then (k, v) :: r else (k, x) :: putF f v r) from rfl]
    by_cases hk : k = f
    · rw [if_pos hk]
      subst hk
      exact ⟨by simp, fun g h => by simpa using h⟩
    · rw [if_neg hk]
      refine ⟨?_, fun g h => ?_⟩
      · rw [List.map_cons]
        exact List.mem_cons_of_mem _ i1
      · rw [List.map_cons] at h ⊢
        rcases List.mem_cons.mp h with e | e
        · exact List.mem_cons.mpr (.inl e)
        · exact List.mem_cons_of_mem _ (i2 g e)
theorem length_putF (f : Str) (v : V) : ∀ fs : List (Str × V), (putF f v fs).length ≤ fs.length + 1
  | [] => by simp [putF]
  | (k, x) :: r => by
    have ih := length_putF f v r
    rw [show putF f v ((k, x) :: r) = (if k = f then (k, v) :: r else (k, x) :: putF f v r) from rfl]
    by_cases hk : k = f
    · rw [if_pos hk, List.length_cons, List.length_cons]; lia
    · rw [if_neg hk, List.length_cons, List.length_cons]; lia
theorem RelO.some_of {v : V} {o : Option Value} (r : RelO (some v) o) : ∃ u, o = some u ∧ RelV v u := by
  cases o with
  | none => exact (show False from r).elim
  | some u => exact ⟨u, rfl, r⟩
theorem RelO.none_of {o : Option Value} (r : RelO none o) : o = none := by
  cases o with
  | none => rfl
  | some u => exact (show False from r).elim
theorem handed_of {v : V} {u : Value} (r : RelV v u) : PySem.W.handedIn u = true := by
  cases v with
  | non => cases (show u = Value.none from r); rfl
  | bl b => cases (show u = Value.bool b from r); rfl
  | int i => obtain ⟨t, e⟩ := (show ∃ t, u = Value.int i t from r); cases e; rfl
  | str x => obtain ⟨t, e⟩ := (show ∃ t, u = Value.str x t from r); cases e; rfl
  | byt b => obtain ⟨t, e⟩ := (show ∃ t, u = Value.bytes b t from r); cases e; rfl
  | flt b => obtain ⟨t, e⟩ := (show ∃ t, u = Value.float b t from r); cases e; rfl
  | ref a => cases (show u = Value.ref a from r); rfl
  | ty n => cases (show u = Value.type n from r); rfl
section
variable {P : Program} {w : World} {H H' : Hp} {h h' : Heap} {a C dx : Addr} {fs fs' : List (Str × V)}
theorem ins_get (hok : HOk P w H h) (e : H a = some (.ins C dx fs)) : ∃ mA, ObjM h a dx C mA ∧ (∀ f, RelO (fs.lookup f) (mA f)) ∧ PySem.Within mA (fs.map (·.1)) ∧ fs.length ≤ 1000 ∧ H dx = some (.own a) := by
  obtain ⟨d, z, ne, ob, mA, n, r, q⟩ := (show ObjOk P w H h a (.ins C dx fs) from hok a _ e)
  exact ⟨mA, ⟨ob, n, ne⟩, r, q, z, d⟩
end
structure Cls (K : PySem.W.Frag) (C : Addr) : Prop where
  pg : PySem.W.plainGet K C Str.empty = true
  hd : PySem.W.hasDictIn K C = true
  po : PySem.W.plainOver K C = true
  sa : PySem.W.findIn K (.ref C) "__setattr__" = some (some (.builtin "object.__setattr__"))
theorem Cls.get {K : PySem.W.Frag} {C : Addr} (c : Cls K C) (f : Str) : PySem.W.plainGet K C f = true := c.pg
noncomputable def NoAttr (K : PySem.W.Frag) (C : Addr) (f : Str) : Prop := PySem.W.findIn K (.ref C) f = some none
theorem NoAttr.taker {K : PySem.W.Frag} {C : Addr} {f : Str} (n : NoAttr K C f) : PySem.W.takerIn K C f = some none := by
  unfold PySem.W.takerIn
  rw [show PySem.W.findIn K (.ref C) f = some none from n]
  rfl
structure Meth (K : PySem.W.Frag) (C : Addr) (m : Str) (f : Addr) : Prop where
  at_ : PySem.W.findIn K (.ref C) m = some (some (.ref f))
  fn : PySem.W.isFn K (.ref f) = true
  kp : PySem.W.keepIn K (.ref f) = true
section
variable {X : Cx} {pins : List (Addr × Obj)} {σ : St} {H : Hp} {s : Shared} {a C dx : Addr} {fs : List (Str × V)} {f : Str} {v : V} {A : Around} {E : Value → Shared → Prop}
theorem getattr_ok {b : Bool} {Q : Value → Shared → Prop} (I : Inv X pins σ H s) (e : H a = some (.ins C dx fs)) (c : Cls X.K C) (n : NoAttr X.K C f) (l : fs.lookup f = some v)
    (h : ∀ u s', Inv X pins σ H s' → RelV v u → Q u s') : wpAny (model X.prog X.w) A (getAttr (.ref a) f b) Q E s := by
  obtain ⟨mA, O, r, _, _, _⟩ := ins_get I.hok e
  obtain ⟨u, hu, ru⟩ := RelO.some_of (v := v) (o := mA f) (by rw [← l]; exact r f)
  exact get_map I.kIn O (c.get f) c.hd n hu (handed_of ru) (h u _ (I.tok _) ru)
theorem getmeth_ok {m : Str} {g : Addr} {pl : Sem Bool} {Q : Value × List Value → Shared → Prop} (I : Inv X pins σ H s) (e : H a = some (.ins C dx fs)) (c : Cls X.K C) (k : Meth X.K C m g) (l : fs.lookup m = none)
    (h : Q (.ref g, [.ref a]) s) : wpAny (model X.prog X.w) A (getMethod (.ref a) m pl) Q E s := by
  obtain ⟨mA, O, r, _, _, _⟩ := ins_get I.hok e
  have hn : mA m = none := RelO.none_of (by rw [← l]; exact r m)
  exact get_meth I.kIn O (c.get m) k.at_ k.fn hn h
theorem setattr_ok {y : V} {u : Value} {Q : Unit → Shared → Prop} (I : Inv X pins σ H s) (e : H a = some (.ins C dx fs)) (c : Cls X.K C) (n : NoAttr X.K C f) (hl : fs.length < 1000) (ry : RelV y u)
    (h : ∀ s', Inv X pins σ (upd H a (.ins C dx (putF f y fs))) s' → Q () s') : wpAny (model X.prog X.w) A (setAttr (.ref a) f u) Q E s := by
  obtain ⟨mA, O, r, wi, _, ho⟩ := ins_get I.hok e
  have hz : (fs.map (·.1)).length ≤ sizeLine := by rw [List.length_map, sizeLine_eq]; lia
  refine set_map I.kIn O c.sa c.po n.taker c.hd wi hz fun h' O' sb => h _ ?_
  have hd : ∃ o, h'.get? dx = some o := let ⟨o, _, _, e', _⟩ := O'.ns; ⟨o, e'⟩
  refine I.write (x := a) (e := dx) (by rw [e]; exact True.intro) (.inr ho) (fun b q hb z => (sb.2 b hb).trans z) hd ?_
  refine ⟨by rw [upd_ne O.ne]; exact ho, ?_, O.ne, O'.obj, _, O'.ns, fun g => ?_, fun g hg => ?_⟩
  · have := length_putF f y fs; lia
  · show RelO ((putF f y fs).lookup g) (if g = f then some u else mA g)
    rw [lookup_putF]
    by_cases q : g = f
    · rw [if_pos q, if_pos q]; exact ry
    · rw [if_neg q, if_neg q]; exact r g
  · by_cases q : g = f
    · rw [q]; exact (keys_putF f y fs).1
    · refine (keys_putF f y fs).2 g (wi g fun z => hg ?_)
      show (if g = f then some u else mA g) = none
      rw [if_neg q]; exact z
theorem Inv.made (I : Inv X pins σ H s) : Inv X pins σ (upd (upd H s.heap.objs.size (.own (s.heap.objs.size + 1))) (s.heap.objs.size + 1) (.ins C s.heap.objs.size []))
    { s with heap := (s.heap.push PySem.W.emptyDict).push (PySem.W.instObj C s.heap.objs.size) } := by
  have e1 : (s.heap.push PySem.W.emptyDict).get? s.heap.objs.size = some PySem.W.emptyDict := Heap.get?_push_size s.heap rfl
  have e2 : ((s.heap.push PySem.W.emptyDict).push (PySem.W.instObj C s.heap.objs.size)).get? (s.heap.objs.size + 1) = some (PySem.W.instObj C s.heap.objs.size) := by
    have := Heap.get?_push_size (s.heap.push PySem.W.emptyDict) (o := PySem.W.instObj C s.heap.objs.size) rfl
    rwa [Heap.size_push] at this
  have e3 : (s.heap.push PySem.W.emptyDict).Ns s.heap.objs.size (fun _ => none) := ⟨PySem.W.emptyDict, #[], _, e1, rfl, (fun e he => absurd he (by simp)), fun _ => rfl⟩
  have I1 := I.laid (a := s.heap.objs.size) (o := .own (s.heap.objs.size + 1)) (h' := s.heap.push PySem.W.emptyDict) (t' := s.toks) (fun b u q => Heap.get?_push_of_some _ q) (Nat.le_refl _) ⟨_, e1⟩
  refine I1.laid (a := s.heap.objs.size + 1) (o := .ins C s.heap.objs.size []) (t' := s.toks) (fun b u q => Heap.get?_push_of_some _ q) (Nat.le_of_eq (Heap.size_push _ _)) ?_
  have ne : s.heap.objs.size ≠ s.heap.objs.size + 1 := Nat.ne_of_lt (Nat.lt_succ_self _)
  refine ⟨by rw [upd_ne ne, upd_same], Nat.zero_le _, ne, e2, fun _ => none, (Heap.Ns1.of_empty e3).at fun o q => Heap.get?_push_of_some _ q, fun _ => True.intro, fun y hy => absurd rfl hy⟩
theorem attr_of {prog : Program} {w : World} {env : Env} {e : Expr} {f : Str} {pos : Pos} {s : Shared} {Q : Value → Shared → Prop} (hb : attributeBase e f env (eval e env) = eval e env)
    (h : wpAny (model prog w) A (eval e env) (fun o s₁ => wpAny (model prog w) A (getAttr o f true) Q E s₁) E s) : wpAny (model prog w) A (eval (.Attribute e f pos) env) Q E s :=
  Attribute_any_ h (by rw [arm_eval_Attribute, hb])
end
inductive tFldI (K : PySem.W.Frag) (f : Str) (Q : VK) (x : V) (H1 : Hp) : Prop
  | mk (a : _) (C : _) (dx : _) (fs : _) (v : _) (f1 : x = .ref a) (f2 : H1 a = some (.ins C dx fs)) (f3 : Cls K C) (f4 : NoAttr K C f) (f5 : fs.lookup f = some v) (f6 : Q v H1) : tFldI K f Q x H1
noncomputable def tFld (K : PySem.W.Frag) (ta : TE) (f : Str) : TE := fun σ H Q => ta σ H fun x H1 => tFldI K f Q x H1
noncomputable def sFld (K : PySem.W.Frag) (ta tv : TE) (f : Str) : TS := fun D σ H => tv σ H fun y H1 => ta σ H1 fun x H2 => ∃ a C dx fs, x = .ref a ∧ H2 a = some (.ins C dx fs) ∧ Cls K C ∧ NoAttr K C f ∧ fs.length < 1000 ∧
  D.nx σ (upd H2 a (.ins C dx (putF f y fs)))
section
variable {X : Cx} {o e value : Expr} {f : Str} {pos pos' tpos : Pos} {ta tv : TE}
theorem pe_fld (he : PE X e ta) (hb : attributeBase e f X.env (eval e X.env) = eval e X.env) : PE X (.Attribute e f pos) (tFld X.K ta f) := by
  intro pins s σ H Q I h
  refine attr_of hb (thn (he pins s σ H _ I h) fun u s1 ⟨x, H1, I1, rx, a, C, dx, fs, v, ex, ea, c, n, l, q⟩ => ?_)
  subst ex
  obtain rfl : u = Value.ref a := rx
  exact getattr_ok I1 ea c n l fun u' s2 I2 ru => ⟨v, H1, I2, ru, q⟩
theorem ps_fld (ha : PE X o ta) (hv : PE X value tv) (hs : swapsWith value (some (.Attribute o f pos')) pos.line X.env = pure false) : PS X (.Assign [.Attribute o f pos'] value pos) (sFld X.K ta tv f) := by
  intro pins s σ H D I h
  refine plainObj_wpAny_Assign_Attribute (thn (hv pins s σ H _ I h) fun u s1 ⟨y, H1, I1, ry, q⟩ => thn (ha pins s1 σ H1 _ I1 q) fun ov s2 ⟨x, H2, I2, rx, a, C, dx, fs, ex, ea, c, n, l, q2⟩ => ?_) hs
  subst ex
  obtain rfl : ov = Value.ref a := rx
  exact setattr_ok I2 ea c n l ry fun s3 I3 => ⟨σ, _, I3, q2⟩
end
section
variable {X : Cx} {pins : List (Addr × Obj)} {σ : St} {H : Hp} {s : Shared} {A : Around} {E : Value → Shared → Prop} {Q : Value → Shared → Prop} {c : Value} {b : Bool}
inductive TyOf (K : PySem.W.Frag) (H : Hp) : V → Value → Prop where
  | non : TyOf K H .non (.type "NoneType")
  | bl (x : Bool) : TyOf K H (.bl x) (.type "bool")
  | int (i : Int) : TyOf K H (.int i) (.type "int")
  | str (x : Str) : TyOf K H (.str x) (.type "str")
  | flt (x : UInt64) : TyOf K H (.flt x) (.type "float")
  | lst {a : Addr} {xs : List V} (e : H a = some (.lst xs)) : TyOf K H (.ref a) (.type "list")
  | frz {a : Addr} {o : Obj} {xs : List V} (e : H a = some (.frz o (.lst xs))) : TyOf K H (.ref a) (.type "list")
  | tup {a : Addr} {xs : List V} (e : H a = some (.tup xs)) : TyOf K H (.ref a) (.type "tuple")
  | dK {a : Addr} {kvs : List (Key × V)} (e : H a = some (.dK kvs)) : TyOf K H (.ref a) (.type "dict")
  | dT {a : Addr} {kvs : List (List Key × V)} (e : H a = some (.dT kvs)) : TyOf K H (.ref a) (.type "dict")
  | ins {a C dx : Addr} {fs : List (Str × V)} (e : H a = some (.ins C dx fs)) (cl : Cls K C) (ha : PySem.W.findIn K (.ref C) "__class__" = some (some (.builtin "object.__class__")))
      (hn : PySem.W.specialIn K (.builtin "object.__class__") "__get__" = some (some (.builtin "getset_descriptor.__get__"))) (htk : PySem.W.takesIn K (.builtin "object.__class__") = some true)
      (hm : PySem.W.mroIn K C (.type "object") = some true) : TyOf K H (.ref a) (.ref C)
theorem isinst_ok {x : V} {u t : Value} (I : Inv X pins σ H s) (rx : RelV x u) (ty : TyOf X.K H x t) (e : PySem.W.kitOne X.K t c = some b) (h : ∀ tk, Q (.bool b) { s with toks := tk }) :
    wpAny (model X.prog X.w) A (call (.builtin "isinstance") [u, c]) Q E s := by
  cases ty with
  | non => cases (show u = Value.none from rx); exact PySem.W.kia_one PySem.W.kitx_none I.kIn True.intro e (fun z => nomatch z) h
  | bl y => cases (show u = Value.bool y from rx); exact PySem.W.kia_one PySem.W.kitx_bool I.kIn True.intro e (fun z => nomatch z) h
  | int i => obtain ⟨t, q⟩ := (show ∃ t, u = Value.int i t from rx); cases q; exact PySem.W.kia_one PySem.W.kitx_int I.kIn True.intro e (fun z => nomatch z) h
  | str y => obtain ⟨t, q⟩ := (show ∃ t, u = Value.str y t from rx); cases q; exact PySem.W.kia_one PySem.W.kitx_str I.kIn True.intro e (fun z => nomatch z) h
  | flt y => obtain ⟨t, q⟩ := (show ∃ t, u = Value.float y t from rx); cases q; exact PySem.W.kia_one PySem.W.kitx_float I.kIn True.intro e (fun z => nomatch z) h
  | @lst a xs ea =>
    cases (show u = Value.ref a from rx)
    obtain ⟨_, _, n, _, h1⟩ := (show ObjOk X.prog X.w H s.heap a (.lst xs) from I.hok a _ ea)
    exact PySem.W.kia_one PySem.W.kitx_list I.kIn ⟨_, h1, rfl⟩ e (fun z => nomatch z) h
  | @frz a ob xs ea =>
    cases (show u = Value.ref a from rx)
    obtain ⟨_, _, _, n, _, h1⟩ := (show ObjOk X.prog X.w H s.heap a (.frz ob (.lst xs)) from I.hok a _ ea)
    exact PySem.W.kia_one PySem.W.kitx_list I.kIn ⟨_, h1, rfl⟩ e (fun z => nomatch z) h
  | @tup a xs ea =>
    cases (show u = Value.ref a from rx)
    obtain ⟨_, _, _, p, _⟩ := (show ObjOk X.prog X.w H s.heap a (.tup xs) from I.hok a _ ea)
    obtain ⟨o, h1, h2, _⟩ := p
    exact PySem.W.kia_one PySem.W.kitx_tuple I.kIn ⟨o, h1, h2⟩ e (fun z => nomatch z) h
  | @dK a kvs ea =>
    cases (show u = Value.ref a from rx)
    obtain ⟨_, _, vs, _, p⟩ := (show ObjOk X.prog X.w H s.heap a (.dK kvs) from I.hok a _ ea)
    obtain ⟨o, es, ep, h1, h2, _⟩ := p
    exact PySem.W.kia_one PySem.W.kitx_dict I.kIn ⟨o, h1, h2.1⟩ e (fun z => nomatch z) h
  | @dT a kvs ea =>
    cases (show u = Value.ref a from rx)
    obtain ⟨_, _, xs, _, o, es, ep, h1, h2, _⟩ := (show ObjOk X.prog X.w H s.heap a (.dT kvs) from I.hok a _ ea)
    exact PySem.W.kia_one PySem.W.kitx_dict I.kIn ⟨o, h1, h2.1⟩ e (fun z => nomatch z) h
  | @ins a C dx fs ea cl ha hn htk hm =>
    cases (show u = Value.ref a from rx)
    obtain ⟨mA, O, _⟩ := ins_get I.hok ea
    obtain ⟨od, J, _⟩ := O.look
    exact PySem.W.kia_one (PySem.W.kitx_own (cl.get _) cl.hd ha hn htk hm) I.kIn J e (fun z => nomatch z) h
end
end L2
namespace L2
open PySem PySem.Spec PyProof.Rows
structure Room (k : Nat) (A : Around) : Prop where
  hd : A.handled = none
  dp : A.depth + 3 * k + 5 < recursionLimit
  un : A.units + 16 * k + 200 < cLine
theorem Room.mono {j k : Nat} {A : Around} (r : Room k A) (h : j ≤ k) : Room j A := ⟨r.hd, by have := r.dp; lia, by have := r.un; lia⟩
theorem Room.deeper {k : Nat} {A : Around} (r : Room (k + 1) A) (env : Env) : Room k (A.deeper env) :=
  ⟨r.hd, by have := r.dp; show A.depth + 1 + 3 * k + 5 < _; lia, by have := r.un; show A.units + 3 + 16 * k + 200 < _; lia⟩
theorem make_depth {A : Around} {C : Addr} {us : List Value} {kw : List (Str × Value)} : (A.under (.builtin "type.__call__" ⟨.ref C :: us, kw⟩)).depth = A.depth + 1 := by
  first | rfl | simp [Around.under, Code.weight, Code.isCreation, Code.isGuard, Code.isCaller, Code.frames, Code.isFrame, guardIds]
theorem make_units {A : Around} {C : Addr} {us : List Value} {kw : List (Str × Value)} : (A.under (.builtin "type.__call__" ⟨.ref C :: us, kw⟩)).units = A.units + 1 := by
  first | rfl | simp [Around.under, Code.cUnits, Code.frames, Code.isFrame]
theorem Room.make {k : Nat} {A : Around} (r : Room (k + 1) A) (C : Addr) (us : List Value) (kw : List (Str × Value)) : Room k (A.under (.builtin "type.__call__" ⟨.ref C :: us, kw⟩)) :=
  ⟨r.hd, by have := r.dp; rw [make_depth]; lia, by have := r.un; rw [make_units]; lia⟩
theorem Room.depth {k : Nat} {A : Around} (r : Room k A) : A.depth < recursionLimit := by have := r.dp; lia
theorem Room.units {k : Nat} {A : Around} (r : Room k A) : A.units + 64 < cLine := by have := r.un; lia
noncomputable def tNil : TA := fun _ H Q => Q [] H
noncomputable def tCons (ta : TE) (tr : TA) : TA := fun σ H Q => ta σ H fun x H1 => tr σ H1 fun xs H2 => Q (x :: xs) H2
section
variable {X : Cx} {e : Expr} {es : List Expr} {te : TE} {t : TA} {pos : Pos}
theorem pa_nil : PA X [] tNil := fun _ _ _ _ H Q I h => Calls.spliced_nil ⟨[], H, I, .nil, h⟩
theorem pa_cons (ha : PE X e te) (hr : PA X es t) (hs : starEach (e :: es) X.env = (false, eval e X.env) :: starEach es X.env := by rfl) : PA X (e :: es) (tCons te t) := by
  intro pos pins s σ H Q I h
  rw [hs]
  show wpAny _ _ (spliced ((false, eval e X.env) :: backTo pos (starEach es X.env))) _ _ s
  refine Calls.spliced_cons (thn (ha pins s σ H _ I h) fun u s1 ⟨x, H1, I1, r1, q1⟩ => ?_)
  exact thn (hr pos pins s1 σ H1 _ I1 q1) fun us s2 ⟨xs, H2, I2, r2, q2⟩ => ⟨x :: xs, H2, I2, .cons r1 r2, q2⟩
noncomputable def tTup (t : TA) : TE := fun σ H Q => t σ H fun xs H1 => xs.length ≤ sizeLine ∧ ∀ p, H1 p = none → Q (.ref p) (upd H1 p (.tup xs))
noncomputable def tLst (t : TA) : TE := fun σ H Q => t σ H fun xs H1 => xs.length ≤ sizeLine ∧ ∀ p, H1 p = none → Q (.ref p) (upd H1 p (.lst xs))
theorem pe_tup {x1} (h : PA X es t) : PE X (.Tuple es x1 pos) (tTup t) := by
  intro pins s σ H Q I hq
  refine wpAny_Tuple_spliced (thn (h pos pins s σ H _ I hq) fun us s1 ⟨xs, H1, I1, r, z, q⟩ => ⟨by rw [← r.length]; exact z, ?_⟩)
  have hf : H1 s1.heap.objs.size = none := I1.hok.fresh (Nat.le_refl _)
  refine ⟨.ref s1.heap.objs.size, upd H1 s1.heap.objs.size (.tup xs), I1.laid (t' := s1.toks) (fun b u e => Heap.get?_push_of_some _ e) (Nat.le_refl _) ?_, rfl, q _ hf⟩
  exact ⟨z, us, r, ⟨_, Heap.get?_push_size _ rfl, rfl, _, rfl⟩, _, Heap.get?_push_size _ rfl, rfl⟩
theorem pe_lst (h : PA X es t) : PE X (.List es pos) (tLst t) := by
  intro pins s σ H Q I hq
  refine wpAny_List_spliced (thn (h pos pins s σ H _ I hq) fun us s1 ⟨xs, H1, I1, r, z, q⟩ => ⟨by rw [← r.length]; exact z, ?_⟩)
  have hf : H1 s1.heap.objs.size = none := I1.hok.fresh (Nat.le_refl _)
  refine ⟨.ref s1.heap.objs.size, upd H1 s1.heap.objs.size (.lst xs), I1.laid (t' := s1.toks) (fun b u e => Heap.get?_push_of_some _ e) (Nat.le_refl _) ?_, rfl, q _ hf⟩
  exact ⟨z, us, 0, r, Heap.get?_push_size _ rfl⟩
end
noncomputable abbrev Sp := List V → Hp → VK → XK → Prop
noncomputable abbrev CXT := List Env → Hp → Shared → XK → Value → Shared → Prop
structure Env0 (P : Program) (w : World) (K : PySem.W.Frag) (mg : Str → Option Value) (base : Heap) (A : Around) (outer : List Env) (s : Shared) (H : Hp) : Prop where
  frames : A.frames = some outer
  mod : Mod K mg base
  bs : ∀ b o, base.get? b = some o → s.heap.get? b = some o ∧ H b = none
  bsz : base.objs.size ≤ s.heap.objs.size
  funs : s.heap.FunFrames base outer
  frf : ∀ b ∈ frs outer, H b = none
  hok : HOk P w H s.heap
  bare : AllBare s.gens
noncomputable def CE (outer : List Env) (P : Program) (w : World) (H : Hp) (s : Shared) (Q : VK) (u : Value) (s' : Shared) : Prop :=
  ∃ v H', s'.os = s.os ∧ AllBare s'.gens ∧ Un (frs outer) [] H H' s.heap s'.heap ∧ HOk P w H' s'.heap ∧ RelV v u ∧ Q v H'
noncomputable def CR (CX : CXT) (outer : List Env) (P : Program) (w : World) (H : Hp) (s : Shared) (Q : VK) (E : XK) (r : Result) (s' : Shared) : Prop :=
  match r with
  | .ok (.ret u) => CE outer P w H s Q u s'
  | .ok _ => False
  | .error e => CX outer H s E e s'
structure FnOk (P : Program) (w : World) (K : PySem.W.Frag) (mg : Str → Option Value) (base : Heap) (CX : CXT) (k : Nat) (f : Addr) (fd : FuncData) (ps : List Str) (sp : Sp) : Prop where
  len : ∀ vs H Q E, sp vs H Q E → vs.length = ps.length
  run : ∀ (A : Around) (outer : List Env) (s : Shared) (H : Hp) (args : Args) (us : List Value) (vs : List V) (Q : VK) (E : XK), Room k A → Env0 P w K mg base A outer s H → BindsTo s fd args (ps.zip us) → Vals vs us → sp vs H Q E →
    codeAny (model P w) A (.call (.ref f) args) (CR CX outer P w H s Q E) s
theorem FnOk.mono {P : Program} {w : World} {K : PySem.W.Frag} {mg : Str → Option Value} {base : Heap} {CX : CXT} {j k : Nat} {f : Addr} {fd : FuncData} {ps : List Str} {sp : Sp} (F : FnOk P w K mg base CX j f fd ps sp) (h : j ≤ k) :
    FnOk P w K mg base CX k f fd ps sp := ⟨F.len, fun A outer s H args us vs Q E hr => F.run A outer s H args us vs Q E (hr.mono h)⟩
theorem FnOk.imp {P : Program} {w : World} {K : PySem.W.Frag} {mg : Str → Option Value} {base : Heap} {CX : CXT} {k : Nat} {f : Addr} {fd : FuncData} {ps : List Str} {sp sp' : Sp} (F : FnOk P w K mg base CX k f fd ps sp)
    (h : ∀ vs H Q E, sp' vs H Q E → sp vs H Q E) : FnOk P w K mg base CX k f fd ps sp' :=
  ⟨fun vs H Q E q => F.len vs H Q E (h _ _ _ _ q), fun A outer s H args us vs Q E hr he hb hv hs => F.run A outer s H args us vs Q E hr he hb hv (h _ _ _ _ hs)⟩
theorem Env0.make {P : Program} {w : World} {K : PySem.W.Frag} {mg : Str → Option Value} {base : Heap} {A : Around} {outer : List Env} {s : Shared} {H : Hp} (e : Env0 P w K mg base A outer s H) (C : Addr) (us : List Value) (kw : List (Str × Value)) :
    Env0 P w K mg base (A.under (.builtin "type.__call__" ⟨.ref C :: us, kw⟩)) outer s H := ⟨by first | exact e.frames | (simpa [Around.under, Code.envs, Code.isFrame, pushEnvs] using e.frames), e.mod, e.bs, e.bsz, e.funs, e.frf, e.hok, e.bare⟩
section
variable {X : Cx} {pins : List (Addr × Obj)} {σ : St} {H : Hp} {s s' : Shared}
theorem Inv.env0 (I : Inv X pins σ H s) : Env0 X.prog X.w X.K X.mg X.base X.A X.stack s H :=
  ⟨I.ok.frames, I.ok.mod, I.bs, Nat.le_trans I.ok.bsz I.sz, I.stack, I.stkFree, I.hok, I.bare⟩
theorem Inv.after {Q : VK} {u : Value} (I : Inv X pins σ H s) (h : CE X.stack X.prog X.w H s Q u s') : EP X pins σ Q u s' := by
  obtain ⟨v, H', os, bare, un, hok, r, q⟩ := h
  obtain ⟨hh, g, d, t, os'⟩ := s'
  obtain rfl : os' = s.os := os
  exact ⟨v, H', I.call (h' := hh) (g' := g) (d' := d) (t' := t) (ch := []) un hok bare (fun b z => absurd z (by simp)), r, q⟩
end
noncomputable def tCall (sp : Sp) (dvs : List V) (E : XK) (t : TA) : TE := fun σ H Q => t σ H fun vs H1 => sp (vs ++ dvs) H1 Q E
inductive tMethI (C : Addr) (m : Str) (sp : Sp) (dvs : List V) (E : XK) (t : TA) (σ : St) (Q : VK) (x : V) (H1 : Hp) : Prop
  | mk (a : _) (dx : _) (fs : _) (f1 : x = .ref a) (f2 : H1 a = some (.ins C dx fs)) (f3 : fs.lookup m = none) (f4 : t σ H1 fun vs H2 => sp (x :: (vs ++ dvs)) H2 Q E) : tMethI C m sp dvs E t σ Q x H1
noncomputable def tMeth (C : Addr) (m : Str) (sp : Sp) (dvs : List V) (E : XK) (ta : TE) (t : TA) : TE := fun σ H Q => ta σ H fun x H1 => tMethI C m sp dvs E t σ Q x H1
noncomputable def tMake (C : Addr) (sp : Sp) (dvs : List V) (E : XK) (t : TA) : TE := fun σ H Q => t σ H fun vs H1 => ∀ x dx, H1 x = none → H1 dx = none → dx ≠ x →
  sp (.ref x :: (vs ++ dvs)) (upd (upd H1 dx (.own x)) x (.ins C dx [])) (fun v H2 => v = .non ∧ Q (.ref x) H2) E
noncomputable def Binds (K : PySem.W.Frag) (fd : FuncData) (ps : List Str) (ds : List Value) : Prop :=
  ∀ (s : Shared) (us : List Value), K.In s.heap → (us ++ ds).length = ps.length → BindsTo s fd ⟨us, []⟩ (ps.zip (us ++ ds))
theorem Binds.all {K : PySem.W.Frag} {fd : FuncData} {ps : List Str} (h : ∀ us : List Value, us.length = ps.length → bindArgs fd ⟨us, []⟩ = pure (ps.zip us)) : Binds K fd ps [] := fun s us _ hl => by
  rw [List.append_nil] at hl ⊢
  exact .of_eq (h us hl)
noncomputable def Passes (CX : CXT) (X : Cx) (E : XK) : Prop := ∀ (pins : List (Addr × Obj)) (σ : St) (H : Hp) (s : Shared) (e : Value) (s' : Shared), Inv X pins σ H s → CX X.stack H s E e s' → X.xe e s'
section
variable {X : Cx} {CX : CXT} {k : Nat} {f C : Addr} {fd : FuncData} {ps : List Str} {sp : Sp} {dvs : List V} {ds : List Value} {E : XK} {x m : Str} {p pos apos : Pos} {e o : Expr} {es : List Expr} {ta : TE} {t : TA}
theorem run_fn {pins : List (Addr × Obj)} {σ : St} {H : Hp} {s : Shared} {Q : VK} {us : List Value} {vs : List V} (F : FnOk X.prog X.w X.K X.mg X.base CX k f fd ps sp) (hr : Room k X.A) (hb : Binds X.K fd ps ds) (hd : Vals dvs ds) (hx : Passes CX X E)
    (I : Inv X pins σ H s) (r : Vals vs us) (h : sp (vs ++ dvs) H Q E) : wpAny (model X.prog X.w) X.A (call (.ref f) us) (EP X pins σ Q) X.xe s := by
  have r2 : Vals (vs ++ dvs) (us ++ ds) := r.append hd
  have hl : (us ++ ds).length = ps.length := by rw [← r2.length]; exact F.len _ _ _ _ h
  refine wpAny_call (codeAny_mono (F.run X.A X.stack s H ⟨us, []⟩ (us ++ ds) (vs ++ dvs) Q E hr I.env0 (hb s us I.kIn hl) r2 h) fun r s' hq => ?_)
  cases r with
  | error e => exact hx pins σ H s e s' I hq
  | ok fl =>
    cases fl with
    | ret u => exact I.after hq
    | next => exact False.elim hq
    | brk => exact False.elim hq
    | cont => exact False.elim hq
theorem pe_call (F : FnOk X.prog X.w X.K X.mg X.base CX k f fd ps sp) (hr : Room k X.A) (hg : Gl X x) (hm : X.mg x = some (.ref f)) (hk : PySem.W.keepIn X.K (.ref f) = true) (hb : Binds X.K fd ps ds) (hd : Vals dvs ds) (hx : Passes CX X E)
    (ha : PA X (e :: es) t) (hdb : (x == ("__debug__" : Str)) = false := by decide) (he : starEach (e :: es) X.env = (false, eval e X.env) :: starEach es X.env := by rfl) (hpl : (backTo pos (starEach es X.env)).any (·.1) = false := by rfl) :
    PE X (.Call (.Name x p) (e :: es) [] pos) (tCall sp dvs E t) := by
  intro pins s σ H Q I h
  refine wpAny_Call_Name_kw (ld_glob I hg hm ?_ hdb)
  refine PySem.W.callWith_K (h₀ := X.base) I.ok.mod.kin hk (thn (ha pos pins s σ H _ I h) fun us s1 ⟨vs, H1, I1, r, q⟩ => ⟨I1.kIn, ?_⟩) he hpl
  exact run_fn F hr hb hd hx I1 r q
theorem pe_meth0 {pl : Sem Bool} (he : PE X o ta) (c : Cls X.K C) (hm : Meth X.K C m f) (F : FnOk X.prog X.w X.K X.mg X.base CX k f fd ps sp) (hr : Room k X.A) (hb : Binds X.K fd ps ds) (hd : Vals dvs ds) (hx : Passes CX X E)
    (ht : eval (.Call (.Attribute o m apos) [] [] pos) X.env = (do
      let ov ← eval o X.env
      standAt apos.atName
      let (f, first) ← holding [ov] (getMethod ov m pl)
      callWith pos f first (backTo pos (starEach [] X.env)) (backToKw pos (keywordEach [] X.env))) := by rfl) :
    PE X (.Call (.Attribute o m apos) [] [] pos) (tMeth C m sp dvs E ta tNil) := by
  intro pins s σ H Q I h
  refine PySem.W.methodCall_KW (pl := pl) (thn (he pins s σ H _ I h) fun u s1 ⟨x, H1, I1, rx, a, dx, fs, ex, ea, l, q⟩ => ?_) ht
  subst ex
  obtain rfl : u = Value.ref a := rx
  refine getmeth_ok I1 ea c hm l ?_
  exact PySem.W.callWith_K0 (first := [.ref a]) I1.kIn hm.kp (run_fn (us := [.ref a]) (vs := [.ref a]) F hr hb hd hx I1 (.cons rfl .nil) q)
structure Mk (K : PySem.W.Frag) (C f : Addr) : Prop where
  makes : PySem.W.makesIn K C = true
  init : PySem.W.findIn K (.ref C) "__init__" = some (some (.ref f))
  fn : PySem.W.isFn K (.ref f) = true
  kp : PySem.W.keepIn K (.ref C) = true
theorem run_make {pins : List (Addr × Obj)} {σ : St} {H : Hp} {s : Shared} {Q : VK} {us : List Value} {vs : List V} (M : Mk X.K C f) (F : FnOk X.prog X.w X.K X.mg X.base CX k f fd ps sp) (hr : Room (k + 1) X.A) (hb : Binds X.K fd ps ds) (hd : Vals dvs ds)
    (hx : Passes CX X E) (I : Inv X pins σ H s) (r : Vals vs us)
    (h : ∀ x dx, H x = none → H dx = none → dx ≠ x → sp (.ref x :: (vs ++ dvs)) (upd (upd H dx (.own x)) x (.ins C dx [])) (fun v H2 => v = .non ∧ Q (.ref x) H2) E) :
    wpAny (model X.prog X.w) X.A (call (.ref C) us) (EP X pins σ Q) X.xe s := by
  have hq := h (s.heap.objs.size + 1) s.heap.objs.size (I.hok.fresh (Nat.le_succ _)) (I.hok.fresh (Nat.le_refl _)) (Nat.ne_of_lt (Nat.lt_succ_self _))
  have I2 := Inv.made (C := C) I
  have r2 : Vals (V.ref (s.heap.objs.size + 1) :: (vs ++ dvs)) (Value.ref (s.heap.objs.size + 1) :: (us ++ ds)) := .cons rfl (r.append hd)
  have hl : (Value.ref (s.heap.objs.size + 1) :: us ++ ds).length = ps.length := by
    have e := r2.length
    rw [F.len _ _ _ _ hq] at e
    exact e.symm
  refine wpAny_call (make_map (f := f) I.kIn M.makes M.init (beq_iff_eq.mp M.fn) (codeAny_mono (F.run _ X.stack _ _ ⟨Value.ref (s.heap.objs.size + 1) :: us, []⟩ (Value.ref (s.heap.objs.size + 1) :: (us ++ ds)) _ _ E (hr.make C us [])
    (I2.env0.make C us []) (hb _ (Value.ref (s.heap.objs.size + 1) :: us) I2.kIn hl) r2 hq) fun r s' hq' => ?_))
  cases r with
  | error e => exact hx pins σ _ _ e s' I2 hq'
  | ok fl =>
    cases fl with
    | ret u =>
      obtain ⟨v, H', I3, rv, ev, q3⟩ := I2.after hq'
      subst ev
      exact ⟨rv, ⟨V.ref (s.heap.objs.size + 1), H', I3, rfl, q3⟩⟩
    | next => exact False.elim hq'
    | brk => exact False.elim hq'
    | cont => exact False.elim hq'
theorem pe_make (M : Mk X.K C f) (F : FnOk X.prog X.w X.K X.mg X.base CX k f fd ps sp) (hr : Room (k + 1) X.A) (hg : Gl X x) (hm : X.mg x = some (.ref C)) (hb : Binds X.K fd ps ds) (hd : Vals dvs ds) (hx : Passes CX X E)
    (ha : PA X (e :: es) t) (hdb : (x == ("__debug__" : Str)) = false := by decide) (he : starEach (e :: es) X.env = (false, eval e X.env) :: starEach es X.env := by rfl) (hpl : (backTo pos (starEach es X.env)).any (·.1) = false := by rfl) :
    PE X (.Call (.Name x p) (e :: es) [] pos) (tMake C sp dvs E t) := by
  intro pins s σ H Q I h
  refine wpAny_Call_Name_kw (ld_glob I hg hm ?_ hdb)
  refine PySem.W.callWith_K (h₀ := X.base) I.ok.mod.kin M.kp (thn (ha pos pins s σ H _ I h) fun us s1 ⟨vs, H1, I1, r, q⟩ => ⟨I1.kIn, ?_⟩) he hpl
  exact run_make M F hr hb hd hx I1 r q
end
section
variable {X : Cx} {CX : CXT} {k : Nat} {f C : Addr} {fd : FuncData} {ps ks : List Str} {sp : Sp} {E : XK} {x m : Str} {p pos apos kpos : Pos} {e o : Expr} {es : List Expr} {kws : List Keyword} {te ta : TE} {t tk : TA} {nm : Option Str}
variable {g : List Value → List Value → List Value} {gV : List V → List V → List V}
end
structure FnScope (N P : List Str) (sc : Scope) : Prop where
  kind : sc.kind = .function
  co : sc.isCoroutine = false
  gen : sc.isGenerator = false
  nd : N.Nodup
  pre : N.take P.length = P
  par : ∀ x ∈ P, sc.names.lookup x = some .local ∨ sc.names.lookup x = some .cell
  nofree : ∀ y ∈ sc.names, y.2 ≠ .free
theorem bindL_out {kindOf : Str → Option NameKind} {x : Str} : ∀ {binds : List (Str × Value)} {m : Str → Option Value}, (∀ v, (x, v) ∉ binds) → bindL kindOf binds m x = m x
  | [], _, _ => rfl
  | (n, v) :: r, m, h => by
    unfold bindL
    rw [bindL_out fun w hw => h w (List.mem_cons_of_mem _ hw)]
    split
    · have : x ≠ n := by rintro rfl; exact h v List.mem_cons_self
      simp [this]
    · rfl
theorem bindC_out {kindOf : Str → Option NameKind} {x : Str} : ∀ {binds : List (Str × Value)} {m : Str → Option Value}, (∀ v, (x, v) ∉ binds) → bindC kindOf binds m x = m x
  | [], _, _ => rfl
  | (n, v) :: r, m, h => by
    unfold bindC
    rw [bindC_out fun w hw => h w (List.mem_cons_of_mem _ hw)]
    split
    · rfl
    · have : x ≠ n := by rintro rfl; exact h v List.mem_cons_self
      simp [this]
theorem bindL_get {kindOf : Str → Option NameKind} {x : Str} {v : Value} : ∀ {P : List Str} {vs : List Value} {i : Nat} {m : Str → Option Value}, P.Nodup → P[i]? = some x → vs[i]? = some v → kindOf x = some .local →
    bindL kindOf (P.zip vs) m x = some v
  | [], _, _, _, _, h, _, _ => by simp at h
  | _ :: _, [], _, _, _, _, h, _ => by simp at h
  | p :: P, w :: vs, 0, m, nd, h1, h2, hk => by
    simp at h1 h2; subst h1; subst h2
    show bindL kindOf ((p, w) :: P.zip vs) m p = _
    unfold bindL
    rw [bindL_out fun v hv => (List.nodup_cons.mp nd).1 (List.of_mem_zip hv).1, if_pos hk]
    simp
  | p :: P, w :: vs, i + 1, m, nd, h1, h2, hk => by
    show bindL kindOf ((p, w) :: P.zip vs) m x = _
    unfold bindL
    exact bindL_get (i := i) (List.nodup_cons.mp nd).2 (by simpa using h1) (by simpa using h2) hk
theorem bindC_get {kindOf : Str → Option NameKind} {x : Str} {v : Value} : ∀ {P : List Str} {vs : List Value} {i : Nat} {m : Str → Option Value}, P.Nodup → P[i]? = some x → vs[i]? = some v → kindOf x ≠ some .local →
    bindC kindOf (P.zip vs) m x = some v
  | [], _, _, _, _, h, _, _ => by simp at h
  | _ :: _, [], _, _, _, _, h, _ => by simp at h
  | p :: P, w :: vs, 0, m, nd, h1, h2, hk => by
    simp at h1 h2; subst h1; subst h2
    show bindC kindOf ((p, w) :: P.zip vs) m p = _
    unfold bindC
    rw [bindC_out fun v hv => (List.nodup_cons.mp nd).1 (List.of_mem_zip hv).1, if_neg hk]
    simp
  | p :: P, w :: vs, i + 1, m, nd, h1, h2, hk => by
    show bindC kindOf ((p, w) :: P.zip vs) m x = _
    unfold bindC
    exact bindC_get (i := i) (List.nodup_cons.mp nd).2 (by simpa using h1) (by simpa using h2) hk
noncomputable def start (N : List Str) (vs : List V) : St := vs.map some ++ List.replicate (N.length - vs.length) none
noncomputable def cxOf (CX : CXT) (P : Program) (w : World) (K : PySem.W.Frag) (mg : Str → Option Value) (base : Heap) (N : List Str) (qual : Str) (scope : Scope) (f : Addr) (cd : Value) (A : Around) (outer : List Env) (s : Shared) (H : Hp) (E : XK) : Cx where
  prog := P
  w := w
  K := K
  mg := mg
  base := base
  A := A.deeper (envOfC qual scope s.heap.objs.size f cd)
  N := N
  s₀ := s
  H₀ := H
  env := envOfC qual scope s.heap.objs.size f cd
  outer := outer
  stack := envOfC qual scope s.heap.objs.size f cd :: outer
  ex := []
  calm := true
  fn := fun _ => true
  pn := []
  xe := fun e s' => wpAny (model P w) (A.deeper (envOfC qual scope s.heap.objs.size f cd)) (leaving (envOfC qual scope s.heap.objs.size f cd) e) (fun _ s'' => CX outer H s E e s'') (fun e' s'' => CX outer H s E e' s'') s'
theorem cell_has {sc : Scope} {n : Nat} {x : Str} (h : sc.names.lookup x = some .cell) : ∃ c, (cellsFrom n sc.names []).lookup x = some c := by
  have q := PySem.W.cellsFrom_some sc.names n [] (.inl h)
  exact Option.isSome_iff_exists.mp q
theorem inv_start {CX : CXT} {P : Program} {w : World} {K : PySem.W.Frag} {mg : Str → Option Value} {base : Heap} {N ps : List Str} {qual : Str} {scope : Scope} {f : Addr} {cd : Value} {A : Around} {outer : List Env} {s s1 : Shared} {H : Hp} {E : XK} {us : List Value} {vs : List V}
    (S : FnScope N ps scope) (hd : A.handled = none) (e0 : Env0 P w K mg base A outer s H) (hl : vs.length = ps.length) (r : Vals vs us)
    (x : InCallC s s.heap.objs.size (bindL (envOfC qual scope s.heap.objs.size f cd).kindOf (ps.zip us) fun _ => none) (cellsFrom (s.heap.objs.size + 1) scope.names []) (bindC (envOfC qual scope s.heap.objs.size f cd).kindOf (ps.zip us) fun _ => none) s1) :
    Inv (cxOf CX P w K mg base N qual scope f cd A outer s H E) [] (start N vs) H s1 := by
  have hpl : ps.length ≤ N.length := by have := congrArg List.length S.pre; rw [List.length_take] at this; lia
  obtain ⟨h1, tk, rfl, hk⟩ := x.done
  have noA : ∀ b : Addr, b ∉ (cxOf CX P w K mg base N qual scope f cd A outer s H E).ex := fun b z => absurd (show b ∈ ([] : List Addr) from z) (by simp)
  refine ⟨⟨e0.mod, S.kind, rfl, rfl, Nat.le_refl _, fun y z c h1 h2 => ?_, fun y hy => ?_, fun y c _ h => ?_, fun _ => hd, Around.frames_deeper e0.frames, .inr ⟨rfl, rfl⟩, fun b z => absurd z (noA b), e0.bs, e0.bsz, fun b _ _ => noA b, fun b z => absurd z (noA b), e0.funs, e0.frf⟩,
    rfl, e0.bare, Un.kept hk, ⟨_, x.toInCall.ns, fun i y v h1 h2 h3 => ?_⟩, fun y c h => ⟨_, x.cell y c h⟩, e0.hok.fresh (Nat.le_refl _), fun y c h => ?_, fun p hp => absurd (show p ∈ ([] : List (Addr × Obj)) from hp) (by simp), e0.hok.kept hk, ?_⟩
  · exact name_of_addr x.apart (PySem.mem_of_lookup h1) (PySem.mem_of_lookup h2)
  · have hy : scope.names.lookup y = some .cell ∨ scope.names.lookup y = some .free := hy
    rcases hy with hy | hy
    · exact cell_has hy
    · exact absurd rfl (S.nofree _ (PySem.mem_of_lookup hy))
  · exact Nat.le_of_lt (x.above y c (PySem.mem_of_lookup h))
  · have hi : i < vs.length := by
      unfold start at h2
      by_cases hi : i < vs.length
      · exact hi
      · rw [List.getElem?_append_right (by simpa using hi)] at h2
        rw [List.getElem?_replicate] at h2
        split at h2 <;> cases h2
    have ha : vs[i]? = some v := by
      unfold start at h2
      rw [List.getElem?_append_left (by simpa using hi), List.getElem?_map] at h2
      cases e : vs[i]? with
      | none => rw [e] at h2; cases h2
      | some a => rw [e] at h2; cases h2; rfl
    obtain ⟨u, hu, rv⟩ := r.get ha
    have hp : ps[i]? = some y := by
      rw [← S.pre, List.getElem?_take_of_lt (by lia)]; exact h1
    have ndP : ps.Nodup := by rw [← S.pre]; exact S.nd.sublist (List.take_sublist _ _)
    refine ⟨u, rv, ?_⟩
    rcases S.par y (List.mem_of_getElem? hp) with k | k
    · exact .inl ⟨k, bindL_get ndP hp hu k⟩
    · obtain ⟨c, e⟩ := cell_has (n := s.heap.objs.size + 1) k
      refine .inr ⟨.inl k, c, e, ?_⟩
      have q := x.cell y c e
      rw [bindC_get ndP hp hu (by show scope.names.lookup y ≠ _; rw [k]; decide)] at q
      exact q
  · exact e0.hok.fresh (Nat.le_of_lt (x.above y c (PySem.mem_of_lookup h)))
  · unfold start
    show _ = N.length
    rw [List.length_append, List.length_map, List.length_replicate]
    lia
theorem fn_of {CX : CXT} {P : Program} {w : World} {K : PySem.W.Frag} {mg : Str → Option Value} {base : Heap} {k : Nat} {f : Addr} {name qual : Str} {params : Arguments} {body : List Stmt} {scope : Scope} {dV kV doc pm cdv ct oc : Value} {an od : Option Addr}
    {osl : Array (Option Value)} {N ps : List Str} {sp : Sp} (lk : K.lookup f = some ⟨oc, od, .func (PySem.W.fnOf name qual params body scope dV kV doc pm an cdv ct), osl⟩) (hcd : PySem.W.codeIn K cdv qual = true) (S : FnScope N ps scope)
    (len : ∀ vs H Q E, sp vs H Q E → vs.length = ps.length)
    (hbody : ∀ (A : Around) (outer : List Env) (s : Shared) (H : Hp) (vs : List V) (Q : VK) (E : XK), Room k (A.deeper (envOfC qual scope s.heap.objs.size f cdv)) → sp vs H Q E →
      ∃ t, PSs (cxOf CX P w K mg base N qual scope f cdv A outer s H E) body t ∧ t { nx := fun _ H' => Q .non H', rt := Q } (start N vs) H) :
    FnOk P w K mg base CX (k + 1) f (PySem.W.fnOf name qual params body scope dV kV doc pm an cdv ct) ps sp := by
  refine ⟨len, fun A outer s H args us vs Q E hr e0 hb r hsp => ?_⟩
  have hl := len _ _ _ _ hsp
  have KX : K.In s.heap := e0.mod.kin.keeps fun b o e => (e0.bs b o e).1
  have lim : s.heap.NoLimit := e0.mod.nolimit.keeps fun b o e => (e0.bs b o e).1
  have hkind : ∀ y ∈ ps.zip us, scope.names.lookup y.1 = some .local ∨ (scope.names.lookup y.1 = some .cell ∧ ((cellsFrom (s.heap.objs.size + 1) scope.names []).lookup y.1).isSome = true) := fun ⟨n, v⟩ hy => by
    rcases S.par n (List.of_mem_zip hy).1 with q | q
    · exact .inl q
    · exact .inr ⟨q, PySem.W.cellsFrom_some _ _ _ (.inl q)⟩
  refine codeAny_call_function hr.depth (KX _ _ lk) rfl S.co S.gen rfl (PySem.W.codeRec_of KX hcd) (hb _ _ _ _ ?_)
  refine wpAny_newFunctionEnv_cells S.kind hkind fun env he s1 x => ?_
  subst he
  refine ⟨lim.keeps x.toInCall.keep, codeAny_func ?_⟩
  obtain ⟨t, ht, hq⟩ := hbody A outer s H vs Q E (hr.deeper _) hsp
  have I : Inv (cxOf CX P w K mg base N qual scope f cdv A outer s H E) [] (start N vs) H s1 := inv_start S hr.hd e0 hl r x
  refine wpAny_mono (ht [] s1 (start N vs) H _ I hq) (fun fl s' hs => ?_) fun e s' hs => hs
  have fin : ∀ {σ' : St} {H' : Hp} {v : V} {u : Value}, Inv (cxOf CX P w K mg base N qual scope f cdv A outer s H E) [] σ' H' s' → RelV v u → Q v H' → CE outer P w H s Q u s' :=
    fun {σ' H' v u} J rv q => ⟨v, H', J.os, J.bare, J.base, J.hok, rv, q⟩
  cases fl with
  | ret u =>
    obtain ⟨v, σ', H', J, rv, q⟩ := hs
    exact fin J rv q
  | next =>
    obtain ⟨σ', H', J, q⟩ := hs
    exact fin (v := V.non) (u := Value.none) J rfl q
  | brk =>
    obtain ⟨_, _, _, q⟩ := hs
    exact False.elim q
  | cont =>
    obtain ⟨_, _, _, q⟩ := hs
    exact False.elim q
end L2
namespace L2
open PySem PySem.Spec PyProof.Rows
section
variable {X : Cx} {x : Str} {p pos : Pos} {e : Expr} {es : List Expr} {t : TA} {id T : String} {r : List V → Hp → VK → Prop}
noncomputable def tCB (r : List V → Hp → VK → Prop) (t : TA) : TE := fun σ H Q => t σ H fun vs H1 => r vs H1 Q
theorem pe_callB (hc : CallR X (.builtin id) r) (hg : Gl X x) (hm : X.mg x = none) (hv : bootBuiltins x = some (.builtin id)) (ha : PA X (e :: es) t) (hn : x ≠ "__name__" := by decide) (hdb : (x == ("__debug__" : Str)) = false := by decide)
    (he : starEach (e :: es) X.env = (false, eval e X.env) :: starEach es X.env := by rfl) (hpl : (backTo pos (starEach es X.env)).any (·.1) = false := by rfl) : PE X (.Call (.Name x p) (e :: es) [] pos) (tCB r t) := by
  intro pins s σ H Q I h
  refine wpAny_Call_Name_kw (ld_blt I hg hm hv ?_ hn hdb)
  exact PyProof.Rows.callWith_builtin1 (thn (ha pos pins s σ H _ I h) fun us s1 ⟨vs, H1, I1, r1, q1⟩ => hc pins s1 σ H1 vs us Q I1 r1 q1) he hpl
theorem pe_callTy (hc : CallR X (.type T) r) (hg : Gl X x) (hm : X.mg x = none) (hv : bootBuiltins x = some (.type T)) (ha : PA X (e :: es) t) (hn : x ≠ "__name__" := by decide) (hdb : (x == ("__debug__" : Str)) = false := by decide)
    (he : starEach (e :: es) X.env = (false, eval e X.env) :: starEach es X.env := by rfl) (hpl : (backTo pos (starEach es X.env)).any (·.1) = false := by rfl) : PE X (.Call (.Name x p) (e :: es) [] pos) (tCB r t) := by
  intro pins s σ H Q I h
  refine wpAny_Call_Name_kw (ld_blt I hg hm hv ?_ hn hdb)
  exact PyProof.Rows.callWith_type1 (thn (ha pos pins s σ H _ I h) fun us s1 ⟨vs, H1, I1, r1, q1⟩ => hc pins s1 σ H1 vs us Q I1 r1 q1) he hpl
end
end L2
namespace HT
open PySem PyProof.Rows
section
open PySem.SeqAt
open PySem.AutoSeq1 (wpAny_loadPart')
open PySem.MeetsSeq PySem.MeetsSeq2 PySem.MeetsSeq3
end
section
variable {prog : Program} {w : World} {A : Around} {E : Value → Shared → Prop} {s : Shared}
theorem cat_tup {t b : Addr} {vs ws : List Value} {Q : Value → Shared → Prop} (ht : IsTup s.heap t vs.toArray) (hb : IsTup s.heap b ws.toArray) (hv : vs ≠ [])
    (h1 : ws = [] → Q (.ref t) s) (h2 : ws ≠ [] → Q (.ref s.heap.objs.size) { s with heap := s.heap.push { cls := .type "tuple", data := .seq (vs ++ ws).toArray } })
    (hsz : vs.length + ws.length ≤ sizeLine) : wpAny (model prog w) A (binaryOp .Add (.ref t) (.ref b)) Q E s := by
  obtain ⟨⟨cls, dd, data, sl⟩, ho, hc, n, hd⟩ := id ht
  obtain ⟨⟨cls2, dd2, data2, sl2⟩, ho2, hc2, n2, hd2⟩ := id hb
  simp only at hc hd hc2 hd2
  subst hc hd hc2 hd2
  have e : vs.toArray ++ ws.toArray = (vs ++ ws).toArray := by simp
  by_cases hw : ws = []
  · exact concat_meets ⟨_, ho, rfl⟩ ⟨_, ho2, rfl⟩ noFill_tuple_add seq_tuple_add PySem.F.slot_tuple_add PySem.F.entry_tuple_add (PySem.F.args_tuple_add_2 _ _)
      (tuple_addW1 t b vs.toArray ws.toArray n n2 dd dd2 sl sl2 (by simpa using hv) (by simp [hw])) ⟨ho, ho2, h1 hw⟩
  · refine concat_meets ⟨_, ho, rfl⟩ ⟨_, ho2, rfl⟩ noFill_tuple_add seq_tuple_add PySem.F.slot_tuple_add PySem.F.entry_tuple_add (PySem.F.args_tuple_add_2 _ _)
      (tuple_addW2 t b vs.toArray ws.toArray n n2 dd dd2 sl sl2 (by simpa using hv) (by simpa using hw) (by rw [List.size_toArray, List.size_toArray]; exact hsz)) ⟨ho, ho2, ?_⟩
    rw [e]
    exact h2 hw
end
end HT
namespace L2
open PySem PySem.Spec PyProof.Rows
theorem intsAre_of {ns : List Int} : ∀ {us : List Value}, Vals (ns.map V.int) us → IntsAre us ns := by
  induction ns with
  | nil => intro us r; rw [List.map_nil] at r; cases r; exact .nil
  | cons n ns ih =>
    intro us r
    rw [List.map_cons] at r
    cases r with
    | cons r1 r2 =>
      obtain ⟨t, e⟩ := r1
      subst e
      exact .cons n t (ih r2)
section
variable {X : Cx} {e : Expr} {te : TE} {lo hi : Option Expr} {tl th : TO} {pos p2 : Pos}
inductive rCatT (K : PySem.W.Frag) (x : V) (y : V) (H : Hp) (Q : VK) : Prop
  | mk (a : _) (b : _) (xs : _) (ys : _) (f1 : x = .ref a) (f2 : y = .ref b) (f3 : SqT K H a xs) (f4 : SqT K H b ys) (f5 : xs ≠ []) (f6 : xs.length + ys.length ≤ sizeLine) (f7 : (ys = [] → Q (.ref a) H)) (f8 : (ys ≠ [] → ∀ p, H p = none → Q (.ref p) (upd H p (.tup (xs ++ ys))))) : rCatT K x y H Q
theorem Vals.nil_iff {xs : List V} {us : List Value} (r : Vals xs us) : us = [] ↔ xs = [] := by
  cases r with
  | nil => simp
  | cons _ _ => simp
theorem op_catT : OpR X (binaryOp .Add) (rCatT X.K) := by
  intro pins s σ H x y v u Q I rx ry h
  obtain ⟨a, b, xs, ys, rfl, rfl, ha, hb, hx, hz, q1, q2⟩ := h
  cases rx
  cases ry
  obtain ⟨its, r1, p1, _⟩ := I.tuple ha
  obtain ⟨its2, r2, p2, _⟩ := I.tuple hb
  refine HT.cat_tup p1 p2 (fun z => hx (r1.nil_iff.mp z)) (fun z => ⟨.ref a, H, I, rfl, q1 (r2.nil_iff.mp z)⟩) (fun z => ?_) (by rw [← r1.length, ← r2.length]; exact hz)
  refine ⟨.ref s.heap.objs.size, _, I.laid (t' := s.toks) (o := .tup (xs ++ ys)) (fun b ob q => Heap.get?_push_of_some _ q) (Nat.le_refl _) ?_, rfl, q2 (fun w => z (r2.nil_iff.mpr w)) _ (I.hok.fresh (Nat.le_refl _))⟩
  exact ⟨by rw [List.length_append]; exact hz, _, r1.append r2, IsTup.new _ _, _, Heap.get?_push_size _ rfl, rfl⟩
end
end L2
namespace L2
open PySem PySem.Spec PyProof.Rows
noncomputable def ixN (n : Nat) (i : Int) : Option Nat := if 0 ≤ i then (if i < n then some i.toNat else none) else if -(n : Int) ≤ i then some (i + n).toNat else none
noncomputable def atI {α : Type} (xs : List α) (i : Int) : Option α := (ixN xs.length i).bind fun j => xs[j]?
theorem ixN_seq {n : Nat} {i : Int} {j : Nat} (h : ixN n i = some j) : seqIndex? i n = some j ∧ j < n ∧ -(n : Int) ≤ i ∧ i < n := by
  unfold ixN at h
  by_cases h0 : 0 ≤ i
  · rw [if_pos h0] at h
    by_cases h1 : i < n
    · rw [if_pos h1] at h
      have e : i.toNat = j := Option.some.inj h
      exact ⟨by rw [seqIndex_of h0 h1, e], by lia, by lia, h1⟩
    · rw [if_neg h1] at h; cases h
  · rw [if_neg h0] at h
    by_cases h1 : -(n : Int) ≤ i
    · rw [if_pos h1] at h
      have e : (i + n).toNat = j := Option.some.inj h
      exact ⟨by rw [seqIndex_neg (by lia) h1, e], by lia, h1, by lia⟩
    · rw [if_neg h1] at h; cases h
theorem atI_get {α : Type} {xs : List α} {i : Int} {v : α} (h : atI xs i = some v) : ∃ j, seqIndex? i xs.length = some j ∧ xs[j]? = some v ∧ j < xs.length ∧ -(xs.length : Int) ≤ i ∧ i < xs.length := by
  unfold atI at h
  cases e : ixN xs.length i with
  | none => rw [e] at h; cases h
  | some j =>
    rw [e] at h
    obtain ⟨h1, h2, h3, h4⟩ := ixN_seq e
    exact ⟨j, h1, h, h2, h3, h4⟩
theorem atI_nat {α : Type} {xs : List α} {j : Nat} {v : α} (h : xs[j]? = some v) : atI xs (j : Int) = some v := by
  have hj : j < xs.length := (List.getElem?_eq_some_iff.mp h).1
  have e : ixN xs.length (j : Int) = some j := by
    unfold ixN
    rw [if_pos (by lia), if_pos (by lia)]; simp
  unfold atI; rw [e]; exact h
noncomputable def PlainIx (b : Expr) : Prop := ∀ o i, subscripted b false o i = operate [o, i] (getItem o i)
noncomputable def IxR (X : Cx) (r : R2) : Prop :=
  ∀ (value slice : Expr) (pins : List (Addr × Obj)) (s : Shared) (σ : St) (H : Hp) (x y : V) (v u : Value) (Q : VK), Inv X pins σ H s → RelV x v → RelV y u → r x y H Q →
    subscripted slice false v u = operate [v, u] (getItem v u) → wpAny (model X.prog X.w) X.A (subscriptTail value slice v u) (EP X pins σ Q) X.xe s
noncomputable def MtR (X : Cx) (id : String) (r : V → List V → Hp → VK → Prop) : Prop :=
  ∀ (pins : List (Addr × Obj)) (s : Shared) (σ : St) (H : Hp) (x : V) (xs : List V) (v : Value) (us : List Value) (Q : VK), Inv X pins σ H s → RelV x v → Vals xs us → r x xs H Q →
    wpAny (model X.prog X.w) X.A (call (.builtin id) (v :: us)) (EP X pins σ Q) X.xe s
section
variable {X : Cx} {a b : Expr} {ta tb : TE} {pos : Pos}
theorem pe_ix {r : R2} (hr : IxR X r) (ha : PE X a ta) (hb : PE X b tb) (hs : PlainIx b) : PE X (.Subscript a b pos) (tOp r ta tb) := by
  intro pins s σ H Q I h
  exact Subscript_ (binT ha hb I h fun v u s2 x y H2 I2 rx ry q => hr a b pins s2 σ H2 x y v u Q I2 rx ry q (hs _ _))
inductive rIxL (K : PySem.W.Frag) (x : V) (y : V) (H : Hp) (Q : VK) : Prop
  | mk (p : _) (xs : _) (i : _) (v : _) (f1 : x = .ref p) (f2 : y = .int i) (f3 : SqL K H p xs) (f4 : atI xs i = some v) (f5 : Q v H) : rIxL K x y H Q
inductive rIxT (K : PySem.W.Frag) (x : V) (y : V) (H : Hp) (Q : VK) : Prop
  | mk (p : _) (xs : _) (i : _) (v : _) (f1 : x = .ref p) (f2 : y = .int i) (f3 : SqT K H p xs) (f4 : atI xs i = some v) (f5 : Q v H) : rIxT K x y H Q
theorem ix_list : IxR X (rIxL X.K) := by
  intro value slice pins s σ H x y v u Q I rx ry h hs
  obtain ⟨p, xs, i, z, rfl, rfl, hq, he, q⟩ := h
  cases rx
  obtain ⟨t, rfl⟩ := ry
  obtain ⟨its, r, pl, hz⟩ := I.list hq
  obtain ⟨j, h1, h2, h3, h4, h5⟩ := atI_get he
  obtain ⟨w, ew, rw'⟩ := r.get h2
  have hl := r.length
  have hn := line63
  have fin : EP X pins σ Q w s := ⟨z, H, I, rw', q⟩
  by_cases h0 : 0 ≤ i
  · have hj : i.toNat = j := by
      rw [seqIndex_of h0 h5] at h1
      exact Option.some.inj h1
    exact item_listR pl.isList h0 (by lia) (by rw [hj]; simpa using ew) fin hs
  · have hj : (i + (its.toArray.size : Int)).toNat = j := by
      rw [seqIndex_neg (by lia) h4] at h1
      rw [List.size_toArray, ← hl]
      exact Option.some.inj h1
    exact subscriptTail_builtinR (x := w) pl.isList.typeIs slot_list_getitem.lookup
      (wpAny_getItem_list_neg (Q := fun r s' => r = w ∧ EP X pins σ Q r s') pl.isList (by lia) (by rw [List.size_toArray] <;> lia) (by lia) (by rw [hj]; simpa using ew) ⟨rfl, fin⟩) hs
theorem ix_tup : IxR X (rIxT X.K) := by
  intro value slice pins s σ H x y v u Q I rx ry h hs
  obtain ⟨p, xs, i, z, rfl, rfl, hq, he, q⟩ := h
  cases rx
  obtain ⟨t, rfl⟩ := ry
  obtain ⟨its, r, pl, hz⟩ := I.tuple hq
  obtain ⟨j, h1, h2, h3, h4, h5⟩ := atI_get he
  obtain ⟨w, ew, rw'⟩ := r.get h2
  have hl := r.length
  have hn := line63
  have fin : EP X pins σ Q w s := ⟨z, H, I, rw', q⟩
  exact subscriptTail_builtinR (x := w) pl.typeIs slot_tuple_getitem.lookup
    (getItem_tuple (j := j) (Q := fun r s' => r = w ∧ EP X pins σ Q r s') pl (by lia) (by lia) (by rw [List.size_toArray, ← hl]; exact h1) (by simpa using ew) ⟨rfl, fin⟩) hs
theorem mapSeq_set (its : List Value) (n j : Nat) (u : Value) : Obj.mapSeq (·.setIfInBounds j u) { cls := .type "list", data := .seq its.toArray n } = { cls := .type "list", data := .seq (its.set j u).toArray n } := by
  simp [Obj.mapSeq]
theorem Inv.lst {pins : List (Addr × Obj)} {σ : St} {H : Hp} {s : Shared} {p : Addr} {xs : List V} (I : Inv X pins σ H s) (h : H p = some (.lst xs)) :
    ∃ (its : List Value) (n : Nat), Vals xs its ∧ s.heap.get? p = some { cls := .type "list", data := .seq its.toArray n } ∧ xs.length ≤ sizeLine := by
  obtain ⟨z, its, n, r, e⟩ := I.hok p _ h
  exact ⟨its, n, r, e, z⟩
theorem Inv.lstUpd {pins : List (Addr × Obj)} {σ : St} {H : Hp} {s : Shared} {p : Addr} {xs ys : List V} {its its' : List Value} {n n' : Nat} {f : Obj → Obj} (I : Inv X pins σ H s) (h : H p = some (.lst xs))
    (ho : s.heap.get? p = some { cls := .type "list", data := .seq its.toArray n }) (hf : f { cls := .type "list", data := .seq its.toArray n } = { cls := .type "list", data := .seq its'.toArray n' }) (r : Vals ys its') (hz : ys.length ≤ sizeLine) (t : Nat) :
    Inv X pins σ (upd H p (.lst ys)) { s with heap := s.heap.update p f, toks := t } := by
  have e : (s.heap.update p f).get? p = some { cls := .type "list", data := .seq its'.toArray n' } := by
    rw [Heap.get?_update_self f ho (by rw [hf] <;> rfl), hf]
  refine I.write (x := p) (e := p) (by rw [h]; trivial) (.inl rfl) (fun b u hb q => (Heap.get?_update_other _ _ (Ne.symm hb)).trans q) ⟨_, e⟩ ?_
  exact ⟨hz, its', n', r, e⟩
inductive rSetL (o : V) (i : V) (v : V) (H : Hp) (Q : Hp → Prop) : Prop
  | mk (p : _) (xs : _) (k : _) (j : _) (f1 : o = .ref p) (f2 : i = .int k) (f3 : H p = some (.lst xs)) (f4 : ixN xs.length k = some j) (f5 : Q (upd H p (.lst (xs.set j v)))) : rSetL  o i v H Q
theorem set_list : PSet X rSetL := by
  intro pins s σ H o i v ov iv u Q I ro ri rv h
  obtain ⟨p, xs, k, j, rfl, rfl, hp, hj, q⟩ := h
  cases ro
  obtain ⟨t, rfl⟩ := ri
  obtain ⟨its, n, r, ho, hz⟩ := I.lst hp
  obtain ⟨h1, h2, h3, h4⟩ := ixN_seq hj
  have hl := r.length
  have hn := line63
  have I' : Inv X pins σ (upd H p (.lst (xs.set j v))) { s with heap := s.heap.update p (Obj.mapSeq (·.setIfInBounds j u)) } :=
    I.lstUpd hp ho (mapSeq_set its n j u) (r.set rv j) (by rw [List.length_set]; exact hz) s.toks
  by_cases h0 : 0 ≤ k
  · have hk : k.toNat = j := by
      rw [seqIndex_of h0 h4] at h1
      exact Option.some.inj h1
    exact PySem.W.ki_setAt ho h0 (by lia) (by rw [List.size_toArray, ← hl]; exact h4) (by rw [hk]; exact ⟨_, I', q⟩)
  · have hk : (k + (its.toArray.size : Int)).toNat = j := by
      rw [seqIndex_neg (by lia) h3] at h1
      rw [List.size_toArray, ← hl]
      exact Option.some.inj h1
    exact PySem.W.ki_setBack ho (by lia) (by rw [List.size_toArray, ← hl]; exact h3) (by lia) (by rw [hk]; exact ⟨_, I', q⟩)
noncomputable def flatV : V → Bool
  | .non => true
  | .bl _ => true
  | .int _ => true
  | .str _ => true
  | _ => false
noncomputable def eqV : V → V → Bool
  | .non, .non => true
  | .bl a, .bl b => a == b
  | .bl a, .int b => (if a then 1 else 0) == b
  | .int a, .bl b => a == (if b then 1 else 0)
  | .int a, .int b => a == b
  | .str a, .str b => a == b
  | _, _ => false
theorem eqAt_V {A : Around} {s : Shared} {y x : V} {u v : Value} (ry : RelV y u) (rx : RelV x v) (fy : flatV y = true) (fx : flatV x = true) : SeqAt.EqAt A s u v (eqV y x) := by
  cases y with
  | non =>
    cases ry
    cases x with
    | non => cases rx; exact SeqAt.EqAt.same _
    | bl b => cases rx; exact SeqAt.EqAt.none_bool b
    | int b => obtain ⟨t, rfl⟩ := rx; exact SeqAt.EqAt.none_int b t
    | str b => obtain ⟨t, rfl⟩ := rx; exact SeqAt.EqAt.none_str b t
    | _ => exact absurd (show false = true from fx) Bool.false_ne_true
  | bl a =>
    cases ry
    cases x with
    | non => cases rx; exact SeqAt.EqAt.bool_none a
    | bl b => cases rx; exact SeqAt.EqAt.bool_bool a b
    | int b => obtain ⟨t, rfl⟩ := rx; exact SeqAt.EqAt.bool_int a b t
    | str b => obtain ⟨t, rfl⟩ := rx; exact SeqAt.EqAt.bool_str a b t
    | _ => exact absurd (show false = true from fx) Bool.false_ne_true
  | int a =>
    obtain ⟨t', rfl⟩ := ry
    cases x with
    | non => cases rx; exact SeqAt.EqAt.int_none a t'
    | bl b => cases rx; exact SeqAt.EqAt.int_bool a t' b
    | int b => obtain ⟨t, rfl⟩ := rx; exact SeqAt.EqAt.int_int a t' b t
    | str b => obtain ⟨t, rfl⟩ := rx; exact SeqAt.EqAt.int_str a t' b t
    | _ => exact absurd (show false = true from fx) Bool.false_ne_true
  | str a =>
    obtain ⟨t', rfl⟩ := ry
    cases x with
    | non => cases rx; exact SeqAt.EqAt.str_none a t'
    | bl b => cases rx; exact SeqAt.EqAt.str_bool a t' b
    | int b => obtain ⟨t, rfl⟩ := rx; exact SeqAt.EqAt.str_int a t' b t
    | str b => obtain ⟨t, rfl⟩ := rx; exact SeqAt.EqAt.str_str a t' b t
    | _ => exact absurd (show false = true from fx) Bool.false_ne_true
  | _ => exact absurd (show false = true from fy) Bool.false_ne_true
noncomputable def eqU (x : V) (u : Value) : Bool := match u with
  | .none => eqV .non x
  | .bool b => eqV (.bl b) x
  | .int i _ => eqV (.int i) x
  | .str z _ => eqV (.str z) x
  | _ => false
theorem eqU_of {x y : V} {u : Value} (r : RelV y u) (f : flatV y = true) : eqU x u = eqV y x := by
  cases y with
  | non => cases r; rfl
  | bl b => cases r; rfl
  | int i => obtain ⟨t, rfl⟩ := r; rfl
  | str z => obtain ⟨t, rfl⟩ := r; rfl
  | _ => exact absurd (show false = true from f) Bool.false_ne_true
theorem any_eqU {x : V} : ∀ {xs : List V} {us : List Value}, Vals xs us → xs.all flatV = true → us.any (eqU x) = xs.any fun y => eqV y x
  | _, _, .nil, _ => rfl
  | y :: xs, u :: us, .cons r t, f => by
    rw [List.all_cons, Bool.and_eq_true] at f
    rw [List.any_cons, List.any_cons, eqU_of r f.1, any_eqU t f.2]
theorem mem_eqAt {A : Around} {s : Shared} {x : V} {v : Value} (rx : RelV x v) (fx : flatV x = true) : ∀ {xs : List V} {us : List Value}, Vals xs us → xs.all flatV = true → ∀ u ∈ us, SeqAt.EqAt A s u v (eqU x u)
  | _, _, .nil, _ => fun u hu => by cases hu
  | y :: xs, u :: us, .cons r t, f => fun u' hu => by
    rw [List.all_cons, Bool.and_eq_true] at f
    rcases List.mem_cons.mp hu with rfl | hu
    · rw [eqU_of r f.1]; exact eqAt_V r rx f.1 fx
    · exact mem_eqAt rx fx t f.2 u' hu
noncomputable def inV (x : V) (xs : List V) : Bool := xs.any fun y => eqV y x
noncomputable def rIn (K : PySem.W.Frag) (neg : Bool) : R2 := fun x y H Q => ∃ p xs, y = .ref p ∧ (SqL K H p xs ∨ SqT K H p xs) ∧ flatV x = true ∧ xs.all flatV = true ∧ Q (.bl (if neg then !inV x xs else inV x xs)) H
theorem op_in_seq : OpR X (compareOp .In) (rIn X.K false) := by
  intro pins s σ H x y v u Q I rx ry h
  obtain ⟨p, xs, rfl, hq, fx, fs, q⟩ := h
  cases ry
  rcases hq with hq | hq
  · obtain ⟨its, r, pl, hz⟩ := I.list hq
    refine SeqAt.in_listAt (eqU x) pl.isList (fun w hw => mem_eqAt rx fx r fs w (by simpa using hw)) ⟨.bl _, H, I, rfl, ?_⟩
    rw [show its.toArray.any (eqU x) = its.any (eqU x) by simp, any_eqU r fs]
    exact q
  · obtain ⟨its, r, pl, hz⟩ := I.tuple hq
    refine SeqAt.in_tupleAt (eqU x) pl (fun w hw => mem_eqAt rx fx r fs w (by simpa using hw)) ⟨.bl _, H, I, rfl, ?_⟩
    rw [show its.toArray.any (eqU x) = its.any (eqU x) by simp, any_eqU r fs]
    exact q
theorem call_len_seq : CallR X (.builtin "len") (fun xs H Q => ∃ p ys, xs = [.ref p] ∧ (SqL X.K H p ys ∨ SqT X.K H p ys) ∧ Q (.int ys.length) H) := by
  intro pins s σ H xs us Q I r h
  obtain ⟨p, ys, rfl, hq, q⟩ := h
  obtain ⟨u, rfl, rx⟩ := vals1 r
  cases rx
  have hn := line63
  rcases hq with hq | hq
  · obtain ⟨its, r', pl, hz⟩ := I.list hq
    have hlen := r'.length
    exact Calls.call_len_list pl.isList (by simp only [List.size_toArray] <;> lia) ⟨.int ys.length, H, I.tok _, ⟨s.toks + 1, by rw [List.size_toArray, hlen]⟩, q⟩
  · obtain ⟨its, r', pl, hz⟩ := I.tuple hq
    have hlen := r'.length
    exact len_tuple pl (by simp only [List.size_toArray] <;> lia) ⟨.int ys.length, H, I.tok _, ⟨s.toks + 1, by rw [List.size_toArray, hlen]⟩, q⟩
theorem call_tuple_of : CallR X (.type "tuple") (fun xs H Q => ∃ p ys, xs = [.ref p] ∧ ((SqL X.K H p ys ∧ ∀ l, H l = none → Q (.ref l) (upd H l (.tup ys))) ∨ (SqT X.K H p ys ∧ Q (.ref p) H))) := by
  intro pins s σ H xs us Q I r h
  obtain ⟨p, ys, rfl, h⟩ := h
  obtain ⟨u, rfl, rx⟩ := vals1 r
  cases rx
  rcases h with ⟨hq, q⟩ | ⟨hq, q⟩
  · obtain ⟨its, r', pl, hz⟩ := I.list hq
    have hlen := r'.length
    refine call_tuple_list pl.isList (fun h' kp => ?_) (by simp only [List.size_toArray] <;> lia)
    have I1 : Inv X pins σ H { s with heap := h' } := I.kept (t' := s.toks) kp
    have I2 : Inv X pins σ (upd H h'.objs.size (.tup ys)) { s with heap := h'.push { cls := .type "tuple", data := .seq its.toArray } } :=
      I1.laid (t' := s.toks) (fun b o e => Heap.get?_push_of_some _ e) (Nat.le_refl _) (show ObjOk X.prog X.w _ _ _ (.tup ys) from ⟨hz, its, r', IsTup.new _ _, _, Heap.get?_push_size _ rfl, rfl⟩)
    exact ⟨.ref h'.objs.size, _, I2, rfl, q _ (I1.hok.fresh (Nat.le_refl _))⟩
  · obtain ⟨its, r', pl, hz⟩ := I.tuple hq
    exact call_tuple_same pl ⟨.ref p, H, I, rfl, q⟩
noncomputable def tyV (K : PySem.W.Frag) (T : String) (x : V) (H : Hp) : Prop := match x with
  | .str _ => T = "str"
  | .int _ => T = "int"
  | .ref p => (T = "list" ∧ ∃ xs, SqL K H p xs) ∨ (T = "tuple" ∧ ∃ o, K.lookup p = some o ∧ o.cls = .type "tuple" ∧ o.dict = none) ∨
      (T = "dict" ∧ ((∃ kvs, H p = some (.dK kvs)) ∨ ∃ kvs, H p = some (.dT kvs))) ∨ (T = "set" ∧ ∃ S n, H p = some (.set S n))
  | _ => False
theorem tyV_is {pins : List (Addr × Obj)} {σ : St} {H : Hp} {s : Shared} {T : String} {x : V} {v : Value} (I : Inv X pins σ H s) (r : RelV x v) (ty : tyV X.K T x H) :
    s.TypeIs v T ∧ ∀ a, v = .ref a → ∃ ob, s.heap.get? a = some ob ∧ ob.dict = none := by
  cases x with
  | str z =>
    obtain ⟨t, rfl⟩ := r
    cases (show T = "str" from ty)
    exact ⟨typeIs_str s z t, fun _ e => nomatch e⟩
  | int i =>
    obtain ⟨t, rfl⟩ := r
    cases (show T = "int" from ty)
    exact ⟨typeIs_int s i t, fun _ e => nomatch e⟩
  | ref p =>
    cases r
    rcases ty with ⟨rfl, xs, hq⟩ | ⟨rfl, o, hk, hc, hd⟩ | ⟨rfl, hk⟩ | ⟨rfl, S, n, hk⟩
    · obtain ⟨its, _, pl, _⟩ := I.list hq
      refine ⟨pl.isList.typeIs, fun a e => ?_⟩
      cases e
      obtain ⟨o, n, e, c, hd, _⟩ := pl
      exact ⟨o, e, hd⟩
    · refine ⟨⟨o, I.kIn p o hk, hc⟩, fun a e => ?_⟩
      cases e
      exact ⟨o, I.kIn _ o hk, hd⟩
    · have z : ∃ o, s.heap.get? p = some o ∧ o.ExactDict := by
        rcases hk with ⟨kvs, hk⟩ | ⟨kvs, hk⟩
        · obtain ⟨_, _, _, _, o, _, _, e, ex, _⟩ := I.hok p _ hk
          exact ⟨o, e, ex⟩
        · obtain ⟨_, _, _, _, o, _, _, e, ex, _⟩ := I.hok p _ hk
          exact ⟨o, e, ex⟩
      obtain ⟨o, e, ex⟩ := z
      refine ⟨⟨o, e, ex.1⟩, fun a e2 => ?_⟩
      cases e2
      exact ⟨o, e, ex.2.1⟩
    · obtain ⟨o, _, _, _, e, ex, _⟩ := I.hok p _ hk
      refine ⟨⟨o, e, ex.1⟩, fun a e2 => ?_⟩
      cases e2
      exact ⟨o, e, ex.2.1⟩
  | _ => exact False.elim ty
noncomputable def tBM (K : PySem.W.Frag) (T : String) (r : V → List V → Hp → VK → Prop) (to : TE) (t : TA) : TE := fun σ H Q => to σ H fun x H1 => tyV K T x H1 ∧ t σ H1 fun xs H2 => r x xs H2 Q
variable {o e : Expr} {es : List Expr} {to : TE} {t : TA} {name : Str} {apos cpos : Pos} {T id : String} {r : V → List V → Hp → VK → Prop}
theorem pe_bm (pa : PlainAttrs T) (slot : Slot T name id) (hty : typeOf (.builtin id) = pure (.type "method_descriptor")) (hm : MtR X id r) (ho : PE X o to) (ha : PA X (e :: es) t)
    (hbase : attributeBase o name X.env (eval o X.env) = eval o X.env := by rfl)
    (hfew : ((backTo cpos (starEach (e :: es) X.env)).all (fun x => !x.1) && (backToKw cpos (keywordEach [] X.env)).all (fun x => x.1.isSome)
      && decide ((e :: es).length + ([] : List Keyword).length + (if ([] : List Keyword).isEmpty then 0 else 1) < 30)) = true := by rfl)
    (hline : (apos.endLine == cpos.line) = true := by rfl) (hs : starEach (e :: es) X.env = (false, eval e X.env) :: starEach es X.env := by rfl) (hplain : (backTo cpos (starEach es X.env)).any (·.1) = false := by rfl) :
    PE X (.Call (.Attribute o name apos) (e :: es) [] cpos) (tBM X.K T r to t) := by
  intro pins s σ H Q I h
  refine wpAny_Call_method_late hbase hfew hline rfl (thn (ho pins s σ H _ I h) fun v s1 ⟨x, H1, I1, r1, ty, q1⟩ => ?_)
  obtain ⟨h1, h2⟩ := tyV_is I1 r1 ty
  refine ⟨T, id, pa, slot, hty, h1, h2, ?_⟩
  have hA := ha cpos pins s1 σ H1 _ I1 q1
  rw [hs] at hA ⊢
  refine Calls.callWith_builtin (by show (false || (backTo cpos (starEach es X.env)).any (·.1)) = false; rw [hplain] <;> rfl) (Calls.evalArgs_plain ?_)
  exact thn hA fun us s2 ⟨vs, H2, I2, r2, q2⟩ => hm pins s2 σ H2 x vs v us Q I2 r1 r2 q2
end
end L2
namespace L2
open PySem PySem.Spec PyProof.Rows
noncomputable def MtM (X : Cx) (id : String) (r : V → List V → Hp → VK → Prop) : Prop :=
  ∀ (pins : List (Addr × Obj)) (s : Shared) (σ : St) (H : Hp) (x : V) (xs : List V) (v : Value) (us : List Value) (Q : VK), Inv X pins σ H s → RelV x v → Vals xs us → r x xs H Q →
    wpAny (model X.prog X.w) X.A (call (.builtin id) (v :: us)) (EP X pins σ Q) X.xe s
theorem Vals.one : ∀ {x : V} {us : List Value}, Vals [x] us → ∃ u, us = [u] ∧ RelV x u
  | _, _, .cons r .nil => ⟨_, rfl, r⟩
section
variable {X : Cx} {pins : List (Addr × Obj)} {σ : St} {H : Hp} {s : Shared} {l b : Addr} {xs ys zs : List V}
theorem Inv.lset {its its' : List Value} {n : Nat} {f : Array Value → Array Value} {t' : Nat} (I : Inv X pins σ H s) (hH : H l = some (.lst xs))
    (e : s.heap.get? l = some { cls := .type "list", data := .seq its.toArray n }) (hf : f its.toArray = its'.toArray) (hv : Vals ys its') (hz : ys.length ≤ sizeLine) :
    Inv X pins σ (upd H l (.lst ys)) { s with heap := s.heap.update l (Obj.mapSeq f), toks := t' } := by
  have q := PySem.IsL.update e f
  rw [hf] at q
  refine I.write (x := l) (e := l) (by rw [hH]; exact trivial) (.inl rfl) (fun b' u hb hu => (Heap.get?_update_other s.heap (Obj.mapSeq f) (Ne.symm hb)).trans hu) ⟨_, q⟩ ?_
  exact ⟨hz, its', _, hv, q⟩
theorem Inv.lnew {its : List Value} {t' : Nat} (I : Inv X pins σ H s) (hv : Vals ys its) (hz : ys.length ≤ sizeLine) :
    Inv X pins σ (upd H s.heap.objs.size (.lst ys)) { s with heap := s.heap.push { cls := .type "list", data := .seq its.toArray }, toks := t' } :=
  I.laid (fun _ _ q => Heap.get?_push_of_some _ q) (Nat.le_refl _) ⟨hz, its, 0, hv, Heap.get?_push_size _ rfl⟩
theorem Inv.fresh (I : Inv X pins σ H s) : H s.heap.objs.size = none := I.hok.fresh (Nat.le_refl _)
theorem Inv.lstM (I : Inv X pins σ H s) (hH : H l = some (.lst xs)) : xs.length ≤ sizeLine ∧ ∃ (its : List Value) (n : Nat), Vals xs its ∧ xs.length = its.length ∧ s.heap.get? l = some { cls := .type "list", data := .seq its.toArray n } := by
  obtain ⟨z, its, n, r, e⟩ := I.hok l _ hH
  exact ⟨z, its, n, r, r.length, e⟩
end
section
variable {X : Cx}
inductive rAppend (x : V) (vs : List V) (H : Hp) (Q : VK) : Prop
  | mk (l : _) (xs : _) (y : _) (f1 : x = .ref l) (f2 : vs = [y]) (f3 : H l = some (.lst xs)) (f4 : xs.length < sizeLine) (f5 : Q .non (upd H l (.lst (xs ++ [y])))) : rAppend  x vs H Q
theorem mt_append : MtM X "list.append" rAppend := by
  intro pins s σ H x vs v us Q I rx rv h
  obtain ⟨l, xs, y, rfl, rfl, hH, hz, q⟩ := h
  cases rx
  obtain ⟨u, rfl, ru⟩ := rv.one
  obtain ⟨z, its, n, r, hl, e⟩ := I.lstM hH
  refine call_meets F.slot_list_append ⟨_, e, rfl⟩ F.entry_list_append (F.args_list_append_2 _ _) (PySem.list_append l its.toArray n u (by rw [List.size_toArray]; lia)) ⟨e, ?_⟩
  refine ⟨.non, _, I.lset (its' := its ++ [u]) hH e (by simp) (r.append (.cons ru .nil)) ?_, rfl, q⟩
  rw [List.length_append, List.length_singleton]
  lia
noncomputable def rCat : R2 := fun x y H Q => ∃ l b xs zs, x = .ref l ∧ y = .ref b ∧ H l = some (.lst xs) ∧ H b = some (.lst zs) ∧ xs.length + zs.length ≤ sizeLine ∧ ∀ p, H p = none → Q (.ref p) (upd H p (.lst (xs ++ zs)))
theorem op_cat : OpR X (binaryOp .Add) rCat := by
  intro pins s σ H x y v u Q I rx ry h
  obtain ⟨l, b, xs, zs, rfl, rfl, hH, hB, hz, q⟩ := h
  cases rx
  cases ry
  obtain ⟨z, its, n, r, hl, e⟩ := I.lstM hH
  obtain ⟨z2, its2, n2, r2, hl2, e2⟩ := I.lstM hB
  refine PySem.P.add_list e e2 ?_ (by rw [List.size_toArray, List.size_toArray]; lia)
  have ea : its.toArray ++ its2.toArray = (its ++ its2).toArray := by simp
  rw [ea]
  exact ⟨.ref _, _, I.lnew (t' := s.toks) (r.append r2) (by rw [List.length_append]; lia), rfl, q _ I.fresh⟩
end
section
variable {prog : Program} {w : World} {A : Around} {E : Value → Shared → Prop} {s : Shared}
end
section
variable {X : Cx}
end
end L2
namespace Att
open PySem PySem.W PySem.Calls PyProof.Rows
theorem ints_of_wellAll {P : Params} {h : Heap} : ∀ (ns : List Int) (vs : List Value), WellAll P h vs (ns.map WData.int) → IntsAre vs ns := by
  intro ns
  induction ns with
  | nil =>
    intro vs w
    rw [List.map_nil] at w
    cases w
    exact .nil
  | cons n ns ih =>
    intro vs w
    rw [List.map_cons] at w
    cases w with
    | cons a b =>
      cases a
      exact .cons _ _ (ih _ b)
theorem script_of {l : OpenLaw} {n : Nat} (hn : l.most = some n) {P : Params} {h : Heap} {args : List WData} {vals : List Value}
    (hpre : l.row.toRowW.claim.pre args = true) (hwl : WellAll P h vals args) :
    ∃ a vs ns, vals = [Value.ref a] ∧ args = [WData.list (ns.map WData.int)] ∧ h.get? a = some { cls := .type "list", data := .seq vs.toArray } ∧ IntsAre vs ns ∧ ns.length ≤ n := by
  have hsh : WShape.hasAll [] args [.list .int] = true := (pre_splitW hpre).1
  have hc : l.pre.holds [] { args := args } = true := (pre_splitW hpre).2
  obtain ⟨d, r, rfl, h1, h2⟩ := hasAllW_cons hsh
  obtain rfl := hasAllW_nil h2
  obtain ⟨xs, rfl, h3⟩ := hasW_list h1
  obtain ⟨ns, rfl⟩ := items_int h3
  have hlen : ns.length ≤ n := by
    unfold OpenLaw.pre at hc
    have h4 : (WTm.not (.lt (.lit (.int (n : Int))) (.len (.arg 0)))).holds [] { args := [.list (ns.map .int)] } = true := by
      have h4 := (holds_andW hc).1
      rw [hn] at h4
      exact h4
    have h5 := condW_of h4 (w_not (w_lt w_lit (w_len_list (w_arg rfl))))
    rw [List.length_map] at h5
    refine Nat.le_of_not_lt fun q => ?_
    have q' : (n : Int) < ((ns.length : Nat) : Int) := by lia
    first
      | (rw [decide_eq_true q'] at h5; exact absurd h5 (by decide))
      | (simp at h5; lia)
  cases hwl with
  | cons w1 w2 =>
    cases w2
    cases w1 with
    | list ho hall => exact ⟨_, _, ns, rfl, rfl, ho, ints_of_wellAll ns _ hall, hlen⟩
theorem post_true (l : OpenLaw) (args : List WData) : l.row.toRowW.claim.post args (.bool true) args = true :=
  postW_of (r := l.row.toRowW) (X := (true == true))
    (show WShape.has [] (.bool true) .bool = true by first | rfl | decide | simp [WShape.has, WShape.arms, WShape.armsAll])
    (show (WTm.eq .res (.lit (.bool true))).value [] { args := args, res := some (.bool true), after := args } = some (.bool (true == true)) from w_eq_bool (w_res rfl) w_lit) rfl
theorem attach_call {l : OpenLaw} {n : Nat} {q : Program} {loose : List Str} {XP : (Str → Option Value) → Heap → Prop} {YP : World → Heap → Prop} {d : DefRec}
    (hn : l.most = some n) (hdf : d.params.defaults = [])
    (call : ∀ (w : World) (s₀ s₁ : Shared) (mg mb : Str → Option Value) (fa : Addr) (o : Obj) (pm cd doc : Value) (a : Addr) (vs : List Value) (ns : List Int),
      Ground q loose [] XP w s₀ mg mb s₁.heap → YP w s₁.heap →
      s₁.heap.get? fa = some o → o.data = .func (docDef d.name d.params d.body d.scope pm cd doc) → s₁.heap.CodeRec cd d.name → mg d.name = some (.ref fa) →
      s₁.heap.get? a = some { cls := .type "list", data := .seq vs.toArray } → IntsAre vs ns → ns.length ≤ n → s₁.gens = #[] →
      codeAny (model l.prog w) callerA (.call (.ref fa) ⟨[.ref a], []⟩) (fun r s' => r = .ok (.ret (.bool true)) ∧ OldK s₁.heap s'.heap ∧ s'.os = s₁.os ∧ AllBare s'.gens) s₁) :
    WalkO q loose XP YP l.row.toRowW d [] (fun f vs => PySem.call f vs) := by
  intro w s₀ s₁ mg mb G Y fa o pm cd doc dV kV ho hd hcd hD hmg hg args vals as hpre hlay hrd hwl hlo
  obtain rfl : dV = .none := Dflts.none hD hdf
  obtain rfl : kV = .none := Dflts.noKw hD
  obtain ⟨a, vs, ns, rfl, rfl, hobj, hints, hlen⟩ := script_of hn hpre hwl
  refine enter_call (codeAny_mono (call w s₀ s₁ mg mb fa o pm cd doc a vs ns G Y ho (fd_plain hd) hcd hmg hobj hints hlen hg) fun r s' hq => ?_)
  obtain ⟨rfl, h2, h3, h4⟩ := hq
  exact ⟨.inl ⟨.bool true, .bool true, [], rfl, fun _ => rfl, .bool true, post_true l _, fun _ => ⟨List.Pairwise.nil, fun _ hm => (nomatch hm)⟩⟩, h2, h3, h4⟩
section
variable {prog : Program} {w : World} {A : Around} {E : Value → Shared → Prop} {s : Shared} {K : Frag}
end
end Att
namespace L2
open PySem PySem.Spec PyProof.Rows
theorem vals_ints : ∀ {vs : List Value} {ns : List Int}, IntsAre vs ns → Vals (ns.map V.int) vs
  | _, _, .nil => .nil
  | _, _, .cons n t h => .cons ⟨t, rfl⟩ (vals_ints h)
noncomputable def Only (H : Hp) : Prop := ∀ b, H b = none ∨ ∃ o xs, H b = some (.frz o (.lst xs))
theorem law_call {P : Program} {w : World} {K : PySem.W.Frag} {mg mb : Str → Option Value} {CX : CXT} {k : Nat} {fa a : Addr} {fd : FuncData} {x : Str} {sp : Sp} {s₁ : Shared} {vs : List Value} {ns : List Int}
    (KX : K.In s₁.heap) (hns : s₁.heap.Ns mainGlobals mg) (hb : s₁.heap.Ns builtinsNs mb) (hbb : ∀ x : Str, x ≠ "__name__" → mb x = bootBuiltins x) (hlim : s₁.heap.NoLimit) (hg : s₁.gens = #[])
    (ha : s₁.heap.get? a = some { cls := .type "list", data := .seq vs.toArray }) (hi : IntsAre vs ns) (hl : ns.length ≤ sizeLine) (hr : Room k callerA)
    (F : ∀ base : Heap, K.In base → base.Ns mainGlobals mg → FnOk P w K mg base CX k fa fd [x] sp) (hbind : ∀ (s : Shared) (u : Value), BindsTo s fd ⟨[u], []⟩ [(x, u)])
    (hsp : ∀ H : Hp, Only H → SqL K H a (ns.map V.int) → sp [.ref a] H (fun v _ => v = .bl true) fun _ _ _ => False)
    (hCX : ∀ H e s', CX [] H s₁ (fun _ _ _ => False) e s' → False) :
    codeAny (model P w) callerA (.call (.ref fa) ⟨[.ref a], []⟩) (fun r s' => r = .ok (.ret (.bool true)) ∧ OldK s₁.heap s'.heap ∧ s'.os = s₁.os ∧ AllBare s'.gens) s₁ := by
  have rv := vals_ints hi
  have lenV := hi.length
  -- from an abstract heap in which nothing but the script may be tracked
  have core : ∀ H : Hp, Only H → SqL K H a (ns.map V.int) → HOk P w H s₁.heap → (∀ b, H b ≠ none → b = a) → (H a ≠ none → K.lookup a = none) →
      codeAny (model P w) callerA (.call (.ref fa) ⟨[.ref a], []⟩) (fun r s' => r = .ok (.ret (.bool true)) ∧ OldK s₁.heap s'.heap ∧ s'.os = s₁.os ∧ AllBare s'.gens) s₁ := by
    intro H hO hS hok hA hK
    have base_of : ∀ {b : Addr} {o : Obj}, s₁.heap.get? b = some o → H b = none → (hidT s₁.heap H).get? b = some o := fun e n => hidT_get e n
    have noA : ∀ {b : Addr} {o : Obj} {es : Array DictEntry} {ep : Nat}, s₁.heap.get? b = some o → o.data = .dict es ep → H b = none := fun {b o es ep} e d => by
      cases q : H b with
      | none => rfl
      | some u =>
        have e' : b = a := hA b (by rw [q]; simp)
        subst e'
        rw [ha] at e; cases e
        have d' : Data.seq vs.toArray _ = Data.dict es ep := d
        cases d'
    have nsK : ∀ {b : Addr} {m : Str → Option Value}, s₁.heap.Ns b m → (hidT s₁.heap H).Ns b m := fun {b m} ⟨o, es, ep, e, d, r⟩ => ⟨o, es, ep, base_of e (noA e d), d, r⟩
    have hKb : K.In (hidT s₁.heap H) := fun b o e => base_of (KX b o e) (by
      cases q : H b with
      | none => rfl
      | some u =>
        have e' : b = a := hA b (by rw [q]; simp)
        subst e'
        rw [hK (by rw [q]; simp)] at e; cases e)
    have hM : Mod K mg (hidT s₁.heap H) := ⟨hKb, nsK hns, ⟨mb, nsK hb, hbb⟩, let ⟨mc, h1, h2⟩ := hlim; ⟨mc, nsK h1, h2⟩⟩
    have e0 : Env0 P w K mg (hidT s₁.heap H) callerA [] s₁ H := ⟨rfl, hM, fun b o e => of_hidT e, Nat.le_of_eq (hidT_size _ _), trivial, fun b hb => absurd (show b ∈ ([] : List Addr) from hb) (by simp), hok, .of_eq hg⟩
    refine codeAny_mono ((F _ hKb (nsK hns)).run callerA [] s₁ H ⟨[.ref a], []⟩ [.ref a] [.ref a] _ _ hr e0 (hbind s₁ (.ref a)) (.cons rfl .nil) (hsp H hO hS)) fun r s' h => ?_
    cases r with
    | error e => exact (hCX H e s' h).elim
    | ok fl =>
      cases fl with
      | next => exact False.elim h
      | brk => exact False.elim h
      | cont => exact False.elim h
      | ret u =>
        obtain ⟨v, H', os, bare, un, hok', r', q⟩ := h
        have q' : v = .bl true := q
        subst q'
        obtain rfl : u = Value.bool true := r'
        refine ⟨rfl, OldK.of_keep fun b o e => ?_, os, bare⟩
        cases q : H b with
        | none => exact un.keep b o e q (by intro z; exact absurd (show b ∈ ([] : List Addr) from z) (by simp)) (by simp)
        | some u =>
          rcases hO b with z | ⟨ob, xs, z⟩
          · rw [q] at z; cases z
          · have z2 := un.frzs b ob _ z
            obtain ⟨e1, _⟩ := hok b _ z
            obtain ⟨e2, _⟩ := hok' b _ z2
            rw [e] at e1; cases e1
            exact e2
  cases hk : K.lookup a with
  | some o =>
    -- the script is one of the module's own objects
    have e := KX a o hk
    rw [ha] at e
    cases e
    refine core (fun _ => none) (fun _ => .inl rfl) (.inr ⟨_, vs.toArray, _, hk, rfl, rfl, rfl, by rw [List.size_toArray, lenV]; exact hl, by simpa using rv⟩) (fun b u z => by have z' : (none : Option HO) = some u := z; cases z') (fun b z => absurd rfl z) fun z => absurd rfl z
  | none =>
    refine core (fun b => if b = a then some (.frz { cls := .type "list", data := .seq vs.toArray } (.lst (ns.map V.int))) else none) (fun b => ?_) (.inl (.inr ⟨{ cls := .type "list", data := .seq vs.toArray }, if_pos rfl⟩)) (fun b u z => ?_) (fun b z => ?_) fun _ => hk
    · by_cases hb : b = a
      · exact .inr ⟨_, _, if_pos hb⟩
      · exact .inl (if_neg hb)
    · by_cases hb : b = a
      · have z' := (if_pos hb).symm.trans z
        cases z'
        subst hb
        exact ⟨ha, by rw [List.length_map]; exact hl, vs, _, rv, ha⟩
      · have z' := (if_neg hb).symm.trans z
        cases z'
    · by_cases hb : b = a
      · exact hb
      · exact absurd (if_neg hb) z
end L2
namespace L2
open PySem PySem.Spec PyProof.Rows
theorem walk_of {l : PySem.W.OpenLaw} {n k : Nat} {q : Program} {loose : List Str} {XP : (Str → Option Value) → Heap → Prop} {YP : World → Heap → Prop} {d : DefRec} {K : Params → PySem.W.Frag} {CX : World → CXT} {sp : World → Sp} {x : Str}
    (hn : l.most = some n) (hn2 : n ≤ sizeLine) (hdf : d.params.defaults = []) (hr : Room k callerA)
    (hY : ∀ (w : World) (h : Heap), YP w h → (K w.params).In h)
    (F : ∀ (w : World) (mg : Str → Option Value) (fa : Addr) (h : Heap), (K w.params).In h → h.Ns mainGlobals mg → mg d.name = some (.ref fa) →
      ∃ fd : FuncData, (∀ (s : Shared) (u : Value), BindsTo s fd ⟨[u], []⟩ [(x, u)]) ∧
        ∀ base : Heap, (K w.params).In base → base.Ns mainGlobals mg → FnOk l.prog w (K w.params) mg base (CX w) k fa fd [x] (sp w))
    (hsp : ∀ (w : World) (H : Hp) (a : Addr) (ns : List Int), ns.length ≤ n → Only H → SqL (K w.params) H a (ns.map V.int) → sp w [.ref a] H (fun v _ => v = .bl true) fun _ _ _ => False)
    (hCX : ∀ (w : World) (H : Hp) (s : Shared) (e : Value) (s' : Shared), CX w [] H s (fun _ _ _ => False) e s' → False) :
    PySem.W.WalkO q loose XP YP l.row.toRowW d [] (fun f vs => PySem.call f vs) := by
  refine Att.attach_call hn hdf fun w s₀ s₁ mg mb fa o pm cd doc a vs ns G Y ho hd hcd hmg hobj hints hlen hg => ?_
  have KX := hY w _ Y
  obtain ⟨fd, hb, hF⟩ := F w mg fa _ KX G.T.g hmg
  exact law_call KX G.T.g G.T.b G.T.builtins G.T.nolimit hg hobj hints (Nat.le_trans hlen hn2) hr hF hb (fun H hO hS => hsp w H a ns hlen hO hS) fun H e s' => hCX w H s₁ e s'
end L2
namespace L2
open PySem PySem.Spec PyProof.Rows
noncomputable def inClass (s : Stmt) (j : Nat) : Stmt := match s with
  | .ClassDef _ _ _ body _ _ _ _ _ _ _ => body.getD j (.Pass ⟨0, 0, 0, 0⟩)
  | _ => .Pass ⟨0, 0, 0, 0⟩
noncomputable def defArgs (s : Stmt) : Arguments := match s with
  | .FunctionDef _ a _ _ _ _ _ _ _ _ => a
  | _ => { posonlyargs := [], args := [], vararg := none, kwonlyargs := [], kw_defaults := [], kwarg := none, defaults := [] }
noncomputable def defBody (s : Stmt) : List Stmt := match s with
  | .FunctionDef _ _ b _ _ _ _ _ _ _ => b
  | _ => []
noncomputable def defScope (s : Stmt) : Scope := match s with
  | .FunctionDef _ _ _ _ _ _ sc _ _ _ => sc
  | _ => { kind := .function, names := [], isGenerator := false, isCoroutine := false }
noncomputable abbrev CX0 : CXT := fun _ _ _ _ _ _ => False
noncomputable abbrev E0 : XK := fun _ _ _ => False
theorem pass0 {X : Cx} : Passes CX0 X E0 := fun _ _ _ _ _ _ _ h => h.elim
structure Fun (K : PySem.W.Frag) (x qual : Str) (st : Stmt) (f : Addr) (fd : FuncData) : Prop where
  ex : ∃ (oc : Value) (od : Option Addr) (kV doc pm : Value) (an : Option Addr) (cdv ct : Value) (osl : Array (Option Value)),
    fd = PySem.W.fnOf x qual (defArgs st) (defBody st) (defScope st) .none kV doc pm an cdv ct ∧ K.lookup f = some ⟨oc, od, .func fd, osl⟩ ∧ PySem.W.codeIn K cdv qual = true
  kp : PySem.W.keepIn K (.ref f) = true
section
variable {P : Program} {w : World} {K : PySem.W.Frag} {mg : Str → Option Value} {base : Heap}
theorem Fun.ok {x qual : Str} {st : Stmt} {f : Addr} {fd : FuncData} {N ps : List Str} {k : Nat} {sp : Sp} (F : Fun K x qual st f fd) (S : FnScope N ps (defScope st)) (len : ∀ vs H Q E, sp vs H Q E → vs.length = ps.length)
    (hbody : ∀ (cdv : Value) (A : Around) (outer : List Env) (s : Shared) (H : Hp) (vs : List V) (Q : VK) (E : XK), Room k (A.deeper (envOfC qual (defScope st) s.heap.objs.size f cdv)) → sp vs H Q E →
      ∃ t, PSs (cxOf CX0 P w K mg base N qual (defScope st) f cdv A outer s H E).nox (defBody st) t ∧ t { nx := fun _ H' => Q .non H', rt := Q } (start N vs) H) : FnOk P w K mg base CX0 (k + 1) f fd ps sp := by
  obtain ⟨oc, od, kV, doc, pm, an, cdv, ct, osl, rfl, lk, hcd⟩ := F.ex
  refine fn_of lk hcd S len fun A outer s H vs Q E hr hsp => ?_
  obtain ⟨t, h, q⟩ := hbody cdv A outer s H vs Q E hr hsp
  exact ⟨t, h.nox, q⟩
theorem Fun.binds {x qual : Str} {st : Stmt} {f : Addr} {fd : FuncData} {ps : List Str} (F : Fun K x qual st f fd)
    (h : ∀ (kV doc pm : Value) (an : Option Addr) (cdv ct : Value) (us : List Value), us.length = ps.length → bindArgs (PySem.W.fnOf x qual (defArgs st) (defBody st) (defScope st) .none kV doc pm an cdv ct) ⟨us, []⟩ = pure (ps.zip us)) : Binds K fd ps [] := by
  obtain ⟨oc, od, kV, doc, pm, an, cdv, ct, osl, rfl, lk, hcd⟩ := F.ex
  exact .all (h kV doc pm an cdv ct)
theorem fun_mk {x qual : Str} {st : Stmt} {f : Addr} {oc : Value} {od an : Option Addr} {osl : Array (Option Value)} {kV doc pm cdv ct : Value} (l : K.lookup f = some ⟨oc, od, .func (PySem.W.fnOf x qual (defArgs st) (defBody st) (defScope st) .none kV doc pm an cdv ct), osl⟩)
    (c : PySem.W.codeIn K cdv qual = true) (k : PySem.W.keepIn K (.ref f) = true) : Fun K x qual st f (PySem.W.fnOf x qual (defArgs st) (defBody st) (defScope st) .none kV doc pm an cdv ct) := ⟨⟨oc, od, kV, doc, pm, an, cdv, ct, osl, rfl, l, c⟩, k⟩
end
section
variable {X : Cx}
theorem pv (i : Nat) {x : Str} {pos : Pos} (hN : X.N[i]? = some x := by rfl) (hv : Vis X.env.scope x := by first | exact Or.inl rfl | exact Or.inr (Or.inl rfl) | exact Or.inr (Or.inr rfl)) (hd : (x == ("__debug__" : Str)) = false := by decide)
    (hcd : (x == ("__classdict__" : Str)) = false := by decide) : PE X (.Name x pos) (tVar i) := pe_var hN hv hd hcd
end
theorem iteF {A B : Prop} (h : B) : if false = true then A else B := by
  rw [if_neg Bool.false_ne_true]
  exact h
theorem iteT {A B : Prop} (h : A) : if true = true then A else B := by
  rw [if_pos rfl]
  exact h
theorem ite2 {c A B : Prop} [Decidable c] (h1 : c → A) (h2 : ¬ c → B) : if c then A else B := by
  by_cases h : c
  · rw [if_pos h]
    exact h1 h
  · rw [if_neg h]
    exact h2 h
theorem iteNS {c A B : Prop} [Decidable c] (hc : c) (h : B) : if (!decide c) = true then A else B := by
  rw [decide_eq_true hc]
  exact iteF h
noncomputable def Same (H H' : Hp) : Prop := ∀ b o, H b = some o → H' b = some o
theorem Same.refl (H : Hp) : Same H H := fun _ _ h => h
theorem Same.trans {H H1 H2 : Hp} (a : Same H H1) (b : Same H1 H2) : Same H H2 := fun c o h => b c o (a c o h)
end L2
set_option maxRecDepth 100000
namespace L3
open PySem
noncomputable def closL (cells : List (Str × Addr)) : List (Str × NameKind) → List (Str × Addr) → List (Str × Addr)
  | [], cs => cs
  | (n, k) :: r, cs => closL cells r (if k == .free then (match cells.lookup n with | some c => (n, c) :: cs | none => cs) else cs)
theorem closureFor_eq {scope : Scope} {env : Env} (h : ∀ x ∈ scope.names, x.2 = .free → (env.cells.lookup x.1).isSome = true) : closureFor scope env = pure (closL env.cells scope.names []) := by
  unfold closureFor
  dsimp only
  generalize scope.names = names at h ⊢
  generalize ([] : List (Str × Addr)) = cs
  induction names generalizing cs with
  | nil => rfl
  | cons x r ih =>
    obtain ⟨n, k⟩ := x
    have ih' := fun cs => ih (fun y hy => h y (List.mem_cons_of_mem _ hy)) cs
    rw [List.forIn_cons]
    by_cases hk : (k == NameKind.free) = true
    · have hs := h (n, k) List.mem_cons_self (by simpa using hk)
      obtain ⟨c, hc⟩ := Option.isSome_iff_exists.mp hs
      have hc' : env.cells.lookup n = some c := hc
      have e1 : cellOf env n = pure c := by unfold cellOf; rw [hc']
      simp only [hk, if_true, e1, closL, hc']
      exact ih' _
    · have hk' : (k == NameKind.free) = false := by simpa using hk
      simp only [hk', Bool.false_eq_true, if_false, closL]
      exact ih' _
theorem closL_lookup {cells : List (Str × Addr)} {x : Str} {c : Addr} : ∀ {names : List (Str × NameKind)} {cs : List (Str × Addr)}, (∀ c, cs.lookup x = some c → cells.lookup x = some c) → (closL cells names cs).lookup x = some c → cells.lookup x = some c
  | [], _, h, e => h c e
  | (n, k) :: r, cs, h, e => by
    unfold closL at e
    refine closL_lookup (names := r) (fun c' e' => ?_) e
    by_cases hk : (k == NameKind.free) = true
    · rw [if_pos hk] at e'
      cases hc : cells.lookup n with
      | none => rw [hc] at e'; exact h c' e'
      | some d =>
        rw [hc] at e'
        by_cases hx : (x == n) = true
        · have : x = n := by simpa using hx
          subst this
          simp only [List.lookup_cons, beq_self_eq_true] at e'
          cases e'
          exact hc
        · have hx' : (x == n) = false := by simpa using hx
          simp only [List.lookup_cons, hx'] at e'
          exact h c' e'
    · rw [if_neg hk] at e'
      exact h c' e'
theorem closL_keep {cells : List (Str × Addr)} {x : Str} : ∀ {names : List (Str × NameKind)} {cs : List (Str × Addr)}, (∃ c, cs.lookup x = some c) → ∃ c, (closL cells names cs).lookup x = some c
  | [], _, h => h
  | (n, k) :: r, cs, h => by
    unfold closL
    refine closL_keep (names := r) ?_
    by_cases hk : (k == NameKind.free) = true
    · rw [if_pos hk]
      cases hc : cells.lookup n with
      | none => exact h
      | some d =>
        by_cases hx : (x == n) = true
        · exact ⟨d, by simp only [List.lookup_cons, hx]⟩
        · have hx' : (x == n) = false := by simpa using hx
          simp only [List.lookup_cons, hx']
          exact h
    · rw [if_neg hk]; exact h
theorem closL_has {cells : List (Str × Addr)} {x : Str} {d : Addr} (hd : cells.lookup x = some d) : ∀ {names : List (Str × NameKind)} {cs : List (Str × Addr)}, (x, NameKind.free) ∈ names → ∃ c, (closL cells names cs).lookup x = some c
  | [], _, h => nomatch h
  | (n, k) :: r, cs, h => by
    unfold closL
    rcases List.mem_cons.mp h with e | e
    · cases e
      refine closL_keep (names := r) ⟨d, ?_⟩
      rw [if_pos (by rfl), hd]
      simp only [List.lookup_cons, beq_self_eq_true]
    · exact closL_has hd e
end L3
namespace L3
open PySem
open Sem (wp)
section
variable {prog : Program} {w : World} {A : Around} {R : Result → Shared → Prop} {s : Shared}
noncomputable abbrev testsOf (ifs : List Expr) (env : Env) : Sem Bool := forIn ifs true fun c r => if r = true then do let ok ← isTrue c env (eval c env); pure (ForInStep.yield ok) else pure (ForInStep.yield r)
theorem comp_loop {elt tg iter : Expr} {ifs : List Expr} {scope : Scope} {pos : Pos} {it acc : Value} {env : Env} (I : Nat → Shared → Prop)
    (turn : ∀ n s, I n s → wpAny (model prog w) A (pyNext it) (fun r s1 => match r with
      | none => R (.ok .next) s1
      | some v => wpAny (model prog w) A (letOwnedTupleGo tg it v) (fun _ s2 => wpAny (model prog w) A (assign tg env v) (fun _ s3 => wpAny (model prog w) A (testsOf ifs env) (fun ok s4 =>
          if ok = true then wpAny (model prog w) A (eval elt env) (fun x s5 => wpAny (model prog w) A (call (.builtin "list.append") [acc, x]) (fun _ s6 => ∃ m, m < n ∧ I m s6) (fun _ _ => False) s5) (fun _ _ => False) s4
          else ∃ m, m < n ∧ I m s4) (fun _ _ => False) s3) (fun _ _ => False) s2) (fun _ _ => False) s1) (fun _ _ => False) s)
    (n : Nat) (h : I n s) : codeAny (model prog w) A (.compLoop (.ListComp elt [⟨tg, iter, ifs, 0⟩] scope pos) 0 it acc env) R s := by
  refine codeAny_loop rfl I (fun n s hI => ?_) n h
  show wpAny _ A ((compTurn (.ListComp elt [⟨tg, iter, ifs, 0⟩] scope pos) 0 it acc env).onRaise (fun x => do noteFrame x env; theTreesLotGoes x)) _ _ s
  refine wpAny_noted ?_
  rw [compTurn_list]
  refine wpAny_bind (wpAny_standAt (wpAny_bind (wpAny_mono (turn n s hI) (fun r s1 h1 => ?_) fun _ _ z => z.elim)))
  cases r with
  | none => exact wpAny_pure h1
  | some v =>
    refine wpAny_bind (wpAny_mono h1 (fun _ s2 h2 => ?_) fun _ _ z => z.elim)
    refine wpAny_bind (wpAny_mono h2 (fun _ s3 h3 => wpAny_bind (wpAny_mono h3 (fun ok s4 h4 => ?_) fun _ _ z => z.elim)) fun _ _ z => z.elim)
    cases ok with
    | false => exact wpAny_pure ⟨rfl, h4⟩
    | true =>
      refine wpAny_bind (wpAny_bind (wpAny_mono h4 (fun x s5 h5 => wpAny_bind (wpAny_mono h5 (fun _ s6 h6 => wpAny_pure (wpAny_pure ⟨rfl, h6⟩)) fun _ _ z => z.elim)) fun _ _ z => z.elim))
end
end L3
namespace L3
open PySem
noncomputable def compOk (sc0 scope : Scope) (N N' : List Str) (sh : List Nat) : Bool :=
  (scope.kind == .function) && (scope.names.all fun y => y.2 != .cell && ((y.2 != .local || scope.names.lookup y.1 == some .local) && (y.2 != .free || sc0.names.lookup y.1 == some .cell))) &&
    ((N'.take N.length == N) && N.zipIdx.all fun p => scope.names.lookup p.1 != some .local || sh.contains p.2)
structure CompParts (sc0 scope : Scope) (N N' : List Str) (sh : List Nat) : Prop where
  kind : scope.kind = .function
  cell : ∀ y ∈ scope.names, y.2 ≠ .cell
  loc : ∀ y ∈ scope.names, y.2 = .local → scope.names.lookup y.1 = some .local
  free : ∀ y ∈ scope.names, y.2 = .free → sc0.names.lookup y.1 = some .cell
  pre : N'.take N.length = N
  shad : ∀ (i : Nat) (x : Str), N[i]? = some x → scope.names.lookup x = some .local → i ∈ sh
theorem compOk_parts {sc0 scope : Scope} {N N' : List Str} {sh : List Nat} (h : compOk sc0 scope N N' sh = true) : CompParts sc0 scope N N' sh := by
  unfold compOk at h
  rw [Bool.and_eq_true, Bool.and_eq_true, Bool.and_eq_true] at h
  obtain ⟨⟨h1, h2⟩, h3, h4⟩ := h
  rw [List.all_eq_true] at h2 h4
  have q : ∀ y ∈ scope.names, y.2 ≠ .cell ∧ (y.2 = .local → scope.names.lookup y.1 = some .local) ∧ (y.2 = .free → sc0.names.lookup y.1 = some .cell) := fun y hy => by
    have := h2 y hy
    rw [Bool.and_eq_true, Bool.and_eq_true] at this
    obtain ⟨a, b, c⟩ := this
    refine ⟨by simpa using a, fun e => ?_, fun e => ?_⟩
    · rw [e] at b; simpa using b
    · rw [e] at c; simpa using c
  refine ⟨by simpa using h1, fun y hy => (q y hy).1, fun y hy => (q y hy).2.1, fun y hy => (q y hy).2.2, by simpa using h3, fun i x e l => ?_⟩
  have := h4 (x, i) (by rw [List.mem_zipIdx_iff_getElem?]; simpa using e)
  simp only [l] at this
  simpa using this
theorem relab_inv {env : Env} {x : Str} {k : NameKind} : ∀ {names : List (Str × NameKind)}, (names.map fun (n, k) => if (k == NameKind.free && env.scope.kind == .function && env.kindOf n == some .cell) then (n, NameKind.cell) else (n, k)).lookup x = some k →
    ∃ k0, names.lookup x = some k0 ∧ (k = k0 ∨ (k0 = .free ∧ k = .cell))
  | [], h => by simp at h
  | (n, k1) :: r, h => by
    have ih := @relab_inv env x k r
    rw [List.map_cons] at h
    dsimp only at h
    by_cases hx : (x == n) = true
    · refine ⟨k1, by simp only [List.lookup_cons, hx], ?_⟩
      by_cases hc : (k1 == NameKind.free && env.scope.kind == .function && env.kindOf n == some .cell) = true
      · rw [if_pos hc] at h
        simp only [List.lookup_cons, hx] at h
        have : k1 = .free := by
          rw [Bool.and_eq_true, Bool.and_eq_true] at hc
          simpa using hc.1.1
        exact .inr ⟨this, (Option.some.inj h).symm⟩
      · rw [if_neg hc] at h
        simp only [List.lookup_cons, hx] at h
        exact .inl (Option.some.inj h).symm
    · have hx' : (x == n) = false := by simpa using hx
      by_cases hc : (k1 == NameKind.free && env.scope.kind == .function && env.kindOf n == some .cell) = true
      · rw [if_pos hc] at h
        simp only [List.lookup_cons, hx'] at h ⊢
        exact ih h
      · rw [if_neg hc] at h
        simp only [List.lookup_cons, hx'] at h ⊢
        exact ih h
theorem mem_of_look {x : Str} {k : NameKind} : ∀ {names : List (Str × NameKind)}, names.lookup x = some k → (x, k) ∈ names
  | [], h => by simp at h
  | (n, k1) :: r, h => by
    by_cases hx : (x == n) = true
    · have e : x = n := by simpa using hx
      subst e
      simp only [List.lookup_cons, beq_self_eq_true] at h
      cases h
      exact List.mem_cons_self
    · have hx' : (x == n) = false := by simpa using hx
      simp only [List.lookup_cons, hx'] at h
      exact List.mem_cons_of_mem _ (mem_of_look h)
noncomputable def blank {α : Type} (sh : List Nat) (σ : List (Option α)) : List (Option α) := sh.foldl (fun σ i => σ.set i none) σ
theorem blank_length {α : Type} : ∀ (sh : List Nat) (σ : List (Option α)), (blank sh σ).length = σ.length
  | [], _ => rfl
  | j :: sh, σ => by
    show (blank sh (σ.set j none)).length = _
    rw [blank_length sh, List.length_set]
theorem blank_get {α : Type} {i : Nat} {v : α} : ∀ {sh : List Nat} {σ : List (Option α)}, (blank sh σ)[i]? = some (some v) → i ∉ sh ∧ σ[i]? = some (some v)
  | [], σ, h => ⟨by simp, h⟩
  | j :: sh, σ, h => by
    have h' : (blank sh (σ.set j none))[i]? = some (some v) := h
    obtain ⟨h1, h2⟩ := blank_get h'
    by_cases e : j = i
    · subst e
      rw [List.getElem?_set] at h2
      simp at h2
    · rw [List.getElem?_set_ne e] at h2
      exact ⟨fun z => (List.mem_cons.mp z).elim (fun q => e q.symm) h1, h2⟩
end L3
namespace L3
open PySem
open Sem (wp)
section
variable {prog : Program} {w : World} {A : Around} {E : Value → Shared → Prop} {s : Shared}
structure AtT (it t : Addr) (xs : Array Value) (i : Nat) (h : Heap) : Prop where
  iter : h.IsTupleIter it t i
  tup : h.IsTuple t xs
theorem AtT.move {it t b : Addr} {xs : Array Value} {i : Nat} {h h' : Heap} (a : AtT it t xs i h) (k : Heap.ExtBut b h h') (h1 : it ≠ b) (h2 : t ≠ b) : AtT it t xs i h' := ⟨a.iter.extBut k h1, a.tup.extBut k h2⟩
theorem AtT.keeps {it t : Addr} {xs : Array Value} {i : Nat} {h h' : Heap} (a : AtT it t xs i h) (k1 : ∀ o, h.get? it = some o → h'.get? it = some o) (k2 : ∀ o, h.get? t = some o → h'.get? t = some o) : AtT it t xs i h' :=
  ⟨a.iter.at k1, let ⟨o, ho, r⟩ := a.tup; ⟨o, k2 o ho, r⟩⟩
theorem tnext_item {it t : Addr} {i : Nat} {xs : Array Value} {x : Value} {Q : Value → Shared → Prop} (a : AtT it t xs i s.heap) (hne : t ≠ it) (hx : xs[i]? = some x)
    (hQ : ∀ h', AtT it t xs (i + 1) h' → Heap.SameBut it s.heap h' → Q x { s with heap := h' }) : wpAny (model prog w) A (Builtin.SmallTypes.nextOf (.ref it)) Q E s := by
  obtain ⟨hit, ht⟩ := a
  have ht0 := ht
  obtain ⟨o, ho, hc, hd⟩ := id hit
  obtain ⟨ol, hol, _, nl, hdl⟩ := ht
  unfold Builtin.SmallTypes.nextOf
  refine wpAny_bind (wpAny_callSpecial?_slot (name := Str.ofString "__next__") hit.typeIs F.slot_tuple_iterator_next (wpAny_call_entry F.slot_tuple_iterator_next hit.typeIs F.entry_tuple_iterator_next ?_ (F.args_tuple_iterator_next_1 _)))
  show wpAny _ _ (field (.ref it) 0 >>= _) _ _ s
  refine wpAny_bind (wpAny_field ho hd (x := .ref t) rfl ?_)
  show wpAny _ _ (if (Value.ref t == Value.none) = true then _ else _) _ _ s
  rw [if_neg (show ¬ ((Value.ref t == Value.none) = true) from Bool.false_ne_true)]
  show wpAny _ _ (field (.ref it) 1 >>= _) _ _ s
  refine wpAny_bind (wpAny_field ho hd (x := .int i 0) rfl ?_)
  show wpAny _ _ (seqItems? (.ref t) >>= _) _ _ s
  refine wpAny_bind (wpAny_seqItems hol hdl ?_)
  simp only [Int.toNat_natCast, hx]
  refine wpAny_bind (wpAny_setField ho hd (by simp) (wpAny_pure ⟨x, rfl, wpAny_pure (hQ _ ⟨?_, ht0.extBut (Heap.SameBut.update ..).extBut hne⟩ (Heap.SameBut.update ..))⟩))
  refine ⟨_, Heap.get?_update_self _ ho (Obj.isFreed_of_fields (Obj.data_mapFields hd _)), (Obj.cls_mapFields ..).trans hc, ?_⟩
  rw [Obj.data_mapFields hd]; simp [rawInt]
theorem tnext_end {it t : Addr} {i : Nat} {xs : Array Value} {Q : Value → Shared → Prop} (hh : A.handled = none) (a : AtT it t xs i s.heap) (hx : xs[i]? = none)
    (hE : ∀ h' e, Heap.ExtBut it s.heap h' → (∃ o, h'.get? e = some o ∧ o.cls = .type "StopIteration") → E (.ref e) { s with heap := h' }) : wpAny (model prog w) A (Builtin.SmallTypes.nextOf (.ref it)) Q E s := by
  obtain ⟨hit, ht⟩ := a
  obtain ⟨o, ho, hc, hd⟩ := id hit
  obtain ⟨ol, hol, _, nl, hdl⟩ := ht
  unfold Builtin.SmallTypes.nextOf
  refine wpAny_bind (wpAny_callSpecial?_slot (name := Str.ofString "__next__") hit.typeIs F.slot_tuple_iterator_next (wpAny_call_entry F.slot_tuple_iterator_next hit.typeIs F.entry_tuple_iterator_next ?_ (F.args_tuple_iterator_next_1 _)))
  show wpAny _ _ (field (.ref it) 0 >>= _) _ _ s
  refine wpAny_bind (wpAny_field ho hd (x := .ref t) rfl ?_)
  show wpAny _ _ (if (Value.ref t == Value.none) = true then _ else _) _ _ s
  rw [if_neg (show ¬ ((Value.ref t == Value.none) = true) from Bool.false_ne_true)]
  show wpAny _ _ (field (.ref it) 1 >>= _) _ _ s
  refine wpAny_bind (wpAny_field ho hd (x := .int i 0) rfl ?_)
  show wpAny _ _ (seqItems? (.ref t) >>= _) _ _ s
  refine wpAny_bind (wpAny_seqItems hol hdl ?_)
  simp only [Int.toNat_natCast, hx]
  refine wpAny_bind (wpAny_rule (wpAny_bind (wpAny_setField ho hd (by simp) ?_)))
  show wpAny _ _ (newExc (.type "StopIteration") [] >>= _) _ _ _
  refine wpAny_bind ?_
  simp only [newExc, newTuple]
  refine wpAny_bind (wpAny_newObj_type ?_ (by size_fits))
  refine wpAny_bind (m := firstArgMember _ _) (wpAny_of_eq (a := Value.none) (by first | rfl | (simp only [firstArgMember]; rfl)) ?_)
  refine wpAny_newObj_type ?_ (by size_fits)
  simp only [raiseNew]
  refine wpAny_bind (wpAny_handled ?_)
  first | rw [show A.in1.handled = none from hh] | rw [hh]
  refine wpAny_bind (wpAny_pure (wpAny_throw ?_))
  exact hE _ _ (((Heap.SameBut.update ..).extBut.push _).push _) ⟨_, Heap.get?_push_size _ rfl, rfl⟩
theorem enumT_next {e it t : Addr} {i : Nat} {xs : Array Value} {x old : Value} {Q : Value → Shared → Prop} (he : IsEnum s.heap e it i old) (a : AtT it t xs i s.heap) (hx : xs[i]? = some x) (hne : e ≠ it) (hte : t ≠ e) (hti : t ≠ it)
    (hQ : ∀ h', IsEnumOut h' e it ((i : Int) + 1) x s.heap.objs.size → AtT it t xs (i + 1) h' → h'.get? s.heap.objs.size = some { cls := .type "tuple", data := .seq #[.int i s.toks, x] } → h'.objs.size = s.heap.objs.size + 1 →
      (∀ b o, b ≠ e → b ≠ it → s.heap.get? b = some o → h'.get? b = some o) → Q (.ref s.heap.objs.size) { s with heap := h', toks := s.toks + 1 }) :
    wpAny (model prog w) A (Builtin.«enumerate.__next__» ⟨[.ref e], []⟩) (fun fin s' => ∃ v, fin = .done (.ret v) ∧ Q v s') E s := by
  obtain ⟨hp, g, d, tk, os⟩ := s
  show wpAny _ _ (field (.ref e) 2 >>= _) _ _ _
  refine wpAny_bind (wpAny_field he rfl (x := .ref it) rfl ?_)
  refine wpAny_bind (tnext_item a hti hx fun h1 a1 k1 => ?_)
  replace k1 : Heap.SameBut it hp h1 := k1
  have e1 : IsEnum h1 e it i old := (k1.2 e hne).trans he
  show wpAny _ _ (field (.ref e) 3 >>= _) _ _ ⟨h1, g, d, tk, os⟩
  refine wpAny_bind (wpAny_field e1 rfl (x := rawInt i) rfl ?_)
  show wpAny _ _ (field (.ref e) 4 >>= _) _ _ ⟨h1, g, d, tk, os⟩
  refine wpAny_bind (wpAny_field e1 rfl (x := .none) rfl ?_)
  show wpAny _ _ (mkInt i >>= _) _ _ ⟨h1, g, d, tk, os⟩
  refine wpAny_bind (wpAny_mkInt ?_)
  show wpAny _ _ (setField (.ref e) 3 (rawInt ((i : Int) + 1)) >>= _) _ _ ⟨h1, g, d, tk + 1, os⟩
  refine wpAny_bind (wpAny_setField_rec e1 (by simp) fun h2 e2 k2 => ?_)
  replace k2 : Heap.SameBut e h1 h2 := k2
  replace e2 : IsEnum h2 e it ((i : Int) + 1) old := e2
  show wpAny _ _ (setField (.ref e) 4 .none >>= _) _ _ ⟨h2, g, d, tk + 1, os⟩
  refine wpAny_bind (wpAny_setField_rec e2 (by simp) fun h3 e3 k3 => ?_)
  replace k3 : Heap.SameBut e h2 h3 := k3
  replace e3 : IsEnum h3 e it ((i : Int) + 1) old := e3
  show wpAny _ _ (newTuple [.int i tk, x] >>= _) _ _ ⟨h3, g, d, tk + 1, os⟩
  refine wpAny_bind (wpAny_newTuple ?_)
  have e4 : IsEnum (h3.push { cls := .type "tuple", data := .seq #[.int i tk, x] }) e it ((i : Int) + 1) old := Heap.get?_push_of_some _ e3
  generalize q4 : h3.push { cls := .type "tuple", data := .seq #[.int i tk, x] } = h4 at e4
  have sz : h3.objs.size = hp.objs.size := by rw [k3.1, k2.1, k1.1]
  have el : e < hp.objs.size := Heap.lt_size he
  have t4 : h4.get? hp.objs.size = some { cls := .type "tuple", data := .seq #[.int i tk, x] } := by rw [← q4, ← sz]; exact Heap.get?_push_size _ rfl
  have z4 : h4.objs.size = hp.objs.size + 1 := by rw [← q4, Heap.size_push, sz]
  have k4 : ∀ b o, b ≠ e → b ≠ it → hp.get? b = some o → h4.get? b = some o := fun b o n1 n2 hb => by
    rw [← q4]; exact Heap.get?_push_of_some _ (k3.extBut b o n1 (k2.extBut b o n1 (k1.extBut b o n2 hb)))
  have a4 : AtT it t xs (i + 1) h4 := by
    rw [← q4]
    exact ((a1.move k2.extBut hne.symm hte).move k3.extBut hne.symm hte).keeps (fun o ho => Heap.get?_push_of_some _ ho) fun o ho => Heap.get?_push_of_some _ ho
  show wpAny _ _ (Builtin.SmallTypes.ownedTupleIsFree (.ref e) >>= _) _ _ ⟨h4, g, d, tk + 1, os⟩
  rw [sz]
  clear q4 e3 k3 e2 k2 e1 k1 a1 sz h3 h2 h1
  refine wpAny_bind ?_
  unfold Builtin.SmallTypes.ownedTupleIsFree
  refine wpAny_bind (wpAny_field e4 rfl (x := .none) rfl (wpAny_pure ?_))
  simp only [if_true]
  refine wpAny_bind (wpAny_rule ?_)
  refine wpAny_bind (wpAny_field e4 rfl (x := old) rfl ?_)
  refine wpAny_bind (wpAny_setField_rec e4 (by simp) fun h5 e5 k5 => ?_)
  replace k5 : Heap.SameBut e h4 h5 := k5
  replace e5 : IsEnum h5 e it ((i : Int) + 1) x := e5
  show wpAny _ _ (Builtin.SmallTypes.ownedTupleHandOut (.ref e) (.ref hp.objs.size) >>= _) _ _ ⟨h5, g, d, tk + 1, os⟩
  refine wpAny_bind ?_
  unfold Builtin.SmallTypes.ownedTupleHandOut
  refine wpAny_bind (wpAny_setField_rec e5 (by simp) fun h6 e6 k6 => ?_)
  replace k6 : Heap.SameBut e h5 h6 := k6
  replace e6 : IsEnumOut h6 e it ((i : Int) + 1) x hp.objs.size := e6
  refine wpAny_setField_rec e6 (by simp) fun h7 e7 k7 => ?_
  replace k7 : Heap.SameBut e h6 h7 := k7
  replace e7 : IsEnumOut h7 e it ((i : Int) + 1) x hp.objs.size := e7
  have up : ∀ b o, b ≠ e → h4.get? b = some o → h7.get? b = some o := fun b o n q => k7.extBut b o n (k6.extBut b o n (k5.extBut b o n q))
  refine wpAny_bind (wpAny_letGo (wpAny_pure ⟨_, rfl, hQ h7 e7 (a4.keeps (fun o q => up _ o hne.symm q) fun o q => up _ o hte q) (up _ _ (Nat.ne_of_gt el) t4) ?_ fun b o n1 n2 q => up b o n1 (k4 b o n1 n2 q)⟩))
  rw [k7.1, k6.1, k5.1, z4]
theorem enumT_pyNext {e it t : Addr} {i : Nat} {xs : Array Value} {x old : Value} {Q : Option Value → Shared → Prop} (he : IsEnum s.heap e it i old) (a : AtT it t xs i s.heap) (hx : xs[i]? = some x) (hne : e ≠ it) (hte : t ≠ e) (hti : t ≠ it)
    (hQ : ∀ h', IsEnumOut h' e it ((i : Int) + 1) x s.heap.objs.size → AtT it t xs (i + 1) h' → h'.get? s.heap.objs.size = some { cls := .type "tuple", data := .seq #[.int i s.toks, x] } → h'.objs.size = s.heap.objs.size + 1 →
      (∀ b o, b ≠ e → b ≠ it → s.heap.get? b = some o → h'.get? b = some o) → Q (some (.ref s.heap.objs.size)) { s with heap := h', toks := s.toks + 1 }) :
    wpAny (model prog w) A (pyNext (.ref e)) Q E s := by
  have hT : s.TypeIs (.ref e) "enumerate" := ⟨_, he, rfl⟩
  unfold pyNext
  exact wpAny_bind (wpAny_attempt (wpAny_callSpecial?_slot (name := Str.ofString "__next__") hT F.slot_enumerate_next (wpAny_call_entry F.slot_enumerate_next hT F.entry_enumerate_next
    (enumT_next he a hx hne hte hti fun h' p1 p2 p3 p4 p5 => wpAny_pure (hQ h' p1 p2 p3 p4 p5)) (F.args_enumerate_next_1 _))))
theorem enumT_pyEnd {e it t : Addr} {i : Nat} {xs : Array Value} {old : Value} {Q : Option Value → Shared → Prop} (hh : A.handled = none) (he : IsEnum s.heap e it i old) (a : AtT it t xs i s.heap) (hx : xs[i]? = none)
    (hQ : ∀ h', Heap.ExtBut it s.heap h' → Q none { s with heap := h' }) : wpAny (model prog w) A (pyNext (.ref e)) Q E s := by
  have hT : s.TypeIs (.ref e) "enumerate" := ⟨_, he, rfl⟩
  unfold pyNext
  refine wpAny_bind (wpAny_attempt (wpAny_callSpecial?_slot (name := Str.ofString "__next__") hT F.slot_enumerate_next (wpAny_call_entry F.slot_enumerate_next hT F.entry_enumerate_next ?_ (F.args_enumerate_next_1 _))))
  show wpAny _ _ (field (.ref e) 2 >>= _) _ _ _
  refine wpAny_bind (wpAny_field he rfl (x := .ref it) rfl ?_)
  refine wpAny_bind (tnext_end hh a hx fun h' x he' hx' => ?_)
  obtain ⟨o, ho, hc⟩ := hx'
  exact wpAny_bind (wpAny_isInstance (T := "StopIteration") (b := true) ⟨o, ho, hc⟩ isSubtype_stop (wpAny_pure (hQ _ he')))
end
end L3
namespace L3
open PySem
open Sem (wp)
open AutoSeq1 (wpAny_loadPart')
set_option maxRecDepth 100000
noncomputable abbrev tupIt (t : Addr) : Obj := { cls := .type "tuple_iterator", data := .fields #[.ref t, .int 0 0] }
theorem enumT_new (t : Addr) (xs : Array Value) (n : Nat) (dct : Option Addr) (sl : Array (Option Value)) :
    Meets (Builtin.«enumerate.__new__» ⟨[.type "enumerate", .ref t], []⟩) (fun _ R s => s.heap.get? t = some { cls := .type "tuple", dict := dct, data := .seq xs n, slots := sl } ∧
      R (.ok (.ret (.ref (s.heap.push (tupIt t)).objs.size))) { s with heap := (s.heap.push (tupIt t)).push { cls := .type "enumerate", data := .fields #[.none, .bool false, .ref s.heap.objs.size, rawInt 0, .none, .none] } }) :=
  .of_wp fun prog w A R s h => by
    obtain ⟨hp, g, d, tk, os⟩ := s; obtain ⟨ht, h⟩ := h
    have hsub := sub_enumerate
    have hT : Heap.IsTuple (Shared.heap ⟨hp, g, d, tk, os⟩) t xs := ⟨_, ht, rfl, n, rfl⟩
    wp_walk using wpAny_loadPart' ht
    refine wpAny_stack_any fun st => wpAny_pure ?_
    split
    · rename_i c _ _ _ _ _
      cases (c == Value.type "enumerate")
      · wp_walk using wpAny_loadPart' ht, wpAny_pyIter_tuple hT
        exact ⟨_, rfl, h⟩
      · wp_walk using wpAny_loadPart' ht, wpAny_pyIter_tuple hT
        exact ⟨_, rfl, h⟩
    · wp_walk using wpAny_loadPart' ht, wpAny_pyIter_tuple hT
      exact ⟨_, rfl, h⟩
section
variable {prog : Program} {w : World} {A : Around} {E : Value → Shared → Prop} {s : Shared}
theorem call_enumT {t : Addr} {xs : Array Value} {Q : Value → Shared → Prop} (hT : s.heap.IsTuple t xs)
    (h : ∀ h', IsEnum h' (s.heap.objs.size + 1) s.heap.objs.size 0 .none → AtT s.heap.objs.size t xs 0 h' → h'.objs.size = s.heap.objs.size + 2 → (∀ b o, s.heap.get? b = some o → h'.get? b = some o) →
      Q (.ref (s.heap.objs.size + 1)) { s with heap := h' }) : wpAny (model prog w) A (call (.type "enumerate") [.ref t]) Q E s := by
  have hT0 := hT
  obtain ⟨⟨c, dct, dt, sl⟩, hl, hc, n, hd⟩ := hT
  replace hc : c = .type "tuple" := hc
  replace hd : dt = .seq xs n := hd
  subst hc hd
  refine callType_new F.called_enumerate (by decide) (F.typeCall_enumerate_1 _) (F.newCall_enumerate_1 _) (fun obj => F.args_object_init_2 obj _) F.entry_enumerate_new (enumT_new t xs n dct sl) ⟨hl, ?_⟩
  have hz : (s.heap.push (tupIt t)).objs.size = s.heap.objs.size + 1 := Heap.size_push ..
  show _ ∧ _
  rw [hz]
  have he : IsEnum ((s.heap.push (tupIt t)).push { cls := .type "enumerate", data := .fields #[.none, .bool false, .ref s.heap.objs.size, rawInt 0, .none, .none] }) (s.heap.objs.size + 1) s.heap.objs.size 0 .none := by
    have q := Heap.get?_push_size (s.heap.push (tupIt t)) (o := { cls := .type "enumerate", data := .fields #[.none, .bool false, .ref s.heap.objs.size, rawInt 0, .none, .none] }) rfl
    rw [hz] at q; exact q
  exact ⟨⟨_, he, rfl⟩, h _ he ⟨⟨_, Heap.get?_push_of_some _ (Heap.get?_push_size _ rfl), rfl, rfl⟩, (hT0.push _).push _⟩ (by rw [Heap.size_push, hz]) fun b o x => Heap.get?_push_of_some _ (Heap.get?_push_of_some _ x)⟩
structure ZipAt (z TI TO i1 i2 t1 t2 : Addr) (xs ys : Array Value) (i : Nat) (f0 : Value) (h : Heap) : Prop where
  z : IsZip h z TI TO f0
  TI : IsPair h TI (.ref i1) (.ref i2)
  TO : ∃ a b, IsPair h TO a b
  one : AtT i1 t1 xs i h
  two : AtT i2 t2 ys i h
theorem zipT_next {z TI TO i1 i2 t1 t2 : Addr} {xs ys : Array Value} {i : Nat} {x y : Value} {Q : Value → Shared → Prop} (D : ZipApart z TI TO i1 i2 t1 t2) (Z : ZipAt z TI TO i1 i2 t1 t2 xs ys i .none s.heap) (hx : xs[i]? = some x) (hy : ys[i]? = some y)
    (hQ : ∀ h', ZipAt z TI TO i1 i2 t1 t2 xs ys (i + 1) (rawInt s.heap.objs.size) h' → IsPair h' s.heap.objs.size x y → h'.objs.size = s.heap.objs.size + 1 →
      (∀ c o, c ≠ z → c ≠ TO → c ≠ i1 → c ≠ i2 → s.heap.get? c = some o → h'.get? c = some o) → Q (.ref s.heap.objs.size) { s with heap := h' }) :
    wpAny (model prog w) A (Builtin.«zip.__next__» ⟨[.ref z], []⟩) (fun fin s' => ∃ v, fin = .done (.ret v) ∧ Q v s') E s := by
  obtain ⟨hz, hTI, ⟨a, b, hTO⟩, h1, h2⟩ := Z
  show wpAny _ _ (field (.ref z) 2 >>= _) _ _ _
  refine wpAny_bind (wpAny_field hz rfl (x := .bool false) rfl ?_)
  show wpAny _ _ (field (.ref z) 3 >>= _) _ _ _
  refine wpAny_bind (wpAny_field hz rfl (x := .ref TI) rfl ?_)
  refine wpAny_bind (wpAny_seqItems hTI rfl ?_)
  show wpAny _ _ (Builtin.SmallTypes.ownedTupleIsFree (.ref z) >>= _) _ _ _
  refine wpAny_bind ?_
  unfold Builtin.SmallTypes.ownedTupleIsFree
  refine wpAny_bind (wpAny_field hz rfl (x := .none) rfl (wpAny_pure ?_))
  simp only [if_true]
  refine wpAny_bind (wpAny_rule (wpAny_bind (wpAny_field hz rfl (x := .ref TO) rfl (wpAny_bind (wpAny_setField_rec hz (by simp) fun g1 z1 k1 => ?_)))))
  replace z1 : IsZip g1 z TI TO .ellipsis := z1
  refine wpAny_bind ?_
  simp only [List.forIn_cons, List.forIn_nil, List.zipIdx_cons, List.zipIdx_nil]
  refine wpAny_bind (wpAny_bind (wpAny_onRaise ?_))
  show wpAny _ _ (Builtin.SmallTypes.nextOf (.ref i1) >>= _) _ _ _
  refine wpAny_bind (tnext_item (h1.move k1.extBut D.i1z D.l1z) D.l1i1 hx fun g2 p2 k2 => wpAny_pure ?_)
  have O2 : IsPair g2 TO a b := k2.extBut _ _ D.TOi1 (k1.extBut _ _ D.TOz hTO)
  refine wpAny_bind (wpAny_seqItems O2 rfl (wpAny_bind (wpAny_updateSeq_pair O2 fun g3 O3 k3 => ?_)))
  replace O3 : IsPair g3 TO x b := O3
  refine wpAny_bind (wpAny_letGo (wpAny_pure (wpAny_bind (wpAny_bind (wpAny_onRaise ?_)))))
  show wpAny _ _ (Builtin.SmallTypes.nextOf (.ref i2) >>= _) _ _ _
  refine wpAny_bind (tnext_item (((h2.move k1.extBut D.i2z D.l2z).move k2.extBut D.i12.symm D.l2i1).move k3.extBut D.TOi2.symm D.l2TO) D.l2i2 hy fun g4 p4 k4 => wpAny_pure ?_)
  have O4 : IsPair g4 TO x b := k4.extBut _ _ D.TOi2 O3
  refine wpAny_bind (wpAny_seqItems O4 rfl (wpAny_bind (wpAny_updateSeq_pair O4 fun g5 O5 k5 => ?_)))
  replace O5 : IsPair g5 TO x y := O5
  refine wpAny_bind (wpAny_letGo (wpAny_pure (wpAny_pure (wpAny_bind (wpAny_seqItems O5 rfl (wpAny_bind (wpAny_newTuple ?_)))))))
  have sz : g5.objs.size = s.heap.objs.size := by rw [k5.1, k4.1, k3.1, k2.1, k1.1]
  have z5 : IsZip g5 z TI TO .ellipsis := k5.extBut _ _ D.TOz.symm (k4.extBut _ _ D.i2z.symm (k3.extBut _ _ D.TOz.symm (k2.extBut _ _ D.i1z.symm z1)))
  have kp5 : ∀ c o, c ≠ z → c ≠ TO → c ≠ i1 → c ≠ i2 → s.heap.get? c = some o → g5.get? c = some o := fun c o c1 c2 c3 c4 e => k5.extBut _ _ c2 (k4.extBut _ _ c4 (k3.extBut _ _ c2 (k2.extBut _ _ c3 (k1.extBut _ _ c1 e))))
  have a5 : AtT i1 t1 xs (i + 1) g5 := ((p2.move k3.extBut D.TOi1.symm D.l1TO).move k4.extBut D.i12 D.l1i2).move k5.extBut D.TOi1.symm D.l1TO
  have b5 : AtT i2 t2 ys (i + 1) g5 := p4.move k5.extBut D.TOi2.symm D.l2TO
  have zlt : z < g5.objs.size := Heap.lt_size z5
  show wpAny _ _ (Builtin.SmallTypes.ownedTupleHandOut (.ref z) (.ref g5.objs.size) >>= _) _ _ _
  refine wpAny_bind ?_
  unfold Builtin.SmallTypes.ownedTupleHandOut
  have z6 : IsZip (g5.push { cls := .type "tuple", data := .seq #[x, y] }) z TI TO .ellipsis := Heap.get?_push_of_some _ z5
  refine wpAny_bind (wpAny_setField_rec z6 (by simp) fun g7 z7 k7 => ?_)
  replace z7 : IsZip g7 z TI TO (rawInt g5.objs.size) := z7
  refine wpAny_setField_rec z7 (by simp) fun g8 z8 k8 => ?_
  replace z8 : IsZip g8 z TI TO (rawInt g5.objs.size) := z8
  have up : ∀ c o, c ≠ z → g5.get? c = some o → g8.get? c = some o := fun c o c1 e => k8.extBut _ _ c1 (k7.extBut _ _ c1 (Heap.get?_push_of_some _ e))
  have T8 : IsPair g8 g5.objs.size x y := k8.extBut _ _ (Nat.ne_of_gt zlt) (k7.extBut _ _ (Nat.ne_of_gt zlt) (Heap.get?_push_size _ rfl))
  have s8 : g8.objs.size = g5.objs.size + 1 := by rw [k8.1, k7.1, Heap.size_push]
  rw [sz] at z8 T8 s8
  refine wpAny_pure ⟨_, rfl, ?_⟩
  show Q (.ref g5.objs.size) _
  rw [sz]
  exact hQ g8 ⟨z8, up _ _ D.TIz (kp5 _ _ D.TIz D.TITO D.TIi1 D.TIi2 hTI), ⟨x, y, up _ _ D.TOz O5⟩, a5.keeps (fun o q => up _ o D.i1z q) (fun o q => up _ o D.l1z q), b5.keeps (fun o q => up _ o D.i2z q) fun o q => up _ o D.l2z q⟩ T8 s8
    fun c o c1 c2 c3 c4 e => up c o c1 (kp5 c o c1 c2 c3 c4 e)
theorem zipT_stop {z TI TO i1 i2 t1 t2 : Addr} {xs ys : Array Value} {i : Nat} {Q : Fin → Shared → Prop} (hh : A.handled = none) (D : ZipApart z TI TO i1 i2 t1 t2) (Z : ZipAt z TI TO i1 i2 t1 t2 xs ys i .none s.heap) (hend : xs[i]? = none ∨ ys[i]? = none)
    (hE : ∀ h' e, (∀ c o, c ≠ z → c ≠ TO → c ≠ i1 → c ≠ i2 → s.heap.get? c = some o → h'.get? c = some o) → (∃ o, h'.get? e = some o ∧ o.cls = .type "StopIteration") → E (.ref e) { s with heap := h' }) :
    wpAny (model prog w) A (Builtin.«zip.__next__» ⟨[.ref z], []⟩) Q E s := by
  obtain ⟨hz, hTI, ⟨a, b, hTO⟩, h1, h2⟩ := Z
  show wpAny _ _ (field (.ref z) 2 >>= _) _ _ _
  refine wpAny_bind (wpAny_field hz rfl (x := .bool false) rfl ?_)
  show wpAny _ _ (field (.ref z) 3 >>= _) _ _ _
  refine wpAny_bind (wpAny_field hz rfl (x := .ref TI) rfl ?_)
  refine wpAny_bind (wpAny_seqItems hTI rfl ?_)
  show wpAny _ _ (Builtin.SmallTypes.ownedTupleIsFree (.ref z) >>= _) _ _ _
  refine wpAny_bind ?_
  unfold Builtin.SmallTypes.ownedTupleIsFree
  refine wpAny_bind (wpAny_field hz rfl (x := .none) rfl (wpAny_pure ?_))
  simp only [if_true]
  refine wpAny_bind (wpAny_rule (wpAny_bind (wpAny_field hz rfl (x := .ref TO) rfl (wpAny_bind (wpAny_setField_rec hz (by simp) fun g1 z1 k1 => ?_)))))
  replace z1 : IsZip g1 z TI TO .ellipsis := z1
  refine wpAny_bind ?_
  simp only [List.forIn_cons, List.forIn_nil, List.zipIdx_cons, List.zipIdx_nil]
  refine wpAny_bind (wpAny_bind (wpAny_onRaise ?_))
  show wpAny _ _ (Builtin.SmallTypes.nextOf (.ref i1) >>= _) _ _ _
  cases hx : xs[i]? with
  | none =>
    refine wpAny_bind (tnext_end hh (h1.move k1.extBut D.i1z D.l1z) hx fun g2 e k2 he => ?_)
    obtain ⟨oe, hoe, hce⟩ := he
    have z2 : IsZip g2 z TI TO .ellipsis := k2 _ _ D.i1z.symm z1
    have hez : e ≠ z := fun q => by subst q; rw [z2] at hoe; cases hoe; simp at hce
    exact wpAny_setField_rec z2 (by simp) fun g3 _ k3 => hE g3 e (fun c o c1 _ c3 _ q => k3.extBut _ _ c1 (k2 _ _ c3 (k1.extBut _ _ c1 q))) ⟨oe, k3.extBut _ _ hez hoe, hce⟩
  | some x =>
    have hy : ys[i]? = none := by rcases hend with q | q; rw [hx] at q; cases q; exact q
    refine wpAny_bind (tnext_item (h1.move k1.extBut D.i1z D.l1z) D.l1i1 hx fun g2 p2 k2 => wpAny_pure ?_)
    have O2 : IsPair g2 TO a b := k2.extBut _ _ D.TOi1 (k1.extBut _ _ D.TOz hTO)
    refine wpAny_bind (wpAny_seqItems O2 rfl (wpAny_bind (wpAny_updateSeq_pair O2 fun g3 O3 k3 => ?_)))
    refine wpAny_bind (wpAny_letGo (wpAny_pure (wpAny_bind (wpAny_bind (wpAny_onRaise ?_)))))
    show wpAny _ _ (Builtin.SmallTypes.nextOf (.ref i2) >>= _) _ _ _
    refine wpAny_bind (tnext_end hh (((h2.move k1.extBut D.i2z D.l2z).move k2.extBut D.i12.symm D.l2i1).move k3.extBut D.TOi2.symm D.l2TO) hy fun g4 e k4 he => ?_)
    obtain ⟨oe, hoe, hce⟩ := he
    have z4 : IsZip g4 z TI TO .ellipsis := k4 _ _ D.i2z.symm (k3.extBut _ _ D.TOz.symm (k2.extBut _ _ D.i1z.symm z1))
    have hez : e ≠ z := fun q => by subst q; rw [z4] at hoe; cases hoe; simp at hce
    exact wpAny_setField_rec z4 (by simp) fun g5 _ k5 => hE g5 e (fun c o c1 c2 c3 c4 q => k5.extBut _ _ c1 (k4 _ _ c4 (k3.extBut _ _ c2 (k2.extBut _ _ c3 (k1.extBut _ _ c1 q))))) ⟨oe, k5.extBut _ _ hez hoe, hce⟩
theorem zipT_pyNext {z TI TO i1 i2 t1 t2 : Addr} {xs ys : Array Value} {i : Nat} {x y : Value} {Q : Option Value → Shared → Prop} (D : ZipApart z TI TO i1 i2 t1 t2) (Z : ZipAt z TI TO i1 i2 t1 t2 xs ys i .none s.heap) (hx : xs[i]? = some x) (hy : ys[i]? = some y)
    (hQ : ∀ h', ZipAt z TI TO i1 i2 t1 t2 xs ys (i + 1) (rawInt s.heap.objs.size) h' → IsPair h' s.heap.objs.size x y → h'.objs.size = s.heap.objs.size + 1 →
      (∀ c o, c ≠ z → c ≠ TO → c ≠ i1 → c ≠ i2 → s.heap.get? c = some o → h'.get? c = some o) → Q (some (.ref s.heap.objs.size)) { s with heap := h' }) : wpAny (model prog w) A (pyNext (.ref z)) Q E s := by
  have hT : s.TypeIs (.ref z) "zip" := ⟨_, Z.z, rfl⟩
  unfold pyNext
  exact wpAny_bind (wpAny_attempt (wpAny_callSpecial?_slot (name := Str.ofString "__next__") hT F.slot_zip_next (wpAny_call_entry F.slot_zip_next hT F.entry_zip_next
    (zipT_next D Z hx hy fun h' p1 p2 p3 p4 => wpAny_pure (hQ h' p1 p2 p3 p4)) (F.args_zip_next_1 _))))
theorem zipT_pyEnd {z TI TO i1 i2 t1 t2 : Addr} {xs ys : Array Value} {i : Nat} {Q : Option Value → Shared → Prop} (hh : A.handled = none) (D : ZipApart z TI TO i1 i2 t1 t2) (Z : ZipAt z TI TO i1 i2 t1 t2 xs ys i .none s.heap) (hend : xs[i]? = none ∨ ys[i]? = none)
    (hQ : ∀ h', (∀ c o, c ≠ z → c ≠ TO → c ≠ i1 → c ≠ i2 → s.heap.get? c = some o → h'.get? c = some o) → Q none { s with heap := h' }) : wpAny (model prog w) A (pyNext (.ref z)) Q E s := by
  have hT : s.TypeIs (.ref z) "zip" := ⟨_, Z.z, rfl⟩
  unfold pyNext
  refine wpAny_bind (wpAny_attempt (wpAny_callSpecial?_slot (name := Str.ofString "__next__") hT F.slot_zip_next (wpAny_call_entry F.slot_zip_next hT F.entry_zip_next
    (zipT_stop hh D Z hend fun h' e hk he => ?_) (F.args_zip_next_1 _))))
  obtain ⟨o, ho, hc⟩ := he
  exact wpAny_bind (wpAny_isInstance (T := "StopIteration") (b := true) ⟨o, ho, hc⟩ isSubtype_stop (wpAny_pure (hQ _ hk)))
noncomputable abbrev zh1 (h : Heap) (t1 : Addr) : Heap := h.push (tupIt t1)
noncomputable abbrev zh2 (h : Heap) (t1 t2 : Addr) : Heap := (zh1 h t1).push (tupIt t2)
noncomputable abbrev zh3 (h : Heap) (t1 t2 : Addr) : Heap := (zh2 h t1 t2).push { cls := .type "tuple", data := .seq #[.ref h.objs.size, .ref (zh1 h t1).objs.size] }
noncomputable abbrev zh4 (h : Heap) (t1 t2 : Addr) : Heap := (zh3 h t1 t2).push { cls := .type "tuple", data := .seq #[.none, .none] }
noncomputable abbrev zh5 (h : Heap) (t1 t2 : Addr) : Heap := (zh4 h t1 t2).push { cls := .type "zip", data := .fields #[.none, .bool false, .bool false, .ref (zh2 h t1 t2).objs.size, .ref (zh3 h t1 t2).objs.size] }
theorem zipT_new (t1 t2 : Addr) (xs ys : Array Value) :
    Meets (Builtin.«zip.__new__» ⟨[.type "zip", .ref t1, .ref t2], []⟩) (fun _ R s => s.heap.IsTuple t1 xs ∧ s.heap.IsTuple t2 ys ∧ R (.ok (.ret (.ref (zh4 s.heap t1 t2).objs.size))) { s with heap := zh5 s.heap t1 t2 }) :=
  .of_wp fun prog w A R s h => by
    obtain ⟨hp, g, d, tk, os⟩ := s; obtain ⟨ht1, ht2, h⟩ := h
    have hsub := sub_zip
    have T1 : Heap.IsTuple (Shared.heap ⟨hp, g, d, tk, os⟩) t1 xs := ht1
    have T2 : Heap.IsTuple (Shared.heap ⟨hp.push { cls := .type "tuple_iterator", data := .fields #[.ref t1, .int 0 0] }, g, d, tk, os⟩) t2 ys := Heap.IsTuple.push ht2 _
    wp_walk using wpAny_pyIter_tuple T1, wpAny_pyIter_tuple T2
    exact ⟨_, rfl, h⟩
theorem call_zipT {t1 t2 : Addr} {xs ys : Array Value} {Q : Value → Shared → Prop} (ht1 : s.heap.IsTuple t1 xs) (ht2 : s.heap.IsTuple t2 ys)
    (h : ∀ h', ZipAt (s.heap.objs.size + 4) (s.heap.objs.size + 2) (s.heap.objs.size + 3) s.heap.objs.size (s.heap.objs.size + 1) t1 t2 xs ys 0 .none h' → h'.objs.size = s.heap.objs.size + 5 →
      (∀ c o, s.heap.get? c = some o → h'.get? c = some o) → Q (.ref (s.heap.objs.size + 4)) { s with heap := h' }) : wpAny (model prog w) A (call (.type "zip") [.ref t1, .ref t2]) Q E s := by
  refine callType_new F.called_zip (by decide) (F.typeCall_zip_2 _ _) (F.newCall_zip_2 _ _) (fun obj => F.args_object_init_3 obj _ _) F.entry_zip_new (zipT_new t1 t2 xs ys) ⟨ht1, ht2, ?_⟩
  have z1 : (zh1 s.heap t1).objs.size = s.heap.objs.size + 1 := Heap.size_push ..
  have z2 : (zh2 s.heap t1 t2).objs.size = s.heap.objs.size + 2 := by rw [Heap.size_push, z1]
  have z3 : (zh3 s.heap t1 t2).objs.size = s.heap.objs.size + 3 := by rw [Heap.size_push, z2]
  have z4 : (zh4 s.heap t1 t2).objs.size = s.heap.objs.size + 4 := by rw [Heap.size_push, z3]
  have z5 : (zh5 s.heap t1 t2).objs.size = s.heap.objs.size + 5 := by rw [Heap.size_push, z4]
  have up : ∀ c o, s.heap.get? c = some o → (zh5 s.heap t1 t2).get? c = some o := fun c o q => Heap.get?_push_of_some _ (Heap.get?_push_of_some _ (Heap.get?_push_of_some _ (Heap.get?_push_of_some _ (Heap.get?_push_of_some _ q))))
  have g5 : (zh5 s.heap t1 t2).get? (zh4 s.heap t1 t2).objs.size = some _ := Heap.get?_push_size _ rfl
  have g4 : (zh5 s.heap t1 t2).get? (zh3 s.heap t1 t2).objs.size = some _ := Heap.get?_push_of_some _ (Heap.get?_push_size _ rfl)
  have g3 : (zh5 s.heap t1 t2).get? (zh2 s.heap t1 t2).objs.size = some _ := Heap.get?_push_of_some _ (Heap.get?_push_of_some _ (Heap.get?_push_size _ rfl))
  have g2 : (zh5 s.heap t1 t2).get? (zh1 s.heap t1).objs.size = some _ := Heap.get?_push_of_some _ (Heap.get?_push_of_some _ (Heap.get?_push_of_some _ (Heap.get?_push_size _ rfl)))
  have g1 : (zh5 s.heap t1 t2).get? s.heap.objs.size = some _ := Heap.get?_push_of_some _ (Heap.get?_push_of_some _ (Heap.get?_push_of_some _ (Heap.get?_push_of_some _ (Heap.get?_push_size _ rfl))))
  show _ ∧ _
  rw [z2, z3, z4] at g5
  rw [z1, z2] at g3
  rw [z3] at g4
  rw [z1] at g2
  rw [z4]
  have T1 : (zh5 s.heap t1 t2).IsTuple t1 xs := let ⟨o, ho, r⟩ := ht1; ⟨o, up _ _ ho, r⟩
  have T2 : (zh5 s.heap t1 t2).IsTuple t2 ys := let ⟨o, ho, r⟩ := ht2; ⟨o, up _ _ ho, r⟩
  exact ⟨⟨_, g5, rfl⟩, h _ ⟨g5, g3, ⟨_, _, g4⟩, ⟨⟨_, g1, rfl, rfl⟩, T1⟩, ⟨⟨_, g2, rfl, rfl⟩, T2⟩⟩ z5 up⟩
end
end L3
namespace L3
open PySem PyProof.Rows
section
variable {prog : Program} {w : World} {A : Around} {E : Value → Shared → Prop} {s : Shared}
end
end L3
namespace L3
open PySem
theorem bt_len : bootBuiltins "len" = some (.builtin "len") := by decide +kernel
theorem bt_tuple : bootBuiltins "tuple" = some (.type "tuple") := by decide +kernel
theorem bt_all : bootBuiltins "all" = some (.builtin "all") := by decide +kernel
theorem bt_isinstance : bootBuiltins "isinstance" = some (.builtin "isinstance") := by decide +kernel
theorem bt_max : bootBuiltins "max" = some (.builtin "max") := by decide +kernel
theorem bt_bool : bootBuiltins "bool" = some (.type "bool") := by decide +kernel
theorem bt_str : bootBuiltins "str" = some (.type "str") := by decide +kernel
theorem bt_int : bootBuiltins "int" = some (.type "int") := by decide +kernel
theorem bt_abs : bootBuiltins "abs" = some (.builtin "abs") := by decide +kernel
theorem bt_sum : bootBuiltins "sum" = some (.builtin "sum") := by decide +kernel
theorem bt_sorted : bootBuiltins "sorted" = some (.builtin "sorted") := by decide +kernel
theorem bt_dict : bootBuiltins "dict" = some (.type "dict") := by decide +kernel
end L3
set_option maxRecDepth 100000
namespace L2
open PySem PySem.Spec PyProof.Rows
section
variable {X : Cx} {pins : List (Addr × Obj)} {σ : St} {H : Hp} {s : Shared} {h' : Heap}
theorem Inv.turnLay {a : Addr} {o : HO} {t' : Nat} {ch : List Addr} (I : Inv X pins σ H s) (hf : ∀ b ∈ ch, FpOk X pins H b) (k : ∀ b u, b ∉ ch → s.heap.get? b = some u → h'.get? b = some u) (hp : s.heap.objs.size ≤ a)
    (new : ObjOk X.prog X.w (upd H a o) h' a o) : Inv X pins σ (upd H a o) { s with heap := h', toks := t' } := by
  have fa : H a = none := I.hok.fresh hp
  have nch : ∀ b u, H b = some u → b ∉ ch := fun b u e z => by rw [(hf b z).1] at e; cases e
  refine I.step (g' := s.gens) (d' := s.drawn) (ch := ch) (fun b hb => ?_) (fun b u _ _ hc e _ => k b u hc e) (fun b u _ _ hc e _ => ⟨u.slots, k b u hc e⟩) (fun b u hc e n => ?_) (fun b u hc e => ⟨u, k b u hc e⟩)
    (fun b xs e => ?_) (fun b ob u e => ?_) (fun b ps e => ?_) (fun m hm => ?_) (fun b u e => ?_) I.bare
  · obtain ⟨_, f1, _, f3, f4, f5⟩ := hf b hb
    exact ⟨f3, f1, f4, f5⟩
  · rw [upd_ne (Nat.ne_of_lt (Nat.lt_of_lt_of_le (Heap.lt_size e) hp))]; exact n
  · rw [upd_ne (ne_of_none e fa)]; exact e
  · rw [upd_ne (ne_of_none e fa)]; exact e
  · exact ⟨#[], by rw [upd_ne (ne_of_none e fa), e]; simp⟩
  · obtain ⟨ob, es, ep, ho, r⟩ := hm
    exact ⟨ob, es, ep, k _ ob (fun z => (hf _ z).2.1 rfl) ho, r⟩
  · by_cases hb : b = a
    · subst hb; rw [upd_same] at e; cases e; exact new
    · rw [upd_ne hb] at e
      refine (I.hok b u e).stay (fun c v hc q => k c v ?_ q) (fun c q => by rw [upd_ne (ne_of_none q fa)]; exact q) fun c xs q => by rw [upd_ne (ne_of_none q fa)]; exact q
      rcases hc with z | z
      · rw [z]; exact nch b u e
      · exact nch c _ z
theorem Inv.turnMany {t' : Nat} {ch : List Addr} (I : Inv X pins σ H s) (hf : ∀ b ∈ ch, FpOk X pins H b) (k : ∀ b u, b ∉ ch → s.heap.get? b = some u → h'.get? b = some u) : Inv X pins σ H { s with heap := h', toks := t' } := by
  have nch : ∀ b u, H b = some u → b ∉ ch := fun b u e z => by rw [(hf b z).1] at e; cases e
  refine I.step (g' := s.gens) (d' := s.drawn) (ch := ch) (fun b hb => ?_) (fun b u _ _ hc e _ => k b u hc e) (fun b u _ _ hc e _ => ⟨u.slots, k b u hc e⟩) (fun b u hc e n => n) (fun b u hc e => ⟨u, k b u hc e⟩)
    (fun b xs e => e) (fun b ob u e => e) (fun b ps e => ⟨#[], by rw [e]; simp⟩) (fun m hm => ?_) (fun b u e => ?_) I.bare
  · obtain ⟨_, f1, _, f3, f4, f5⟩ := hf b hb
    exact ⟨f3, f1, f4, f5⟩
  · obtain ⟨ob, es, ep, ho, r⟩ := hm
    exact ⟨ob, es, ep, k _ ob (fun z => (hf _ z).2.1 rfl) ho, r⟩
  · refine (I.hok b u e).stay (fun c v hc q => k c v ?_ q) (fun _ q => q) fun _ _ q => q
    rcases hc with z | z
    · rw [z]; exact nch b u e
    · exact nch c _ z
end
noncomputable def Ite (K : PySem.W.Frag) (a : Addr) : It :=
  ⟨fun i H => ∃ xs x, SqT K H a xs ∧ xs[i]? = some x, fun i H v H' => ∃ p x, H p = none ∧ v = .ref p ∧ H' = upd H p (.tup [.int i, x]) ∧ ∀ xs, SqT K H a xs → xs[i]? = some x, fun i H => ∃ xs, SqT K H a xs ∧ xs.length ≤ i⟩
noncomputable def Itz (K : PySem.W.Frag) (a b : Addr) : It :=
  ⟨fun i H => ∃ xs ys x y, SqT K H a xs ∧ SqT K H b ys ∧ xs[i]? = some x ∧ ys[i]? = some y,
   fun i H v H' => ∃ p x y, H p = none ∧ v = .ref p ∧ H' = upd H p (.tup [x, y]) ∧ (∀ xs, SqT K H a xs → xs[i]? = some x) ∧ ∀ ys, SqT K H b ys → ys[i]? = some y,
   fun i H => ∃ xs ys, SqT K H a xs ∧ SqT K H b ys ∧ (xs.length ≤ i ∨ ys.length ≤ i)⟩
theorem turn_enumT {P : Program} {w : World} {K : PySem.W.Frag} {elts : List Expr} {x1} {tp : Pos} {e it a : Addr} (hne : e ≠ it) (hae : a ≠ e) (hai : a ≠ it) :
    Turn P w K (.Tuple elts x1 tp) (Ite K a) [e, it] e (fun i h => (∃ old, IsEnum h e it i old) ∧ h.IsTupleIter it a i) where
  mem := by simp
  obj := fun i h st b hb => by
    obtain ⟨⟨old, q⟩, ⟨o, e1, c, d⟩⟩ := st
    rcases List.mem_cons.mp hb with z | z
    · subst z; exact ⟨_, q, fun v z => by have z' : Data.fields _ = Data.cell v := z; cases z'⟩
    · have z : b = it := by simpa using z
      subst z; exact ⟨o, e1, fun v z => by rw [d] at z; cases z⟩
  keep := fun i h h' ⟨⟨old, q⟩, r⟩ k => ⟨⟨old, k e (by simp) _ q⟩, r.at fun o z => k it (by simp) o z⟩
  item := by
    intro X hP hw hK hc i pins s σ H E I hf st hg
    subst hP hw hK
    obtain ⟨⟨old, he⟩, hit⟩ := st
    obtain ⟨xs, x, hq, hx⟩ := hg
    obtain ⟨its, rv, p, hz⟩ := I.tuple hq
    obtain ⟨u, hu, ru⟩ := rv.get hx
    refine L3.enumT_pyNext he ⟨hit, p⟩ (x := u) (by simpa using hu) hne hae hai fun h' o1 a1 tp1 sz k1 => ⟨_, rfl, ?_⟩
    refine wpAny_letOwnedTupleGo_enum o1 fun h2 e2 k2 => ?_
    have hT : s.heap.objs.size ≠ e := Nat.ne_of_gt (Heap.lt_size he)
    have kk : ∀ b v, b ∉ [e, it] → s.heap.get? b = some v → h2.get? b = some v := fun b v hb q => by
      have n1 : b ≠ e := fun z => hb (by simp [z])
      have n2 : b ≠ it := fun z => hb (by simp [z])
      exact (k2.2 b n1).trans (k1 b v n1 n2 q)
    have new : ObjOk X.prog X.w (upd H s.heap.objs.size (.tup [.int i, x])) h2 s.heap.objs.size (.tup [.int i, x]) :=
      ⟨by show 2 ≤ sizeLine; decide, [.int i s.toks, u], .cons ⟨_, rfl⟩ (.cons ru .nil), ⟨_, (k2.2 _ hT).trans tp1, rfl, _, rfl⟩, _, (k2.2 _ hT).trans tp1, rfl⟩
    have IL : Inv X pins σ (upd H s.heap.objs.size (.tup [.int i, x])) { s with heap := h2, toks := s.toks + 1 } := I.turnLay (t' := s.toks + 1) (ch := [e, it]) hf kk (Nat.le_refl _) new
    refine ⟨.ref s.heap.objs.size, _, IL, rfl, ⟨_, x, I.hok.fresh (Nat.le_refl _), rfl, rfl, fun ys hy => by rw [I.tuple_inj hy hq]; exact hx⟩, ⟨⟨u, ?_⟩, a1.iter.at fun o z => (k2.2 it hne.symm).trans z⟩, fun b hb => ?_⟩
    · have e3 : IsEnum h2 e it ((i : Int) + 1) u := e2
      rw [show (((i + 1 : Nat) : Int)) = (i : Int) + 1 by lia]
      exact e3
    · rw [upd_ne (Nat.ne_of_lt ?_)]
      · exact (hf b hb).1
      · rcases List.mem_cons.mp hb with z | z
        · rw [z]; exact Heap.lt_size he
        · have z : b = it := by simpa using z
          obtain ⟨o, q, _⟩ := hit
          rw [z]; exact Heap.lt_size q
  done := by
    intro X hP hw hK hc i pins s σ H E I hf st hg
    subst hP hw hK
    obtain ⟨⟨old, he⟩, hit⟩ := st
    obtain ⟨xs, hq, hx⟩ := hg
    obtain ⟨its, rv, p, hz⟩ := I.tuple hq
    have hl := rv.length
    refine L3.enumT_pyEnd (I.ok.hd hc) he ⟨hit, p⟩ (by simp; lia) fun h' k => ⟨rfl, I.turnMany (t' := s.toks) (ch := [e, it]) hf fun b v hb q => k b v (fun z => hb (by simp [z])) q⟩
  self := fun _ _ _ _ _ ⟨⟨_, q⟩, _⟩ h => wpAny_pyIter_enum q h
theorem turn_zipT {P : Program} {w : World} {K : PySem.W.Frag} {elts : List Expr} {x1} {tp : Pos} {z TI TO i1 i2 a b : Addr} (D : ZipApart z TI TO i1 i2 a b) :
    Turn P w K (.Tuple elts x1 tp) (Itz K a b) [z, TI, TO, i1, i2] z (fun i h => IsZip h z TI TO .none ∧ IsPair h TI (.ref i1) (.ref i2) ∧ (∃ u v, IsPair h TO u v) ∧ h.IsTupleIter i1 a i ∧ h.IsTupleIter i2 b i) where
  mem := by simp
  obj := fun i h st c hc => by
    obtain ⟨q1, q2, ⟨u, v, q3⟩, ⟨o4, e4, c4, d4⟩, ⟨o5, e5, c5, d5⟩⟩ := st
    simp only [List.mem_cons, List.not_mem_nil, or_false] at hc
    rcases hc with rfl | rfl | rfl | rfl | rfl
    · exact ⟨_, q1, fun v z => by have z' : Data.fields _ = Data.cell v := z; cases z'⟩
    · exact ⟨_, q2, fun v z => by have z' : Data.seq _ _ = Data.cell v := z; cases z'⟩
    · exact ⟨_, q3, fun v z => by have z' : Data.seq _ _ = Data.cell v := z; cases z'⟩
    · exact ⟨o4, e4, fun v z => by rw [d4] at z; cases z⟩
    · exact ⟨o5, e5, fun v z => by rw [d5] at z; cases z⟩
  keep := fun i h h' ⟨q1, q2, ⟨u, v, q3⟩, r4, r5⟩ k => ⟨k _ (by simp) _ q1, k _ (by simp) _ q2, ⟨u, v, k _ (by simp) _ q3⟩, r4.at fun o q => k _ (by simp) o q, r5.at fun o q => k _ (by simp) o q⟩
  item := by
    intro X hP hw hK hc i pins s σ H E I hf st hg
    subst hP hw hK
    have st0 := st
    obtain ⟨q1, q2, q3, r4, r5⟩ := st
    obtain ⟨xs, ys, x, y, hq, hq', hx, hy⟩ := hg
    obtain ⟨its, rv, p, _⟩ := I.tuple hq
    obtain ⟨its', rv', p', _⟩ := I.tuple hq'
    obtain ⟨u, hu, ru⟩ := rv.get hx
    obtain ⟨v, hv, rw'⟩ := rv'.get hy
    refine L3.zipT_pyNext D ⟨q1, q2, q3, ⟨r4, p⟩, ⟨r5, p'⟩⟩ (x := u) (y := v) (by simpa using hu) (by simpa using hv) fun h' Z tp1 sz k1 => ⟨_, rfl, ?_⟩
    refine wpAny_letOwnedTupleGo_zip Z.z fun h2 z2 k2 => ?_
    have lt : ∀ c ∈ [z, TI, TO, i1, i2], c < s.heap.objs.size := fun c hc => by
      obtain ⟨w1, w2, ⟨_, _, w3⟩, ⟨_, w4, _⟩, ⟨_, w5, _⟩⟩ := st0
      simp only [List.mem_cons, List.not_mem_nil, or_false] at hc
      rcases hc with rfl | rfl | rfl | rfl | rfl
      · exact Heap.lt_size w1
      · exact Heap.lt_size w2
      · exact Heap.lt_size w3
      · exact Heap.lt_size w4
      · exact Heap.lt_size w5
    have hT : s.heap.objs.size ≠ z := Nat.ne_of_gt (lt z (by simp))
    have kk : ∀ c w', c ∉ [z, TI, TO, i1, i2] → s.heap.get? c = some w' → h2.get? c = some w' := fun c w' hc q => by
      have n1 : c ≠ z := fun e => hc (by simp [e])
      exact (k2.2 c n1).trans (k1 c w' n1 (fun e => hc (by simp [e])) (fun e => hc (by simp [e])) (fun e => hc (by simp [e])) q)
    have new : ObjOk X.prog X.w (upd H s.heap.objs.size (.tup [x, y])) h2 s.heap.objs.size (.tup [x, y]) :=
      ⟨by show 2 ≤ sizeLine; decide, [u, v], .cons ru (.cons rw' .nil), ⟨_, (k2.2 _ hT).trans tp1, rfl, _, rfl⟩, _, (k2.2 _ hT).trans tp1, rfl⟩
    have IL : Inv X pins σ (upd H s.heap.objs.size (.tup [x, y])) { s with heap := h2, toks := s.toks } := I.turnLay (t' := s.toks) (ch := [z, TI, TO, i1, i2]) hf kk (Nat.le_refl _) new
    refine ⟨.ref s.heap.objs.size, _, IL, rfl,
      ⟨_, x, y, I.hok.fresh (Nat.le_refl _), rfl, rfl, fun ys hy' => by rw [I.tuple_inj hy' hq]; exact hx, fun ys hy' => by rw [I.tuple_inj hy' hq']; exact hy⟩,
      ⟨z2, (k2.2 _ D.TIz).trans Z.TI, ?_, Z.one.iter.at fun o q => (k2.2 _ D.i1z).trans q, Z.two.iter.at fun o q => (k2.2 _ D.i2z).trans q⟩, fun c hc => ?_⟩
    · obtain ⟨a', b', q⟩ := Z.TO
      exact ⟨a', b', (k2.2 _ D.TOz).trans q⟩
    · rw [upd_ne (Nat.ne_of_lt (lt c hc))]; exact (hf c hc).1
  done := by
    intro X hP hw hK hc i pins s σ H E I hf st hg
    subst hP hw hK
    obtain ⟨q1, q2, q3, r4, r5⟩ := st
    obtain ⟨xs, ys, hq, hq', hx⟩ := hg
    obtain ⟨its, rv, p, _⟩ := I.tuple hq
    obtain ⟨its', rv', p', _⟩ := I.tuple hq'
    have hl := rv.length
    have hl' := rv'.length
    refine L3.zipT_pyEnd (I.ok.hd hc) D ⟨q1, q2, q3, ⟨r4, p⟩, ⟨r5, p'⟩⟩ ?_ fun h' k => ⟨rfl, I.turnMany (t' := s.toks) (ch := [z, TI, TO, i1, i2]) hf fun c v hc q =>
      k c v (fun e => hc (by simp [e])) (fun e => hc (by simp [e])) (fun e => hc (by simp [e])) (fun e => hc (by simp [e])) q⟩
    rcases hx with hx | hx
    · exact .inl (by simp; lia)
    · exact .inr (by simp; lia)
  self := fun _ _ _ _ _ ⟨q, _⟩ h => wpAny_pyIter_zip q h
section
variable {X : Cx}
noncomputable def iEnumT (K : PySem.W.Frag) (ta : TA) : TI := fun σ H R => ta σ H fun vs H1 => ∃ a, vs = [.ref a] ∧ (∃ xs, SqT K H1 a xs) ∧ R (Ite K a) H1
noncomputable def iZipT (K : PySem.W.Frag) (ta : TA) : TI := fun σ H R => ta σ H fun vs H1 => ∃ a b, vs = [.ref a, .ref b] ∧ (∃ xs, SqT K H1 a xs) ∧ (∃ ys, SqT K H1 b ys) ∧ R (Itz K a b) H1
theorem pi_enumT {a : Expr} {ta : TA} {p pos tp : Pos} {elts : List Expr} {x1} (hg : Gl X "enumerate") (hm : X.mg "enumerate" = none) (ha : PA X [a] ta) (hs : starEach [a] X.env = [(false, eval a X.env)] := by rfl) :
    PI X (.Tuple elts x1 tp) (.Call (.Name "enumerate" p) [a] [] pos) (iEnumT X.K ta) := by
  intro pins s σ H R I h
  refine Call_ (ld_blt I hg hm boot_enumerate (PyProof.Rows.callWith_type1 (thn (ha pos pins s σ H _ I h) fun us s1 ⟨vs, H1, I1, r1, q1⟩ => ?_) hs rfl))
  obtain ⟨t, e, ⟨xs, hq⟩, q⟩ := q1
  subst e
  cases r1 with
  | cons r rr =>
    cases rr
    cases r
    obtain ⟨its, rv, pt, hz⟩ := I1.tuple hq
    have pt' : s1.heap.IsTuple t its.toArray := pt
    have tlt : t < s1.heap.objs.size := by obtain ⟨o, ho, _⟩ := pt'; exact Heap.lt_size ho
    refine L3.call_enumT pt' fun h' he a0 sz k => ?_
    have I2 : Inv X pins σ H1 { s1 with heap := h' } := I1.kept (t' := s1.toks) k
    refine wpAny_pyIter_enum (it := s1.heap.objs.size) (i := 0) (old := .none) he ⟨_, [s1.heap.objs.size + 1, s1.heap.objs.size], _, _, H1, rfl, I2, turn_enumT (a := t) (Nat.ne_of_gt (Nat.lt_succ_self _)) (Nat.ne_of_lt (Nat.lt_succ_of_lt tlt)) (Nat.ne_of_lt tlt), ⟨⟨_, he⟩, a0.iter⟩, fun b hb => ?_, q⟩
    have hb' : s1.heap.objs.size ≤ b := by
      simp only [List.mem_cons, List.not_mem_nil, or_false] at hb
      rcases hb with rfl | rfl
      · exact Nat.le_succ _
      · exact Nat.le_refl _
    exact I1.fpOk hb' (I1.hok.fresh hb')
theorem pi_zipT {a b : Expr} {ta : TA} {p pos tp : Pos} {elts : List Expr} {x1} (hg : Gl X "zip") (hm : X.mg "zip" = none) (ha : PA X [a, b] ta)
    (hs : starEach [a, b] X.env = [(false, eval a X.env), (false, eval b X.env)] := by rfl) (hs2 : starEach [b] X.env = [(false, eval b X.env)] := by rfl) : PI X (.Tuple elts x1 tp) (.Call (.Name "zip" p) [a, b] [] pos) (iZipT X.K ta) := by
  intro pins s σ H R I h
  refine Call_ (ld_blt I hg hm boot_zip (PyProof.Rows.callWith_type1 (thn (ha pos pins s σ H _ I h) fun us s1 ⟨vs, H1, I1, r1, q1⟩ => ?_) (by rw [hs, hs2]) (by rw [hs2]; rfl)))
  obtain ⟨t, t2, e, ⟨xs, hq⟩, ⟨ys, hq'⟩, q⟩ := q1
  subst e
  cases r1 with
  | cons r rr =>
    cases rr with
    | cons r' rr =>
      cases rr
      cases r
      cases r'
      obtain ⟨its, rv, pt, hz⟩ := I1.tuple hq
      obtain ⟨its', rv', pt', hz'⟩ := I1.tuple hq'
      have T1 : s1.heap.IsTuple t its.toArray := pt
      have T2 : s1.heap.IsTuple t2 its'.toArray := pt'
      have l1 : t < s1.heap.objs.size := by obtain ⟨o, ho, _⟩ := T1; exact Heap.lt_size ho
      have l2 : t2 < s1.heap.objs.size := by obtain ⟨o, ho, _⟩ := T2; exact Heap.lt_size ho
      refine L3.call_zipT T1 T2 fun h' Z sz k => ?_
      have I2 : Inv X pins σ H1 { s1 with heap := h' } := I1.kept (t' := s1.toks) k
      have D : ZipApart (s1.heap.objs.size + 4) (s1.heap.objs.size + 2) (s1.heap.objs.size + 3) s1.heap.objs.size (s1.heap.objs.size + 1) t t2 := PyProof.Rows.zipApart_new l1 l2
      refine wpAny_pyIter_zip Z.z ⟨_, [s1.heap.objs.size + 4, s1.heap.objs.size + 2, s1.heap.objs.size + 3, s1.heap.objs.size, s1.heap.objs.size + 1], _, _, H1, rfl, I2, turn_zipT D, ⟨Z.z, Z.TI, Z.TO, Z.one.iter, Z.two.iter⟩, fun c hc => ?_, q⟩
      have hc' : s1.heap.objs.size ≤ c := by
        simp only [List.mem_cons, List.not_mem_nil, or_false] at hc
        rcases hc with rfl | rfl | rfl | rfl | rfl <;> first | exact Nat.le_refl _ | exact Nat.le_add_right _ _
      exact I1.fpOk hc' (I1.hok.fresh hc')
end
section
variable {X : Cx}
noncomputable def Cx.comp (X : Cx) (scope : Scope) (N' : List Str) (C : Addr) (fp : List Addr) (pins : List (Addr × Obj)) (s₂ : Shared) (H₂ : Hp) : Cx :=
  { X with N := N', s₀ := s₂, H₀ := H₂, env := compEnvC scope (L3.closL X.env.cells scope.names []) C X.env, outer := X.stack, ex := fp, fn := fun _ => false, pn := X.pn ++ pins, xe := fun _ _ => False }
theorem comp_look {scope : Scope} {x : Str} {c : Addr} (h : (L3.closL X.env.cells scope.names []).lookup x = some c) : X.env.cells.lookup x = some c :=
  L3.closL_lookup (cs := []) (fun _ e => by simp at e) h
variable {scope : Scope} {N' : List Str} {sh : List Nat} {pins : List (Addr × Obj)} {σ : St} {H : Hp} {s : Shared} {C : Addr} {fp : List Addr}
theorem comp_free (cp : L3.CompParts X.env.scope scope X.N N' sh) {x : Str} (h : (relabel scope X.env).names.lookup x = some .cell ∨ (relabel scope X.env).names.lookup x = some .free) : (x, NameKind.free) ∈ scope.names ∧ X.env.kindOf x = some .cell := by
  have q : (x, NameKind.free) ∈ scope.names := by
    rcases h with h | h
    · obtain ⟨k0, h0, h1⟩ := L3.relab_inv h
      rcases h1 with h1 | ⟨h1, _⟩
      · subst h1; exact absurd rfl (cp.cell _ (L3.mem_of_look h0))
      · subst h1; exact L3.mem_of_look h0
    · obtain ⟨k0, h0, h1⟩ := L3.relab_inv h
      rcases h1 with h1 | ⟨_, h1⟩
      · subst h1; exact L3.mem_of_look h0
      · cases h1
  exact ⟨q, cp.free _ q rfl⟩
theorem comp_ok (I : Inv X pins σ H s) (cp : L3.CompParts X.env.scope scope X.N N' sh) (hC : s.heap.objs.size ≤ C) (hf : ∀ b ∈ fp, FpOk X pins H b) (hlt : ∀ b ∈ fp, b < s.heap.objs.size) : (X.comp scope N' C fp pins s H).Ok := by
  refine ⟨I.ok.mod, cp.kind, I.ok.glob, I.ok.blt, hC, fun x y c h1 h2 => I.ok.inj x y c (comp_look h1) (comp_look h2), fun x hx => ?_, fun x c z _ => ?_, I.ok.hd, I.ok.frames, .inl rfl, fun b hb => ⟨?_, fun x c e => ?_⟩, I.bs, Nat.le_trans I.ok.bsz I.sz, fun b o e hb => ?_, fun b hb z => ?_, I.stack, I.stkFree⟩
  · obtain ⟨q, kq⟩ := comp_free cp hx
    obtain ⟨d, hd⟩ := I.ok.has x (.inl kq)
    exact L3.closL_has hd q
  · exact absurd (show false = true from z) Bool.false_ne_true
  · exact Nat.ne_of_lt (Nat.lt_of_lt_of_le (hlt b hb) hC)
  · exact (hf b hb).2.2.2.2.1 x c (comp_look e)
  · rcases (hf b hb).2.2.2.1 with z | z
    · exact I.ok.noex b o e z
    · exact absurd (Nat.lt_of_lt_of_le (Heap.lt_size e) (Nat.le_trans I.ok.bsz z)) (Nat.lt_irrefl _)
  · rcases List.mem_cons.mp (I.stkSub b z) with e | e
    · exact (hf b hb).2.1 e
    · exact (hf b hb).2.2.1 e
theorem comp_in (I : Inv X pins σ H s) (cp : L3.CompParts X.env.scope scope X.N N' sh) {more : Nat} (hm : N'.length = X.N.length + more) (hC : s.heap.objs.size ≤ C) (hf : ∀ b ∈ fp, FpOk X pins H b) (hlt : ∀ b ∈ fp, b < s.heap.objs.size)
    {h1 : Heap} {t : Nat} {m : Str → Option Value} (k : ∀ b o, s.heap.get? b = some o → h1.get? b = some o) (hn : h1.Ns C m) : Inv (X.comp scope N' C fp pins s H) [] (L3.blank sh σ ++ List.replicate more none) H { s with heap := h1, toks := t } := by
  have neC : ∀ b o, s.heap.get? b = some o → b ≠ C := fun b o e => Nat.ne_of_lt (Nat.lt_of_lt_of_le (Heap.lt_size e) hC)
  have lenσ : σ.length = X.N.length := I.len
  refine ⟨comp_ok I cp hC hf hlt, rfl, I.bare, Un.kept k, ⟨m, hn, fun i x v e1 e2 e3 => ?_⟩, fun x c e => ?_, I.hok.fresh hC, fun x c e => I.freeC x c (comp_look e), fun p hp => ?_, I.hok.kept k, ?_⟩
  · have hi : i < (L3.blank sh σ).length := by
      by_cases hi : i < (L3.blank sh σ).length
      · exact hi
      · rw [List.getElem?_append_right (Nat.le_of_not_lt hi), List.getElem?_replicate] at e2
        split at e2 <;> cases e2
    rw [List.getElem?_append_left hi] at e2
    obtain ⟨h1', h2'⟩ := L3.blank_get e2
    rw [L3.blank_length, lenσ] at hi
    have eN : X.N[i]? = some x := by
      have q : (N'.take X.N.length)[i]? = some x := by rw [List.getElem?_take_of_lt hi]; exact e1
      rw [cp.pre] at q; exact q
    have e3' : (relabel scope X.env).names.lookup x = some .local ∨ (relabel scope X.env).names.lookup x = some .cell ∨ (relabel scope X.env).names.lookup x = some .free := e3
    rcases e3' with z | z
    · obtain ⟨k0, h0, hk⟩ := L3.relab_inv z
      have : k0 = .local := by
        rcases hk with q | ⟨_, q⟩
        · exact q.symm
        · cases q
      subst this
      exact absurd (cp.shad i x eN h0) h1'
    · obtain ⟨q, kq⟩ := comp_free cp z
      obtain ⟨m0, _, hl⟩ := I.loc
      obtain ⟨u, ru, lu⟩ := hl i x v eN h2' (.inr (.inl kq))
      rcases lu with ⟨kl, _⟩ | ⟨_, c, hc, ic⟩
      · rw [kq] at kl; cases kl
      · obtain ⟨c', hc'⟩ := L3.closL_has (cs := []) hc q
        have := comp_look (X := X) hc'
        rw [hc] at this; cases this
        exact ⟨u, ru, .inr ⟨z, c, hc', ic.keeps k⟩⟩
  · obtain ⟨v, z⟩ := I.cell x c (comp_look e)
    exact ⟨v, z.keeps k⟩
  · have hp' : p ∈ X.pn ++ pins := by simpa [Cx.comp] using hp
    obtain ⟨e, n, ne, nf, d⟩ := I.pin p hp'
    refine ⟨k _ _ e, n, neC _ _ e, fun z => ?_, d⟩
    rcases List.mem_cons.mp (I.stkSub p.1 z) with q | q
    · exact ne q
    · exact nf q
  · show (L3.blank sh σ ++ List.replicate more none).length = N'.length
    rw [List.length_append, L3.blank_length, List.length_replicate, lenσ, hm]
theorem comp_out {D : Addr} {n : Nat} {acc : List V} {ys : Array Value} {pl : List (Addr × Obj)} {σ4 : St} {H4 : Hp} {s4 : Shared} {h' : Heap} (I : Inv X pins σ H s) (hC : s.heap.objs.size ≤ C) (hf : ∀ b ∈ fp, FpOk X pins H b)
    (I4 : Inv (X.comp scope N' C fp pins s H) pl σ4 H4 s4) (hD : s.heap.objs.size ≤ D) (hDC : D ≠ C) (gD : s4.heap.get? D = some { cls := .type "list", data := .seq ys n }) (va : Vals acc ys.toList) (fD : H4 D = none) (hl : acc.length ≤ sizeLine)
    (sb : Heap.SameBut C s4.heap h') : Inv X pins σ (upd H4 D (.lst acc)) { s4 with heap := h' } := by
  have B : Un (frs X.stack) fp H H4 s.heap s4.heap := I4.base
  have fC : H4 C = none := I4.free
  have lo : ∀ b o, s.heap.get? b = some o → b ≠ C ∧ b ≠ D := fun b o e => ⟨Nat.ne_of_lt (Nat.lt_of_lt_of_le (Heap.lt_size e) hC), Nat.ne_of_lt (Nat.lt_of_lt_of_le (Heap.lt_size e) hD)⟩
  have u : Un (frs X.stack) fp H (upd H4 D (.lst acc)) s.heap h' := by
    refine ⟨fun b o e n hb hx => (sb.2 b (lo b o e).1).trans (B.keep b o e n hb hx), fun b o e n hb hx => ?_, fun b o e n hx => by rw [upd_ne (lo b o e).2]; exact B.free b o e n hx, fun b o e hx => ?_,
      fun b xs e => ?_, fun b o v e => ?_, fun b ps e => ?_⟩
    · obtain ⟨sl, q⟩ := B.slot b o e n hb hx
      exact ⟨sl, (sb.2 b (lo b o e).1).trans q⟩
    · obtain ⟨o', q⟩ := B.there b o e hx
      exact ⟨o', (sb.2 b (lo b o e).1).trans q⟩
    · have q := B.tups b xs e
      rw [upd_ne (ne_of_none q fD)]; exact q
    · have q := B.frzs b o v e
      rw [upd_ne (ne_of_none q fD)]; exact q
    · obtain ⟨more, q⟩ := B.tbls b ps e
      exact ⟨more, by rw [upd_ne (ne_of_none q fD)]; exact q⟩
  have hok : HOk X.prog X.w (upd H4 D (.lst acc)) h' := fun b v e => by
    by_cases hb : b = D
    · subst hb
      rw [upd_same] at e; cases e
      exact ⟨hl, ys.toList, n, va, by rw [sb.2 _ hDC, gD]⟩
    · rw [upd_ne hb] at e
      refine (show ObjOk X.prog X.w H4 s4.heap b v from I4.hok b v e).stay (fun c w' hc q => (sb.2 c ?_).trans q) (fun c q => by rw [upd_ne (ne_of_none q fD)]; exact q) fun c xs q => by rw [upd_ne (ne_of_none q fD)]; exact q
      rcases hc with z | z
      · rw [z]; exact ne_of_none e fC
      · exact ne_of_none z fC
  exact I.call' (s' := { s4 with heap := h' }) (ch := fp) (show s4.os = s.os from I4.os) u hok I4.bare fun b hb => ⟨(hf b hb).2.2.2.1, (hf b hb).2.1, (hf b hb).2.2.2.2.1, (hf b hb).2.2.2.2.2⟩
end
noncomputable def PIf (X : Cx) (ifs : List Expr) (tt : TT) : Prop :=
  ∀ (pins : List (Addr × Obj)) (s : Shared) (σ : St) (H : Hp) (Q : Bool → Hp → Prop), Inv X pins σ H s → tt σ H Q → wpAny (model X.prog X.w) X.A (L3.testsOf ifs X.env) (TP X pins σ Q) X.xe s
theorem pif_nil {X : Cx} : PIf X [] (fun _ H Q => Q true H) := fun _ _ _ H _ I h => wpAny_tests_nil ⟨H, I, h⟩
theorem pif_one {X : Cx} {c : Expr} {t : TT} (h : PT X c t) : PIf X [c] t := fun pins s σ H Q I q => wpAny_tests_one (h pins s σ H Q I q)
noncomputable def compW (J : It) (g : TG) (tt : TT) (te : TE) (σ : St) (H : Hp) (Q : VK) : Prop := ∃ W : Nat → Nat → List V → St → Hp → Prop, (∃ m, W 0 m [] σ H) ∧ ∀ i m acc σ' H', W i m acc σ' H' →
  (J.stop i H' ∧ acc.length ≤ sizeLine ∧ ∀ D, H' D = none → Q (.ref D) (upd H' D (.lst acc))) ∨
  (J.go i H' ∧ acc.length < sizeLine ∧ ∃ N : List V → St → Hp → Prop, (∀ acc' σ2 H2, N acc' σ2 H2 → ∃ m', m' < m ∧ W (i + 1) m' acc' σ2 H2) ∧
    ∀ x H2, J.yld i H' x H2 → g x σ' H2 fun σ2 H3 => tt σ2 H3 fun b H4 => if b = true then te σ2 H4 fun y H5 => N (acc ++ [y]) σ2 H5 else N acc σ2 H4)
noncomputable def tComp (wi : TI) (g : TG) (tt : TT) (te : TE) (sh : List Nat) (more : Nat) : TE := fun σ H Q => wi σ H fun J H1 => compW J g tt te (L3.blank sh σ ++ List.replicate more none) H1 Q
theorem comp_any {X : Cx} {elt tg iter : Expr} {ifs : List Expr} {scope : Scope} {pos pos' : Pos} {wi : TI} {g : TG} {tt : TT} {te : TE} {sh : List Nat} {N' : List Str} {more : Nat} (hcalm : X.calm = true) (hi : PI X tg iter wi)
    (hg : ∀ C fp pins s H, PG (X.comp scope N' C fp pins s H) tg g) (ht : ∀ C fp pins s H, PIf (X.comp scope N' C fp pins s H) ifs tt) (he : ∀ C fp pins s H, PE (X.comp scope N' C fp pins s H) elt te)
    (hc : L3.compOk X.env.scope scope X.N N' sh = true) (hm : N'.length = X.N.length + more) (hs : ∀ x, foldedSetIterable iter X.env x = pure x) {use : Option (Value → Sem Unit)} {Qv : Value → Shared → Prop}
    {pins : List (Addr × Obj)} {s : Shared} {σ : St} {H : Hp} {Q : VK} (I : Inv X pins σ H s) (h : tComp wi g tt te sh more σ H Q)
    (fin : ∀ (D C : Addr) (s2 : Shared) (H2 : Hp) (fp : List Addr) (pl : List (Addr × Obj)) (σ4 : St) (H4 : Hp) (s4 : Shared) (n : Nat) (ys : Array Value) (acc : List V), Inv X pins σ H2 s2 → (∀ b ∈ fp, FpOk X pins H2 b) → s2.heap.objs.size ≤ C → s2.heap.objs.size ≤ D → D ≠ C →
      Inv (X.comp scope N' C fp pins s2 H2) pl σ4 H4 s4 → s4.heap.get? D = some { cls := .type "list", data := .seq ys n } → Vals acc ys.toList → H4 D = none → acc.length ≤ sizeLine → Q (.ref D) (upd H4 D (.lst acc)) → compPost (model X.prog X.w) X.A X.xe use Qv (.ref D) C (.ok .next) s4) :
    wpAny (model X.prog X.w) X.A (comprehension (.ListComp elt [⟨tg, iter, ifs, 0⟩] scope pos) scope X.env pos' (newList []) false (eval iter X.env) use) Qv X.xe s := by
  have cp := L3.compOk_parts hc
  refine wpAny_comprehension_free (cl := L3.closL X.env.cells scope.names []) rfl hs (L3.closureFor_eq fun x hx hk => ?_) cp.kind cp.loc ?_
  · obtain ⟨c, q⟩ := I.ok.has x.1 (.inl (cp.free x hx hk))
    rw [q]; rfl
  show wpAny _ X.A (eval iter X.env) _ _ s
  refine thn (hi pins s σ H _ I h) fun v s1 h1 => thn h1 fun itv s2 h2 => ?_
  obtain ⟨it, fp, tn, J, H2, e, I2, T, st2, f2, W, ⟨m0, w0⟩, turn⟩ := h2
  subst e
  have hlt : ∀ b ∈ fp, b < s2.heap.objs.size := fun b hb => by
    obtain ⟨o, q, _⟩ := T.obj 0 _ st2 b hb
    exact Heap.lt_size q
  refine wpAny_newObj_type (wpAny_newFunctionEnv cp.cell (by intro y hy; simp at hy) (fun h₁ hns hsb => ?_) cp.kind)
  dsimp only at hns hsb ⊢
  generalize hG : s2.heap.push { cls := .type "list", dict := none, data := .seq ([] : List Value).toArray } = G at hns hsb ⊢
  have hz : G.objs.size = s2.heap.objs.size + 1 := by rw [← hG, Heap.size_push]
  have hC : s2.heap.objs.size ≤ G.objs.size := by lia
  have hDC : s2.heap.objs.size ≠ G.objs.size := by lia
  have old : ∀ b o, s2.heap.get? b = some o → h₁.get? b = some o := fun b o q => by
    have hb := Heap.lt_size q
    exact hsb.extBut b o (Nat.ne_of_lt (Nat.lt_of_lt_of_le hb hC)) (Heap.get?_push_of_some _ (hG ▸ Heap.get?_push_of_some _ q))
  have acc0 : h₁.PlainList s2.heap.objs.size #[] := ⟨_, hsb.extBut _ _ hDC (Heap.get?_push_of_some _ (hG ▸ Heap.get?_push_size _ rfl))⟩
  have nfD : s2.heap.objs.size ∉ frs X.stack := fun z => by
    obtain ⟨_, o, ho, _⟩ := I2.stack.mem z
    exact absurd (Heap.lt_size ho) (Nat.lt_irrefl _)
  have fpD : ∀ b ∈ fp, s2.heap.objs.size ≠ b := fun b hb => Nat.ne_of_gt (hlt b hb)
  have cD : ∀ x c, (L3.closL X.env.cells scope.names []).lookup x = some c → c ≠ s2.heap.objs.size := fun x c q z => by
    obtain ⟨w', z'⟩ := I2.cell x c (comp_look q)
    rw [z] at z'
    exact absurd z'.lt (Nat.lt_irrefl _)
  have pnD : ∀ p ∈ X.pn ++ pins, p.1 ≠ s2.heap.objs.size := fun p hp z => by
    have q := (I2.pin p hp).1
    rw [z] at q
    exact absurd (Heap.lt_size q) (Nat.lt_irrefl _)
  have okX : (X.comp scope N' G.objs.size fp pins s2 H2).Ok := comp_ok I2 cp hC f2 hlt
  -- the iterator's records, seen from the block
  have stat : ∀ {o : Obj} {H' : Hp}, (∀ b ∈ fp, H' b = none) → ∀ b ∈ fp, FpOk (X.comp scope N' G.objs.size fp pins s2 H2) [(s2.heap.objs.size, o)] H' b := fun {o H'} hn b hb => by
    refine ⟨hn b hb, (okX.exf b hb).1, okX.exfs b hb, .inl hb, (okX.exf b hb).2, fun p hp => ?_⟩
    rcases List.mem_append.mp hp with z | z
    · exact (f2 b hb).2.2.2.2.2 p z
    · have : p = (s2.heap.objs.size, o) := by simpa using z
      rw [this]; exact fpD b hb
  -- the list so far, held as it is
  have hold : ∀ {σ' : St} {H' : Hp} {s' : Shared} {o : Obj}, Inv (X.comp scope N' G.objs.size fp pins s2 H2) [] σ' H' s' → s'.heap.get? s2.heap.objs.size = some o → H' s2.heap.objs.size = none → (∀ v, o.data ≠ .cell v) →
      Inv (X.comp scope N' G.objs.size fp pins s2 H2) [(s2.heap.objs.size, o)] σ' H' s' := fun {σ' H' s' o} I' q n d => I'.pins_of fun p hp => by
    have : p = (s2.heap.objs.size, o) := by simpa using hp
    subst this
    exact ⟨q, n, hDC, nfD, d⟩
  have loop : ∀ s₃ : Shared, s₃ = { s2 with heap := h₁, toks := s2.toks + ([] : List (Str × Value)).length } →
      codeAny (model X.prog X.w) X.A (.compLoop (.ListComp elt [⟨tg, iter, ifs, 0⟩] scope pos) 0 (.ref it) (.ref s2.heap.objs.size) (compEnvC scope (L3.closL X.env.cells scope.names []) G.objs.size X.env))
        (compPost (model X.prog X.w) X.A X.xe use Qv (.ref s2.heap.objs.size) G.objs.size) s₃ := by
    rintro s₃ rfl
    refine L3.comp_loop (fun n s' => ∃ i acc ys σ' H', Inv (X.comp scope N' G.objs.size fp pins s2 H2) [] σ' H' s' ∧ tn i s'.heap ∧ (∀ b ∈ fp, H' b = none) ∧ s'.heap.PlainList s2.heap.objs.size ys ∧ Vals acc ys.toList ∧ H' s2.heap.objs.size = none ∧ W i n acc σ' H') ?_ m0
      ⟨0, [], #[], _, H2, comp_in I2 cp hm hC f2 hlt old hns, T.keep _ _ _ st2 (fun b _ o q => old b o q), fun b hb => (f2 b hb).1, acc0, .nil, I2.hok.fresh (Nat.le_refl _), w0⟩
    rintro n s3 ⟨i, acc, ys, σ3, H3, I3, st3, fr3, ⟨nn, gD⟩, va, fD, w3⟩
    have dD : ∀ v, ({ cls := .type "list", data := .seq ys nn } : Obj).data ≠ .cell v := fun v z => by
      have z' : Data.seq ys nn = Data.cell v := z
      cases z'
    have I3' := hold I3 gD fD dD
    rcases turn i n acc σ3 H3 w3 with ⟨stop, hl, q⟩ | ⟨go, hl, N, hN, step⟩
    · refine thn (T.done (X.comp scope N' G.objs.size fp pins s2 H2) rfl rfl rfl hcalm i _ s3 σ3 H3 (fun _ _ => False) I3' (stat fr3) st3 stop) fun r s4 ⟨hr, I4⟩ => ?_
      subst hr
      have g4 := (I4.pin (s2.heap.objs.size, _) (List.mem_append_right _ List.mem_cons_self)).1
      exact fin _ _ s2 H2 fp _ _ _ s4 _ _ acc I2 f2 hC (Nat.le_refl _) hDC I4 g4 va fD hl (q _ fD)
    · refine thn (T.item (X.comp scope N' G.objs.size fp pins s2 H2) rfl rfl rfl hcalm i _ s3 σ3 H3 (fun _ _ => False) I3' (stat fr3) st3 go) fun r s4 ⟨u, hr, h4⟩ => ?_
      subst hr
      refine thn h4 fun _ s5 ⟨x, H5, I5, r5, y5, st5, fr5⟩ => ?_
      have I5' := I5.pinned (stat fr5) (T.obj _ _ st5)
      refine thn (hg _ _ _ _ _ _ s5 σ3 H5 x u _ I5' r5 (step x H5 y5)) fun _ s6 ⟨σ6, H6, I6, q6⟩ => ?_
      refine thn (ht _ _ _ _ _ _ s6 σ6 H6 _ I6 q6) fun b s7 ⟨H7, I7, q7⟩ => ?_
      have inD : ∀ {o : Obj}, (s2.heap.objs.size, o) ∈ [(s2.heap.objs.size, o)] ++ pinsAt fp s5.heap := List.mem_append_left _ List.mem_cons_self
      have turned : ∀ {σ' : St} {H' : Hp} {s' : Shared}, Inv (X.comp scope N' G.objs.size fp pins s2 H2) ([(s2.heap.objs.size, ({ cls := .type "list", data := .seq ys nn } : Obj))] ++ pinsAt fp s5.heap) σ' H' s' →
          (∀ b ∈ fp, ∀ o, s5.heap.get? b = some o → s'.heap.get? b = some o) ∧ ∀ b ∈ fp, H' b = none := fun I' => by
        refine ⟨fun b hb o q => (I'.pin (b, o) (List.mem_append_right _ (List.mem_append_right _ (mem_pinsAt hb q)))).1, fun b hb => ?_⟩
        obtain ⟨o, q, _⟩ := T.obj _ _ st5 b hb
        exact (I'.pin (b, o) (List.mem_append_right _ (List.mem_append_right _ (mem_pinsAt hb q)))).2.1
      cases b with
      | false =>
        rw [if_neg Bool.false_ne_true] at q7 ⊢
        obtain ⟨m', hm', w7⟩ := hN _ _ _ q7
        have p7 := I7.pin (s2.heap.objs.size, _) (List.mem_append_right _ inD)
        exact ⟨m', hm', i + 1, acc, ys, σ6, H7, I7.pins_of (fun p hp => absurd hp (by simp)), T.keep _ _ _ st5 (turned I7).1, (turned I7).2, ⟨nn, p7.1⟩, va, p7.2.1, w7⟩
      | true =>
        rw [if_pos rfl] at q7 ⊢
        refine thn (he _ _ _ _ _ _ s7 σ6 H7 _ I7 q7) fun yv s8 ⟨y, H8, I8, r8, q8⟩ => ?_
        obtain ⟨m', hm', w8⟩ := hN _ _ _ q8
        have p8 := I8.pin (s2.heap.objs.size, _) (List.mem_append_right _ inD)
        have lenv := va.length
        refine wpAny_list_append_plain (hsz := by rw [← Array.length_toList, ← lenv]; exact Nat.le_of_lt hl) ⟨nn, p8.1⟩ fun h9 pl9 sb9 => ?_
        have J8 : Inv (X.comp scope N' G.objs.size fp pins s2 H2) [] σ6 H8 s8 := I8.pins_of fun p hp => absurd hp (by simp)
        refine ⟨m', hm', i + 1, acc ++ [y], ys.push yv, σ6, H8, J8.turned (t' := s8.toks) (fun b o hb q => (sb9.2 b hb).trans q) p8.2.1 hDC (.inr (Nat.le_refl _)) cD (fun p hp => pnD p (by simpa [Cx.comp] using hp)), ?_, (turned I8).2, pl9, ?_, p8.2.1, w8⟩
        · exact T.keep _ _ _ st5 fun b hb o q => (sb9.2 b (fpD b hb).symm).trans ((turned I8).1 b hb o q)
        · rw [Array.toList_push]
          exact va.append (.cons r8 .nil)
  exact codeAny_compStart_list (loop _ rfl) (T.self _ 0 _ _ _ (T.keep _ _ _ st2 fun b _ o q => old b o q) (loop _ rfl))
theorem pe_comp {X : Cx} {elt tg iter : Expr} {ifs : List Expr} {scope : Scope} {pos : Pos} {wi : TI} {g : TG} {tt : TT} {te : TE} (sh : List Nat) (N' : List Str) (more : Nat) (hcalm : X.calm = true) (hi : PI X tg iter wi)
    (hg : ∀ C fp pins s H, PG (X.comp scope N' C fp pins s H) tg g) (ht : ∀ C fp pins s H, PIf (X.comp scope N' C fp pins s H) ifs tt) (he : ∀ C fp pins s H, PE (X.comp scope N' C fp pins s H) elt te)
    (hc : L3.compOk X.env.scope scope X.N N' sh = true := by rfl) (hm : N'.length = X.N.length + more := by rfl) (hs : ∀ x, foldedSetIterable iter X.env x = pure x := by intro _; rfl) :
    PE X (.ListComp elt [⟨tg, iter, ifs, 0⟩] scope pos) (tComp wi g tt te sh more) := by
  intro pins s σ H Q I h
  rw [eval_ListComp]
  refine comp_any hcalm hi hg ht he hc hm hs (use := none) I h fun D C s2 H2 fp pl σ4 H4 s4 n ys acc I2 f2 hC hD hDC I4 g4 va fD hl q => ?_
  obtain ⟨m4, hn4, _⟩ := I4.loc
  exact ⟨m4, hn4, fun h' sb => ⟨.ref D, _, comp_out I2 hC f2 I4 hD hDC g4 va fD hl sb, rfl, q⟩⟩
theorem ps_comp {X : Cx} {elt tg iter : Expr} {ifs : List Expr} {scope : Scope} {pos py spos : Pos} {y : Str} {wi : TI} {g : TG} {tt : TT} {te : TE} (i : Nat) (sh : List Nat) (N' : List Str) (more : Nat) (hcalm : X.calm = true) (hN : X.N.Nodup) (hiy : X.N[i]? = some y) (hy : X.env.scope.names.lookup y = some .local) (hi : PI X tg iter wi)
    (hg : ∀ C fp pins s H, PG (X.comp scope N' C fp pins s H) tg g) (ht : ∀ C fp pins s H, PIf (X.comp scope N' C fp pins s H) ifs tt) (he : ∀ C fp pins s H, PE (X.comp scope N' C fp pins s H) elt te)
    (hc : L3.compOk X.env.scope scope X.N N' sh = true := by rfl) (hm : N'.length = X.N.length + more := by rfl) (hs : ∀ x, foldedSetIterable iter X.env x = pure x := by intro _; rfl)
    (hsw : swapsWith (.ListComp elt [⟨tg, iter, ifs, 0⟩] scope pos) (some (.Name y py)) spos.line X.env = pure true := by rfl) :
    PS X (.Assign [.Name y py] (.ListComp elt [⟨tg, iter, ifs, 0⟩] scope pos) spos) (tAsg (tComp wi g tt te sh more) (gName i)) := by
  intro pins s σ H D' I h
  rw [exec_Assign_Name_used _ _ _ _ hsw]
  refine wpAny_bind (wpAny_standAt (wpAny_bind ?_))
  show wpAny _ X.A (do let _ ← comprehension (.ListComp elt [⟨tg, iter, ifs, 0⟩] scope pos) scope X.env _ (newList []) false (eval iter X.env) (some (assign (.Name y py) X.env))) _ _ s
  refine wpAny_bind (wpAny_mono (comp_any hcalm hi hg ht he hc hm hs (use := some (assign (.Name y py) X.env)) (Qv := fun _ s' => SP X pins D' .next s') I h fun D C s2 H2 fp pl σ4 H4 s4 n ys acc I2 f2 hC hD hDC I4 g4 va fD hl q => ?_) (fun _ s' hq => wpAny_pure (wpAny_pure hq)) fun _ _ e => e)
  obtain ⟨m4, hn4, _⟩ := I4.loc
  have Io : Inv X pins σ (upd H4 D (.lst acc)) s4 := comp_out I2 hC f2 I4 hD hDC g4 va fD hl (Heap.SameBut.refl ..)
  have lL : X.env.locals < C := Nat.lt_of_lt_of_le I2.lt hC
  show wpAny _ X.A (assign (.Name y py) X.env (.ref D)) _ _ s4
  refine wpAny_assign_Name (store_ok2 Io hN hiy (.inl hy) (v := .ref D) rfl (fun s5 I5 ⟨a, sb5, ha⟩ => ?_) (.inr hy))
  have cC : ∀ x c, X.env.cells.lookup x = some c → c ≠ C := fun x c z zz => by
    obtain ⟨v, z'⟩ := I2.cell x c z
    rw [zz] at z'
    exact absurd (Nat.lt_of_lt_of_le z'.lt hC) (Nat.lt_irrefl _)
  have aC : C ≠ a := fun z => by
    rcases ha with y' | y'
    · rw [← z] at y'; rw [y'] at lL; exact absurd lL (Nat.lt_irrefl _)
    · exact cC _ _ y' z.symm
  refine ⟨m4, Heap.Ns.sameBut hn4 sb5 aC, fun h' sb => ⟨_, _, I5.turned (t' := s5.toks) (it := C) (fun b o hb z => (sb.2 b hb).trans z) ?_ (Nat.ne_of_gt lL) (.inr (Nat.le_trans I2.sz hC)) cC (fun p hp z => ?_), q⟩⟩
  · rw [upd_ne hDC.symm]
    exact I4.free
  · have q' := (I2.pin p hp).1
    rw [z] at q'
    exact absurd (Nat.lt_of_lt_of_le (Heap.lt_size q') hC) (Nat.lt_irrefl _)
theorem range_all : ∀ (bs : List Bool), ((List.range bs.length).all fun i => bs.getD i true) = bs.all id := by
  intro bs
  rw [Bool.eq_iff_iff, List.all_eq_true, List.all_eq_true]
  constructor
  · intro h b hb
    obtain ⟨i, hi, e⟩ := List.mem_iff_getElem.mp hb
    have q := h i (List.mem_range.mpr hi)
    rw [List.getD_eq_getElem?_getD, List.getElem?_eq_getElem hi] at q
    rw [← e]; exact q
  · intro h i hi
    have hi := List.mem_range.mp hi
    rw [List.getD_eq_getElem?_getD, List.getElem?_eq_getElem hi]
    exact h _ (List.getElem_mem hi)
section
variable {X : Cx}
theorem call_allL (hc : X.calm = true) : CallR X (.builtin "all") (fun xs H Q => ∃ (p : Addr) (bs : List Bool), xs = [.ref p] ∧ SqL X.K H p (bs.map V.bl) ∧ Q (.bl (bs.all id)) H) := by
  intro pins s σ H xs us Q I r h
  obtain ⟨p, bs, rfl, hq, q⟩ := h
  obtain ⟨u, rfl, rx⟩ := vals1 r
  cases rx
  obtain ⟨its, rv, pl, hz⟩ := I.list hq
  have hlen : its.length = bs.length := by rw [← rv.length, List.length_map]
  have plt : p < s.heap.objs.size := by
    obtain ⟨o, ho, _⟩ := pl.isList
    exact Heap.lt_size ho
  have hh : X.A.in1.handled = none := I.ok.hd hc
  refine call_all_walk (wpAny_pyIter_list pl.isList ⟨s.heap.objs.size, _, _, _, _, _, fun i => bs.getD i true, rfl, Walks.list hh s.heap.objs.size p (Nat.ne_of_lt plt) its.toArray, ⟨⟨_, Heap.get?_push_size _ rfl, rfl, rfl⟩, pl.isList.push _⟩, fun i v s' Q' E' hv hQ => ?_, fun h' tk k => ?_⟩)
  · have hv' : its[i]? = some v := by simpa using hv
    have hi : i < bs.length := by
      rw [← hlen]; exact (List.getElem?_eq_some_iff.mp hv').1
    obtain ⟨u, hu, ru⟩ := rv.get (i := i) (x := .bl bs[i]) (by rw [List.getElem?_map, List.getElem?_eq_getElem hi]; rfl)
    rw [hv'] at hu; cases hu
    cases ru
    have e : bs.getD i true = bs[i] := by rw [List.getD_eq_getElem?_getD, List.getElem?_eq_getElem hi]; rfl
    have hQ' : Q' (bs.getD i true) s' := hQ
    rw [e] at hQ'
    exact wpAny_truthy_bool hQ'
  · have e : its.toArray.size = bs.length := by rw [List.size_toArray, hlen]
    rw [e, range_all]
    refine ⟨.bl (bs.all id), H, ?_, rfl, q⟩
    have I1 : Inv X pins σ H { s with heap := s.heap.push { cls := .type "list_iterator", data := .fields #[.ref p, .int 0 0] } } := I.kept (t' := s.toks) fun b o z => Heap.get?_push_of_some _ z
    refine I1.turnMany (t' := tk) (ch := [s.heap.objs.size]) (fun b hb => ?_) fun b o hb z => k b o (by simpa using hb) z
    have : b = s.heap.objs.size := by simpa using hb
    subst this
    exact I.fpOk (Nat.le_refl _) (I.hok.fresh (Nat.le_refl _))
theorem call_isi : CallR X (.builtin "isinstance") (fun xs H Q => ∃ x c t b, xs = [x, .ty c] ∧ TyOf X.K H x t ∧ PySem.W.kitOne X.K t (.type c) = some b ∧ Q (.bl b) H) := by
  intro pins s σ H xs us Q I r h
  obtain ⟨x, c, t, b, rfl, ty, e, q⟩ := h
  obtain ⟨u, v, rfl, rx, rc⟩ := vals2 r
  cases (show v = Value.type c from rc)
  exact isinst_ok I rx ty e fun tk => ⟨.bl b, H, I.tok _, rfl, q⟩
inductive rCat0 (K : PySem.W.Frag) (x : V) (y : V) (H : Hp) (Q : VK) : Prop
  | mk (a : _) (b : _) (xs : _) (ys : _) (f1 : x = .ref a) (f2 : y = .ref b) (f3 : SqT K H a xs) (f4 : SqT K H b ys) (f5 : xs.length + ys.length ≤ sizeLine) (f6 : (xs = [] → Q (.ref b) H)) (f7 : (xs ≠ [] → ys = [] → Q (.ref a) H)) (f8 : (xs ≠ [] → ys ≠ [] → ∀ p, H p = none → Q (.ref p) (upd H p (.tup (xs ++ ys))))) : rCat0 K x y H Q
theorem op_cat0 : OpR X (binaryOp .Add) (rCat0 X.K) := by
  intro pins s σ H x y v u Q I rx ry h
  obtain ⟨a, b, xs, ys, rfl, rfl, ha, hb, hz, q0, q1, q2⟩ := h
  by_cases hx : xs = []
  · cases rx
    cases ry
    obtain ⟨its, r1, p1, _⟩ := I.tuple ha
    obtain ⟨its2, r2, p2, _⟩ := I.tuple hb
    have e1 : its = [] := r1.nil_iff.mpr hx
    obtain ⟨⟨cls, dd, data, sl⟩, ho, hc, n, hd⟩ := id p1
    obtain ⟨⟨cls2, dd2, data2, sl2⟩, ho2, hc2, n2, hd2⟩ := id p2
    simp only at hc hd hc2 hd2
    subst hc hd hc2 hd2
    exact concat_meets ⟨_, ho, rfl⟩ ⟨_, ho2, rfl⟩ noFill_tuple_add seq_tuple_add PySem.F.slot_tuple_add PySem.F.entry_tuple_add (PySem.F.args_tuple_add_2 _ _)
      (tuple_addW0 a b its.toArray its2.toArray n n2 dd dd2 sl sl2 (by simp [e1])) ⟨ho, ho2, ⟨.ref b, H, I, rfl, q0 hx⟩⟩
  · exact op_catT pins s σ H _ _ v u Q I rx ry ⟨a, b, xs, ys, rfl, rfl, ha, hb, hx, hz, fun z => q1 hx z, fun z => q2 hx z⟩
end
end L2
namespace L2
open PySem PySem.Spec PyProof.Rows
structure Fn (P : Program) (w : World) (K : PySem.W.Frag) (mg : Str → Option Value) (base : Heap) (x : Str) (ps : List Str) (k : Nat) (sp : Sp) : Prop where
  ex : ∃ f fd, FnOk P w K mg base CX0 k f fd ps sp ∧ mg x = some (.ref f) ∧ PySem.W.keepIn K (.ref f) = true ∧ Binds K fd ps []
theorem Fn.of {P : Program} {w : World} {K : PySem.W.Frag} {mg : Str → Option Value} {base : Heap} {x : Str} {ps : List Str} {k : Nat} {sp : Sp} {f : Addr} {fd : FuncData} (O : FnOk P w K mg base CX0 k f fd ps sp) (m : mg x = some (.ref f)) (kp : PySem.W.keepIn K (.ref f) = true) (b : Binds K fd ps []) :
    Fn P w K mg base x ps k sp := ⟨f, fd, O, m, kp, b⟩
section
variable {X : Cx} {x : Str} {ps : List Str} {k k' : Nat} {sp : Sp} {e : Expr} {es : List Expr} {t : TA} {p pos : Pos}
theorem pe_fn (F : Fn X.prog X.w X.K X.mg X.base x ps k sp) (hr : Room k' X.A) (ha : PA X (e :: es) t) (hk : k ≤ k' := by first | decide | exact Nat.le_refl _) (hg : Gl X x := by rfl) (hdb : (x == ("__debug__" : Str)) = false := by decide)
    (he : starEach (e :: es) X.env = (false, eval e X.env) :: starEach es X.env := by rfl) (hpl : (backTo pos (starEach es X.env)).any (·.1) = false := by rfl) : PE X (.Call (.Name x p) (e :: es) [] pos) (tCall sp [] E0 t) := by
  obtain ⟨f, fd, O, m, kp, b⟩ := F.ex
  exact pe_call O (hr.mono hk) hg m kp b .nil pass0 ha hdb he hpl
theorem ps_join {st : Stmt} {t : TS} (h : PS X st t) : PS X st (fun D σ H => ∃ J : St → Hp → Prop, (∀ σ' H', J σ' H' → D.nx σ' H') ∧ t { D with nx := J } σ H) := by
  intro pins s σ H D I q
  obtain ⟨J, hJ, q⟩ := q
  refine thn (h pins s σ H _ I q) fun f s1 r => ?_
  cases f with
  | next =>
    obtain ⟨σ', H', I', r⟩ := r
    exact ⟨σ', H', I', hJ _ _ r⟩
  | ret v => exact r
  | brk => exact r
  | cont => exact r
end
section
variable {X : Cx}
theorem pg_tupK (K : PySem.W.Frag) (n : Nat) {es : List Expr} {k : Nat} {t : TGs} {pos : Pos} (hc : X.calm = true) (h : PGs X es t) (hK : X.K = K) (hn : (assignEach es X.env).length = n) (hst : (assignEach es X.env).findIdx? (·.1) = none) : PG X (.Tuple es k pos) (gTup K n t) := by
  subst hK
  exact pg_tup hc h hn hst
theorem ix_tupK (K : PySem.W.Frag) (hK : X.K = K) : IxR X (rIxT K) := by
  subst hK
  exact ix_tup
theorem ix_listK (K : PySem.W.Frag) (hK : X.K = K) : IxR X (rIxL K) := by
  subst hK
  exact ix_list
end
theorem same_new {H : Hp} {p : Addr} (h : H p = none) (o : HO) : Same H (upd H p o) := fun b u q => by rw [upd_ne (ne_of_none q h)]; exact q
theorem small {n : Nat} (h : n ≤ 1000000) : n ≤ sizeLine := Nat.le_trans h (by rw [sizeLine_eq]; decide)
theorem smallL {n : Nat} (h : n ≤ 1000000) : n < sizeLine := Nat.lt_of_le_of_lt h (by rw [sizeLine_eq]; decide)
noncomputable def Scr (K : PySem.W.Frag) (H : Hp) (a : Addr) (ns : List Int) : Prop := (∃ o, H a = some (.frz o (.lst (ns.map V.int)))) ∨
  ∃ (o : Obj) (its : Array Value) (n : Nat), K.lookup a = some o ∧ o.cls = .type "list" ∧ o.dict = none ∧ o.data = .seq its n ∧ its.size ≤ sizeLine ∧ Vals (ns.map V.int) its.toList
theorem Scr.seq {K : PySem.W.Frag} {H : Hp} {a : Addr} {ns : List Int} (h : Scr K H a ns) : SqL K H a (ns.map V.int) := by
  rcases h with ⟨o, h⟩ | h
  · exact .inl (.inr ⟨o, h⟩)
  · exact .inr h
theorem Scr.of {K : PySem.W.Frag} {H : Hp} {a : Addr} {ns : List Int} (h : SqL K H a (ns.map V.int)) (o : Only H) : Scr K H a ns := by
  rcases h with (h | ⟨ob, h⟩) | h
  · rcases o a with z | ⟨ob, xs, z⟩
    · rw [z] at h; cases h
    · rw [z] at h; cases h
  · exact .inl ⟨ob, h⟩
  · exact .inr h
noncomputable abbrev zeros (k : Nat) : List V := List.replicate k (V.int 0)
noncomputable def Twn (H : Hp) (t : Addr) (k : Nat) : Prop := H t = some (.lst (zeros k))
noncomputable def Grow (t : Addr) (H H' : Hp) : Prop := ∀ b o, b ≠ t → H b = some o → H' b = some o
theorem Grow.refl (t : Addr) (H : Hp) : Grow t H H := fun _ _ _ h => h
theorem Grow.trans {t : Addr} {H H1 H2 : Hp} (a : Grow t H H1) (b : Grow t H1 H2) : Grow t H H2 := fun c o n h => b c o n (a c o n h)
theorem Grow.same {t : Addr} {H H1 : Hp} (a : Same H H1) : Grow t H H1 := fun c o _ h => a c o h
theorem Grow.upd {t : Addr} {H : Hp} (o : HO) : Grow t H (upd H t o) := fun c u n h => by rw [upd_ne n]; exact h
theorem Grow.scr {K : PySem.W.Frag} {t a : Addr} {H H' : Hp} {ns : List Int} {k : Nat} (g : Grow t H H') (tw : Twn H t k) (s : Scr K H a ns) : Scr K H' a ns := by
  rcases s with ⟨o, h⟩ | h
  · exact .inl ⟨o, g _ _ (fun z => by subst z; unfold Twn at tw; rw [tw] at h; cases h) h⟩
  · exact .inr h
theorem Same.scr {K : PySem.W.Frag} {a : Addr} {H H' : Hp} {ns : List Int} (g : Same H H') (s : Scr K H a ns) : Scr K H' a ns := by
  rcases s with ⟨o, h⟩ | h
  · exact .inl ⟨o, g _ _ h⟩
  · exact .inr h
theorem Same.twn {t : Addr} {H H' : Hp} {k : Nat} (g : Same H H') (s : Twn H t k) : Twn H' t k := g _ _ s
noncomputable def scl : V → Bool
  | .non => true | .bl _ => true | .int _ => true | .str _ => true | _ => false
noncomputable def lcell (ns : List Int) (k : Nat) : Int := if ns = [] then 0 else ns.getD (k % ns.length) 0
noncomputable def drw1 (ns : List Int) (k : Nat) : Int := (lcell ns k + 104729 * (k : Int)) % 4294967291
noncomputable def drw2 (ns : List Int) (k : Nat) : Int := drw1 ns k * drw1 ns k % 4294967279 * 48271 % 4294967291
noncomputable def drw3 (ns : List Int) (k : Nat) : Int := drw2 ns k * drw2 ns k % 4294967279 * 69621 % 4294967291
noncomputable def drw (ns : List Int) (k : Nat) (m : Int) : Int := (drw2 ns k / 64 * 67108864 + drw3 ns k / 64) % m
theorem drw_nn (ns : List Int) (k : Nat) {m : Int} (h : 0 < m) : 0 ≤ drw ns k m := Int.emod_nonneg _ (by lia)
theorem drw_lt (ns : List Int) (k : Nat) {m : Int} (h : 0 < m) : drw ns k m < m := Int.emod_lt_of_pos _ h
inductive spDraw (K : PySem.W.Frag) (vs : List V) (H : Hp) (Q : VK) (E : XK) : Prop
  | mk (a t : Addr) (ns : List Int) (k : Nat) (m : Int) (f1 : vs = [.ref a, .ref t, .int m]) (f2 : Scr K H a ns) (f3 : ns.length ≤ 63) (f4 : Twn H t k) (f5 : k ≤ 900000) (f6 : 0 < m) (f7 : ∀ H', Grow t H H' → Twn H' t (k + 1) → Q (.int (drw ns (k + 1) m)) H') : spDraw K vs H Q E
noncomputable def dbits (ns : List Int) (k n : Nat) : List Int := (List.range n).map fun i => drw ns (k + i + 1) 2
theorem dbits_length (ns : List Int) (k n : Nat) : (dbits ns k n).length = n := by simp [dbits]
theorem dbits_succ (ns : List Int) (k n : Nat) : dbits ns k (n + 1) = dbits ns k n ++ [drw ns (k + n + 1) 2] := by simp [dbits, List.range_succ]
inductive spBits (K : PySem.W.Frag) (vs : List V) (H : Hp) (Q : VK) (E : XK) : Prop
  | mk (a t : Addr) (ns : List Int) (k : Nat) (m : Int) (f1 : vs = [.ref a, .ref t, .int m]) (f2 : Scr K H a ns) (f3 : ns.length ≤ 63) (f4 : Twn H t k) (f5 : k ≤ 800000) (f6 : 0 ≤ m) (f7 : m ≤ 1000) (f8 : ∀ p H', Grow t H H' → Twn H' t (k + 1 + (drw ns (k + 1) (m + 1)).toNat) → H' p = some (.tup ((dbits ns (k + 1) (drw ns (k + 1) (m + 1)).toNat).map V.int)) → Q (.ref p) H') : spBits K vs H Q E
inductive spLaw (K : PySem.W.Frag) (vs : List V) (H : Hp) (Q : VK) (E : XK) : Prop
  | mk (a : Addr) (ns : List Int) (f1 : vs = [.ref a]) (f2 : Scr K H a ns) (f3 : ns.length ≤ 63) (f4 : ∀ H', Q (.bl true) H') : spLaw K vs H Q E
end L2
set_option maxRecDepth 100000
namespace L2
open PySem
noncomputable def Tr (B h : Heap) (e : Addr) (cls c fl : Value) : Prop :=
  ∃ oe vs T oT ts, h.get? e = some oe ∧ oe.cls = cls ∧ oe.data = .fields vs ∧ vs[2]? = some c ∧ vs[1]? = some (.ref T) ∧ B.get? T = none ∧ T ≠ e ∧ h.get? T = some oT ∧ oT.data = .fields ts ∧ ts[3]? = some fl
noncomputable def Fl (B : Heap) (l : List Env) (e : Addr) (cls c fl : Value) (h : Heap) : Prop :=
  B.StaysIn h ∧ B.get? e = none ∧ h.FunFrames B l ∧ Tr B h e cls c fl
theorem Fl.rest {B h : Heap} {env : Env} {outer : List Env} {e : Addr} {cls c fl : Value} (x : Fl B (env :: outer) e cls c fl h) : Fl B outer e cls c fl h := by
  obtain ⟨x1, x2, ⟨_, _, x3⟩, x4⟩ := x
  exact ⟨x1, x2, x3, x4⟩
section
variable {M : Model} {A : Around} {E : Value → Shared → Prop} {s : Shared} {B : Heap} {env : Env} {outer : List Env} {L e : Addr} {oe : Obj} {vs : Array Value} {cls c : Value} {Q : Unit → Shared → Prop}
theorem fl_entry {head : Value} {nx : Bool} (fA : A.frames = some (env :: outer)) (fF : s.heap.FunFrames B (env :: outer)) (fL : env.frame = some L) (e1 : s.heap.get? e = some oe) (sB : B.StaysIn s.heap) (eB : B.get? e = none) (ed : oe.data = .fields vs) (ec : vs[2]? = some c)
    (q : ∀ g, Fl B (env :: outer) e oe.cls c (rawInt L) g → s.heap.UpToSlots g → Q () { s with heap := g }) :
    wpAny M A (do let a ← frameOf env; let pl ← entryPlaceOf L nx; let b ← EntryCells.newEntry head a .none (rawInt L) .none pl; setField (.ref e) 1 b) Q E s := by
  have ez : 2 < vs.size := (Array.getElem?_eq_some_iff.mp ec).1
  have notF : ∀ b o ws, s.heap.get? b = some o → o.data = .fields ws → b ∉ (env :: outer).filterMap (·.frame) := fun b o ws e2 e3 y => by
    obtain ⟨_, o', e4, n4⟩ := fF.mem y
    rw [e2] at e4; cases e4; exact n4 ws e3
  refine wpAny_bind (wpAny_frameOf_fun fA fF fL fun g1 sl => wpAny_bind (wpAny_entryPlaceOf fun pl hpl => ?_))
  unfold EntryCells.newEntry newFields
  refine wpAny_bind (wpAny_newObj_type ?_ (hpl.sizeOk5 _ _ _ _ _))
  have tb : ∃ ts, (.fields ([head, .ref L, .none, rawInt L, .none] ++ (if pl.isEmpty then List.replicate 6 Value.none else pl)).toArray : Data) = .fields ts ∧ ts[3]? = some (rawInt L) := ⟨_, rfl, by simp⟩
  generalize (Data.fields ([head, .ref L, .none, rawInt L, .none] ++ (if pl.isEmpty then List.replicate 6 Value.none else pl)).toArray) = da at tb ⊢
  obtain ⟨ts, rfl, t3⟩ := tb
  have g1e : g1.get? e = some oe := (sl.2.1 e (notF e oe vs e1 ed)).trans e1
  have ob := Heap.get?_push_of_some (h := g1) { cls := .type "traceback", dict := none, data := .fields ts } g1e
  have ob2 := Heap.get?_push_size g1 (o := { cls := .type "traceback", dict := none, data := .fields ts }) rfl
  refine wpAny_setField ob ed (by lia) (q _ ?_ ?_)
  all_goals
    have far : g1.objs.size ≠ e := Nat.ne_of_gt (Heap.lt_size g1e)
    have kp : ∀ b o, b ≠ e → g1.get? b = some o → ((g1.push { cls := .type "traceback", dict := none, data := .fields ts }).update e (Obj.mapFields (·.setIfInBounds 1 (Value.ref g1.objs.size)))).get? b = some o := fun b o n y =>
      (Heap.get?_update_other _ _ (Ne.symm n)).trans (Heap.get?_push_of_some _ y)
    have rec0 : ∀ b o, s.heap.get? b = some o → (∀ ws, o.data ≠ .fields ws) → b ≠ e := fun b o y n z => by
      subst z; rw [e1] at y; cases y; exact n vs ed
  · have inB : ∀ b o, B.get? b = some o → g1.get? b = some o := fun b o y => (sl.2.1 b fun z => by rw [(fF.mem z).1] at y; cases y).trans (sB b o y)
    have ed2 := Obj.data_mapFields ed (·.setIfInBounds 1 (Value.ref g1.objs.size))
    refine ⟨fun b o y => kp b o (fun z => by subst z; rw [eB] at y; cases y) (inB b o y), eB, fF.of_keeps fun b o y n => ?_, _, _, g1.objs.size, _, ts, Heap.get?_update_self _ ob (Obj.isFreed_of_fields ed2), Obj.cls_mapFields _ _, ed2, ?_, ?_, ?_, far, (Heap.get?_update_other _ _ (Ne.symm far)).trans ob2, rfl, t3⟩
    · obtain ⟨sl2, y2⟩ := sl.2.2 b o y
      exact ⟨_, kp b _ (rec0 b o y n) y2, rfl⟩
    · rw [Array.getElem?_setIfInBounds_ne (by decide)]; exact ec
    · simp [show 1 < vs.size by lia]
    · cases y : B.get? g1.objs.size with
      | none => rfl
      | some o => exact absurd (Heap.lt_size (inB _ _ y)) (Nat.lt_irrefl _)
  · intro b o y n
    obtain ⟨sl2, y2⟩ := sl.2.2 b o y
    exact ⟨sl2, kp b _ (rec0 b o y n) y2⟩
theorem fl_new (fA : A.frames = some (env :: outer)) (fF : s.heap.FunFrames B (env :: outer)) (fL : env.frame = some L) (e1 : s.heap.get? e = some oe) (sB : B.StaysIn s.heap) (eB : B.get? e = none) (ed : oe.data = .fields vs) (ec : vs[2]? = some c) (et : vs[1]? = some .none)
    (q : ∀ g, Fl B (env :: outer) e oe.cls c (rawInt L) g → s.heap.UpToSlots g → Q () { s with heap := g }) : wpAny M A (noteFrame (.ref e) env) Q E s := by
  unfold noteFrame
  simp only [fL]
  refine wpAny_bind (wpAny_field e1 ed et ?_)
  rw [if_neg (by decide)]
  exact fl_entry fA fF fL e1 sB eB ed ec q
theorem fl_note (fA : A.frames = some (env :: outer)) (fL : env.frame = some L) (x : Fl B (env :: outer) e cls c .none s.heap)
    (q : ∀ g, Fl B (env :: outer) e cls c (rawInt L) g → s.heap.UpToSlots g → Q () { s with heap := g }) : wpAny M A (noteFrame (.ref e) env) Q E s := by
  obtain ⟨sB, eB, fF, oe, vs, T, oT, ts, e1, rfl, ed, ec, et, tB, tn, t1, td, t3⟩ := x
  unfold noteFrame
  simp only [fL]
  refine wpAny_bind (wpAny_field e1 ed et ?_)
  rw [if_pos (show (Value.ref T != Value.none) = true by simp)]
  refine wpAny_bind (wpAny_field t1 td t3 ?_)
  rw [if_neg (show ¬ ((Value.none == rawInt L) = true) by simp [rawInt])]
  refine wpAny_bind (wpAny_setField t1 td (Array.getElem?_eq_some_iff.mp t3).1 ?_)
  have oth : ∀ b, b ≠ T → (s.heap.update T (Obj.mapFields (·.setIfInBounds 3 Value.none))).get? b = s.heap.get? b := fun b n => Heap.get?_update_other _ _ (Ne.symm n)
  have rec0 : ∀ b o, s.heap.get? b = some o → (∀ ws, o.data ≠ .fields ws) → b ≠ T := fun b o y n z => by
    subst z; rw [t1] at y; cases y; exact n ts td
  refine fl_entry (s := { s with heap := s.heap.update T (Obj.mapFields (·.setIfInBounds 3 Value.none)) }) fA (fF.of_keeps fun b o y n => ⟨o, (oth b (rec0 b o y n)).trans y, rfl⟩) fL ((oth e (Ne.symm tn)).trans e1) (fun b o y => (oth b fun z => by subst z; rw [tB] at y; cases y).trans (sB b o y)) eB ed ec
    fun g y1 y2 => q g y1 fun b o z n => y2 b o ((oth b (rec0 b o z n)).trans z) n
theorem fl_land {l : List Env} {fl : Value} (x : Fl B l e cls c fl s.heap) (q : ∀ g, Fl B l e cls c .none g → s.heap.UpToSlots g → Q () { s with heap := g }) : wpAny M A (setFlight (.ref e) none) Q E s := by
  obtain ⟨sB, eB, fF, oe, vs, T, oT, ts, e1, ek, ed, ec, et, tB, tn, t1, td, t3⟩ := x
  have z3 : 3 < ts.size := (Array.getElem?_eq_some_iff.mp t3).1
  have oth : ∀ b, b ≠ T → (s.heap.update T (Obj.mapFields (·.setIfInBounds 3 ((none : Option Addr).elim Value.none fun f => rawInt f)))).get? b = s.heap.get? b := fun b n => Heap.get?_update_other _ _ (Ne.symm n)
  have rec0 : ∀ b o, s.heap.get? b = some o → (∀ ws, o.data ≠ .fields ws) → b ≠ T := fun b o y n z => by
    subst z; rw [t1] at y; cases y; exact n ts td
  unfold setFlight
  refine wpAny_bind (wpAny_field e1 ed et ?_)
  rw [if_pos (show (Value.ref T != Value.none) = true by simp)]
  refine wpAny_setField t1 td z3 (q _ ⟨fun b o y => (oth b fun z => by subst z; rw [tB] at y; cases y).trans (sB b o y), eB, fF.of_keeps fun b o y n => ⟨o, (oth b (rec0 b o y n)).trans y, rfl⟩, oe, vs, T, _, _, (oth e (Ne.symm tn)).trans e1, ek, ed, ec, et, tB, tn, Heap.get?_update_self _ t1 (Obj.isFreed_of_fields (Obj.data_mapFields td _)), Obj.data_mapFields td _, ?_⟩ fun b o y n => ⟨o.slots, (oth b (rec0 b o y n)).trans y⟩)
  simp [z3]
theorem fl_leave (fA : A.frames = some (env :: outer)) (fL : env.frame = some L) (x : Fl B (env :: outer) e cls c .none s.heap)
    (q : ∀ g, Fl B outer e cls c .none g → s.heap.UpToSlots g → Q () { s with heap := g }) : wpAny M A (leaving env (.ref e)) Q E s := by
  unfold leaving
  exact wpAny_bind (fl_note fA fL x fun g1 y1 u1 => fl_land (s := { s with heap := g1 }) y1 fun g2 y2 u2 => q g2 y2.rest (u1.trans u2))
theorem fl_leaveNew (fA : A.frames = some (env :: outer)) (fF : s.heap.FunFrames B (env :: outer)) (fL : env.frame = some L) (e1 : s.heap.get? e = some oe) (sB : B.StaysIn s.heap) (eB : B.get? e = none) (ed : oe.data = .fields vs) (ec : vs[2]? = some c) (et : vs[1]? = some .none)
    (q : ∀ g, Fl B outer e oe.cls c .none g → s.heap.UpToSlots g → Q () { s with heap := g }) : wpAny M A (leaving env (.ref e)) Q E s := by
  unfold leaving
  exact wpAny_bind (fl_new fA fF fL e1 sB eB ed ec et fun g1 y1 u1 => fl_land (s := { s with heap := g1 }) y1 fun g2 y2 u2 => q g2 y2.rest (u1.trans u2))
end
end L2
namespace L2
open PySem
inductive Reach (h : Heap) : Value → Value → Prop
  | refl (v : Value) : Reach h v v
  | step {a : Addr} {o : Obj} {vs : Array Value} {v u : Value} : h.get? a = some o → o.data = .fields vs → vs[2]? = some v → Reach h v u → Reach h (.ref a) u
theorem Reach.snoc {h : Heap} {u : Value} {b : Addr} {o : Obj} {vs : Array Value} {v : Value} (x : Reach h u (.ref b)) (e1 : h.get? b = some o) (e2 : o.data = .fields vs) (e3 : vs[2]? = some v) : Reach h u v := by
  generalize hz : Value.ref b = z at x
  induction x with
  | refl y => subst hz; exact .step e1 e2 e3 (.refl _)
  | step a1 a2 a3 _ ih => exact .step a1 a2 a3 (ih hz)
noncomputable def Chain (h : Heap) (F : Addr → Prop) : Nat → Value → Prop
  | 0, v => v = .none
  | n + 1, v => v = .none ∨ ∃ a o vs c, v = .ref a ∧ h.get? a = some o ∧ F a ∧ o.data = .fields vs ∧ vs[2]? = some c ∧ Chain h F n c
theorem Chain.imp {h g : Heap} {F G : Addr → Prop} (k : ∀ a o vs, F a → h.get? a = some o → o.data = .fields vs → g.get? a = some o ∧ G a) : ∀ {n : Nat} {v : Value}, Chain h F n v → Chain g G n v
  | 0, _, x => x
  | n + 1, _, x => by
    rcases x with x | ⟨a, o, vs, c, e1, e2, e3, e4, e5, r⟩
    · exact .inl x
    · exact .inr ⟨a, o, vs, c, e1, (k a o vs e3 e2 e4).1, (k a o vs e3 e2 e4).2, e4, e5, Chain.imp k r⟩
noncomputable def ChainP (ps : List (Addr × Obj)) : Nat → Value → Prop
  | 0, v => v = .none
  | n + 1, v => v = .none ∨ ∃ a o vs c, v = .ref a ∧ (a, o) ∈ ps ∧ o.data = .fields vs ∧ vs[2]? = some c ∧ ChainP ps n c
theorem ChainP.more {ps qs : List (Addr × Obj)} (k : ∀ p ∈ ps, p ∈ qs) : ∀ {n : Nat} {v : Value}, ChainP ps n v → ChainP qs n v
  | 0, _, x => x
  | n + 1, _, x => by
    rcases x with x | ⟨a, o, vs, c, e1, e2, e4, e5, r⟩
    · exact .inl x
    · exact .inr ⟨a, o, vs, c, e1, k _ e2, e4, e5, ChainP.more k r⟩
theorem ChainP.chain {h : Heap} {F : Addr → Prop} {ps : List (Addr × Obj)} (k : ∀ p ∈ ps, h.get? p.1 = some p.2 ∧ F p.1) : ∀ {n : Nat} {v : Value}, ChainP ps n v → Chain h F n v
  | 0, _, x => x
  | n + 1, _, x => by
    rcases x with x | ⟨a, o, vs, c, e1, e2, e4, e5, r⟩
    · exact .inl x
    · exact .inr ⟨a, o, vs, c, e1, (k _ e2).1, (k _ e2).2, e4, e5, ChainP.chain k r⟩
theorem Chain.pins {h : Heap} {F : Addr → Prop} : ∀ {n : Nat} {v : Value}, Chain h F n v → ∃ ps : List (Addr × Obj), (∀ p ∈ ps, h.get? p.1 = some p.2 ∧ F p.1 ∧ ∃ vs, p.2.data = .fields vs) ∧ ChainP ps n v
  | 0, _, x => ⟨[], fun _ y => absurd y (by simp), x⟩
  | n + 1, _, x => by
    rcases x with x | ⟨a, o, vs, c, e1, e2, e3, e4, e5, r⟩
    · exact ⟨[], fun _ y => absurd y (by simp), .inl x⟩
    · obtain ⟨ps, k, r⟩ := Chain.pins r
      refine ⟨(a, o) :: ps, fun p y => ?_, .inr ⟨a, o, vs, c, e1, List.mem_cons_self, e4, e5, r.more fun p y => List.mem_cons_of_mem _ y⟩⟩
      rcases List.mem_cons.mp y with rfl | y
      · exact ⟨e2, e3, vs, e4⟩
      · exact k p y
theorem entry_unchain : entryFor table "proto.unchain" = some Builtin.«proto.unchain» := entryFor_of_tree (by kernel_rfl)
section
variable {prog : Program} {w : World}
theorem unchain_ok {e : Addr} : ∀ (n : Nat) {A : Around} {R : Result → Shared → Prop} {s : Shared} {o : Addr} {oo : Obj} {vs : Array Value} {c slow : Value} {tg : Bool}, s.heap.get? o = some oo → oo.data = .fields vs → vs[2]? = some c → Chain s.heap (· ≠ e) n c → Reach s.heap slow (.ref o) →
    R (.ok (.ret .none)) s → codeAny (model prog w) A (.builtin "proto.unchain" ⟨[.ref e, .ref o, slow, .bool tg], []⟩) R s := by
  intro n
  induction n with
  | zero =>
    intro A R s o oo vs c slow tg e1 e2 e3 ch rc q
    obtain rfl : c = .none := ch
    refine codeAny_builtin entry_unchain ?_
    unfold Builtin.«proto.unchain»
    refine wpAny_bind (wpAny_field e1 e2 e3 ?_)
    rw [if_pos (by simp)]
    exact wpAny_pure q
  | succ n ih =>
    intro A R s o oo vs c slow tg e1 e2 e3 ch rc q
    refine codeAny_builtin entry_unchain ?_
    unfold Builtin.«proto.unchain»
    refine wpAny_bind (wpAny_field e1 e2 e3 ?_)
    rcases ch with rfl | ⟨a, oa, ws, d, rfl, a1, a2, a3, a4, r⟩
    · rw [if_pos (by simp)]
      exact wpAny_pure q
    rw [if_neg (by simp), if_neg (by simpa using a2)]
    by_cases hs : (Value.ref a == slow) = true
    · rw [if_pos hs]
      exact wpAny_bind (wpAny_rule (wpAny_pure q))
    rw [if_neg hs]
    have rc2 : Reach s.heap slow (.ref a) := rc.snoc e1 e2 e3
    cases tg with
    | false => exact wpAny_bind (wpAny_pure (wpAny_pure ⟨Code.quiet_builtin _ (by decide +kernel), ih a1 a3 a4 r rc2 q⟩))
    | true =>
      cases rc2 with
      | refl => exact absurd (by simp) hs
      | step b1 b2 b3 rc3 => exact wpAny_bind (wpAny_field b1 b2 b3 (wpAny_pure ⟨Code.quiet_builtin _ (by decide +kernel), ih a1 a3 a4 r rc3 q⟩))
end
end L2
namespace L2
open PySem
section
variable {prog : Program} {w : World} {A : Around} {E : Value → Shared → Prop} {env : Env}
variable {nm q : Str} {C N : Addr} {bs bm bmB : List Value} {hdct : Bool} {sn : List Str} {sub : List Value} {ab : Bool} {col : Option Bool} {dd : Option Addr} {k0 k1 k2 k3 k5 : Option Value} {newId : String}
noncomputable def Behind (h : Heap) (F : Addr → Prop) (y : Addr) : Prop := ∃ n, Chain h F (n + 1) (.ref y)
theorem raiseNew_behind {α : Type} {Q : α → Shared → Prop} {s : Shared} {e y : Addr} {oe : Obj} {vs : Array Value} (hh : A.handled = some (.ref y)) (he : s.heap.get? e = some oe) (hd : oe.data = .fields vs) (hz : 2 < vs.size) (hy : Behind s.heap (· ≠ e) y)
    (hE : E (.ref e) { s with heap := s.heap.update e (Obj.mapFields (·.setIfInBounds 2 (.ref y))) }) : wpAny (model prog w) A (raiseNew (.ref e) : Sem α) Q E s := by
  obtain ⟨n, z | ⟨a, o, ws, c, z, e1, e2, e3, e4, r⟩⟩ := hy
  · cases z
  cases z
  unfold raiseNew
  refine wpAny_bind (wpAny_handled ?_)
  rw [hh]
  dsimp only
  rw [if_pos (by simpa using e2)]
  refine wpAny_bind (wpAny_holding (wpAny_runValue (unchain_ok n e1 e3 e4 r (.refl _) ?_)))
  simp only [updateField]
  refine wpAny_bind (wpAny_bind (wpAny_load he ?_))
  rw [hd]
  dsimp only
  rw [if_pos hz]
  exact wpAny_update he (wpAny_throw hE)
theorem raiseStmt_behind {s : Shared} {x z : Sem Value} {Q : Flow → Shared → Prop} {y : Addr} (hbase : bm.contains (.type "BaseException") = true) (hh : A.handled = some (.ref y)) (hz : ∀ s', wpAny (model prog w) A z (fun v s'' => v = .none ∧ s'' = s') E s')
    (h : wpAny (model prog w) A x (fun v s₁ => ∃ e t, v = .ref e ∧ s₁.heap.get? C = some (excClassObj nm q C N bs bm hdct sn sub ab col dd k0 k1 k2 k3 k5 newId) ∧
      s₁.heap.get? e = some { cls := .ref C, data := .fields #[.ref t, .none, .none, .none, .bool false, .none] } ∧ Behind s₁.heap (· ≠ e) y ∧
      ∀ g, g.get? e = some { cls := .ref C, data := .fields #[.ref t, .none, .ref y, .none, .bool true, .none] } → (∀ b, b ≠ e → g.get? b = s₁.heap.get? b) → E (.ref e) { s₁ with heap := g }) E s) :
    wpAny (model prog w) A (raiseStmt env (some x) (some z)) Q E s := by
  have hcB : (Value.ref C :: bm).contains (.type "BaseException") = true := by rw [List.contains_cons, hbase, Bool.or_true]
  unfold raiseStmt
  refine wpAny_bind (wpAny_mono h (fun v s₁ h₁ => ?_) fun _ _ u => u)
  obtain ⟨e, t, rfl, hC, he, hy, hE⟩ := h₁
  refine wpAny_bind (wpAny_holding (wpAny_mono (hz s₁) (fun v s₂ h₂ => ?_) fun _ _ u => u))
  obtain ⟨rfl, rfl⟩ := h₂
  refine wpAny_bind (wpAny_pure ?_)
  obtain ⟨hp, g, d, tk, os⟩ := s₂
  have hne : C ≠ e := fun u => by rw [u] at hC; have hw := hC.symm.trans he; injection hw with hw; injection hw with _ _ hw; cases hw
  have he2 : ((hp.update e (Obj.mapFields (·.setIfInBounds 3 Value.none))).update e (Obj.mapFields (·.setIfInBounds 4 (Value.bool true)))).get? e = some { cls := .ref C, data := .fields #[.ref t, .none, .none, .none, .bool true, .none] } :=
    Heap.get?_update_self _ (Heap.get?_update_self _ he rfl) rfl
  have ot2 : ∀ b, b ≠ e → ((hp.update e (Obj.mapFields (·.setIfInBounds 3 Value.none))).update e (Obj.mapFields (·.setIfInBounds 4 (Value.bool true)))).get? b = hp.get? b := fun b n =>
    (Heap.get?_update_other _ _ (Ne.symm n)).trans (Heap.get?_update_other _ _ (Ne.symm n))
  have hC2 := (ot2 C hne).trans hC
  repeat (first | with_reducible refine wpAny_loadPart_at he2 ?_ | with_reducible refine wpAny_loadPart_at hC2 ?_ | with_reducible refine wpAny_loadPart_at he ?_ | with_reducible refine wpAny_loadPart_at hC ?_ | (with_reducible refine wpAny_isSubtype_exc hC ?_; rw [hcB]) | wp_step)
  refine raiseNew_behind hh he2 rfl (by show 2 < 6; decide) ?_ (hE _ (Heap.get?_update_self _ he2 rfl) fun b n => (Heap.get?_update_other _ _ (Ne.symm n)).trans (ot2 b n))
  obtain ⟨n, hy⟩ := hy
  exact ⟨n, hy.imp fun a o _ na ea _ => ⟨(ot2 a na).trans ea, na⟩⟩
end
end L2
namespace L2
open PySem
section
variable {prog : Program} {w : World} {A : Around} {E : Value → Shared → Prop} {s : Shared} {env : Env}
variable {nm q : Str} {C N : Addr} {bs bm bmB : List Value} {hdct : Bool} {sn : List Str} {sub : List Value} {ab : Bool} {col : Option Bool} {dd : Option Addr} {k0 k1 k2 k3 k5 : Option Value} {T newId initId : String}
theorem Raise_behind (F : ExcBaseFacts T newId initId bmB) {mN : Str → Option Value} {x : Str} {np cpos pos p2 : Pos} {j : Nat} {args : List Expr} {Q : Flow → Shared → Prop} {y : Addr} (hb : bm.contains (.type "BaseException") = true) (hh : A.handled = some (.ref y))
    (hp : (backTo cpos (starEach args env)).any (·.1) = false) (hi : mN "__init__" = none)
    (h : wpAny (model prog w) A (eval (.Name x np) env) (fun f s₁ => f = .ref C ∧ wpAny (model prog w) A (evalArgs (.ref C) true (backTo cpos (starEach args env)) [])
      (fun a s₂ => a.kw = [] ∧ a.pos.length ≤ sizeLine ∧ s₂.heap.get? C = some (excClassObj nm q C N bs bm hdct sn sub ab col dd k0 k1 k2 k3 k5 newId) ∧ s₂.heap.Ns N mN ∧ OwnTail s₂.heap bmB bm ∧
        ∀ h' e, Heap.MadeExcOf s₂.heap h' e (.ref C) a.pos → Behind h' (· ≠ e) y ∧ ∀ g t, g.get? e = some { cls := .ref C, data := .fields #[.ref t, .none, .ref y, .none, .bool true, .none] } → (∀ b, b ≠ e → g.get? b = h'.get? b) → E (.ref e) { s₂ with heap := g }) E s₁) E s) :
    wpAny (model prog w) A (exec (.Raise (some (.Call (.Name x np) args [] cpos)) (some (.Constant .none j p2)) pos) env) Q E s := by
  rw [arm_exec_Raise]
  refine wpAny_bind (wpAny_standAt (raiseStmt_behind (C := C) (N := N) (nm := nm) (q := q) (bs := bs) (bm := bm) (sn := sn) (sub := sub) (hdct := hdct) (ab := ab) (col := col) (dd := dd) (k0 := k0) (k1 := k1) (k2 := k2) (k3 := k3) (k5 := k5) (newId := newId) (y := y) hb hh (fun s' => ?_) ?_))
  · exact wpAny_bind (wpAny_Constant_none (wpAny_bind (wpAny_standAt (wpAny_pure ⟨rfl, rfl⟩))))
  refine wpAny_bind (wpAny_mono (wpAny_Call_ofName (wpAny_mono h (fun f s₁ z1 => ?_) fun _ _ u => u)) (fun v s₃ z3 => wpAny_bind (wpAny_standAt (wpAny_pure z3))) fun _ _ u => u)
  obtain ⟨rfl, z1⟩ := z1
  unfold callWith
  refine wpAny_bind (wpAny_holding (wpAny_mono z1 (fun a s₂ z2 => wpAny_bind (wpAny_standAt ?_)) fun _ _ u => u))
  obtain ⟨ap, ak⟩ := a
  obtain ⟨ek, hl, hC, hn, ht, z2⟩ := z2
  obtain rfl : ak = [] := ek
  obtain ⟨hp2, g, d, tk, os⟩ := s₂
  simp only [hp]
  refine wpAny_bind (wpAny_keeperOf_exc hC ?_)
  refine wpAny_bind (wpAny_call_exc_subT (hrest := hl) F ht hC hn hi fun h' e hm => wpAny_bind (wpAny_holding (wpAny_point (wpAny_pure ?_))))
  obtain ⟨t, e1, _, _⟩ := hm.there
  exact ⟨e, t, rfl, hm.keeps _ _ hC, e1, (z2 h' e hm).1, fun g y1 y2 => (z2 h' e hm).2 g t y1 y2⟩
end
end L2
namespace L2
open PySem PySem.Spec PyProof.Rows
theorem hok_none {P : Program} {w : World} {H : Hp} {h : Heap} {a : Addr} (x : HOk P w H h) (e : h.get? a = none) : H a = none := by
  cases q : H a with
  | none => rfl
  | some o =>
    have y := x a o q
    have : ∃ ob, h.get? a = some ob := by
      cases o with
      | lst xs => obtain ⟨_, _, _, _, e⟩ := y; exact ⟨_, e⟩
      | tup xs => obtain ⟨_, _, _, ⟨_, e, _⟩, _⟩ := y; exact ⟨_, e⟩
      | dK kvs => obtain ⟨_, _, _, _, o, _, _, e, _⟩ := y; exact ⟨_, e⟩
      | dT kvs => obtain ⟨_, _, _, _, o, _, _, e, _⟩ := y; exact ⟨_, e⟩
      | set S n => obtain ⟨o, _, _, _, e, _⟩ := y; exact ⟨_, e⟩
      | ins C dx fs => obtain ⟨_, _, _, e, _⟩ := y; exact ⟨_, e⟩
      | own y => obtain ⟨_, e⟩ := y; exact ⟨_, e⟩
      | xd fs => obtain ⟨_, ⟨_, _, _, e, _⟩, _⟩ := y; exact ⟨_, e⟩
      | rng lo hi => obtain ⟨_, _, _, e⟩ := y; exact ⟨_, e⟩
      | frz ob u => obtain ⟨e, _⟩ := y; exact ⟨_, e⟩
      | tbl ps => exact ⟨_, show h.get? a = some _ from y⟩
      | met f z => exact ⟨_, show h.get? a = some _ from y⟩
      | ext φ => obtain ⟨_, ⟨_, e⟩, _⟩ := y; exact ⟨_, e⟩
    obtain ⟨ob, z⟩ := this
    rw [e] at z; cases z
structure Flown (P : Program) (w : World) (outer : List Env) (H : Hp) (s : Shared) (x C : Addr) (c : Value) (B : Heap) (H' : Hp) (s' : Shared) : Prop where
  fly : Fl B outer x (.ref C) c .none s'.heap
  os : s'.os = s.os
  bare : AllBare s'.gens
  k1 : ∀ b o, s.heap.get? b = some o → H b = none → b ∉ frs outer → B.get? b = some o
  k2 : ∀ b o, s.heap.get? b = some o → H b = none → b ∈ frs outer → ∃ sl, s'.heap.get? b = some { o with slots := sl }
  k3 : ∀ b o, s.heap.get? b = some o → b ∉ frs outer → ∃ o', B.get? b = some o'
  free : ∀ b o, s.heap.get? b = some o → H b = none → H' b = none
  tups : ∀ b xs, H b = some (.tup xs) → H' b = some (.tup xs)
  frzs : ∀ b o u, H b = some (.frz o u) → H' b = some (.frz o u)
  tbls : ∀ b ps, H b = some (.tbl ps) → ∃ more, H' b = some (.tbl (ps ++ more))
  hok : HOk P w H' B
  new : H' x = none
  ch : ∃ n, Chain B (fun a => H' a = none) n c
noncomputable def CXR (P : Program) (w : World) : CXT := fun outer H s E e s' => ∃ (x C : Addr) (c : Value) (B : Heap) (H' : Hp), e = .ref x ∧ Flown P w outer H s x C c B H' s' ∧ E (.ref C) none H'
theorem Flown.un {P : Program} {w : World} {outer : List Env} {H : Hp} {s : Shared} {x C : Addr} {c : Value} {B : Heap} {H' : Hp} {s' : Shared} (F : Flown P w outer H s x C c B H' s') {h : Heap} (st : B.StaysIn h) (up : s'.heap.UpToSlots h) : Un (frs outer) [] H H' s.heap h := by
  have nf : ∀ b ∈ frs outer, ∀ o, s'.heap.get? b = some o → ∀ vs, o.data ≠ .fields vs := fun b hb o e => by
    obtain ⟨_, o', ho', n'⟩ := F.fly.2.2.1.mem hb
    rw [e] at ho'; cases ho'; exact n'
  refine ⟨fun b o e n hb _ => st b o (F.k1 b o e n hb), fun b o e n hb _ => ?_, fun b o e n _ => F.free b o e n, fun b o e _ => ?_, F.tups, F.frzs, F.tbls⟩
  · obtain ⟨sl, q⟩ := F.k2 b o e n hb
    obtain ⟨sl', q'⟩ := up b _ q (nf b hb _ q)
    exact ⟨sl', q'⟩
  · by_cases hb : b ∈ frs outer
    · obtain ⟨_, o', ho', n'⟩ := F.fly.2.2.1.mem hb
      obtain ⟨sl', q'⟩ := up b _ ho' n'
      exact ⟨_, q'⟩
    · obtain ⟨o', q⟩ := F.k3 b o e hb
      exact ⟨o', st b o' q⟩
section
variable {P : Program} {w : World} {K : PySem.W.Frag} {mg : Str → Option Value} {base : Heap} {N : List Str} {qual : Str} {scope : Scope} {f : Addr} {cd : Value} {A : Around} {outer : List Env} {s : Shared} {H : Hp} {E : XK}
theorem frs_cons {env : Env} {l : List Env} {b : Addr} (h : b ∈ frs l) : b ∈ frs (env :: l) := by
  unfold frs at h ⊢
  obtain ⟨e, he, hf⟩ := List.mem_filterMap.mp h
  exact List.mem_filterMap.mpr ⟨e, List.mem_cons_of_mem _ he, hf⟩
theorem cx_raise {pins : List (Addr × Obj)} {σ : St} {H1 : Hp} {s1 : Shared} {g : Heap} {x C : Addr} {oe : Obj} {vs : Array Value} {c : Value} (I : Inv (cxOf (CXR P w) P w K mg base N qual scope f cd A outer s H E) pins σ H1 s1)
    (kp : ∀ b o, s1.heap.get? b = some o → g.get? b = some o) (xn : s1.heap.get? x = none) (xg : g.get? x = some oe) (xk : oe.cls = .ref C) (xd : oe.data = .fields vs) (x1 : vs[1]? = some .none) (x2 : vs[2]? = some c) (xh : ∃ n, Chain s1.heap (fun a => H1 a = none) n c)
    (q : E (.ref C) none H1) : (cxOf (CXR P w) P w K mg base N qual scope f cd A outer s H E).xe (.ref x) { s1 with heap := g } := by
  have notF : ∀ b o, s.heap.get? b = some o → b ∉ frs outer → b ∉ frs (envOfC qual scope s.heap.objs.size f cd :: outer) := fun b o e hb z => by
    rcases List.mem_cons.mp (I.stkSub b z) with y | y
    · exact absurd (Heap.lt_size e) (by rw [y]; exact Nat.lt_irrefl _)
    · exact hb y
  have noex : ∀ b : Addr, b ∉ (cxOf (CXR P w) P w K mg base N qual scope f cd A outer s H E).ex := fun b z => absurd (show b ∈ ([] : List Addr) from z) (by simp)
  have fF : s1.heap.FunFrames (PySem.W.hideAll s1.heap (frs (envOfC qual scope s.heap.objs.size f cd :: outer))) (envOfC qual scope s.heap.objs.size f cd :: outer) :=
    PySem.W.funFrames_hide I.stack fun env he a ha => List.mem_filterMap.mpr ⟨env, he, ha⟩
  have notR : ∀ b o ws, s1.heap.get? b = some o → o.data = .fields ws → b ∉ frs (envOfC qual scope s.heap.objs.size f cd :: outer) := fun b o ws e2 e3 y => by
    obtain ⟨_, o', e4, n4⟩ := fF.mem y
    rw [e2] at e4; cases e4; exact n4 ws e3
  have nB : (PySem.W.hideAll s1.heap (frs (envOfC qual scope s.heap.objs.size f cd :: outer))).get? x = none := by
    cases z : (PySem.W.hideAll s1.heap (frs (envOfC qual scope s.heap.objs.size f cd :: outer))).get? x with
    | none => rfl
    | some o =>
      have z2 := PySem.W.of_hideAll _ z
      rw [xn] at z2; cases z2
  obtain ⟨n, xh⟩ := xh
  refine fl_leaveNew (s := { s1 with heap := g }) (B := PySem.W.hideAll s1.heap (frs (envOfC qual scope s.heap.objs.size f cd :: outer))) (outer := outer) (L := s.heap.objs.size) I.ok.frames (fF.of_keeps fun b o y _ => ⟨o, kp b o y, rfl⟩) rfl xg (fun b o z => kp b o (PySem.W.of_hideAll _ z)) nB xd x2 x1
    fun g2 fl up => ⟨x, C, c, _, H1, rfl, ⟨xk ▸ fl, I.os, I.bare, fun b o e n hb => ?_, fun b o e n hb => ?_, fun b o e hb => ?_, fun b o e n => I.base.free b o e n (noex b), I.base.tups, I.base.frzs, I.base.tbls, fun b u e => ?_, hok_none I.hok xn, n, xh.imp fun a o ws na ea da => ⟨PySem.W.hideAll_get _ ea (notR a o ws ea da), na⟩⟩, q⟩
  · exact PySem.W.hideAll_get _ (I.base.keep b o e n hb (noex b)) (notF b o e hb)
  · obtain ⟨sl, z⟩ := I.base.slot b o e n hb (noex b)
    obtain ⟨_, o', ho', nf⟩ := I.funs.mem hb
    rw [z] at ho'; cases ho'
    obtain ⟨sl', z'⟩ := up b _ (kp _ _ z) nf
    exact ⟨sl', z'⟩
  · obtain ⟨o', z⟩ := I.base.there b o e (noex b)
    exact ⟨o', PySem.W.hideAll_get _ z (notF b o e hb)⟩
  · have nfr : ∀ c v, H1 c = some v → c ∉ frs (envOfC qual scope s.heap.objs.size f cd :: outer) := fun c v e z => by
      rw [I.stkFree c z] at e; cases e
    refine (show ObjOk P w H1 s1.heap b u from I.hok b u e).stay (fun c v hc z => PySem.W.hideAll_get _ z ?_) (fun _ z => z) fun _ _ z => z
    rcases hc with y | y
    · rw [y]; exact nfr b u e
    · exact nfr c _ y
theorem cx_pass : Passes (CXR P w) (cxOf (CXR P w) P w K mg base N qual scope f cd A outer s H E) E := by
  intro pins σ H1 s1 e s' I h
  obtain ⟨x, C, c, B, H', rfl, F, q⟩ := h
  have noex : ∀ b : Addr, b ∉ (cxOf (CXR P w) P w K mg base N qual scope f cd A outer s H E).ex := fun b z => absurd (show b ∈ ([] : List Addr) from z) (by simp)
  have notF : ∀ b o, s.heap.get? b = some o → b ∉ frs outer → b ∉ frs (envOfC qual scope s.heap.objs.size f cd :: outer) := fun b o e hb z => by
    rcases List.mem_cons.mp (I.stkSub b z) with y | y
    · exact absurd (Heap.lt_size e) (by rw [y]; exact Nat.lt_irrefl _)
    · exact hb y
  refine fl_leave (outer := outer) (L := s.heap.objs.size) I.ok.frames rfl F.fly fun h'' fl up => ⟨x, C, c, B, H', rfl, ⟨fl, F.os.trans I.os, F.bare, fun b o e n hb => ?_, fun b o e n hb => ?_, fun b o e hb => ?_, fun b o e n => ?_, fun b xs e => F.tups b xs (I.base.tups b xs e), fun b o u e => F.frzs b o u (I.base.frzs b o u e), fun b ps e => ?_, F.hok, F.new, F.ch⟩, q⟩
  · exact F.k1 b o (I.base.keep b o e n hb (noex b)) (I.base.free b o e n (noex b)) (notF b o e hb)
  · obtain ⟨sl, z⟩ := I.base.slot b o e n hb (noex b)
    obtain ⟨sl', z'⟩ := F.k2 b _ z (I.base.free b o e n (noex b)) (frs_cons hb)
    have hb' : b ∈ frs (envOfC qual scope s.heap.objs.size f cd :: outer) := frs_cons hb
    obtain ⟨_, o2, ho2, nf2⟩ := F.fly.2.2.1.mem hb'
    rw [z'] at ho2; cases ho2
    obtain ⟨sl2, z2⟩ := up b _ z' nf2
    exact ⟨sl2, z2⟩
  · obtain ⟨o', z⟩ := I.base.there b o e (noex b)
    exact F.k3 b o' z (notF b o e hb)
  · obtain ⟨o', z⟩ := I.base.there b o e (noex b)
    exact F.free b o' z (I.base.free b o e n (noex b))
  · obtain ⟨m1, e1⟩ := I.base.tbls b ps e
    obtain ⟨m2, e2⟩ := F.tbls b _ e1
    exact ⟨m1 ++ m2, by rw [e2, Array.append_assoc]⟩
theorem Fun.okX {x qual : Str} {st : Stmt} {f : Addr} {fd : FuncData} {N ps : List Str} {k : Nat} {sp : Sp} (F : Fun K x qual st f fd) (S : FnScope N ps (defScope st)) (len : ∀ vs H Q E, sp vs H Q E → vs.length = ps.length)
    (hbody : ∀ (cdv : Value) (A : Around) (outer : List Env) (s : Shared) (H : Hp) (vs : List V) (Q : VK) (E : XK), Room k (A.deeper (envOfC qual (defScope st) s.heap.objs.size f cdv)) → sp vs H Q E →
      ∃ t, PSs (cxOf (CXR P w) P w K mg base N qual (defScope st) f cdv A outer s H E) (defBody st) t ∧ t { nx := fun _ H' => Q .non H', rt := Q } (start N vs) H) : FnOk P w K mg base (CXR P w) (k + 1) f fd ps sp := by
  obtain ⟨oc, od, kV, doc, pm, an, cdv, ct, osl, rfl, lk, hcd⟩ := F.ex
  exact fn_of lk hcd S len fun A outer s H vs Q E hr hsp => hbody cdv A outer s H vs Q E hr hsp
end
structure FnX (P : Program) (w : World) (K : PySem.W.Frag) (mg : Str → Option Value) (base : Heap) (x : Str) (f : Addr) (fd : FuncData) (ps : List Str) (k : Nat) (sp : Sp) : Prop where
  ok : FnOk P w K mg base (CXR P w) k f fd ps sp
  mg : mg x = some (.ref f)
  kp : PySem.W.keepIn K (.ref f) = true
  bd : Binds K fd ps []
end L2
namespace L2
open PySem PySem.Spec PyProof.Rows
structure Exc (K : PySem.W.Frag) (mg : Str → Option Value) (x : Str) (C : Addr) (mro : List Value) : Prop where
  bound : mg x = some (.ref C)
  isin : PySem.W.excIn K C [.type "ValueError", .type "Exception", .type "BaseException", .type "object"] "ValueError.__new__" = true
  mro : ∃ c d cd sl, K.lookup C = some ⟨c, d, .cls cd, sl⟩ ∧ cd.mro = mro
theorem Exc.obj {K : PySem.W.Frag} {mg : Str → Option Value} {x : Str} {C : Addr} {mro : List Value} (O : Exc K mg x C mro) {h : Heap} (X : K.In h) :
    ∃ bm N nm q bs hdct sn sub ab col dd k0 k1 k2 k3 k5 mN, h.get? C = some (excClassObj nm q C N bs bm hdct sn sub ab col dd k0 k1 k2 k3 k5 "ValueError.__new__") ∧ h.Ns N mN ∧ mN "__init__" = none ∧
      OwnTail h [.type "ValueError", .type "Exception", .type "BaseException", .type "object"] bm ∧ mro = .ref C :: bm := by
  obtain ⟨_, q, c0, d0, cd0, sl0, lk, em⟩ := O
  unfold PySem.W.excIn at q
  rw [lk] at q
  split at q
  · rename_i dd cd sl ho
    cases ho
    split at q
    · rename_i C' bm k0 k1 k2 k3 n k5 hm hs
      simp only [Bool.and_eq_true, beq_iff_eq, Bool.not_eq_true'] at q
      obtain ⟨⟨⟨⟨⟨rfl, rfl⟩, hdel⟩, ht⟩, hok⟩, hni⟩ := q
      obtain ⟨nm, bs, mr, ns, qn, hd, sn, sub, ab, col, del⟩ := cd0
      dsimp only at hm hdel hok hni em
      subst hm hdel
      have hsl : sl0 = #[k0, k1, k2, k3, some (.builtin "ValueError.__new__"), k5] := by
        obtain ⟨l⟩ := sl0
        simp only at hs
        rw [hs]
      subst hsl
      exact ⟨bm, ns, nm, qn, bs, hd, sn, sub, ab, col, d0, k0, k1, k2, k3, k5, _, X _ _ lk, .of_isNs (PySem.W.isNs_of_in X hok), PySem.W.nsMap_none_of_in X hok hni, PySem.W.tail_of_in X ht, em.symm⟩
    · cases q
  · cases q
noncomputable def tRaise (C : Addr) (E : XK) (ta : TA) : TS := fun _ σ H => ta σ H fun vs H1 => vs.length ≤ sizeLine ∧ E (.ref C) none H1
theorem ps_raise {P : Program} {w : World} {K : PySem.W.Frag} {mg : Str → Option Value} {base : Heap} {N : List Str} {qual : Str} {scope : Scope} {f : Addr} {cd : Value} {A : Around} {outer : List Env} {s₀ : Shared} {H₀ : Hp} {E : XK}
    {x : Str} {C : Addr} {mro : List Value} {e : Expr} {es : List Expr} {ta : TA} {np cpos pos : Pos} (O : Exc K mg x C mro) (ha : PA (cxOf (CXR P w) P w K mg base N qual scope f cd A outer s₀ H₀ E) (e :: es) ta)
    (hg : Gl (cxOf (CXR P w) P w K mg base N qual scope f cd A outer s₀ H₀ E) x := by rfl) (hdb : (x == ("__debug__" : Str)) = false := by decide)
    (he : starEach (e :: es) (envOfC qual scope s₀.heap.objs.size f cd) = (false, eval e (envOfC qual scope s₀.heap.objs.size f cd)) :: starEach es (envOfC qual scope s₀.heap.objs.size f cd) := by rfl)
    (hpl : (backTo cpos (starEach es (envOfC qual scope s₀.heap.objs.size f cd))).any (·.1) = false := by rfl) :
    PS (cxOf (CXR P w) P w K mg base N qual scope f cd A outer s₀ H₀ E) (.Raise (some (.Call (.Name x np) (e :: es) [] cpos)) none pos) (tRaise C E ta) := by
  intro pins s σ H D I h
  obtain ⟨bm, N', nm, q, bs, hdct, sn, sub, ab, col, dd, k0, k1, k2, k3, k5, mN, hC, hN, hni, T, _⟩ := O.obj I.ok.mod.kin
  refine wpAny_Raise_call_subT (C := C) (nm := nm) (q := q) (N := N') (bs := bs) (bm := bm) (hdct := hdct) (sn := sn) (sub := sub) (ab := ab) (col := col) (dd := dd) (k0 := k0) (k1 := k1) (k2 := k2) (k3 := k3) (k5 := k5) (mN := mN)
    PySem.F.excBase_ValueError (T.hasType PySem.F.excBase_ValueError.hasBase) (I.ok.hd rfl) ?_ hni (ld_glob I hg O.bound ⟨rfl, ?_⟩ hdb)
  · show (backTo cpos (starEach (e :: es) (envOfC qual scope s₀.heap.objs.size f cd))).any (·.1) = false
    rw [he]
    show (false || (backTo cpos (starEach es (envOfC qual scope s₀.heap.objs.size f cd))).any (·.1)) = false
    rw [hpl]; rfl
  have hA := ha cpos pins s σ H _ I h
  show wpAny _ _ (evalArgs (.ref C) true (backTo cpos (starEach (e :: es) (envOfC qual scope s₀.heap.objs.size f cd))) []) _ _ s
  have hA' : wpAny (model P w) (cxOf (CXR P w) P w K mg base N qual scope f cd A outer s₀ H₀ E).A (spliced (backTo cpos (starEach (e :: es) (envOfC qual scope s₀.heap.objs.size f cd)))) _ _ s := hA
  rw [he] at hA' ⊢
  refine Calls.evalArgs_plain (thn hA' fun us s1 ⟨vs, H1, I1, r, hz, q1⟩ => ⟨rfl, by rw [← r.length]; exact hz, I1.bk _ _ hC, hN.keeps I1.bk, T.keeps I1.bk, fun h' x' hm => (let ⟨t, e1, _, _⟩ := hm.there; cx_raise I1 hm.keeps hm.new e1 rfl rfl rfl rfl ⟨0, rfl⟩ q1)⟩)
noncomputable def XP (X : Cx) (pins : List (Addr × Obj)) (σ : St) (Ex : XK) (e : Value) (s' : Shared) : Prop := ∃ H1 s1, Inv X pins σ H1 s1 ∧ CXR X.prog X.w X.stack H1 s1 Ex e s'
noncomputable abbrev TX := St → Hp → VK → XK → Prop
noncomputable def PEx (X : Cx) (e : Expr) (t : TX) : Prop :=
  ∀ (pins : List (Addr × Obj)) (s : Shared) (σ : St) (H : Hp) (Q : VK) (Ex : XK), Inv X pins σ H s → t σ H Q Ex → wpAny (model X.prog X.w) X.A (eval e X.env) (EP X pins σ Q) (XP X pins σ Ex) s
section
variable {X : Cx} {e : Expr} {es : List Expr} {pos : Pos}
theorem noxe {α : Type} {t : Sem α} {Q : α → Shared → Prop} {M : Model} {A : Around} {E : Value → Shared → Prop} {s : Shared} (h : wpAny M A t Q X.nox.xe s) : wpAny M A t Q E s := wpAny_mono h (fun _ _ z => z) fun _ _ z => False.elim z
variable {k : Nat} {f C : Addr} {fd : FuncData} {ps : List Str} {sp : Sp} {m x : Str} {p apos : Pos} {o : Expr} {ta : TE} {t : TA}
theorem run_fnx {pins : List (Addr × Obj)} {σ : St} {H : Hp} {s : Shared} {Q : VK} {Ex : XK} {us : List Value} {vs : List V} (F : FnOk X.prog X.w X.K X.mg X.base (CXR X.prog X.w) k f fd ps sp) (hr : Room k X.A) (hb : Binds X.K fd ps [])
    (I : Inv X pins σ H s) (r : Vals vs us) (h : sp vs H Q Ex) : wpAny (model X.prog X.w) X.A (call (.ref f) us) (EP X pins σ Q) (XP X pins σ Ex) s := by
  have hl : (us ++ []).length = ps.length := by rw [List.append_nil, ← r.length]; exact F.len _ _ _ _ h
  have hb' := hb s us I.kIn hl
  rw [List.append_nil] at hb'
  refine wpAny_call (codeAny_mono (F.run X.A X.stack s H ⟨us, []⟩ us vs Q Ex hr I.env0 hb' r h) fun r s' hq => ?_)
  cases r with
  | error e => exact ⟨H, s, I, hq⟩
  | ok fl =>
    cases fl with
    | ret u => exact I.after hq
    | next => exact False.elim hq
    | brk => exact False.elim hq
    | cont => exact False.elim hq
theorem px_callV (i : Nat) {k' : Nat} (hv : PE X.nox (.Name x p) (tVar i)) (hr : Room k' X.A) (ha : PA X.nox (e :: es) t)
    (he : starEach (e :: es) X.env = (false, eval e X.env) :: starEach es X.env := by rfl) (hpl : (backTo pos (starEach es X.env)).any (·.1) = false := by rfl) :
    PEx X.nox (.Call (.Name x p) (e :: es) [] pos) (fun σ H Q Ex => ∃ f fd k ps sp, σ[i]? = some (some (.ref f)) ∧ FnOk X.prog X.w X.K X.mg X.base (CXR X.prog X.w) k f fd ps sp ∧ k ≤ k' ∧ PySem.W.keepIn X.K (.ref f) = true ∧ Binds X.K fd ps [] ∧ t σ H fun vs H1 => sp vs H1 Q Ex) := by
  intro pins s σ H Q Ex I h
  obtain ⟨f, fd, k, ps, sp, ef, F, hk, kp, hb, h⟩ := h
  refine wpAny_Call_Name_kw (thn (noxe (hv pins s σ H (fun v H' => v = .ref f ∧ H' = H) I ⟨_, ef, rfl, rfl⟩)) fun u s1 ⟨v, H1, I1, rv, ev, eH⟩ => ?_)
  subst ev eH
  obtain rfl : u = Value.ref f := rv
  refine PySem.W.callWith_K (h₀ := X.base) I.ok.mod.kin kp (thn (noxe (ha pos pins s1 σ H1 _ I1 h)) fun us s2 ⟨vs, H2, I2, r, q⟩ => ⟨I2.kIn, ?_⟩) he hpl
  exact run_fnx (X := X.nox) F (hr.mono hk) hb I2 r q
theorem px_call (F : FnOk X.prog X.w X.K X.mg X.base (CXR X.prog X.w) k f fd ps sp) (hr : Room k X.A) (hg : Gl X x) (hm : X.mg x = some (.ref f)) (hk : PySem.W.keepIn X.K (.ref f) = true) (hb : Binds X.K fd ps []) (ha : PA X.nox (e :: es) t)
    (hdb : (x == ("__debug__" : Str)) = false := by decide) (he : starEach (e :: es) X.env = (false, eval e X.env) :: starEach es X.env := by rfl) (hpl : (backTo pos (starEach es X.env)).any (·.1) = false := by rfl) :
    PEx X.nox (.Call (.Name x p) (e :: es) [] pos) (fun σ H Q Ex => t σ H fun vs H1 => sp vs H1 Q Ex) := by
  intro pins s σ H Q Ex I h
  refine wpAny_Call_Name_kw (ld_glob I hg hm ?_ hdb)
  refine PySem.W.callWith_K (h₀ := X.base) I.ok.mod.kin hk (thn (noxe (ha pos pins s σ H _ I h)) fun us s1 ⟨vs, H1, I1, r, q⟩ => ⟨I1.kIn, ?_⟩) he hpl
  exact run_fnx (X := X.nox) F hr hb I1 r q
end
theorem exc_matches {M : Model} {A : Around} {E : Value → Shared → Prop} {nm q nm' q' : Str} {C N D N' : Addr} {bs bm bs' bm' : List Value} {hdct hdct' : Bool} {sn sn' : List Str} {sub sub' : List Value} {ab ab' : Bool} {col col' : Option Bool} {dd dd' : Option Addr} {k0 k1 k2 k3 k5 l0 l1 l2 l3 l5 : Option Value} {newId newId' : String}
    {h : Heap} {g : Array GenState} {d : Drawn} {t : Nat} {os : OsState} {e : Addr} {oe : Obj} {Q : Bool → Shared → Prop}
    (hC : h.get? C = some (excClassObj nm q C N bs bm hdct sn sub ab col dd k0 k1 k2 k3 k5 newId)) (hD : h.get? D = some (excClassObj nm' q' D N' bs' bm' hdct' sn' sub' ab' col' dd' l0 l1 l2 l3 l5 newId'))
    (he : h.get? e = some oe) (hcls : oe.cls = .ref C) (hbase : bm'.contains (.type "BaseException") = true) (hq : Q ((Value.ref C :: bm).contains (.ref D)) ⟨h, g, d, t, os⟩) : wpAny M A (excMatches (.ref e) (.ref D)) Q E ⟨h, g, d, t, os⟩ := by
  have hcB : (Value.ref D :: bm').contains (.type "BaseException") = true := by rw [List.contains_cons, hbase, Bool.or_true]
  have f := tc_notTuple
  unfold excMatches
  cases hb : (Value.ref C :: bm).contains (.ref D) with
  | true =>
    rw [hb] at hq
    repeat (first | (with_reducible refine wpAny_loadPart_at he ?_; rw [hcls]) | with_reducible refine wpAny_loadPart_at hD ?_ | (with_reducible refine wpAny_isSubtype_exc hD ?_; rw [hcB]) | (with_reducible refine wpAny_isSubtype_exc hC ?_; rw [hb]) | wp_step)
    exact hq
  | false =>
    rw [hb] at hq
    repeat (first | (with_reducible refine wpAny_loadPart_at he ?_; rw [hcls]) | with_reducible refine wpAny_loadPart_at hD ?_ | (with_reducible refine wpAny_isSubtype_exc hD ?_; rw [hcB]) | (with_reducible refine wpAny_isSubtype_exc hC ?_; rw [hb]) | wp_step)
    exact hq
noncomputable abbrev Cx.caught (X : Cx) (x : Addr) (ps : List (Addr × Obj)) : Cx := { X with A := X.A.mark (some (.ref x)), calm := false, pn := ps ++ X.pn }
theorem caught_ok {X : Cx} {e : Addr} {ps : List (Addr × Obj)} (ok : X.Ok) : (X.caught e ps).Ok :=
  ⟨ok.mod, ok.kind, ok.glob, ok.blt, ok.above, ok.inj, ok.has, ok.cab, fun z => absurd (show false = true from z) Bool.false_ne_true, ok.frames, ok.stk, ok.exf, ok.bs, ok.bsz, ok.noex, ok.exfs, ok.funs, ok.frf⟩
theorem Inv.caught {X : Cx} {e : Addr} {ps pins : List (Addr × Obj)} {σ : St} {H : Hp} {s : Shared} (I : Inv X pins σ H s) (hp : ∀ p ∈ ps, s.heap.get? p.1 = some p.2 ∧ H p.1 = none ∧ p.1 ≠ X.env.locals ∧ p.1 ∉ X.fs ∧ ∀ v, p.2.data ≠ .cell v) : Inv (X.caught e ps) pins σ H s :=
  ⟨caught_ok I.ok, I.os, I.bare, I.base, I.loc, I.cell, I.free, I.freeC, fun p z => by
    rcases List.mem_append.mp z with z | z
    · rcases List.mem_append.mp z with z | z
      · exact hp p z
      · exact I.pin p (List.mem_append_left _ z)
    · exact I.pin p (List.mem_append_right _ z), I.hok, I.len⟩
theorem Inv.uncaught {X : Cx} {e : Addr} {ps pins : List (Addr × Obj)} {σ : St} {H : Hp} {s : Shared} (ok : X.Ok) (I : Inv (X.caught e ps) pins σ H s) : Inv X pins σ H s := ⟨ok, I.os, I.bare, I.base, I.loc, I.cell, I.free, I.freeC, fun p z => I.pin p (by
    rcases List.mem_append.mp z with z | z
    · exact List.mem_append_left _ (List.mem_append_right _ z)
    · exact List.mem_append_right _ z), I.hok, I.len⟩
theorem SP.uncaught {X : Cx} {e : Addr} {ps pins : List (Addr × Obj)} {D : Ends} {f : Flow} {s : Shared} (ok : X.Ok) (h : SP (X.caught e ps) pins D f s) : SP X pins D f s := by
  cases f with
  | next => obtain ⟨σ', H', I', q⟩ := h; exact ⟨σ', H', I'.uncaught ok, q⟩
  | brk => obtain ⟨σ', H', I', q⟩ := h; exact ⟨σ', H', I'.uncaught ok, q⟩
  | cont => obtain ⟨σ', H', I', q⟩ := h; exact ⟨σ', H', I'.uncaught ok, q⟩
  | ret v => obtain ⟨x, σ', H', I', r, q⟩ := h; exact ⟨x, σ', H', I'.uncaught ok, r, q⟩
noncomputable def HeadP (ps : List (Addr × Obj)) (x : Addr) : Prop := ∃ n, ChainP ps (n + 1) (.ref x)
inductive Hs (X : Cx) : List ExceptHandler → List (Addr × TS) → Prop where
  | nil : Hs X [] []
  | cons {x : Str} {C : Addr} {mro : List Value} {b₀ : Stmt} {suite : List Stmt} {pos np : Pos} {rest : List ExceptHandler} {ts : TS} {l : List (Addr × TS)} (O : Exc X.K X.mg x C mro) (hg : Gl X x) (hdb : (x == ("__debug__" : Str)) = false)
      (hs : ∀ e ps, X.Ok → HeadP ps e → PSs (X.caught e ps) (b₀ :: suite) ts) (r : Hs X rest l) : Hs X (.ExceptHandler (some (.Name x np)) none (b₀ :: suite) pos :: rest) ((C, ts) :: l)
noncomputable def pickH (mro : List Value) : List (Addr × TS) → Option TS
  | [] => none
  | (C, t) :: r => if mro.contains (.ref C) = true then some t else pickH mro r
noncomputable abbrev TSx := Ends → XK → St → Hp → Prop
noncomputable def PSx (X : Cx) (st : Stmt) (t : TSx) : Prop :=
  ∀ (pins : List (Addr × Obj)) (s : Shared) (σ : St) (H : Hp) (D : Ends) (Ex : XK), Inv X pins σ H s → t D Ex σ H → wpAny (model X.prog X.w) X.A (exec st X.env) (SP X pins D) (XP X pins σ Ex) s
theorem psx_ret {X : Cx} {e : Expr} {te : TX} {ap : Pos} (he : PEx X.nox e te) : PSx X.nox (.Return (some e) ap) (fun D Ex σ H => te σ H D.rt Ex) := by
  intro pins s σ H D Ex I h
  exact wpAny_Return_some (thn (he pins s σ H _ _ I h) fun v s1 ⟨y, H1, I1, r1, q1⟩ => ⟨y, σ, H1, I1, r1, q1⟩)
noncomputable def tTry (K : PySem.W.Frag) (mg : Str → Option Value) (te : TSx) (l : List (Addr × TS)) : TS := fun D σ H => te D (fun c _ H1 => ∃ x C mro t, c = .ref C ∧ Exc K mg x C mro ∧ pickH mro l = some t ∧ t D σ H1) σ H
theorem ps_try {X : Cx} {st : Stmt} {te : TSx} {h₀ : ExceptHandler} {hs : List ExceptHandler} {l : List (Addr × TS)} {pos : Pos} (he : PSx X.nox st te) (hh : Hs X (h₀ :: hs) l) (hf : X.env.frame = some X.env.locals) (hst : X.stack = X.env :: X.outer)
    (hpa : ∀ v, PassesOwnAt (model X.prog X.w) (X.A.mark v) X.A X.env X.xe) : PS X (.Try [st] (h₀ :: hs) [] [] pos) (tTry X.K X.mg te l) := by
  intro pins s σ H D I h
  refine wpAny_Try_except ?_
  refine wpAny_mono (Q := SP X.nox pins D) (E := XP X.nox pins σ fun c _ H1 => ∃ x C mro t, c = .ref C ∧ Exc X.K X.mg x C mro ∧ pickH mro l = some t ∧ t D σ H1) ?_ (fun f s1 q => ?_) fun ev s1 q => ?_
  · refine wpAny_execs_cons (thn (he pins s σ H D _ (I.wish _) h) fun f s1 q => ?_)
    cases f with
    | next => exact wpAny_execs_nil q
    | ret v => exact q
    | brk => exact q
    | cont => exact q
  · cases f with
    | next => exact wpAny_execs_nil (SP.unwish q)
    | ret v => exact SP.unwish q
    | brk => exact SP.unwish q
    | cont => exact SP.unwish q
  obtain ⟨H1, s2, I1, xa, C, c, B, H', rfl, F, nmx, C', mro, t, ec, O, pk, qt⟩ := q
  cases ec
  have F' : Flown X.prog X.w (X.env :: X.outer) H1 s2 xa C c B H' s1 := by
    have : Flown X.prog X.w X.stack H1 s2 xa C c B H' s1 := F
    rw [hst] at this; exact this
  have hfr : X.A.frames = some (X.env :: X.outer) := by rw [← hst]; exact I.ok.frames
  have I1' : Inv X pins σ H1 s2 := I1.unwish
  refine fl_note hfr hf F'.fly fun h4 held4 up4 => ?_
  refine fl_land (s := { s1 with heap := h4 }) held4 fun h5 fl5 up5' => ?_
  have up5 := up4.trans up5'
  -- whatever the handlers find, the names stand
  have inv : ∀ {h : Heap}, B.StaysIn h → s1.heap.UpToSlots h → Inv X pins σ H' { s1 with heap := h } := fun {h} st up => by
    have u := F.un st up
    exact I1'.call' (s' := { s1 with heap := h }) (ch := []) F.os u (F.hok.kept st) F.bare fun b z => absurd z (by simp)
  have ok := I.ok
  have main : ∀ {hs' : List ExceptHandler} {l' : List (Addr × TS)}, Hs X hs' l' → pickH mro l' = some t → wpAny (model X.prog X.w) X.A (handleBy (.ref xa) X.env hs') (SP X pins D) X.xe { s1 with heap := h5 } := by
    intro hs' l' hH
    induction hH with
    | nil => intro z; cases z
    | @cons nm2 C2 mro2 b₀ suite p2 np rest ts l2 O2 hg hdb hsu r ih =>
      intro z
      have I5 : Inv X pins σ H' { s1 with heap := h5 } := inv fl5.1 up5
      refine wpAny_handleBy_cons (codeAny_handlers_test ?_) (by intro q; cases q)
      have Ic : Inv (X.caught xa []) pins σ H' { s1 with heap := h5 } := I5.caught fun p hp => absurd hp (by simp)
      refine wpAny_mono (E := fun _ _ => False) (ld_glob Ic hg O2.bound (Q := fun c s' => c = .ref C2 ∧ s' = { s1 with heap := h5 }) ⟨rfl, rfl⟩ hdb) (fun c s' hc => ?_) fun _ _ z => z.elim
      obtain ⟨rfl, rfl⟩ := hc
      obtain ⟨bm, N1, nm, q1, bs, hdct, sn, sub, ab, col, dd, k0, k1, k2, k3, k5, mN, hC, _, _, T, em⟩ := O.obj I5.kIn
      obtain ⟨bm', N1', nm', q1', bs', hdct', sn', sub', ab', col', dd', l0, l1, l2', l3, l5, mN', hC', _, _, T', em'⟩ := O2.obj I5.kIn
      obtain ⟨ob, vs5, _, _, _, hob, hobc, _⟩ := fl5.2.2.2
      refine exc_matches (oe := ob) hC hC' hob hobc (T'.hasType PySem.F.excBase_ValueError.hasBase) ?_
      rw [← em]
      cases hb : mro.contains (.ref C2) with
      | true =>
        have z' : (if mro.contains (.ref C2) = true then some ts else pickH mro l2) = some t := z
        rw [hb, if_pos rfl] at z'
        cases z'
        refine codeAny_handlers_suite ?_
        refine fl_land (s := { s1 with heap := h5 }) fl5 fun h6 fl6 up6 => ?_
        have I6 : Inv X pins σ H' { s1 with heap := h6 } := inv fl6.1 (up5.trans up6)
        obtain ⟨oe, vs, _, _, _, g1, g2, g3, g4, _⟩ := fl6.2.2.2
        obtain ⟨n, chn⟩ := F.ch
        have chn6 : Chain h6 (fun a => H' a = none) (n + 1) (.ref xa) := .inr ⟨xa, oe, vs, c, rfl, g1, F.new, g3, g4, chn.imp fun a o ws na ea _ => ⟨fl6.1 a o ea, na⟩⟩
        obtain ⟨ps, pk1, pk2⟩ := chn6.pins
        have Ic6 : Inv (X.caught xa ps) pins σ H' { s1 with heap := h6 } := I6.caught fun p hp => by
          obtain ⟨a1, a2, ws, a3⟩ := pk1 p hp
          refine ⟨a1, a2, fun y => ?_, fun y => ?_, fun v y => ?_⟩
          · obtain ⟨m, ⟨o', es, ep, ho', hd', _⟩, _⟩ := I6.loc
            rw [y] at a1
            have a1' : h6.get? X.env.locals = some o' := ho'
            rw [a1'] at a1; cases a1
            rw [hd'] at a3; cases a3
          · obtain ⟨_, o', ho', n'⟩ := I6.funs.mem y
            have a1' : h6.get? p.1 = some o' := ho'
            rw [a1'] at a1; cases a1
            exact n' ws a3
          · rw [a3] at y; cases y
        refine wpAny_passesOwnAt (hpa _) ?_
        exact wpAny_mono (hsu xa ps ok ⟨n, pk2⟩ pins _ σ H' D Ic6 qt) (fun f s' q => SP.uncaught ok q) fun _ _ q => q
      | false =>
        have z' : (if mro.contains (.ref C2) = true then some ts else pickH mro l2) = some t := z
        rw [hb, if_neg Bool.false_ne_true] at z'
        exact ih z'
  exact main hh pk
theorem ps_raiseH {P : Program} {w : World} {K : PySem.W.Frag} {mg : Str → Option Value} {base : Heap} {N : List Str} {qual : Str} {scope : Scope} {f : Addr} {cd : Value} {A : Around} {outer : List Env} {s₀ : Shared} {H₀ : Hp} {E : XK} {y : Addr} {ps : List (Addr × Obj)}
    {x : Str} {C : Addr} {mro : List Value} {e : Expr} {es : List Expr} {ta : TA} {np cpos pos p2 : Pos} {j : Nat} (ok : (cxOf (CXR P w) P w K mg base N qual scope f cd A outer s₀ H₀ E).Ok) (hd : HeadP ps y) (O : Exc K mg x C mro) (ha : PA ((cxOf (CXR P w) P w K mg base N qual scope f cd A outer s₀ H₀ E).caught y ps) (e :: es) ta)
    (hg : Gl (cxOf (CXR P w) P w K mg base N qual scope f cd A outer s₀ H₀ E) x := by rfl) (hdb : (x == ("__debug__" : Str)) = false := by decide)
    (he : starEach (e :: es) (envOfC qual scope s₀.heap.objs.size f cd) = (false, eval e (envOfC qual scope s₀.heap.objs.size f cd)) :: starEach es (envOfC qual scope s₀.heap.objs.size f cd) := by rfl)
    (hpl : (backTo cpos (starEach es (envOfC qual scope s₀.heap.objs.size f cd))).any (·.1) = false := by rfl) :
    PS ((cxOf (CXR P w) P w K mg base N qual scope f cd A outer s₀ H₀ E).caught y ps) (.Raise (some (.Call (.Name x np) (e :: es) [] cpos)) (some (.Constant .none j p2)) pos) (tRaise C E ta) := by
  intro pins s σ H D I h
  obtain ⟨bm, N', nm, q, bs, hdct, sn, sub, ab, col, ddd, k0, k1, k2, k3, k5, mN, hC, hN, hni, T, _⟩ := O.obj I.ok.mod.kin
  refine Raise_behind (C := C) (nm := nm) (q := q) (N := N') (bs := bs) (bm := bm) (hdct := hdct) (sn := sn) (sub := sub) (ab := ab) (col := col) (dd := ddd) (k0 := k0) (k1 := k1) (k2 := k2) (k3 := k3) (k5 := k5) (mN := mN) (y := y)
    PySem.F.excBase_ValueError (T.hasType PySem.F.excBase_ValueError.hasBase) rfl ?_ hni (ld_glob I hg O.bound ⟨rfl, ?_⟩ hdb)
  · show (backTo cpos (starEach (e :: es) (envOfC qual scope s₀.heap.objs.size f cd))).any (·.1) = false
    rw [he]
    show (false || (backTo cpos (starEach es (envOfC qual scope s₀.heap.objs.size f cd))).any (·.1)) = false
    rw [hpl]; rfl
  have hA := ha cpos pins s σ H _ I h
  show wpAny _ _ (evalArgs (.ref C) true (backTo cpos (starEach (e :: es) (envOfC qual scope s₀.heap.objs.size f cd))) []) _ _ s
  have hA' : wpAny (model P w) ((cxOf (CXR P w) P w K mg base N qual scope f cd A outer s₀ H₀ E).caught y ps).A (spliced (backTo cpos (starEach (e :: es) (envOfC qual scope s₀.heap.objs.size f cd)))) _ _ s := hA
  rw [he] at hA' ⊢
  refine Calls.evalArgs_plain (thn hA' fun us s1 ⟨vs, H1, I1, r, hz, q1⟩ => ⟨rfl, by rw [← r.length]; exact hz, I1.bk _ _ hC, hN.keeps I1.bk, T.keeps I1.bk, fun h' x' hm => ?_⟩)
  obtain ⟨n, hd⟩ := hd
  have pin1 : ∀ p ∈ ps, s1.heap.get? p.1 = some p.2 ∧ H1 p.1 = none := fun p z => let w := I1.pin p (List.mem_append_left _ (List.mem_append_left _ z)); ⟨w.1, w.2.1⟩
  refine ⟨⟨n, hd.chain fun p z => ⟨hm.keeps _ _ (pin1 p z).1, fun z2 => ?_⟩⟩, fun g t y1 y2 => ?_⟩
  · have z3 := (pin1 p z).1
    rw [z2, hm.new] at z3; cases z3
  · refine cx_raise (I1.uncaught ok) (fun b o z => (y2 b fun z2 => ?_).trans (hm.keeps b o z)) hm.new y1 rfl rfl rfl rfl ⟨n + 1, hd.chain pin1⟩ q1
    rw [z2, hm.new] at z; cases z
structure RoomH (k : Nat) (A : Around) : Prop where
  dp : A.depth + 3 * k + 5 < recursionLimit
  un : A.units + 16 * k + 200 < cLine
theorem Room.h {k : Nat} {A : Around} (r : Room k A) (v : Option Value) : RoomH k (A.mark v) := ⟨r.dp, r.un⟩
structure FnOkH (P : Program) (w : World) (K : PySem.W.Frag) (mg : Str → Option Value) (base : Heap) (k : Nat) (f : Addr) (fd : FuncData) (ps : List Str) (sp : Sp) : Prop where
  len : ∀ vs H Q E, sp vs H Q E → vs.length = ps.length
  run : ∀ (A : Around) (outer : List Env) (s : Shared) (H : Hp) (args : Args) (us : List Value) (vs : List V) (Q : VK) (E : XK), RoomH k A → Env0 P w K mg base A outer s H → BindsTo s fd args (ps.zip us) → Vals vs us → sp vs H Q E →
    codeAny (model P w) A (.call (.ref f) args) (CR CX0 outer P w H s Q E) s
noncomputable abbrev Cx.uncalm (X : Cx) : Cx := { X with calm := false }
section
variable {P : Program} {w : World} {K : PySem.W.Frag} {mg : Str → Option Value} {base : Heap}
theorem Fun.okH {x qual : Str} {st : Stmt} {f : Addr} {fd : FuncData} {N ps : List Str} {k : Nat} {sp : Sp} (F : Fun K x qual st f fd) (S : FnScope N ps (defScope st)) (len : ∀ vs H Q E, sp vs H Q E → vs.length = ps.length)
    (hbody : ∀ (cdv : Value) (A : Around) (outer : List Env) (s : Shared) (H : Hp) (vs : List V) (Q : VK) (E : XK), sp vs H Q E →
      ∃ t, PSs (cxOf CX0 P w K mg base N qual (defScope st) f cdv A outer s H E).uncalm.nox (defBody st) t ∧ t { nx := fun _ H' => Q .non H', rt := Q } (start N vs) H) : FnOkH P w K mg base (k + 1) f fd ps sp := by
  obtain ⟨oc, od, kV, doc, pm, an, cdv, ct, osl, rfl, lk, hcd⟩ := F.ex
  refine ⟨len, fun A outer s H args us vs Q E hr e0 hb r hsp => ?_⟩
  have hl := len _ _ _ _ hsp
  have KX : K.In s.heap := e0.mod.kin.keeps fun b o e => (e0.bs b o e).1
  have lim : s.heap.NoLimit := e0.mod.nolimit.keeps fun b o e => (e0.bs b o e).1
  have hkind : ∀ y ∈ ps.zip us, (defScope st).names.lookup y.1 = some .local ∨ ((defScope st).names.lookup y.1 = some .cell ∧ ((cellsFrom (s.heap.objs.size + 1) (defScope st).names []).lookup y.1).isSome = true) := fun ⟨n, v⟩ hy => by
    rcases S.par n (List.of_mem_zip hy).1 with q | q
    · exact .inl q
    · exact .inr ⟨q, PySem.W.cellsFrom_some _ _ _ (.inl q)⟩
  refine codeAny_call_function (by have := hr.dp; lia) (KX _ _ lk) rfl S.co S.gen rfl (PySem.W.codeRec_of KX hcd) (hb _ _ _ _ ?_)
  refine wpAny_newFunctionEnv_cells S.kind hkind fun env he s1 x => ?_
  subst he
  refine ⟨lim.keeps x.toInCall.keep, codeAny_func ?_⟩
  obtain ⟨t, ht, hq⟩ := hbody cdv A outer s H vs Q E hsp
  have e1 : Env0 P w K mg base { A with handled := none } outer s H := ⟨e0.frames, e0.mod, e0.bs, e0.bsz, e0.funs, e0.frf, e0.hok, e0.bare⟩
  have I0 : Inv (cxOf CX0 P w K mg base N qual (defScope st) f cdv { A with handled := none } outer s H E) [] (start N vs) H s1 := inv_start S rfl e1 hl r x
  have I : Inv (cxOf CX0 P w K mg base N qual (defScope st) f cdv A outer s H E).uncalm.nox [] (start N vs) H s1 :=
    ⟨⟨I0.ok.mod, I0.ok.kind, I0.ok.glob, I0.ok.blt, I0.ok.above, I0.ok.inj, I0.ok.has, I0.ok.cab, fun z => absurd (show false = true from z) Bool.false_ne_true, Around.frames_deeper e0.frames, I0.ok.stk, I0.ok.exf, I0.ok.bs, I0.ok.bsz, I0.ok.noex, I0.ok.exfs, I0.ok.funs, I0.ok.frf⟩, I0.os, I0.bare, I0.base, I0.loc, I0.cell, I0.free, I0.freeC, I0.pin, I0.hok, I0.len⟩
  refine wpAny_mono (ht [] s1 (start N vs) H _ I hq) (fun fl s' hs => ?_) fun e s' hs => False.elim hs
  have fin : ∀ {σ' : St} {H' : Hp} {v : V} {u : Value}, Inv (cxOf CX0 P w K mg base N qual (defScope st) f cdv A outer s H E).uncalm.nox [] σ' H' s' → RelV v u → Q v H' → CE outer P w H s Q u s' :=
    fun {σ' H' v u} J rv q => ⟨v, H', J.os, J.bare, J.base, J.hok, rv, q⟩
  cases fl with
  | ret u =>
    obtain ⟨v, σ', H', J, rv, q⟩ := hs
    exact fin J rv q
  | next =>
    obtain ⟨σ', H', J, q⟩ := hs
    exact fin (v := V.non) (u := Value.none) J rfl q
  | brk =>
    obtain ⟨_, _, _, q⟩ := hs
    exact False.elim q
  | cont =>
    obtain ⟨_, _, _, q⟩ := hs
    exact False.elim q
end
section
variable {X : Cx} {k : Nat} {f C : Addr} {fd : FuncData} {ps : List Str} {sp : Sp} {m : Str} {pos apos : Pos} {e o : Expr} {es : List Expr} {ta : TE} {t : TA}
theorem pe_methH {pl : Sem Bool} (he : PE X o ta) (c : Cls X.K C) (hm : Meth X.K C m f) (F : FnOkH X.prog X.w X.K X.mg X.base k f fd ps sp) (hr : RoomH k X.A) (hb : Binds X.K fd ps []) (ha : PA X (e :: es) t)
    (hst : starEach (e :: es) X.env = (false, eval e X.env) :: starEach es X.env := by rfl) (hpl : (backTo pos (starEach es X.env)).any (·.1) = false := by rfl)
    (ht : eval (.Call (.Attribute o m apos) (e :: es) [] pos) X.env = (do
      let ov ← eval o X.env
      standAt apos.atName
      let (f, first) ← holding [ov] (getMethod ov m pl)
      callWith pos f first (backTo pos (starEach (e :: es) X.env)) (backToKw pos (keywordEach [] X.env))) := by rfl) :
    PE X (.Call (.Attribute o m apos) (e :: es) [] pos) (tMeth C m sp [] E0 ta t) := by
  intro pins s σ H Q I h
  refine PySem.W.methodCall_KW (pl := pl) (thn (he pins s σ H _ I h) fun u s1 ⟨x, H1, I1, rx, a, dx, fs, ex, ea, l, q⟩ => ?_) ht
  subst ex
  obtain rfl : u = Value.ref a := rx
  refine getmeth_ok I1 ea c hm l ?_
  refine PySem.W.callWith_K (first := [.ref a]) (h₀ := X.base) I.ok.mod.kin hm.kp (thn (ha pos pins s1 σ H1 _ I1 q) fun us s2 ⟨vs, H2, I2, r, q2⟩ => ⟨I2.kIn, ?_⟩) hst hpl
  have q2 : sp (.ref a :: (vs ++ [])) H2 Q E0 := q2
  rw [List.append_nil] at q2
  have r2 : Vals (.ref a :: vs) (.ref a :: us) := .cons rfl r
  have hl : ((.ref a :: us) ++ ([] : List Value)).length = ps.length := by rw [List.append_nil, ← r2.length]; exact F.len _ _ _ _ q2
  have hb' := hb s2 (.ref a :: us) I2.kIn hl
  rw [List.append_nil] at hb'
  refine wpAny_call (codeAny_mono (F.run X.A X.stack s2 H2 ⟨.ref a :: us, []⟩ (.ref a :: us) (.ref a :: vs) Q E0 hr I2.env0 hb' r2 q2) fun r s' hq => ?_)
  cases r with
  | error e => exact False.elim hq
  | ok fl =>
    cases fl with
    | ret u => exact I2.after hq
    | next => exact False.elim hq
    | brk => exact False.elim hq
    | cont => exact False.elim hq
end
section
variable {P : Program} {w : World} {K : PySem.W.Frag} {mg : Str → Option Value} {base : Heap} {N : List Str} {qual : Str} {scope : Scope} {f' : Addr} {cd : Value} {A : Around} {outer : List Env} {s₀ : Shared} {H₀ : Hp} {E : XK}
  {x : Str} {f : Addr} {fd : FuncData} {ps : List Str} {k k' : Nat} {sp : Sp} {e : Expr} {es : List Expr} {t : TA} {p pos : Pos}
theorem pe_fnX (F : FnX P w K mg base x f fd ps k sp) (hr : Room k' (cxOf (CXR P w) P w K mg base N qual scope f' cd A outer s₀ H₀ E).A) (ha : PA (cxOf (CXR P w) P w K mg base N qual scope f' cd A outer s₀ H₀ E) (e :: es) t) (hk : k ≤ k' := by first | decide | exact Nat.le_refl _) (hg : Gl (cxOf (CXR P w) P w K mg base N qual scope f' cd A outer s₀ H₀ E) x := by rfl) (hdb : (x == ("__debug__" : Str)) = false := by decide)
    (he : starEach (e :: es) (envOfC qual scope s₀.heap.objs.size f' cd) = (false, eval e (envOfC qual scope s₀.heap.objs.size f' cd)) :: starEach es (envOfC qual scope s₀.heap.objs.size f' cd) := by rfl) (hpl : (backTo pos (starEach es (envOfC qual scope s₀.heap.objs.size f' cd))).any (·.1) = false := by rfl) :
    PE (cxOf (CXR P w) P w K mg base N qual scope f' cd A outer s₀ H₀ E) (.Call (.Name x p) (e :: es) [] pos) (tCall sp [] E t) :=
  pe_call F.ok (hr.mono hk) hg F.mg F.kp F.bd .nil cx_pass ha hdb he hpl
end
section
variable {X : Cx} {x : Str} {f : Addr} {fd : FuncData} {ps : List Str} {k k' : Nat} {sp : Sp} {e : Expr} {es : List Expr} {t : TA} {p pos : Pos}
theorem px_fn (F : FnX X.prog X.w X.K X.mg X.base x f fd ps k sp) (hr : Room k' X.A) (ha : PA X.nox (e :: es) t) (hk : k ≤ k' := by first | decide | exact Nat.le_refl _) (hg : Gl X x := by rfl) (hdb : (x == ("__debug__" : Str)) = false := by decide)
    (he : starEach (e :: es) X.env = (false, eval e X.env) :: starEach es X.env := by rfl) (hpl : (backTo pos (starEach es X.env)).any (·.1) = false := by rfl) :
    PEx X.nox (.Call (.Name x p) (e :: es) [] pos) (fun σ H Q Ex => t σ H fun vs H1 => sp vs H1 Q Ex) :=
  px_call F.ok (hr.mono hk) hg F.mg F.kp F.bd ha hdb he hpl
end
end L2
namespace L2
open PySem PySem.Spec PyProof.Rows
section
variable {X : Cx} {pos : Pos}
noncomputable def tPar3 (i j k : Nat) (ta : TA) : TS := fun D σ H => ta σ H fun vs H1 => ∃ v w u, vs = [v, w, u] ∧ D.nx (((σ.set i (some v)).set j (some w)).set k (some u)) H1
theorem ps_par3 {i j k : Nat} {x y z : Str} {a b c : Expr} {ta : TA} {px py pz pt : Pos} {kt k2 pt2} (hc : X.calm = true) (hN : X.N.Nodup) (hi : X.N[i]? = some x) (hj : X.N[j]? = some y) (hk : X.N[k]? = some z) (hij : i ≠ j) (hik : i ≠ k) (hjk : j ≠ k)
    (hx : X.env.scope.names.lookup x = some .local) (hy : X.env.scope.names.lookup y = some .local) (hz : X.env.scope.names.lookup z = some .local) (ha : PA X [a, b, c] ta)
    (hw : swappedStores [.Tuple [.Name x px, .Name y py, .Name z pz] kt pt] (.Tuple [a, b, c] k2 pt2) X.env = pure (some [x, y, z]))
    (hs : swapsWithSole [.Tuple [.Name x px, .Name y py, .Name z pz] kt pt] (.Tuple [a, b, c] k2 pt2) pos.line X.env = pure false := by rfl) :
    PS X (.Assign [.Tuple [.Name x px, .Name y py, .Name z pz] kt pt] (.Tuple [a, b, c] k2 pt2) pos) (tPar3 i j k ta) := by
  intro pins s σ H D I h
  rw [exec_Assign_arm]
  refine wpAny_bind (wpAny_standAt ?_)
  rw [hs]
  refine wpAny_bind (wpAny_pure ?_)
  rw [if_neg (by decide)]
  refine wpAny_bind (Tuple_ (thn (ha _ pins s σ H _ I h) fun us s1 ⟨vs, H1, I1, r1, q1⟩ => ?_))
  obtain ⟨v, w, u, e1, q1⟩ := q1
  subst e1
  obtain ⟨u1, u2, u3, rfl, rv, rw', ru⟩ : ∃ u1 u2 u3, us = [u1, u2, u3] ∧ RelV v u1 ∧ RelV w u2 ∧ RelV u u3 := by
    cases r1 with
    | cons p q =>
      cases q with
      | cons p' q' =>
        cases q' with
        | cons p'' q'' =>
          cases q''
          exact ⟨_, _, _, rfl, p, p', p''⟩
  refine wpAny_newObj_type ?_ (by show 3 ≤ sizeLine; decide)
  have I2 : Inv X pins σ H1 { s1 with heap := s1.heap.push { cls := .type "tuple", data := .seq [u1, u2, u3].toArray } } := I1.kept (t' := s1.toks) fun b o e => Heap.get?_push_of_some _ e
  rw [hw]
  refine wpAny_bind (wpAny_pure ?_)
  show wpAny (model X.prog X.w) X.A (do rule "assign.swapped-stores"; let items ← unpackItems (.ref s1.heap.objs.size) 3 none; assignInOrder [fun v => bindName X.env z v, fun v => bindName X.env y v, fun v => bindName X.env x v] items.reverse; pure Flow.next) _ _ _
  refine wpAny_bind (wpAny_rule (wpAny_bind (unpackItems_tuple (items := #[u1, u2, u3]) (I.ok.hd hc) (IsTup.new s1.heap _) fun h' hx' => ?_)))
  have I3 := I2.kept (h' := h') (t' := s1.toks) fun b o e => hx' b o (Nat.ne_of_lt (Heap.lt_size e)) e
  show wpAny _ _ (assignInOrder [fun v => bindName X.env z v, fun v => bindName X.env y v, fun v => bindName X.env x v] [u3, u2, u1] >>= fun _ => pure Flow.next) _ _ _
  refine wpAny_bind (assignInOrder_cons (wpAny_bindName (store_ok I3 hN hk (.inl hz) ru (fun s2 I4 => ?_) (.inr hz))))
  refine assignInOrder_cons (wpAny_bindName (store_ok I4 hN hj (.inl hy) rw' (fun s3 I5 => ?_) (.inr hy)))
  refine assignInOrder_cons (wpAny_bindName (store_ok I5 hN hi (.inl hx) rv (fun s3 I6 => assignInOrder_nil (wpAny_pure ?_)) (.inr hx)))
  refine ⟨_, H1, I6, ?_⟩
  rw [List.set_comm _ _ (Ne.symm hjk), List.set_comm _ _ (Ne.symm hik), List.set_comm _ _ (Ne.symm hij)]
  exact q1
end
end L2
namespace L2
open PySem PySem.Spec PyProof.Rows
section
variable {X : Cx}
theorem call_sumL (hc : X.calm = true) : CallR X (.builtin "sum") (fun xs H Q => ∃ (p : Addr) (ns : List Int), xs = [.ref p] ∧ SqL X.K H p (ns.map V.int) ∧ Q (.int ns.sum) H) := by
  intro pins s σ H xs us Q I r h
  obtain ⟨p, ns, rfl, hq, q⟩ := h
  obtain ⟨u, rfl, rx⟩ := vals1 r
  cases rx
  obtain ⟨its, rv, pl, hz⟩ := I.list hq
  have hlen : its.length = ns.length := by rw [← rv.length, List.length_map]
  have plt : p < s.heap.objs.size := by
    obtain ⟨o, ho, _⟩ := pl.isList
    exact Heap.lt_size ho
  have hh : X.A.in1.handled = none := I.ok.hd hc
  refine call_sum_walkG (wpAny_pyIter_list pl.isList ⟨s.heap.objs.size, _, _, _, _, _, fun i => ns.getD i 0, rfl, Walks.list hh s.heap.objs.size p (Nat.ne_of_lt plt) its.toArray, ⟨⟨_, Heap.get?_push_size _ rfl, rfl, rfl⟩, pl.isList.push _⟩, fun b hb => ?_, fun i v hv => ?_, fun h' tk t' k => ?_⟩)
  · show b < (s.heap.push _).objs.size
    rw [Heap.size_push]
    have : b = s.heap.objs.size ∨ b = p := by simpa using hb
    rcases this with rfl | rfl
    · exact Nat.lt_succ_self _
    · exact Nat.lt_succ_of_lt plt
  · have hv' : its[i]? = some v := by simpa using hv
    have hi : i < ns.length := by rw [← hlen]; exact (List.getElem?_eq_some_iff.mp hv').1
    obtain ⟨u, hu, ru⟩ := rv.get (i := i) (x := .int ns[i]) (by rw [List.getElem?_map, List.getElem?_eq_getElem hi]; rfl)
    rw [hv'] at hu; cases hu
    obtain ⟨t, rfl⟩ := ru
    refine ⟨t, ?_⟩
    show Value.int ns[i] t = Value.int (ns.getD i 0) t
    rw [List.getD_eq_getElem?_getD, List.getElem?_eq_getElem hi]
    rfl
  · have e : its.toArray.size = ns.length := by rw [List.size_toArray, hlen]
    rw [e, preSum_getD, List.take_length]
    refine ⟨.int ns.sum, H, ?_, ⟨_, rfl⟩, q⟩
    have I1 : Inv X pins σ H { s with heap := s.heap.push { cls := .type "list_iterator", data := .fields #[.ref p, .int 0 0] } } := I.kept (t' := s.toks) fun b o z => Heap.get?_push_of_some _ z
    refine I1.turnMany (t' := tk) (ch := [s.heap.objs.size]) (fun b hb => ?_) fun b o hb z => k b o (by simpa using hb) z
    have : b = s.heap.objs.size := by simpa using hb
    subst this
    exact I.fpOk (Nat.le_refl _) (I.hok.fresh (Nat.le_refl _))
end
end L2
set_option maxRecDepth 100000
namespace L2
open PySem PySem.Spec PyProof.Rows
section
variable {X : Cx}
theorem call_sumT (hc : X.calm = true) : CallR X (.builtin "sum") (fun xs H Q => ∃ (p : Addr) (ns : List Int), xs = [.ref p] ∧ SqT X.K H p (ns.map V.int) ∧ Q (.int ns.sum) H) := by
  intro pins s σ H xs us Q I r h
  obtain ⟨p, ns, rfl, hq, q⟩ := h
  obtain ⟨u, rfl, rx⟩ := vals1 r
  cases rx
  obtain ⟨its, rv, pl, hz⟩ := I.tuple hq
  have pl' : s.heap.IsTuple p its.toArray := pl
  have hlen : its.length = ns.length := by rw [← rv.length, List.length_map]
  have plt : p < s.heap.objs.size := by
    obtain ⟨o, ho, _⟩ := pl'
    exact Heap.lt_size ho
  have hh : X.A.in1.handled = none := I.ok.hd hc
  refine call_sum_walkG (wpAny_pyIter_tuple pl' ⟨s.heap.objs.size, _, _, _, _, _, fun i => ns.getD i 0, rfl, Walks.tuple hh s.heap.objs.size p (Nat.ne_of_lt plt) its.toArray, ⟨⟨_, Heap.get?_push_size _ rfl, rfl, rfl⟩, pl'.push _⟩, fun b hb => ?_, fun i v hv => ?_, fun h' tk t' k => ?_⟩)
  · show b < (s.heap.push _).objs.size
    rw [Heap.size_push]
    have : b = s.heap.objs.size ∨ b = p := by simpa using hb
    rcases this with rfl | rfl
    · exact Nat.lt_succ_self _
    · exact Nat.lt_succ_of_lt plt
  · have hv' : its[i]? = some v := by simpa using hv
    have hi : i < ns.length := by rw [← hlen]; exact (List.getElem?_eq_some_iff.mp hv').1
    obtain ⟨u, hu, ru⟩ := rv.get (i := i) (x := .int ns[i]) (by rw [List.getElem?_map, List.getElem?_eq_getElem hi]; rfl)
    rw [hv'] at hu; cases hu
    obtain ⟨t, rfl⟩ := ru
    refine ⟨t, ?_⟩
    show Value.int ns[i] t = Value.int (ns.getD i 0) t
    rw [List.getD_eq_getElem?_getD, List.getElem?_eq_getElem hi]
    rfl
  · have e : its.toArray.size = ns.length := by rw [List.size_toArray, hlen]
    rw [e, preSum_getD, List.take_length]
    refine ⟨.int ns.sum, H, ?_, ⟨_, rfl⟩, q⟩
    have I1 : Inv X pins σ H { s with heap := s.heap.push { cls := .type "tuple_iterator", data := .fields #[.ref p, .int 0 0] } } := I.kept (t' := s.toks) fun b o z => Heap.get?_push_of_some _ z
    refine I1.turnMany (t' := tk) (ch := [s.heap.objs.size]) (fun b hb => ?_) fun b o hb z => k b o (by simpa using hb) z
    have : b = s.heap.objs.size := by simpa using hb
    subst this
    exact I.fpOk (Nat.le_refl _) (I.hok.fresh (Nat.le_refl _))
theorem PI.or {tg l : Expr} {w1 w2 : TI} (h1 : PI X tg l w1) (h2 : PI X tg l w2) : PI X tg l (fun σ H R => w1 σ H R ∨ w2 σ H R) := by
  intro pins s σ H R I h
  rcases h with h | h
  · exact h1 pins s σ H R I h
  · exact h2 pins s σ H R I h
end
section
variable {prog : Program} {w : World} {A : Around} {E : Value → Shared → Prop} {s : Shared}
theorem tindex_loop {us : List Value} {ns : List Int} {z : Int} {tz : Tok} {j : Nat} {Q : Option Fin × Unit → Shared → Prop} (hi : IntsAre us ns) (hj : ns[j]? = some z) (hno : ∀ i, i < j → ns[i]? ≠ some z) (q : ∀ r, r = .done (.ret (.int j s.toks)) → Q (some r, ()) { s with toks := s.toks + 1 }) :
    ∀ (k i : Nat), i + k = us.length → i ≤ j → wpAny (model prog w) A (forIn (List.range' i k) ((none, ()) : Option Fin × Unit) fun (i : Nat) __s =>
            match us.toArray[i]? with
            | some y => do
              let __do_lift ← eqBool y (Value.int z tz)
              if __do_lift = true then do
                  let __do_lift ← retInt ↑i
                  pure (ForInStep.done (some __do_lift, ()))
                else pure (ForInStep.yield (none, ()))
            | _ => pure (ForInStep.yield (none, ()))) Q E s := by
  have hlen : us.length = ns.length := by
    clear hj hno q
    induction hi with
    | nil => rfl
    | cons _ _ _ ih => simp [ih]
  have get : ∀ i (h : i < ns.length), ∃ t, us[i]? = some (Value.int ns[i] t) := by
    clear hj hno q hlen
    induction hi with
    | nil => intro i h; exact absurd h (Nat.not_lt_zero _)
    | cons m t r ih =>
      intro i h
      cases i with
      | zero => exact ⟨t, rfl⟩
      | succ i => obtain ⟨t', e⟩ := ih i (by simpa using h); exact ⟨t', by simpa using e⟩
  have hjl : j < ns.length := (List.getElem?_eq_some_iff.mp hj).1
  intro k
  induction k with
  | zero => intro i e h; lia
  | succ k ih =>
    intro i e h
    rw [List.range'_succ, List.forIn_cons]
    obtain ⟨t, et⟩ := get i (by lia)
    have et' : us.toArray[i]? = some (Value.int ns[i] t) := by simpa using et
    rw [et']
    refine wpAny_bind (wpAny_bind (wpAny_eqBool_int ?_))
    by_cases c : i = j
    · subst c
      have ez : ns[i] = z := by rw [List.getElem?_eq_getElem hjl] at hj; exact Option.some.inj hj
      rw [if_pos (by simp [ez])]
      unfold retInt
      refine wpAny_bind (wpAny_bind (wpAny_mkInt (wpAny_pure (wpAny_pure (wpAny_pure (q _ rfl))))))
    · have ne : ¬ ns[i] = z := fun y => hno i (by lia) (by rw [List.getElem?_eq_getElem (by lia), y])
      rw [if_neg (by simpa using ne)]
      exact wpAny_pure (ih (i + 1) (by lia) (by lia))
theorem tindex_body {t : Addr} {us : List Value} {ns : List Int} {z : Int} {tz : Tok} {j : Nat} {Q : Value → Shared → Prop} (hT : s.heap.IsTuple t us.toArray) (hi : IntsAre us ns) (hj : ns[j]? = some z) (hno : ∀ i, i < j → ns[i]? ≠ some z)
    (q : Q (.int j s.toks) { s with toks := s.toks + 1 }) : wpAny (model prog w) A (Builtin.«tuple.index» ⟨[.ref t, .int z tz], []⟩) (fun fin s' => ∃ v, fin = .done (.ret v) ∧ Q v s') E s := by
  obtain ⟨hp, g, d, tk, os⟩ := s
  obtain ⟨⟨cls, dd, data, sl⟩, ho, hc, n, hd⟩ := hT
  simp only at hc hd
  subst hc hd
  unfold Builtin.«tuple.index»
  simp only [Std.Legacy.Range.forIn_eq_forIn_range']
  wp_walk using AutoSeq1.wpAny_loadPart' ho
  have sz : [:min us.toArray.size us.toArray.size].size = us.length := by simp [Std.Legacy.Range.size]
  rw [sz]
  refine tindex_loop (us := us) (ns := ns) (z := z) (tz := tz) (j := j) hi hj hno (fun r er => ?_) us.length 0 (Nat.zero_add _) (Nat.zero_le _)
  subst er
  exact wpAny_pure ⟨_, rfl, q⟩
end
section
variable {X : Cx}
theorem mt_tindex : MtR X "tuple.index" (fun x xs H Q => ∃ (a : Addr) (ns : List Int) (z : Int) (j : Nat), x = .ref a ∧ xs = [.int z] ∧ SqT X.K H a (ns.map V.int) ∧ ns[j]? = some z ∧ (∀ i, i < j → ns[i]? ≠ some z) ∧ Q (.int (j : Int)) H) := by
  intro pins s σ H x xs v us Q I rx rv h
  obtain ⟨a, ns, z, j, rfl, rfl, hq, hj, hno, q⟩ := h
  cases rx
  obtain ⟨u, rfl, ru⟩ := rv.one
  obtain ⟨tz, rfl⟩ := ru
  obtain ⟨its, r, pt, _⟩ := I.tuple hq
  exact wpAny_call_entry PySem.F.slot_tuple_index pt.typeIs PySem.F.entry_tuple_index (tindex_body pt (intsAre_of r) hj hno ⟨.int (j : Int), H, I.tok _, ⟨_, rfl⟩, q⟩) (PySem.F.args_tuple_index_2 _ _)
variable {o e : Expr} {es : List Expr} {to : TE} {t : TA} {name : Str} {apos cpos : Pos} {id : String} {r : V → List V → Hp → VK → Prop}
noncomputable def tBMT (r : V → List V → Hp → VK → Prop) (to : TE) (t : TA) : TE := fun σ H Q => to σ H fun x H1 => (∃ p xs, x = .ref p ∧ H1 p = some (.tup xs)) ∧ t σ H1 fun xs H2 => r x xs H2 Q
theorem pe_bmT (pa : PlainAttrs "tuple") (slot : Slot "tuple" name id) (hty : typeOf (.builtin id) = pure (.type "method_descriptor")) (hm : MtR X id r) (ho : PE X o to) (ha : PA X (e :: es) t)
    (hbase : attributeBase o name X.env (eval o X.env) = eval o X.env := by rfl)
    (hfew : ((backTo cpos (starEach (e :: es) X.env)).all (fun x => !x.1) && (backToKw cpos (keywordEach [] X.env)).all (fun x => x.1.isSome)
      && decide ((e :: es).length + ([] : List Keyword).length + (if ([] : List Keyword).isEmpty then 0 else 1) < 30)) = true := by rfl)
    (hline : (apos.endLine == cpos.line) = true := by rfl) (hs : starEach (e :: es) X.env = (false, eval e X.env) :: starEach es X.env := by rfl) (hplain : (backTo cpos (starEach es X.env)).any (·.1) = false := by rfl) :
    PE X (.Call (.Attribute o name apos) (e :: es) [] cpos) (tBMT r to t) := by
  intro pins s σ H Q I h
  refine wpAny_Call_method_late hbase hfew hline rfl (thn (ho pins s σ H _ I h) fun v s1 ⟨x, H1, I1, r1, ⟨p, xs, ex, hp⟩, q1⟩ => ?_)
  subst ex
  cases r1
  obtain ⟨_, its, _, pt, ob, h2, h3⟩ := (show ObjOk X.prog X.w H1 s1.heap p (.tup xs) from I1.hok p _ hp)
  refine ⟨"tuple", id, pa, slot, hty, pt.typeIs, fun a ea => by cases ea; exact ⟨ob, h2, h3⟩, ?_⟩
  have hA := ha cpos pins s1 σ H1 _ I1 q1
  rw [hs] at hA ⊢
  refine Calls.callWith_builtin (by show (false || (backTo cpos (starEach es X.env)).any (·.1)) = false; rw [hplain] <;> rfl) (Calls.evalArgs_plain ?_)
  exact thn hA fun us s2 ⟨vs, H2, I2, r2, q2⟩ => hm pins s2 σ H2 (.ref p) vs (.ref p) us Q I2 rfl r2 q2
end
end L2
namespace L2
open PySem PySem.Spec PyProof.Rows
noncomputable def IteL (K : PySem.W.Frag) (a : Addr) : It :=
  ⟨fun i H => ∃ xs x, SqL K H a xs ∧ xs[i]? = some x, fun i H v H' => ∃ p x, H p = none ∧ v = .ref p ∧ H' = upd H p (.tup [.int i, x]) ∧ ∀ xs, SqL K H a xs → xs[i]? = some x, fun i H => ∃ xs, SqL K H a xs ∧ xs.length ≤ i⟩
theorem turn_enumL {P : Program} {w : World} {K : PySem.W.Frag} {elts : List Expr} {x1} {tp : Pos} {e it a : Addr} (hne : e ≠ it) (hae : a ≠ e) (hai : a ≠ it) :
    Turn P w K (.Tuple elts x1 tp) (IteL K a) [e, it] e (fun i h => (∃ old, IsEnum h e it i old) ∧ h.IsListIter it a i) where
  mem := by simp
  obj := fun i h st b hb => by
    obtain ⟨⟨old, q⟩, ⟨o, e1, c, d⟩⟩ := st
    rcases List.mem_cons.mp hb with z | z
    · subst z; exact ⟨_, q, fun v z => by have z' : Data.fields _ = Data.cell v := z; cases z'⟩
    · have z : b = it := by simpa using z
      subst z; exact ⟨o, e1, fun v z => by rw [d] at z; cases z⟩
  keep := fun i h h' ⟨⟨old, q⟩, r⟩ k => ⟨⟨old, k e (by simp) _ q⟩, r.at fun o z => k it (by simp) o z⟩
  item := by
    intro X hP hw hK hc i pins s σ H E I hf st hg
    subst hP hw hK
    obtain ⟨⟨old, he⟩, hit⟩ := st
    obtain ⟨xs, x, hq, hx⟩ := hg
    obtain ⟨its, rv, p, hz⟩ := I.list hq
    obtain ⟨u, hu, ru⟩ := rv.get hx
    refine wpAny_pyNext_enum_item he hit p.isList (x := u) (by simpa using hu) hne fun h' o1 a1 tp1 sz k1 => ⟨_, rfl, ?_⟩
    refine wpAny_letOwnedTupleGo_enum o1 fun h2 e2 k2 => ?_
    have hT : s.heap.objs.size ≠ e := Nat.ne_of_gt (Heap.lt_size he)
    have kk : ∀ b v, b ∉ [e, it] → s.heap.get? b = some v → h2.get? b = some v := fun b v hb q => by
      have n1 : b ≠ e := fun z => hb (by simp [z])
      have n2 : b ≠ it := fun z => hb (by simp [z])
      exact (k2.2 b n1).trans (k1 b v n1 n2 q)
    have new : ObjOk X.prog X.w (upd H s.heap.objs.size (.tup [.int i, x])) h2 s.heap.objs.size (.tup [.int i, x]) :=
      ⟨by show 2 ≤ sizeLine; decide, [.int i s.toks, u], .cons ⟨_, rfl⟩ (.cons ru .nil), ⟨_, (k2.2 _ hT).trans tp1, rfl, _, rfl⟩, _, (k2.2 _ hT).trans tp1, rfl⟩
    have IL : Inv X pins σ (upd H s.heap.objs.size (.tup [.int i, x])) { s with heap := h2, toks := s.toks + 1 } := I.turnLay (t' := s.toks + 1) (ch := [e, it]) hf kk (Nat.le_refl _) new
    refine ⟨.ref s.heap.objs.size, _, IL, rfl, ⟨_, x, I.hok.fresh (Nat.le_refl _), rfl, rfl, fun ys hy => by rw [I.list_inj hy hq]; exact hx⟩, ⟨⟨u, ?_⟩, a1.at fun o z => (k2.2 it hne.symm).trans z⟩, fun b hb => ?_⟩
    · have e3 : IsEnum h2 e it ((i : Int) + 1) u := e2
      rw [show (((i + 1 : Nat) : Int)) = (i : Int) + 1 by lia]
      exact e3
    · rw [upd_ne (Nat.ne_of_lt ?_)]
      · exact (hf b hb).1
      · rcases List.mem_cons.mp hb with z | z
        · rw [z]; exact Heap.lt_size he
        · have z : b = it := by simpa using z
          obtain ⟨o, q, _⟩ := hit
          rw [z]; exact Heap.lt_size q
  done := by
    intro X hP hw hK hc i pins s σ H E I hf st hg
    subst hP hw hK
    obtain ⟨⟨old, he⟩, hit⟩ := st
    obtain ⟨xs, hq, hx⟩ := hg
    obtain ⟨its, rv, p, hz⟩ := I.list hq
    have hl := rv.length
    refine wpAny_pyNext_enum_end (I.ok.hd hc) he hit p.isList (by simp; lia) fun h' k => ⟨rfl, I.turnMany (t' := s.toks) (ch := [e, it]) hf fun b v hb q => k b v (fun z => hb (by simp [z])) q⟩
  self := fun _ _ _ _ _ ⟨⟨_, q⟩, _⟩ h => wpAny_pyIter_enum q h
section
variable {X : Cx}
noncomputable def iEnumL (K : PySem.W.Frag) (ta : TA) : TI := fun σ H R => ta σ H fun vs H1 => ∃ a, vs = [.ref a] ∧ (∃ xs, SqL K H1 a xs) ∧ R (IteL K a) H1
theorem pi_enumL {a : Expr} {ta : TA} {p pos tp : Pos} {elts : List Expr} {x1} (hg : Gl X "enumerate") (hm : X.mg "enumerate" = none) (ha : PA X [a] ta) (hs : starEach [a] X.env = [(false, eval a X.env)] := by rfl) :
    PI X (.Tuple elts x1 tp) (.Call (.Name "enumerate" p) [a] [] pos) (iEnumL X.K ta) := by
  intro pins s σ H R I h
  refine Call_ (ld_blt I hg hm boot_enumerate (PyProof.Rows.callWith_type1 (thn (ha pos pins s σ H _ I h) fun us s1 ⟨vs, H1, I1, r1, q1⟩ => ?_) hs rfl))
  obtain ⟨t, e, ⟨xs, hq⟩, q⟩ := q1
  subst e
  cases r1 with
  | cons r rr =>
    cases rr
    cases r
    obtain ⟨its, rv, pt, hz⟩ := I1.list hq
    have tlt : t < s1.heap.objs.size := by obtain ⟨o, ho, _⟩ := pt.isList; exact Heap.lt_size ho
    refine call_enumerate_list pt.isList fun h' he a0 sz k => ?_
    have I2 : Inv X pins σ H1 { s1 with heap := h' } := I1.kept (t' := s1.toks) k
    refine wpAny_pyIter_enum (it := s1.heap.objs.size) (i := 0) (old := .none) he ⟨_, [s1.heap.objs.size + 1, s1.heap.objs.size], _, _, H1, rfl, I2, turn_enumL (a := t) (Nat.ne_of_gt (Nat.lt_succ_self _)) (Nat.ne_of_lt (Nat.lt_succ_of_lt tlt)) (Nat.ne_of_lt tlt), ⟨⟨_, he⟩, a0⟩, fun b hb => ?_, q⟩
    have hb' : s1.heap.objs.size ≤ b := by
      simp only [List.mem_cons, List.not_mem_nil, or_false] at hb
      rcases hb with rfl | rfl
      · exact Nat.le_succ _
      · exact Nat.le_refl _
    exact I1.fpOk hb' (I1.hok.fresh hb')
end
end L2
namespace L2
open PySem PySem.Spec PyProof.Rows
section
variable {X : Cx}
end
end L2
set_option maxRecDepth 100000
namespace PySem
namespace R4
end R4
open PyProof.Rows
section
variable {prog : Program} {w : World} {A : Around} {E : Value → Shared → Prop} {s : Shared}
end
section
variable {prog : Program} {w : World} {A : Around} {E : Value → Shared → Prop} {s : Shared} {I : Addr} {fp wr : List Addr} {G : Array GenState → Array GenState → Prop} {n : Nat} {P : Nat → Value → Prop} {St : Nat → Shared → Prop}
end
end PySem
namespace L2
open PySem PySem.Spec PyProof.Rows
section
variable {X : Cx}
end
end L2
namespace HT
open PySem PyProof.Rows
section
open PySem.SeqAt
open PySem.AutoSeq1 (wpAny_loadPart')
open PySem.MeetsSeq PySem.MeetsSeq2 PySem.MeetsSeq3
end
section
variable {prog : Program} {w : World} {A : Around} {E : Value → Shared → Prop} {s : Shared}
end
end HT
namespace L2
open PySem PySem.Spec PyProof.Rows
section
variable {X : Cx}
end
noncomputable def ItrS (lo st : Int) (n : Nat) : It := ⟨fun i _ => i < n, fun i H x H' => H' = H ∧ x = .int (lo + i * st), fun i _ => n ≤ i⟩
theorem turn_rangeS {P : Program} {w : World} {K : PySem.W.Frag} {tg : Expr} (it : Addr) (lo st : Int) (n : Nat) : Turn P w K tg (ItrS lo st n) [it] it (fun i h => IsRangeIter h it (lo + (i : Nat) * st) ((n : Int) - (i : Nat)) st) where
  mem := by simp
  obj := fun i h st b hb => by
    have e : b = it := by simpa using hb
    subst e
    exact ⟨_, st, fun v z => by
      have z' : Data.fields _ = Data.cell v := z
      cases z'⟩
  keep := fun i h h' st k => k it (by simp) _ st
  item := by
    intro X hP hw hK hc i pins s σ H E I hf sti hg
    subst hP hw hK
    obtain ⟨f0, f1, f2, f3, f4, f5⟩ := hf it (by simp)
    have W := Walks.range (prog := X.prog) (w := X.w) (I.ok.hd hc) it lo st n
    refine W.item i s _ _ hg sti fun v h' tk hv st' kk => ?_
    obtain ⟨t, rfl⟩ := hv
    have I1 : Inv X pins σ H { s with heap := h', toks := tk } := I.turned (fun b o hb e => kk b o (by simpa using hb) e) f0 f1 f3 f4 f5
    exact ⟨_, rfl, go_of (s := { s with heap := h', toks := tk }) (n := "range_iterator") st' rfl rfl (by decide) ⟨.int (lo + i * st), H, I1, ⟨t, rfl⟩, ⟨rfl, rfl⟩, st', fun b hb => (hf b hb).1⟩⟩
  done := by
    intro X hP hw hK hc i pins s σ H E I hf st hg
    subst hP hw hK
    obtain ⟨f0, f1, f2, f3, f4, f5⟩ := hf it (by simp)
    exact wpAny_pyNext_range_end (I.ok.hd hc) st (by have : n ≤ i := hg; lia) fun h' eb => ⟨rfl, I.turned (t' := s.toks) (fun b o hb e => eb b o hb e) f0 f1 f3 f4 f5⟩
  self := fun _ _ _ _ _ st h => wpAny_pyIter_rangeiter st h
theorem rangeSize_down (a b : Int) : Builtin.Range.rangeSize a b (-1) = if a > b then a - b else 0 := by
  unfold Builtin.Range.rangeSize
  rw [if_neg (by decide), show -(-1 : Int) = 1 from rfl, Int.ediv_one]
  split <;> lia
theorem small_down {a b : Int} (ha : -(2 ^ 62) ≤ a) (ha' : a < 2 ^ 62) (hb : -(2 ^ 62) ≤ b) (hb' : b < 2 ^ 62) : Builtin.Range.small a b (-1) = true := by
  unfold Builtin.Range.small
  rw [rangeSize_down]
  simp only [Builtin.Range.rangeFitsLong, Bool.and_eq_true, Bool.or_eq_true, decide_eq_true_eq, beq_iff_eq, show ¬ ((-1 : Int) > 0) by decide, if_false]
  split <;> lia
inductive iRngDownI (R : It → Hp → Prop) (vs : List V) (H1 : Hp) : Prop
  | mk (lo hi : Int) (f1 : vs = [.int lo, .int hi, .int (-1)]) (f2 : (-(2 ^ 62) ≤ lo ∧ lo < 2 ^ 62 ∧ -(2 ^ 62) ≤ hi ∧ hi < 2 ^ 62)) (f3 : R (ItrS lo (-1) (lo - hi).toNat) H1) : iRngDownI  R vs H1
noncomputable def iRngDown (ta : TA) : TI := fun σ H R => ta σ H fun vs H1 => iRngDownI  R vs H1
section
variable {X : Cx} {tg : Expr}
theorem pi_rangeDown {a b c : Expr} {ta : TA} {p pos : Pos} (hg : Gl X "range") (hm : X.mg "range" = none) (ha : PA X [a, b, c] ta) (hs : starEach [a, b, c] X.env = [(false, eval a X.env), (false, eval b X.env), (false, eval c X.env)] := by rfl)
    (hs2 : starEach [b, c] X.env = [(false, eval b X.env), (false, eval c X.env)] := by rfl) : PI X tg (.Call (.Name "range" p) [a, b, c] [] pos) (iRngDown ta) := by
  intro pins s σ H R I h
  refine Call_ (ld_blt I hg hm boot_range (PyProof.Rows.callWith_type1 (thn (ha pos pins s σ H _ I h) fun us s1 ⟨vs, H1, I1, r1, q1⟩ => ?_) (by rw [hs, hs2]) (by rw [hs2]; rfl)))
  obtain ⟨lo, hi, e, ⟨q1, q2, q3, q4⟩, q⟩ := q1
  subst e
  cases r1 with
  | cons r rr =>
    cases rr with
    | cons r' rr =>
      cases rr with
      | cons r'' rr =>
        cases rr
        obtain ⟨t, rfl⟩ := r
        obtain ⟨t', rfl⟩ := r'
        obtain ⟨t'', rfl⟩ := r''
        refine call_range_3 (by decide) ?_ (Or.inl (PyProof.noPylong_small (by lia)))
        refine wpAny_pyIter_range (IsRange.new ..) (small_down q1 q2 q3 q4) ?_
        have I2 : Inv X pins σ H1 { s1 with heap := s1.heap.push { cls := .type "range", data := .fields #[.int lo t, .int hi t', .int (-1) t''] }, toks := s1.toks } := I1.kept fun b o e => Heap.get?_push_of_some _ e
        refine ⟨_, [(s1.heap.push { cls := .type "range", data := .fields #[.int lo t, .int hi t', .int (-1) t''] }).objs.size], _, _, H1, rfl, I2.kept (t' := s1.toks) fun b o e => Heap.get?_push_of_some _ e, turn_rangeS _ lo (-1) (lo - hi).toNat, ?_, fun b hb => ?_, q⟩
        · have e1 : lo + ((0 : Nat) : Int) * (-1) = lo := by simp
          have e2 : (((lo - hi).toNat : Nat) : Int) - ((0 : Nat) : Int) = Builtin.Range.rangeSize lo hi (-1) := by rw [rangeSize_down]; lia
          show IsRangeIter _ _ (lo + ((0 : Nat) : Int) * (-1)) ((((lo - hi).toNat : Nat) : Int) - ((0 : Nat) : Int)) (-1)
          rw [e1, e2]
          exact Heap.get?_push_size _ rfl
        · have e : b = (s1.heap.push { cls := .type "range", data := .fields #[.int lo t, .int hi t', .int (-1) t''] }).objs.size := by simpa using hb
          subst e
          exact I2.fpOk (Nat.le_refl _) (I2.hok.fresh (Nat.le_refl _))
end
end L2
namespace L2
open PySem PySem.Spec PyProof.Rows
theorem pe_calm {X : Cx} {e : Expr} {t : TX} (h : PEx X.nox e t) : PE X.nox e (fun σ H Q => t σ H Q fun _ _ _ => False) := by
  intro pins s σ H Q I q
  refine wpAny_mono (h pins s σ H Q _ I q) (fun _ _ z => z) fun v s' z => ?_
  obtain ⟨H1, s1, _, x, C, c, B, H', _, _, f⟩ := z
  exact f.elim
theorem for_rangeS {lo st : Int} {n : Nat} {g : TG} {tb : TS} {D : Ends} {σ : St} {H : Hp} (Pv : Nat → St → Hp → Prop) (h0 : Pv 0 σ H)
    (hs : ∀ i σ H, i < n → Pv i σ H → g (.int (lo + i * st)) σ H fun σ2 H2 => tb { D with nx := Pv (i + 1), ct := Pv (i + 1), bk := D.nx } σ2 H2) (hd : ∀ σ H, Pv n σ H → D.nx σ H) :
    ∃ W : Nat → Nat → St → Hp → Prop, (∃ m, W 0 m σ H) ∧ ∀ i m σ H, W i m σ H →
      ((ItrS lo st n).stop i H ∧ D.nx σ H) ∨ ((ItrS lo st n).go i H ∧ ∃ N : St → Hp → Prop, (∀ σ' H', N σ' H' → ∃ m', m' < m ∧ W (i + 1) m' σ' H') ∧ ∀ x H', (ItrS lo st n).yld i H x H' → g x σ H' fun σ2 H2 => tb { D with nx := N, ct := N, bk := D.nx } σ2 H2) := by
  refine ⟨fun i m σ H => m = n - i ∧ i ≤ n ∧ Pv i σ H, ⟨n, by simp, Nat.zero_le _, h0⟩, ?_⟩
  rintro i m σ H ⟨rfl, hi, p⟩
  by_cases hlt : i < n
  · refine .inr ⟨hlt, Pv (i + 1), fun σ' H' p' => ⟨n - (i + 1), by lia, rfl, hlt, p'⟩, fun x H' y => ?_⟩
    obtain ⟨e, e2⟩ := y
    subst e e2
    exact hs i σ _ hlt p
  · have e : i = n := by lia
    subst e
    exact .inl ⟨Nat.le_refl _, hd σ H p⟩
end L2
set_option maxRecDepth 100000
set_option maxHeartbeats 2000000
namespace L2
open PySem PySem.Spec PyProof.Rows
section
variable {κ : Type} [DecidableEq κ]
noncomputable def valV (kvs : List (κ × V)) (k : κ) : Option V := (kvs.find? fun kv => decide (kv.1 = k)).map (·.2)
noncomputable def putK (kvs : List (κ × V)) (k : κ) (v : V) : List (κ × V) :=
  if (kvs.any fun kv => decide (kv.1 = k)) = true then kvs.map (fun kv => if kv.1 = k then (kv.1, v) else kv) else kvs ++ [(k, v)]
theorem valV_pos {p : κ × V} {r : List (κ × V)} {k : κ} (e : p.1 = k) : valV (p :: r) k = some p.2 := by simp [valV, List.find?_cons, e]
theorem valV_neg {p : κ × V} {r : List (κ × V)} {k : κ} (e : ¬ p.1 = k) : valV (p :: r) k = valV r k := by simp [valV, List.find?_cons, e]
theorem valV_any (k : κ) : ∀ kvs : List (κ × V), (kvs.any fun kv => decide (kv.1 = k)) = (valV kvs k).isSome
  | [] => rfl
  | p :: r => by
    rw [List.any_cons]
    by_cases e : p.1 = k
    · simp only [valV_pos e, decide_eq_true e, Bool.true_or, Option.isSome_some]
    · rw [valV_neg e, decide_eq_false e, Bool.false_or]; exact valV_any k r
theorem length_putK (kvs : List (κ × V)) (k : κ) (v : V) : (putK kvs k v).length ≤ kvs.length + 1 := by
  unfold putK
  split
  · rw [List.length_map]; lia
  · rw [List.length_append, List.length_cons, List.length_nil]; lia
theorem RelO.isSome_eq {o : Option V} {u : Option Value} (r : RelO o u) : o.isSome = u.isSome := by
  cases o with
  | none => cases u with
    | none => rfl
    | some _ => exact (show False from r).elim
  | some _ => cases u with
    | none => exact (show False from r).elim
    | some _ => rfl
theorem RelO.getD {o : Option V} {u : Option Value} {d : V} {d' : Value} (r : RelO o u) (rd : RelV d d') : RelV (o.getD d) (u.getD d') := by
  cases o with
  | none => cases u with
    | none => exact rd
    | some _ => exact (show False from r).elim
  | some _ => cases u with
    | none => exact (show False from r).elim
    | some _ => exact r
theorem KV.val {kvs : List (κ × V)} {vs : List (κ × Value)} (r : KV kvs vs) (k : κ) : RelO (valV kvs k) (valueAt vs k) := by
  unfold KV at r
  induction r with
  | nil => exact True.intro
  | @cons p q ps qs h t ih =>
    obtain ⟨h1, h2⟩ := h
    by_cases e : p.1 = k
    · have e' : q.1 = k := h1.symm.trans e
      have b : valueAt (q :: qs) k = some q.2 := by simp [valueAt, List.find?_cons, e']
      rw [valV_pos e, b]; exact h2
    · have e' : ¬ q.1 = k := fun z => e (h1.trans z)
      have b : valueAt (q :: qs) k = valueAt qs k := by simp [valueAt, List.find?_cons, e']
      rw [valV_neg e, b]; exact ih
theorem KV.any {kvs : List (κ × V)} {vs : List (κ × Value)} (r : KV kvs vs) (k : κ) : (kvs.any fun kv => decide (kv.1 = k)) = vs.any fun kv => decide (kv.1 = k) := by
  unfold KV at r
  induction r with
  | nil => rfl
  | cons h t ih => rw [List.any_cons, List.any_cons, ih, h.1]
theorem KV.repl {kvs : List (κ × V)} {vs : List (κ × Value)} (r : KV kvs vs) (k : κ) {y : V} {u : Value} (ry : RelV y u) :
    KV (kvs.map fun kv => if kv.1 = k then (kv.1, y) else kv) (vs.map fun kv => if kv.1 = k then (kv.1, u) else kv) := by
  unfold KV at r ⊢
  induction r with
  | nil => exact .nil
  | @cons p q ps qs h t ih =>
    rw [List.map_cons, List.map_cons]
    refine .cons ?_ ih
    obtain ⟨h1, h2⟩ := h
    by_cases e : p.1 = k
    · rw [if_pos e, if_pos (h1.symm.trans e)]; exact ⟨h1, ry⟩
    · rw [if_neg e, if_neg (fun z => e (h1.trans z))]; exact ⟨h1, h2⟩
theorem KV.put {kvs : List (κ × V)} {vs : List (κ × Value)} (r : KV kvs vs) (k : κ) {y : V} {u : Value} (ry : RelV y u) : KV (putK kvs k y) (stored vs k u) := by
  unfold putK stored
  rw [r.any k]
  by_cases e : (vs.any fun kv => decide (kv.1 = k)) = true
  · rw [if_pos e, if_pos e]; exact r.repl k ry
  · rw [if_neg e, if_neg e]; exact Paired.snoc r ⟨rfl, ry⟩
theorem KV.keys {kvs : List (κ × V)} {vs : List (κ × Value)} (r : KV kvs vs) : kvs.map (·.1) = vs.map (·.1) := by
  unfold KV at r
  induction r with
  | nil => rfl
  | cons h t ih => rw [List.map_cons, List.map_cons, ih, h.1]
theorem KV.length {kvs : List (κ × V)} {vs : List (κ × Value)} (r : KV kvs vs) : kvs.length = vs.length := Paired.length r
end
theorem kV_is {P : Program} {w : World} {k : Key} {u : Value} (r : RelV (kV k) u) : (mixKind P w).is k u = true := by
  cases k with
  | inl i => obtain ⟨t, e⟩ := (show ∃ t, u = Value.int i t from r); subst e; exact mixKind_int P w i t
  | inr x => obtain ⟨t, e⟩ := (show ∃ t, u = Value.str x t from r); subst e; exact mixKind_str P w x t
theorem items_are {P : Program} {w : World} : ∀ {ks : List Key} {us : List Value}, Vals (ks.map kV) us → ItemsAre (mixKind P w) ks us
  | [], _, r => by rw [List.map_nil] at r; cases r; exact .nil
  | k :: ks, _, r => by
    rw [List.map_cons] at r
    cases r with
    | cons h t => exact .cons (kV_is h) (items_are t)
noncomputable abbrev KT (H : Hp) : List (List Key × V) → List (List Key × Addr × Value) → Prop := Paired fun p q => p.1 = q.1 ∧ H q.2.1 = some (.tup (p.1.map kV)) ∧ RelV p.2 q.2.2
theorem KT.val {H : Hp} {kvs : List (List Key × V)} {xs : List (List Key × Addr × Value)} (r : KT H kvs xs) (k : List Key) : RelO (valV kvs k) ((atKey xs k).map (·.2)) := by
  induction r with
  | nil => exact True.intro
  | @cons p q ps qs h t ih =>
    obtain ⟨h1, _, h2⟩ := h
    by_cases e : p.1 = k
    · have e' : q.1 = k := h1.symm.trans e
      have b : atKey (q :: qs) k = some q.2 := by simp [atKey, List.find?_cons, e']
      rw [valV_pos e, b]; exact h2
    · have e' : ¬ q.1 = k := fun z => e (h1.trans z)
      have b : atKey (q :: qs) k = atKey qs k := by simp [atKey, List.find?_cons, e']
      rw [valV_neg e, b]; exact ih
theorem KT.repl {H : Hp} {kvs : List (List Key × V)} {xs : List (List Key × Addr × Value)} (r : KT H kvs xs) (k : List Key) {y : V} {u : Value} (ry : RelV y u) :
    KT H (kvs.map fun kv => if kv.1 = k then (kv.1, y) else kv) (xs.map (putAt k u)) := by
  induction r with
  | nil => exact .nil
  | @cons p q ps qs h t ih =>
    rw [List.map_cons, List.map_cons]
    refine .cons ?_ ih
    obtain ⟨h1, h2, h3⟩ := h
    unfold putAt
    by_cases e : p.1 = k
    · rw [if_pos e, if_pos (h1.symm.trans e)]; exact ⟨h1, h2, ry⟩
    · rw [if_neg e, if_neg (fun z => e (h1.trans z))]; exact ⟨h1, h2, h3⟩
theorem KT.put {H : Hp} {kvs : List (List Key × V)} {xs : List (List Key × Addr × Value)} (r : KT H kvs xs) (k : List Key) {b : Addr} {y : V} {u : Value} (hb : H b = some (.tup (k.map kV))) (ry : RelV y u) :
    KT H (putK kvs k y) (storedH xs k b u) := by
  have e : (kvs.any fun kv => decide (kv.1 = k)) = (atKey xs k).isSome := by
    rw [valV_any, (r.val k).isSome_eq, Option.isSome_map]
  unfold putK storedH
  rw [e]
  by_cases q : (atKey xs k).isSome = true
  · rw [if_pos q, if_pos q]; exact r.repl k ry
  · rw [if_neg q, if_neg q]; exact Paired.snoc r ⟨rfl, hb, ry⟩
theorem KT.keeps {H H' : Hp} {kvs : List (List Key × V)} {xs : List (List Key × Addr × Value)} (r : KT H kvs xs) (ht : ∀ b ys, H b = some (.tup ys) → H' b = some (.tup ys)) : KT H' kvs xs :=
  Paired.mapP r fun _ _ z => ⟨z.1, ht _ _ z.2.1, z.2.2⟩
section
variable {P : Program} {w : World} {H : Hp} {h : Heap} {a : Addr}
theorem rd_of {u : HO} (ok : HOk P w H h) (e : Rd H a u) : ObjOk P w H h a u := e.ok ok
theorem dk_rd {kvs : List (Key × V)} (ok : HOk P w H h) (e : Rd H a (.dK kvs)) : kvs.length ≤ sizeLine ∧ (a == sysModules) = false ∧ ∃ vs, KV kvs vs ∧ h.DictOf (mixKind P w) a vs :=
  show ObjOk P w H h a (.dK kvs) from rd_of ok e
theorem dk_of {kvs : List (Key × V)} (ok : HOk P w H h) (e : H a = some (.dK kvs)) : kvs.length ≤ sizeLine ∧ (a == sysModules) = false ∧ ∃ vs, KV kvs vs ∧ h.DictOf (mixKind P w) a vs := dk_rd ok (.inl e)
theorem key_of {ks : List Key} (ok : HOk P w H h) (e : H a = some (.tup (ks.map kV))) : (tupleKind (mixKind P w)).is h ks a := by
  obtain ⟨_, its, r, ⟨o, h1, h2, n, h3⟩, _⟩ := (show ObjOk P w H h a (.tup (ks.map kV)) from ok a _ e)
  exact ⟨o, its.toArray, n, h1, h2, h3, by simpa using items_are r⟩
theorem dt_rd {kvs : List (List Key × V)} (ok : HOk P w H h) (e : Rd H a (.dT kvs)) : kvs.length ≤ sizeLine ∧ (a == sysModules) = false ∧
    ∃ xs, KT H kvs xs ∧ h.DictOfH (tupleKind (mixKind P w)) a xs := by
  obtain ⟨z, y, xs, r, o, es, ep, h1, h2, h3, h4, h5⟩ := (show ObjOk P w H h a (.dT kvs) from rd_of ok e)
  refine ⟨z, y, xs, r, o, es, ep, h1, h2, h3, h4, fun x hx => ?_, h5⟩
  have all : ∀ {l : List (List Key × V)} {m : List (List Key × Addr × Value)}, KT H l m → ∀ x ∈ m, (tupleKind (mixKind P w)).is h x.1 x.2.1 := by
    intro l m q
    induction q with
    | nil => intro x hx; exact nomatch hx
    | @cons p q ps qs hq t ih =>
      intro x hx
      rcases List.mem_cons.mp hx with e | hx
      · subst e
        exact key_of ok (by rw [← hq.1]; exact hq.2.1)
      · exact ih x hx
  exact all r x hx
theorem dt_of {kvs : List (List Key × V)} (ok : HOk P w H h) (e : H a = some (.dT kvs)) : kvs.length ≤ sizeLine ∧ (a == sysModules) = false ∧
    ∃ xs, KT H kvs xs ∧ h.DictOfH (tupleKind (mixKind P w)) a xs := dt_rd ok (.inl e)
end
noncomputable def DGet (H : Hp) (a : Addr) (y : V) (r : Option V) : Prop :=
  (∃ kvs k, Rd H a (.dK kvs) ∧ y = kV k ∧ r = valV kvs k) ∨ ∃ kvs k b, Rd H a (.dT kvs) ∧ y = .ref b ∧ H b = some (.tup (k.map kV)) ∧ r = valV kvs k
noncomputable def DPut (H : Hp) (a : Addr) (y v : V) (H' : Hp) : Prop :=
  (∃ kvs k, H a = some (.dK kvs) ∧ y = kV k ∧ kvs.length < sizeLine ∧ H' = upd H a (.dK (putK kvs k v))) ∨
  ∃ kvs k b, H a = some (.dT kvs) ∧ y = .ref b ∧ H b = some (.tup (k.map kV)) ∧ kvs.length < sizeLine ∧ H' = upd H a (.dT (putK kvs k v))
theorem DGet.k {H : Hp} {a : Addr} {kvs : List (Key × V)} {k : Key} (e : H a = some (.dK kvs)) : DGet H a (kV k) (valV kvs k) := .inl ⟨kvs, k, .inl e, rfl, rfl⟩
theorem DPut.k {H : Hp} {a : Addr} {kvs : List (Key × V)} {k : Key} {v : V} (e : H a = some (.dK kvs)) (hl : kvs.length < sizeLine) : DPut H a (kV k) v (upd H a (.dK (putK kvs k v))) := .inl ⟨kvs, k, e, rfl, hl, rfl⟩
section
variable {X : Cx} {pins : List (Addr × Obj)} {σ : St} {H : Hp} {s : Shared} {a : Addr} {y v : V} {u r : Value} {o : Option V} {A : Around} {E : Value → Shared → Prop}
theorem Inv.big (I : Inv X pins σ H s) : sysModules < s.heap.objs.size := by
  have h : mainGlobals < s.heap.objs.size := (I.mod.glob.keeps I.bk).lt
  exact Nat.lt_trans (by decide) h
theorem d_getItem {Q : Value → Shared → Prop} (hu : A.units + 1 < cLine) (I : Inv X pins σ H s) (g : DGet H a y (some v)) (ry : RelV y u) (h : ∀ w' s', Inv X pins σ H s' → RelV v w' → Q w' s') :
    wpAny (model X.prog X.w) A (getItem (.ref a) u) Q E s := by
  rcases g with ⟨kvs, k, e, ey, l⟩ | ⟨kvs, k, b, e, ey, eb, l⟩
  · subst ey
    obtain ⟨z, hd, vs, rel, dd⟩ := dk_rd I.hok e
    obtain ⟨w', hw, rw'⟩ := RelO.some_of (v := v) (o := valueAt vs k) (by rw [l]; exact rel.val k)
    exact wpAny_getItem_of (kV_is ry) dd.mapOf hw (h w' _ (I.tok _) rw')
  · subst ey
    cases (show u = Value.ref b from ry)
    obtain ⟨z, hd, xs, rel, dd⟩ := dt_rd I.hok e
    obtain ⟨w', hw, rw'⟩ := RelO.some_of (v := v) (o := (atKey xs k).map (·.2)) (by rw [l]; exact rel.val k)
    obtain ⟨p, hp, hp2⟩ := Option.map_eq_some_iff.mp hw
    refine wpAny_getItem_heap (tupleKind_room_in1 hu) (key_of I.hok eb) dd hp ?_
    rw [hp2]
    exact h w' _ (I.tok _) rw'
theorem d_write {h' : Heap} {t' : Nat} {ob : HO} (I : Inv X pins σ H s) (mu : Mut (H a)) (hs : Heap.SameBut a s.heap h') (he : ∃ q, h'.get? a = some q) (new : ObjOk X.prog X.w (upd H a ob) h' a ob) :
    Inv X pins σ (upd H a ob) { s with heap := h', toks := t' } :=
  I.write (x := a) (e := a) mu (.inl rfl) (fun b q hb z => (hs.2 b hb).trans z) he new
theorem dk_new {P : Program} {w : World} {H' : Hp} {h' : Heap} {kvs : List (Key × V)} {vs : List (Key × Value)} (z : kvs.length ≤ sizeLine) (hd : (a == sysModules) = false) (rel : KV kvs vs) (dd : h'.DictOf (mixKind P w) a vs) :
    ObjOk P w H' h' a (.dK kvs) := ⟨z, hd, vs, rel, dd⟩
theorem d_setItem {H' : Hp} {Q : Unit → Shared → Prop} (hu : A.units + 1 < cLine) (I : Inv X pins σ H s) (g : DPut H a y v H') (ry : RelV y u) (rv : RelV v r) (h : ∀ s', Inv X pins σ H' s' → Q () s') :
    wpAny (model X.prog X.w) A (setItem (.ref a) u r) Q E s := by
  rcases g with ⟨kvs, k, e, ey, l, eH⟩ | ⟨kvs, k, b, e, ey, eb, l, eH⟩
  · subst ey eH
    obtain ⟨z, hd, vs, rel, dd⟩ := dk_of I.hok e
    have hz : vs.length ≤ sizeLine := by rw [← rel.length]; exact z
    have hl : (putK kvs k v).length ≤ sizeLine := by have := length_putK kvs k v; lia
    refine wpAny_setItem_pairs (hsz := hz) (kV_is ry) dd fun h' dd' hs => h _ ?_
    have he : ∃ q, h'.get? a = some q := let ⟨q, _, _, hq, _⟩ := dd'; ⟨q, hq⟩
    exact d_write I (by rw [e]; exact True.intro) hs he (dk_new hl hd (rel.put k rv) dd')
  · subst ey eH
    cases (show u = Value.ref b from ry)
    obtain ⟨z, hd, xs, rel, dd⟩ := dt_of I.hok e
    have hz : xs.length ≤ sizeLine := by rw [← Paired.length rel]; exact z
    have hl : (putK kvs k v).length ≤ sizeLine := by have := length_putK kvs k v; lia
    refine wpAny_setItem_heap (hsz := hz) (tupleKind_room_in1 hu) (key_of I.hok eb) dd fun h' dd' hs => h _ ?_
    obtain ⟨q, es, ep, hq, h2, h3, h4, _, h5⟩ := dd'
    refine d_write I (by rw [e]; exact True.intro) hs ⟨q, hq⟩ ⟨hl, hd, _, (rel.put k eb rv).keeps fun c ys ec => ?_, q, es, ep, hq, h2, h3, h4, h5⟩
    rw [upd_ne (ne_of ec e (fun z => nomatch z))]
    exact ec
end
section
variable {X : Cx} {pins : List (Addr × Obj)} {σ : St} {H : Hp} {s : Shared} {a : Addr} {kvs : List (Key × V)} {k : Key} {u : Value} {A : Around} {E : Value → Shared → Prop}
end
noncomputable def NoSl (i : Expr) : Prop := ∀ ov iv, subscripted i false ov iv = operate [ov, iv] (getItem ov iv)
theorem subD_of {prog : Program} {w : World} {A : Around} {E : Value → Shared → Prop} {s : Shared} {env : Env} {value slice : Expr} {pos : Pos} {T id : String} {Q : Value → Shared → Prop}
    (hl : typeLookup (.type T) "__getitem__" = pure (some (.builtin id))) (hs : NoSl slice)
    (h : wpAny (model prog w) A (eval value env) (fun o s₁ => wpAny (model prog w) A (eval slice env) (fun i s₂ => s₂.TypeIs o T ∧ wpAny (model prog w) A (getItem o i) Q E s₂) E s₁) E s) :
    wpAny (model prog w) A (eval (.Subscript value slice pos) env) Q E s := by
  refine Subscript_ (wpAny_mono h (fun o s₁ h₁ => wpAny_mono h₁ (fun i s₂ h₂ => ?_) fun _ _ x => x) fun _ _ x => x)
  obtain ⟨hT, h₂⟩ := h₂
  unfold subscriptTail
  refine wpAny_bind ?_
  rw [getitemInPython_of_ne hT.not_modules]
  refine wpAny_bind (wpAny_specialOf hT hl ?_)
  have fin : wpAny (model prog w) A (subscripted slice false o i) (fun r s₃ => wpAny (model prog w) A (letTemporaryGo value o r >>= fun _ => pure r) Q E s₃) E s₂ := by
    rw [hs o i]
    exact wpAny_operating (wpAny_mono h₂ (fun r s₃ h₃ => wpAny_bind (wpAny_letTemporaryGo (wpAny_pure h₃))) fun _ _ x => x)
  first
    | exact wpAny_pure (wpAny_bind fin)
    | exact wpAny_bind (wpAny_pure (wpAny_bind fin))
    | exact wpAny_bind fin
theorem dict_typeIs {X : Cx} {pins : List (Addr × Obj)} {σ : St} {H : Hp} {s : Shared} {a : Addr} {y : V} {o : Option V} (I : Inv X pins σ H s) (g : DGet H a y o) : s.TypeIs (.ref a) "dict" := by
  rcases g with ⟨kvs, k, e, _, _⟩ | ⟨kvs, k, b, e, _, _, _⟩
  · obtain ⟨_, _, vs, _, dd⟩ := dk_rd I.hok e
    exact dd.typeIs
  · obtain ⟨_, _, xs, _, dd⟩ := dt_rd I.hok e
    exact dd.typeIs
noncomputable def tDGet (td ty : TE) : TE := fun σ H Q => td σ H fun x H1 => ty σ H1 fun y H2 => ∃ a v, x = .ref a ∧ DGet H2 a y (some v) ∧ Q v H2
noncomputable def sDPut (td ty tv : TE) : TS := fun D σ H => tv σ H fun v H1 => td σ H1 fun x H2 => ty σ H2 fun y H3 => ∃ a H4, x = .ref a ∧ DPut H3 a y v H4 ∧ D.nx σ H4
section
variable {X : Cx} {o i e value : Expr} {pos pos' tpos : Pos} {td ty tv : TE}
theorem pe_dget (hu : X.A.units + 1 < cLine) (ho : PE X o td) (hi : PE X i ty) (hs : NoSl i) : PE X (.Subscript o i pos) (tDGet td ty) := by
  intro pins s σ H Q I h
  refine subD_of PySem.F.slot_dict_getitem.lookup hs (thn (ho pins s σ H _ I h) fun u s1 ⟨x, H1, I1, rx, q1⟩ => thn (hi pins s1 σ H1 _ I1 q1) fun iv s2 ⟨y, H2, I2, ry, a, v, ex, g, q2⟩ => ?_)
  subst ex
  obtain rfl : u = Value.ref a := rx
  exact ⟨dict_typeIs I2 g, d_getItem hu I2 g ry fun w' s3 I3 rw' => ⟨v, H2, I3, rw', q2⟩⟩
theorem ps_dput (hu : X.A.units + 1 < cLine) (ho : PE X o td) (hi : PE X i ty) (hv : PE X value tv) (hs : swapsWith value (some (.Subscript o i pos')) pos.line X.env = pure false) :
    PS X (.Assign [.Subscript o i pos'] value pos) (sDPut td ty tv) := by
  intro pins s σ H D I h
  refine wpAny_Assign_Subscript (thn (hv pins s σ H _ I h) fun r s1 ⟨v, H1, I1, rv, q1⟩ => thn (ho pins s1 σ H1 _ I1 q1) fun u s2 ⟨x, H2, I2, rx, q2⟩ => thn (hi pins s2 σ H2 _ I2 q2) fun iv s3 ⟨y, H3, I3, ry, a, H4, ex, g, q3⟩ => ?_) hs
  subst ex
  obtain rfl : u = Value.ref a := rx
  exact d_setItem hu I3 g ry rv fun s4 I4 => ⟨σ, H4, I4, q3⟩
end
theorem dk_empty {P : Program} {w : World} {H : Hp} (h : Heap) (hb : sysModules < h.objs.size) : ObjOk P w H (h.push { cls := .type "dict", data := .dict #[] }) h.objs.size (.dK []) :=
  ⟨Nat.zero_le _, beq_eq_false_iff_ne.mpr (Ne.symm (Nat.ne_of_lt hb)), [], .nil, Heap.DictOf.new h⟩
noncomputable def tDNewK : TE := fun _ H Q => ∀ p, H p = none → Q (.ref p) (upd H p (.dK []))
section
variable {X : Cx} {pos : Pos}
theorem pe_dnewK : PE X (.Dict [] [] pos) tDNewK := fun pins s σ H Q I h =>
  wpAny_Dict_empty ⟨.ref s.heap.objs.size, _, I.laid (a := s.heap.objs.size) (o := .dK []) (t' := s.toks) (fun _ _ q => Heap.get?_push_of_some _ q) (Nat.le_refl _) (dk_empty s.heap I.big), rfl, h _ (I.hok.fresh (Nat.le_refl _))⟩
end
structure M2 (X : Cx) (o : Expr) (m : Str) (apos : Pos) (e f : Expr) (cpos : Pos) : Prop where
  base : attributeBase o m X.env (eval o X.env) = eval o X.env
  few : ((backTo cpos (starEach [e, f] X.env)).all (fun x => !x.1) && (backToKw cpos (keywordEach [] X.env)).all (fun x => x.1.isSome)
    && decide (([e, f] : List Expr).length + ([] : List Keyword).length + (if ([] : List Keyword).isEmpty then 0 else 1) < 30)) = true
  line : (apos.endLine == cpos.line) = true
  trees : backTo cpos (starEach [e, f] X.env) = [(false, eval e X.env), (false, eval f X.env)]
noncomputable def IsD (H : Hp) (a : Addr) : Prop := (∃ kvs, Rd H a (.dK kvs)) ∨ ∃ kvs, Rd H a (.dT kvs)
theorem isD_at {X : Cx} {pins : List (Addr × Obj)} {σ : St} {H : Hp} {s : Shared} {a : Addr} (I : Inv X pins σ H s) (d : IsD H a) :
    s.TypeIs (.ref a) "dict" ∧ (∀ b, Value.ref a = .ref b → ∃ ob, s.heap.get? b = some ob ∧ ob.dict = none) ∧ (a == sysModules) = false := by
  rcases d with ⟨kvs, e⟩ | ⟨kvs, e⟩
  · obtain ⟨_, hd, vs, _, dd⟩ := dk_rd I.hok e
    refine ⟨dd.typeIs, fun b q => ?_, hd⟩
    cases q
    obtain ⟨ob, _, _, h1, h2, _⟩ := dd
    exact ⟨ob, h1, h2.2.1⟩
  · obtain ⟨_, hd, xs, _, dd⟩ := dt_rd I.hok e
    refine ⟨dd.typeIs, fun b q => ?_, hd⟩
    cases q
    obtain ⟨ob, _, _, h1, h2, _⟩ := dd
    exact ⟨ob, h1, h2.2.1⟩
section
variable {X : Cx} {pins : List (Addr × Obj)} {σ : St} {H : Hp} {s : Shared} {a : Addr} {y d : V} {u r : Value} {o : Option V} {A : Around} {E : Value → Shared → Prop}
theorem d_get2 {Q : Value → Shared → Prop} (hu : A.units + 1 < cLine) (I : Inv X pins σ H s) (g : DGet H a y o) (ry : RelV y u) (rd : RelV d r) (h : ∀ w' s', Inv X pins σ H s' → RelV (o.getD d) w' → Q w' s') :
    wpAny (model X.prog X.w) A (call (.builtin "dict.get") [.ref a, u, r]) Q E s := by
  rcases g with ⟨kvs, k, e, ey, l⟩ | ⟨kvs, k, b, e, ey, eb, l⟩
  · subst ey
    obtain ⟨z, hd, vs, rel, dd⟩ := dk_rd I.hok e
    refine call_meetsIn PySem.F.slot_dict_get dd.typeIs PySem.F.entry_dict_get (PySem.F.args_dict_get_3 _ _ _) (meets_dict_get_default (mixKind X.prog X.w) a (kV_is ry) hd r) ⟨_, dd.mapOf, h _ _ (I.tok _) ?_⟩
    rw [l]
    exact (rel.val k).getD rd
  · subst ey
    cases (show u = Value.ref b from ry)
    obtain ⟨z, hd, xs, rel, dd⟩ := dt_rd I.hok e
    refine call_meetsIn PySem.F.slot_dict_get dd.typeIs PySem.F.entry_dict_get (PySem.F.args_dict_get_3 _ _ _) (meetsH_dict_get_default (tupleKind (mixKind X.prog X.w)) a b hd r) ⟨tupleKind_room_in1 hu, k, xs, key_of I.hok eb, dd, h _ _ (I.tok _) ?_⟩
    rw [l]
    exact (rel.val k).getD rd
end
noncomputable def tDGet2 (td ty tx : TE) : TE := fun σ H Q => td σ H fun x H1 => ∃ a, x = .ref a ∧ IsD H1 a ∧ ty σ H1 fun y H2 => tx σ H2 fun z H3 => ∃ o, DGet H3 a y o ∧ Q (o.getD z) H3
section
variable {X : Cx} {o e f : Expr} {apos cpos : Pos} {td ty tx : TE}
theorem pe_dget2 (hu : X.A.units + 1 < cLine) (ho : PE X o td) (he : PE X e ty) (hf : PE X f tx) (m : M2 X o "get" apos e f cpos) : PE X (.Call (.Attribute o "get" apos) [e, f] [] cpos) (tDGet2 td ty tx) := by
  intro pins s σ H Q I h
  refine wpAny_Call_method m.base m.few m.line PySem.F.plainAttrs_dict PySem.F.slot_dict_get PySem.F.type_dict_get (thn (ho pins s σ H _ I h) fun u s1 ⟨x, H1, I1, rx, a, ex, d, q1⟩ => ?_)
  subst ex
  obtain rfl : u = Value.ref a := rx
  obtain ⟨t1, t2, _⟩ := isD_at I1 d
  refine ⟨t1, t2, ?_⟩
  rw [m.trees]
  refine Calls.callWith_builtin rfl (Calls.evalArgs_plain (Calls.spliced_cons (thn (he pins s1 σ H1 _ I1 q1) fun iv s2 ⟨y, H2, I2, ry, q2⟩ =>
    Calls.spliced_cons (thn (hf pins s2 σ H2 _ I2 q2) fun fv s3 ⟨z, H3, I3, rz, ov, g, q3⟩ => Calls.spliced_nil ?_))))
  exact d_get2 hu I3 g ry rz fun w' s4 I4 rw' => ⟨_, H3, I4, rw', q3⟩
end
section
variable {X : Cx} {pins : List (Addr × Obj)} {σ : St} {H : Hp} {s : Shared} {a : Addr} {kvs : List (Key × V)} {A : Around} {E : Value → Shared → Prop}
end
section
variable {X : Cx} {pins : List (Addr × Obj)} {σ : St} {H : Hp} {s : Shared} {a : Addr} {y : V} {u : Value} {A : Around} {E : Value → Shared → Prop}
end
end L2
namespace L2
open PySem PySem.Spec PyProof.Rows
section
variable {X : Cx}
end
section
variable {κ : Type} [DecidableEq κ]
end
end L2
namespace L2
open PySem PySem.Spec PyProof.Rows
theorem noFill_tuple_mul : fillsNumberSlot (.type "tuple") "mul" = pure false :=
  PySem.fillsNumberSlot_seq (id := "tuple.__mul__") (r := some (.builtin "tuple.__rmul__")) PySem.F.slot_tuple_mul.lookup (by decide +kernel) PySem.F.slot_tuple_rmul.lookup (by decide +kernel)
theorem repeat_tuple : seqRepeat? (.type "tuple") = pure (some (.builtin "tuple.__mul__")) := by
  unfold seqRepeat?
  rw [PySem.seqSlot_of (T := "tuple") (name := "__mul__") (id := "tuple.__mul__") PySem.F.slot_tuple_mul.lookup (by decide +kernel), PySem.seqSlot_of (T := "tuple") (name := "__rmul__") (id := "tuple.__rmul__") PySem.F.slot_tuple_rmul.lookup (by decide +kernel)]
  all_goals rfl
theorem rmul_int_tuple (a : Int) (t : Tok) (l : Addr) (items : Array Value) (n : Nat) (dd : Option Addr) (sl : Array (Option Value)) :
    Meets (Builtin.«int.__rmul__» ⟨[.int a t, .ref l], []⟩) (fun _ R s => s.heap.get? l = some { cls := .type "tuple", dict := dd, data := .seq items n, slots := sl } ∧ R (.ok (.ret Value.notImplemented)) s) :=
  .of_wp fun prog w A R s h => by
    obtain ⟨hp, g, d, tk, os⟩ := s
    obtain ⟨hl, h⟩ := h
    wp_walk
    exact ⟨_, rfl, h⟩
section
variable {X : Cx}
end
end L2
namespace L2
open PySem
theorem se_List {es : List Expr} {env : Env} {elts : List Expr} {pos : Pos} : starEach (.List elts pos :: es) env = (false, eval (.List elts pos) env) :: starEach es env := rfl
theorem se_Name {es : List Expr} {env : Env} {id : Str} {pos : Pos} : starEach (.Name id pos :: es) env = (false, eval (.Name id pos) env) :: starEach es env := rfl
end L2
namespace L3
open PySem
open Sem (wp)
section
variable {prog : Program} {w : World} {A : Around} {E : Value → Shared → Prop} {s : Shared}
end
end L3
namespace L3
open PySem
section
variable {prog : Program} {w : World} {A : Around} {E : Value → Shared → Prop} {s : Shared}
end
end L3
namespace L2
open PySem PySem.Spec PyProof.Rows
end L2
namespace L2
open PySem PySem.Spec PyProof.Rows
end L2
namespace L2
open PySem PySem.Spec PyProof.Rows
theorem rangeSize_two (a b : Int) : Builtin.Range.rangeSize a b 2 = if a < b then (b - a - 1) / 2 + 1 else 0 := by
  unfold Builtin.Range.rangeSize
  rw [if_pos (by decide)]
theorem small_two {a b : Int} (ha : -(2 ^ 61) ≤ a) (ha' : a < 2 ^ 61) (hb : -(2 ^ 61) ≤ b) (hb' : b < 2 ^ 61) : Builtin.Range.small a b 2 = true := by
  unfold Builtin.Range.small
  rw [rangeSize_two]
  simp only [Builtin.Range.rangeFitsLong, Bool.and_eq_true, Bool.or_eq_true, decide_eq_true_eq, beq_iff_eq, show ((2 : Int) > 0) by decide, if_true]
  split <;> lia
noncomputable def iRngTwo (ta : TA) : TI := fun σ H R => ta σ H fun vs H1 => ∃ (lo hi : Int), vs = [.int lo, .int hi, .int 2] ∧ (-(2 ^ 61) ≤ lo ∧ lo < 2 ^ 61 ∧ -(2 ^ 61) ≤ hi ∧ hi < 2 ^ 61) ∧ R (ItrS lo 2 ((hi - lo + 1) / 2).toNat) H1
section
variable {X : Cx} {tg : Expr}
theorem pi_rangeTwo {a b c : Expr} {ta : TA} {p pos : Pos} (hg : Gl X "range") (hm : X.mg "range" = none) (ha : PA X [a, b, c] ta) (hs : starEach [a, b, c] X.env = [(false, eval a X.env), (false, eval b X.env), (false, eval c X.env)] := by rfl)
    (hs2 : starEach [b, c] X.env = [(false, eval b X.env), (false, eval c X.env)] := by rfl) : PI X tg (.Call (.Name "range" p) [a, b, c] [] pos) (iRngTwo ta) := by
  intro pins s σ H R I h
  refine Call_ (ld_blt I hg hm boot_range (PyProof.Rows.callWith_type1 (thn (ha pos pins s σ H _ I h) fun us s1 ⟨vs, H1, I1, r1, q1⟩ => ?_) (by rw [hs, hs2]) (by rw [hs2]; rfl)))
  obtain ⟨lo, hi, e, ⟨q1, q2, q3, q4⟩, q⟩ := q1
  subst e
  cases r1 with
  | cons r rr =>
    cases rr with
    | cons r' rr =>
      cases rr with
      | cons r'' rr =>
        cases rr
        obtain ⟨t, rfl⟩ := r
        obtain ⟨t', rfl⟩ := r'
        obtain ⟨t'', rfl⟩ := r''
        refine call_range_3 (by decide) ?_ (Or.inl (PyProof.noPylong_small (by lia)))
        refine wpAny_pyIter_range (IsRange.new ..) (small_two q1 q2 q3 q4) ?_
        have I2 : Inv X pins σ H1 { s1 with heap := s1.heap.push { cls := .type "range", data := .fields #[.int lo t, .int hi t', .int 2 t''] }, toks := s1.toks } := I1.kept fun b o e => Heap.get?_push_of_some _ e
        refine ⟨_, [(s1.heap.push { cls := .type "range", data := .fields #[.int lo t, .int hi t', .int 2 t''] }).objs.size], _, _, H1, rfl, I2.kept (t' := s1.toks) fun b o e => Heap.get?_push_of_some _ e, turn_rangeS _ lo 2 ((hi - lo + 1) / 2).toNat, ?_, fun b hb => ?_, q⟩
        · have e1 : lo + ((0 : Nat) : Int) * 2 = lo := by simp
          have e2 : ((((hi - lo + 1) / 2).toNat : Nat) : Int) - ((0 : Nat) : Int) = Builtin.Range.rangeSize lo hi 2 := by
            rw [rangeSize_two]
            split <;> lia
          show IsRangeIter _ _ (lo + ((0 : Nat) : Int) * 2) ((((hi - lo + 1) / 2).toNat : Int) - ((0 : Nat) : Int)) 2
          rw [e1, e2]
          exact Heap.get?_push_size _ rfl
        · have e : b = (s1.heap.push { cls := .type "range", data := .fields #[.int lo t, .int hi t', .int 2 t''] }).objs.size := by simpa using hb
          subst e
          exact I2.fpOk (Nat.le_refl _) (I2.hok.fresh (Nat.le_refl _))
end
end L2
namespace L2
open PySem PySem.Spec PyProof.Rows
noncomputable abbrev tJoin (t : TS) : TS := fun D σ H => ∃ J : St → Hp → Prop, (∀ σ' H', J σ' H' → D.nx σ' H') ∧ t { D with nx := J } σ H
theorem ps_joinN {X : Cx} {st : Stmt} {t : TS} (h : PS X st t) : PS X st (tJoin t) := ps_join h
end L2
namespace L2
open PySem PySem.Spec PyProof.Rows
section
variable {X : Cx}
end
end L2
namespace L2
open PySem PySem.Spec PyProof.Rows
end L2
namespace L2
open PySem PySem.Spec PyProof.Rows
theorem tuple_mul_one (l : Addr) (items : Array Value) (n : Nat) (dd : Option Addr) (sl : Array (Option Value)) (u : Tok) :
    Meets (Builtin.«tuple.__mul__» ⟨[.ref l, .int 1 u], []⟩) (fun _ R s => s.heap.get? l = some { cls := .type "tuple", dict := dd, data := .seq items n, slots := sl } ∧ R (.ok (.ret (.ref l))) s) :=
  .of_wp fun prog w A R s h => by
    obtain ⟨hp, g, d, tk, os⟩ := s
    obtain ⟨hl, h⟩ := h
    unfold Builtin.«tuple.__mul__»
    wp_walk using AutoSeq1.wpAny_loadPart' hl
    exact ⟨_, rfl, h⟩
theorem tuple_mul_none (l : Addr) (items : Array Value) (n : Nat) (dd : Option Addr) (sl : Array (Option Value)) (u : Tok) (hne : items.isEmpty = false) :
    Meets (Builtin.«tuple.__mul__» ⟨[.ref l, .int 0 u], []⟩) (fun _ R s => s.heap.get? l = some { cls := .type "tuple", dict := dd, data := .seq items n, slots := sl } ∧ R (.ok (.ret (.ref s.heap.objs.size))) { s with heap := s.heap.push { cls := .type "tuple", data := .seq #[] } }) :=
  .of_wp fun prog w A R s h => by
    obtain ⟨hp, g, d, tk, os⟩ := s
    obtain ⟨hl, h⟩ := h
    unfold Builtin.«tuple.__mul__»
    wp_walk using AutoSeq1.wpAny_loadPart' hl
    exact ⟨_, rfl, h⟩
noncomputable def rRepT01 (K : PySem.W.Frag) : R2 := fun x y H Q => ∃ l k xs, x = .ref l ∧ y = .int k ∧ SqT K H l xs ∧ xs ≠ [] ∧ ((k = 1 ∧ Q (.ref l) H) ∨ (k = 0 ∧ ∀ p, H p = none → Q (.ref p) (upd H p (.tup []))))
section
variable {X : Cx}
theorem op_repT01 : OpR X (binaryOp .Mult) (rRepT01 X.K) := by
  intro pins s σ H x y v u Q I rx ry h
  obtain ⟨l, k, xs, rfl, rfl, hq, hne, h⟩ := h
  cases rx
  obtain ⟨t, rfl⟩ := ry
  obtain ⟨its, r, pl, hzl⟩ := I.tuple hq
  have hl := r.length
  obtain ⟨⟨oc, od, odt, osl⟩, e, hc, n, hd⟩ := id pl
  replace hc : oc = .type "tuple" := hc
  replace hd : odt = .seq its.toArray n := hd
  subst hc hd
  have hne2 : its.toArray.isEmpty = false := by
    cases its with
    | nil =>
      cases xs with
      | nil => exact absurd rfl hne
      | cons a b => simp at hl
    | cons a b => rfl
  rcases h with ⟨rfl, q⟩ | ⟨rfl, q⟩
  · refine wpAny_binaryOp_repeat_ref (T := "tuple") (U := "int") (by decide) ⟨_, e, rfl⟩ (fun s' => typeIs_int s' 1 t) noFill_tuple_mul PySem.F.fills_int_mul PySem.F.slot_int_rmul repeat_tuple PySem.F.slot_int_index.lookup
      (call_meets PySem.F.slot_int_rmul (typeIs_int s 1 t) PySem.F.entry_int_rmul (PySem.F.args_int_rmul_2 _ _) (rmul_int_tuple 1 t l its.toArray n od osl)
        ⟨e, rfl, ⟨_, e, rfl⟩, call_meets PySem.F.slot_tuple_mul ⟨_, e, rfl⟩ PySem.F.entry_tuple_mul (PySem.F.args_tuple_mul_2 _ _) (tuple_mul_one l its.toArray n od osl t) ⟨e, ?_⟩⟩)
    exact ⟨.ref l, H, I, rfl, q⟩
  · refine wpAny_binaryOp_repeat_ref (T := "tuple") (U := "int") (by decide) ⟨_, e, rfl⟩ (fun s' => typeIs_int s' 0 t) noFill_tuple_mul PySem.F.fills_int_mul PySem.F.slot_int_rmul repeat_tuple PySem.F.slot_int_index.lookup
      (call_meets PySem.F.slot_int_rmul (typeIs_int s 0 t) PySem.F.entry_int_rmul (PySem.F.args_int_rmul_2 _ _) (rmul_int_tuple 0 t l its.toArray n od osl)
        ⟨e, rfl, ⟨_, e, rfl⟩, call_meets PySem.F.slot_tuple_mul ⟨_, e, rfl⟩ PySem.F.entry_tuple_mul (PySem.F.args_tuple_mul_2 _ _) (tuple_mul_none l its.toArray n od osl t hne2) ⟨e, ?_⟩⟩)
    refine ⟨.ref _, _, I.laid (t' := s.toks) (o := .tup []) (fun b u e => Heap.get?_push_of_some _ e) (Nat.le_refl _) ?_, rfl, q _ (I.hok.fresh (Nat.le_refl _))⟩
    exact ⟨Nat.zero_le _, _, .nil, IsTup.new _ _, _, Heap.get?_push_size _ rfl, rfl⟩
end
end L2
namespace L2
open PySem PySem.Spec PyProof.Rows
end L2
namespace L2
open PySem PySem.Spec PyProof.Rows
theorem comp_of {J : It} {n : Nat} {g : TG} {tt : TT} {te : TE} {σ : St} {H : Hp} {Q : VK} (Pv : Nat → List V → St → Hp → Prop) (h0 : Pv 0 [] σ H) (hl : ∀ i acc σ H, i ≤ n → Pv i acc σ H → acc.length ≤ 1000000)
    (hgo : ∀ i acc σ H, i < n → Pv i acc σ H → J.go i H) (hstop : ∀ acc σ H, Pv n acc σ H → J.stop n H)
    (hs : ∀ i acc σ H, i < n → Pv i acc σ H → ∀ x H2, J.yld i H x H2 → g x σ H2 fun σ2 H3 => tt σ2 H3 fun b H4 => if b = true then te σ2 H4 fun y H5 => Pv (i + 1) (acc ++ [y]) σ2 H5 else Pv (i + 1) acc σ2 H4)
    (hd : ∀ acc σ H D, Pv n acc σ H → H D = none → Q (.ref D) (upd H D (.lst acc))) : compW J g tt te σ H Q := by
  refine ⟨fun i m acc σ H => m = n - i ∧ i ≤ n ∧ Pv i acc σ H, ⟨n, by simp, Nat.zero_le _, h0⟩, ?_⟩
  rintro i m acc σ H ⟨rfl, hi, p⟩
  have hz := hl i acc σ H hi p
  by_cases hlt : i < n
  · exact .inr ⟨hgo i acc σ H hlt p, smallL hz, Pv (i + 1), fun acc' σ' H' p' => ⟨n - (i + 1), by lia, rfl, hlt, p'⟩, hs i acc σ H hlt p⟩
  · have e : i = n := by lia
    subst e
    exact .inl ⟨hstop acc σ H p, small hz, fun D fD => hd acc σ H D p fD⟩
theorem comp_list {K : PySem.W.Frag} {a : Addr} {xs : List V} {g : TG} {tt : TT} {te : TE} {σ : St} {H : Hp} {Q : VK} (Pv : Nat → List V → St → Hp → Prop) (h0 : Pv 0 [] σ H) (hl : ∀ i acc σ H, i ≤ xs.length → Pv i acc σ H → acc.length ≤ 1000000)
    (ha : ∀ i acc σ H, i ≤ xs.length → Pv i acc σ H → SqL K H a xs)
    (hs : ∀ i x acc σ H, xs[i]? = some x → Pv i acc σ H → g x σ H fun σ2 H3 => tt σ2 H3 fun b H4 => if b = true then te σ2 H4 fun y H5 => Pv (i + 1) (acc ++ [y]) σ2 H5 else Pv (i + 1) acc σ2 H4)
    (hd : ∀ acc σ H D, Pv xs.length acc σ H → H D = none → Q (.ref D) (upd H D (.lst acc))) : compW (Itl K a) g tt te σ H Q :=
  comp_of Pv h0 hl (fun i acc σ H h p => ⟨xs, xs[i], ha i acc σ H (Nat.le_of_lt h) p, List.getElem?_eq_getElem h⟩) (fun acc σ H p => ⟨xs, ha _ acc σ H (Nat.le_refl _) p, Nat.le_refl _⟩) (fun i acc σ H h p x H2 y => by
    obtain ⟨e, y⟩ := y
    subst e
    exact hs i x acc σ _ (y xs (ha i acc σ _ (Nat.le_of_lt h) p)) p) hd
theorem comp_enum {K : PySem.W.Frag} {a : Addr} {xs : List V} {g : TG} {tt : TT} {te : TE} {σ : St} {H : Hp} {Q : VK} (Pv : Nat → List V → St → Hp → Prop) (h0 : Pv 0 [] σ H) (hl : ∀ i acc σ H, i ≤ xs.length → Pv i acc σ H → acc.length ≤ 1000000)
    (ha : ∀ i acc σ H, i ≤ xs.length → Pv i acc σ H → SqT K H a xs)
    (hs : ∀ i x acc σ H p, xs[i]? = some x → Pv i acc σ H → H p = none → g (.ref p) σ (upd H p (.tup [.int i, x])) fun σ2 H3 => tt σ2 H3 fun b H4 => if b = true then te σ2 H4 fun y H5 => Pv (i + 1) (acc ++ [y]) σ2 H5 else Pv (i + 1) acc σ2 H4)
    (hd : ∀ acc σ H D, Pv xs.length acc σ H → H D = none → Q (.ref D) (upd H D (.lst acc))) : compW (Ite K a) g tt te σ H Q :=
  comp_of Pv h0 hl (fun i acc σ H h p => ⟨xs, xs[i], ha i acc σ H (Nat.le_of_lt h) p, List.getElem?_eq_getElem h⟩) (fun acc σ H p => ⟨xs, ha _ acc σ H (Nat.le_refl _) p, Nat.le_refl _⟩) (fun i acc σ H h p x H2 y => by
    obtain ⟨q, z, fq, rfl, rfl, y⟩ := y
    exact hs i z acc σ _ q (y xs (ha i acc σ _ (Nat.le_of_lt h) p)) p fq) hd
theorem for_of {J : It} {n : Nat} {g : TG} {tb : TS} {D : Ends} {σ : St} {H : Hp} (Pv : Nat → St → Hp → Prop) (h0 : Pv 0 σ H) (hgo : ∀ i σ H, i < n → Pv i σ H → J.go i H) (hstop : ∀ σ H, Pv n σ H → J.stop n H)
    (hs : ∀ i σ H, i < n → Pv i σ H → ∀ x H2, J.yld i H x H2 → g x σ H2 fun σ2 H3 => tb { D with nx := Pv (i + 1), ct := Pv (i + 1), bk := D.nx } σ2 H3) (hd : ∀ σ H, Pv n σ H → D.nx σ H) :
    ∃ W : Nat → Nat → St → Hp → Prop, (∃ m, W 0 m σ H) ∧ ∀ i m σ H, W i m σ H →
      (J.stop i H ∧ D.nx σ H) ∨ (J.go i H ∧ ∃ N : St → Hp → Prop, (∀ σ' H', N σ' H' → ∃ m', m' < m ∧ W (i + 1) m' σ' H') ∧ ∀ x H', J.yld i H x H' → g x σ H' fun σ2 H2 => tb { D with nx := N, ct := N, bk := D.nx } σ2 H2) := by
  refine ⟨fun i m σ H => m = n - i ∧ i ≤ n ∧ Pv i σ H, ⟨n, by simp, Nat.zero_le _, h0⟩, ?_⟩
  rintro i m σ H ⟨rfl, hi, p⟩
  by_cases hlt : i < n
  · exact .inr ⟨hgo i σ H hlt p, Pv (i + 1), fun σ' H' p' => ⟨n - (i + 1), by lia, rfl, hlt, p'⟩, hs i σ H hlt p⟩
  · have e : i = n := by lia
    subst e
    exact .inl ⟨hstop σ H p, hd σ H p⟩
theorem for_enum {K : PySem.W.Frag} {a : Addr} {xs : List V} {g : TG} {tb : TS} {D : Ends} {σ : St} {H : Hp} (Pv : Nat → St → Hp → Prop) (h0 : Pv 0 σ H) (ha : ∀ i σ H, i ≤ xs.length → Pv i σ H → SqT K H a xs)
    (hs : ∀ i x σ H p, xs[i]? = some x → Pv i σ H → H p = none → g (.ref p) σ (upd H p (.tup [.int i, x])) fun σ2 H3 => tb { D with nx := Pv (i + 1), ct := Pv (i + 1), bk := D.nx } σ2 H3) (hd : ∀ σ H, Pv xs.length σ H → D.nx σ H) :
    ∃ W : Nat → Nat → St → Hp → Prop, (∃ m, W 0 m σ H) ∧ ∀ i m σ H, W i m σ H →
      ((Ite K a).stop i H ∧ D.nx σ H) ∨ ((Ite K a).go i H ∧ ∃ N : St → Hp → Prop, (∀ σ' H', N σ' H' → ∃ m', m' < m ∧ W (i + 1) m' σ' H') ∧ ∀ x H', (Ite K a).yld i H x H' → g x σ H' fun σ2 H2 => tb { D with nx := N, ct := N, bk := D.nx } σ2 H2) :=
  for_of Pv h0 (fun i σ H h p => ⟨xs, xs[i], ha i σ H (Nat.le_of_lt h) p, List.getElem?_eq_getElem h⟩) (fun σ H p => ⟨xs, ha _ σ H (Nat.le_refl _) p, Nat.le_refl _⟩) (fun i σ H h p x H2 y => by
    obtain ⟨q, z, fq, rfl, rfl, y⟩ := y
    exact hs i z σ _ q (y xs (ha i σ _ (Nat.le_of_lt h) p)) p fq) hd
end L2
namespace L2
open PySem PySem.Spec PyProof.Rows
noncomputable def Fit (n : Nat) : Prop := ∃ k, k ≤ 8000 ∧ n < 2 ^ k
theorem Fit.le {m n : Nat} (h : Fit n) (l : m ≤ n) : Fit m := by
  obtain ⟨k, h1, h2⟩ := h
  exact ⟨k, h1, Nat.lt_of_le_of_lt l h2⟩
theorem Fit.of {n : Nat} (h : n < 18446744073709551616) : Fit n := ⟨64, by decide, h⟩
theorem Fit.log {n : Nat} (h : Fit n) : n.log2 < 9000 := by
  obtain ⟨k, h1, h2⟩ := h
  by_cases h0 : n = 0
  · rw [h0]; decide +kernel
  · have := (Nat.log2_lt h0).mpr h2
    lia
noncomputable def CDivB (i j : Int) : Prop := 0 < j ∧ Fit j.natAbs
theorem Room.units1 {k : Nat} {A : Around} (r : Room k A) : A.units + 1 < cLine := by have := r.un; lia
section
variable {X : Cx}
theorem op_fdivB : OpR X (binaryOp .FloorDiv) (rI CDivB fun i j => .int (i / j)) := opI fun i j _ _ _ _ _ hc q => by
  have h1 : (0 : Int) < j := hc.1
  exact floordiv_int (by lia) (by rw [Int.fdiv_eq_ediv_of_nonneg i (by lia)]; exact q) (.inl (PyProof.noPylong_of_log2 hc.2.log))
theorem op_notBl : OpR X (compareOp .IsNot) (fun x y H Q => ∃ c d, x = .bl c ∧ y = .bl d ∧ Q (.bl (c != d)) H) := by
  intro pins s σ H x y v u Q I rx ry h
  obtain ⟨c, d, rfl, rfl, q⟩ := h
  cases rx
  cases ry
  exact isnot_bool (fin_bl I q rfl)
end
end L2
namespace PySem
open PySem.W PyProof.Rows
section
variable {prog : Program} {w : World} {A : Around} {E : Value → Shared → Prop} {s : Shared} {T : String} {r d : Addr} {n : Nat} {P : Nat → Value → Prop} {OK : Heap → Prop}
theorem collect_src {Q : List Value → Shared → Prop} (K : KdlSrc prog w T r d n P OK) (hh : A.handled = none) (hok : OK s.heap) (hn : n ≤ sizeLine)
    (hQ : ∀ (h' : Heap) (tk : Nat) (acc : Array Value), (∀ b o, s.heap.get? b = some o → h'.get? b = some o) → ItemsOf P acc n → Q acc.toList { s with heap := h', toks := tk }) : wpAny (model prog w) A (collect (.ref r)) Q E s := by
  unfold collect
  refine wpAny_bind (wpAny_runValue (codeAny_builtin F.entry_proto_collect ?_))
  rw [Around.under_plainId F.plain_proto_collect _]
  show wpAny _ A.in1 (newList [] >>= fun l => again (.builtin "list.__iadd__" ⟨[l, .ref r], []⟩)) _ _ s
  refine wpAny_bind (wpAny_newObj_type ?_)
  refine wpAny_pure ⟨plainId_quiet F.plain_list_iadd _, codeAny_builtin F.entry_list_iadd ?_⟩
  rw [Around.under_plainId F.plain_list_iadd _]
  show wpAny _ A.in1 (Builtin.List.listExtendWith (.ref s.heap.objs.size) (.ref r) (.ref s.heap.objs.size)) _ _ _
  have hlt := K.there _ hok
  have hS0 : (s.heap.push { cls := .type "list", data := .seq ([] : List Value).toArray }).get? s.heap.objs.size = some { cls := .type "list", data := .seq #[] 0 } := Heap.get?_push_size _ rfl
  refine kdl_extend (R := fun r s' => match r with
    | .ok (.ret v) => wpAny (model prog w) A (match v with
      | .ref a => do
        let o ← load a
        match o.data with
          | .seq xs _ => pure xs.toList
          | _ => unsupported "internal:collect"
      | _ => unsupported "internal:collect") Q E s'
    | .ok _ => False
    | .error e => E e s') (s := { s with heap := s.heap.push { cls := .type "list", data := .seq ([] : List Value).toArray } }) K hh (K.keep _ _ hok fun b _ o e => Heap.get?_push_of_some _ e) _ (Nat.ne_of_gt hlt.1) (Nat.ne_of_gt hlt.2) _ 0 hS0 (fun h' tk acc c hk hS hacc => ?_) hn
  show wpAny _ A (load s.heap.objs.size >>= _) _ _ _
  refine wpAny_bind (wpAny_load hS ?_)
  exact wpAny_pure (hQ h' tk acc (fun b o e => hk b o (Nat.ne_of_lt (Heap.lt_size e)) (Heap.get?_push_of_some _ e)) hacc)
end
end PySem
namespace L2
open PySem PySem.Spec PyProof.Rows PySem.W
theorem pairedGet {α β : Type} {F : α → β → Prop} : ∀ {l : List α} {m : List β}, l.length = m.length → (∀ (i : Nat) x y, l[i]? = some x → m[i]? = some y → F x y) → Paired F l m
  | [], [], _, _ => .nil
  | x :: l, y :: m, hl, h => .cons (h 0 x y rfl rfl) (pairedGet (by simpa using hl) fun i a b e1 e2 => h (i + 1) a b (by simpa using e1) (by simpa using e2))
  | [], _ :: _, hl, _ => by simp at hl
  | _ :: _, [], hl, _ => by simp at hl
theorem relKey {k : Key} {v : Value} (h : keyIs k v = true) : RelV (kV k) v := by
  rcases keyIs_shape h with ⟨i, t, rfl, rfl⟩ | ⟨x, t, rfl, rfl⟩
  · exact ⟨_, rfl⟩
  · exact ⟨_, rfl⟩
section
variable {X : Cx}
end
end L2
namespace L2
open PySem PySem.Spec PyProof.Rows
section
variable {X : Cx}
end
end L2
namespace L2
open PySem PySem.Spec PyProof.Rows
theorem vals_of_ints : ∀ {us : List Value} {ns : List Int}, IntsAre us ns → Vals (ns.map V.int) us
  | _, _, .nil => .nil
  | _, _, .cons n t h => .cons ⟨t, rfl⟩ (vals_of_ints h)
end L2
namespace L2
open PySem PySem.Spec PyProof.Rows
section
variable {X : Cx}
end
end L2
namespace L2
open PySem PySem.Spec PyProof.Rows
end L2
set_option maxRecDepth 100000
namespace L2
open PySem PySem.Spec PyProof.Rows
noncomputable abbrev Cx.tr (X : Cx) (ps : List (Addr × Obj)) (Kx : Value → Shared → Prop) : Cx := { X with pn := X.pn ++ ps, xe := fun e s' => wpAny (model X.prog X.w) X.A (noteFrame e X.env) (fun _ s'' => Kx e s'') X.xe s' }
section
variable {X : Cx} {ps pins : List (Addr × Obj)} {Kx : Value → Shared → Prop} {σ : St} {H : Hp} {s : Shared} {Ex : St → XK}
theorem Inv.tr (I : Inv X ps σ H s) (Kx : Value → Shared → Prop) : Inv (X.tr ps Kx) [] σ H s :=
  ⟨⟨I.ok.mod, I.ok.kind, I.ok.glob, I.ok.blt, I.ok.above, I.ok.inj, I.ok.has, I.ok.cab, I.ok.hd, I.ok.frames, I.ok.stk, I.ok.exf, I.ok.bs, I.ok.bsz, I.ok.noex, I.ok.exfs, I.ok.funs, I.ok.frf⟩, I.os, I.bare, I.base, I.loc, I.cell, I.free, I.freeC, fun p hp => I.pin p (by
    have : p ∈ (X.pn ++ ps) ++ [] := hp
    rwa [List.append_nil] at this), I.hok, I.len⟩
theorem Inv.untr (I : Inv (X.tr ps Kx) pins σ H s) : Inv X ps σ H s :=
  ⟨⟨I.ok.mod, I.ok.kind, I.ok.glob, I.ok.blt, I.ok.above, I.ok.inj, I.ok.has, I.ok.cab, I.ok.hd, I.ok.frames, I.ok.stk, I.ok.exf, I.ok.bs, I.ok.bsz, I.ok.noex, I.ok.exfs, I.ok.funs, I.ok.frf⟩, I.os, I.bare, I.base, I.loc, I.cell, I.free, I.freeC, fun p hp => I.pin p (List.mem_append_left _ hp), I.hok, I.len⟩
theorem SP.untr {D : Ends} {f : Flow} {s' : Shared} (h : SP (X.tr ps Kx) pins D f s') : SP X ps D f s' := by
  cases f with
  | next => obtain ⟨σ', H', I, q⟩ := h; exact ⟨σ', H', I.untr, q⟩
  | brk => obtain ⟨σ', H', I, q⟩ := h; exact ⟨σ', H', I.untr, q⟩
  | cont => obtain ⟨σ', H', I, q⟩ := h; exact ⟨σ', H', I.untr, q⟩
  | ret u => obtain ⟨v, σ', H', I, r, q⟩ := h; exact ⟨v, σ', H', I.untr, r, q⟩
noncomputable def Pas (X : Cx) (ps : List (Addr × Obj)) (Kx : Value → Shared → Prop) (Ex : St → XK) : Prop := ∀ (σ' : St) (H1 : Hp) (s1 : Shared) (e : Value) (s' : Shared), Inv X ps σ' H1 s1 → CXR X.prog X.w X.stack H1 s1 (Ex σ') e s' → (X.tr ps Kx).xe e s'
theorem run_fnT {k : Nat} {f : Addr} {fd : FuncData} {qs : List Str} {sp : Sp} {Q : VK} {us : List Value} {vs : List V} (F : FnOk X.prog X.w X.K X.mg X.base (CXR X.prog X.w) k f fd qs sp) (hr : Room k X.A) (hb : Binds X.K fd qs []) (hp : Pas X ps Kx Ex)
    (I : Inv (X.tr ps Kx) pins σ H s) (r : Vals vs us) (h : sp vs H Q (Ex σ)) : wpAny (model X.prog X.w) X.A (call (.ref f) us) (EP (X.tr ps Kx) pins σ Q) (X.tr ps Kx).xe s :=
  wpAny_mono (run_fnx (X := X.tr ps Kx) F hr hb I r h) (fun _ _ z => z) fun e s' ⟨H1, s1, I1, c⟩ => hp σ H1 s1 e s' I1.untr c
end
section
variable {X : Cx} {ps : List (Addr × Obj)} {Kx : Value → Shared → Prop} {Ex : St → XK} {k k' : Nat} {f C : Addr} {fd : FuncData} {qs : List Str} {sp : Sp} {m x : Str} {p pos apos : Pos} {o e : Expr} {es : List Expr} {ta : TE} {t : TA}
theorem pe_fnT (hp : Pas X ps Kx Ex) (F : FnX X.prog X.w X.K X.mg X.base x f fd qs k sp) (hr : Room k' X.A) (ha : PA (X.tr ps Kx) (e :: es) t) (hk : k ≤ k' := by first | decide | exact Nat.le_refl _) (hg : Gl X x := by rfl) (hdb : (x == ("__debug__" : Str)) = false := by decide)
    (he : starEach (e :: es) X.env = (false, eval e X.env) :: starEach es X.env := by rfl) (hpl : (backTo pos (starEach es X.env)).any (·.1) = false := by rfl) :
    PE (X.tr ps Kx) (.Call (.Name x p) (e :: es) [] pos) (fun σ H Q => t σ H fun vs H1 => sp vs H1 Q (Ex σ)) := by
  intro pins s σ H Q I h
  refine wpAny_Call_Name_kw (ld_glob I hg F.mg ?_ hdb)
  refine PySem.W.callWith_K (h₀ := X.base) I.ok.mod.kin F.kp (thn (ha pos pins s σ H _ I h) fun us s1 ⟨vs, H1, I1, r, q⟩ => ⟨I1.kIn, ?_⟩) he hpl
  exact run_fnT F.ok (hr.mono hk) F.bd hp I1 r q
end
noncomputable def takeH (K : PySem.W.Frag) (mg : Str → Option Value) (l : List (Addr × TS)) (D : Ends) : St → XK := fun σ' c _ H1 => ∃ x C mro t, c = .ref C ∧ Exc K mg x C mro ∧ pickH mro l = some t ∧ t D σ' H1
noncomputable def tTryT (K : PySem.W.Frag) (mg : Str → Option Value) (te : List (Addr × Obj) → (Value → Shared → Prop) → (St → XK) → TS) (l : List (Addr × TS)) : TS := fun D σ H => ∀ ps Kx, te ps Kx (takeH K mg l D) D σ H
theorem ps_tryT {X : Cx} {sts : List Stmt} {te : List (Addr × Obj) → (Value → Shared → Prop) → (St → XK) → TS} {h₀ : ExceptHandler} {hs : List ExceptHandler} {l : List (Addr × TS)} {pos : Pos} (he : ∀ ps Kx Ex, Pas X ps Kx Ex → PSs (X.tr ps Kx) sts (te ps Kx Ex)) (hh : Hs X (h₀ :: hs) l) (hf : X.env.frame = some X.env.locals) (hst : X.stack = X.env :: X.outer)
    (hpa : ∀ v, PassesOwnAt (model X.prog X.w) (X.A.mark v) X.A X.env X.xe) : PS X (.Try sts (h₀ :: hs) [] [] pos) (tTryT X.K X.mg te l) := by
  intro pins s σ H D I h
  refine wpAny_Try_except ?_
  have pas : Pas X pins (fun e s₂ => wpAny (model X.prog X.w) X.A (setFlight e none) (fun _ s₃ => wpAny (model X.prog X.w) X.A (handleBy e X.env (h₀ :: hs)) (SP X pins D) X.xe s₃) X.xe s₂) (takeH X.K X.mg l D) := by
    intro σ' H1 s2 ev s1 I1 q
    obtain ⟨xa, C, c, B, H', rfl, F, nmx, C', mro, t, ec, O, pk, qt⟩ := q
    cases ec
    have F' : Flown X.prog X.w (X.env :: X.outer) H1 s2 xa C c B H' s1 := by
      have : Flown X.prog X.w X.stack H1 s2 xa C c B H' s1 := F
      rw [hst] at this; exact this
    have hfr : X.A.frames = some (X.env :: X.outer) := by rw [← hst]; exact I.ok.frames
    have I1' : Inv X pins σ' H1 s2 := I1
    refine fl_note hfr hf F'.fly fun h4 held4 up4 => ?_
    refine fl_land (s := { s1 with heap := h4 }) held4 fun h5 fl5 up5' => ?_
    have up5 := up4.trans up5'
    have inv : ∀ {h : Heap}, B.StaysIn h → s1.heap.UpToSlots h → Inv X pins σ' H' { s1 with heap := h } := fun {h} st up => by
      have u := F.un st up
      exact I1'.call' (s' := { s1 with heap := h }) (ch := []) F.os u (F.hok.kept st) F.bare fun b z => absurd z (by simp)
    have ok := I.ok
    have main : ∀ {hs' : List ExceptHandler} {l' : List (Addr × TS)}, Hs X hs' l' → pickH mro l' = some t → wpAny (model X.prog X.w) X.A (handleBy (.ref xa) X.env hs') (SP X pins D) X.xe { s1 with heap := h5 } := by
      intro hs' l' hH
      induction hH with
      | nil => intro z; cases z
      | @cons nm2 C2 mro2 b₀ suite p2 np rest ts l2 O2 hg hdb hsu r ih =>
        intro z
        have I5 : Inv X pins σ' H' { s1 with heap := h5 } := inv fl5.1 up5
        refine wpAny_handleBy_cons (codeAny_handlers_test ?_) (by intro q; cases q)
        have Ic : Inv (X.caught xa []) pins σ' H' { s1 with heap := h5 } := I5.caught fun p hp => absurd hp (by simp)
        refine wpAny_mono (E := fun _ _ => False) (ld_glob Ic hg O2.bound (Q := fun c s' => c = .ref C2 ∧ s' = { s1 with heap := h5 }) ⟨rfl, rfl⟩ hdb) (fun c s' hc => ?_) fun _ _ z => z.elim
        obtain ⟨rfl, rfl⟩ := hc
        obtain ⟨bm, N1, nm, q1, bs, hdct, sn, sub, ab, col, dd, k0, k1, k2, k3, k5, mN, hC, _, _, T, em⟩ := O.obj I5.kIn
        obtain ⟨bm', N1', nm', q1', bs', hdct', sn', sub', ab', col', dd', l0, l1, l2', l3, l5, mN', hC', _, _, T', em'⟩ := O2.obj I5.kIn
        obtain ⟨ob, vs5, _, _, _, hob, hobc, _⟩ := fl5.2.2.2
        refine exc_matches (oe := ob) hC hC' hob hobc (T'.hasType PySem.F.excBase_ValueError.hasBase) ?_
        rw [← em]
        cases hb : mro.contains (.ref C2) with
        | true =>
          have z' : (if mro.contains (.ref C2) = true then some ts else pickH mro l2) = some t := z
          rw [hb, if_pos rfl] at z'
          cases z'
          refine codeAny_handlers_suite ?_
          refine fl_land (s := { s1 with heap := h5 }) fl5 fun h6 fl6 up6 => ?_
          have I6 : Inv X pins σ' H' { s1 with heap := h6 } := inv fl6.1 (up5.trans up6)
          obtain ⟨oe, vs, _, _, _, g1, g2, g3, g4, _⟩ := fl6.2.2.2
          obtain ⟨n, chn⟩ := F.ch
          have chn6 : Chain h6 (fun a => H' a = none) (n + 1) (.ref xa) := .inr ⟨xa, oe, vs, c, rfl, g1, F.new, g3, g4, chn.imp fun a o ws na ea _ => ⟨fl6.1 a o ea, na⟩⟩
          obtain ⟨ps, pk1, pk2⟩ := chn6.pins
          have Ic6 : Inv (X.caught xa ps) pins σ' H' { s1 with heap := h6 } := I6.caught fun p hp => by
            obtain ⟨a1, a2, ws, a3⟩ := pk1 p hp
            refine ⟨a1, a2, fun y => ?_, fun y => ?_, fun v y => ?_⟩
            · obtain ⟨m, ⟨o', es, ep, ho', hd', _⟩, _⟩ := I6.loc
              rw [y] at a1
              have a1' : h6.get? X.env.locals = some o' := ho'
              rw [a1'] at a1; cases a1
              rw [hd'] at a3; cases a3
            · obtain ⟨_, o', ho', n'⟩ := I6.funs.mem y
              have a1' : h6.get? p.1 = some o' := ho'
              rw [a1'] at a1; cases a1
              exact n' ws a3
            · rw [a3] at y; cases y
          refine wpAny_passesOwnAt (hpa _) ?_
          exact wpAny_mono (hsu xa ps ok ⟨n, pk2⟩ pins _ σ' H' D Ic6 qt) (fun f s' q => SP.uncaught ok q) fun _ _ q => q
        | false =>
          have z' : (if mro.contains (.ref C2) = true then some ts else pickH mro l2) = some t := z
          rw [hb, if_neg Bool.false_ne_true] at z'
          exact ih z'
    exact main hh pk
  refine wpAny_mono (he pins _ _ pas [] s σ H D (I.tr _) (h _ _)) (fun f s1 q => ?_) fun _ _ q => q
  cases f with
  | next => exact wpAny_execs_nil q.untr
  | ret v => exact SP.untr q
  | brk => exact SP.untr q
  | cont => exact SP.untr q
end L2
namespace L3
open PySem
open Sem (wp)
open AutoSeq1 (wpAny_loadPart')
section
variable {prog : Program} {w : World} {A : Around} {E : Value → Shared → Prop} {s : Shared}
end
section
variable {prog : Program} {w : World} {A : Around} {E : Value → Shared → Prop} {s : Shared}
end
end L3
namespace L2
open PySem PySem.Spec PyProof.Rows
section
variable {X : Cx}
end
end L2
namespace PySem
open PySem.W PyProof.Rows
section
variable {prog : Program} {w : World} {A : Around} {E : Value → Shared → Prop} {s : Shared} {r : Addr} {a b c : Int} {t u v : Tok} {n : Nat}
end
end PySem
namespace PyProof.Rows
open PySem
section
variable {prog : Program} {w : World} {A : Around} {E : Value → Shared → Prop} {s : Shared}
end
end PyProof.Rows
namespace L2
open PySem PySem.Spec PyProof.Rows
section
variable {X : Cx}
end
end L2
namespace PySem
open Sem (wp)
theorem lk_list_keys : typeLookup (.type "list") "keys" = pure none := by rw [typeLookup_type, builtinLookup_eq_fast]; kernel_rfl
theorem lk_list_getattr : typeLookup (.type "list") "__getattr__" = pure none := by rw [typeLookup_type, builtinLookup_eq_fast]; kernel_rfl
theorem meets_miss_list (a : Addr) (its : Array Value) (n : Nat) (u : Tok) :
    Meets (Builtin.«object.__getattribute__» ⟨[.ref a, .str "keys" u], []⟩) (fun A R s => s.heap.get? a = some { cls := .type "list", data := .seq its n } ∧ raisesAttr (.ref a) "keys" A R s) :=
  Meets.of_wp fun prog w A R s hs => by
    obtain ⟨hp, g, d, tk, os⟩ := s
    obtain ⟨hx, hs⟩ := hs
    have hT : (⟨hp, g, d, tk, os⟩ : Shared).TypeIs (.ref a) "list" := ⟨_, hx, rfl⟩
    have hx' : hp.get? a = some { cls := .type "list", data := .seq its n } := hx
    have f1 := lk_list_keys
    unfold Builtin.«object.__getattribute__»
    repeat (any_goals (first | assumption | with_reducible refine AutoSeq1.wpAny_loadPart' hx' ?_ | wp_step))
    exact wpAny_raiseAttrError hs.1 hs.2 (attrMsg_fits (by decide +kernel) (by decide +kernel))
theorem getAttr?_keys_list {prog : Program} {w : World} {A : Around} {E : Value → Shared → Prop} {s : Shared} {a : Addr} {its : Array Value} {n : Nat} {Q : Option Value → Shared → Prop} (hx : s.heap.get? a = some { cls := .type "list", data := .seq its n }) (hA : A.handled = none)
    (h : ∀ h' tk, (∀ b o, s.heap.get? b = some o → h'.get? b = some o) → Q none { s with heap := h', toks := tk }) : wpAny (model prog w) A (getAttr? (.ref a) "keys") Q E s := by
  obtain ⟨hp, g, d, tk, os⟩ := s
  have hT : (⟨hp, g, d, tk + 1, os⟩ : Shared).TypeIs (.ref a) "list" := ⟨_, hx, rfl⟩
  have f1 := sub_AttributeError
  have f3 := F.slot_list_getattribute.lookup
  have f4 := F.slot_list_getattribute.bind (.ref a)
  have f5 := lk_list_getattr
  unfold getAttr? getAttrBy? getAttrBy
  repeat (any_goals (first | assumption | ((with_reducible show wpAny _ _ (call (Value.builtin "list.__getattribute__") _ _) _ _ _); refine call_meets F.slot_list_getattribute hT F.entry_list_ga (F.args_list_getattribute_2 _ _) (meets_miss_list a its n _) ⟨hx, hA, fun h' tk' e hx' => ?_⟩) | wp_step))
  obtain ⟨t', u', he⟩ := hx'.there
  show wpAny _ _ (getattributeRaised _ _ _ _ _ _ _) _ _ _
  unfold getattributeRaised
  repeat (any_goals (first | assumption | wp_step))
  exact h _ _ hx'.keeps
end PySem
namespace PySem.F
theorem entry_dict_update_loop : entryFor table "dict.update.loop" = some Builtin.«dict.update.loop» := entryFor_of_tree (by kernel_rfl)
theorem plain_dict_update_loop : plainId "dict.update.loop" = true := by decide +kernel
end PySem.F
namespace L2
open PySem PySem.Spec PyProof.Rows
end L2
namespace L2
open PySem PySem.Spec PyProof.Rows
section
variable {X : Cx} {tg : Expr}
end
end L2
namespace L2
open PySem PySem.Spec PyProof.Rows
section
variable {X : Cx}
end
end L2
namespace PySem
open Sem (wp)
section
variable {prog : Program} {w : World} {A : Around} {E : Value → Shared → Prop} {s : Shared}
end
end PySem
namespace L2
open PySem PySem.Spec PyProof.Rows PySem.W
section
variable {X : Cx} {tg : Expr}
end
end L2
namespace PySem
open Sem (wp)
section
variable {prog : Program} {w : World} {K : Type} [DecidableEq K] {knd : KeyKind prog w K} {A : Around} {E : Value → Shared → Prop} {s : Shared}
end
end PySem
namespace L2
open PySem PySem.Spec PyProof.Rows PySem.W
section
variable {X : Cx} {o e f : Expr} {apos cpos : Pos} {td ty tx : TE}
end
end L2
namespace L2
open PySem PySem.Spec PyProof.Rows PySem.W
section
variable {X : Cx}
end
end L2
namespace L2
open PySem PySem.Spec PyProof.Rows PySem.W
section
variable {X : Cx}
noncomputable def rEqTA (K : PySem.W.Frag) (neg : Bool) : R2 := fun x y H Q => ∃ (a b : Addr) (d c : Str) (rest : List V), x = .ref a ∧ y = .ref b ∧ SqT K H a (.str d :: rest) ∧ SqT K H b [.str c] ∧ Q (.bl (if neg then !(decide (d = c) && rest.isEmpty) else (decide (d = c) && rest.isEmpty))) H
theorem op_eqTA (hu : X.A.units + 64 < cLine) : OpR X (compareOp .Eq) (rEqTA X.K false) := by
  intro pins s σ H x y v u Q I rx ry h
  obtain ⟨a, b, d, c, rest, rfl, rfl, ha, hb, q⟩ := h
  cases rx
  cases ry
  obtain ⟨its, r1, p1, _⟩ := I.tuple ha
  obtain ⟨its2, r2, p2, _⟩ := I.tuple hb
  obtain ⟨u2, rfl, ru2⟩ := vals1 r2
  obtain ⟨t2, rfl⟩ := ru2
  have hl := r1.length
  obtain ⟨u1, us, rfl, t1, rfl⟩ : ∃ u1 us, its = u1 :: us ∧ ∃ t, u1 = .str d t := by
    cases r1 with
    | cons r t => obtain ⟨t', rfl⟩ := r; exact ⟨_, _, rfl, t', rfl⟩
  obtain ⟨⟨oc, od, odt, osl⟩, e, hc, n, hd⟩ := id p1
  replace hc : oc = .type "tuple" := hc
  replace hd : odt = .seq (Value.str d t1 :: us).toArray n := hd
  subst hc hd
  obtain ⟨⟨oc, od2, odt, osl2⟩, e2, hc, n2, hd⟩ := id p2
  replace hc : oc = .type "tuple" := hc
  replace hd : odt = .seq [Value.str c t2].toArray n2 := hd
  subst hc hd
  have hlu : us.length = rest.length := by simpa using hl.symm
  have hv : ((List.range (min (Value.str d t1 :: us).toArray.size [Value.str c t2].toArray.size)).all (fun _ => decide (d = c)) && (Value.str d t1 :: us).toArray.size == [Value.str c t2].toArray.size) = (decide (d = c) && rest.isEmpty) := by
    rw [List.size_toArray, List.size_toArray, List.length_cons, List.length_singleton, hlu, show min (rest.length + 1) 1 = 1 by lia]
    show ((decide (d = c) && true) && _) = _
    rw [Bool.and_true]
    congr 1
    cases rest <;> simp
  have ed : eqV (.str d) (.str c) = decide (d = c) := by
    show (d == c) = decide (d = c)
    by_cases z : d = c
    · rw [decide_eq_true z, z]; exact beq_self_eq_true _
    · rw [decide_eq_false z]
      cases e : d == c with
      | false => rfl
      | true => exact absurd (eq_of_beq e) z
  exact richCompare_meets_room (op := .Eq) ⟨_, e, rfl⟩ ⟨_, e2, rfl⟩ slot_tuple_eq entry_tuple_eq (args_tuple_eq _ _) (SeqAt.tuple_eqAt a b (Value.str d t1 :: us).toArray [Value.str c t2].toArray n n2 od od2 osl osl2 (fun _ => decide (d = c)))
    ⟨e, e2, fun j h1 h2 => by
      have : j = 0 := by
        have : j < 1 := h2
        lia
      subst this
      rw [← ed]
      exact eqAt_V (y := .str d) (x := .str c) ⟨t1, rfl⟩ ⟨t2, rfl⟩ rfl rfl, by
      rw [hv]
      exact ⟨(fun x => nomatch x), ⟨.bl _, H, I, rfl, q⟩⟩⟩ (by lia)
theorem op_neTA (hu : X.A.units + 64 < cLine) : OpR X (compareOp .NotEq) (rEqTA X.K true) := by
  intro pins s σ H x y v u Q I rx ry h
  obtain ⟨a, b, d, c, rest, rfl, rfl, ha, hb, q⟩ := h
  cases rx
  cases ry
  obtain ⟨its, r1, p1, _⟩ := I.tuple ha
  obtain ⟨its2, r2, p2, _⟩ := I.tuple hb
  obtain ⟨u2, rfl, ru2⟩ := vals1 r2
  obtain ⟨t2, rfl⟩ := ru2
  have hl := r1.length
  obtain ⟨u1, us, rfl, t1, rfl⟩ : ∃ u1 us, its = u1 :: us ∧ ∃ t, u1 = .str d t := by
    cases r1 with
    | cons r t => obtain ⟨t', rfl⟩ := r; exact ⟨_, _, rfl, t', rfl⟩
  have hlu : us.length = rest.length := by simpa using hl.symm
  have ed : eqV (.str d) (.str c) = decide (d = c) := by
    show (d == c) = decide (d = c)
    by_cases z : d = c
    · rw [decide_eq_true z, z]; exact beq_self_eq_true _
    · rw [decide_eq_false z]
      cases e : d == c with
      | false => rfl
      | true => exact absurd (eq_of_beq e) z
  refine SeqAt.RcNeAt.tuples (e := fun _ => decide (d = c)) (show s.heap.IsTuple a (Value.str d t1 :: us).toArray from p1) (show s.heap.IsTuple b [Value.str c t2].toArray from p2) (by lia) (fun j g1 g2 => ?_) X.prog X.w _ _ ?_
  · have : j = 0 := by
      have : j < 1 := g2
      lia
    subst this
    rw [← ed]
    exact eqAt_V (y := .str d) (x := .str c) ⟨t1, rfl⟩ ⟨t2, rfl⟩ rfl rfl
  · have hv : ((List.range (min (Value.str d t1 :: us).toArray.size [Value.str c t2].toArray.size)).all (fun _ => decide (d = c)) && (Value.str d t1 :: us).toArray.size == [Value.str c t2].toArray.size) = (decide (d = c) && rest.isEmpty) := by
      rw [List.size_toArray, List.size_toArray, List.length_cons, List.length_singleton, hlu, show min (rest.length + 1) 1 = 1 by lia]
      show ((decide (d = c) && true) && _) = _
      rw [Bool.and_true]
      congr 1
      cases rest <;> simp
    rw [hv]
    exact ⟨.bl _, H, I, rfl, q⟩
end
end L2
namespace PySem
open Sem (wp)
section
variable {prog : Program} {w : World} {A : Around} {E : Value → Shared → Prop} {s : Shared}
theorem wpAny_pyHash_none {Q : Int → Shared → Prop} (h : Q 4238894112 { s with toks := s.toks + 1 }) : wpAny (model prog w) A (pyHash .none) Q E s := by
  unfold pyHash
  have hv : [Value.none].any Value.onHeap = false := rfl
  refine wpAny_bind ?_
  rw [cRoomFor, if_neg (by rw [hv]; exact Bool.false_ne_true)]; refine wpAny_pure ?_
  refine wpAny_bind (wpAny_specialOf (typeIs_none s) F.slot_NoneType_hash.lookup ?_)
  show wpAny _ _ (if (some (Value.builtin "NoneType.__hash__") == some Value.none) = true then _ else _) Q E s
  rw [if_neg (by rw [beq_builtin_none]; exact Bool.false_ne_true)]
  refine wpAny_bind (wpAny_specialOf (typeIs_none s) F.slot_NoneType_hash.lookup ?_)
  show wpAny _ _ (callSpecialIfBoundUnlessNone? .none "__hash__" _ >>= _) Q E s
  refine wpAny_bind (wpAny_callSpecialIfBoundUnlessNone?_slot (typeIs_none s) F.slot_NoneType_hash
    (wpAny_call_entry F.slot_NoneType_hash (typeIs_none s) F.entry_NoneType_hash
      (show wpAny _ _ (do ret (← mkInt 4238894112)) _ _ s from wpAny_ret_mkInt ?_) (F.args_NoneType_hash_1 _)))
  show wpAny _ _ (if (decide (-(2 : Int) ^ 63 ≤ 4238894112) && decide ((4238894112 : Int) < 2 ^ 63)) = true then _ else _) Q E _
  rw [if_pos (by decide)]
  exact wpAny_pure h
end
end PySem
namespace L2
open PySem PySem.Spec PyProof.Rows
noncomputable def oIs : Option Int → Value → Bool
  | none, .none => true
  | none, _ => false
  | some i, v => Value.isInt i v
noncomputable def oH : Option Int → Int
  | none => 4238894112
  | some i => hashInt i
theorem oIs_shape : ∀ {k : Option Int} {v : Value}, oIs k v = true → (k = none ∧ v = Value.none) ∨ (∃ i t, k = some i ∧ v = Value.int i t)
  | none, v, h => by
    cases v with
    | none => exact .inl ⟨rfl, rfl⟩
    | _ => cases h
  | some i, v, h => by
    obtain ⟨t, e⟩ := Value.isInt_shape (k := i) (v := v) h
    exact .inr ⟨i, t, rfl, e⟩
noncomputable def noneKind (prog : Program) (w : World) : PySem.KeyKind prog w (Option Int) where
  is := oIs
  hash := oH
  inj := fun v a b ha hb => by
    rcases oIs_shape ha with ⟨rfl, rfl⟩ | ⟨i, t, rfl, rfl⟩
    · rcases oIs_shape hb with ⟨rfl, e⟩ | ⟨j, u, rfl, e⟩
      · rfl
      · exact nomatch e
    · rcases oIs_shape hb with ⟨rfl, e⟩ | ⟨j, u, rfl, e⟩
      · exact nomatch e
      · injection e with e1 _; rw [e1]
  byValue := fun k v h => by
    rcases oIs_shape h with ⟨rfl, rfl⟩ | ⟨i, t, rfl, rfl⟩ <;> rfl
  pyHash := fun hv h => by
    rcases oIs_shape hv with ⟨rfl, rfl⟩ | ⟨i, t, rfl, rfl⟩
    · exact wpAny_pyHash_none h
    · exact wpAny_pyHash_int h
  eqBool := fun {A E s a b u v Q} hu hv h => by
    rcases oIs_shape hu with ⟨rfl, rfl⟩ | ⟨i, t, rfl, rfl⟩
    · rcases oIs_shape hv with ⟨rfl, rfl⟩ | ⟨j, u, rfl, rfl⟩
      · exact SeqAt.EqAt.same .none _ _ _ _ h
      · exact SeqAt.EqAt.none_int j u _ _ _ _ h
    · rcases oIs_shape hv with ⟨rfl, rfl⟩ | ⟨j, u, rfl, rfl⟩
      · exact SeqAt.EqAt.int_none i t _ _ _ _ h
      · have e : decide ((some i : Option Int) = some j) = (i == j) := by
          by_cases c : i = j
          · subst c; simp
          · rw [decide_eq_false (fun z => c (Option.some.inj z))]; exact (beq_eq_false_iff_ne.mpr c).symm
        rw [e] at h
        exact wpAny_eqBool_int h
  «strs» := fun k x t v h => by
    rcases oIs_shape h with ⟨_, e⟩ | ⟨_, _, _, e⟩ <;> exact nomatch e
noncomputable def oV : Option Int → V
  | none => .non
  | some i => .int i
theorem oV_is : ∀ {k : Option Int} {v : Value}, RelV (oV k) v → oIs k v = true
  | none, _, r => by cases (show _ = Value.none from r); rfl
  | some i, _, r => by
    obtain ⟨t, rfl⟩ := r
    simp [oIs, Value.isInt]
theorem oItems {P : Program} {w : World} : ∀ {ks : List (Option Int)} {us : List Value}, Vals (ks.map oV) us → ItemsAre (noneKind P w) ks us
  | [], _, r => by rw [List.map_nil] at r; cases r; exact .nil
  | k :: ks, _, r => by
    rw [List.map_cons] at r
    cases r with
    | cons h t => exact .cons (oV_is h) (oItems t)
theorem oKey {P : Program} {w : World} {H : Hp} {h : Heap} {a : Addr} {ks : List (Option Int)} (ok : HOk P w H h) (e : H a = some (.tup (ks.map oV))) : (tupleKind (noneKind P w)).is h ks a := by
  obtain ⟨_, its, r, ⟨o, h1, h2, n, h3⟩, _⟩ := (show ObjOk P w H h a (.tup (ks.map oV)) from ok a _ e)
  exact ⟨o, its.toArray, n, h1, h2, h3, by simpa using oItems r⟩
noncomputable def OD (P : Program) (w : World) (H : Hp) (h : Heap) (S : Addr) (ks : List (List (Option Int))) : Prop := ∃ (xs : List (List (Option Int) × Addr × Value)) (o : Obj) (es : Array DictEntry) (ep : Nat), xs.map (·.1) = ks ∧ (∀ x ∈ xs, H x.2.1 = some (.tup (x.1.map oV))) ∧ h.get? S = some o ∧ o.ExactDict ∧ o.data = .dict es ep ∧ es.toList = xs.map (entryOfKey (tupleKind (noneKind P w)))
theorem OD.at' {P : Program} {w : World} {H : Hp} {h h' : Heap} {S : Addr} {ks : List (List (Option Int))} (d : OD P w H h S ks) (k : ∀ o, h.get? S = some o → h'.get? S = some o) : OD P w H h' S ks := by
  obtain ⟨xs, o, es, ep, e1, e2, e3, e4⟩ := d
  exact ⟨xs, o, es, ep, e1, e2, k _ e3, e4⟩
theorem OD.set {X : Cx} {pins : List (Addr × Obj)} {σ : St} {H : Hp} {s : Shared} {S a : Addr} {r : Value} {A : Around} {E : Value → Shared → Prop} {ks : List (List (Option Int))} {k : List (Option Int)} {Q : Unit → Shared → Prop} (I : Inv X pins σ H s) (d : OD X.prog X.w H s.heap S ks) (hn : (ks ++ [k]).Nodup) (l : ks.length ≤ 1000000) (hu : A.units < cLine) (ha : H a = some (.tup (k.map oV)))
    (h : ∀ h' tk, Heap.SameBut S s.heap h' → OD X.prog X.w H h' S (ks ++ [k]) → Q () { s with heap := h', toks := tk }) : wpAny (model X.prog X.w) A (dictSet S (.ref a) r) Q E s := by
  obtain ⟨xs, o, es, ep, e1, e2, e3, e4, e5, e6⟩ := d
  rw [List.nodup_append] at hn
  have hx : ∀ x ∈ xs, (tupleKind (noneKind X.prog X.w)).is s.heap x.1 x.2.1 := fun x hx => oKey I.hok (e2 x hx)
  have dd : s.heap.DictOfH (tupleKind (noneKind X.prog X.w)) S xs := ⟨o, es, ep, e3, e4, e5, e6, hx, by rw [e1]; exact hn.1⟩
  have hz : xs.length ≤ sizeLine := by
    have : xs.length = ks.length := by rw [← e1, List.length_map]
    exact Nat.le_trans (show xs.length ≤ 1000000 by lia) (by decide)
  refine wpAny_dictSet_heap (knd := tupleKind (noneKind X.prog X.w)) (hsz := hz) hu (oKey I.hok ha) dd fun h' dd' hs => h h' _ hs ?_
  have hnew : atKey xs k = none := atKey_none_of_get fun j p hj => hn.2.2 k (by rw [← e1]; exact List.mem_map.mpr ⟨_, List.mem_of_getElem? hj, rfl⟩) k (by simp) rfl
  rw [storedH_new hnew] at dd'
  obtain ⟨o', es', ep', f1, f2, f3, f4, f5, f6⟩ := dd'
  refine ⟨_, o', es', ep', by rw [List.map_append, e1]; rfl, fun x hx => ?_, f1, f2, f3, f4⟩
  rcases List.mem_append.mp hx with y | y
  · exact e2 x y
  · have : x = (k, a, r) := by simpa using y
    rw [this]; exact ha
theorem oloop {X : Cx} {pins : List (Addr × Obj)} {σ : St} {A : Around} {R : Result → Shared → Prop} {s : Shared} {S it l : Addr} {as bs : List Addr} {ks : List (List (Option Int))} (hh : A.handled = none) (hu : A.units + 1 < cLine) (hne : it ≠ S) (hlen : as.length = ks.length) (hlen2 : bs.length = ks.length) (hsz : ks.length ≤ 1000000) (hnd : ks.Nodup) {H : Hp} (hl1 : H l = some (.lst (as.map V.ref)))
    (hit1 : ∀ (j : Nat) (a b : Addr) (k : List (Option Int)), as[j]? = some a → bs[j]? = some b → ks[j]? = some k → ∃ z, H a = some (.tup [.ref b, z]) ∧ H b = some (.tup (k.map oV))) (hfS : FpOk X pins H S)
    (hR : ∀ (h : Heap) (tk : Nat), Inv X pins σ H { s with heap := h, toks := tk } → OD X.prog X.w H h S ks → R (.ok (.ret .none)) { s with heap := h, toks := tk }) :
    ∀ (k i : Nat) (h : Heap) (tk : Nat), ks.length - i = k → i ≤ ks.length → h.IsListIter it l i → Inv X pins σ H { s with heap := h, toks := tk } → OD X.prog X.w H h S (ks.take i) → FpOk X pins H it →
      codeAny (model X.prog X.w) A (.builtin "dict.update.loop" ⟨[.ref S, .ref it, rawInt i, .none], []⟩) R { s with heap := h, toks := tk } := by
  intro k
  induction k with
  | zero =>
    intro i h tk hk hi hit I hD hf
    have ei : i = ks.length := by lia
    obtain ⟨its, rv, p, _⟩ := I.list (a := l) (xs := as.map V.ref) (SqL.of hl1)
    have hl := rv.length
    rw [List.length_map] at hl
    obtain ⟨f0, f1, f2, f3, f4, f5⟩ := hf
    refine codeAny_builtin PySem.F.entry_dict_update_loop ?_
    rw [Around.under_plainId PySem.F.plain_dict_update_loop _]
    show wpAny _ A.in1 (pyNext (.ref it) >>= _) _ _ _
    refine wpAny_bind (wpAny_pyNext_list_end (s := { s with heap := h, toks := tk }) (A := A.in1) hh hit p.isList (by simp; lia) fun h' eb => ?_)
    have I' : Inv X pins σ H { s with heap := h', toks := tk } := Inv.turned (s := { s with heap := h, toks := tk }) (t' := tk) I (fun b o hb e => eb b o hb e) f0 f1 f3 f4 f5
    show wpAny _ A.in1 (Builtin.Dict.addKeywords S [] >>= fun _ => ret Value.none) _ _ _
    refine wpAny_bind (wpAny_pure (wpAny_pure (hR h' tk I' ?_)))
    rw [ei, List.take_length] at hD
    exact hD.at' fun o e => eb S o (Ne.symm hne) e
  | succ k ih =>
    intro i h tk hk hi hit I hD hf
    have hlt : i < ks.length := by lia
    have hx : as[i]? = some as[i] := List.getElem?_eq_getElem (by lia)
    have hb : bs[i]? = some bs[i] := List.getElem?_eq_getElem (by lia)
    have hkv : ks[i]? = some ks[i] := List.getElem?_eq_getElem hlt
    obtain ⟨z, hT, hB⟩ := hit1 i _ _ _ hx hb hkv
    obtain ⟨its, rv, p, _⟩ := I.list (a := l) (xs := as.map V.ref) (SqL.of hl1)
    obtain ⟨u, hu', ru⟩ := rv.get (i := i) (x := V.ref as[i]) (by rw [List.getElem?_map, hx]; rfl)
    cases ru
    obtain ⟨f0, f1, f2, f3, f4, f5⟩ := id hf
    refine codeAny_builtin PySem.F.entry_dict_update_loop ?_
    rw [Around.under_plainId PySem.F.plain_dict_update_loop _]
    show wpAny _ A.in1 (pyNext (.ref it) >>= _) _ _ _
    refine wpAny_bind (wpAny_pyNext_list_item (s := { s with heap := h, toks := tk }) hit p.isList (x := .ref as[i]) (by simpa using hu') fun h' st' sb => ?_)
    have I' : Inv X pins σ H { s with heap := h', toks := tk } := Inv.turned (s := { s with heap := h, toks := tk }) (t' := tk) I (fun b o hb e => (sb.2 b hb).trans e) f0 f1 f3 f4 f5
    have hD' : OD X.prog X.w H h' S (ks.take i) := hD.at' fun o e => (sb.2 S (Ne.symm hne)).trans e
    obtain ⟨tits, trv, tp, _⟩ := I'.tuple (a := as[i]) (xs := [.ref bs[i], z]) (SqT.of hT)
    obtain ⟨o, ho, hc, n, hd⟩ := tp
    obtain ⟨u1, u2, rfl, r1, r2⟩ := vals2 trv
    cases r1
    refine wpAny_bind (wpAny_holding (wpAny_bind (wpAny_tryCatch ?_)))
    unfold Builtin.Dict.pairItems
    refine wpAny_bind (wpAny_typeOf (T := "tuple") ⟨o, ho, hc⟩ ?_)
    rw [if_pos (by decide)]
    refine wpAny_bind (wpAny_seqItems ho hd (wpAny_pure ?_))
    show wpAny _ _ (holding [.ref bs[i], u2] (dictSet S (.ref bs[i]) u2)) _ _ _
    have htk : ks.take (i + 1) = ks.take i ++ [ks[i]] := by rw [List.take_add_one, hkv]; rfl
    refine wpAny_holding (OD.set (s := { s with heap := h', toks := tk }) I' hD' (by rw [← htk]; exact List.Nodup.sublist (List.take_sublist _ _) hnd) (by rw [List.length_take]; lia) hu hB fun h2 tk2 sb2 D2 => ?_)
    have I2 : Inv X pins σ H { s with heap := h2, toks := tk2 } := Inv.turned (s := { s with heap := h', toks := tk }) (t' := tk2) I' (fun b o hb e => (sb2.2 b hb).trans e) hfS.1 hfS.2.1 hfS.2.2.2.1 hfS.2.2.2.2.1 hfS.2.2.2.2.2
    refine wpAny_pure ⟨plainId_quiet PySem.F.plain_dict_update_loop _, ?_⟩
    have ec : ((i : Int) + 1) = ((i + 1 : Nat) : Int) := by push_cast; rfl
    rw [ec]
    refine ih (i + 1) h2 tk2 (by lia) (by lia) ?_ I2 (by rw [htk]; exact D2) hf
    obtain ⟨o', e', r'⟩ := st'
    exact ⟨o', (sb2.2 it hne).trans e', r'⟩
noncomputable def tLenDict (te : TA) : TE := fun σ H Q => te σ H fun vs H1 => ∃ (l : Addr) (as bs : List Addr) (ks : List (List (Option Int))), vs = [.ref l] ∧ H1 l = some (.lst (as.map V.ref)) ∧ as.length = ks.length ∧ bs.length = ks.length ∧ ks.length ≤ 1000000 ∧ ks.Nodup ∧
  (∀ (j : Nat) (a b : Addr) (k : List (Option Int)), as[j]? = some a → bs[j]? = some b → ks[j]? = some k → ∃ z, H1 a = some (.tup [.ref b, z]) ∧ H1 b = some (.tup (k.map oV))) ∧ Q (.int ks.length) H1
theorem call_len_OD {X : Cx} {pins : List (Addr × Obj)} {σ : St} {A : Around} {E : Value → Shared → Prop} {s : Shared} {H : Hp} {S : Addr} {ks : List (List (Option Int))} {Q : Value → Shared → Prop} (hS : (S == sysModules) = false) (d : OD X.prog X.w H s.heap S ks) (hz : ks.length ≤ 1000000) (h : ∀ t tk, Q (.int ks.length t) { s with toks := tk }) : wpAny (model X.prog X.w) A (call (.builtin "len") [.ref S]) Q E s := by
  obtain ⟨xs, o, es, ep, e1, e2, e3, e4, e5, e6⟩ := d
  have hT : s.TypeIs (.ref S) "dict" := ⟨o, e3, e4.1⟩
  have hsz : es.size = ks.length := by rw [← Array.length_toList, e6, List.length_map, ← e1, List.length_map]
  refine PyProof.Rows.call_len_slot (n := (ks.length : Int)) hT PySem.F.slot_dict_len (fun Q' hq => ?_) (by lia) (by lia) (h _ _)
  refine wpAny_call_entry PySem.F.slot_dict_len hT PySem.F.entry_dict_len ?_ (PySem.F.args_dict_len_1 _)
  show wpAny _ _ (dictSize S >>= _) _ _ s
  unfold dictSize
  refine wpAny_bind (wpAny_bind (wpAny_dictEntries e3 e5 (wpAny_pure ?_)))
  show wpAny _ _ (Builtin.Dict.pendingCount S >>= _) _ _ s
  refine wpAny_bind (wpAny_pendingCount_other hS ?_)
  refine wpAny_ret_mkInt ?_
  rw [Nat.add_zero, hsz]
  exact hq
theorem pe_lenDict {X : Cx} {a : Expr} {ta : TA} {p pos p2 pos2 : Pos} (hc : X.calm = true) (hu : X.A.units + 64 < cLine) (hg : Gl X "len") (hm : X.mg "len" = none) (hg2 : Gl X "dict") (hm2 : X.mg "dict" = none) (ha : PA X [a] ta) (hs : starEach [a] X.env = [(false, eval a X.env)] := by rfl)
    (hs2 : starEach [.Call (.Name "dict" p2) [a] [] pos2] X.env = [(false, eval (.Call (.Name "dict" p2) [a] [] pos2) X.env)] := by rfl) : PE X (.Call (.Name "len" p) [.Call (.Name "dict" p2) [a] [] pos2] [] pos) (tLenDict ta) := by
  intro pins s σ H Q I h
  refine Call_ (ld_blt I hg hm L3.bt_len (PyProof.Rows.callWith_builtin1 ?_ hs2 rfl))
  rw [hs2]
  show wpAny _ _ (spliced ((false, eval (.Call (.Name "dict" p2) [a] [] pos2) X.env) :: backTo pos [])) _ _ s
  refine Calls.spliced_cons ?_
  refine Call_ (ld_blt I hg2 hm2 L3.bt_dict (PyProof.Rows.callWith_type1 (thn (ha pos2 pins s σ H _ I h) fun us s1 ⟨vs, H1, I1, r1, q1⟩ => ?_) hs rfl))
  obtain ⟨l, as, bs, ks, e, hl, hlen, hlen2, hsz, hnd, hit, q⟩ := q1
  subst e
  obtain ⟨u, rfl, rx⟩ := vals1 r1
  cases rx
  have hA : X.A.in1.handled = none := I1.ok.hd hc
  refine callType_codes (Q₁ := fun obj s₁ => obj = .ref s1.heap.objs.size ∧ s₁ = { s1 with heap := s1.heap.push { cls := .type "dict", data := .dict #[] } }) F.kt_called_dict (F.kt_typeCall_dict_1 _) F.entry_dict_init (kt_code_dict_new _ ⟨rfl, rfl⟩) ?_
  rintro obj s₁ ⟨rfl, rfl⟩
  have hnew : (s1.heap.push { cls := .type "dict", data := .dict #[] }).DictOf (mixKind X.prog X.w) s1.heap.objs.size [] := Heap.DictOf.new s1.heap
  have nS : H1 s1.heap.objs.size = none := I1.hok.fresh (Nat.le_refl _)
  have hlS : l ≠ s1.heap.objs.size := ne_of_none hl nS
  have I0 : Inv X pins σ H1 { s1 with heap := s1.heap.push { cls := .type "dict", data := .dict #[] }, toks := s1.toks } := I1.kept (t' := s1.toks) fun b o e => Heap.get?_push_of_some _ e
  refine ⟨hnew.typeIs, F.args_dict_init_2 _ _, ?_⟩
  unfold Builtin.«dict.__init__»
  refine wpAny_bind ?_
  unfold Builtin.Dict.selfAndRest
  refine wpAny_bind (wpAny_notOrdered_dict hnew.typeIs ?_)
  show wpAny _ _ (pure (s1.heap.objs.size, [Value.ref l])) _ _ _
  refine wpAny_pure ?_
  show wpAny _ _ (Builtin.Dict.updateFrom "dict.__init__" s1.heap.objs.size (.ref l) [] .none) _ _ _
  unfold Builtin.Dict.updateFrom
  obtain ⟨zz, its, n, rv, hle, e⟩ := I0.lstM hl
  refine wpAny_bind (wpAny_typeOf (T := "list") ⟨_, e, rfl⟩ ?_)
  rw [if_pos (by decide)]
  refine wpAny_bind (getAttr?_keys_list (A := X.A.in1.in1) e hA fun h1 tk1 k1 => ?_)
  dsimp only
  rw [if_pos (by decide)]
  refine wpAny_bind (wpAny_rule ?_)
  have I2 : Inv X pins σ H1 { s1 with heap := h1, toks := tk1 } := I0.kept k1
  refine wpAny_bind (wpAny_pyIter_list (items := its.toArray) ⟨_, k1 _ _ e, rfl, n, rfl⟩ ?_)
  refine wpAny_pure ⟨plainId_quiet PySem.F.plain_dict_update_loop _, ?_⟩
  have I3 : Inv X pins σ H1 { s1 with heap := h1.push { cls := .type "list_iterator", data := .fields #[.ref l, .int 0 0] }, toks := tk1 } := I2.kept fun b o e => Heap.get?_push_of_some _ e
  have e1 : h1.get? s1.heap.objs.size = some { cls := .type "dict", data := .dict #[] } := k1 _ _ (Heap.get?_push_size _ rfl)
  have hlt : s1.heap.objs.size < h1.objs.size := Heap.lt_size e1
  have nit : H1 h1.objs.size = none := I2.hok.fresh (Nat.le_refl _)
  have hSys : (s1.heap.objs.size == sysModules) = false := (dk_empty (P := X.prog) (w := X.w) (H := H1) s1.heap I1.big).2.1
  refine oloop (X := X) (A := X.A.in1) (pins := pins) (σ := σ) (s := s1) (as := as) (bs := bs) (ks := ks) (H := H1) hA (by show X.A.units + 1 + 1 < cLine; lia) (Nat.ne_of_gt hlt) hlen hlen2 hsz hnd hl hit (I1.fpOk (Nat.le_refl _) nS) (fun h tk J D => ?_) ks.length 0 _ tk1 (by lia) (Nat.zero_le _) ⟨_, Heap.get?_push_size _ rfl, rfl, rfl⟩ I3 ⟨[], _, #[], 0, rfl, fun x hx => (by cases hx), Heap.get?_push_of_some _ e1, ⟨rfl, rfl, rfl⟩, rfl, rfl⟩ (I2.fpOk (Nat.le_refl _) nit)
  refine ⟨rfl, ?_⟩
  refine Calls.spliced_nil ?_
  exact call_len_OD (X := X) (pins := pins) (σ := σ) (s := { s1 with heap := h, toks := tk }) hSys D hsz fun t tk' => ⟨.int ks.length, H1, J.kept (t' := tk') fun _ _ e => e, ⟨_, rfl⟩, q⟩
theorem paired_getR {α β : Type} {F : α → β → Prop} : ∀ {l : List α} {m : List β} {i : Nat} {x : α} {y : β}, Paired F l m → l[i]? = some x → m[i]? = some y → F x y
  | _, _, _, _, _, .nil, h, _ => by simp at h
  | _, _, 0, _, _, .cons r _, h, h' => by
    simp at h h'; subst h; subst h'; exact r
  | _, _, i + 1, _, _, .cons _ t, h, h' => paired_getR (i := i) t (by simpa using h) (by simpa using h')
section
variable {X : Cx}
theorem call_maxL (hc : X.calm = true) : CallR X (.builtin "max") (fun xs H Q => ∃ (p : Addr) (ns : List Int), xs = [.ref p] ∧ SqL X.K H p (ns.map V.int) ∧ 0 < ns.length ∧ ∀ M, M ∈ ns → (∀ a ∈ ns, a ≤ M) → Q (.int M) H) := by
  intro pins s σ H xs us Q I r h
  obtain ⟨p, ns, rfl, hq, hne, q⟩ := h
  obtain ⟨u, rfl, rx⟩ := vals1 r
  cases rx
  obtain ⟨its, rv, pl, hz⟩ := I.list hq
  have hi := intsAre_of rv
  have hl := pl.isList
  obtain ⟨ys, e⟩ := hi.allInts.items
  have hns : ns = ys.toList.map (·.1) := by
    rw [← hi.numsOf, ← nums_intItems, ← e]
  have hsz : 0 < ys.size := by
    have h3 := hne; rw [hns, List.length_map, Array.length_toList] at h3; exact h3
  rw [e] at hl
  have hh : X.A.handled = none := I.ok.hd hc
  refine max_intList hh hl hsz fun v h' tk hv hk => ?_
  obtain ⟨t, rfl⟩ := intItems_at hv
  obtain ⟨h1, h2⟩ := argBest_gt (numAt ys) (ys.size - 1)
  refine ⟨.int _, H, I.kept (t' := tk) hk, ⟨t, rfl⟩, q _ ?_ fun a ha => ?_⟩
  · rw [hns, numAt_eq]; exact getD_mem (by rw [List.length_map, Array.length_toList]; lia)
  · rw [hns] at ha
    obtain ⟨j, hj, rfl⟩ := mem_getD ha
    rw [List.length_map, Array.length_toList] at hj
    rw [← numAt_eq]; exact h2 j (by lia)
noncomputable def tSumVals (te : TE) : TE := fun σ H Q => te σ H fun x H1 => ∃ (a : Addr) (kvs : List (Key × V)) (ns : List Int), x = .ref a ∧ H1 a = some (.dK kvs) ∧ kvs.map (·.2) = ns.map V.int ∧ Q (.int ns.sum) H1
theorem pe_sumVals {o : Expr} {to : TE} {p pos apos cpos : Pos} (hc : X.calm = true) (hg : Gl X "sum") (hm : X.mg "sum" = none) (ho : PE X o to)
    (hbase : attributeBase o "values" X.env (eval o X.env) = eval o X.env := by rfl) (hline : (apos.endLine == cpos.line) = true := by rfl)
    (hs2 : starEach [.Call (.Attribute o "values" apos) [] [] cpos] X.env = [(false, eval (.Call (.Attribute o "values" apos) [] [] cpos) X.env)] := by rfl) : PE X (.Call (.Name "sum" p) [.Call (.Attribute o "values" apos) [] [] cpos] [] pos) (tSumVals to) := by
  intro pins s σ H Q I h
  refine Call_ (ld_blt I hg hm L3.bt_sum (PyProof.Rows.callWith_builtin1 ?_ hs2 rfl))
  rw [hs2]
  show wpAny _ _ (spliced ((false, eval (.Call (.Attribute o "values" apos) [] [] cpos) X.env) :: backTo pos [])) _ _ s
  refine Calls.spliced_cons ?_
  refine wpAny_Call_method0_late hbase hline (thn (ho pins s σ H _ I h) fun v s1 ⟨x, H1, I1, r1, a, kvs, ns, ex, ha, hvs, q⟩ => ?_)
  subst ex
  obtain rfl : v = Value.ref a := r1
  obtain ⟨t1, t2, _⟩ := isD_at I1 (.inl ⟨kvs, .inl ha⟩)
  refine ⟨"dict", "dict.values", PySem.F.plainAttrs_dict, PySem.F.slot_dict_values, PySem.F.type_dict_values, t1, t2, Calls.callWith_builtin rfl (PySem.evalArgs_none ?_)⟩
  obtain ⟨hz, hd, vs, rel, dd⟩ := dk_of I1.hok ha
  refine call_meetsIn PySem.F.slot_dict_values dd.typeIs PySem.F.entry_dict_values (PySem.F.args_dict_values_1 _) (meets_dict_values (mixKind X.prog X.w) a hd) ⟨⟨vs, dd⟩, ?_⟩
  refine Calls.spliced_nil ?_
  obtain ⟨ep, da⟩ := dd.dictAt
  have I2 : Inv X pins σ H1 { s1 with heap := s1.heap.push { cls := .type "dict_values", data := .fields #[.ref a] }, toks := s1.toks } := I1.kept (t' := s1.toks) fun b o e => Heap.get?_push_of_some _ e
  have hh : X.A.in1.handled = none := I1.ok.hd hc
  have K := PySem.W.kdl_values (prog := X.prog) (w := X.w) (knd := mixKind X.prog X.w) (r := s1.heap.objs.size) (d := a) (kvs := vs) (ep := ep)
  have hok : (s1.heap.push { cls := .type "dict_values", data := .fields #[.ref a] }).IsValuesView s1.heap.objs.size a ∧ (s1.heap.push { cls := .type "dict_values", data := .fields #[.ref a] }).DictAt (mixKind X.prog X.w) a vs ep := ⟨⟨_, Heap.get?_push_size _ rfl, rfl, rfl⟩, da.push _⟩
  have hlen : vs.length = ns.length := by
    have h1 := rel.length
    have h2 := congrArg List.length hvs
    rw [List.length_map, List.length_map] at h2
    lia
  refine call_sum_walkAnyS ?_
  obtain ⟨oI, St, hit, W, st⟩ := K.iter X.A.in1 { s1 with heap := s1.heap.push { cls := .type "dict_values", data := .fields #[.ref a] } } hh hok
  refine hit _ _ ⟨_, _, _, _, vs.length, _, _, fun i => ns.getD i 0, rfl, W.toS, st, fun b hb => ?_, fun i v ⟨k, hk⟩ => ?_, fun s' t' hm' => ?_⟩
  · show b < ((s1.heap.push _).push oI).objs.size
    rw [size_push']
    rcases List.mem_cons.mp hb with e | hb
    · rw [e]; exact Nat.lt_succ_self _
    · rw [List.mem_singleton.mp hb]; exact Nat.lt_succ_of_lt (K.there _ hok).2
  · have hi : i < ns.length := by rw [← hlen]; exact (List.getElem?_eq_some_iff.mp hk).1
    have hki : i < kvs.length := by have := rel.length; lia
    have hr := paired_getR rel (List.getElem?_eq_getElem hki) hk
    have e2 : (kvs.map (·.2))[i]? = some (V.int ns[i]) := by rw [hvs, List.getElem?_map, List.getElem?_eq_getElem hi]; rfl
    rw [List.getElem?_map, List.getElem?_eq_getElem hki] at e2
    have e3 : kvs[i].2 = V.int ns[i] := Option.some.inj e2
    have hr2 := hr.2
    rw [e3] at hr2
    obtain ⟨t, ht⟩ := hr2
    refine ⟨t, ?_⟩
    show v = Value.int (ns.getD i 0) t
    rw [List.getD_eq_getElem?_getD, List.getElem?_eq_getElem hi]
    exact ht
  · have hk : ∀ b o, (s1.heap.push { cls := .type "dict_values", data := .fields #[.ref a] }).get? b = some o → s'.heap.get? b = some o := fun b o e =>
      hm'.heap b o (fun hI => absurd (Heap.lt_size e) (by rw [List.mem_singleton.mp hI]; exact Nat.lt_irrefl _)) (Heap.get?_push_of_some _ e)
    rw [Moved.eq_with hm', hlen, preSum_getD, List.take_length]
    exact ⟨.int ns.sum, H1, I2.kept (t' := s'.toks) hk, ⟨_, rfl⟩, q⟩
theorem call_sortedD (hc : X.calm = true) : CallR X (.builtin "sorted") (fun xs H Q => ∃ (a : Addr) (kvs : List (Key × V)) (ns : List Int), xs = [.ref a] ∧ H a = some (.dK kvs) ∧ (kvs.map fun kv => kV kv.1) = ns.map V.int ∧ ns.length < 64 ∧ ∀ (l : Addr) (ns' : List Int), H l = none → ns'.Perm ns → ns'.Pairwise (· ≤ ·) → Q (.ref l) (upd H l (.lst (ns'.map V.int)))) := by
  intro pins s σ H xs us Q I r h
  obtain ⟨a, kvs, ns, rfl, ha, hks, h64, q⟩ := h
  obtain ⟨u, rfl, rx⟩ := vals1 r
  cases rx
  obtain ⟨hz, hd, vs, rel, dd⟩ := dk_of I.hok ha
  obtain ⟨ep, dd⟩ := dd.dictAt
  have hl := rel.length
  have hln : kvs.length = ns.length := by
    have := congrArg List.length hks
    rw [List.length_map, List.length_map] at this
    exact this
  have hh : X.A.in1.handled = none := I.ok.hd hc
  refine Calls.call_function_entry kind_sorted plain_sorted entry_sorted (args_sorted1 _) ?_
  unfold Builtin.«sorted»
  refine wpAny_bind (m := checkCount "sorted" 1 1 _) (wpAny_pure ?_)
  refine wpAny_bind (PySem.collect_src (PySem.W.kdl_dict (knd := mixKind X.prog X.w) (kvs := vs) (ep := ep) hd) hh dd (by lia) fun h' tk acc kp hacc => ?_)
  have I1 : Inv X pins σ H { s with heap := h', toks := tk } := I.kept (t' := tk) kp
  have rv : Vals (ns.map V.int) acc.toList := by
    rw [← hks]
    refine pairedGet (by have := hacc.1; simp only [List.length_map, Array.length_toList]; lia) fun i x y e1 e2 => ?_
    obtain ⟨k, z, ek, hk⟩ := hacc.2 i y (by rw [← Array.getElem?_toList]; exact e2)
    have e3 : (kvs.map (·.1))[i]? = some k := by rw [rel.keys, List.getElem?_map, ek]; rfl
    rw [List.getElem?_map] at e1 e3
    cases eq : kvs[i]? with
    | none => rw [eq] at e3; cases e3
    | some kv =>
      rw [eq] at e1 e3
      cases e1
      cases e3
      exact relKey hk
  have hI := intsAre_of rv
  have hal : acc.toList.length = ns.length := by rw [← rv.length, List.length_map]
  refine wpAny_bind (wpAny_newList ?_ (by rw [hal]; exact Nat.le_trans (Nat.le_of_lt h64) (by decide)))
  have hoL : (h'.push (seqObj "list" acc.toList.toArray 0)).get? h'.objs.size = some (seqObj "list" acc.toList.toArray 0) := Heap.get?_push_size _ rfl
  show wpAny _ _ _ _ _ { s with heap := h'.push (seqObj "list" acc.toList.toArray 0), toks := tk }
  refine wpAny_bind (wpAny_holding (wpAny_call_entry slot_list_sort ⟨_, hoL, rfl⟩ entry_list_sort (list_sort_tree (s := { s with heap := h'.push (seqObj "list" acc.toList.toArray 0), toks := tk }) hoL hI (by lia) fun out ns' i1 p1 s1 => ⟨_, rfl, ?_⟩) (args_list_sort _)))
  refine wpAny_pure ⟨_, rfl, ?_⟩
  obtain ⟨e, he⟩ := sortedHeap_at (out := out) hoL
  have hl' := p1.length_eq
  refine ⟨.ref h'.objs.size, _, I1.laid (t' := tk) (fun b o x => ?_) (Nat.le_refl _) (show ObjOk X.prog X.w _ _ _ (.lst (ns'.map V.int)) from ⟨?_, out.toList, e, vals_of_ints i1, ?_⟩), rfl, q _ ns' (I1.hok.fresh (Nat.le_refl _)) p1 s1⟩
  · have hlt : b < h'.objs.size := Heap.lt_size x
    rw [sortedHeap_old (Nat.ne_of_lt hlt) (by rw [size_push']; exact Nat.lt_succ_of_lt hlt), Heap.get?_push_ne _ _ _ (Nat.ne_of_lt hlt)]
    exact x
  · rw [List.length_map, hl']
    exact Nat.le_trans (Nat.le_of_lt h64) (by decide)
  · rw [Array.toArray_toList]
    exact he
end
end L2
namespace L2
open PySem PySem.Spec PyProof.Rows
noncomputable def TyQ (K : PySem.W.Frag) (H : Hp) (x : V) (t : Value) : Prop := TyOf K H x t ∨ (t = .type "tuple" ∧ ∃ a ys, x = .ref a ∧ SqT K H a ys)
theorem call_isiQ {X : Cx} : CallR X (.builtin "isinstance") (fun xs H Q => ∃ x c t b, xs = [x, .ty c] ∧ TyQ X.K H x t ∧ PySem.W.kitOne X.K t (.type c) = some b ∧ Q (.bl b) H) := by
  intro pins s σ H xs us Q I r h
  obtain ⟨x, c, t, b, rfl, ty, e, q⟩ := h
  rcases ty with ty | ⟨rfl, a, ys, rfl, hq⟩
  · exact call_isi pins s σ H _ us Q I r ⟨x, c, t, b, rfl, ty, e, q⟩
  · obtain ⟨u1, u2, rfl, r1, r2⟩ := vals2 r
    cases (show u1 = Value.ref a from r1)
    cases (show u2 = Value.type c from r2)
    obtain ⟨its, rv, p, _⟩ := I.tuple hq
    obtain ⟨o, h1, h2, _⟩ := p
    exact PySem.W.kia_one PySem.W.kitx_tuple I.kIn ⟨o, h1, h2⟩ e (fun z => nomatch z) fun tk => ⟨.bl b, H, I.kept (t' := tk) fun _ _ e => e, rfl, q⟩
end L2
namespace L2
open PySem PySem.Spec PyProof.Rows
section
variable {X : Cx}
end
end L2
namespace L2
open PySem PySem.Spec PyProof.Rows
section
variable {X : Cx}
end
end L2
namespace L2
open PySem PySem.Spec PyProof.Rows
section
variable {X : Cx}
end
end L2
set_option maxRecDepth 100000
namespace L2
open PySem PyProof.Rows
section
variable {prog : Program} {w : World} {A : Around} {E : Value → Shared → Prop} {s : Shared} {kd : SortKind} {k : Keyed → Int} {G : Keyed → Prop}
end
end L2
namespace L2
open PySem PyProof.Rows
namespace MI
variable {k : Keyed → Int} {tot L ra rb : List Keyed}
end MI
section
variable {prog : Program} {w : World} {A : Around} {E : Value → Shared → Prop} {s : Shared} {kd : SortKind} {k : Keyed → Int} {G : Keyed → Prop}
end
end L2
namespace L2
open PySem PyProof.Rows
section
variable {prog : Program} {w : World} {A : Around} {E : Value → Shared → Prop} {s : Shared} {kd : SortKind} {k : Keyed → Int} {G : Keyed → Prop}
end
end L2
namespace L2
open PySem PyProof.Rows
section
variable {prog : Program} {w : World} {A : Around} {E : Value → Shared → Prop} {s : Shared} {kd : SortKind} {k : Keyed → Int} {G : Keyed → Prop}
end
end L2
namespace L2
open PySem PyProof.Rows
section
variable {prog : Program} {w : World} {A : Around} {E : Value → Shared → Prop} {s : Shared} {kd : SortKind} {k : Keyed → Int} {G : Keyed → Prop} {ps : Array (Nat × Nat × Nat)} {g : Nat}
end
end L2
namespace L2
open PySem PyProof.Rows
section
variable {prog : Program} {w : World} {A : Around} {E : Value → Shared → Prop} {s : Shared} {kd : SortKind} {k : Keyed → Int} {G : Keyed → Prop}
end
end L2
namespace L2
open PySem PyProof.Rows
section
variable {prog : Program} {w : World} {A : Around} {E : Value → Shared → Prop} {s : Shared} {kd : SortKind} {k : Keyed → Int} {G : Keyed → Prop}
end
section
variable {prog : Program} {w : World} {A : Around} {E : Value → Shared → Prop} {s : Shared}
end
section
variable {prog : Program} {w : World} {A : Around} {E : Value → Shared → Prop} {s : Shared}
end
end L2
namespace L2
open PySem PySem.Spec PyProof.Rows
section
variable {X : Cx}
end
end L2
namespace L2
open PySem PySem.Spec PyProof.Rows
section
variable {X : Cx}
end
end L2
namespace L2
open PySem PySem.Spec PyProof.Rows
section
variable {X : Cx}
end
end L2
namespace L2
open PySem PySem.Spec PyProof.Rows
section
variable {X : Cx}
end
end L2
namespace L2
open PySem PySem.Spec PyProof.Rows
section
variable {X : Cx}
end
end L2
set_option maxHeartbeats 4000000
namespace Lw
open PySem L2
structure PB (X : Cx) (es : List Expr) (t : TA) : Prop where
  go : PA X es t
theorem pb_nil {X : Cx} : PB X [] tNil := ⟨pa_nil⟩
theorem pb_cons {X : Cx} {e : Expr} {es : List Expr} {te : TE} {t : TA} (ha : PE X e te) (hr : PB X es t) (hs : starEach (e :: es) X.env = (false, eval e X.env) :: starEach es X.env := by rfl) : PB X (e :: es) (tCons te t) := ⟨pa_cons ha hr.go hs⟩
noncomputable def top (i : Nat) : Stmt := PySem.Challenge.pw_bitdraws_k16_whole_plans_for_weights.main.body.getD i (.Pass ⟨0, 0, 0, 0⟩)
noncomputable abbrev s_drawn_whole : Stmt := top 7
noncomputable abbrev p_drawn_whole : List Str := ["bits", "draw", "shape"]
theorem sc_drawn_whole : FnScope ["bits", "draw", "shape", "used_before"] ["bits", "draw", "shape"] (defScope s_drawn_whole) := ⟨rfl, rfl, rfl, by decide +kernel, rfl, by decide +kernel, by decide +kernel⟩
noncomputable abbrev s_common_divisor : Stmt := top 9
noncomputable abbrev p_common_divisor : List Str := ["one", "other"]
theorem sc_common_divisor : FnScope ["one", "other", "great", "small", "rest"] ["one", "other"] (defScope s_common_divisor) := ⟨rfl, rfl, rfl, by decide +kernel, rfl, by decide +kernel, by decide +kernel⟩
noncomputable abbrev s_fraction : Stmt := top 10
noncomputable abbrev p_fraction : List Str := ["upper", "lower"]
theorem sc_fraction : FnScope ["upper", "lower", "divisor"] ["upper", "lower"] (defScope s_fraction) := ⟨rfl, rfl, rfl, by decide +kernel, rfl, by decide +kernel, by decide +kernel⟩
noncomputable abbrev s_is_whole_number : Stmt := top 12
noncomputable abbrev p_is_whole_number : List Str := ["thing", "least", "most"]
theorem sc_is_whole_number : FnScope ["thing", "least", "most"] ["thing", "least", "most"] (defScope s_is_whole_number) := ⟨rfl, rfl, rfl, by decide +kernel, rfl, by decide +kernel, by decide +kernel⟩
noncomputable abbrev s_is_row : Stmt := top 13
noncomputable abbrev p_is_row : List Str := ["thing", "many"]
theorem sc_is_row : FnScope ["thing", "many"] ["thing", "many"] (defScope s_is_row) := ⟨rfl, rfl, rfl, by decide +kernel, rfl, by decide +kernel, by decide +kernel⟩
noncomputable abbrev s_pick : Stmt := top 18
noncomputable abbrev p_pick : List Str := ["bits", "weights"]
theorem sc_pick : FnScope ["bits", "weights", "total"] ["bits", "weights"] (defScope s_pick) := ⟨rfl, rfl, rfl, by decide +kernel, rfl, by decide +kernel, by decide +kernel⟩
noncomputable abbrev s_take_pick : Stmt := top 19
noncomputable abbrev p_take_pick : List Str := ["bits", "weights"]
theorem sc_take_pick : FnScope ["bits", "weights", "total", "rests", "place", "ends"] ["bits", "weights"] (defScope s_take_pick) := ⟨rfl, rfl, rfl, by decide +kernel, rfl, by decide +kernel, by decide +kernel⟩
noncomputable abbrev s_is_plan : Stmt := top 20
noncomputable abbrev p_is_plan : List Str := ["thing"]
theorem sc_is_plan : FnScope ["thing"] ["thing"] (defScope s_is_plan) := ⟨rfl, rfl, rfl, by decide +kernel, rfl, by decide +kernel, by decide +kernel⟩
noncomputable abbrev s_is_plan_within : Stmt := top 21
noncomputable abbrev p_is_plan_within : List Str := ["thing", "most_asks"]
theorem sc_is_plan_within : FnScope ["thing", "most_asks"] ["thing", "most_asks"] (defScope s_is_plan_within) := ⟨rfl, rfl, rfl, by decide +kernel, rfl, by decide +kernel, by decide +kernel⟩
noncomputable abbrev s_ends_of : Stmt := top 22
noncomputable abbrev p_ends_of : List Str := ["plan", "depth"]
theorem sc_ends_of : FnScope ["plan", "depth"] ["plan", "depth"] (defScope s_ends_of) := ⟨rfl, rfl, rfl, by decide +kernel, rfl, by decide +kernel, by decide +kernel⟩
noncomputable abbrev s_deep : Stmt := top 23
noncomputable abbrev p_deep : List Str := ["plan"]
theorem sc_deep : FnScope ["plan"] ["plan"] (defScope s_deep) := ⟨rfl, rfl, rfl, by decide +kernel, rfl, by decide +kernel, by decide +kernel⟩
noncomputable abbrev s_numbered_ends : Stmt := top 24
noncomputable abbrev p_numbered_ends : List Str := ["plan"]
theorem sc_numbered_ends : FnScope ["plan", "ends"] ["plan"] (defScope s_numbered_ends) := ⟨rfl, rfl, rfl, by decide +kernel, rfl, by decide +kernel, by decide +kernel⟩
noncomputable abbrev s_rows_to : Stmt := top 25
noncomputable abbrev p_rows_to : List Str := ["depth", "deepest"]
theorem sc_rows_to : FnScope ["depth", "deepest"] ["depth", "deepest"] (defScope s_rows_to) := ⟨rfl, rfl, rfl, by decide +kernel, rfl, by decide +kernel, by decide +kernel⟩
noncomputable abbrev s_shares_of : Stmt := top 26
noncomputable abbrev p_shares_of : List Str := ["plan"]
theorem sc_shares_of : FnScope ["plan", "deepest", "rows", "depth", "number", "total"] ["plan"] (defScope s_shares_of) := ⟨rfl, rfl, rfl, by decide +kernel, rfl, by decide +kernel, by decide +kernel⟩
noncomputable abbrev s_by_plan : Stmt := top 27
noncomputable abbrev p_by_plan : List Str := ["bits", "plan"]
theorem sc_by_plan : FnScope ["bits", "plan"] ["bits", "plan"] (defScope s_by_plan) := ⟨rfl, rfl, rfl, by decide +kernel, rfl, by decide +kernel, by decide +kernel⟩
noncomputable abbrev s_take_by_plan : Stmt := top 28
noncomputable abbrev p_take_by_plan : List Str := ["bits", "plan"]
theorem sc_take_by_plan : FnScope ["bits", "plan", "part"] ["bits", "plan"] (defScope s_take_by_plan) := ⟨rfl, rfl, rfl, by decide +kernel, rfl, by decide +kernel, by decide +kernel⟩
noncomputable abbrev s_plan_of : Stmt := top 29
noncomputable abbrev p_plan_of : List Str := ["weights"]
theorem sc_plan_of : FnScope ["weights", "total", "depth", "ends", "parts", "place", "asks"] ["weights"] (defScope s_plan_of) := ⟨rfl, rfl, rfl, by decide +kernel, rfl, by decide +kernel, by decide +kernel⟩
noncomputable abbrev s__law_same : Stmt := top 31
noncomputable abbrev p__law_same : List Str := ["_law_got", "_law_due"]
theorem sc__law_same : FnScope ["_law_got", "_law_due"] ["_law_got", "_law_due"] (defScope s__law_same) := ⟨rfl, rfl, rfl, by decide +kernel, rfl, by decide +kernel, by decide +kernel⟩
noncomputable abbrev s__law_draw : Stmt := top 32
noncomputable abbrev p__law_draw : List Str := ["_law_script", "_law_town", "_law_many"]
theorem sc__law_draw : FnScope ["_law_script", "_law_town", "_law_many", "_law_k", "_law_cell", "_law_number", "_law_more"] ["_law_script", "_law_town", "_law_many"] (defScope s__law_draw) := ⟨rfl, rfl, rfl, by decide +kernel, rfl, by decide +kernel, by decide +kernel⟩
noncomputable abbrev s__law_one : Stmt := top 33
noncomputable abbrev p__law_one : List Str := ["_law_script", "_law_town", "_law_some"]
theorem sc__law_one : FnScope ["_law_script", "_law_town", "_law_some"] ["_law_script", "_law_town", "_law_some"] (defScope s__law_one) := ⟨rfl, rfl, rfl, by decide +kernel, rfl, by decide +kernel, by decide +kernel⟩
noncomputable abbrev s__law_bits : Stmt := top 34
noncomputable abbrev p__law_bits : List Str := ["_law_script", "_law_town", "_law_most"]
theorem sc__law_bits : FnScope ["_law_script", "_law_town", "_law_most"] ["_law_script", "_law_town", "_law_most"] (defScope s__law_bits) := ⟨rfl, rfl, rfl, by decide +kernel, rfl, by decide +kernel, by decide +kernel⟩
noncomputable abbrev s__law_frac : Stmt := top 36
noncomputable abbrev p__law_frac : List Str := ["_law_upper", "_law_lower"]
theorem sc__law_frac : FnScope ["_law_upper", "_law_lower", "_law_one_here", "_law_other"] ["_law_upper", "_law_lower"] (defScope s__law_frac) := ⟨rfl, rfl, rfl, by decide +kernel, rfl, by decide +kernel, by decide +kernel⟩
noncomputable abbrev s__law_weights : Stmt := top 38
noncomputable abbrev p__law_weights : List Str := ["_law_script", "_law_town"]
theorem sc__law_weights : FnScope ["_law_script", "_law_town", "_law_top", "_law_weights_here"] ["_law_script", "_law_town"] (defScope s__law_weights) := ⟨rfl, rfl, rfl, by decide +kernel, rfl, by decide +kernel, by decide +kernel⟩
noncomputable abbrev s__law_ends : Stmt := top 40
noncomputable abbrev p__law_ends : List Str := ["_law_plan_here", "_law_size", "_law_high"]
theorem sc__law_ends : FnScope ["_law_plan_here", "_law_size", "_law_high"] ["_law_plan_here", "_law_size", "_law_high"] (defScope s__law_ends) := ⟨rfl, rfl, rfl, by decide +kernel, rfl, by decide +kernel, by decide +kernel⟩
noncomputable abbrev s__law_made : Stmt := top 41
noncomputable abbrev p__law_made : List Str := ["_law_weights_here"]
theorem sc__law_made : FnScope ["_law_weights_here", "_law_total", "_law_size", "_law_high", "_law_rows", "_law_nodes", "_law_wide", "_law_part", "_law_turn", "_law_ends_here", "_law_under", "_law_asks"] ["_law_weights_here"] (defScope s__law_made) := ⟨rfl, rfl, rfl, by decide +kernel, rfl, by decide +kernel, by decide +kernel⟩
noncomputable abbrev s__law_told : Stmt := top 42
noncomputable abbrev p__law_told : List Str := ["_law_kind", "_law_row", "_law_weights_here", "_law_made_here"]
theorem sc__law_told : FnScope ["_law_kind", "_law_row", "_law_weights_here", "_law_made_here", "_law_bits_here", "_law_got"] ["_law_kind", "_law_row", "_law_weights_here", "_law_made_here"] (defScope s__law_told) := ⟨rfl, rfl, rfl, by decide +kernel, rfl, by decide +kernel, by decide +kernel⟩
noncomputable abbrev s_law : Stmt := top 43
noncomputable abbrev p_law : List Str := ["_law_script"]
theorem sc_law : FnScope ["_law_script", "_law_town", "_law_k", "_law_weights_here", "_law_made_here", "_law_total", "_law_due", "_law_number", "_law_weight", "_law_ends_here", "_law_size", "_law_whole", "_law_other", "_law_j", "_law_row"] ["_law_script"] (defScope s_law) := ⟨rfl, rfl, rfl, by decide +kernel, rfl, by decide +kernel, by decide +kernel⟩
noncomputable abbrev s_Bits___init__ : Stmt := inClass (top 6) 0
noncomputable abbrev p_Bits___init__ : List Str := ["self", "row"]
theorem sc_Bits___init__ : FnScope ["self", "row"] ["self", "row"] (defScope s_Bits___init__) := ⟨rfl, rfl, rfl, by decide +kernel, rfl, by decide +kernel, by decide +kernel⟩
noncomputable abbrev s_Bits_take : Stmt := inClass (top 6) 1
noncomputable abbrev p_Bits_take : List Str := ["self"]
theorem sc_Bits_take : FnScope ["self", "bit"] ["self"] (defScope s_Bits_take) := ⟨rfl, rfl, rfl, by decide +kernel, rfl, by decide +kernel, by decide +kernel⟩
noncomputable abbrev s_Bits_used : Stmt := inClass (top 6) 2
noncomputable abbrev p_Bits_used : List Str := ["self"]
theorem sc_Bits_used : FnScope ["self"] ["self"] (defScope s_Bits_used) := ⟨rfl, rfl, rfl, by decide +kernel, rfl, by decide +kernel, by decide +kernel⟩
noncomputable abbrev s_Bits_left : Stmt := inClass (top 6) 3
noncomputable abbrev p_Bits_left : List Str := ["self"]
theorem sc_Bits_left : FnScope ["self"] ["self"] (defScope s_Bits_left) := ⟨rfl, rfl, rfl, by decide +kernel, rfl, by decide +kernel, by decide +kernel⟩
noncomputable abbrev s_Bits_go_back : Stmt := inClass (top 6) 4
noncomputable abbrev p_Bits_go_back : List Str := ["self", "many"]
theorem sc_Bits_go_back : FnScope ["self", "many"] ["self", "many"] (defScope s_Bits_go_back) := ⟨rfl, rfl, rfl, by decide +kernel, rfl, by decide +kernel, by decide +kernel⟩
theorem nd_1 : (["_law_got", "_law_due", "_law_one_here", "_law_other"] : List Str).Nodup := by decide +kernel
theorem nd_2 : (["_law_script", "_law_town", "_law_most", "_law_k"] : List Str).Nodup := by decide +kernel
theorem nd_3 : (["bits", "weights", "total", "rests", "place", "ends", "number", "rest"] : List Str).Nodup := by decide +kernel
theorem nd_4 : (["bits", "weights", "total", "rests", "place", "ends", "rest"] : List Str).Nodup := by decide +kernel
theorem nd_5 : (["_law_script", "_law_town", "_law_top", "_law_weights_here", "_law_k"] : List Str).Nodup := by decide +kernel
theorem nd_6 : (["plan", "ends", "depth", "end"] : List Str).Nodup := by decide +kernel
theorem nd_7 : (["plan", "depth", "end"] : List Str).Nodup := by decide +kernel
theorem nd_8 : (["plan", "deepest", "rows", "depth", "number", "total"] : List Str).Nodup := by decide +kernel
theorem nd_9 : (["weights", "total", "depth", "ends", "parts", "place", "asks", "number", "weight"] : List Str).Nodup := by decide +kernel
theorem nd_10 : (["weights", "total", "depth", "ends", "parts", "place", "asks", "left"] : List Str).Nodup := by decide +kernel
theorem nd_11 : (["weights", "total", "depth", "ends", "parts", "place", "asks", "weight", "end"] : List Str).Nodup := by decide +kernel
theorem nd_12 : (["_law_weights_here", "_law_total", "_law_size", "_law_high", "_law_rows", "_law_nodes", "_law_wide", "_law_part", "_law_turn", "_law_ends_here", "_law_under", "_law_asks", "_law_number", "_law_weight"] : List Str).Nodup := by decide +kernel
theorem nd_13 : (["_law_weights_here", "_law_total", "_law_size", "_law_high", "_law_rows", "_law_nodes", "_law_wide", "_law_part", "_law_turn", "_law_ends_here", "_law_under", "_law_asks", "_law_end", "_law_weight"] : List Str).Nodup := by decide +kernel
theorem nd_14 : (["_law_weights_here", "_law_total", "_law_size", "_law_high", "_law_rows", "_law_nodes", "_law_wide", "_law_part", "_law_turn", "_law_ends_here", "_law_under", "_law_asks", "_law_at"] : List Str).Nodup := by decide +kernel
theorem nd_15 : (["_law_script", "_law_town", "_law_k", "_law_weights_here", "_law_made_here", "_law_total", "_law_due", "_law_number", "_law_weight", "_law_ends_here", "_law_size", "_law_whole", "_law_other", "_law_j", "_law_row", "_law_high"] : List Str).Nodup := by decide +kernel
theorem nd_16 : (["_law_script", "_law_town", "_law_k", "_law_weights_here", "_law_made_here", "_law_total", "_law_due", "_law_number", "_law_weight", "_law_ends_here", "_law_size", "_law_whole", "_law_other", "_law_j", "_law_row", "_law_end"] : List Str).Nodup := by decide +kernel
structure Bl (mg : Str → Option Value) : Prop where
  abs_ : mg "abs" = none
  all_ : mg "all" = none
  bool_ : mg "bool" = none
  dict_ : mg "dict" = none
  enumerate_ : mg "enumerate" = none
  int_ : mg "int" = none
  isinstance_ : mg "isinstance" = none
  len_ : mg "len" = none
  max_ : mg "max" = none
  range_ : mg "range" = none
  sorted_ : mg "sorted" = none
  str_ : mg "str" = none
  sum_ : mg "sum" = none
  tuple_ : mg "tuple" = none
  zip_ : mg "zip" = none
structure Cn (K : PySem.W.Frag) (mg : Str → Option Value) : Prop where
  GREATEST_NUMBER : ∃ t, mg "GREATEST_NUMBER" = some (.int 99 t)
  MOST_ASKS : ∃ t, mg "MOST_ASKS" = some (.int 12 t)
  AGAIN : ∃ g, mg "AGAIN" = some (.ref g) ∧ ∀ H, SqT K H g [.str "again"]
theorem cell_at {ns : List Int} (h : ns ≠ []) (k : Nat) : atI (ns.map V.int) ((k : Int) % ((ns.map V.int).length : Int)) = some (.int (lcell ns k)) := by
  have hp : 0 < ns.length := List.length_pos_iff.mpr h
  have e : ((k : Int) % ((ns.map V.int).length : Int)) = (((k % ns.length : Nat)) : Int) := by rw [List.length_map]; lia
  have hk : k % ns.length < ns.length := Nat.mod_lt _ hp
  rw [e]
  refine atI_nat ?_
  rw [List.getElem?_map, List.getElem?_eq_getElem hk]
  unfold lcell
  rw [if_neg h, List.getD_eq_getElem?_getD, List.getElem?_eq_getElem hk]
  rfl
theorem emod_bd (i : Int) {m : Int} (h : 0 < m) (h2 : m < 18446744073709551616) : -(2 ^ 64) < i % m ∧ i % m < 2 ^ 64 := by
  have a := Int.emod_nonneg i (show m ≠ 0 by lia)
  have b := Int.emod_lt_of_pos i h
  exact ⟨by lia, by lia⟩
section
variable {P : Program} {w : World} {K : PySem.W.Frag} {mg : Str → Option Value} {base : Heap} {f : Addr} {fd : FuncData}
theorem ok__law_draw (F__law_draw : Fun K "_law_draw" "_law_draw" s__law_draw f fd) (B : Bl mg) : FnOk P w K mg base CX0 1 f fd p__law_draw (spDraw K) := by
  refine F__law_draw.ok sc__law_draw (fun vs H Q E h => ?_) (fun cdv A outer s H vs Q E hr h => ?_)
  · obtain ⟨a, t, ns, k, m, rfl, _⟩ := h
    rfl
  obtain ⟨a, t, ns, k, m, rfl, hS, h63, hT, hk, hm, q⟩ := h
  refine ⟨_, (pss_cons (ps_expr (pe_bm PySem.F.plainAttrs_list PySem.F.slot_list_append PySem.F.type_list_append mt_append (pv 1) (pa_cons pe_int pa_nil)))
      (pss_cons (ps_set (i := 3) sc__law_draw.nd rfl (Or.inl rfl) (pe_callB call_len_seq rfl B.len_ L3.bt_len (pa_cons (pv 1) pa_nil)))
      (pss_cons (ps_set (i := 4) sc__law_draw.nd rfl (Or.inl rfl) pe_int)
      (pss_cons (ps_join (ps_if (pt_truth (pv 0) (fun _ => rfl)) (pss_one (ps_set (i := 4) sc__law_draw.nd rfl (Or.inl rfl) (pe_ix ix_list (pv 0) (pe_op op_mod (pv 3) (pe_callB call_len_seq rfl B.len_ L3.bt_len (pa_cons (pv 0) pa_nil))) (fun _ _ => rfl)))) pss_nil))
      (pss_cons (ps_set (i := 5) sc__law_draw.nd rfl (Or.inl rfl) (pe_op op_mod (pe_op op_add (pv 4) (pe_op op_mul pe_int (pv 3))) pe_int))
      (pss_cons (ps_set (i := 5) sc__law_draw.nd rfl (Or.inl rfl) (pe_op op_mod (pe_op op_mul (pe_op op_mod (pe_op op_mul (pv 5) (pv 5)) pe_int) pe_int) pe_int))
      (pss_cons (ps_set (i := 6) sc__law_draw.nd rfl (Or.inl rfl) (pe_op op_mod (pe_op op_mul (pe_op op_mod (pe_op op_mul (pv 5) (pv 5)) pe_int) pe_int) pe_int))
      (pss_one (ps_ret (pe_op op_mod (pe_op op_add (pe_op op_mul (pe_op op_fdiv (pv 5) pe_int) pe_int) (pe_op op_fdiv (pv 6) pe_int)) (pv 2))))))))))), ?_⟩
  have hT' : H t = some (.lst (zeros k)) := hT
  have g1 : Grow t H (upd H t (.lst (zeros k ++ [V.int 0]))) := Grow.upd _
  have t1 : Twn (upd H t (.lst (zeros k ++ [V.int 0]))) t (k + 1) := by
    unfold Twn
    rw [upd_same]
    show some (HO.lst (List.replicate k (V.int 0) ++ [V.int 0])) = some (HO.lst (List.replicate (k + 1) (V.int 0)))
    rw [List.replicate_succ']
  have s1 := g1.scr hT hS
  have hl : (((zeros k ++ [V.int 0]).length : Nat) : Int) = ((k + 1 : Nat) : Int) := by simp
  refine ⟨_, rfl, .inl ⟨rfl, _, SqL.of hT'⟩, t, _, _, rfl, rfl, hT', (by rw [List.length_replicate]; exact smallL (by lia)), ?_⟩
  refine ⟨_, rfl, t, _, rfl, .inl (SqL.of upd_same), ?_⟩
  rw [hl]
  refine ⟨fun σ' H' => σ' = [some (.ref a), some (.ref t), some (.int m), some (.int ((k + 1 : Nat) : Int)), some (.int (lcell ns (k + 1))), none, none] ∧ H' = upd H t (.lst (zeros k ++ [V.int 0])), ?_, ?_⟩
  · rintro σ' H' ⟨rfl, rfl⟩
    refine ⟨_, rfl, _, rfl, _, _, rfl, rfl, .inl ⟨by decide, by decide⟩, _, _, rfl, rfl, _, _, rfl, rfl, (by show (0 : Int) < 4294967291; decide), ?_⟩
    refine ⟨_, rfl, _, rfl, _, _, rfl, rfl, .inl (emod_bd _ (by decide) (by decide)), _, _, rfl, rfl, (by show (0 : Int) < 4294967279; decide), _, _, rfl, rfl, .inr ⟨by decide, by decide⟩, _, _, rfl, rfl, (by show (0 : Int) < 4294967291; decide), ?_⟩
    refine ⟨_, rfl, _, rfl, _, _, rfl, rfl, .inl (emod_bd _ (by decide) (by decide)), _, _, rfl, rfl, (by show (0 : Int) < 4294967279; decide), _, _, rfl, rfl, .inr ⟨by decide, by decide⟩, _, _, rfl, rfl, (by show (0 : Int) < 4294967291; decide), ?_⟩
    refine ⟨_, rfl, _, _, rfl, rfl, ⟨by decide, by decide⟩, _, _, rfl, rfl, .inr ⟨by decide, by decide⟩, _, rfl, _, _, rfl, rfl, ⟨by decide, by decide⟩, _, _, rfl, rfl, _, rfl, _, _, rfl, rfl, hm, ?_⟩
    exact q _ g1 t1
  · by_cases hn : ns = []
    · refine ⟨_, rfl, false, .inl ⟨_, s1.seq, by rw [hn]; rfl⟩, iteF ⟨?_, rfl⟩⟩
      unfold lcell
      rw [if_pos hn]
      rfl
    · refine ⟨_, rfl, true, .inl ⟨_, s1.seq, by cases ns with | nil => exact absurd rfl hn | cons _ _ => rfl⟩, iteT ?_⟩
      refine ⟨_, rfl, _, rfl, _, rfl, a, _, rfl, .inl s1.seq, _, _, rfl, rfl, ?_, a, _, _, _, rfl, rfl, s1.seq, cell_at hn (k + 1), rfl, rfl⟩
      show (0 : Int) < (((ns.map V.int).length : Nat) : Int)
      rw [List.length_map]
      have := List.length_pos_iff.mpr hn
      lia
end
inductive spOne (K : PySem.W.Frag) (vs : List V) (H : Hp) (Q : VK) (E : XK) : Prop
  | mk (a t l : Addr) (ns : List Int) (k : Nat) (xs : List V) (f1 : vs = [.ref a, .ref t, .ref l]) (f2 : Scr K H a ns) (f3 : ns.length ≤ 63) (f4 : Twn H t k) (f5 : k ≤ 800000) (f6 : H l = some (.lst xs)) (f7 : l ≠ t) (f8 : 0 < xs.length) (f9 : xs.length ≤ 1000) (f10 : ∀ (i : Nat) (v : V) H', i = (drw ns (k + 1) (xs.length : Int)).toNat → xs[i]? = some v → Grow t H H' → Twn H' t (k + 1) → Q v H') : spOne K vs H Q E
section
variable {P : Program} {w : World} {K : PySem.W.Frag} {mg : Str → Option Value} {base : Heap} {f : Addr} {fd : FuncData}
theorem ok__law_one (F__law_one : Fun K "_law_one" "_law_one" s__law_one f fd) (B : Bl mg) (g__law_draw : Fn P w K mg base "_law_draw" p__law_draw 1 (spDraw K)) : FnOk P w K mg base CX0 2 f fd p__law_one (spOne K) := by
  refine F__law_one.ok sc__law_one (fun vs H Q E h => ?_) (fun cdv A outer s H vs Q E hr h => ?_)
  · obtain ⟨a, t, l, ns, k, xs, rfl, _⟩ := h
    rfl
  obtain ⟨a, t, l, ns, k, xs, rfl, hS, h63, hT, hk, hL, hlt, hx, hx2, q⟩ := h
  refine ⟨_, (pss_one (ps_ret (pe_ix ix_list (pv 2) (pe_fn g__law_draw hr (pa_cons (pv 0) (pa_cons (pv 1) (pa_cons (pe_callB call_len_seq rfl B.len_ L3.bt_len (pa_cons (pv 2) pa_nil)) pa_nil)))) (fun _ _ => rfl)))), ?_⟩
  refine ⟨_, rfl, _, rfl, _, rfl, _, rfl, l, _, rfl, .inl (SqL.of hL), a, t, ns, k, _, rfl, hS, h63, hT, by lia, by lia, fun H1 g1 t1 => ?_⟩
  have n0 := drw_nn ns (k + 1) (show (0 : Int) < (xs.length : Int) by lia)
  have n1 := drw_lt ns (k + 1) (show (0 : Int) < (xs.length : Int) by lia)
  have hi : (drw ns (k + 1) (xs.length : Int)).toNat < xs.length := by lia
  have key : ∀ (d : Int) (i : Nat) (hi : i < xs.length), d = (i : Int) → atI xs d = some xs[i] := fun d i hi e => by
    subst e
    exact atI_nat (List.getElem?_eq_getElem hi)
  have at' := key (drw ns (k + 1) (xs.length : Int)) _ hi (by lia)
  exact ⟨l, _, _, _, rfl, rfl, SqL.of (g1 _ _ hlt hL), at', q _ _ _ rfl (List.getElem?_eq_getElem hi) g1 t1⟩
end
section
variable {P : Program} {w : World} {K : PySem.W.Frag} {mg : Str → Option Value} {base : Heap} {f : Addr} {fd : FuncData}
theorem ko_bb (K : PySem.W.Frag) : PySem.W.kitOne K (.type "bool") (.type "bool") = some true := by kernel_rfl
theorem ko_ib (K : PySem.W.Frag) : PySem.W.kitOne K (.type "int") (.type "bool") = some false := by kernel_rfl
theorem ko_it (K : PySem.W.Frag) : PySem.W.kitOne K (.type "int") (.type "tuple") = some false := by kernel_rfl
theorem ko_is (K : PySem.W.Frag) : PySem.W.kitOne K (.type "int") (.type "str") = some false := by kernel_rfl
theorem ko_ii (K : PySem.W.Frag) : PySem.W.kitOne K (.type "int") (.type "int") = some true := by kernel_rfl
theorem ko_sb (K : PySem.W.Frag) : PySem.W.kitOne K (.type "str") (.type "bool") = some false := by kernel_rfl
theorem ko_st (K : PySem.W.Frag) : PySem.W.kitOne K (.type "str") (.type "tuple") = some false := by kernel_rfl
theorem ko_ss (K : PySem.W.Frag) : PySem.W.kitOne K (.type "str") (.type "str") = some true := by kernel_rfl
theorem ko_tb (K : PySem.W.Frag) : PySem.W.kitOne K (.type "tuple") (.type "bool") = some false := by kernel_rfl
theorem ko_tt (K : PySem.W.Frag) : PySem.W.kitOne K (.type "tuple") (.type "tuple") = some true := by kernel_rfl
theorem paired_at {α β : Type} {F : α → β → Prop} : ∀ {l : List α} {m : List β} {i : Nat} {x : α} {y : β}, Paired F l m → l[i]? = some x → m[i]? = some y → F x y
  | _, _, _, _, _, .nil, h, _ => by simp at h
  | _, _, 0, _, _, .cons r _, h, h' => by
    simp at h h'; subst h; subst h'; exact r
  | _, _, i + 1, _, _, .cons _ t, h, h' => paired_at (i := i) t (by simpa using h) (by simpa using h')
noncomputable def TupAt (K : PySem.W.Frag) (H : Hp) (a : Addr) (xs : List V) : Prop := H a = some (.tup xs) ∨ ∀ H', SqT K H' a xs
theorem TupAt.sq {K : PySem.W.Frag} {H : Hp} {a : Addr} {xs : List V} (h : TupAt K H a xs) : SqT K H a xs := h.elim SqT.of fun z => z H
theorem TupAt.same {K : PySem.W.Frag} {H H' : Hp} {a : Addr} {xs : List V} (h : TupAt K H a xs) (s : Same H H') : TupAt K H' a xs := h.imp (s _ _) id
noncomputable def EqvS (K : PySem.W.Frag) (H : Hp) : Nat → V → V → Prop
  | 0, _, _ => False
  | n + 1, x, y => (x = y ∧ scl x = true) ∨ ∃ a b xs ys, x = .ref a ∧ y = .ref b ∧ TupAt K H a xs ∧ H b = some (.tup ys) ∧ xs.length ≤ 1000000 ∧ Paired (EqvS K H n) xs ys
theorem EqvS.same {K : PySem.W.Frag} {H H' : Hp} (g : Same H H') : ∀ {n : Nat} {x y : V}, EqvS K H n x y → EqvS K H' n x y
  | 0, _, _, h => h
  | n + 1, x, y, h => by
    rcases h with h | ⟨a, b, xs, ys, e1, e2, h1, h2, hz, p⟩
    · exact .inl h
    · exact .inr ⟨a, b, xs, ys, e1, e2, h1.same g, g _ _ h2, hz, Paired.mapP p fun _ _ q => EqvS.same g q⟩
inductive spSameS (K : PySem.W.Frag) (n : Nat) (vs : List V) (H : Hp) (Q : VK) (E : XK) : Prop
  | mk (x : _) (y : _) (f1 : vs = [x, y]) (f2 : EqvS K H n x y) (f3 : ∀ H', Same H H' → Q (.bl true) H') : spSameS K n vs H Q E
theorem ok__law_same1 {n : Nat} (F__law_same : Fun K "_law_same" "_law_same" s__law_same f fd) (B : Bl mg) (g__law_same : Fn P w K mg base "_law_same" p__law_same n (spSameS K n)) : FnOk P w K mg base CX0 (n + 1) f fd p__law_same (spSameS K (n + 1)) := by
  refine F__law_same.ok sc__law_same (fun vs H Q E h => ?_) (fun cdv A outer s H vs Q E hr h => ?_)
  · obtain ⟨x, y, rfl, _⟩ := h
    rfl
  obtain ⟨x, y, rfl, hE, q⟩ := h
  refine ⟨_, (pss_cons (ps_if (pt_cmpR op_isN (pv 1) pe_non (nomark _)) (pss_one (ps_ret (pe_cmpR op_isN (pv 0) pe_non (nomark _)))) pss_nil)
      (pss_cons (ps_if (pt_truth (pe_callB call_isi rfl B.isinstance_ L3.bt_isinstance (pa_cons (pv 1) (pa_cons (pe_bltn (v := .ty "bool") rfl B.bool_ L3.bt_bool rfl) pa_nil))) (fun _ => rfl)) (pss_one (ps_ret (pe_and (pe_callB call_isi rfl B.isinstance_ L3.bt_isinstance (pa_cons (pv 0) (pa_cons (pe_bltn (v := .ty "bool") rfl B.bool_ L3.bt_bool rfl) pa_nil))) (pe_one (pe_cmpR op_eq (pv 0) (pv 1) (nomark _)))))) pss_nil)
      (pss_cons (ps_if (pt_truth (pe_callB call_isi rfl B.isinstance_ L3.bt_isinstance (pa_cons (pv 1) (pa_cons (pe_bltn (v := .ty "tuple") rfl B.tuple_ L3.bt_tuple rfl) pa_nil))) (fun _ => rfl)) (pss_cons (ps_if (PW.pt (pw_or (pt_not (pt_truth (pe_callB call_isiQ rfl B.isinstance_ L3.bt_isinstance (pa_cons (pv 0) (pa_cons (pe_bltn (v := .ty "tuple") rfl B.tuple_ L3.bt_tuple rfl) pa_nil))) (fun _ => rfl))) (pw_or1 (pt_cmpR op_ne (pe_callB call_len_seq rfl B.len_ L3.bt_len (pa_cons (pv 0) pa_nil)) (pe_callB call_len_seq rfl B.len_ L3.bt_len (pa_cons (pv 1) pa_nil)) (nomark _))))) (pss_one (ps_ret pe_bl)) pss_nil)
      (pss_one (ps_ret (pe_callB (call_allL rfl) rfl B.all_ L3.bt_all (pa_cons (pe_comp [] ["_law_got", "_law_due", "_law_one_here", "_law_other"] 2 rfl (pi_zipT rfl B.zip_ (pa_cons (pv 0) (pa_cons (pv 1) pa_nil))) (fun _ _ _ _ _ => (pg_tupK K 2 rfl (pgs_cons (pg_name (i := 2) nd_1 rfl (Or.inl rfl) (Or.inr rfl)) (pgs_cons (pg_name (i := 3) nd_1 rfl (Or.inl rfl) (Or.inr rfl)) pgs_nil)) rfl rfl rfl)) (fun _ _ _ _ _ => pif_nil) (fun _ _ _ _ _ => (pe_fn g__law_same hr (pa_cons (pv 2) (pa_cons (pv 3) pa_nil))))) pa_nil))))) pss_nil)
      (pss_cons (ps_if (pt_truth (pe_callB call_isi rfl B.isinstance_ L3.bt_isinstance (pa_cons (pv 1) (pa_cons (pe_bltn (v := .ty "str") rfl B.str_ L3.bt_str rfl) pa_nil))) (fun _ => rfl)) (pss_one (ps_ret (pe_and (pe_callB call_isi rfl B.isinstance_ L3.bt_isinstance (pa_cons (pv 0) (pa_cons (pe_bltn (v := .ty "str") rfl B.str_ L3.bt_str rfl) pa_nil))) (pe_one (pe_cmpR op_eq (pv 0) (pv 1) (nomark _)))))) pss_nil)
      (pss_one (ps_ret (pe_and (pe_callB call_isi rfl B.isinstance_ L3.bt_isinstance (pa_cons (pv 0) (pa_cons (pe_bltn (v := .ty "int") rfl B.int_ L3.bt_int rfl) pa_nil))) (pe_and (pe_not (pe_callB call_isi rfl B.isinstance_ L3.bt_isinstance (pa_cons (pv 0) (pa_cons (pe_bltn (v := .ty "bool") rfl B.bool_ L3.bt_bool rfl) pa_nil)))) (pe_one (pe_cmpR op_eq (pv 0) (pv 1) (nomark _))))))))))), ?_⟩
  rcases hE with ⟨rfl, hs⟩ | ⟨a, b, xs, ys, rfl, rfl, h1, h2, hz, hp⟩
  · cases x with
    | non =>
      refine ⟨_, rfl, rfl, _, rfl, iteT ?_⟩
      refine ⟨_, rfl, rfl, ?_⟩
      exact q H (Same.refl _)
    | bl c =>
      refine ⟨_, rfl, rfl, _, rfl, iteF ?_⟩
      refine ⟨_, rfl, _, _, _, _, rfl, .bl c, ko_bb _, _, rfl, iteT ?_⟩
      refine ⟨_, rfl, _, _, _, _, rfl, .bl c, ko_bb _, _, rfl, iteT ?_⟩
      refine ⟨_, rfl, _, rfl, rfl, ?_⟩
      rw [decide_eq_true rfl]
      exact q H (Same.refl _)
    | int i =>
      refine ⟨_, rfl, rfl, _, rfl, iteF ?_⟩
      refine ⟨_, rfl, _, _, _, _, rfl, .int i, ko_ib _, _, rfl, iteF ?_⟩
      refine ⟨_, rfl, _, _, _, _, rfl, .int i, ko_it _, _, rfl, iteF ?_⟩
      refine ⟨_, rfl, _, _, _, _, rfl, .int i, ko_is _, _, rfl, iteF ?_⟩
      refine ⟨_, rfl, _, _, _, _, rfl, .int i, ko_ii _, _, rfl, iteT ?_⟩
      refine ⟨_, rfl, _, _, _, _, rfl, .int i, ko_ib _, _, rfl, _, rfl, iteT ?_⟩
      refine ⟨_, rfl, _, rfl, rfl, ?_⟩
      rw [decide_eq_true rfl]
      exact q H (Same.refl _)
    | str z =>
      refine ⟨_, rfl, rfl, _, rfl, iteF ?_⟩
      refine ⟨_, rfl, _, _, _, _, rfl, .str z, ko_sb _, _, rfl, iteF ?_⟩
      refine ⟨_, rfl, _, _, _, _, rfl, .str z, ko_st _, _, rfl, iteF ?_⟩
      refine ⟨_, rfl, _, _, _, _, rfl, .str z, ko_ss _, _, rfl, iteT ?_⟩
      refine ⟨_, rfl, _, _, _, _, rfl, .str z, ko_ss _, _, rfl, iteT ?_⟩
      refine ⟨_, rfl, _, rfl, rfl, ?_⟩
      rw [decide_eq_true rfl]
      exact q H (Same.refl _)
    | byt _ => cases hs
    | flt _ => cases hs
    | ref _ => cases hs
    | ty _ => cases hs
  · have hl : xs.length = ys.length := hp.length
    refine ⟨_, rfl, rfl, _, rfl, iteF ?_⟩
    refine ⟨_, rfl, _, _, _, _, rfl, .tup h2, ko_tb _, _, rfl, iteF ?_⟩
    refine ⟨_, rfl, _, _, _, _, rfl, .tup h2, ko_tt _, _, rfl, iteT ?_⟩
    refine ⟨_, rfl, _, _, _, _, rfl, .inr ⟨rfl, a, xs, rfl, h1.sq⟩, ko_tt _, _, rfl, iteF ?_⟩
    refine ⟨_, rfl, a, _, rfl, .inr (h1.sq), _, rfl, b, _, rfl, .inr (SqT.of h2), rfl, _, rfl, iteNS (by rw [hl]) ?_⟩
    refine ⟨_, rfl, _, rfl, a, b, rfl, ⟨_, h1.sq⟩, ⟨_, SqT.of h2⟩, ?_⟩
    refine ⟨fun i m acc σ' H' => m = xs.length - i ∧ i ≤ xs.length ∧ acc = List.replicate i (V.bl true) ∧ Same H H' ∧ σ'.length = 4, ⟨xs.length, rfl, Nat.zero_le _, rfl, Same.refl _, rfl⟩, ?_⟩
    rintro i m acc σ' H' ⟨rfl, hi, rfl, hs, hσ⟩
    by_cases hlt : i < xs.length
    · refine .inr ⟨⟨xs, ys, xs[i], ys[i], (h1.same hs).sq, SqT.of (hs _ _ h2), List.getElem?_eq_getElem hlt, List.getElem?_eq_getElem (by lia)⟩, ?_, fun acc' σ2 H2 => acc' = List.replicate (i + 1) (V.bl true) ∧ Same H H2 ∧ σ2.length = 4, ?_, ?_⟩
      · rw [List.length_replicate]; exact smallL (by lia)
      · rintro acc' σ2 H2 ⟨rfl, s2, l2⟩
        exact ⟨xs.length - (i + 1), by lia, rfl, hlt, rfl, s2, l2⟩
      · rintro v H2 ⟨p, u, v', fp, rfl, rfl, e1, e2⟩
        have u1 := e1 xs ((h1.same hs).sq)
        have u2 := e2 ys (SqT.of (hs _ _ h2))
        have s2 : Same H (upd H' p (.tup [u, v'])) := hs.trans (same_new fp _)
        obtain ⟨o1, o2, o3, o4, rfl⟩ : ∃ o1 o2 o3 o4, σ' = [o1, o2, o3, o4] := by
          match σ', hσ with
          | [o1, o2, o3, o4], _ => exact ⟨o1, o2, o3, o4, rfl⟩
        refine ⟨p, _, rfl, SqT.of upd_same, rfl, _, _, rfl, _, _, rfl, rfl, ?_⟩
        refine ⟨_, rfl, _, rfl, u, v', rfl, (paired_at hp u1 u2).same s2, fun H3 s3 => ⟨?_, s2.trans s3, rfl⟩⟩
        rw [List.replicate_succ']
    · have e : i = xs.length := by lia
      refine .inl ⟨⟨xs, ys, (h1.same hs).sq, SqT.of (hs _ _ h2), .inl (by lia)⟩, ?_, fun D fD => ?_⟩
      · rw [List.length_replicate]; exact small (by lia)
      · refine ⟨D, List.replicate i true, rfl, SqL.of (by rw [upd_same, List.map_replicate]), ?_⟩
        have e2 : (List.replicate i true).all id = true := by simp
        rw [e2]
        exact q _ (hs.trans (same_new fD _))
end
theorem ok__law_same0 {P : Program} {w : World} {K : PySem.W.Frag} {mg : Str → Option Value} {base : Heap} {f : Addr} {fd : FuncData} {ps : List Str} {sp : Sp} (no : ∀ vs H Q E, ¬ sp vs H Q E) : FnOk P w K mg base CX0 0 f fd ps sp :=
  ⟨fun vs H Q E h => absurd h (no vs H Q E), fun A outer s H args us vs Q E _ _ _ _ h => absurd h (no vs H Q E)⟩
section
variable {P : Program} {w : World} {K : PySem.W.Frag} {mg : Str → Option Value} {base : Heap} {f : Addr} {fd : FuncData}
theorem ok__law_bits (F__law_bits : Fun K "_law_bits" "_law_bits" s__law_bits f fd) (B : Bl mg) (g__law_draw : Fn P w K mg base "_law_draw" p__law_draw 1 (spDraw K)) : FnOk P w K mg base CX0 2 f fd p__law_bits (spBits K) := by
  refine F__law_bits.ok sc__law_bits (fun vs H Q E h => ?_) (fun cdv A outer s H vs Q E hr h => ?_)
  · obtain ⟨a, t, ns, k, m, rfl, _⟩ := h
    rfl
  obtain ⟨a, t, ns, k, m, rfl, hS, h63, hT, hk, hm, hm2, q⟩ := h
  refine ⟨_, (pss_one (ps_ret (pe_callTy call_tuple_of rfl B.tuple_ L3.bt_tuple (pa_cons (pe_comp [] ["_law_script", "_law_town", "_law_most", "_law_k"] 1 rfl (pi_range1 rfl B.range_ (pa_cons (pe_fn g__law_draw hr (pa_cons (pv 0) (pa_cons (pv 1) (pa_cons (pe_op op_add (pv 2) pe_int) pa_nil)))) pa_nil)) (fun _ _ _ _ _ => (pg_name (i := 3) nd_2 rfl (Or.inl rfl) (Or.inr rfl))) (fun _ _ _ _ _ => pif_nil) (fun _ _ _ _ _ => (pe_fn g__law_draw hr (pa_cons (pv 0) (pa_cons (pv 1) (pa_cons pe_int pa_nil)))))) pa_nil)))), ?_⟩
  refine ⟨_, rfl, _, rfl, _, rfl, _, _, rfl, rfl, a, t, ns, k, m + 1, rfl, hS, h63, hT, by lia, by lia, fun H1 g1 t1 => ?_⟩
  have n0 := drw_nn ns (k + 1) (show 0 < m + 1 by lia)
  have n1 := drw_lt ns (k + 1) (show 0 < m + 1 by lia)
  refine ⟨_, rfl, by lia, by lia, ?_⟩
  generalize hn : (drw ns (k + 1) (m + 1)).toNat = n at q ⊢
  have hn2 : n ≤ 1000 := by lia
  refine ⟨fun i mm acc σ' H' => mm = n - i ∧ i ≤ n ∧ acc = (dbits ns (k + 1) i).map V.int ∧ Grow t H H' ∧ Twn H' t (k + 1 + i) ∧ ∃ o, σ' = [some (.ref a), some (.ref t), some (.int m), o], ⟨n, rfl, Nat.zero_le _, rfl, g1, t1, _, rfl⟩, ?_⟩
  rintro i mm acc σ' H' ⟨rfl, hi, rfl, gH, tH, o, rfl⟩
  by_cases hlt : i < n
  · refine .inr ⟨hlt, ?_, fun acc' σ2 H2 => acc' = (dbits ns (k + 1) (i + 1)).map V.int ∧ Grow t H H2 ∧ Twn H2 t (k + 1 + (i + 1)) ∧ ∃ o, σ2 = [some (.ref a), some (.ref t), some (.int m), o], ?_, ?_⟩
    · rw [List.length_map, dbits_length]; exact smallL (by lia)
    · rintro acc' σ2 H2 ⟨rfl, g2, t2, o2⟩
      exact ⟨n - (i + 1), by lia, rfl, hlt, rfl, g2, t2, o2⟩
    · rintro v H2 ⟨rfl, rfl⟩
      refine ⟨_, rfl, _, rfl, a, t, ns, k + 1 + i, 2, rfl, gH.scr hT hS, h63, tH, by lia, by decide, fun H3 g3 t3 => ⟨?_, gH.trans g3, t3, _, rfl⟩⟩
      rw [dbits_succ, List.map_append]
      rfl
  · have e : i = n := by lia
    subst e
    refine .inl ⟨Nat.le_refl _, ?_, fun D fD => ?_⟩
    · rw [List.length_map, dbits_length]; exact small (by lia)
    · refine ⟨D, _, rfl, .inl ⟨SqL.of upd_same, fun l fl => ?_⟩⟩
      have s1 : Same H' (upd (upd H' D (.lst ((dbits ns (k + 1) i).map V.int))) l (.tup ((dbits ns (k + 1) i).map V.int))) := (same_new fD _).trans (same_new fl _)
      exact q l _ (gH.trans (.same s1)) (s1.twn tH) upd_same
end
theorem rp : ¬ (("row" : Str) = "place") := by decide +kernel
noncomputable def flds (r : Addr) (z : Int) : List (Str × V) := putF "place" (.int z) (putF "row" (.ref r) [])
theorem flds_eq (r : Addr) (z : Int) : flds r z = ([("row", V.ref r), ("place", V.int z)] : List (Str × V)) := by
  show (if ("row" : Str) = "place" then [(("row" : Str), V.int z)] else (("row" : Str), V.ref r) :: putF "place" (V.int z) []) = ([("row", V.ref r), ("place", V.int z)] : List (Str × V))
  rw [if_neg rp]
  all_goals rfl
theorem flds_row (r : Addr) (z : Int) : (flds r z).lookup ("row" : Str) = some (.ref r) := by
  unfold flds
  rw [lookup_putF, if_neg rp, lookup_putF, if_pos rfl]
theorem flds_place (r : Addr) (z : Int) : (flds r z).lookup ("place" : Str) = some (.int z) := by
  unfold flds
  rw [lookup_putF, if_pos rfl]
theorem flds_no (r : Addr) (z : Int) {m : Str} (h1 : ¬ m = "place") (h2 : ¬ m = "row") : (flds r z).lookup m = none := by
  unfold flds
  rw [lookup_putF, if_neg h1, lookup_putF, if_neg h2]
  all_goals rfl
theorem flds_put (r : Addr) (z y : Int) : putF "place" (.int y) (flds r z) = flds r y := by
  rw [flds_eq, flds_eq]
  show (if ("row" : Str) = "place" then _ else (("row" : Str), V.ref r) :: (if ("place" : Str) = "place" then [(("place" : Str), V.int y)] else _)) = ([("row", V.ref r), ("place", V.int y)] : List (Str × V))
  rw [if_neg rp, if_pos rfl]
theorem flds_lt (r : Addr) (z : Int) : (flds r z).length < 1000 := by
  rw [flds_eq]
  show 2 < 1000
  decide
structure Txt (K : PySem.W.Frag) (mg : Str → Option Value) (C fI fT fU fL fG : Addr) (dI dT dU dL dG : FuncData) : Prop where
  cl : Cls K C
  nR : NoAttr K C "row"
  nP : NoAttr K C "place"
  mgC : mg "Bits" = some (.ref C)
  made : Mk K C fI
  m_take : Meth K C "take" fT
  m_used : Meth K C "used" fU
  m_left : Meth K C "left" fL
  m_go_back : Meth K C "go_back" fG
  b_init : Binds K dI p_Bits___init__ []
  b_take : Binds K dT p_Bits_take []
  b_used : Binds K dU p_Bits_used []
  b_left : Binds K dL p_Bits_left []
  b_go_back : Binds K dG p_Bits_go_back []
inductive spInit (C : Addr) (vs : List V) (H : Hp) (Q : VK) (E : XK) : Prop
  | mk (p dx r : Addr) (xs : List V) (f1 : vs = [.ref p, .ref r]) (f2 : H p = some (.ins C dx [])) (f3 : H r = some (.tup xs)) (f4 : ∀ H', H' p = some (.ins C dx (flds r 0)) → (∀ b o, H b = some o → b ≠ p → H' b = some o) → Q .non H') : spInit C vs H Q E
inductive spUsed (C : Addr) (vs : List V) (H : Hp) (Q : VK) (E : XK) : Prop
  | mk (p dx r : Addr) (z : Nat) (f1 : vs = [.ref p]) (f2 : H p = some (.ins C dx (flds r z))) (f3 : Q (.int z) H) : spUsed C vs H Q E
inductive spLeft (C : Addr) (vs : List V) (H : Hp) (Q : VK) (E : XK) : Prop
  | mk (p dx r : Addr) (xs : List V) (z : Nat) (f1 : vs = [.ref p]) (f2 : H p = some (.ins C dx (flds r z))) (f3 : H r = some (.tup xs)) (f4 : Q (.int ((xs.length : Int) - (z : Int))) H) : spLeft C vs H Q E
inductive spTake (C CN : Addr) (vs : List V) (H : Hp) (Q : VK) (E : XK) : Prop
  | mk (p dx r : Addr) (xs : List V) (z : Nat) (f1 : vs = [.ref p]) (f2 : H p = some (.ins C dx (flds r z))) (f3 : H r = some (.tup xs)) (f4 : z ≤ xs.length) (f5 : (∀ v, xs[z]? = some v → Q v (upd H p (.ins C dx (flds r ((z + 1 : Nat) : Int)))))) (f6 : (z = xs.length → E (.ref CN) none H)) : spTake C CN vs H Q E
inductive spBackH (C : Addr) (vs : List V) (H : Hp) (Q : VK) (E : XK) : Prop
  | mk (p dx r : Addr) (z m : Nat) (f1 : vs = [.ref p, .int m]) (f2 : H p = some (.ins C dx (flds r z))) (f3 : m ≤ z) (f4 : Q .non (upd H p (.ins C dx (flds r m)))) : spBackH C vs H Q E
section
variable {P : Program} {w : World} {K : PySem.W.Frag} {mg : Str → Option Value} {base : Heap} {f C fI fT fU fL fG CN CP : Addr} {fd dI dT dU dL dG : FuncData} {mN mP : List Value}
theorem ok_init (F_Bits___init__ : Fun K "__init__" "Bits.__init__" s_Bits___init__ f fd) (B : Bl mg) (T : Txt K mg C fI fT fU fL fG dI dT dU dL dG) : FnOk P w K mg base CX0 1 f fd p_Bits___init__ (spInit C) := by
  refine F_Bits___init__.ok sc_Bits___init__ (fun vs H Q E h => ?_) (fun cdv A outer s H vs Q E hr h => ?_)
  · obtain ⟨p, dx, r, xs, rfl, _⟩ := h
    rfl
  obtain ⟨p, dx, r, xs, rfl, hp, hR, q⟩ := h
  refine ⟨_, (pss_cons (ps_fld (pv 0) (pe_callTy call_tuple_of rfl B.tuple_ L3.bt_tuple (pa_cons (pv 1) pa_nil)) rfl)
      (pss_one (ps_fld (pv 0) pe_int rfl))), ?_⟩
  refine ⟨_, rfl, r, xs, rfl, .inr ⟨SqT.of hR, _, rfl, p, C, dx, [], rfl, hp, T.cl, T.nR, (by show 0 < 1000; decide), ?_⟩⟩
  refine ⟨_, rfl, p, C, dx, _, rfl, upd_same, T.cl, T.nP, (by show 1 < 1000; decide), ?_⟩
  refine q _ upd_same fun b o e hb => ?_
  rw [upd_ne hb, upd_ne hb]
  exact e
theorem ok_used (F_Bits_used : Fun K "used" "Bits.used" s_Bits_used f fd) (T : Txt K mg C fI fT fU fL fG dI dT dU dL dG) : FnOk P w K mg base CX0 1 f fd p_Bits_used (spUsed C) := by
  refine F_Bits_used.ok sc_Bits_used (fun vs H Q E h => ?_) (fun cdv A outer s H vs Q E hr h => ?_)
  · obtain ⟨p, dx, r, z, rfl, _⟩ := h
    rfl
  obtain ⟨p, dx, r, z, rfl, hp, q⟩ := h
  refine ⟨_, (pss_one (ps_ret (pe_fld (pv 0) rfl))), ?_⟩
  exact ⟨_, rfl, p, C, dx, _, _, rfl, hp, T.cl, T.nP, flds_place _ _, q⟩
theorem ok_left (F_Bits_left : Fun K "left" "Bits.left" s_Bits_left f fd) (B : Bl mg) (T : Txt K mg C fI fT fU fL fG dI dT dU dL dG) : FnOk P w K mg base CX0 1 f fd p_Bits_left (spLeft C) := by
  refine F_Bits_left.ok sc_Bits_left (fun vs H Q E h => ?_) (fun cdv A outer s H vs Q E hr h => ?_)
  · obtain ⟨p, dx, r, xs, z, rfl, _⟩ := h
    rfl
  obtain ⟨p, dx, r, xs, z, rfl, hp, hR, q⟩ := h
  refine ⟨_, (pss_one (ps_ret (pe_op op_sub (pe_callB call_len_seq rfl B.len_ L3.bt_len (pa_cons (pe_fld (pv 0) rfl) pa_nil)) (pe_fld (pv 0) rfl)))), ?_⟩
  exact ⟨_, rfl, p, C, dx, _, _, rfl, hp, T.cl, T.nR, flds_row _ _, r, xs, rfl, .inr (SqT.of hR), _, rfl, p, C, dx, _, _, rfl, hp, T.cl, T.nP, flds_place _ _, _, _, rfl, rfl, q⟩
theorem ok_take (F_Bits_take : Fun K "take" "Bits.take" s_Bits_take f fd) (T : Txt K mg C fI fT fU fL fG dI dT dU dL dG) (X_NoBits : Exc K mg "NoBits" CN mN) (g_left : FnOk P w K mg base CX0 1 fL dL p_Bits_left (spLeft C)) : FnOk P w K mg base (CXR P w) 2 f fd p_Bits_take (spTake C CN) := by
  refine F_Bits_take.okX sc_Bits_take (fun vs H Q E h => ?_) (fun cdv A outer s H vs Q E hr h => ?_)
  · obtain ⟨p, dx, r, xs, z, rfl, _⟩ := h
    rfl
  obtain ⟨p, dx, r, xs, z, rfl, hp, hR, hz, q, e⟩ := h
  refine ⟨_, (pss_cons (ps_if (pt_cmpR op_eq (pe_meth0 (pv 0) T.cl T.m_left g_left (hr.mono (by first | decide | lia)) T.b_left .nil pass0) pe_int (nomark _)) (pss_one (ps_raise X_NoBits (pa_cons pe_str pa_nil))) pss_nil)
      (pss_cons (ps_set (i := 1) sc_Bits_take.nd rfl (Or.inl rfl) (pe_ix ix_tup (pe_fld (pv 0) rfl) (pe_fld (pv 0) rfl) (fun _ _ => rfl)))
      (pss_cons (ps_fld (pv 0) (pe_op op_add (pe_fld (pv 0) rfl) pe_int) rfl)
      (pss_one (ps_ret (pv 1)))))), ?_⟩
  refine ⟨_, rfl, p, dx, _, rfl, hp, flds_no _ _ (by decide +kernel) (by decide +kernel), p, dx, r, xs, z, rfl, hp, hR, rfl, _, rfl, ?_⟩
  refine ite2 (fun c => ?_) (fun c => ?_)
  · have c' : V.int ((xs.length : Int) - (z : Int)) = V.int 0 := of_decide_eq_true c
    injection c' with c'
    exact ⟨(by show 1 ≤ sizeLine; decide), e (by lia)⟩
  · have c' : ¬ V.int ((xs.length : Int) - (z : Int)) = V.int 0 := of_decide_eq_false (Bool.eq_false_iff.mpr c)
    have hlt : z < xs.length := by
      rcases Nat.lt_or_ge z xs.length with y | y
      · exact y
      · exact absurd (by rw [show (xs.length : Int) - (z : Int) = 0 by lia]) c'
    have hv := List.getElem?_eq_getElem hlt
    refine ⟨_, rfl, p, C, dx, _, _, rfl, hp, T.cl, T.nR, flds_row _ _, _, rfl, p, C, dx, _, _, rfl, hp, T.cl, T.nP, flds_place _ _, r, xs, _, _, rfl, rfl, SqT.of hR, atI_nat hv, ?_⟩
    refine ⟨_, rfl, p, C, dx, _, _, rfl, hp, T.cl, T.nP, flds_place _ _, _, _, rfl, rfl, _, rfl, p, C, dx, _, rfl, hp, T.cl, T.nP, flds_lt _ _, ?_⟩
    refine ⟨_, rfl, ?_⟩
    rw [flds_put]
    exact q _ hv
theorem okH_go_back (F_Bits_go_back : Fun K "go_back" "Bits.go_back" s_Bits_go_back f fd) (T : Txt K mg C fI fT fU fL fG dI dT dU dL dG) : FnOkH P w K mg base 1 f fd p_Bits_go_back (spBackH C) := by
  refine F_Bits_go_back.okH sc_Bits_go_back (fun vs H Q E h => ?_) (fun cdv A outer s H vs Q E h => ?_)
  · obtain ⟨p, dx, r, z, m, rfl, _⟩ := h
    rfl
  obtain ⟨p, dx, r, z, m, rfl, hp, hm, q⟩ := h
  refine ⟨_, (pss_cons (ps_if (PW.pt (pw_or (pt_cmpR op_lt (pv 1) pe_int (nomark _)) (pw_or1 (pt_cmpR op_gt (pv 1) (pe_fld (pv 0) rfl) (nomark _))))) (pss_one ps_never) pss_nil)
      (pss_one (ps_fld (pv 0) (pv 1) rfl))), ?_⟩
  refine ⟨_, rfl, _, _, rfl, rfl, _, rfl, ?_⟩
  refine ite2 (fun c => ?_) (fun c => ?_)
  · have c' : (m : Int) < 0 := of_decide_eq_true c
    lia
  · refine ⟨_, rfl, _, rfl, p, C, dx, _, _, rfl, hp, T.cl, T.nP, flds_place _ _, _, _, rfl, rfl, _, rfl, ?_⟩
    refine ite2 (fun c2 => ?_) (fun c2 => ?_)
    · have c3 : (m : Int) > (z : Int) := of_decide_eq_true c2
      lia
    · refine ⟨_, rfl, _, rfl, p, C, dx, _, rfl, hp, T.cl, T.nP, flds_lt _ _, ?_⟩
      rw [flds_put]
      exact q
end
theorem lo62 (n : Nat) : (-(2 ^ 62) : Int) ≤ (n : Int) := Int.le_trans (by decide) (Int.natCast_nonneg n)
theorem hi62 {n : Nat} (h : n ≤ 1000000) : (n : Int) < 2 ^ 62 := Int.lt_of_le_of_lt (Int.ofNat_le.mpr h) (by decide)
theorem nat_of {z : Int} (h : 0 ≤ z) : ∃ n : Nat, z = (n : Int) := ⟨z.toNat, by lia⟩
noncomputable abbrev vbits (bl : List Nat) : List V := bl.map fun (b : Nat) => V.int (b : Int)
structure At (C : Addr) (H : Hp) (b dx r : Addr) (bl : List Nat) (z : Nat) : Prop where
  obj : H b = some (.ins C dx (flds r z))
  row : H r = some (.tup (vbits bl))
  le : z ≤ bl.length
theorem At.same {C : Addr} {H H' : Hp} {b dx r : Addr} {bl : List Nat} {z : Nat} (h : At C H b dx r bl z) (s : Same H H') : At C H' b dx r bl z := ⟨s _ _ h.obj, s _ _ h.row, h.le⟩
theorem At.ne {C : Addr} {H : Hp} {b dx r : Addr} {bl : List Nat} {z : Nat} (h : At C H b dx r bl z) : r ≠ b := fun e => by
  have a := h.row
  rw [e, h.obj] at a
  cases a
theorem At.to {C : Addr} {H : Hp} {b dx r : Addr} {bl : List Nat} {z : Nat} (h : At C H b dx r bl z) {y : Nat} (hy : y ≤ bl.length) : At C (upd H b (.ins C dx (flds r y))) b dx r bl y := ⟨upd_same, by rw [upd_ne h.ne]; exact h.row, hy⟩
theorem vbits_at {bl : List Nat} {z : Nat} {v : V} (h : (vbits bl)[z]? = some v) : ∃ x, bl[z]? = some x ∧ v = .int (x : Int) := by
  rw [List.getElem?_map] at h
  cases e : bl[z]? with
  | none => rw [e] at h; cases h
  | some x => rw [e] at h; exact ⟨x, rfl, (Option.some.inj h).symm⟩
theorem vbits_len (bl : List Nat) : (vbits bl).length = bl.length := List.length_map _
inductive spTakeB (C CN : Addr) (vs : List V) (H : Hp) (Q : VK) (E : XK) : Prop
  | mk (b dx r : Addr) (bl : List Nat) (z : Nat) (f1 : vs = [.ref b]) (f2 : At C H b dx r bl z) (f3 : (∀ x H', bl[z]? = some x → Grow b H H' → At C H' b dx r bl (z + 1) → Q (.int (x : Int)) H')) (f4 : (z = bl.length → E (.ref CN) none H)) : spTakeB C CN vs H Q E
theorem take_imp {C CN : Addr} : ∀ vs H Q E, spTakeB C CN vs H Q E → spTake C CN vs H Q E := by
  rintro vs H Q E ⟨b, dx, r, bl, z, rfl, hA, q, e⟩
  refine ⟨b, dx, r, vbits bl, z, rfl, hA.obj, hA.row, by rw [vbits_len]; exact hA.le, fun v hv => ?_, fun hz => e (by rw [vbits_len] at hz; exact hz)⟩
  obtain ⟨x, hx, rfl⟩ := vbits_at hv
  have hlt : z < bl.length := by
    rcases Nat.lt_or_ge z bl.length with y | y
    · exact y
    · rw [List.getElem?_eq_none y] at hx; cases hx
  exact q x _ hx (Grow.upd _) (hA.to hlt)
inductive spRaw {α : Type} (C CN : Addr) (Sh : Hp → V → α → Prop) (F : α → List Nat → Option (V × Nat)) (vs : List V) (H : Hp) (Q : VK) (E : XK) : Prop
  | mk (b dx r : Addr) (bl : List Nat) (z : Nat) (x : V) (a : α) (f1 : vs = [.ref b, x]) (f2 : At C H b dx r bl z) (f3 : Sh H x a) (f4 : (∀ v u H', F a (bl.drop z) = some (v, u) → Grow b H H' → At C H' b dx r bl (z + u) → Q v H')) (f5 : (∀ z' H', F a (bl.drop z) = none → z ≤ z' → Grow b H H' → At C H' b dx r bl z' → E (.ref CN) none H')) : spRaw (α := α) C CN Sh F vs H Q E
inductive spDone {α : Type} (C CN : Addr) (Sh : Hp → V → α → Prop) (F : α → List Nat → Option (V × Nat)) (vs : List V) (H : Hp) (Q : VK) (E : XK) : Prop
  | mk (b dx r : Addr) (bl : List Nat) (z : Nat) (x : V) (a : α) (f1 : vs = [.ref b, x]) (f2 : At C H b dx r bl z) (f3 : Sh H x a) (f4 : (∀ v u H', F a (bl.drop z) = some (v, u) → Grow b H H' → At C H' b dx r bl (z + u) → Q v H')) (f5 : (∀ H', F a (bl.drop z) = none → Grow b H H' → At C H' b dx r bl z → E (.ref CN) none H')) : spDone (α := α) C CN Sh F vs H Q E
inductive spDW (P : Program) (w : World) (K : PySem.W.Frag) (mg : Str → Option Value) (base : Heap) (k0 : Nat) (C CN : Addr) (vs : List V) (H : Hp) (Q : VK) (E : XK) : Prop
  | mk (b dx r f : Addr) (bl : List Nat) (z : Nat) (x : V) (fd : FuncData) (ps : List Str) (k : Nat) (sp : Sp) (f1 : vs = [.ref b, .ref f, x]) (f2 : FnOk P w K mg base (CXR P w) k f fd ps sp) (f3 : k ≤ k0) (f4 : PySem.W.keepIn K (.ref f) = true) (f5 : Binds K fd ps []) (f6 : At C H b dx r bl z) (f7 : ∀ Ex : XK, (∀ z' H1, z ≤ z' → At C H1 b dx r bl z' → (∀ H2, Grow b H1 H2 → At C H2 b dx r bl z → E (.ref CN) none H2) → Ex (.ref CN) none H1) → sp [.ref b, x] H Q Ex) : spDW P w K mg base k0 C CN vs H Q E
theorem dw_of {α : Type} {P : Program} {w : World} {K : PySem.W.Frag} {mg : Str → Option Value} {base : Heap} {k k0 : Nat} {C CN f : Addr} {fd : FuncData} {ps : List Str} {x : Str} {Sh : Hp → V → α → Prop} {F : α → List Nat → Option (V × Nat)} (G : FnX P w K mg base x f fd ps k (spRaw C CN Sh F)) (hk : k ≤ k0)
    {b dx r : Addr} {bl : List Nat} {z : Nat} {y : V} {a : α} {H : Hp} {Q : VK} {E : XK} (hA : At C H b dx r bl z) (hS : Sh H y a) (q : ∀ v u H', F a (bl.drop z) = some (v, u) → Grow b H H' → At C H' b dx r bl (z + u) → Q v H')
    (e : ∀ H', F a (bl.drop z) = none → Grow b H H' → At C H' b dx r bl z → E (.ref CN) none H') : spDW P w K mg base k0 C CN [.ref b, .ref f, y] H Q E :=
  ⟨b, dx, r, f, bl, z, y, fd, ps, k, _, rfl, G.ok, hk, G.kp, G.bd, hA, fun Ex hE => ⟨b, dx, r, bl, z, y, a, rfl, hA, hS, q, fun z' H1 n1 l1 g1 a1 => hE z' H1 l1 a1 fun H2 g2 a2 => e H2 n1 (g1.trans g2) a2⟩⟩
section
variable {P : Program} {w : World} {K : PySem.W.Frag} {mg : Str → Option Value} {base : Heap} {f C fI fT fU fL fG CN : Addr} {fd dI dT dU dL dG : FuncData} {mN : List Value}
theorem ok_drawn_whole {k0 : Nat} (F_drawn_whole : Fun K "drawn_whole" "drawn_whole" s_drawn_whole f fd) (T : Txt K mg C fI fT fU fL fG dI dT dU dL dG) (X_NoBits : Exc K mg "NoBits" CN mN) (hNN : mN.contains (.ref CN) = true) (g_used : FnOk P w K mg base CX0 1 fU dU p_Bits_used (spUsed C)) (gH_go_back : FnOkH P w K mg base 1 fG dG p_Bits_go_back (spBackH C)) :
    FnOk P w K mg base (CXR P w) (k0 + 1 + 1) f fd p_drawn_whole (spDW P w K mg base (k0 + 1) C CN) := by
  refine F_drawn_whole.okX sc_drawn_whole (fun vs H Q E h => ?_) (fun cdv A outer s H vs Q E hr h => ?_)
  · obtain ⟨b, dx, r, f, bl, z, x, fd, ps, k, sp, rfl, _⟩ := h
    rfl
  obtain ⟨b, dx, r, f', bl, z, x, fd', ps', k, sp, rfl, F, hk, kp, hb, hA, q⟩ := h
  refine ⟨_, (pss_cons (ps_set (i := 3) sc_drawn_whole.nd rfl (Or.inl rfl) (pe_meth0 (pv 0) T.cl T.m_used g_used (hr.mono (by first | decide | lia)) T.b_used .nil pass0))
      (pss_one (ps_try (psx_ret (px_callV 1 (pv 1) hr (pa_cons (pv 0) (pa_cons (pv 2) pa_nil)))) (Hs.cons X_NoBits rfl (by decide) (fun y ps ok hd => (pss_cons (ps_expr (pe_methH (pv 0) T.cl T.m_go_back gH_go_back ((hr.mono (by first | decide | lia)).h _) T.b_go_back (pa_cons (pv 3) pa_nil)))
      (pss_one (ps_raiseH ok hd X_NoBits (pa_cons pe_str pa_nil))))) .nil) rfl rfl (fun _ => PassesOwnAt.leaving)))), ?_⟩
  refine ⟨_, rfl, b, dx, _, rfl, hA.obj, flds_no _ _ (by decide +kernel) (by decide +kernel), b, dx, r, z, rfl, hA.obj, ?_⟩
  refine ⟨f', fd', k, ps', sp, rfl, F, hk, kp, hb, _, rfl, _, rfl, q _ fun z' H1 hz hA1 e => ?_⟩
  refine ⟨"NoBits", CN, mN, _, rfl, X_NoBits, if_pos hNN, ?_⟩
  refine ⟨_, rfl, b, dx, _, rfl, hA1.obj, flds_no _ _ (by decide +kernel) (by decide +kernel), _, rfl, b, dx, r, z', z, rfl, hA1.obj, hz, ?_⟩
  exact ⟨(by show 1 ≤ sizeLine; decide), e _ (Grow.upd _) (hA1.to hA.le)⟩
end
theorem drop_at {bl : List Nat} {z x : Nat} (h : bl[z]? = some x) : bl.drop z = x :: bl.drop (z + 1) := by
  have hlt : z < bl.length := by
    rcases Nat.lt_or_ge z bl.length with y | y
    · exact y
    · rw [List.getElem?_eq_none y] at h; cases h
  rw [List.drop_eq_getElem_cons hlt]
  rw [List.getElem?_eq_getElem hlt] at h
  rw [Option.some.inj h]
noncomputable def vnats (l : List Nat) : List V := l.map fun (n : Nat) => V.int (n : Int)
theorem vnats_ints (l : List Nat) : vnats l = (l.map fun (n : Nat) => (n : Int)).map V.int := by rw [List.map_map]; rfl
theorem vnats_at {l : List Nat} {j : Nat} (h : j < l.length) : (vnats l)[j]? = some (V.int (l.getD j 0 : Int)) := by
  rw [vnats, List.getElem?_map, List.getElem?_eq_getElem h, List.getD_eq_getElem?_getD, List.getElem?_eq_getElem h]
  rfl
theorem vnats_len (l : List Nat) : (vnats l).length = l.length := List.length_map _
theorem sum_nats : ∀ l : List Nat, (l.map fun (n : Nat) => (n : Int)).sum = ((l.sum : Nat) : Int)
  | [] => rfl
  | a :: l => by rw [List.map_cons, List.sum_cons, List.sum_cons, sum_nats l, Int.natCast_add]
theorem vnats_in (T : Nat) (l : List Nat) : inV (V.int (T : Int)) (vnats l) = decide (T ∈ l) := by
  unfold inV vnats
  rw [Bool.eq_iff_iff, List.any_eq_true, decide_eq_true_iff]
  constructor
  · rintro ⟨x, hx, e⟩
    obtain ⟨n, hn, rfl⟩ := List.mem_map.mp hx
    have e' : ((n : Int) == (T : Int)) = true := e
    have : n = T := by have := eq_of_beq e'; lia
    exact this ▸ hn
  · intro h
    exact ⟨_, List.mem_map.mpr ⟨T, h, rfl⟩, by show ((T : Int) == (T : Int)) = true; simp⟩
theorem vnats_flat (l : List Nat) : (vnats l).all flatV = true := by
  rw [List.all_eq_true]
  intro x hx
  obtain ⟨n, _, rfl⟩ := List.mem_map.mp hx
  rfl
theorem idx_at {T : Nat} {l : List Nat} (h : T ∈ l) : (l.map fun (n : Nat) => (n : Int))[l.idxOf T]? = some (T : Int) ∧ ∀ i, i < l.idxOf T → (l.map fun (n : Nat) => (n : Int))[i]? ≠ some (T : Int) := by
  have hl : l.idxOf T < l.length := List.idxOf_lt_length_of_mem h
  refine ⟨?_, fun i hi e => ?_⟩
  · rw [List.getElem?_map, List.getElem?_eq_getElem hl, List.getElem_idxOf hl]
    rfl
  · have hil : i < l.length := Nat.lt_trans hi hl
    rw [List.getElem?_map, List.getElem?_eq_getElem hil] at e
    have e' : ((l[i] : Nat) : Int) = (T : Int) := Option.some.inj e
    exact absurd (show l[i] = T by lia) (by simpa using List.not_of_lt_findIdx (p := fun x => x == T) hi)
noncomputable def digs (T : Nat) (rs : List Nat) : List Nat := (List.range rs.length).filter fun i => decide (T ≤ 2 * rs.getD i 0)
noncomputable def stepR (T : Nat) (rs : List Nat) : List Nat := rs.map fun r => 2 * r % T
noncomputable def pkR (T : Nat) : List Nat → Nat → Nat → List Nat → Option (Nat × Nat)
  | _, _, _, [] => none
  | rs, p, u, b :: bs => if 2 * p + b < (digs T rs).length then some ((digs T rs).getD (2 * p + b) 0, u + 1) else pkR T (stepR T rs) (2 * p + b - (digs T rs).length) (u + 1) bs
theorem fig_hand {w T d : Nat} (hT : 0 < T) : (w * 2 ^ (d + 1) / T % 2 = 1) ↔ T ≤ 2 * (w * 2 ^ d % T) := by
  have e : w * 2 ^ (d + 1) = 2 * (w * 2 ^ d % T) + 2 * (w * 2 ^ d / T) * T := by
    have := Nat.div_add_mod (w * 2 ^ d) T
    rw [Nat.pow_succ, ← Nat.mul_assoc]
    have h2 : 2 * (w * 2 ^ d / T) * T = 2 * (T * (w * 2 ^ d / T)) := by rw [Nat.mul_assoc, Nat.mul_comm (w * 2 ^ d / T)]
    lia
  have hr := Nat.mod_lt (w * 2 ^ d) hT
  rw [e, Nat.add_mul_div_right _ _ hT]
  generalize w * 2 ^ d % T = r at hr
  generalize w * 2 ^ d / T = q
  by_cases c : T ≤ 2 * r
  · have : 2 * r / T = 1 := by
      rw [Nat.div_eq_sub_div hT c, Nat.div_eq_of_lt (by lia)]
    lia
  · have : 2 * r / T = 0 := Nat.div_eq_of_lt (by lia)
    lia
theorem rest_hand {w T d : Nat} : 2 * (w * 2 ^ d % T) % T = w * 2 ^ (d + 1) % T := by
  rw [Nat.pow_succ, ← Nat.mul_assoc, Nat.mul_comm (w * 2 ^ d) 2, Nat.mul_mod_mod]
noncomputable def figs (T : Nat) (rs : List Nat) (i : Nat) : List Nat := (List.range i).filter fun k => decide (T ≤ 2 * rs.getD k 0)
theorem figs_len (T : Nat) (rs : List Nat) (i : Nat) : (figs T rs i).length ≤ i := Nat.le_trans (List.length_filter_le _ _) (by rw [List.length_range]; exact Nat.le_refl _)
theorem figs_yes {T : Nat} {rs : List Nat} {i : Nat} (h : T ≤ 2 * rs.getD i 0) : vnats (figs T rs (i + 1)) = vnats (figs T rs i) ++ [V.int (i : Int)] := by
  unfold figs
  rw [List.range_succ, List.filter_append, vnats, vnats, List.map_append, List.filter_cons_of_pos (by simpa using h)]
  rfl
theorem figs_no {T : Nat} {rs : List Nat} {i : Nat} (h : ¬ T ≤ 2 * rs.getD i 0) : vnats (figs T rs (i + 1)) = vnats (figs T rs i) := by
  unfold figs
  rw [List.range_succ, List.filter_append, vnats, vnats, List.map_append, List.filter_cons_of_neg (by simpa using h)]
  exact List.append_nil _
theorem step_more {T : Nat} {rs : List Nat} {i : Nat} (h : i < rs.length) : vnats (stepR T (rs.take (i + 1))) = vnats (stepR T (rs.take i)) ++ [V.int ((2 * rs.getD i 0 % T : Nat) : Int)] := by
  rw [List.take_add_one, List.getElem?_eq_getElem h, List.getD_eq_getElem?_getD, List.getElem?_eq_getElem h]
  unfold stepR vnats
  rw [List.map_append, List.map_append]
  rfl
theorem step_len (T : Nat) (rs : List Nat) : (stepR T rs).length = rs.length := List.length_map _
noncomputable def pkF (ws bs : List Nat) : Option (Nat × Nat) := if ws.sum ∈ ws then some (ws.idxOf ws.sum, 0) else pkR ws.sum ws 0 0 bs
noncomputable def pkV (ws bs : List Nat) : Option (V × Nat) := (pkF ws bs).map fun p => (V.int (p.1 : Int), p.2)
noncomputable def ShW (H : Hp) (x : V) (ws : List Nat) : Prop := ∃ r, x = .ref r ∧ H r = some (.tup (vnats ws)) ∧ 0 < ws.sum ∧ ws.sum < 1073741824 ∧ ws.length ≤ 1000
noncomputable def ShX (H : Hp) (x : V) (ws : List Nat) : Prop := ShW H x ws ∧ ws.sum ∉ ws
section
variable {P : Program} {w : World} {K : PySem.W.Frag} {mg : Str → Option Value} {base : Heap} {f C fI fT fU fL fG CN : Addr} {fd dI dT dU dL dG : FuncData} {mN : List Value}
theorem ok_take_pick (F_take_pick : Fun K "take_pick" "take_pick" s_take_pick f fd) (B : Bl mg) (T : Txt K mg C fI fT fU fL fG dI dT dU dL dG) (g_take : FnOk P w K mg base (CXR P w) 2 fT dT p_Bits_take (spTakeB C CN)) :
    FnOk P w K mg base (CXR P w) 3 f fd p_take_pick (spRaw C CN ShX pkV) := by
  refine F_take_pick.okX sc_take_pick (fun vs H Q E h => ?_) (fun cdv A outer s H vs Q E hr h => ?_)
  · obtain ⟨b, dx, r, bl, z, x, a, rfl, _⟩ := h
    rfl
  obtain ⟨b, dx, r0, bl, z, x, ws, rfl, hA, ⟨⟨wr, rfl, hW, hT, hT2, hwl⟩, hno⟩, q, e⟩ := h
  refine ⟨_, (pss_cons (ps_set (i := 2) sc_take_pick.nd rfl (Or.inr rfl) (pe_callB (call_sumT rfl) rfl B.sum_ L3.bt_sum (pa_cons (pv 1) pa_nil)))
      (pss_cons (ps_set (i := 3) sc_take_pick.nd rfl (Or.inl rfl) (pv 1))
      (pss_cons (ps_set (i := 4) sc_take_pick.nd rfl (Or.inl rfl) pe_int)
      (pss_one (ps_while (PassesOwn.leaving (M := model P w)) (pt_truth pe_bl (fun _ => rfl)) (pss_cons (ps_set (i := 4) sc_take_pick.nd rfl (Or.inl rfl) (pe_op op_add (pe_op op_mul pe_int (pv 4)) (pe_meth0 (pv 0) T.cl T.m_take g_take (hr.mono (by first | decide | lia)) T.b_take .nil cx_pass)))
      (pss_cons (ps_join (ps_comp 5 [] ["bits", "weights", "total", "rests", "place", "ends", "number", "rest"] 2 rfl sc_take_pick.nd rfl rfl (PI.or (pi_enumT rfl B.enumerate_ (pa_cons (pv 3) pa_nil)) (pi_enumL rfl B.enumerate_ (pa_cons (pv 3) pa_nil))) (fun _ _ _ _ _ => (pg_tupK K 2 rfl (pgs_cons (pg_name (i := 6) nd_3 rfl (Or.inl rfl) (Or.inr rfl)) (pgs_cons (pg_name (i := 7) nd_3 rfl (Or.inl rfl) (Or.inr rfl)) pgs_nil)) rfl rfl rfl)) (fun _ _ _ _ _ => (pif_one (pt_cmpR op_ge (pe_op op_mul pe_int (pv 7)) (pv 2) (nomark _)))) (fun _ _ _ _ _ => (pv 6))))
      (pss_cons (ps_if (pt_cmpR op_lt (pv 4) (pe_callB call_len_seq rfl B.len_ L3.bt_len (pa_cons (pv 5) pa_nil)) (nomark _)) (pss_one (ps_ret (pe_ix ix_list (pv 5) (pv 4) (fun _ _ => rfl)))) pss_nil)
      (pss_cons (ps_set (i := 4) sc_take_pick.nd rfl (Or.inl rfl) (pe_op op_sub (pv 4) (pe_callB call_len_seq rfl B.len_ L3.bt_len (pa_cons (pv 5) pa_nil))))
      (pss_one (ps_joinN (ps_comp 3 [] ["bits", "weights", "total", "rests", "place", "ends", "rest"] 1 rfl sc_take_pick.nd rfl rfl (PI.or (pi_tup (pv 3)) (pi_list (pv 3))) (fun _ _ _ _ _ => (pg_name (i := 6) nd_4 rfl (Or.inl rfl) (Or.inr rfl))) (fun _ _ _ _ _ => pif_nil) (fun _ _ _ _ _ => (pe_op op_mod (pe_op op_mul pe_int (pv 6)) (pv 2))))))))))))))), ?_⟩
  refine ⟨_, rfl, wr, ws.map (fun (n : Nat) => (n : Int)), rfl, SqT.of (by rw [← vnats_ints]; exact hW), ?_⟩
  rw [sum_nats]
  refine ⟨_, rfl, ?_⟩
  have hpk : pkF ws (bl.drop z) = pkR ws.sum ws 0 0 (bl.drop z) := if_neg hno
  generalize hS : ws.sum = S at hT hT2 hpk
  refine ⟨fun mu σ' H' => ∃ (rs : List Nat) (pl u : Nat) (r : Addr) (o5 : Option V), mu = bl.length - (z + u) ∧ σ' = [some (.ref b), some (.ref wr), some (.int (S : Int)), some (.ref r), some (.int (pl : Int)), o5] ∧ Grow b H H' ∧ At C H' b dx r0 bl (z + u) ∧ (H' r = some (.tup (vnats rs)) ∨ H' r = some (.lst (vnats rs))) ∧ rs.length ≤ 1000 ∧ pkF ws (bl.drop z) = pkR S rs pl u (bl.drop (z + u)),
    ⟨_, ws, 0, 0, wr, none, rfl, rfl, Grow.refl _ _, hA, .inl hW, hwl, hpk⟩, ?_⟩
  rintro mu σ1 H1 ⟨rs, pl, u, r, o5, rfl, rfl, g1, a1, hrs, hrl, hev⟩
  refine ⟨_, rfl, iteT ?_⟩
  refine ⟨_, fun _ _ z => z, ?_⟩
  -- place
  refine ⟨_, rfl, _, _, rfl, rfl, .inl ⟨by decide, by decide⟩, _, rfl, b, dx, _, rfl, a1.obj, flds_no _ _ (by decide +kernel) (by decide +kernel), b, dx, r0, bl, z + u, rfl, a1, fun x H2 hx g2 a2 => ?_, fun hz => ?_⟩
  rotate_left
  · refine e (z + u) H1 ?_ (by lia) g1 a1
    unfold pkV
    rw [hev, List.drop_eq_nil_of_le (by lia)]
    rfl
  have hl2 := a2.le
  have hrb : r ≠ b := fun y => by
    rcases hrs with hh | hh <;> (rw [y, a1.obj] at hh; cases hh)
  replace hrs : H2 r = some (.tup (vnats rs)) ∨ H2 r = some (.lst (vnats rs)) := hrs.imp (fun y => g2 _ _ hrb y) (fun y => g2 _ _ hrb y)
  refine ⟨_, _, rfl, rfl, ?_⟩
  have ep : (2 : Int) * (pl : Int) + (x : Int) = ((2 * pl + x : Nat) : Int) := by lia
  -- ends
  refine ⟨fun σ' H' => ∃ D : Addr, σ' = [some (.ref b), some (.ref wr), some (.int (S : Int)), some (.ref r), some (.int ((2 * pl + x : Nat) : Int)), some (.ref D)] ∧ Same H2 H' ∧ H' D = some (.lst (vnats (digs S rs))), ?_, ?_⟩
  rotate_left
  · rcases hrs with hrs | hrs
    · refine .inl ⟨_, rfl, r, rfl, ⟨_, SqT.of hrs⟩, ?_⟩
      refine ⟨fun i mm acc σ' H' => mm = rs.length - i ∧ i ≤ rs.length ∧ acc = vnats (figs S rs i) ∧ Same H2 H' ∧ ∃ o6 o7 : Option V, σ' = [some (.ref b), some (.ref wr), some (.int (S : Int)), some (.ref r), some (.int ((2 : Int) * (pl : Int) + (x : Int))), o5, o6, o7], ⟨rs.length, rfl, Nat.zero_le _, rfl, Same.refl _, _, _, rfl⟩, ?_⟩
      rintro i mm acc σ' H3 ⟨rfl, hi, rfl, s3, o6, o7, rfl⟩
      have hfl := figs_len S rs i
      by_cases hlt : i < rs.length
      · refine .inr ⟨⟨_, _, SqT.of (s3 _ _ hrs), vnats_at hlt⟩, smallL (by rw [vnats_len]; lia), fun acc' σ2 H4 => acc' = vnats (figs S rs (i + 1)) ∧ Same H2 H4 ∧ ∃ o6 o7 : Option V, σ2 = [some (.ref b), some (.ref wr), some (.int (S : Int)), some (.ref r), some (.int ((2 : Int) * (pl : Int) + (x : Int))), o5, o6, o7], ?_, ?_⟩
        · rintro acc' σ2 H4 ⟨rfl, s4, o6', o7', rfl⟩
          exact ⟨rs.length - (i + 1), by lia, rfl, hlt, rfl, s4, _, _, rfl⟩
        · rintro v H4 ⟨p, y, fp, rfl, rfl, ex⟩
          have ex' := ex _ (SqT.of (s3 _ _ hrs))
          rw [vnats_at hlt] at ex'
          obtain rfl := Option.some.inj ex'
          have s4 := s3.trans (same_new fp (.tup [V.int (i : Int), V.int ((rs.getD i 0 : Nat) : Int)]))
          refine ⟨p, _, rfl, SqT.of upd_same, rfl, _, _, rfl, _, _, rfl, rfl, ?_⟩
          refine ⟨_, rfl, _, _, rfl, rfl, .inl ⟨by decide, by decide⟩, _, rfl, _, _, rfl, rfl, _, rfl, ite2 (fun c => ?_) (fun c => ?_)⟩
          · have c' : (S : Int) ≤ 2 * ((rs.getD i 0 : Nat) : Int) := of_decide_eq_true c
            refine ⟨_, rfl, ?_, s4, _, _, rfl⟩
            rw [figs_yes (by lia)]
          · have c' : ¬ (S : Int) ≤ 2 * ((rs.getD i 0 : Nat) : Int) := of_decide_eq_false (Bool.eq_false_iff.mpr c)
            refine ⟨?_, s4, _, _, rfl⟩
            rw [figs_no (by lia)]
      · have ei : i = rs.length := by lia
        subst ei
        refine .inl ⟨⟨_, SqT.of (s3 _ _ hrs), by rw [vnats_len]; exact Nat.le_refl _⟩, small (by rw [vnats_len]; lia), fun D fD => ⟨D, ?_, s3.trans (same_new fD _), upd_same⟩⟩
        rw [← ep]
        rfl
    · refine .inr ⟨_, rfl, r, rfl, ⟨_, SqL.of hrs⟩, ?_⟩
      refine ⟨fun i mm acc σ' H' => mm = rs.length - i ∧ i ≤ rs.length ∧ acc = vnats (figs S rs i) ∧ Same H2 H' ∧ ∃ o6 o7 : Option V, σ' = [some (.ref b), some (.ref wr), some (.int (S : Int)), some (.ref r), some (.int ((2 : Int) * (pl : Int) + (x : Int))), o5, o6, o7], ⟨rs.length, rfl, Nat.zero_le _, rfl, Same.refl _, _, _, rfl⟩, ?_⟩
      rintro i mm acc σ' H3 ⟨rfl, hi, rfl, s3, o6, o7, rfl⟩
      have hfl := figs_len S rs i
      by_cases hlt : i < rs.length
      · refine .inr ⟨⟨_, _, SqL.of (s3 _ _ hrs), vnats_at hlt⟩, smallL (by rw [vnats_len]; lia), fun acc' σ2 H4 => acc' = vnats (figs S rs (i + 1)) ∧ Same H2 H4 ∧ ∃ o6 o7 : Option V, σ2 = [some (.ref b), some (.ref wr), some (.int (S : Int)), some (.ref r), some (.int ((2 : Int) * (pl : Int) + (x : Int))), o5, o6, o7], ?_, ?_⟩
        · rintro acc' σ2 H4 ⟨rfl, s4, o6', o7', rfl⟩
          exact ⟨rs.length - (i + 1), by lia, rfl, hlt, rfl, s4, _, _, rfl⟩
        · rintro v H4 ⟨p, y, fp, rfl, rfl, ex⟩
          have ex' := ex _ (SqL.of (s3 _ _ hrs))
          rw [vnats_at hlt] at ex'
          obtain rfl := Option.some.inj ex'
          have s4 := s3.trans (same_new fp (.tup [V.int (i : Int), V.int ((rs.getD i 0 : Nat) : Int)]))
          refine ⟨p, _, rfl, SqT.of upd_same, rfl, _, _, rfl, _, _, rfl, rfl, ?_⟩
          refine ⟨_, rfl, _, _, rfl, rfl, .inl ⟨by decide, by decide⟩, _, rfl, _, _, rfl, rfl, _, rfl, ite2 (fun c => ?_) (fun c => ?_)⟩
          · have c' : (S : Int) ≤ 2 * ((rs.getD i 0 : Nat) : Int) := of_decide_eq_true c
            refine ⟨_, rfl, ?_, s4, _, _, rfl⟩
            rw [figs_yes (by lia)]
          · have c' : ¬ (S : Int) ≤ 2 * ((rs.getD i 0 : Nat) : Int) := of_decide_eq_false (Bool.eq_false_iff.mpr c)
            refine ⟨?_, s4, _, _, rfl⟩
            rw [figs_no (by lia)]
      · have ei : i = rs.length := by lia
        subst ei
        refine .inl ⟨⟨_, SqL.of (s3 _ _ hrs), by rw [vnats_len]; exact Nat.le_refl _⟩, small (by rw [vnats_len]; lia), fun D fD => ⟨D, ?_, s3.trans (same_new fD _), upd_same⟩⟩
        rw [← ep]
        rfl
  rintro σ3 H3 ⟨D, rfl, s3, hD⟩
  have a3 := a2.same s3
  have hrs3 : H3 r = some (.tup (vnats rs)) ∨ H3 r = some (.lst (vnats rs)) := hrs.imp (fun y => s3 _ _ y) (fun y => s3 _ _ y)
  have g3 : Grow b H H3 := (g1.trans g2).trans (.same s3)
  have hev2 : pkF ws (bl.drop z) = if 2 * pl + x < (digs S rs).length then some ((digs S rs).getD (2 * pl + x) 0, u + 1) else pkR S (stepR S rs) (2 * pl + x - (digs S rs).length) (u + 1) (bl.drop (z + (u + 1))) := by
    rw [hev, drop_at hx]
    rfl
  refine ⟨_, rfl, _, rfl, D, _, rfl, .inl (SqL.of hD), _, _, rfl, rfl, _, rfl, ?_⟩
  rw [vnats_len]
  refine ite2 (fun c => ?_) (fun c => ?_)
  · have c' : ((2 * pl + x : Nat) : Int) < (((digs S rs).length : Nat) : Int) := of_decide_eq_true c
    have hlt : 2 * pl + x < (digs S rs).length := by lia
    rw [if_pos hlt] at hev2
    refine ⟨_, rfl, _, rfl, D, _, _, _, rfl, rfl, SqL.of hD, atI_nat (vnats_at hlt), q _ (u + 1) H3 ?_ g3 a3⟩
    unfold pkV
    rw [hev2]
    rfl
  have c' : ¬ ((2 * pl + x : Nat) : Int) < (((digs S rs).length : Nat) : Int) := of_decide_eq_false (Bool.eq_false_iff.mpr c)
  have hge : ¬ 2 * pl + x < (digs S rs).length := by lia
  rw [if_neg hge] at hev2
  refine ⟨_, rfl, _, rfl, D, _, rfl, .inl (SqL.of hD), _, _, rfl, rfl, ?_⟩
  rw [vnats_len]
  have es : ((2 * pl + x : Nat) : Int) - (((digs S rs).length : Nat) : Int) = ((2 * pl + x - (digs S rs).length : Nat) : Int) := by rw [Int.ofNat_sub (by lia)]
  -- rests
  refine ⟨fun σ' H' => ∃ D2 : Addr, σ' = [some (.ref b), some (.ref wr), some (.int (S : Int)), some (.ref D2), some (.int ((2 * pl + x - (digs S rs).length : Nat) : Int)), some (.ref D)] ∧ Same H3 H' ∧ H' D2 = some (.lst (vnats (stepR S rs))), ?_, ?_⟩
  rotate_left
  · rcases hrs3 with hrs | hrs
    · refine .inl ⟨_, rfl, r, rfl, ⟨_, SqT.of hrs⟩, ?_⟩
      refine ⟨fun i mm acc σ' H' => mm = rs.length - i ∧ i ≤ rs.length ∧ acc = vnats (stepR S (rs.take i)) ∧ H' = H3 ∧ ∃ o6 : Option V, σ' = [some (.ref b), some (.ref wr), some (.int (S : Int)), some (.ref r), some (.int (((2 * pl + x : Nat) : Int) - (((digs S rs).length : Nat) : Int))), some (.ref D), o6], ⟨rs.length, rfl, Nat.zero_le _, rfl, rfl, _, rfl⟩, ?_⟩
      rintro i mm acc σ' H4 ⟨rfl, hi, rfl, rfl, o6, rfl⟩
      have hsl : (stepR S (rs.take i)).length ≤ 1000 := by rw [step_len, List.length_take]; lia
      by_cases hlt : i < rs.length
      · refine .inr ⟨⟨_, _, SqT.of hrs, vnats_at hlt⟩, smallL (by rw [vnats_len]; lia), fun acc' σ2 H5 => acc' = vnats (stepR S (rs.take (i + 1))) ∧ H5 = H4 ∧ ∃ o6 : Option V, σ2 = [some (.ref b), some (.ref wr), some (.int (S : Int)), some (.ref r), some (.int (((2 * pl + x : Nat) : Int) - (((digs S rs).length : Nat) : Int))), some (.ref D), o6], ?_, ?_⟩
        · rintro acc' σ2 H5 ⟨rfl, rfl, o6', rfl⟩
          exact ⟨rs.length - (i + 1), by lia, rfl, hlt, rfl, rfl, _, rfl⟩
        · rintro v H5 ⟨rfl, ex⟩
          have ex' := ex _ (SqT.of hrs)
          rw [vnats_at hlt] at ex'
          obtain rfl := Option.some.inj ex'
          refine ⟨_, rfl, _, _, rfl, rfl, .inl ⟨by decide, by decide⟩, _, rfl, _, _, rfl, rfl, (by show (0 : Int) < (S : Int); lia), ?_, rfl, _, rfl⟩
          rw [step_more hlt]
          rfl
      · have ei : i = rs.length := by lia
        subst ei
        refine .inl ⟨⟨_, SqT.of hrs, by rw [vnats_len]; exact Nat.le_refl _⟩, small (by rw [vnats_len]; lia), fun D2 fD => ⟨D2, ?_, same_new fD _, ?_⟩⟩
        · rw [← es]
          rfl
        · rw [upd_same, List.take_length]
    · refine .inr ⟨_, rfl, r, rfl, ⟨_, SqL.of hrs⟩, ?_⟩
      refine ⟨fun i mm acc σ' H' => mm = rs.length - i ∧ i ≤ rs.length ∧ acc = vnats (stepR S (rs.take i)) ∧ H' = H3 ∧ ∃ o6 : Option V, σ' = [some (.ref b), some (.ref wr), some (.int (S : Int)), some (.ref r), some (.int (((2 * pl + x : Nat) : Int) - (((digs S rs).length : Nat) : Int))), some (.ref D), o6], ⟨rs.length, rfl, Nat.zero_le _, rfl, rfl, _, rfl⟩, ?_⟩
      rintro i mm acc σ' H4 ⟨rfl, hi, rfl, rfl, o6, rfl⟩
      have hsl : (stepR S (rs.take i)).length ≤ 1000 := by rw [step_len, List.length_take]; lia
      by_cases hlt : i < rs.length
      · refine .inr ⟨⟨_, _, SqL.of hrs, vnats_at hlt⟩, smallL (by rw [vnats_len]; lia), fun acc' σ2 H5 => acc' = vnats (stepR S (rs.take (i + 1))) ∧ H5 = H4 ∧ ∃ o6 : Option V, σ2 = [some (.ref b), some (.ref wr), some (.int (S : Int)), some (.ref r), some (.int (((2 * pl + x : Nat) : Int) - (((digs S rs).length : Nat) : Int))), some (.ref D), o6], ?_, ?_⟩
        · rintro acc' σ2 H5 ⟨rfl, rfl, o6', rfl⟩
          exact ⟨rs.length - (i + 1), by lia, rfl, hlt, rfl, rfl, _, rfl⟩
        · rintro v H5 ⟨rfl, ex⟩
          have ex' := ex _ (SqL.of hrs)
          rw [vnats_at hlt] at ex'
          obtain rfl := Option.some.inj ex'
          refine ⟨_, rfl, _, _, rfl, rfl, .inl ⟨by decide, by decide⟩, _, rfl, _, _, rfl, rfl, (by show (0 : Int) < (S : Int); lia), ?_, rfl, _, rfl⟩
          rw [step_more hlt]
          rfl
      · have ei : i = rs.length := by lia
        subst ei
        refine .inl ⟨⟨_, SqL.of hrs, by rw [vnats_len]; exact Nat.le_refl _⟩, small (by rw [vnats_len]; lia), fun D2 fD => ⟨D2, ?_, same_new fD _, ?_⟩⟩
        · rw [← es]
          rfl
        · rw [upd_same, List.take_length]
  rintro σ4 H4 ⟨D2, rfl, s4, hD2⟩
  exact ⟨bl.length - (z + (u + 1)), by lia, stepR S rs, 2 * pl + x - (digs S rs).length, u + 1, D2, some (.ref D), rfl, rfl, g3.trans (.same s4), a3.same s4, .inr hD2, by rw [step_len]; exact hrl, hev2⟩
theorem ok_pick (F_pick : Fun K "pick" "pick" s_pick f fd) (B : Bl mg) {fD fR : Addr} {dD dR : FuncData} (g_drawn_whole : FnX P w K mg base "drawn_whole" fD dD p_drawn_whole 5 (spDW P w K mg base 4 C CN)) (g_take_pick : FnX P w K mg base "take_pick" fR dR p_take_pick 3 (spRaw C CN ShX pkV)) :
    FnOk P w K mg base (CXR P w) 6 f fd p_pick (spDone C CN ShW pkV) := by
  refine F_pick.okX sc_pick (fun vs H Q E h => ?_) (fun cdv A outer s H vs Q E hr h => ?_)
  · obtain ⟨b, dx, r, bl, z, x, a, rfl, _⟩ := h
    rfl
  obtain ⟨b, dx, r, bl, z, x, ws, rfl, hA, hSh, q, e⟩ := h
  obtain ⟨wr, rfl, hW, hT, hT2, hwl⟩ := id hSh
  have hsq : ∀ {H'}, H' wr = some (.tup (vnats ws)) → SqT K H' wr ((ws.map (fun (n : Nat) => (n : Int))).map V.int) := fun {H'} y => SqT.of (by rw [← vnats_ints]; exact y)
  refine ⟨_, (pss_cons (ps_set (i := 2) sc_pick.nd rfl (Or.inl rfl) (pe_callB (call_sumT rfl) rfl B.sum_ L3.bt_sum (pa_cons (pv 1) pa_nil)))
      (pss_cons (ps_if (pt_cmpR op_in_seq (pv 2) (pv 1) rfl) (pss_one (ps_ret (pe_bmT PySem.F.plainAttrs_tuple PySem.F.slot_tuple_index PySem.F.type_tuple_index mt_tindex (pv 1) (pa_cons (pv 2) pa_nil)))) pss_nil)
      (pss_one (ps_ret (pe_fnX g_drawn_whole hr (pa_cons (pv 0) (pa_cons (pe_glob (v := .ref _) rfl g_take_pick.mg rfl) (pa_cons (pv 1) pa_nil)))))))), ?_⟩
  refine ⟨_, rfl, wr, ws.map (fun (n : Nat) => (n : Int)), rfl, hsq hW, ?_⟩
  rw [sum_nats]
  refine ⟨_, rfl, _, rfl, wr, vnats ws, rfl, .inr (SqT.of hW), rfl, vnats_flat ws, _, rfl, ?_⟩
  rw [vnats_in]
  refine ite2 (fun c => ?_) (fun c => ?_)
  · have c' : ws.sum ∈ ws := of_decide_eq_true c
    obtain ⟨i1, i2⟩ := idx_at c'
    refine ⟨_, rfl, ⟨wr, _, rfl, hW⟩, _, rfl, wr, _, _, ws.idxOf ws.sum, rfl, rfl, hsq hW, i1, i2, q _ 0 H ?_ (Grow.refl _ _) hA⟩
    unfold pkV pkF
    rw [if_pos c']
    rfl
  · have c' : ¬ ws.sum ∈ ws := of_decide_eq_false (Bool.eq_false_iff.mpr c)
    exact ⟨_, rfl, _, rfl, dw_of g_take_pick (by decide) hA ⟨hSh, c'⟩ q e⟩
end
theorem vnats_app (a b : List Nat) : vnats (a ++ b) = vnats a ++ vnats b := List.map_append
theorem twn_tup {H : Hp} {t b : Addr} {k : Nat} {xs : List V} (h : Twn H t k) (hb : H b = some (.tup xs)) : b ≠ t := fun e => by
  unfold Twn at h
  rw [e, h] at hb
  cases hb
theorem dbits_nat (ns : List Int) (k n : Nat) : ∃ bl : List Nat, (dbits ns k n).map V.int = vbits bl ∧ bl.length = n ∧ ∀ x ∈ bl, x < 2 := by
  refine ⟨(dbits ns k n).map Int.toNat, ?_, by rw [List.length_map, dbits_length], fun x hx => ?_⟩
  · rw [vbits, List.map_map]
    refine List.map_congr_left fun i hi => ?_
    obtain ⟨j, _, rfl⟩ := List.mem_map.mp hi
    have := drw_nn ns (k + j + 1) (show (0 : Int) < 2 by decide)
    show V.int _ = V.int ((Int.toNat _ : Nat) : Int)
    rw [Int.toNat_of_nonneg this]
  · obtain ⟨i, hi, rfl⟩ := List.mem_map.mp hx
    obtain ⟨j, _, rfl⟩ := List.mem_map.mp hi
    have a := drw_nn ns (k + j + 1) (show (0 : Int) < 2 by decide)
    have b := drw_lt ns (k + j + 1) (show (0 : Int) < 2 by decide)
    lia
theorem twn_new {H : Hp} {t p : Addr} {k : Nat} (h : Twn H t k) (hp : H p = none) : p ≠ t := fun y => by
  unfold Twn at h
  rw [← y, hp] at h
  cases h
theorem vnats_set (l : List Nat) (j x : Nat) : (vnats l).set j (V.int (x : Int)) = vnats (l.set j x) := by rw [vnats, vnats, List.map_set]
theorem ixN_nat {n j : Nat} (h : j < n) : ixN n (j : Int) = some j := by
  unfold ixN
  rw [if_pos (by lia), if_pos (by lia)]
  simp
noncomputable def frU (u l : Nat) : Nat := u / Nat.gcd u l
noncomputable def frL (u l : Nat) : Nat := l / Nat.gcd u l
noncomputable def frV (u l : Nat) : List V := [.int (frU u l : Int), .int (frL u l : Int)]
theorem gcd_pos {u l : Nat} (h : 0 < l) : 0 < Nat.gcd u l := Nat.gcd_pos_of_pos_right _ h
theorem gcd_le {u l : Nat} (h : 0 < l) : Nat.gcd u l ≤ l := Nat.le_of_dvd h (Nat.gcd_dvd_right _ _)
theorem frL_pos {u l : Nat} (h : 0 < l) : 0 < frL u l := Nat.div_pos (gcd_le h) (gcd_pos h)
theorem fr_cop {u l : Nat} (h : 0 < l) : Nat.Coprime (frU u l) (frL u l) := Nat.coprime_div_gcd_div_gcd (gcd_pos h)
theorem frU_mul (u l : Nat) : frU u l * Nat.gcd u l = u := Nat.div_mul_cancel (Nat.gcd_dvd_left _ _)
theorem frL_mul (u l : Nat) : frL u l * Nat.gcd u l = l := Nat.div_mul_cancel (Nat.gcd_dvd_right _ _)
theorem fr_uniq {a b c d : Nat} (h1 : Nat.Coprime a b) (h2 : Nat.Coprime c d) (hb : 0 < b) (e : a * d = c * b) : a = c ∧ b = d := by
  have d1 : b ∣ d := h1.symm.dvd_of_dvd_mul_left (by rw [e]; exact Nat.dvd_mul_left _ _)
  have d2 : d ∣ b := h2.symm.dvd_of_dvd_mul_left (by rw [← e]; exact Nat.dvd_mul_left _ _)
  have ed := Nat.dvd_antisymm d1 d2
  subst ed
  exact ⟨Nat.eq_of_mul_eq_mul_right hb e, rfl⟩
theorem fr_eq {a b c d : Nat} (hb : 0 < b) (hd : 0 < d) (e : a * d = c * b) : frU a b = frU c d ∧ frL a b = frL c d := by
  refine fr_uniq (fr_cop hb) (fr_cop hd) (frL_pos hb) ?_
  have g1 := gcd_pos (u := a) hb
  have g2 := gcd_pos (u := c) hd
  refine Nat.eq_of_mul_eq_mul_right (Nat.mul_pos g1 g2) ?_
  calc frU a b * frL c d * (Nat.gcd a b * Nat.gcd c d) = (frU a b * Nat.gcd a b) * (frL c d * Nat.gcd c d) := by
        rw [Nat.mul_assoc, Nat.mul_assoc, Nat.mul_left_comm (frL c d)]
    _ = a * d := by rw [frU_mul, frL_mul]
    _ = c * b := e
    _ = (frU c d * Nat.gcd c d) * (frL a b * Nat.gcd a b) := by rw [frU_mul, frL_mul]
    _ = frU c d * frL a b * (Nat.gcd a b * Nat.gcd c d) := by
        rw [Nat.mul_assoc, Nat.mul_assoc, Nat.mul_left_comm (Nat.gcd c d), Nat.mul_comm (Nat.gcd c d)]
theorem frV_eq {a b c d : Nat} (hb : 0 < b) (hd : 0 < d) (e : a * d = c * b) : frV a b = frV c d := by
  obtain ⟨h1, h2⟩ := fr_eq hb hd e
  unfold frV
  rw [h1, h2]
theorem fit_gcd {u l : Nat} (h : 0 < l) (f : Fit l) : Fit ((Nat.gcd u l : Nat) : Int).natAbs := by
  rw [Int.natAbs_natCast]
  exact f.le (gcd_le h)
inductive spCD (vs : List V) (H : Hp) (Q : VK) (E : XK) : Prop
  | mk (u l : Nat) (f1 : vs = [.int (u : Int), .int (l : Int)]) (f2 : Q (.int ((Nat.gcd u l : Nat) : Int)) H) : spCD  vs H Q E
inductive spFrac (vs : List V) (H : Hp) (Q : VK) (E : XK) : Prop
  | mk (u l : Nat) (f1 : vs = [.int (u : Int), .int (l : Int)]) (f2 : 0 < l) (f3 : Fit l) (f4 : ∀ p H', Same H H' → H' p = some (.tup (frV u l)) → Q (.ref p) H') : spFrac  vs H Q E
section
variable {P : Program} {w : World} {K : PySem.W.Frag} {mg : Str → Option Value} {base : Heap} {f : Addr} {fd : FuncData}
theorem ok_common_divisor (F_common_divisor : Fun K "common_divisor" "common_divisor" s_common_divisor f fd) (B : Bl mg) : FnOk P w K mg base CX0 1 f fd p_common_divisor spCD := by
  refine F_common_divisor.ok sc_common_divisor (fun vs H Q E h => ?_) (fun cdv A outer s H vs Q E hr h => ?_)
  · obtain ⟨u, l, rfl, _⟩ := h
    rfl
  obtain ⟨u, l, rfl, q⟩ := h
  refine ⟨_, (pss_cons (ps_set (i := 2) sc_common_divisor.nd rfl (Or.inl rfl) (pe_callB call_abs rfl B.abs_ L3.bt_abs (pa_cons (pv 0) pa_nil)))
      (pss_cons (ps_set (i := 3) sc_common_divisor.nd rfl (Or.inl rfl) (pe_callB call_abs rfl B.abs_ L3.bt_abs (pa_cons (pv 1) pa_nil)))
      (pss_cons (ps_while PassesOwn.never (pt_cmpR op_gt (pv 3) pe_int (nomark _)) (pss_cons (ps_set (i := 4) sc_common_divisor.nd rfl (Or.inl rfl) (pe_op op_mod (pv 2) (pv 3)))
      (pss_cons (ps_set (i := 2) sc_common_divisor.nd rfl (Or.inl rfl) (pv 3))
      (pss_one (ps_set (i := 3) sc_common_divisor.nd rfl (Or.inl rfl) (pv 4))))))
      (pss_one (ps_ret (pv 2)))))), ?_⟩
  refine ⟨_, rfl, _, rfl, ?_⟩
  rw [if_neg (by lia)]
  refine ⟨_, rfl, _, rfl, ?_⟩
  rw [if_neg (by lia)]
  refine ⟨fun m σ' H' => ∃ (g : Nat) (o4 : Option V), σ' = [some (.int (u : Int)), some (.int (l : Int)), some (.int (g : Int)), some (.int (m : Int)), o4] ∧ H' = H ∧ Nat.gcd g m = Nat.gcd u l, ⟨l, u, _, rfl, rfl, rfl⟩, ?_⟩
  rintro m σ' H' ⟨g, o4, rfl, rfl, hg⟩
  refine ⟨_, rfl, _, _, rfl, rfl, _, rfl, ite2 (fun c => ?_) (fun c => ?_)⟩
  · have c' : (0 : Int) < (m : Int) := of_decide_eq_true c
    refine ⟨fun σ' H'' => ∃ o4 : Option V, σ' = [some (.int (u : Int)), some (.int (l : Int)), some (.int (m : Int)), some (.int ((g % m : Nat) : Int)), o4] ∧ H'' = H', fun σ' H'' ⟨o, e1, e2⟩ => ⟨g % m, Nat.mod_lt _ (by lia), m, o, e1, e2, ?_⟩, ?_⟩
    · rw [← hg, Nat.gcd_comm m, ← Nat.gcd_rec, Nat.gcd_comm]
    refine ⟨_, rfl, _, rfl, _, _, rfl, rfl, c', ?_⟩
    refine ⟨_, rfl, _, rfl, some (.int ((g % m : Nat) : Int)), ?_, rfl⟩
    rw [Int.natCast_emod]
    rfl
  · have c' : ¬ (0 : Int) < (m : Int) := of_decide_eq_false (Bool.eq_false_iff.mpr c)
    have : m = 0 := by lia
    subst this
    refine ⟨_, rfl, ?_⟩
    rw [Nat.gcd_zero_right] at hg
    rw [← hg] at q
    exact q
theorem ok_fraction (F_fraction : Fun K "fraction" "fraction" s_fraction f fd) (g_common_divisor : Fn P w K mg base "common_divisor" p_common_divisor 1 spCD) : FnOk P w K mg base CX0 2 f fd p_fraction spFrac := by
  refine F_fraction.ok sc_fraction (fun vs H Q E h => ?_) (fun cdv A outer s H vs Q E hr h => ?_)
  · obtain ⟨u, l, rfl, _⟩ := h
    rfl
  obtain ⟨u, l, rfl, hl, hf, q⟩ := h
  refine ⟨_, (pss_cons (ps_if (pt_cmpR op_eq (pv 1) pe_int (nomark _)) (pss_one ps_never) pss_nil)
      (pss_cons (ps_set (i := 2) sc_fraction.nd rfl (Or.inl rfl) (pe_fn g_common_divisor hr (pa_cons (pv 0) (pa_cons (pv 1) pa_nil))))
      (pss_cons (ps_join (ps_if (pt_cmpR op_lt (pv 1) pe_int (nomark _)) (pss_one (ps_set (i := 2) sc_fraction.nd rfl (Or.inl rfl) (pe_un un_neg (pv 2)))) pss_nil))
      (pss_one (ps_ret (pe_tup (pa_cons (pe_op op_fdivB (pv 0) (pv 2)) (pa_cons (pe_op op_fdivB (pv 1) (pv 2)) pa_nil)))))))), ?_⟩
  have hg := gcd_pos (u := u) hl
  refine ⟨_, rfl, rfl, _, rfl, ?_⟩
  rw [show decide (V.int (l : Int) = V.int 0) = false from decide_eq_false (fun z => by injection z with z; lia)]
  refine iteF ⟨_, rfl, _, rfl, u, l, rfl, ?_⟩
  refine ⟨fun σ' H' => σ' = [some (.int (u : Int)), some (.int (l : Int)), some (.int ((Nat.gcd u l : Nat) : Int))] ∧ H' = H, ?_, ?_⟩
  · rintro σ' H' ⟨rfl, rfl⟩
    refine ⟨_, rfl, _, rfl, _, _, rfl, rfl, ⟨by lia, fit_gcd hl hf⟩, _, rfl, _, rfl, _, _, rfl, rfl, ⟨by lia, fit_gcd hl hf⟩, (by show 2 ≤ sizeLine; decide), fun p fp => ?_⟩
    refine q p _ (same_new fp _) ?_
    rw [upd_same]
    show some (HO.tup [V.int ((u : Int) / ((Nat.gcd u l : Nat) : Int)), V.int ((l : Int) / ((Nat.gcd u l : Nat) : Int))]) = _
    rw [← Int.natCast_ediv, ← Int.natCast_ediv]
    rfl
  · refine ⟨_, rfl, _, _, rfl, rfl, _, rfl, ?_⟩
    rw [decide_eq_false (by lia)]
    exact iteF ⟨rfl, rfl⟩
theorem ok__law_frac (F__law_frac : Fun K "_law_frac" "_law_frac" s__law_frac f fd) (B : Bl mg) : FnOk P w K mg base CX0 1 f fd p__law_frac spFrac := by
  refine F__law_frac.ok sc__law_frac (fun vs H Q E h => ?_) (fun cdv A outer s H vs Q E hr h => ?_)
  · obtain ⟨u, l, rfl, _⟩ := h
    rfl
  obtain ⟨u, l, rfl, hl, hf, q⟩ := h
  refine ⟨_, (pss_cons (ps_par (i := 2) (j := 3) rfl sc__law_frac.nd rfl rfl (by decide) rfl rfl (pa_cons (pv 0) (pa_cons (pv 1) pa_nil)) rfl)
      (pss_cons (ps_while PassesOwn.never (pt_cmpR op_ne (pv 3) pe_int (nomark _)) (pss_one (ps_par (i := 2) (j := 3) rfl sc__law_frac.nd rfl rfl (by decide) rfl rfl (pa_cons (pv 3) (pa_cons (pe_op op_mod (pv 2) (pv 3)) pa_nil)) rfl)))
      (pss_cons (ps_set (i := 2) sc__law_frac.nd rfl (Or.inl rfl) (pe_ifExp (pt_cmpR op_gt (pv 1) pe_int (nomark _)) (pe_callB call_abs rfl B.abs_ L3.bt_abs (pa_cons (pv 2) pa_nil)) (pe_un un_neg (pe_callB call_abs rfl B.abs_ L3.bt_abs (pa_cons (pv 2) pa_nil)))))
      (pss_one (ps_ret (pe_tup (pa_cons (pe_op op_fdivB (pv 0) (pv 2)) (pa_cons (pe_op op_fdivB (pv 1) (pv 2)) pa_nil)))))))), ?_⟩
  have hg := gcd_pos (u := u) hl
  refine ⟨_, rfl, _, rfl, _, _, rfl, ?_⟩
  refine ⟨fun m σ' H' => ∃ (g : Nat), σ' = [some (.int (u : Int)), some (.int (l : Int)), some (.int (g : Int)), some (.int (m : Int))] ∧ H' = H ∧ Nat.gcd g m = Nat.gcd u l, ⟨l, u, rfl, rfl, rfl⟩, ?_⟩
  rintro m σ' H' ⟨g, rfl, rfl, hgs⟩
  refine ⟨_, rfl, rfl, _, rfl, ?_⟩
  by_cases c : m = 0
  · subst c
    rw [show (!decide (V.int ((0 : Nat) : Int) = V.int 0)) = false from rfl]
    rw [Nat.gcd_zero_right] at hgs
    subst hgs
    refine iteF ⟨_, rfl, _, _, rfl, rfl, _, rfl, ?_⟩
    rw [decide_eq_true (by lia)]
    refine iteT ⟨_, rfl, _, rfl, ?_⟩
    rw [if_neg (by lia)]
    refine ⟨_, rfl, _, rfl, _, _, rfl, rfl, ⟨by lia, fit_gcd hl hf⟩, _, rfl, _, rfl, _, _, rfl, rfl, ⟨by lia, fit_gcd hl hf⟩, (by show 2 ≤ sizeLine; decide), fun p fp => ?_⟩
    refine q p _ (same_new fp _) ?_
    rw [upd_same]
    show some (HO.tup [V.int ((u : Int) / ((Nat.gcd u l : Nat) : Int)), V.int ((l : Int) / ((Nat.gcd u l : Nat) : Int))]) = _
    rw [← Int.natCast_ediv, ← Int.natCast_ediv]
    rfl
  · rw [show (!decide (V.int (m : Int) = V.int 0)) = true from by rw [decide_eq_false (fun z => by injection z with z; lia)]; rfl]
    refine iteT ⟨fun σ' H'' => σ' = [some (.int (u : Int)), some (.int (l : Int)), some (.int (m : Int)), some (.int ((g % m : Nat) : Int))] ∧ H'' = H', fun σ' H'' ⟨e1, e2⟩ => ⟨g % m, Nat.mod_lt _ (by lia), m, e1, e2, ?_⟩, ?_⟩
    · rw [← hgs, Nat.gcd_comm m, ← Nat.gcd_rec, Nat.gcd_comm]
    refine ⟨_, rfl, _, rfl, _, rfl, _, _, rfl, rfl, (by show (0 : Int) < (m : Int); lia), _, _, rfl, ?_, rfl⟩
    rw [Int.natCast_emod]
    rfl
end
theorem grow_none {t : Addr} {H H' : Hp} {c : Addr} (g : Grow t H H') (hc : c ≠ t) (h : H' c = none) : H c = none := by
  cases e : H c with
  | none => rfl
  | some o => have := g _ _ hc e; rw [h] at this; cases this
theorem le_sum : ∀ {l : List Nat} {w : Nat}, w ∈ l → w ≤ l.sum
  | a :: l, w, hw => by
    rw [List.sum_cons]
    rcases List.mem_cons.mp hw with rfl | hw
    · lia
    · have := le_sum hw
      lia
inductive spWts (K : PySem.W.Frag) (vs : List V) (H : Hp) (Q : VK) (E : XK) : Prop
  | mk (a t : Addr) (ns : List Int) (k : Nat) (f1 : vs = [.ref a, .ref t]) (f2 : Scr K H a ns) (f3 : ns.length ≤ 63) (f4 : Twn H t k) (f5 : k ≤ 700000) (f6 : ∀ p ws k' H', Grow t H H' → Twn H' t k' → k' ≤ k + 11 → H' p = some (.tup (vnats ws)) → 0 < ws.length → ws.length ≤ 7 → 0 < ws.sum → (∀ x ∈ ws, x ≤ 400) → Q (.ref p) H') : spWts K vs H Q E
section
variable {P : Program} {w : World} {K : PySem.W.Frag} {mg : Str → Option Value} {base : Heap} {f : Addr} {fd : FuncData}
theorem ok__law_weights (F__law_weights : Fun K "_law_weights" "_law_weights" s__law_weights f fd) (B : Bl mg) (g__law_draw : Fn P w K mg base "_law_draw" p__law_draw 1 (spDraw K)) (g__law_one : Fn P w K mg base "_law_one" p__law_one 2 (spOne K)) : FnOk P w K mg base CX0 3 f fd p__law_weights (spWts K) := by
  refine F__law_weights.ok sc__law_weights (fun vs H Q E h => ?_) (fun cdv A outer s H vs Q E hr h => ?_)
  · obtain ⟨a, t, ns, k, rfl, _⟩ := h
    rfl
  obtain ⟨a, t, ns, k, rfl, hS, h63, hT, hk, q⟩ := h
  refine ⟨_, (pss_cons (ps_set (i := 2) sc__law_weights.nd rfl (Or.inr rfl) (pe_fn g__law_one hr (PB.go (pb_cons (pv 0) (pb_cons (pv 1) (pb_cons (pe_lst (pa_cons pe_int (pa_cons pe_int (pa_cons pe_int (pa_cons pe_int pa_nil))))) pb_nil se_List) se_Name) se_Name))))
      (pss_cons (ps_comp 3 [] ["_law_script", "_law_town", "_law_top", "_law_weights_here", "_law_k"] 1 rfl sc__law_weights.nd rfl rfl (pi_range1 rfl B.range_ (pa_cons (pe_op op_add pe_int (pe_fn g__law_draw hr (pa_cons (pv 0) (pa_cons (pv 1) (pa_cons pe_int pa_nil))))) pa_nil)) (fun _ _ _ _ _ => (pg_name (i := 4) nd_5 rfl (Or.inl rfl) (Or.inr rfl))) (fun _ _ _ _ _ => pif_nil) (fun _ _ _ _ _ => (pe_fn g__law_draw hr (pa_cons (pv 0) (pa_cons (pv 1) (pa_cons (pv 2) pa_nil))))))
      (pss_cons (ps_join (ps_if (pt_cmpR op_eq (pe_callB (call_sumL rfl) rfl B.sum_ L3.bt_sum (pa_cons (pv 3) pa_nil)) pe_int (nomark _)) (pss_one (ps_asg (pe_op op_add pe_int (pe_fn g__law_draw hr (pa_cons (pv 0) (pa_cons (pv 1) (pa_cons pe_int pa_nil))))) (pg_sub (pv 3) (pe_fn g__law_draw hr (pa_cons (pv 0) (pa_cons (pv 1) (pa_cons (pe_callB call_len_seq rfl B.len_ L3.bt_len (pa_cons (pv 3) pa_nil)) pa_nil)))) set_list))) pss_nil))
      (pss_one (ps_ret (pe_callTy call_tuple_of rfl B.tuple_ L3.bt_tuple (pa_cons (pv 3) pa_nil))))))), ?_⟩
  refine ⟨_, rfl, _, rfl, (by show 4 ≤ sizeLine; decide), fun l fl => ?_⟩
  have yl := same_new fl (.lst [V.int 2, V.int 5, V.int 16, V.int 400])
  have wl : (upd H l (.lst [V.int 2, V.int 5, V.int 16, V.int 400])) l = some (.lst [V.int 2, V.int 5, V.int 16, V.int 400]) := upd_same
  generalize upd H l (.lst [V.int 2, V.int 5, V.int 16, V.int 400]) = G1 at yl wl ⊢
  have t1 := yl.twn hT
  have hS1 := yl.scr hS
  refine ⟨a, t, l, ns, k, _, rfl, hS1, h63, t1, by lia, wl, twn_new hT fl, (by show 0 < 4; decide), (by show 4 ≤ 1000; decide), fun jj v H3 _ hv g3 t3 => ?_⟩
  obtain ⟨m0, rfl, hm0, hm1⟩ : ∃ m0 : Int, v = .int m0 ∧ 0 < m0 ∧ m0 ≤ 400 := by
    match jj, hv with
    | 0, hv => exact ⟨2, (Option.some.inj hv).symm, by decide, by decide⟩
    | 1, hv => exact ⟨5, (Option.some.inj hv).symm, by decide, by decide⟩
    | 2, hv => exact ⟨16, (Option.some.inj hv).symm, by decide, by decide⟩
    | 3, hv => exact ⟨400, (Option.some.inj hv).symm, by decide, by decide⟩
  have hS3 := g3.scr t1 hS1
  have G03 : Grow t H H3 := (Grow.same yl).trans g3
  clear yl wl t1 hS1 g3
  refine ⟨_, rfl, _, rfl, a, t, ns, k + 1, 7, rfl, hS3, h63, t3, by lia, by decide, fun H4 g4 t4 => ⟨_, _, rfl, rfl, ?_⟩⟩
  have d0 := drw_nn ns (k + 1 + 1) (show (0 : Int) < 7 by decide)
  have d1 := drw_lt ns (k + 1 + 1) (show (0 : Int) < 7 by decide)
  generalize drw ns (k + 1 + 1) 7 = dd at d0 d1
  obtain ⟨d, rfl⟩ := nat_of d0
  have en : ((1 : Int) + (d : Int)) = ((1 + d : Nat) : Int) := by lia
  dsimp only
  rw [en]
  refine ⟨_, rfl, lo62 _, hi62 (by lia), ?_⟩
  rw [Int.toNat_natCast]
  have hS4 := g4.scr t3 hS3
  have G04 := G03.trans g4
  refine ⟨fun i2 mm acc σ' H' => mm = 1 + d - i2 ∧ i2 ≤ 1 + d ∧ Grow t H4 H' ∧ Scr K H' a ns ∧ Twn H' t (k + 1 + 1 + i2) ∧ (∃ ws : List Nat, acc = vnats ws ∧ ws.length = i2 ∧ ∀ x ∈ ws, x ≤ 400) ∧ ∃ o4 : Option V, σ' = [some (.ref a), some (.ref t), some (.int m0), none, o4],
    ⟨1 + d, rfl, Nat.zero_le _, Grow.refl _ _, hS4, t4, ⟨[], rfl, rfl, fun x hx => by cases hx⟩, _, rfl⟩, ?_⟩
  rintro i2 mm acc σ' H5 ⟨rfl, hi2, g5, hS5, t5, ⟨ws, rfl, hwl, hw4⟩, o4, rfl⟩
  by_cases hli : i2 < 1 + d
  · refine .inr ⟨hli, smallL (by rw [vnats_len]; lia), fun acc' σ2 H' => Grow t H4 H' ∧ Scr K H' a ns ∧ Twn H' t (k + 1 + 1 + (i2 + 1)) ∧ (∃ ws : List Nat, acc' = vnats ws ∧ ws.length = i2 + 1 ∧ ∀ x ∈ ws, x ≤ 400) ∧ ∃ o4 : Option V, σ2 = [some (.ref a), some (.ref t), some (.int m0), none, o4], ?_, ?_⟩
    · rintro acc' σ2 H' ⟨z1, z2, z3, z4, z5⟩
      exact ⟨1 + d - (i2 + 1), by lia, rfl, hli, z1, z2, z3, z4, z5⟩
    · rintro v H' ⟨rfl, rfl⟩
      refine ⟨_, rfl, _, rfl, _, rfl, a, t, ns, _, m0, rfl, hS5, h63, t5, by lia, hm0, fun H6 g6 t6 => ?_⟩
      have e0 := drw_nn ns (k + 1 + 1 + i2 + 1) hm0
      have e1 := drw_lt ns (k + 1 + 1 + i2 + 1) hm0
      generalize drw ns (k + 1 + 1 + i2 + 1) m0 = ee at e0 e1
      obtain ⟨e, rfl⟩ := nat_of e0
      refine ⟨g5.trans g6, g6.scr t5 hS5, t6, ⟨ws ++ [e], by rw [vnats_app]; rfl, by rw [List.length_append, hwl]; rfl, fun x hx => ?_⟩, _, rfl⟩
      rcases List.mem_append.mp hx with hx | hx
      · exact hw4 x hx
      · have : x = e := by simpa using hx
        lia
  have ei : i2 = 1 + d := by lia
  subst ei
  refine .inl ⟨Nat.le_refl _, small (by rw [vnats_len]; lia), fun D fD => ?_⟩
  have nD : D ≠ t := twn_new t5 fD
  have G05 := G04.trans g5
  have fD0 := grow_none G05 nD fD
  have yD := same_new fD (.lst (vnats ws))
  have wD : (upd H5 D (.lst (vnats ws))) D = some (.lst (vnats ws)) := upd_same
  generalize upd H5 D (.lst (vnats ws)) = H6 at yD wD ⊢
  have G06 := G05.trans (.same yD)
  have t6 := yD.twn t5
  have hS6 := yD.scr hS5
  clear hS hS3 hS4 hS5 t3 t4 t5 g4 g5 G03 G04 yD fD hT
  refine ⟨fun σ' H' => ∃ (ws : List Nat) (k' : Nat), σ' = [some (.ref a), some (.ref t), some (.int m0), some (.ref D)] ∧ Grow t H H' ∧ Twn H' t k' ∧ k' ≤ k + 11 ∧ H' D = some (.lst (vnats ws)) ∧ 0 < ws.length ∧ ws.length ≤ 7 ∧ 0 < ws.sum ∧ ∀ x ∈ ws, x ≤ 400, ?_, ?_⟩
  · rintro σ' H7 ⟨ws, k', rfl, g7, t7, hk7, hD7, h1, h2, h3, h4⟩
    exact ⟨_, rfl, D, _, rfl, .inl ⟨SqL.of hD7, fun t' ft => q t' ws k' _ (g7.trans (.same (same_new ft _))) ((same_new ft _).twn t7) hk7 upd_same h1 h2 h3 h4⟩⟩
  have hDi : SqL K H6 D ((ws.map fun (n : Nat) => (n : Int)).map V.int) := by rw [← vnats_ints]; exact SqL.of wD
  refine ⟨_, rfl, D, _, rfl, hDi, rfl, _, rfl, ?_⟩
  rw [sum_nats]
  by_cases c : ws.sum = 0
  · rw [show decide (V.int ((ws.sum : Nat) : Int) = V.int 0) = true from decide_eq_true (by rw [c]; rfl)]
    refine iteT ⟨_, rfl, _, rfl, a, t, ns, _, 5, rfl, hS6, h63, t6, by lia, by decide, fun H7 g7 t7 => ⟨_, _, rfl, rfl, ?_⟩⟩
    have e0 := drw_nn ns (k + 1 + 1 + (1 + d) + 1) (show (0 : Int) < 5 by decide)
    have e1 := drw_lt ns (k + 1 + 1 + (1 + d) + 1) (show (0 : Int) < 5 by decide)
    generalize drw ns (k + 1 + 1 + (1 + d) + 1) 5 = ee at e0 e1
    obtain ⟨e, rfl⟩ := nat_of e0
    have hD7 := g7 _ _ nD wD
    refine ⟨_, rfl, _, rfl, _, rfl, _, rfl, D, _, rfl, .inl (SqL.of hD7), a, t, ns, _, _, rfl, g7.scr t6 hS6, h63, t7, by lia, by rw [vnats_len]; lia, fun H8 g8 t8 => ?_⟩
    have hw0 : (0 : Int) < (((vnats ws).length : Nat) : Int) := by rw [vnats_len]; lia
    have j0 := drw_nn ns (k + 1 + 1 + (1 + d) + 1 + 1) hw0
    have j1 := drw_lt ns (k + 1 + 1 + (1 + d) + 1 + 1) hw0
    generalize drw ns (k + 1 + 1 + (1 + d) + 1 + 1) (((vnats ws).length : Nat) : Int) = jj at j0 j1
    obtain ⟨j, rfl⟩ := nat_of j0
    rw [vnats_len] at j1
    have hj : j < ws.length := by lia
    have hD8 := g8 _ _ nD hD7
    refine ⟨D, _, _, j, rfl, rfl, hD8, ixN_nat (by rw [vnats_len]; exact hj), ?_⟩
    have ev : ((1 : Int) + (e : Int)) = ((1 + e : Nat) : Int) := by lia
    dsimp only
    rw [ev, vnats_set]
    refine ⟨ws.set j (1 + e), k + 1 + 1 + (1 + d) + 1 + 1, rfl, fun c' o hc e' => ?_, ?_, by lia, upd_same, by rw [List.length_set]; lia, by rw [List.length_set]; lia, ?_, fun x hx => ?_⟩
    · rw [upd_ne (fun z => by rw [z, fD0] at e'; cases e')]
      exact ((G06.trans g7).trans g8) _ _ hc e'
    · show upd H8 D _ t = _
      rw [upd_ne (Ne.symm nD)]
      exact t8
    · have : 1 + e ∈ ws.set j (1 + e) := List.mem_set hj _
      have := le_sum this
      lia
    · rcases List.mem_or_eq_of_mem_set hx with y | y
      · exact hw4 x y
      · lia
  · rw [show decide (V.int ((ws.sum : Nat) : Int) = V.int 0) = false from decide_eq_false (fun z => c (by injection z with z; lia))]
    exact iteF ⟨ws, _, rfl, G06, t6, by lia, wD, by lia, by lia, by lia, hw4⟩
end
inductive Pn where
  | num (n : Nat)
  | again
  | ask (l r : Pn)
noncomputable def Pn.has : Pn → Bool
  | .num _ => true
  | .again => false
  | .ask l r => l.has || r.has
noncomputable def Pn.dp : Pn → Nat
  | .num _ => 0
  | .again => 0
  | .ask l r => max l.dp r.dp + 1
noncomputable def ends : Pn → Nat → List (Option Nat × Nat)
  | .num n, d => [(some n, d)]
  | .again, d => [(none, d)]
  | .ask l r, d => ends l (d + 1) ++ ends r (d + 1)
noncomputable def stl (root : Pn) : Pn → Pn
  | .again => root
  | c => c
noncomputable def wk (root : Pn) : Pn → List Nat → Option (Nat × Nat)
  | cur, [] => match stl root cur with
    | .num n => some (n, 0)
    | _ => none
  | cur, b :: bs => match stl root cur with
    | .num n => some (n, 0)
    | .again => none
    | .ask l r => (wk root (if b = 0 then l else r) bs).map fun x => (x.1, x.2 + 1)
theorem has_ends : ∀ (p : Pn) (d : Nat), (ends p d).any (fun e => e.1.isSome) = p.has
  | .num _, _ => rfl
  | .again, _ => rfl
  | .ask l r, d => by rw [ends, List.any_append, has_ends l, has_ends r, Pn.has]
theorem ends_deep : ∀ (p : Pn) (d : Nat), ∀ e ∈ ends p d, d ≤ e.2 ∧ e.2 ≤ d + p.dp
  | .num m, d, e, h => by
    have : e = (some m, d) := by simpa [ends] using h
    rw [this]; exact ⟨Nat.le_refl _, Nat.le_add_right _ _⟩
  | .again, d, e, h => by
    have : e = (none, d) := by simpa [ends] using h
    rw [this]; exact ⟨Nat.le_refl _, Nat.le_add_right _ _⟩
  | .ask l r, d, e, h => by
    rw [Pn.dp]
    rcases List.mem_append.mp h with h | h
    · have := ends_deep l (d + 1) e h
      lia
    · have := ends_deep r (d + 1) e h
      lia
theorem ends_len : ∀ (p : Pn) (d : Nat), (ends p d).length ≤ 2 ^ p.dp
  | .num _, _ => Nat.le_refl _
  | .again, _ => Nat.le_refl _
  | .ask l r, d => by
    rw [ends, List.length_append, Pn.dp, Nat.pow_succ]
    have h1 := ends_len l (d + 1)
    have h2 := ends_len r (d + 1)
    have h3 : 2 ^ l.dp ≤ 2 ^ max l.dp r.dp := Nat.pow_le_pow_right (by decide) (Nat.le_max_left _ _)
    have h4 : 2 ^ r.dp ≤ 2 ^ max l.dp r.dp := Nat.pow_le_pow_right (by decide) (Nat.le_max_right _ _)
    lia
theorem has_root {p : Pn} (h : p.has = true) : p ≠ .again := fun e => by rw [e] at h; cases h
noncomputable def leafP (o : Option Nat) : Pn := o.elim .again .num
noncomputable def figO (es : List (Option Nat × Nat)) (p : Nat) : List (Option Nat) := (es.filter fun e => decide (e.2 / 2 ^ p % 2 = 1)).map (·.1)
noncomputable def asks : List Pn → List Pn
  | a :: b :: l => .ask a b :: asks l
  | _ => []
noncomputable def parts (es : List (Option Nat × Nat)) : Nat → List Pn
  | 0 => []
  | k + 1 => (figO es k).map leafP ++ asks (parts es k)
theorem asks_len : ∀ l : List Pn, (asks l).length = l.length / 2
  | [] => rfl
  | [_] => by simp [asks]
  | a :: b :: l => by rw [asks, List.length_cons, List.length_cons, List.length_cons, asks_len l]; lia
theorem asks_get : ∀ (l : List Pn) (i : Nat) (a b : Pn), l[2 * i]? = some a → l[2 * i + 1]? = some b → (asks l)[i]? = some (.ask a b)
  | [], i, a, b, h, _ => by simp at h
  | [_], i, a, b, _, h => by simp at h
  | x :: y :: l, 0, a, b, h, h' => by
    simp at h h'
    rw [asks, h, h']; rfl
  | x :: y :: l, i + 1, a, b, h, h' => by
    rw [asks, List.getElem?_cons_succ]
    refine asks_get l i a b ?_ ?_
    · rw [show 2 * (i + 1) = 2 * i + 1 + 1 by lia, List.getElem?_cons_succ, List.getElem?_cons_succ] at h; exact h
    · rw [show 2 * (i + 1) + 1 = 2 * i + 1 + 1 + 1 by lia, List.getElem?_cons_succ, List.getElem?_cons_succ] at h'; exact h'
noncomputable def asksTo (l : List Pn) (i : Nat) : List Pn := asks (l.take (2 * i))
theorem asks_app : ∀ (l m : List Pn), l.length % 2 = 0 → asks (l ++ m) = asks l ++ asks m
  | [], m, _ => rfl
  | [_], m, h => by simp at h
  | a :: b :: l, m, h => by
    have : l.length % 2 = 0 := by simp at h; lia
    show Pn.ask a b :: asks (l ++ m) = Pn.ask a b :: (asks l ++ asks m)
    rw [asks_app l m this]
theorem asksTo_succ {l : List Pn} {i : Nat} {a b : Pn} (h : l[2 * i]? = some a) (h' : l[2 * i + 1]? = some b) : asksTo l (i + 1) = asksTo l i ++ [.ask a b] := by
  have hl : 2 * i + 1 < l.length := (List.getElem?_eq_some_iff.mp h').1
  unfold asksTo
  rw [show 2 * (i + 1) = 2 * i + 1 + 1 by lia, List.take_add_one, List.take_add_one, h, h', List.append_assoc, asks_app _ _ (by rw [List.length_take]; lia)]
  rfl
theorem asksTo_all {l : List Pn} (h : l.length % 2 = 0) : asksTo l (l.length / 2) = asks l := by
  unfold asksTo
  rw [List.take_of_length_le (by lia)]
noncomputable def low (es : List (Option Nat × Nat)) (k : Nat) : Nat := (es.map fun e => e.2 % 2 ^ k).sum
noncomputable def tot (es : List (Option Nat × Nat)) : Nat := (es.map fun e => e.2).sum
theorem low_zero (es : List (Option Nat × Nat)) : low es 0 = 0 := by
  induction es with
  | nil => rfl
  | cons e l ih => unfold low at ih ⊢; rw [List.map_cons, List.sum_cons, ih, Nat.pow_zero, Nat.mod_one]
theorem mod_two_pow (x k : Nat) : x % 2 ^ (k + 1) = x % 2 ^ k + 2 ^ k * (x / 2 ^ k % 2) := by
  rw [Nat.pow_succ, Nat.mod_mul]
theorem low_succ (es : List (Option Nat × Nat)) (k : Nat) : low es (k + 1) = low es k + 2 ^ k * (figO es k).length := by
  induction es with
  | nil => rfl
  | cons e l ih =>
    unfold low figO at ih ⊢
    rw [List.map_cons, List.sum_cons, List.map_cons, List.sum_cons, ih, mod_two_pow, List.filter_cons]
    have h2 : e.2 / 2 ^ k % 2 = 0 ∨ e.2 / 2 ^ k % 2 = 1 := by lia
    rcases h2 with h | h
    · rw [h, if_neg (by simp), Nat.mul_zero]; lia
    · rw [h, if_pos (by simp), List.map_cons, List.length_cons, Nat.mul_one, Nat.mul_succ]; lia
theorem low_mod (es : List (Option Nat × Nat)) (k : Nat) : ∃ m, tot es = low es k + 2 ^ k * m := by
  induction es with
  | nil => exact ⟨0, rfl⟩
  | cons e l ih =>
    obtain ⟨m, hm⟩ := ih
    refine ⟨e.2 / 2 ^ k + m, ?_⟩
    unfold tot low at hm ⊢
    rw [List.map_cons, List.sum_cons, List.map_cons, List.sum_cons, hm]
    have := Nat.mod_add_div e.2 (2 ^ k)
    rw [Nat.mul_add]
    lia
theorem parts_len {es : List (Option Nat × Nat)} {D : Nat} (h : tot es = 2 ^ D) : ∀ k, k ≤ D + 1 → (parts es k).length * 2 ^ k = 2 * low es k ∧ (k ≤ D → (parts es k).length % 2 = 0)
  | 0, _ => by rw [low_zero]; exact ⟨rfl, fun _ => rfl⟩
  | k + 1, hk => by
    obtain ⟨h1, h2⟩ := parts_len h k (by lia)
    have h2 := h2 (by lia)
    have e1 : (parts es (k + 1)).length * 2 ^ (k + 1) = 2 * low es (k + 1) := by
      rw [parts, List.length_append, List.length_map, asks_len, low_succ, Nat.pow_succ]
      have : (parts es k).length = 2 * ((parts es k).length / 2) := by lia
      generalize (parts es k).length / 2 = q at this ⊢
      rw [this] at h1
      generalize (figO es k).length = f
      generalize low es k = lw at h1 ⊢
      generalize 2 ^ k = p at h1 ⊢
      grind
    refine ⟨e1, fun hD => ?_⟩
    obtain ⟨m, hm⟩ := low_mod es (k + 1)
    rw [h] at hm
    have hp : 2 ^ D = 2 ^ (k + 1) * 2 ^ (D - (k + 1)) := by rw [← Nat.pow_add]; congr 1; lia
    rw [hp] at hm
    generalize (parts es (k + 1)).length = L at e1 ⊢
    generalize 2 ^ (D - (k + 1)) = c at hm
    have hpos := Nat.two_pow_pos (k + 1)
    generalize 2 ^ (k + 1) = p at e1 hm hpos
    generalize low es (k + 1) = lw at e1 hm
    have hc : m ≤ c := by
      apply Nat.le_of_mul_le_mul_left _ hpos
      lia
    obtain ⟨d, rfl⟩ : ∃ d, c = m + d := ⟨c - m, by lia⟩
    have : lw = p * d := by rw [Nat.mul_add] at hm; lia
    rw [this, Nat.mul_comm L, ← Nat.mul_assoc, Nat.mul_comm 2, Nat.mul_assoc] at e1
    have := Nat.eq_of_mul_eq_mul_left hpos e1
    lia
theorem le_tot {es : List (Option Nat × Nat)} {e : Option Nat × Nat} (h : e ∈ es) : e.2 ≤ tot es := by
  induction es with
  | nil => cases h
  | cons a l ih =>
    unfold tot at ih ⊢
    rw [List.map_cons, List.sum_cons]
    rcases List.mem_cons.mp h with rfl | h
    · lia
    · have := ih h; lia
theorem low_all {es : List (Option Nat × Nat)} {k : Nat} (h : ∀ e ∈ es, e.2 < 2 ^ k) : low es k = tot es := by
  unfold low tot
  congr 1
  exact List.map_congr_left fun e he => Nat.mod_eq_of_lt (h e he)
theorem lt_succ_pow {es : List (Option Nat × Nat)} {D : Nat} (h : tot es = 2 ^ D) : ∀ e ∈ es, e.2 < 2 ^ (D + 1) := fun e he => by
  have := le_tot he
  have h2 := Nat.two_pow_pos D
  rw [Nat.pow_succ]; lia
theorem parts_one {es : List (Option Nat × Nat)} {D : Nat} (h : tot es = 2 ^ D) : (parts es (D + 1)).length = 1 := by
  obtain ⟨h1, _⟩ := parts_len h (D + 1) (Nat.le_refl _)
  rw [low_all (lt_succ_pow h), h, Nat.pow_succ, Nat.mul_comm (2 ^ D) 2] at h1
  have hp := Nat.two_pow_pos D
  exact Nat.eq_of_mul_eq_mul_right (show 0 < 2 * 2 ^ D by lia) (by rw [h1, Nat.one_mul])
noncomputable def planP (es : List (Option Nat × Nat)) (D : Nat) : Pn := (parts es (D + 1)).headD .again
theorem plan_parts {es : List (Option Nat × Nat)} {D : Nat} (h : tot es = 2 ^ D) : parts es (D + 1) = [planP es D] := by
  have := parts_one h
  unfold planP
  cases e : parts es (D + 1) with
  | nil => rw [e] at this; cases this
  | cons a l =>
    rw [e] at this
    cases l with
    | nil => rfl
    | cons _ _ => simp at this
noncomputable def endsD (es : List (Option Nat × Nat)) : Nat → Nat → List (Option Nat × Nat)
  | 0, _ => []
  | k + 1, d => (figO es k).map (·, d) ++ endsD es k (d + 1)
theorem ends_leaf (o : Option Nat) (d : Nat) : ends (leafP o) d = [(o, d)] := by cases o <;> rfl
theorem ends_leafs (d : Nat) : ∀ l : List (Option Nat), (l.map leafP).flatMap (ends · d) = l.map (·, d)
  | [] => rfl
  | o :: l => by rw [List.map_cons, List.flatMap_cons, ends_leaf, ends_leafs d l]; rfl
theorem ends_asks (d : Nat) : ∀ l : List Pn, l.length % 2 = 0 → (asks l).flatMap (ends · d) = l.flatMap (ends · (d + 1))
  | [], _ => rfl
  | [_], h => by simp at h
  | a :: b :: l, h => by
    have : l.length % 2 = 0 := by simp at h; lia
    rw [asks, List.flatMap_cons, List.flatMap_cons, List.flatMap_cons, ends_asks d l this, ← List.append_assoc]
    rfl
theorem ends_parts {es : List (Option Nat × Nat)} {D : Nat} (h : tot es = 2 ^ D) : ∀ k d, k ≤ D + 1 → (parts es k).flatMap (ends · d) = endsD es k d
  | 0, _, _ => rfl
  | k + 1, d, hk => by
    rw [parts, List.flatMap_append, ends_leafs, ends_asks d _ ((parts_len h k (by lia)).2 (by lia)), ends_parts h k (d + 1) (by lia)]
    rfl
theorem ends_plan {es : List (Option Nat × Nat)} {D : Nat} (h : tot es = 2 ^ D) : ends (planP es D) 0 = endsD es (D + 1) 0 := by
  rw [← ends_parts h (D + 1) 0 (Nat.le_refl _), plan_parts h]
  show _ = ends _ 0 ++ []
  rw [List.append_nil]
theorem endsD_mem {es : List (Option Nat × Nat)} : ∀ {k d : Nat} {e : Option Nat × Nat}, e ∈ endsD es k d → d ≤ e.2 ∧ e.2 < d + k ∧ ∃ x ∈ es, x.1 = e.1 ∧ x.2 ≠ 0
  | 0, _, _, h => by cases h
  | k + 1, d, e, h => by
    rcases List.mem_append.mp h with h | h
    · obtain ⟨o, ho, rfl⟩ := List.mem_map.mp h
      refine ⟨Nat.le_refl _, by show d < d + (k + 1); lia, ?_⟩
      obtain ⟨x, hx, rfl⟩ := List.mem_map.mp ho
      refine ⟨x, (List.mem_filter.mp hx).1, rfl, fun z => ?_⟩
      have := of_decide_eq_true (List.mem_filter.mp hx).2
      rw [z, Nat.zero_div] at this
      lia
    · obtain ⟨h1, h2, h3⟩ := endsD_mem h
      exact ⟨by lia, by lia, h3⟩
theorem figO_nodup {es : List (Option Nat × Nat)} (h : (es.map (·.1)).Nodup) (k : Nat) : (figO es k).Nodup :=
  List.Nodup.sublist (List.Sublist.map _ List.filter_sublist) h
theorem endsD_nodup {es : List (Option Nat × Nat)} (h : (es.map (·.1)).Nodup) : ∀ k d, (endsD es k d).Nodup
  | 0, _ => List.nodup_nil
  | k + 1, d => by
    rw [endsD, List.nodup_append]
    refine ⟨?_, endsD_nodup h k (d + 1), fun a ha b hb e => ?_⟩
    · exact List.Pairwise.map _ (fun a b hab e => hab (by injection e)) (figO_nodup h k)
    · obtain ⟨o, _, rfl⟩ := List.mem_map.mp ha
      have := (endsD_mem hb).1
      rw [← e] at this
      have : d + 1 ≤ d := this
      lia
noncomputable def shP (P : Option Nat → Bool) (l : List (Option Nat × Nat)) (D : Nat) : Nat := (l.map fun e => if P e.1 then 2 ^ (D - e.2) else 0).sum
theorem shP_app (P : Option Nat → Bool) (l m : List (Option Nat × Nat)) (D : Nat) : shP P (l ++ m) D = shP P l D + shP P m D := by
  unfold shP
  rw [List.map_append, List.sum_append]
noncomputable def lowP (P : Option Nat → Bool) (es : List (Option Nat × Nat)) (k : Nat) : Nat := (es.map fun e => if P e.1 then e.2 % 2 ^ k else 0).sum
theorem shP_figs (P : Option Nat → Bool) (D d k : Nat) (hd : d + k = D) : ∀ es : List (Option Nat × Nat), shP P ((figO es k).map (·, d)) D + lowP P es k = lowP P es (k + 1)
  | [] => rfl
  | e :: l => by
    have ih := shP_figs P D d k hd l
    unfold shP figO lowP at ih ⊢
    rw [List.filter_cons, List.map_cons, List.sum_cons, List.map_cons, List.sum_cons, mod_two_pow]
    have h2 : e.2 / 2 ^ k % 2 = 0 ∨ e.2 / 2 ^ k % 2 = 1 := by lia
    rcases h2 with h | h
    · rw [h, if_neg (by simp), Nat.mul_zero]
      split <;> lia
    · rw [h, if_pos (by simp), List.map_cons, List.map_cons, List.map_cons, List.sum_cons, Nat.mul_one, show D - d = k by lia]
      dsimp only
      split <;> lia
theorem lowP_zero (P : Option Nat → Bool) : ∀ es : List (Option Nat × Nat), lowP P es 0 = 0
  | [] => rfl
  | e :: l => by
    have ih := lowP_zero P l
    unfold lowP at ih ⊢
    rw [List.map_cons, List.sum_cons, ih, Nat.pow_zero, Nat.mod_one]
    split <;> rfl
theorem shP_endsD (P : Option Nat → Bool) (es : List (Option Nat × Nat)) (D : Nat) : ∀ k d, d + k = D + 1 → shP P (endsD es k d) D = lowP P es k
  | 0, d, _ => by rw [lowP_zero]; rfl
  | k + 1, d, h => by
    rw [endsD, shP_app, shP_endsD P es D k (d + 1) (by lia), shP_figs P D d k (by lia) es]
theorem shP_deeper (P : Option Nat → Bool) {l : List (Option Nat × Nat)} {d D : Nat} (h : ∀ e ∈ l, e.2 ≤ d) (hd : d ≤ D) : shP P l D = shP P l d * 2 ^ (D - d) := by
  induction l with
  | nil => unfold shP; rw [List.map_nil, List.map_nil, List.sum_nil, Nat.zero_mul]
  | cons e l ih =>
    have ih := ih fun x hx => h x (List.mem_cons_of_mem _ hx)
    have he := h e List.mem_cons_self
    unfold shP at ih ⊢
    rw [List.map_cons, List.sum_cons, List.map_cons, List.sum_cons, ih, Nat.add_mul]
    congr 1
    split
    · rw [← Nat.pow_add]; congr 1; lia
    · rw [Nat.zero_mul]
theorem lowP_all (P : Option Nat → Bool) {es : List (Option Nat × Nat)} {k : Nat} (h : ∀ e ∈ es, e.2 < 2 ^ k) : lowP P es k = (es.map fun e => if P e.1 then e.2 else 0).sum := by
  unfold lowP
  congr 1
  exact List.map_congr_left fun e he => by rw [Nat.mod_eq_of_lt (h e he)]
noncomputable def numE (ws : List Nat) : List (Option Nat × Nat) := (List.range ws.length).map fun i => (some i, ws.getD i 0)
noncomputable def esW (ws : List Nat) (D : Nat) : List (Option Nat × Nat) := numE ws ++ [(none, 2 ^ D - ws.sum)]
theorem range_getD (ws : List Nat) : ((List.range ws.length).map fun i => ws.getD i 0) = ws := by
  apply List.ext_getElem
  · rw [List.length_map, List.length_range]
  · intro i h1 h2
    rw [List.getElem_map, List.getElem_range, List.getD_eq_getElem?_getD, List.getElem?_eq_getElem h2]
    rfl
theorem numE_sum (ws : List Nat) : ((numE ws).map fun e => e.2).sum = ws.sum := by
  unfold numE
  rw [List.map_map]
  exact congrArg List.sum (range_getD ws)
theorem esW_tot {ws : List Nat} {D : Nat} (h : ws.sum ≤ 2 ^ D) : tot (esW ws D) = 2 ^ D := by
  unfold tot esW
  rw [List.map_append, List.sum_append, numE_sum]
  show ws.sum + (2 ^ D - ws.sum + 0) = _
  lia
theorem esW_nodup (ws : List Nat) (D : Nat) : ((esW ws D).map (·.1)).Nodup := by
  unfold esW numE
  rw [List.map_append, List.map_map, List.nodup_append]
  refine ⟨List.Pairwise.map _ (fun a b hab e => hab (by injection e)) List.nodup_range, by simp, fun a ha b hb e => ?_⟩
  obtain ⟨i, _, rfl⟩ := List.mem_map.mp ha
  have : b = none := by simpa using hb
  rw [this] at e
  cases e
theorem sum_one (f : Nat → Nat) (n : Nat) : ∀ m, ((List.range m).map fun i => if some i == some n then f i else 0).sum = if n < m then f n else 0
  | 0 => by rw [if_neg (by lia)]; rfl
  | m + 1 => by
    rw [List.range_succ, List.map_append, List.sum_append, sum_one f n m]
    show _ + ((if some m == some n then f m else 0) + 0) = _
    by_cases c : m = n
    · subst c
      rw [if_neg (by lia), if_pos (by simp), if_pos (by lia)]; lia
    · rw [if_neg (show ¬ (some m == some n) = true by simpa using c)]
      by_cases d : n < m
      · rw [if_pos d, if_pos (by lia)]; lia
      · rw [if_neg d, if_neg (by lia)]
theorem esW_one {ws : List Nat} {D n : Nat} : ((esW ws D).map fun e => if e.1 == some n then e.2 else 0).sum = ws.getD n 0 := by
  unfold esW numE
  rw [List.map_append, List.sum_append, List.map_map]
  show ((List.range ws.length).map fun i => if some i == some n then ws.getD i 0 else 0).sum + 0 = _
  rw [sum_one, Nat.add_zero]
  by_cases c : n < ws.length
  · rw [if_pos c]
  · rw [if_neg c, List.getD_eq_getElem?_getD, List.getElem?_eq_none (by lia)]; rfl
theorem esW_some {ws : List Nat} {D : Nat} : ((esW ws D).map fun e => if e.1.isSome then e.2 else 0).sum = ws.sum := by
  unfold esW numE
  rw [List.map_append, List.sum_append, List.map_map]
  show ((List.range ws.length).map fun i => ws.getD i 0).sum + 0 = _
  rw [range_getD, Nat.add_zero]
theorem dp_at : ∀ (p : Pn) (d : Nat), ∃ e ∈ ends p d, e.2 = d + p.dp
  | .num m, d => ⟨(some m, d), by simp [ends], rfl⟩
  | .again, d => ⟨(none, d), by simp [ends], rfl⟩
  | .ask l r, d => by
    rw [Pn.dp]
    by_cases c : l.dp ≤ r.dp
    · obtain ⟨e, he, h⟩ := dp_at r (d + 1)
      exact ⟨e, List.mem_append_right _ he, by lia⟩
    · obtain ⟨e, he, h⟩ := dp_at l (d + 1)
      exact ⟨e, List.mem_append_left _ he, by lia⟩
noncomputable def isD (S D : Nat) : Prop := S ≤ 2 ^ D ∧ ∀ j, j < D → 2 ^ j < S
theorem isD_uniq {S D D' : Nat} (h : isD S D) (h' : isD S D') : D = D' := by
  rcases Nat.lt_trichotomy D D' with c | c | c
  · have := h'.2 D c; have := h.1; lia
  · exact c
  · have := h.2 D' c; have := h'.1; lia
theorem isD_le {S D : Nat} (h : isD S D) (hS : S ≤ 4096) : D ≤ 12 := by
  rcases Nat.lt_or_ge 12 D with c | c
  · have := h.2 12 c; lia
  · exact c
noncomputable def plW (ws : List Nat) (D : Nat) : Pn := planP (esW ws D) D
section
variable {ws : List Nat} {D : Nat}
theorem plW_ends (h : ws.sum ≤ 2 ^ D) : ends (plW ws D) 0 = endsD (esW ws D) (D + 1) 0 := ends_plan (esW_tot h)
theorem plW_dp (h : ws.sum ≤ 2 ^ D) : (plW ws D).dp ≤ D := by
  obtain ⟨e, he, hd⟩ := dp_at (plW ws D) 0
  rw [plW_ends h] at he
  have := (endsD_mem he).2.1
  lia
theorem plW_nodup (h : ws.sum ≤ 2 ^ D) : (ends (plW ws D) 0).Nodup := by
  rw [plW_ends h]
  exact endsD_nodup (esW_nodup ws D) _ _
theorem plW_sh (P : Option Nat → Bool) (h : ws.sum ≤ 2 ^ D) : shP P (ends (plW ws D) 0) (plW ws D).dp * 2 ^ (D - (plW ws D).dp) = ((esW ws D).map fun e => if P e.1 then e.2 else 0).sum := by
  rw [← shP_deeper P (fun e he => by have := (ends_deep _ 0 e he).2; lia) (plW_dp h), plW_ends h, shP_endsD P _ D (D + 1) 0 (by lia), lowP_all P (lt_succ_pow (esW_tot h))]
theorem plW_one (n : Nat) (h : ws.sum ≤ 2 ^ D) : shP (· == some n) (ends (plW ws D) 0) (plW ws D).dp * 2 ^ (D - (plW ws D).dp) = ws.getD n 0 := by
  rw [plW_sh _ h, esW_one]
theorem plW_all (h : ws.sum ≤ 2 ^ D) : shP (·.isSome) (ends (plW ws D) 0) (plW ws D).dp * 2 ^ (D - (plW ws D).dp) = ws.sum := by
  rw [plW_sh _ h, esW_some]
theorem shP_pos {P : Option Nat → Bool} {D : Nat} : ∀ {l : List (Option Nat × Nat)}, 0 < shP P l D → ∃ e ∈ l, P e.1 = true
  | [], h => absurd h (by show ¬ 0 < 0; lia)
  | e :: l, h => by
    by_cases c : P e.1 = true
    · exact ⟨e, List.mem_cons_self, c⟩
    · unfold shP at h
      rw [List.map_cons, List.sum_cons, if_neg c, Nat.zero_add] at h
      obtain ⟨x, hx, h'⟩ := shP_pos (l := l) h
      exact ⟨x, List.mem_cons_of_mem _ hx, h'⟩
theorem shP_mem {P : Option Nat → Bool} {D : Nat} {e : Option Nat × Nat} (hp : P e.1 = true) : ∀ {l : List (Option Nat × Nat)}, e ∈ l → 0 < shP P l D
  | a :: l, h => by
    unfold shP
    rw [List.map_cons, List.sum_cons]
    rcases List.mem_cons.mp h with rfl | h
    · rw [if_pos hp]; have := Nat.two_pow_pos (D - e.2); lia
    · have := shP_mem (D := D) hp h
      unfold shP at this
      lia
theorem plW_has (h : ws.sum ≤ 2 ^ D) (h0 : 0 < ws.sum) : (plW ws D).has = true := by
  rw [← has_ends _ 0, List.any_eq_true]
  apply shP_pos (P := fun o => o.isSome) (D := (plW ws D).dp)
  have := plW_all h
  rcases Nat.eq_zero_or_pos (shP (fun o => o.isSome) (ends (plW ws D) 0) (plW ws D).dp) with z | z
  · rw [z, Nat.zero_mul] at this; lia
  · exact z
theorem plW_mem (h : ws.sum ≤ 2 ^ D) (n : Nat) : (∃ d, (some n, d) ∈ ends (plW ws D) 0) ↔ 0 < ws.getD n 0 := by
  have e := plW_one n h
  constructor
  · rintro ⟨d, hd⟩
    have := shP_mem (P := (· == some n)) (D := (plW ws D).dp) (e := (some n, d)) (by simp) hd
    rw [← e]
    exact Nat.mul_pos this (Nat.two_pow_pos _)
  · intro h0
    have : 0 < shP (· == some n) (ends (plW ws D) 0) (plW ws D).dp := by
      rcases Nat.eq_zero_or_pos (shP (· == some n) (ends (plW ws D) 0) (plW ws D).dp) with z | z
      · rw [z, Nat.zero_mul] at e; lia
      · exact z
    obtain ⟨x, hx, hp⟩ := shP_pos this
    have : x.1 = some n := by simpa using hp
    exact ⟨x.2, by rw [← this]; exact hx⟩
end
noncomputable def rsAt (ws : List Nat) (S u : Nat) : List Nat := ws.map fun w => w * 2 ^ u % S
theorem rsAt_len (ws : List Nat) (S u : Nat) : (rsAt ws S u).length = ws.length := List.length_map _
theorem rsAt_get {ws : List Nat} {S u i : Nat} (h : i < ws.length) : (rsAt ws S u).getD i 0 = ws.getD i 0 * 2 ^ u % S := by
  unfold rsAt
  rw [List.getD_eq_getElem?_getD, List.getD_eq_getElem?_getD, List.getElem?_map, List.getElem?_eq_getElem h]
  rfl
theorem rsAt_zero {ws : List Nat} {S : Nat} (h : ∀ w ∈ ws, w < S) : rsAt ws S 0 = ws := by
  unfold rsAt
  conv => rhs; rw [← List.map_id ws]
  refine List.map_congr_left fun w hw => ?_
  rw [Nat.pow_zero, Nat.mul_one, Nat.mod_eq_of_lt (h w hw)]
  rfl
theorem rsAt_step (ws : List Nat) (S u : Nat) : stepR S (rsAt ws S u) = rsAt ws S (u + 1) := by
  unfold stepR rsAt
  rw [List.map_map]
  refine List.map_congr_left fun w _ => ?_
  exact rest_hand
noncomputable def figN (ws : List Nat) (k : Nat) : List Nat := (List.range ws.length).filter fun i => decide (ws.getD i 0 / 2 ^ k % 2 = 1)
theorem figO_esW {ws : List Nat} {D : Nat} (h : ws.sum = 2 ^ D) (k : Nat) : figO (esW ws D) k = (figN ws k).map some := by
  unfold figO esW figN numE
  rw [List.filter_append, List.map_append, h, Nat.sub_self]
  rw [show ([(none, 0)] : List (Option Nat × Nat)).filter (fun e => decide (e.2 / 2 ^ k % 2 = 1)) = [] from by rw [List.filter_cons, if_neg (by simp)]; rfl]
  rw [List.filter_map, List.map_map, List.map_nil, List.append_nil]
  rfl
theorem digs_figN {ws : List Nat} {D k : Nat} (hk : k + 1 ≤ D) : digs (2 ^ D) (rsAt ws (2 ^ D) (D - (k + 1))) = figN ws k := by
  unfold digs figN
  rw [rsAt_len]
  refine List.filter_congr fun i hi => ?_
  rw [rsAt_get (List.mem_range.mp hi)]
  rw [show (decide (2 ^ D ≤ 2 * (ws.getD i 0 * 2 ^ (D - (k + 1)) % 2 ^ D))) = decide (ws.getD i 0 * 2 ^ (D - (k + 1) + 1) / 2 ^ D % 2 = 1) from decide_eq_decide.mpr (fig_hand (Nat.two_pow_pos D)).symm]
  rw [show D - (k + 1) + 1 = D - k by lia, show 2 ^ D = 2 ^ k * 2 ^ (D - k) by rw [← Nat.pow_add]; congr 1; lia, Nat.mul_div_mul_right _ _ (Nat.two_pow_pos _)]
theorem walk_pick {ws : List Nat} {D : Nat} (h : ws.sum = 2 ^ D) (root : Pn) : ∀ (k : Nat), k + 1 ≤ D → ∀ (bs : List Nat) (p b u : Nat), (∀ y ∈ bs, y ≤ 1) → 2 * p + b < (parts (esW ws D) (k + 1)).length →
    pkR (2 ^ D) (rsAt ws (2 ^ D) (D - (k + 1))) p u (b :: bs) = (wk root ((parts (esW ws D) (k + 1)).getD (2 * p + b) .again) bs).map fun y => (y.1, y.2 + 1 + u) := by
  intro k
  induction k with
  | zero =>
    intro hk bs p b u hbs hi
    rw [pkR, digs_figN hk]
    have hp : parts (esW ws D) (0 + 1) = ((figN ws 0).map some).map leafP := by
      show (figO (esW ws D) 0).map leafP ++ asks [] = _
      rw [figO_esW h]
      exact List.append_nil _
    rw [hp] at hi ⊢
    rw [List.length_map, List.length_map] at hi
    rw [if_pos hi]
    have : (((figN ws 0).map some).map leafP).getD (2 * p + b) .again = .num ((figN ws 0).getD (2 * p + b) 0) := by
      rw [List.getD_eq_getElem?_getD, List.getD_eq_getElem?_getD, List.getElem?_map, List.getElem?_map, List.getElem?_eq_getElem hi]
      rfl
    rw [this]
    cases bs <;> (rw [wk]; show some (_, u + 1) = some (_, 0 + 1 + u); rw [show 0 + 1 + u = u + 1 by lia])
  | succ k ih =>
    intro hk bs p b u hbs hi
    rw [pkR, digs_figN hk]
    have hp : parts (esW ws D) (k + 1 + 1) = ((figN ws (k + 1)).map some).map leafP ++ asks (parts (esW ws D) (k + 1)) := by
      rw [parts, figO_esW h]
    rw [hp] at hi ⊢
    rw [List.length_append, List.length_map, List.length_map, asks_len] at hi
    by_cases c : 2 * p + b < (figN ws (k + 1)).length
    · rw [if_pos c]
      have : (((figN ws (k + 1)).map some).map leafP ++ asks (parts (esW ws D) (k + 1))).getD (2 * p + b) .again = .num ((figN ws (k + 1)).getD (2 * p + b) 0) := by
        rw [List.getD_eq_getElem?_getD, List.getD_eq_getElem?_getD, List.getElem?_append_left (by rw [List.length_map, List.length_map]; exact c), List.getElem?_map, List.getElem?_map, List.getElem?_eq_getElem c]
        rfl
      rw [this]
      cases bs <;> (rw [wk]; show some (_, u + 1) = some (_, 0 + 1 + u); rw [show 0 + 1 + u = u + 1 by lia])
    · rw [if_neg c]
      have hev := (parts_len (esW_tot (Nat.le_of_eq h)) (k + 1) (by lia)).2 (by lia)
      generalize hq : 2 * p + b - (figN ws (k + 1)).length = q
      have hq2 : 2 * q + 1 < (parts (esW ws D) (k + 1)).length := by lia
      have node : (((figN ws (k + 1)).map some).map leafP ++ asks (parts (esW ws D) (k + 1))).getD (2 * p + b) .again = .ask ((parts (esW ws D) (k + 1)).getD (2 * q) .again) ((parts (esW ws D) (k + 1)).getD (2 * q + 1) .again) := by
        rw [List.getD_eq_getElem?_getD, List.getElem?_append_right (by rw [List.length_map, List.length_map]; lia), List.length_map, List.length_map, hq]
        rw [asks_get _ q ((parts (esW ws D) (k + 1)).getD (2 * q) .again) ((parts (esW ws D) (k + 1)).getD (2 * q + 1) .again)]
        · rfl
        · rw [List.getD_eq_getElem?_getD, List.getElem?_eq_getElem (by lia)]; rfl
        · rw [List.getD_eq_getElem?_getD, List.getElem?_eq_getElem hq2]; rfl
      rw [node, rsAt_step]
      cases bs with
      | nil => rfl
      | cons b2 bs2 =>
        have hb2 := hbs b2 List.mem_cons_self
        rw [show D - (k + 1 + 1) + 1 = D - (k + 1) by lia]
        rw [ih (by lia) bs2 q b2 (u + 1) (fun y hy => hbs y (List.mem_cons_of_mem _ hy)) (by lia)]
        rw [wk]
        show _ = ((wk root (if b2 = 0 then _ else _) bs2).map _).map _
        rw [Option.map_map]
        have : (if b2 = 0 then (parts (esW ws D) (k + 1)).getD (2 * q) .again else (parts (esW ws D) (k + 1)).getD (2 * q + 1) .again) = (parts (esW ws D) (k + 1)).getD (2 * q + b2) .again := by
          have : b2 = 0 ∨ b2 = 1 := by lia
          rcases this with rfl | rfl
          · rw [if_pos rfl]; rfl
          · rw [if_neg (by decide)]
        rw [this]
        congr 1
        funext y
        show (y.1, y.2 + 1 + (u + 1)) = (y.1, y.2 + 1 + 1 + u)
        rw [show y.2 + 1 + (u + 1) = y.2 + 1 + 1 + u by lia]
theorem mem_sum_le : ∀ {l : List Nat} {x : Nat}, x ∈ l → x ≤ l.sum
  | a :: l, x, h => by
    rw [List.sum_cons]
    rcases List.mem_cons.mp h with rfl | h
    · lia
    · have := mem_sum_le h; lia
theorem mem_figN_top {ws : List Nat} {D i : Nat} (h : ws.sum = 2 ^ D) : i ∈ figN ws D ↔ i < ws.length ∧ ws.getD i 0 = 2 ^ D := by
  unfold figN
  rw [List.mem_filter, List.mem_range, decide_eq_true_iff]
  refine and_congr_right fun hi => ?_
  have hm : ws.getD i 0 ≤ 2 ^ D := by
    rw [← h]
    apply mem_sum_le
    rw [List.getD_eq_getElem?_getD, List.getElem?_eq_getElem hi]
    exact List.getElem_mem hi
  have hp := Nat.two_pow_pos D
  constructor
  · intro e
    rcases Nat.lt_or_ge (ws.getD i 0) (2 ^ D) with c | c
    · rw [Nat.div_eq_of_lt c] at e; lia
    · lia
  · intro e
    rw [e, Nat.div_self hp]
theorem wk_pick {ws : List Nat} {D : Nat} (h : ws.sum = 2 ^ D) {bs : List Nat} (hbs : ∀ y ∈ bs, y ≤ 1) : wk (plW ws D) (plW ws D) bs = pkF ws bs := by
  have ht := esW_tot (Nat.le_of_eq h)
  have hpp := plan_parts ht
  have hp : parts (esW ws D) (D + 1) = ((figN ws D).map some).map leafP ++ asks (parts (esW ws D) D) := by
    rw [parts, figO_esW h]
  unfold pkF
  by_cases c : ws.sum ∈ ws
  · rw [if_pos c]
    have hi : ws.idxOf ws.sum ∈ figN ws D := by
      rw [mem_figN_top h]
      have hl := List.idxOf_lt_length_of_mem c
      refine ⟨hl, ?_⟩
      rw [List.getD_eq_getElem?_getD, List.getElem?_eq_getElem hl, ← h]
      show ws[ws.idxOf ws.sum] = _
      exact List.getElem_idxOf hl
    have : plW ws D = .num (ws.idxOf ws.sum) := by
      rw [hpp] at hp
      cases e : figN ws D with
      | nil => rw [e] at hi; cases hi
      | cons x l =>
        rw [e] at hp hi
        have hl := congrArg List.length hp
        simp at hl
        have hl0 : l = [] := by
          cases l with
          | nil => rfl
          | cons _ _ => simp at hl <;> lia
        subst hl0
        have : ws.idxOf ws.sum = x := by simpa using hi
        rw [this]
        have := (List.cons.inj hp).1
        exact this
    rw [this]
    cases bs <;> rfl
  · rw [if_neg c]
    have hf : figN ws D = [] := by
      rw [List.eq_nil_iff_forall_not_mem]
      intro i hi
      obtain ⟨h1, h2⟩ := (mem_figN_top h).mp hi
      refine c ?_
      rw [h, ← h2, List.getD_eq_getElem?_getD, List.getElem?_eq_getElem h1]
      exact List.getElem_mem h1
    rw [hf, hpp] at hp
    have hlt : ∀ w ∈ ws, w < ws.sum := fun w hw => by
      have := mem_sum_le hw
      rcases Nat.lt_or_ge w ws.sum with y | y
      · exact y
      · have : w = ws.sum := by lia
        exact absurd (this ▸ hw) c
    cases D with
    | zero =>
      have hl := congrArg List.length hp
      simp [parts, asks] at hl
    | succ D =>
      have hl := congrArg List.length hp
      simp only [List.map_nil, List.nil_append, asks_len, List.length_cons, List.length_nil] at hl
      have h2 : (parts (esW ws (D + 1)) (D + 1)).length = 2 := by
        have := (parts_len ht (D + 1) (by lia)).2 (Nat.le_refl _)
        lia
      obtain ⟨a, b, e⟩ : ∃ a b, parts (esW ws (D + 1)) (D + 1) = [a, b] := by
        match hh : parts (esW ws (D + 1)) (D + 1), h2 with
        | [a, b], _ => exact ⟨a, b, rfl⟩
      rw [e] at hp
      have hroot : plW ws (D + 1) = .ask a b := by
        have : [planP (esW ws (D + 1)) (D + 1)] = [Pn.ask a b] := hp
        exact (List.cons.inj this).1
      cases bs with
      | nil => rw [hroot]; rfl
      | cons b0 bs =>
        have hb0 := hbs b0 List.mem_cons_self
        have hw := walk_pick h (plW ws (D + 1)) D (Nat.le_refl _) bs 0 b0 0 (fun y hy => hbs y (List.mem_cons_of_mem _ hy)) (by rw [e]; show 2 * 0 + b0 < 2; lia)
        rw [Nat.sub_self, rsAt_zero (by rw [← h]; exact hlt), e] at hw
        rw [h, hw]
        conv => lhs; rw [wk, show stl (plW ws (D + 1)) (plW ws (D + 1)) = .ask a b by rw [hroot]; rfl]
        show (wk (plW ws (D + 1)) (if b0 = 0 then a else b) bs).map _ = _
        have : (if b0 = 0 then a else b) = [a, b].getD (2 * 0 + b0) .again := by
          have : b0 = 0 ∨ b0 = 1 := by lia
          rcases this with rfl | rfl
          · rfl
          · rfl
        rw [this]
noncomputable def AgAt (K : PySem.W.Frag) (H : Hp) (p : Addr) : Prop := H p = some (.tup [.str "again"]) ∨ ∀ H', SqT K H' p [.str "again"]
theorem AgAt.sq {K : PySem.W.Frag} {H : Hp} {p : Addr} (h : AgAt K H p) : SqT K H p [.str "again"] := h.elim SqT.of fun z => z H
noncomputable def PnAt (K : PySem.W.Frag) (H : Hp) : Pn → V → Prop
  | .num n, v => ∃ p, v = .ref p ∧ H p = some (.tup [.str "is", .int (n : Int)])
  | .again, v => ∃ p, v = .ref p ∧ AgAt K H p
  | .ask l r, v => ∃ p y z, v = .ref p ∧ H p = some (.tup [.str "ask", y, z]) ∧ PnAt K H l y ∧ PnAt K H r z
theorem PnAt.keep {K : PySem.W.Frag} {H H' : Hp} (k : ∀ c xs, H c = some (.tup xs) → H' c = some (.tup xs)) : ∀ {p : Pn} {v : V}, PnAt K H p v → PnAt K H' p v
  | .num _, _, ⟨p, e, h⟩ => ⟨p, e, k _ _ h⟩
  | .again, _, ⟨p, e, h⟩ => ⟨p, e, h.imp (k _ _) id⟩
  | .ask _ _, _, ⟨p, y, z, e, h, h1, h2⟩ => ⟨p, y, z, e, k _ _ h, h1.keep k, h2.keep k⟩
theorem PnAt.same {K : PySem.W.Frag} {H H' : Hp} {p : Pn} {v : V} (h : PnAt K H p v) (s : Same H H') : PnAt K H' p v := h.keep fun _ _ e => s _ _ e
theorem PnAt.town {K : PySem.W.Frag} {H H' : Hp} {t : Addr} {k : Nat} {p : Pn} {v : V} (h : PnAt K H p v) (tw : Twn H t k) (g : Grow t H H') : PnAt K H' p v := h.keep fun _ _ e => g _ _ (twn_tup tw e) e
theorem PnAt.growB {K : PySem.W.Frag} {C : Addr} {H H' : Hp} {b dx r : Addr} {bl : List Nat} {z : Nat} {p : Pn} {v : V} (h : PnAt K H p v) (a : At C H b dx r bl z) (g : Grow b H H') : PnAt K H' p v := h.keep fun c _ e => g _ _ (fun y => by rw [y, a.obj] at e; cases e) e
noncomputable def ag : Pn → Nat
  | .again => 1
  | _ => 0
theorem ag_le (p : Pn) : ag p ≤ 1 := by cases p <;> first | exact Nat.le_refl _ | exact Nat.zero_le _
noncomputable def LeafV (K : PySem.W.Frag) (H : Hp) (o : Option Nat) (v : V) : Prop := PnAt K H (o.elim .again .num) v
noncomputable def EndsL (K : PySem.W.Frag) (H : Hp) (as : List Addr) (es : List (Option Nat × Nat)) : Prop := as.length = es.length ∧ ∀ (j : Nat) (a : Addr) (e : Option Nat × Nat), as[j]? = some a → es[j]? = some e → ∃ v, H a = some (.tup [.int (e.2 : Int), v]) ∧ LeafV K H e.1 v
theorem EndsL.same {K : PySem.W.Frag} {H H' : Hp} {as : List Addr} {es : List (Option Nat × Nat)} (h : EndsL K H as es) (s : Same H H') : EndsL K H' as es := ⟨h.1, fun j a e e1 e2 => by
  obtain ⟨v, h1, h2⟩ := h.2 j a e e1 e2
  exact ⟨v, s _ _ h1, PnAt.same h2 s⟩⟩
theorem EndsL.app {K : PySem.W.Frag} {H : Hp} {as bs : List Addr} {es fs : List (Option Nat × Nat)} (h : EndsL K H as es) (g : EndsL K H bs fs) : EndsL K H (as ++ bs) (es ++ fs) := by
  refine ⟨by rw [List.length_append, List.length_append, h.1, g.1], fun j a e e1 e2 => ?_⟩
  by_cases c : j < as.length
  · rw [List.getElem?_append_left c] at e1
    rw [List.getElem?_append_left (by rw [← h.1]; exact c)] at e2
    exact h.2 j a e e1 e2
  · rw [List.getElem?_append_right (by lia)] at e1
    rw [List.getElem?_append_right (by rw [← h.1]; lia), ← h.1] at e2
    exact g.2 _ a e e1 e2
inductive spEnds (K : PySem.W.Frag) (n : Nat) (vs : List V) (H : Hp) (Q : VK) (E : XK) : Prop
  | mk (v : V) (pl : Pn) (d : Nat) (f1 : vs = [v, .int (d : Int)]) (f2 : PnAt K H pl v) (f3 : pl.dp ≤ n) (f4 : n ≤ 12) (f5 : ∀ l as H', H l = none → Same H H' → H' l = some (.lst (as.map V.ref)) → EndsL K H' as (ends pl d) → Q (.ref l) H') : spEnds K n vs H Q E
theorem op_neTAK {X : Cx} (K : PySem.W.Frag) (hK : X.K = K) (hu : X.A.units + 64 < cLine) : OpR X (compareOp .NotEq) (rEqTA K true) := by
  subst hK
  exact op_neTA hu
inductive spNE (K : PySem.W.Frag) (CS : Addr) (vs : List V) (H : Hp) (Q : VK) (E : XK) : Prop
  | mk (v : V) (pl : Pn) (f1 : vs = [v]) (f2 : PnAt K H pl v) (f3 : pl.dp ≤ 12) (f4 : (pl.has = true → ∀ x H', Same H H' → Q x H')) (f5 : (pl.has = false → ∀ H', Same H H' → E (.ref CS) none H')) : spNE K CS vs H Q E
noncomputable def nums (es : List (Option Nat × Nat)) : List (Nat × Nat) := es.filterMap fun e => e.1.map fun n => (n, e.2)
theorem nums_has : ∀ es : List (Option Nat × Nat), decide (0 < (nums es).length) = es.any (fun e => e.1.isSome)
  | [] => rfl
  | (none, d) :: es => by
    have := nums_has es
    rw [List.any_cons]
    exact this
  | (some n, d) :: es => by
    rw [List.any_cons]
    show decide (0 < (nums es).length + 1) = _
    exact decide_eq_true (by lia)
noncomputable def NumL (H : Hp) (as : List Addr) (nd : List (Nat × Nat)) : Prop := as.length = nd.length ∧ ∀ (j : Nat) (a : Addr) (e : Nat × Nat), as[j]? = some a → nd[j]? = some e → H a = some (.tup [.int (e.2 : Int), .int (e.1 : Int)])
theorem NumL.same {H H' : Hp} {as : List Addr} {nd : List (Nat × Nat)} (h : NumL H as nd) (s : Same H H') : NumL H' as nd := ⟨h.1, fun j a e e1 e2 => s _ _ (h.2 j a e e1 e2)⟩
theorem NumL.snoc {H : Hp} {as : List Addr} {nd : List (Nat × Nat)} {p : Addr} {n d : Nat} (h : NumL H as nd) (hp : H p = some (.tup [.int (d : Int), .int (n : Int)])) : NumL H (as ++ [p]) (nd ++ [(n, d)]) := by
  refine ⟨by rw [List.length_append, List.length_append, h.1]; rfl, fun j a e e1 e2 => ?_⟩
  by_cases c : j < as.length
  · rw [List.getElem?_append_left c] at e1
    rw [List.getElem?_append_left (by rw [← h.1]; exact c)] at e2
    exact h.2 j a e e1 e2
  · rw [List.getElem?_append_right (by lia)] at e1
    rw [List.getElem?_append_right (by rw [← h.1]; lia), ← h.1] at e2
    have hj : j - as.length = 0 := by
      have := (List.getElem?_eq_some_iff.mp e1).1
      simpa using this
    rw [hj] at e1 e2
    cases e1
    cases e2
    exact hp
inductive spNE2 (K : PySem.W.Frag) (CS : Addr) (vs : List V) (H : Hp) (Q : VK) (E : XK) : Prop
  | mk (v : V) (pl : Pn) (f1 : vs = [v]) (f2 : PnAt K H pl v) (f3 : pl.dp ≤ 12) (f4 : (pl.has = true → ∀ l as H', Same H H' → H' l = some (.lst (as.map V.ref)) → NumL H' as (nums (ends pl 0)) → Q (.ref l) H')) (f5 : (pl.has = false → ∀ H', Same H H' → E (.ref CS) none H')) : spNE2 K CS vs H Q E
noncomputable def ShP (K : PySem.W.Frag) (H : Hp) (x : V) (pl : Pn) : Prop := PnAt K H pl x ∧ pl.has = true
inductive spRawP (K : PySem.W.Frag) (C CN : Addr) (F : Pn → List Nat → Option (V × Nat)) (vs : List V) (H : Hp) (Q : VK) (E : XK) : Prop
  | mk (b dx r : Addr) (bl : List Nat) (z : Nat) (x : V) (pl : Pn) (f1 : vs = [.ref b, x]) (f2 : At C H b dx r bl z) (f3 : (∀ y ∈ bl, y ≤ 1)) (f4 : ShP K H x pl) (f5 : (∀ v u H', F pl (bl.drop z) = some (v, u) → Grow b H H' → At C H' b dx r bl (z + u) → Q v H')) (f6 : (∀ z' H', F pl (bl.drop z) = none → z ≤ z' → Grow b H H' → At C H' b dx r bl z' → E (.ref CN) none H')) : spRawP K C CN F vs H Q E
inductive spByP (K : PySem.W.Frag) (C CN CS : Addr) (F : Pn → List Nat → Option (V × Nat)) (vs : List V) (H : Hp) (Q : VK) (E : XK) : Prop
  | mk (b dx r : Addr) (bl : List Nat) (z : Nat) (x : V) (pl : Pn) (f1 : vs = [.ref b, x]) (f2 : At C H b dx r bl z) (f3 : (∀ y ∈ bl, y ≤ 1)) (f4 : PnAt K H pl x) (f5 : pl.dp ≤ 12) (f6 : (∀ v u H', pl.has = true → F pl (bl.drop z) = some (v, u) → Grow b H H' → At C H' b dx r bl (z + u) → Q v H')) (f7 : (∀ H', pl.has = true → F pl (bl.drop z) = none → Grow b H H' → At C H' b dx r bl z → E (.ref CN) none H')) (f8 : (∀ H', pl.has = false → Same H H' → E (.ref CS) none H')) : spByP K C CN CS F vs H Q E
noncomputable def wkV (pl : Pn) (bs : List Nat) : Option (V × Nat) := (wk pl pl bs).map fun x => (V.int (x.1 : Int), x.2)
section
variable {P : Program} {w : World} {K : PySem.W.Frag} {mg : Str → Option Value} {base : Heap} {f C fI fT fU fL fG CN CS : Addr} {fd dI dT dU dL dG : FuncData} {mN mS : List Value}
theorem ok_ends_of {lv n : Nat} {spG : Sp} (F_ends_of : Fun K "ends_of" "ends_of" s_ends_of f fd) (g_ends_of : Fn P w K mg base "ends_of" p_ends_of lv spG) (hg : ∀ m vs H Q E, n = m + 1 → spEnds K m vs H Q E → spG vs H Q E) : FnOk P w K mg base CX0 (lv + 1) f fd p_ends_of (spEnds K n) := by
  refine F_ends_of.ok sc_ends_of (fun vs H Q E h => ?_) (fun cdv A outer s H vs Q E hr h => ?_)
  · obtain ⟨v, pl, d, rfl, _⟩ := h
    rfl
  obtain ⟨v, pl, d, rfl, hP, hd, hn, q⟩ := h
  refine ⟨_, (pss_cons (ps_if (pt_cmpR op_eq (pe_ix ix_tup (pv 0) pe_int (fun _ _ => rfl)) pe_str (nomark _)) (pss_one (ps_ret (pe_op op_cat (pe_fn g_ends_of hr (pa_cons (pe_ix ix_tup (pv 0) pe_int (fun _ _ => rfl)) (pa_cons (pe_op op_add (pv 1) pe_int) pa_nil))) (pe_fn g_ends_of hr (pa_cons (pe_ix ix_tup (pv 0) pe_int (fun _ _ => rfl)) (pa_cons (pe_op op_add (pv 1) pe_int) pa_nil)))))) pss_nil)
      (pss_one (ps_ret (pe_lst (pa_cons (pe_tup (pa_cons (pv 1) (pa_cons (pv 0) pa_nil))) pa_nil))))), ?_⟩
  have leaf : ∀ (o : Option Nat), ends (o.elim .again .num) d = [(o, d)] := fun o => by cases o <;> rfl
  have last : ∀ (o : Option Nat) (v : V) (p l : Addr), LeafV K H o v → pl = o.elim .again .num → H p = none → (upd H p (.tup [V.int (d : Int), v])) l = none → Q (.ref l) (upd (upd H p (.tup [V.int (d : Int), v])) l (.lst [V.ref p])) := fun o v p l hv e fp fl => by
    have y1 := same_new fp (.tup [V.int (d : Int), v])
    have y2 := same_new fl (.lst [V.ref p])
    have nl : H l = none := by
      cases e : H l with
      | none => rfl
      | some o => have := y1 _ _ e; rw [fl] at this; cases this
    refine q l [p] _ nl (y1.trans y2) upd_same ?_
    rw [e, leaf o]
    refine ⟨rfl, fun j a e' h1 h2 => ?_⟩
    have hj : j = 0 := by
      have := (List.getElem?_eq_some_iff.mp h1).1
      simpa using this
    subst hj
    cases h1
    cases h2
    exact ⟨v, y2 _ _ upd_same, PnAt.same hv (y1.trans y2)⟩
  cases pl with
  | num m =>
    obtain ⟨p, rfl, h⟩ := id hP
    refine ⟨_, rfl, p, _, _, _, rfl, rfl, SqT.of h, rfl, rfl, _, rfl, ite2 (fun c => absurd (of_decide_eq_true c) (by decide +kernel)) (fun _ => ?_)⟩
    exact ⟨_, rfl, _, rfl, (by show 2 ≤ sizeLine; decide), fun p' fp => ⟨(by show 1 ≤ sizeLine; decide), fun l fl => last (some m) _ p' l hP rfl fp fl⟩⟩
  | again =>
    obtain ⟨p, rfl, h⟩ := id hP
    refine ⟨_, rfl, p, _, _, _, rfl, rfl, h.sq, rfl, rfl, _, rfl, ite2 (fun c => absurd (of_decide_eq_true c) (by decide +kernel)) (fun _ => ?_)⟩
    exact ⟨_, rfl, _, rfl, (by show 2 ≤ sizeLine; decide), fun p' fp => ⟨(by show 1 ≤ sizeLine; decide), fun l fl => last none _ p' l hP rfl fp fl⟩⟩
  | ask pl1 pl2 =>
    clear last leaf
    obtain ⟨p, y, z, rfl, h, h1, h2⟩ := id hP
    have hd' : max pl1.dp pl2.dp + 1 ≤ n := hd
    obtain ⟨m, rfl⟩ : ∃ m, n = m + 1 := ⟨n - 1, by lia⟩
    refine ⟨_, rfl, p, _, _, _, rfl, rfl, SqT.of h, rfl, rfl, _, rfl, ite2 (fun _ => ?_) (fun c => absurd (by decide +kernel) c)⟩
    refine ⟨_, rfl, p, _, _, _, rfl, rfl, SqT.of h, rfl, _, rfl, _, _, rfl, rfl, hg m _ _ _ _ rfl ⟨y, pl1, d + 1, rfl, h1, by lia, by lia, fun l1 as1 H1 n1 s1 w1 e1 => ?_⟩⟩
    refine ⟨_, rfl, p, _, _, _, rfl, rfl, SqT.of (s1 _ _ h), rfl, _, rfl, _, _, rfl, rfl, hg m _ _ _ _ rfl ⟨z, pl2, d + 1, rfl, h2.same s1, by lia, by lia, fun l2 as2 H2 n2 s2 w2 e2 => ?_⟩⟩
    have e1' := e1.same s2
    have b1 := ends_len pl1 (d + 1)
    have b2 := ends_len pl2 (d + 1)
    have c1 : 2 ^ pl1.dp ≤ 4096 := Nat.le_trans (Nat.pow_le_pow_right (n := 2) (by decide) (show pl1.dp ≤ 12 by lia)) (by decide)
    have c2 : 2 ^ pl2.dp ≤ 4096 := Nat.le_trans (Nat.pow_le_pow_right (n := 2) (by decide) (show pl2.dp ≤ 12 by lia)) (by decide)
    refine ⟨l1, l2, _, _, rfl, rfl, s2 _ _ w1, w2, small (by rw [List.length_map, List.length_map, e1.1, e2.1]; lia), fun l3 f3 => ?_⟩
    have y3 := same_new f3 (.lst (as1.map V.ref ++ as2.map V.ref))
    have n3 : H l3 = none := by
      cases e : H l3 with
      | none => rfl
      | some o => have := s2 _ _ (s1 _ _ e); rw [f3] at this; cases this
    refine q l3 (as1 ++ as2) _ n3 ((s1.trans s2).trans y3) (by rw [upd_same, List.map_append]) ((e1'.app e2).same y3)
theorem ends_all (F : Fun K "ends_of" "ends_of" s_ends_of f fd) (mo : ∀ {k : Nat} {sp : Sp}, FnOk P w K mg base CX0 k f fd p_ends_of sp → Fn P w K mg base "ends_of" p_ends_of k sp) : ∀ n : Nat, FnOk P w K mg base CX0 (n + 1) f fd p_ends_of (spEnds K n)
  | 0 => ok_ends_of (lv := 0) (n := 0) F (mo (ok__law_same0 (sp := fun _ _ _ _ => False) (fun _ _ _ _ h => h))) (fun m vs H Q E e => by cases e)
  | n + 1 => ok_ends_of (lv := n + 1) (n := n + 1) F (mo (ends_all F mo n)) (fun m vs H Q E e h => by cases e; exact h)
theorem ok_numbered_ends (F_numbered_ends : Fun K "numbered_ends" "numbered_ends" s_numbered_ends f fd) (B : Bl mg) (C' : Cn K mg) (X_NoShares : Exc K mg "NoShares" CS mS) (g_ends_of : Fn P w K mg base "ends_of" p_ends_of 13 (spEnds K 12)) : FnOk P w K mg base (CXR P w) 14 f fd p_numbered_ends (spNE2 K CS) := by
  refine F_numbered_ends.okX sc_numbered_ends (fun vs H Q E h => ?_) (fun cdv A outer s H vs Q E hr h => ?_)
  · obtain ⟨v, pl, rfl, _⟩ := h
    rfl
  obtain ⟨v, pl, rfl, hP, hd, q, e⟩ := h
  obtain ⟨A_AGAIN, C_AGAIN, hAg⟩ := C'.AGAIN
  refine ⟨_, (pss_cons (ps_comp 1 [] ["plan", "ends", "depth", "end"] 2 rfl sc_numbered_ends.nd rfl rfl (pi_list (pe_fn g_ends_of hr (pa_cons (pv 0) (pa_cons pe_int pa_nil)))) (fun _ _ _ _ _ => (pg_tupK K 2 rfl (pgs_cons (pg_name (i := 2) nd_6 rfl (Or.inl rfl) (Or.inr rfl)) (pgs_cons (pg_name (i := 3) nd_6 rfl (Or.inl rfl) (Or.inr rfl)) pgs_nil)) rfl rfl rfl)) (fun _ _ _ _ _ => (pif_one (pt_cmpR (op_neTAK K rfl hr.units) (pv 3) (pe_glob (v := .ref A_AGAIN) rfl C_AGAIN rfl) (nomark _)))) (fun _ _ _ _ _ => (pe_tup (pa_cons (pv 2) (pa_cons (pe_ix (ix_tupK K rfl) (pv 3) pe_int (fun _ _ => rfl)) pa_nil)))))
      (pss_cons (ps_if (pt_cmpR op_eq (pe_callB call_len_seq rfl B.len_ L3.bt_len (pa_cons (pv 1) pa_nil)) pe_int (nomark _)) (pss_one (ps_raise X_NoShares (pa_cons pe_str pa_nil))) pss_nil)
      (pss_one (ps_ret (pv 1))))), ?_⟩
  refine ⟨_, rfl, v, pl, 0, rfl, hP, hd, by decide, fun l as H1 nl s1 w1 e1 => ?_⟩
  have b1 := ends_len pl 0
  have c1 : 2 ^ pl.dp ≤ 4096 := Nat.le_trans (Nat.pow_le_pow_right (n := 2) (by decide) hd) (by decide)
  refine ⟨l, rfl, ⟨_, SqL.of w1⟩, comp_list (xs := as.map V.ref) (fun j acc σ' H' => ∃ (bs : List Addr) (o2 o3 : Option V), acc = bs.map V.ref ∧ bs.length ≤ j ∧ NumL H' bs (nums ((ends pl 0).take j)) ∧ Same H1 H' ∧ σ' = [some v, none, o2, o3]) ⟨[], _, _, rfl, Nat.le_refl _, ⟨rfl, fun j a e h => by simp at h⟩, Same.refl _, rfl⟩
    (fun j acc σ' H' hj ⟨bs, _, _, e', hb, _⟩ => by
      rw [e', List.length_map]
      rw [List.length_map, e1.1] at hj
      lia) (fun j acc σ' H' _ ⟨_, _, _, _, _, _, y, _⟩ => SqL.of (y _ _ w1)) ?_ ?_⟩
  · rintro j x acc σ' H' hx ⟨bs, o2, o3, rfl, hb, hN, y, rfl⟩
    obtain ⟨a, hja⟩ : ∃ a, as[j]? = some a := by
      rw [List.getElem?_map] at hx
      cases e : as[j]? with
      | none => rw [e] at hx; cases hx
      | some r => exact ⟨r, rfl⟩
    rw [List.getElem?_map, hja] at hx
    cases hx
    have hj : j < (ends pl 0).length := by rw [← e1.1]; exact (List.getElem?_eq_some_iff.mp hja).1
    obtain ⟨en, hen⟩ : ∃ en, (ends pl 0)[j]? = some en := ⟨_, List.getElem?_eq_getElem hj⟩
    obtain ⟨lv, ha, hleaf⟩ := e1.2 j a en hja hen
    have ha' := y _ _ ha
    have hnext : nums ((ends pl 0).take (j + 1)) = nums ((ends pl 0).take j) ++ nums [en] := by
      rw [List.take_add_one, hen]
      exact List.filterMap_append
    refine ⟨a, _, rfl, SqT.of ha', rfl, _, _, rfl, _, _, rfl, rfl, ?_⟩
    unfold LeafV at hleaf
    obtain ⟨eo, ed⟩ := en
    cases eo with
    | none =>
      obtain ⟨p, rfl, hp⟩ := hleaf
      refine ⟨_, rfl, p, A_AGAIN, _, _, _, rfl, rfl, AgAt.sq (K := K) (H := H') (p := p) (hp.imp (y _ _) id), hAg _, _, rfl, ite2 (fun c => absurd c (by decide +kernel)) (fun _ => ⟨bs, _, _, rfl, by lia, ?_, y, rfl⟩)⟩
      rw [hnext]
      show NumL H' bs (_ ++ [])
      rw [List.append_nil]
      exact hN
    | some n =>
      obtain ⟨p, rfl, hp⟩ := hleaf
      refine ⟨_, rfl, p, A_AGAIN, _, _, _, rfl, rfl, SqT.of (y _ _ hp), hAg _, _, rfl, ite2 (fun _ => ?_) (fun c => absurd (by show (!(decide (("is" : Str) = "again") && false)) = true; rw [Bool.and_false]; rfl) c)⟩
      refine ⟨_, rfl, _, rfl, p, _, _, _, rfl, rfl, SqT.of (y _ _ hp), rfl, (by show 2 ≤ sizeLine; decide), fun p2 fp2 => ?_⟩
      refine ⟨bs ++ [p2], _, _, by rw [List.map_append]; rfl, by rw [List.length_append]; show bs.length + 1 ≤ _; lia, ?_, y.trans (same_new fp2 _), rfl⟩
      rw [hnext]
      exact (hN.same (same_new fp2 _)).snoc upd_same
  rintro acc σ' H2 D ⟨bs, o2, o3, rfl, hb, hN, y, rfl⟩ fD
  rw [List.length_map, e1.1, List.take_length] at hN
  have hany := nums_has (ends pl 0)
  rw [has_ends, ← hN.1] at hany
  have yD := same_new fD (.lst (bs.map V.ref))
  have s12 := (s1.trans y).trans yD
  refine ⟨_, rfl, D, _, rfl, .inl (SqL.of upd_same), rfl, _, rfl, ite2 (fun c => ?_) (fun c => ?_)⟩
  · have c' := of_decide_eq_true c
    rw [List.length_map] at c'
    injection c' with c'
    have : pl.has = false := by rw [← hany]; exact decide_eq_false (by lia)
    exact ⟨(by show 1 ≤ sizeLine; decide), e this _ s12⟩
  · have c' : ¬ bs.length = 0 := fun z => c (decide_eq_true (by rw [List.length_map, z]; rfl))
    have : pl.has = true := by rw [← hany]; exact decide_eq_true (by lia)
    exact ⟨_, rfl, q this D bs _ s12 upd_same (hN.same yD)⟩
theorem ne_imp : ∀ vs H Q E, spNE K CS vs H Q E → spNE2 K CS vs H Q E := by
  rintro vs H Q E ⟨v, pl, e, hP, hd, q, q2⟩
  exact ⟨v, pl, e, hP, hd, fun h l as H' s _ _ => q h _ H' s, q2⟩
theorem ok_take_by_plan (F_take_by_plan : Fun K "take_by_plan" "take_by_plan" s_take_by_plan f fd) (C' : Cn K mg) (T : Txt K mg C fI fT fU fL fG dI dT dU dL dG) (g_take : FnOk P w K mg base (CXR P w) 2 fT dT p_Bits_take (spTakeB C CN)) : FnOk P w K mg base (CXR P w) 3 f fd p_take_by_plan (spRawP K C CN wkV) := by
  refine F_take_by_plan.okX sc_take_by_plan (fun vs H Q E h => ?_) (fun cdv A outer s H vs Q E hr h => ?_)
  · obtain ⟨b, dx, r, bl, z, x, a, rfl, _⟩ := h
    rfl
  obtain ⟨b, dx, r, bl, z, x, pl, rfl, hA, hbit, ⟨hP, hhas⟩, q, e⟩ := h
  obtain ⟨A_AGAIN, C_AGAIN, hAg⟩ := C'.AGAIN
  refine ⟨_, (pss_cons (ps_set (i := 2) sc_take_by_plan.nd rfl (Or.inl rfl) (pv 1))
      (pss_cons (ps_while (PassesOwn.leaving (M := model P w)) (pt_cmpR op_ne (pe_ix ix_tup (pv 2) pe_int (fun _ _ => rfl)) pe_str (nomark _)) (pss_one (ps_joinN (ps_if (pt_cmpR (op_eqTA hr.units) (pv 2) (pe_glob (v := .ref A_AGAIN) rfl C_AGAIN rfl) (nomark _)) (pss_one (ps_set (i := 2) sc_take_by_plan.nd rfl (Or.inl rfl) (pv 1))) (pss_one (ps_set (i := 2) sc_take_by_plan.nd rfl (Or.inl rfl) (pe_ix ix_tup (pv 2) (pe_op op_add pe_int (pe_meth0 (pv 0) T.cl T.m_take g_take (hr.mono (by first | decide | lia)) T.b_take .nil cx_pass)) (fun _ _ => rfl))))))))
      (pss_one (ps_ret (pe_ix ix_tup (pv 2) pe_int (fun _ _ => rfl)))))), ?_⟩
  have hroot := has_root hhas
  refine ⟨_, rfl, ?_⟩
  refine ⟨fun m σ' H' => ∃ (cur : Pn) (cv : V) (u : Nat), m = 2 * (bl.length - (z + u)) + ag cur ∧ σ' = [some (.ref b), some x, some cv] ∧ Grow b H H' ∧ At C H' b dx r bl (z + u) ∧ PnAt K H' pl x ∧ PnAt K H' cur cv ∧ wk pl pl (bl.drop z) = (wk pl cur (bl.drop (z + u))).map (fun y => (y.1, y.2 + u)), ⟨_, pl, x, 0, rfl, rfl, Grow.refl _ _, hA, hP, hP, ?_⟩, ?_⟩
  · rw [Nat.add_zero]
    cases wk pl pl (bl.drop z) <;> rfl
  rintro m σ' H1 ⟨cur, cv, u, rfl, rfl, g1, a1, hP1, hC1, hw⟩
  cases cur with
  | num n =>
    obtain ⟨p, rfl, hp⟩ := id hC1
    refine ⟨_, rfl, p, _, _, _, rfl, rfl, SqT.of hp, rfl, rfl, _, rfl, ite2 (fun c => absurd c (by decide +kernel)) (fun _ => ?_)⟩
    refine ⟨_, rfl, p, _, _, _, rfl, rfl, SqT.of hp, rfl, q _ u H1 ?_ g1 a1⟩
    unfold wkV
    rw [hw]
    cases bl.drop (z + u) <;> (show some (V.int (n : Int), 0 + u) = _; rw [Nat.zero_add])
  | again =>
    obtain ⟨p, rfl, hp⟩ := id hC1
    refine ⟨_, rfl, p, _, _, _, rfl, rfl, hp.sq, rfl, rfl, _, rfl, ite2 (fun _ => ?_) (fun c => absurd (by decide +kernel) c)⟩
    refine ⟨_, fun _ _ z => z, _, fun _ _ z => z, _, rfl, p, A_AGAIN, _, _, _, rfl, rfl, hp.sq, hAg _, _, rfl, ite2 (fun _ => ?_) (fun c => absurd (by decide +kernel) c)⟩
    refine ⟨_, rfl, _, ?_, pl, x, u, rfl, rfl, g1, a1, hP1, hP1, ?_⟩
    · have : ag pl = 0 := by cases pl <;> first | rfl | exact absurd rfl hroot
      rw [this]
      exact Nat.lt_succ_self _
    · rw [hw]
      have : wk pl .again (bl.drop (z + u)) = wk pl pl (bl.drop (z + u)) := by
        have st : stl pl pl = pl := by cases pl <;> first | rfl | exact absurd rfl hroot
        cases bl.drop (z + u) with
        | nil => rw [wk, wk, st]; rfl
        | cons _ _ => rw [wk, wk, st]; rfl
      rw [this]
  | ask l r' =>
    obtain ⟨p, y1, y2, rfl, hp, h1, h2⟩ := id hC1
    refine ⟨_, rfl, p, _, _, _, rfl, rfl, SqT.of hp, rfl, rfl, _, rfl, ite2 (fun _ => ?_) (fun c => absurd (by decide +kernel) c)⟩
    refine ⟨_, fun _ _ z => z, _, fun _ _ z => z, _, rfl, p, A_AGAIN, _, _, _, rfl, rfl, SqT.of hp, hAg _, _, rfl, ite2 (fun c => absurd c (by show ¬ (decide (("ask" : Str) = "again") && false) = true; rw [Bool.and_false]; decide)) (fun _ => ?_)⟩
    refine ⟨_, rfl, _, rfl, b, dx, _, rfl, a1.obj, flds_no _ _ (by decide +kernel) (by decide +kernel), b, dx, r, bl, z + u, rfl, a1, fun x' H3 hx g3 a3 => ?_, fun hz => ?_⟩
    · have hx1 := hbit x' (List.mem_of_getElem? hx)
      have hx2 : x' = 0 ∨ x' = 1 := by lia
      have hp3 := g3 _ _ (fun e' => by rw [e', a1.obj] at hp; cases hp) hp
      have l3 := a3.le
      have hd : bl.drop (z + u) = x' :: bl.drop (z + (u + 1)) := by
        obtain ⟨hi, e'⟩ := List.getElem?_eq_some_iff.mp hx
        rw [List.drop_eq_getElem_cons hi, e']
        rfl
      rw [hd] at hw
      rcases hx2 with rfl | rfl
      · refine ⟨_, _, rfl, rfl, p, _, _, y1, rfl, rfl, SqT.of hp3, rfl, _, ?_, l, y1, u + 1, rfl, rfl, g1.trans g3, a3, hP1.growB a1 g3, h1.growB a1 g3, ?_⟩
        · have := ag_le l
          show 2 * (bl.length - (z + (u + 1))) + ag l < 2 * (bl.length - (z + u)) + 0
          lia
        · rw [hw, wk]
          show ((wk pl (if 0 = 0 then l else r') (bl.drop (z + (u + 1)))).map _).map _ = _
          rw [if_pos rfl, Option.map_map]
          congr 1
          funext y
          show (y.1, y.2 + 1 + u) = (y.1, y.2 + (u + 1))
          rw [Nat.add_assoc, Nat.add_comm 1 u]
      · refine ⟨_, _, rfl, rfl, p, _, _, y2, rfl, rfl, SqT.of hp3, rfl, _, ?_, r', y2, u + 1, rfl, rfl, g1.trans g3, a3, hP1.growB a1 g3, h2.growB a1 g3, ?_⟩
        · have := ag_le r'
          show 2 * (bl.length - (z + (u + 1))) + ag r' < 2 * (bl.length - (z + u)) + 0
          lia
        · rw [hw, wk]
          show ((wk pl (if 1 = 0 then l else r') (bl.drop (z + (u + 1)))).map _).map _ = _
          rw [if_neg (by decide), Option.map_map]
          congr 1
          funext y
          show (y.1, y.2 + 1 + u) = (y.1, y.2 + (u + 1))
          rw [Nat.add_assoc, Nat.add_comm 1 u]
    · refine e (z + u) H1 ?_ (by lia) g1 a1
      unfold wkV
      rw [hw, List.drop_eq_nil_of_le (by lia)]
      rfl
theorem ok_by_plan (F_by_plan : Fun K "by_plan" "by_plan" s_by_plan f fd) {fN fD fR : Addr} {dN dD dR : FuncData} (g_numbered_ends : FnX P w K mg base "numbered_ends" fN dN p_numbered_ends 14 (spNE K CS)) (g_drawn_whole : FnX P w K mg base "drawn_whole" fD dD p_drawn_whole 5 (spDW P w K mg base 4 C CN)) (g_take_by_plan : FnX P w K mg base "take_by_plan" fR dR p_take_by_plan 3 (spRawP K C CN wkV)) :
    FnOk P w K mg base (CXR P w) 15 f fd p_by_plan (spByP K C CN CS wkV) := by
  refine F_by_plan.okX sc_by_plan (fun vs H Q E h => ?_) (fun cdv A outer s H vs Q E hr h => ?_)
  · obtain ⟨b, dx, r, bl, z, x, a, rfl, _⟩ := h
    rfl
  obtain ⟨b, dx, r, bl, z, x, pl, rfl, hA, hbit, hP, hd, q, e, e2⟩ := h
  refine ⟨_, (pss_cons (ps_expr (pe_fnX g_numbered_ends hr (pa_cons (pv 1) pa_nil)))
      (pss_one (ps_ret (pe_fnX g_drawn_whole hr (pa_cons (pv 0) (pa_cons (pe_glob (v := .ref _) rfl g_take_by_plan.mg rfl) (pa_cons (pv 1) pa_nil))))))), ?_⟩
  refine ⟨_, rfl, x, pl, rfl, hP, hd, fun hh v1 H1 s1 => ?_, fun hh H1 s1 => e2 H1 hh s1⟩
  have hA1 := hA.same s1
  have g1 : Grow b H H1 := .same s1
  refine ⟨_, rfl, _, rfl, b, dx, r, fR, bl, z, x, dR, _, 3, _, rfl, g_take_by_plan.ok, by decide, g_take_by_plan.kp, g_take_by_plan.bd, hA1, fun Ex hE => ⟨b, dx, r, bl, z, x, pl, rfl, hA1, hbit, ⟨hP.same s1, hh⟩, fun v u H' h1 g' a' => q v u H' hh h1 (g1.trans g') a', fun z' H2 n1 l1 g2 a2 => hE z' H2 l1 a2 fun H3 g3 a3 => e H3 hh n1 (g1.trans (g2.trans g3)) a3⟩⟩
end
noncomputable def Pn.small : Pn → Prop
  | .num n => n ≤ 99
  | .again => True
  | .ask l r => l.small ∧ r.small
inductive spRowK (K : PySem.W.Frag) (vs : List V) (H : Hp) (Q : VK) (E : XK) : Prop
  | mk (p : Addr) (xs : List V) (k : Nat) (f1 : vs = [.ref p, .int (k : Int)]) (f2 : SqT K H p xs) (f3 : Q (.bl (decide (xs.length = k))) H) : spRowK K vs H Q E
inductive spWholeK (vs : List V) (H : Hp) (Q : VK) (E : XK) : Prop
  | mk (n lo hi : Int) (f1 : vs = [.int n, .int lo, .int hi]) (f2 : lo ≤ n) (f3 : n ≤ hi) (f4 : Q (.bl true) H) : spWholeK  vs H Q E
inductive spIsW (K : PySem.W.Frag) (n : Nat) (vs : List V) (H : Hp) (Q : VK) (E : XK) : Prop
  | mk (v : V) (pl : Pn) (f1 : vs = [v, .int (n : Int)]) (f2 : PnAt K H pl v) (f3 : pl.dp ≤ n) (f4 : pl.small) (f5 : ∀ H', Same H H' → Q (.bl true) H') : spIsW K n vs H Q E
inductive spIsPlan (K : PySem.W.Frag) (vs : List V) (H : Hp) (Q : VK) (E : XK) : Prop
  | mk (v : V) (pl : Pn) (f1 : vs = [v]) (f2 : PnAt K H pl v) (f3 : pl.dp ≤ 12) (f4 : pl.small) (f5 : ∀ H', Same H H' → Q (.bl true) H') : spIsPlan K vs H Q E
inductive spDeep (K : PySem.W.Frag) (vs : List V) (H : Hp) (Q : VK) (E : XK) : Prop
  | mk (v : V) (pl : Pn) (f1 : vs = [v]) (f2 : PnAt K H pl v) (f3 : pl.dp ≤ 12) (f4 : ∀ H', Same H H' → Q (.int (pl.dp : Int)) H') : spDeep K vs H Q E
inductive spRowsTo (vs : List V) (H : Hp) (Q : VK) (E : XK) : Prop
  | mk (d D : Nat) (f1 : vs = [.int (d : Int), .int (D : Int)]) (f2 : d ≤ D) (f3 : D ≤ 12) (f4 : Q (.int ((2 ^ (D - d) : Nat) : Int)) H) : spRowsTo  vs H Q E
section
variable {P : Program} {w : World} {K : PySem.W.Frag} {mg : Str → Option Value} {base : Heap} {f : Addr} {fd : FuncData}
theorem ok_is_row (F_is_row : Fun K "is_row" "is_row" s_is_row f fd) (B : Bl mg) : FnOk P w K mg base CX0 1 f fd p_is_row (spRowK K) := by
  refine F_is_row.ok sc_is_row (fun vs H Q E h => ?_) (fun cdv A outer s H vs Q E hr h => ?_)
  · obtain ⟨p, xs, k, rfl, _⟩ := h
    rfl
  obtain ⟨p, xs, k, rfl, h, q⟩ := h
  refine ⟨_, (pss_one (ps_ret (pe_and (pe_callB call_isiQ rfl B.isinstance_ L3.bt_isinstance (pa_cons (pv 0) (pa_cons (pe_bltn (v := .ty "tuple") rfl B.tuple_ L3.bt_tuple rfl) pa_nil))) (pe_one (pe_cmpR op_eq (pe_callB call_len_seq rfl B.len_ L3.bt_len (pa_cons (pv 0) pa_nil)) (pv 1) (nomark _)))))), ?_⟩
  refine ⟨_, rfl, _, _, _, _, rfl, .inr ⟨rfl, p, xs, rfl, h⟩, ko_tt _, _, rfl, iteT ⟨_, rfl, p, xs, rfl, .inr h, _, rfl, rfl, ?_⟩⟩
  have e2 : decide (V.int (xs.length : Int) = V.int (k : Int)) = decide (xs.length = k) := by
    rw [decide_eq_decide]
    exact ⟨fun h => by injection h with h; lia, fun h => by rw [h]⟩
  rw [e2]
  exact q
theorem ok_is_whole_number (F_is_whole_number : Fun K "is_whole_number" "is_whole_number" s_is_whole_number f fd) (B : Bl mg) : FnOk P w K mg base CX0 1 f fd p_is_whole_number spWholeK := by
  refine F_is_whole_number.ok sc_is_whole_number (fun vs H Q E h => ?_) (fun cdv A outer s H vs Q E hr h => ?_)
  · obtain ⟨n, lo, hi, rfl, _⟩ := h
    rfl
  obtain ⟨n, lo, hi, rfl, h1, h2, q⟩ := h
  refine ⟨_, (pss_cons (ps_if (PW.pt (pw_or (pt_truth (pe_callB call_isi rfl B.isinstance_ L3.bt_isinstance (pa_cons (pv 0) (pa_cons (pe_bltn (v := .ty "bool") rfl B.bool_ L3.bt_bool rfl) pa_nil))) (fun _ => rfl)) (pw_or1 (pt_not (pt_truth (pe_callB call_isi rfl B.isinstance_ L3.bt_isinstance (pa_cons (pv 0) (pa_cons (pe_bltn (v := .ty "int") rfl B.int_ L3.bt_int rfl) pa_nil))) (fun _ => rfl)))))) (pss_one (ps_ret pe_bl)) pss_nil)
      (pss_one (ps_ret (pe_chain op_le op_le (pv 1) (pv 0) (pv 2))))), ?_⟩
  refine ⟨_, rfl, _, _, _, _, rfl, .int n, ko_ib _, _, rfl, iteF ⟨_, rfl, _, _, _, _, rfl, .int n, ko_ii _, _, rfl, iteF ?_⟩⟩
  refine ⟨_, rfl, _, rfl, _, _, rfl, rfl, _, rfl, ite2 (fun c => ?_) (fun c => absurd (decide_eq_true h1) c)⟩
  refine ⟨_, rfl, _, _, rfl, rfl, ?_⟩
  show Q (V.bl (decide (n ≤ hi))) H
  rw [decide_eq_true h2]
  exact q
theorem ok_is_plan_within {lv n : Nat} {spG : Sp} (F_is_plan_within : Fun K "is_plan_within" "is_plan_within" s_is_plan_within f fd) (C' : Cn K mg) (g_is_row : Fn P w K mg base "is_row" p_is_row lv (spRowK K)) (g_is_whole_number : Fn P w K mg base "is_whole_number" p_is_whole_number lv spWholeK) (g_is_plan_within : Fn P w K mg base "is_plan_within" p_is_plan_within lv spG)
    (hg : ∀ m vs H Q E, n = m + 1 → spIsW K m vs H Q E → spG vs H Q E) : FnOk P w K mg base CX0 (lv + 1) f fd p_is_plan_within (spIsW K n) := by
  refine F_is_plan_within.ok sc_is_plan_within (fun vs H Q E h => ?_) (fun cdv A outer s H vs Q E hr h => ?_)
  · obtain ⟨v, pl, rfl, _⟩ := h
    rfl
  obtain ⟨v, pl, rfl, hP, hd, hs, q⟩ := h
  obtain ⟨A_AGAIN, C_AGAIN, hAg⟩ := C'.AGAIN
  obtain ⟨_, C_GREATEST_NUMBER⟩ := C'.GREATEST_NUMBER
  refine ⟨_, (pss_cons (ps_if (pt_truth (pe_fn g_is_row hr (pa_cons (pv 0) (pa_cons pe_int pa_nil))) (fun _ => rfl)) (pss_one (ps_ret (pe_cmpR (op_eqTA hr.units) (pv 0) (pe_glob (v := .ref A_AGAIN) rfl C_AGAIN rfl) (nomark _)))) pss_nil)
      (pss_cons (ps_if (pt_truth (pe_fn g_is_row hr (pa_cons (pv 0) (pa_cons pe_int pa_nil))) (fun _ => rfl)) (pss_one (ps_ret (pe_and (pe_cmpR op_eq (pe_ix ix_tup (pv 0) pe_int (fun _ _ => rfl)) pe_str (nomark _)) (pe_one (pe_fn g_is_whole_number hr (pa_cons (pe_ix ix_tup (pv 0) pe_int (fun _ _ => rfl)) (pa_cons pe_int (pa_cons (pe_glob (v := .int 99) rfl C_GREATEST_NUMBER ⟨_, rfl⟩) pa_nil)))))))) pss_nil)
      (pss_cons (ps_if (PW.pt (pw_or (pt_not (pt_truth (pe_fn g_is_row hr (pa_cons (pv 0) (pa_cons pe_int pa_nil))) (fun _ => rfl))) (pw_or (pt_cmpR op_ne (pe_ix ix_tup (pv 0) pe_int (fun _ _ => rfl)) pe_str (nomark _)) (pw_or1 (pt_cmpR op_eq (pv 1) pe_int (nomark _)))))) (pss_one (ps_ret pe_bl)) pss_nil)
      (pss_one (ps_ret (pe_and (pe_fn g_is_plan_within hr (pa_cons (pe_ix ix_tup (pv 0) pe_int (fun _ _ => rfl)) (pa_cons (pe_op op_sub (pv 1) pe_int) pa_nil))) (pe_one (pe_fn g_is_plan_within hr (pa_cons (pe_ix ix_tup (pv 0) pe_int (fun _ _ => rfl)) (pa_cons (pe_op op_sub (pv 1) pe_int) pa_nil)))))))))), ?_⟩
  cases pl with
  | again =>
    obtain ⟨p, rfl, h⟩ := id hP
    refine ⟨_, rfl, p, _, 1, rfl, h.sq, _, rfl, iteT ⟨_, rfl, p, A_AGAIN, _, _, _, rfl, rfl, h.sq, hAg _, ?_⟩⟩
    exact q H (Same.refl _)
  | num m =>
    obtain ⟨p, rfl, h⟩ := id hP
    have hs' : m ≤ 99 := hs
    refine ⟨_, rfl, p, _, 1, rfl, SqT.of h, _, rfl, iteF ⟨_, rfl, p, _, 2, rfl, SqT.of h, _, rfl, iteT ⟨_, rfl, p, _, _, _, rfl, rfl, SqT.of h, rfl, rfl, _, rfl, iteT ?_⟩⟩⟩
    exact ⟨_, rfl, p, _, _, _, rfl, rfl, SqT.of h, rfl, (m : Int), 0, 99, rfl, by lia, by lia, q H (Same.refl _)⟩
  | ask pl1 pl2 =>
    obtain ⟨p, y, z, rfl, h, h1, h2⟩ := id hP
    have hd' : max pl1.dp pl2.dp + 1 ≤ n := hd
    obtain ⟨m, rfl⟩ : ∃ m, n = m + 1 := ⟨n - 1, by lia⟩
    have em : (((m + 1 : Nat) : Int)) - 1 = (m : Int) := by lia
    have e0 : decide (V.int ((m + 1 : Nat) : Int) = V.int 0) = false := decide_eq_false (fun y => by injection y with y; lia)
    refine ⟨_, rfl, p, _, 1, rfl, SqT.of h, _, rfl, iteF ⟨_, rfl, p, _, 2, rfl, SqT.of h, _, rfl, iteF ⟨_, rfl, p, _, 3, rfl, SqT.of h, _, rfl, iteF ⟨_, rfl, p, _, _, _, rfl, rfl, SqT.of h, rfl, rfl, _, rfl, iteF ⟨_, rfl, rfl, _, rfl, ?_⟩⟩⟩⟩⟩
    rw [e0]
    refine iteF ?_
    refine ⟨_, rfl, p, _, _, _, rfl, rfl, SqT.of h, rfl, _, rfl, _, _, rfl, rfl, hg m _ _ _ _ rfl ⟨y, pl1, by rw [← em]; rfl, h1, by lia, hs.1, fun H1 s1 => ?_⟩⟩
    refine ⟨_, rfl, iteT ⟨_, rfl, p, _, _, _, rfl, rfl, SqT.of (s1 _ _ h), rfl, _, rfl, _, _, rfl, rfl, hg m _ _ _ _ rfl ⟨z, pl2, by rw [← em]; rfl, h2.same s1, by lia, hs.2, fun H2 s2 => ?_⟩⟩⟩
    exact q H2 (s1.trans s2)
theorem ok_is_plan (F_is_plan : Fun K "is_plan" "is_plan" s_is_plan f fd) (C' : Cn K mg) (g_is_plan_within : Fn P w K mg base "is_plan_within" p_is_plan_within 14 (spIsW K 12)) : FnOk P w K mg base CX0 15 f fd p_is_plan (spIsPlan K) := by
  refine F_is_plan.ok sc_is_plan (fun vs H Q E h => ?_) (fun cdv A outer s H vs Q E hr h => ?_)
  · obtain ⟨v, pl, rfl, _⟩ := h
    rfl
  obtain ⟨v, pl, rfl, hP, hd, hs, q⟩ := h
  obtain ⟨_, C_MOST_ASKS⟩ := C'.MOST_ASKS
  refine ⟨_, (pss_one (ps_ret (pe_fn g_is_plan_within hr (pa_cons (pv 0) (pa_cons (pe_glob (v := .int 12) rfl C_MOST_ASKS ⟨_, rfl⟩) pa_nil))))), ?_⟩
  exact ⟨_, rfl, v, pl, rfl, hP, hd, hs, q⟩
theorem ok_rows_to (F_rows_to : Fun K "rows_to" "rows_to" s_rows_to f fd) : FnOk P w K mg base CX0 1 f fd p_rows_to spRowsTo := by
  refine F_rows_to.ok sc_rows_to (fun vs H Q E h => ?_) (fun cdv A outer s H vs Q E hr h => ?_)
  · obtain ⟨d, D, rfl, _⟩ := h
    rfl
  obtain ⟨d, D, rfl, hd, hD, q⟩ := h
  refine ⟨_, (pss_one (ps_ret (pe_op op_shl pe_int (pe_op op_sub (pv 1) (pv 0))))), ?_⟩
  refine ⟨_, rfl, _, rfl, _, _, rfl, rfl, _, _, rfl, rfl, ⟨by lia, by lia, by decide⟩, ?_⟩
  show Q (V.int (1 * 2 ^ ((D : Int) - (d : Int)).toNat)) H
  rw [show ((D : Int) - (d : Int)).toNat = D - d by lia, Int.one_mul]
  rw [Int.natCast_pow] at q
  exact q
theorem ok_deep (F_deep : Fun K "deep" "deep" s_deep f fd) (B : Bl mg) (g_ends_of : Fn P w K mg base "ends_of" p_ends_of 13 (spEnds K 12)) : FnOk P w K mg base CX0 14 f fd p_deep (spDeep K) := by
  refine F_deep.ok sc_deep (fun vs H Q E h => ?_) (fun cdv A outer s H vs Q E hr h => ?_)
  · obtain ⟨v, pl, rfl, _⟩ := h
    rfl
  obtain ⟨v, pl, rfl, hP, hd, q⟩ := h
  refine ⟨_, (pss_one (ps_ret (pe_callB (call_maxL rfl) rfl B.max_ L3.bt_max (pa_cons (pe_comp [] ["plan", "depth", "end"] 2 rfl (pi_list (pe_fn g_ends_of hr (pa_cons (pv 0) (pa_cons pe_int pa_nil)))) (fun _ _ _ _ _ => (pg_tupK K 2 rfl (pgs_cons (pg_name (i := 1) nd_7 rfl (Or.inl rfl) (Or.inr rfl)) (pgs_cons (pg_name (i := 2) nd_7 rfl (Or.inl rfl) (Or.inr rfl)) pgs_nil)) rfl rfl rfl)) (fun _ _ _ _ _ => pif_nil) (fun _ _ _ _ _ => (pv 1))) pa_nil)))), ?_⟩
  refine ⟨_, rfl, v, pl, 0, rfl, hP, hd, by decide, fun l as H1 nl s1 w1 e1 => ?_⟩
  have b1 := ends_len pl 0
  have c1 : 2 ^ pl.dp ≤ 4096 := Nat.le_trans (Nat.pow_le_pow_right (n := 2) (by decide) hd) (by decide)
  refine ⟨l, rfl, ⟨_, SqL.of w1⟩, comp_list (xs := as.map V.ref) (fun j acc σ' H' => ∃ (o2 o3 : Option V), acc = ((((ends pl 0).take j).map fun e => (e.2 : Int))).map V.int ∧ H' = H1 ∧ σ' = [some v, o2, o3]) ⟨_, _, rfl, rfl, rfl⟩
    (fun j acc σ' H' hj ⟨_, _, e', _⟩ => by
      rw [e', List.length_map, List.length_map, List.length_take]
      lia) (fun j acc σ' H' _ ⟨_, _, _, y, _⟩ => SqL.of (by rw [y]; exact w1)) ?_ ?_⟩
  · rintro j x acc σ' H' hx ⟨o2, o3, rfl, rfl, rfl⟩
    obtain ⟨a, hja⟩ : ∃ a, as[j]? = some a := by
      rw [List.getElem?_map] at hx
      cases e : as[j]? with
      | none => rw [e] at hx; cases hx
      | some r => exact ⟨r, rfl⟩
    rw [List.getElem?_map, hja] at hx
    cases hx
    have hj : j < (ends pl 0).length := by rw [← e1.1]; exact (List.getElem?_eq_some_iff.mp hja).1
    obtain ⟨en, hen⟩ : ∃ en, (ends pl 0)[j]? = some en := ⟨_, List.getElem?_eq_getElem hj⟩
    obtain ⟨lv, ha, hleaf⟩ := e1.2 j a en hja hen
    refine ⟨a, _, rfl, SqT.of ha, rfl, _, _, rfl, _, _, rfl, rfl, _, rfl, _, _, ?_, rfl, rfl⟩
    rw [List.take_add_one, hen, List.map_append, List.map_append]
    rfl
  rintro acc σ' H2 D ⟨o2, o3, rfl, rfl, rfl⟩ fD
  rw [List.length_map, e1.1, List.take_length]
  have yD := same_new fD (.lst (((ends pl 0).map fun e => (e.2 : Int)).map V.int))
  refine ⟨D, _, rfl, SqL.of upd_same, ?_, fun M hM hle => ?_⟩
  · obtain ⟨e, he, _⟩ := dp_at pl 0
    rw [List.length_map]
    exact List.length_pos_of_mem he
  · have : M = (pl.dp : Int) := by
      obtain ⟨e, he, hd⟩ := dp_at pl 0
      have h1 := hle _ (List.mem_map.mpr ⟨e, he, rfl⟩)
      obtain ⟨e', he', rfl⟩ := List.mem_map.mp hM
      have := ends_deep pl 0 e' he'
      lia
    rw [this]
    exact q _ (s1.trans yD)
end
noncomputable def bump : List (Nat × Nat) → Nat → Nat → List (Nat × Nat)
  | [], n, c => [(n, c)]
  | (m, d) :: l, n, c => if m = n then (m, d + c) :: l else (m, d) :: bump l n c
noncomputable def getc : List (Nat × Nat) → Nat → Nat
  | [], _ => 0
  | (m, d) :: l, n => if m = n then d else getc l n
noncomputable def toK (cs : List (Nat × Nat)) : List (Key × V) := cs.map fun e => (.inl (e.1 : Int), .int (e.2 : Int))
theorem bump_sum : ∀ (cs : List (Nat × Nat)) (n c : Nat), ((bump cs n c).map (·.2)).sum = (cs.map (·.2)).sum + c
  | [], n, c => by show c + 0 = 0 + c; lia
  | (m, d) :: l, n, c => by
    rw [bump]
    split
    · rw [List.map_cons, List.sum_cons, List.map_cons, List.sum_cons]; dsimp only; lia
    · rw [List.map_cons, List.sum_cons, List.map_cons, List.sum_cons, bump_sum l n c]; lia
theorem bump_keys : ∀ (cs : List (Nat × Nat)) (n c x : Nat), x ∈ (bump cs n c).map (·.1) ↔ x = n ∨ x ∈ cs.map (·.1)
  | [], n, c, x => by simp [bump]
  | (m, d) :: l, n, c, x => by
    rw [bump]
    by_cases h : m = n
    · rw [if_pos h]; subst h; simp
    · rw [if_neg h, List.map_cons, List.mem_cons, bump_keys l n c x, List.map_cons, List.mem_cons]
      constructor
      · rintro (h | h | h)
        · exact .inr (.inl h)
        · exact .inl h
        · exact .inr (.inr h)
      · rintro (h | h | h)
        · exact .inr (.inl h)
        · exact .inl h
        · exact .inr (.inr h)
theorem bump_nodup : ∀ (cs : List (Nat × Nat)) (n c : Nat), (cs.map (·.1)).Nodup → ((bump cs n c).map (·.1)).Nodup
  | [], n, c, _ => by simp [bump]
  | (m, d) :: l, n, c, h => by
    rw [List.map_cons, List.nodup_cons] at h
    rw [bump]
    by_cases e : m = n
    · rw [if_pos e, List.map_cons, List.nodup_cons]; exact h
    · rw [if_neg e, List.map_cons, List.nodup_cons]
      refine ⟨fun z => ?_, bump_nodup l n c h.2⟩
      rcases (bump_keys l n c m).mp z with y | y
      · exact e y
      · exact h.1 y
theorem getc_bump : ∀ (cs : List (Nat × Nat)) (n c x : Nat), getc (bump cs n c) x = getc cs x + if x = n then c else 0
  | [], n, c, x => by
    show (if n = x then c else 0) = 0 + _
    by_cases h : n = x
    · rw [if_pos h, if_pos h.symm]; lia
    · rw [if_neg h, if_neg (Ne.symm h)]
  | (m, d) :: l, n, c, x => by
    rw [bump]
    by_cases e : m = n
    · rw [if_pos e, getc, getc]
      by_cases h : m = x
      · rw [if_pos h, if_pos h, if_pos (by lia)]
      · rw [if_neg h, if_neg h, if_neg (by lia)]; rfl
    · rw [if_neg e, getc, getc]
      by_cases h : m = x
      · rw [if_pos h, if_pos h, if_neg (by lia)]; rfl
      · rw [if_neg h, if_neg h, getc_bump l n c x]
theorem toK_any : ∀ (cs : List (Nat × Nat)) (n : Nat), ((toK cs).any fun kv => decide (kv.1 = (Sum.inl (n : Int) : Key))) = decide (n ∈ cs.map (·.1))
  | [], n => rfl
  | (m, d) :: l, n => by
    have ih := toK_any l n
    unfold toK at ih ⊢
    rw [List.map_cons, List.any_cons, ih]
    by_cases h : m = n
    · subst h; simp
    · have : ¬ ((Sum.inl (m : Int) : Key) = Sum.inl (n : Int)) := fun z => h (by injection z with z; lia)
      simp only [decide_eq_false this, Bool.false_or]
      rw [decide_eq_decide, List.map_cons, List.mem_cons]
      exact ⟨fun z => .inr z, fun z => z.resolve_left (Ne.symm h)⟩
theorem toK_same : ∀ (cs : List (Nat × Nat)) (n : Nat) (v : V), n ∉ cs.map (·.1) → (toK cs).map (fun kv => if kv.1 = (Sum.inl (n : Int) : Key) then (kv.1, v) else kv) = toK cs
  | [], n, v, _ => rfl
  | (m, d) :: l, n, v, h => by
    rw [List.map_cons, List.mem_cons, not_or] at h
    have ih := toK_same l n v h.2
    unfold toK at ih ⊢
    have : ¬ ((Sum.inl (m : Int) : Key) = Sum.inl (n : Int)) := fun z => h.1 (by injection z with z; lia)
    rw [List.map_cons, List.map_cons, ih, if_neg this]
theorem toK_map : ∀ (cs : List (Nat × Nat)) (n c : Nat), (cs.map (·.1)).Nodup → n ∈ cs.map (·.1) → (toK cs).map (fun kv => if kv.1 = (Sum.inl (n : Int) : Key) then (kv.1, V.int ((getc cs n + c : Nat) : Int)) else kv) = toK (bump cs n c)
  | [], n, c, _, h => by cases h
  | (m, d) :: l, n, c, nd, h => by
    rw [List.map_cons, List.nodup_cons] at nd
    by_cases e : m = n
    · subst e
      have := toK_same l m (V.int ((getc ((m, d) :: l) m + c : Nat) : Int)) nd.1
      have e2 : getc ((m, d) :: l) m = d := if_pos rfl
      rw [bump, if_pos rfl]
      show (if (Sum.inl (m : Int) : Key) = Sum.inl (m : Int) then _ else _) :: (toK l).map _ = _ :: toK l
      rw [if_pos rfl, this, e2]
    · have h' : n ∈ l.map (·.1) := by
        rw [List.map_cons, List.mem_cons] at h
        exact h.resolve_left (Ne.symm e)
      have ih := toK_map l n c nd.2 h'
      have e2 : getc ((m, d) :: l) n = getc l n := if_neg e
      have : ¬ ((Sum.inl (m : Int) : Key) = Sum.inl (n : Int)) := fun z => e (by injection z with z; lia)
      rw [bump, if_neg e, e2]
      show (if (Sum.inl (m : Int) : Key) = Sum.inl (n : Int) then _ else _) :: (toK l).map _ = _ :: toK (bump l n c)
      rw [if_neg this, ih]
theorem bump_new : ∀ (cs : List (Nat × Nat)) (n c : Nat), n ∉ cs.map (·.1) → bump cs n c = cs ++ [(n, c)] ∧ getc cs n = 0
  | [], n, c, _ => ⟨rfl, rfl⟩
  | (m, d) :: l, n, c, h => by
    rw [List.map_cons, List.mem_cons, not_or] at h
    obtain ⟨h1, h2⟩ := bump_new l n c h.2
    rw [bump, if_neg (Ne.symm h.1), h1, getc, if_neg (Ne.symm h.1)]
    exact ⟨rfl, h2⟩
theorem toK_put {cs : List (Nat × Nat)} {n c : Nat} (nd : (cs.map (·.1)).Nodup) : putK (toK cs) (Sum.inl (n : Int) : Key) (V.int ((getc cs n + c : Nat) : Int)) = toK (bump cs n c) := by
  unfold putK
  rw [toK_any]
  by_cases h : n ∈ cs.map (·.1)
  · rw [if_pos (decide_eq_true h), toK_map cs n c nd h]
  · rw [if_neg (by rw [decide_eq_false h]; decide)]
    obtain ⟨h1, h2⟩ := bump_new cs n c h
    rw [h1, h2, Nat.zero_add]
    unfold toK
    rw [List.map_append]
    rfl
theorem toK_get : ∀ (cs : List (Nat × Nat)) (n : Nat), valV (toK cs) (Sum.inl (n : Int) : Key) = if n ∈ cs.map (·.1) then some (V.int (getc cs n : Int)) else none
  | [], n => rfl
  | (m, d) :: l, n => by
    have ih := toK_get l n
    unfold toK at ih ⊢
    by_cases e : m = n
    · subst e
      rw [List.map_cons, valV_pos rfl, if_pos (by simp), getc, if_pos rfl]
    · have : ¬ ((Sum.inl (m : Int) : Key) = Sum.inl (n : Int)) := fun z => e (by injection z with z; lia)
      rw [List.map_cons, valV_neg this, ih, getc, if_neg e]
      by_cases h : n ∈ l.map (·.1)
      · rw [if_pos h, if_pos (by rw [List.map_cons, List.mem_cons]; exact .inr h)]
      · rw [if_neg h, if_neg (by rw [List.map_cons, List.mem_cons]; rintro (z | z); exact e z.symm; exact h z)]
theorem toK_getD (cs : List (Nat × Nat)) (n : Nat) : (valV (toK cs) (Sum.inl (n : Int) : Key)).getD (.int 0) = V.int (getc cs n : Int) := by
  rw [toK_get]
  by_cases h : n ∈ cs.map (·.1)
  · rw [if_pos h]; rfl
  · rw [if_neg h, (bump_new cs n 0 h).2]; rfl
noncomputable def cts (nd : List (Nat × Nat)) (D : Nat) : List (Nat × Nat) := nd.foldl (fun cs e => bump cs e.1 (2 ^ (D - e.2))) []
theorem cts_snoc (nd : List (Nat × Nat)) (e : Nat × Nat) (D : Nat) : cts (nd ++ [e]) D = bump (cts nd D) e.1 (2 ^ (D - e.2)) := by
  unfold cts
  rw [List.foldl_append]
  rfl
theorem fold_nodup (D : Nat) : ∀ (nd cs : List (Nat × Nat)), (cs.map (·.1)).Nodup → ((nd.foldl (fun cs e => bump cs e.1 (2 ^ (D - e.2))) cs).map (·.1)).Nodup
  | [], cs, h => h
  | e :: l, cs, h => fold_nodup D l _ (bump_nodup cs e.1 _ h)
theorem cts_nodup (nd : List (Nat × Nat)) (D : Nat) : ((cts nd D).map (·.1)).Nodup := fold_nodup D nd [] List.nodup_nil
theorem fold_keys (D x : Nat) : ∀ (nd cs : List (Nat × Nat)), x ∈ (nd.foldl (fun cs e => bump cs e.1 (2 ^ (D - e.2))) cs).map (·.1) ↔ x ∈ cs.map (·.1) ∨ x ∈ nd.map (·.1)
  | [], cs => by simp
  | e :: l, cs => by
    rw [List.foldl_cons, fold_keys D x l, bump_keys, List.map_cons, List.mem_cons]
    constructor
    · rintro ((h | h) | h)
      · exact .inr (.inl h)
      · exact .inl h
      · exact .inr (.inr h)
    · rintro (h | h | h)
      · exact .inl (.inr h)
      · exact .inl (.inl h)
      · exact .inr h
theorem cts_keys (nd : List (Nat × Nat)) (D x : Nat) : x ∈ (cts nd D).map (·.1) ↔ x ∈ nd.map (·.1) := by
  unfold cts
  rw [fold_keys]
  simp
theorem fold_sum (D : Nat) : ∀ (nd cs : List (Nat × Nat)), ((nd.foldl (fun cs e => bump cs e.1 (2 ^ (D - e.2))) cs).map (·.2)).sum = (cs.map (·.2)).sum + (nd.map fun e => 2 ^ (D - e.2)).sum
  | [], cs => rfl
  | e :: l, cs => by rw [List.foldl_cons, fold_sum D l, bump_sum, List.map_cons, List.sum_cons]; lia
theorem fold_get (D x : Nat) : ∀ (nd cs : List (Nat × Nat)), getc (nd.foldl (fun cs e => bump cs e.1 (2 ^ (D - e.2))) cs) x = getc cs x + (nd.map fun e => if x = e.1 then 2 ^ (D - e.2) else 0).sum
  | [], cs => rfl
  | e :: l, cs => by rw [List.foldl_cons, fold_get D x l, getc_bump, List.map_cons, List.sum_cons]; lia
theorem nums_sum (D : Nat) : ∀ es : List (Option Nat × Nat), ((nums es).map fun e => 2 ^ (D - e.2)).sum = shP (·.isSome) es D
  | [] => rfl
  | (none, d) :: l => by
    have := nums_sum D l
    unfold shP at this ⊢
    rw [List.map_cons, List.sum_cons, if_neg (by show ¬ false = true; decide), Nat.zero_add]
    exact this
  | (some n, d) :: l => by
    have := nums_sum D l
    unfold shP at this ⊢
    rw [List.map_cons, List.sum_cons, if_pos (by rfl), ← this]
    rfl
theorem nums_get (D x : Nat) : ∀ es : List (Option Nat × Nat), ((nums es).map fun e => if x = e.1 then 2 ^ (D - e.2) else 0).sum = shP (· == some x) es D
  | [] => rfl
  | (none, d) :: l => by
    have := nums_get D x l
    unfold shP at this ⊢
    rw [List.map_cons, List.sum_cons, if_neg (by simp), Nat.zero_add]
    exact this
  | (some n, d) :: l => by
    have := nums_get D x l
    unfold shP at this ⊢
    rw [List.map_cons, List.sum_cons, ← this]
    show (if x = n then 2 ^ (D - d) else 0) + _ = _
    congr 1
    by_cases h : x = n
    · rw [if_pos h, if_pos (by simpa using h.symm)]
    · rw [if_neg h, if_neg (by simpa using Ne.symm h)]
theorem cts_sum (es : List (Option Nat × Nat)) (D : Nat) : ((cts (nums es) D).map (·.2)).sum = shP (·.isSome) es D := by
  unfold cts
  rw [fold_sum, nums_sum]
  show 0 + _ = _
  rw [Nat.zero_add]
theorem cts_get (es : List (Option Nat × Nat)) (D x : Nat) : getc (cts (nums es) D) x = shP (· == some x) es D := by
  unfold cts
  rw [fold_get, nums_get]
  show 0 + _ = _
  rw [Nat.zero_add]
theorem nums_mem (es : List (Option Nat × Nat)) (x : Nat) : x ∈ (nums es).map (·.1) ↔ ∃ d, (some x, d) ∈ es := by
  unfold nums
  rw [List.mem_map]
  constructor
  · rintro ⟨e, he, rfl⟩
    obtain ⟨e', he', h⟩ := List.mem_filterMap.mp he
    obtain ⟨o, d⟩ := e'
    cases o with
    | none => cases h
    | some n => cases h; exact ⟨d, he'⟩
  · rintro ⟨d, h⟩
    exact ⟨(x, d), List.mem_filterMap.mpr ⟨_, h, rfl⟩, rfl⟩
theorem nodup_le {α : Type} [DecidableEq α] : ∀ {l m : List α}, l.Nodup → (∀ x ∈ l, x ∈ m) → l.length ≤ m.length
  | [], _, _, _ => Nat.zero_le _
  | a :: l, m, nd, h => by
    rw [List.nodup_cons] at nd
    have ha := h a (by simp)
    have h1 : ∀ x ∈ l, x ∈ m.erase a := fun x hx => (List.mem_erase_of_ne (fun e => nd.1 (by rw [← e]; exact hx))).mpr (h x (by simp [hx]))
    have h2 := nodup_le nd.2 h1
    rw [List.length_erase_of_mem ha] at h2
    have h3 := List.length_pos_of_mem ha
    rw [List.length_cons]
    lia
theorem sorted_nats {ks : List Nat} {ns : List Int} (nd : ks.Nodup) (hp : ns.Perm (ks.map fun (n : Nat) => (n : Int))) (ho : ns.Pairwise (· ≤ ·)) : ∃ ms : List Nat, ns = ms.map (fun (n : Nat) => (n : Int)) ∧ ms.Pairwise (· < ·) ∧ ∀ n, n ∈ ms ↔ n ∈ ks := by
  have hnn : ∀ z ∈ ns, 0 ≤ z := fun z hz => by
    obtain ⟨n, _, rfl⟩ := List.mem_map.mp (hp.mem_iff.mp hz)
    lia
  have e1 : ns = (ns.map Int.toNat).map (fun (n : Nat) => (n : Int)) := by
    rw [List.map_map]
    conv => lhs; rw [← List.map_id ns]
    refine List.map_congr_left fun z hz => ?_
    have := hnn z hz
    show z = ((z.toNat : Nat) : Int)
    lia
  have hnd : ns.Nodup := by
    rw [hp.nodup_iff]
    exact List.Pairwise.map _ (fun a b h e => h (by lia)) nd
  have hlt : ns.Pairwise (· < ·) := by
    have := List.Pairwise.and ho hnd
    exact this.imp fun {a b} ⟨h1, h2⟩ => by lia
  refine ⟨ns.map Int.toNat, e1, ?_, fun n => ?_⟩
  · rw [e1] at hlt
    rw [List.pairwise_map] at hlt
    exact hlt.imp fun {a b} h => by lia
  · constructor
    · intro h
      have : (n : Int) ∈ ns := by
        rw [e1]
        exact List.mem_map.mpr ⟨n, h, rfl⟩
      obtain ⟨m, hm, e⟩ := List.mem_map.mp (hp.mem_iff.mp this)
      have : m = n := by lia
      rw [← this]; exact hm
    · intro h
      have : (n : Int) ∈ ns := hp.mem_iff.mpr (List.mem_map.mpr ⟨n, h, rfl⟩)
      exact List.mem_map.mpr ⟨_, this, by lia⟩
theorem shP_le (P : Option Nat → Bool) : ∀ (l : List (Option Nat × Nat)) (D : Nat), shP P l D ≤ l.length * 2 ^ D
  | [], D => Nat.zero_le _
  | e :: l, D => by
    have ih := shP_le P l D
    unfold shP at ih ⊢
    rw [List.map_cons, List.sum_cons, List.length_cons, Nat.succ_mul]
    have : 2 ^ (D - e.2) ≤ 2 ^ D := Nat.pow_le_pow_right (by decide) (by lia)
    have h3 := Nat.two_pow_pos D
    split <;> lia
inductive spSh (K : PySem.W.Frag) (vs : List V) (H : Hp) (Q : VK) (E : XK) : Prop
  | mk (v : V) (pl : Pn) (f1 : vs = [v]) (f2 : PnAt K H pl v) (f3 : pl.dp ≤ 12) (f4 : pl.has = true) (f5 : (∀ (n d : Nat), (some n, d) ∈ ends pl 0 → n < 60)) (f6 : ∀ p (rs : List Addr) (ms : List Nat) H', Same H H' → H' p = some (.tup (rs.map V.ref)) → ms.Pairwise (· < ·) → (∀ (n : Nat), n ∈ ms ↔ ∃ d, (some n, d) ∈ ends pl 0) → rs.length = ms.length → (∀ (j : Nat) (r : Addr) (n : Nat), rs[j]? = some r → ms[j]? = some n → ∃ fp, H' r = some (.tup [.int (n : Int), .ref fp]) ∧ H' fp = some (.tup (frV (shP (· == some n) (ends pl 0) pl.dp) (shP (·.isSome) (ends pl 0) pl.dp)))) → Q (.ref p) H') : spSh K vs H Q E
section
variable {P : Program} {w : World} {K : PySem.W.Frag} {mg : Str → Option Value} {base : Heap} {f CS : Addr} {fd : FuncData}
theorem ok_shares_of (F_shares_of : Fun K "shares_of" "shares_of" s_shares_of f fd) (B : Bl mg) {fN : Addr} {dN : FuncData} (g_numbered_ends : FnX P w K mg base "numbered_ends" fN dN p_numbered_ends 14 (spNE2 K CS)) (g_deep : Fn P w K mg base "deep" p_deep 14 (spDeep K)) (g_rows_to : Fn P w K mg base "rows_to" p_rows_to 14 spRowsTo) (g_fraction : Fn P w K mg base "fraction" p_fraction 14 spFrac) : FnOk P w K mg base CX0 15 f fd p_shares_of (spSh K) := by
  refine F_shares_of.ok sc_shares_of (fun vs H Q E h => ?_) (fun cdv A outer s H vs Q E hr h => ?_)
  · obtain ⟨v, pl, rfl, _⟩ := h
    rfl
  obtain ⟨v, pl, rfl, hP, hd, hh, h60, q⟩ := h
  refine ⟨_, (pss_cons (ps_set (i := 1) sc_shares_of.nd rfl (Or.inl rfl) (pe_fn g_deep hr (pa_cons (pv 0) pa_nil)))
      (pss_cons (ps_set (i := 2) sc_shares_of.nd rfl (Or.inr rfl) pe_dnewK)
      (pss_cons (ps_for PassesOwn.never rfl (pi_list (pe_calm (px_fn g_numbered_ends hr (pa_cons (pv 0) pa_nil)))) (pg_tup rfl (pgs_cons (pg_name (i := 3) sc_shares_of.nd rfl (Or.inl rfl)) (pgs_cons (pg_name (i := 4) sc_shares_of.nd rfl (Or.inl rfl)) pgs_nil))) (pss_one (ps_dput hr.units1 (pv 2) (pv 4) (pe_op op_add (pe_dget2 hr.units1 (pv 2) (pv 4) pe_int ⟨rfl, rfl, rfl, rfl⟩) (pe_fn g_rows_to hr (pa_cons (pv 3) (pa_cons (pv 1) pa_nil)))) rfl)))
      (pss_cons (ps_set (i := 5) sc_shares_of.nd rfl (Or.inr rfl) (pe_sumVals rfl rfl B.sum_ (pv 2)))
      (pss_one (ps_ret (pe_callTy call_tuple_of rfl B.tuple_ L3.bt_tuple (pa_cons (pe_comp [4] ["plan", "deepest", "rows", "depth", "number", "total"] 0 rfl (pi_list (pe_callB (call_sortedD rfl) rfl B.sorted_ L3.bt_sorted (pa_cons (pv 2) pa_nil))) (fun _ _ _ _ _ => (pg_name (i := 4) nd_8 rfl (Or.inl rfl) (Or.inr rfl))) (fun _ _ _ _ _ => pif_nil) (fun _ _ _ _ _ => (pe_tup (pa_cons (pv 4) (pa_cons (pe_fn g_fraction hr (pa_cons (pe_dget hr.units1 (pv 2) (pv 4) (fun _ _ => rfl)) (pa_cons (pv 5) pa_nil))) pa_nil))))) pa_nil)))))))), ?_⟩
  refine ⟨_, rfl, v, pl, rfl, hP, hd, fun H1 s1 => ?_⟩
  refine fun d fd' => ?_
  have yd := same_new fd' (.dK [])
  have wd : (upd H1 d (.dK [])) d = some (.dK []) := upd_same
  generalize upd H1 d (.dK []) = H2 at yd wd ⊢
  have s2 := s1.trans yd
  refine ⟨_, rfl, v, pl, rfl, hP.same s2, hd, fun _ l as H3 s3 w3 e3 => ?_, fun c => by rw [hh] at c; cases c⟩
  have b1 := ends_len pl 0
  have c1 : 2 ^ pl.dp ≤ 4096 := Nat.le_trans (Nat.pow_le_pow_right (n := 2) (by decide) hd) (by decide)
  have hdl : ∀ e ∈ nums (ends pl 0), e.2 ≤ pl.dp := fun e he => by
    obtain ⟨e', he', h⟩ := List.mem_filterMap.mp he
    have := (ends_deep pl 0 e' he').2
    obtain ⟨o, d⟩ := e'
    cases o with
    | none => cases h
    | some n => cases h; show d ≤ _; lia
  have fdH : ∀ c o, H c = some o → c ≠ d := fun c o e z => by rw [z] at e; have := s1 _ _ e; rw [fd'] at this; cases this
  have hnl : (nums (ends pl 0)).length ≤ 4096 := Nat.le_trans (List.length_filterMap_le _ _) (by lia)
  refine ⟨l, rfl, ⟨_, SqL.of w3⟩, for_list (xs := as.map V.ref) (fun j σ' H' => ∃ (o3 o4 : Option V), σ' = [some v, some (.int (pl.dp : Int)), some (.ref d), o3, o4, none] ∧ (∀ c o, c ≠ d → H3 c = some o → H' c = some o) ∧ H' d = some (.dK (toK (cts ((nums (ends pl 0)).take j) pl.dp))))
    ⟨_, _, rfl, fun c o _ e => e, s3 _ _ wd⟩ (fun j σ' H' _ ⟨_, _, _, y, _⟩ => SqL.of (y _ _ (fun z => by rw [z, s3 _ _ wd] at w3; cases w3) w3)) ?_ ?_⟩
  · rintro j x σ' H4 hx ⟨o3, o4, rfl, y, hD⟩
    obtain ⟨a, hja⟩ : ∃ a, as[j]? = some a := by
      rw [List.getElem?_map] at hx
      cases e : as[j]? with
      | none => rw [e] at hx; cases hx
      | some r => exact ⟨r, rfl⟩
    rw [List.getElem?_map, hja] at hx
    cases hx
    have hj : j < (nums (ends pl 0)).length := by rw [← e3.1]; exact (List.getElem?_eq_some_iff.mp hja).1
    obtain ⟨en, hen⟩ : ∃ en, (nums (ends pl 0))[j]? = some en := ⟨_, List.getElem?_eq_getElem hj⟩
    have ha := e3.2 j a en hja hen
    have ha' := y a _ (fun z => by rw [z, s3 _ _ wd] at ha; cases ha) ha
    have hle := hdl en (List.mem_of_getElem? hen)
    have hnext : cts ((nums (ends pl 0)).take (j + 1)) pl.dp = bump (cts ((nums (ends pl 0)).take j) pl.dp) en.1 (2 ^ (pl.dp - en.2)) := by
      rw [List.take_add_one, hen]
      exact cts_snoc _ _ _
    have hlen : (cts ((nums (ends pl 0)).take j) pl.dp).length ≤ 60 := by
      have := nodup_le (cts_nodup ((nums (ends pl 0)).take j) pl.dp) (m := List.range 60) fun x hx => by
        rw [cts_keys] at hx
        obtain ⟨e, he, rfl⟩ := List.mem_map.mp hx
        obtain ⟨d', hd'⟩ := (nums_mem (ends pl 0) e.1).mp (List.mem_map.mpr ⟨e, List.mem_of_mem_take he, rfl⟩)
        exact List.mem_range.mpr (h60 _ _ hd')
      rw [List.length_map, List.length_range] at this
      exact this
    have hnd := cts_nodup ((nums (ends pl 0)).take j) pl.dp
    generalize cts ((nums (ends pl 0)).take j) pl.dp = cs at hD hnext hlen hnd
    refine ⟨a, _, rfl, SqT.of ha', rfl, _, _, rfl, _, _, rfl, rfl, ?_⟩
    refine ⟨_, rfl, d, rfl, .inl ⟨_, .inl hD⟩, _, rfl, _, DGet.k (k := .inl (en.1 : Int)) hD, _, rfl, _, rfl, en.2, pl.dp, rfl, hle, hd, _, _, toK_getD cs en.1, rfl, ?_⟩
    refine ⟨_, rfl, _, rfl, d, _, rfl, DPut.k (k := .inl (en.1 : Int)) hD (smallL (by unfold toK; rw [List.length_map]; lia)), ?_⟩
    refine ⟨_, _, rfl, fun c o hc e => by rw [upd_ne hc]; exact y c o hc e, ?_⟩
    rw [upd_same, hnext, ← toK_put hnd]
    rfl
  rintro σ' H4 ⟨o3, o4, rfl, y, hD⟩
  rw [List.length_map, e3.1, List.take_length] at hD
  have hnd := cts_nodup (nums (ends pl 0)) pl.dp
  have hlen : (cts (nums (ends pl 0)) pl.dp).length ≤ 60 := by
    have := nodup_le hnd (m := List.range 60) fun x hx => by
      rw [cts_keys] at hx
      obtain ⟨d', hd'⟩ := (nums_mem (ends pl 0) x).mp hx
      exact List.mem_range.mpr (h60 _ _ hd')
    rw [List.length_map, List.length_range] at this
    exact this
  have hsum := cts_sum (ends pl 0) pl.dp
  have hget := cts_get (ends pl 0) pl.dp
  have hkey : ∀ x, x ∈ (cts (nums (ends pl 0)) pl.dp).map (·.1) ↔ ∃ d, (some x, d) ∈ ends pl 0 := fun x => by rw [cts_keys]; exact nums_mem _ x
  generalize cts (nums (ends pl 0)) pl.dp = cs at hD hnd hlen hsum hget hkey
  have hpos : 0 < shP (fun o => o.isSome) (ends pl 0) pl.dp := by
    have hh2 := hh
    rw [← has_ends pl 0, List.any_eq_true] at hh2
    obtain ⟨e, he, hs⟩ := hh2
    exact shP_mem (P := fun o => o.isSome) (e := e) hs he
  generalize hT : shP (fun o => o.isSome) (ends pl 0) pl.dp = T at hpos hsum q
  refine ⟨_, rfl, d, _, (cs.map fun e => (e.2 : Int)), rfl, hD, by unfold toK; rw [List.map_map, List.map_map]; rfl, ?_⟩
  have es : (cs.map fun e => (e.2 : Int)).sum = (T : Int) := by
    rw [← hsum, ← sum_nats, List.map_map]
    rfl
  rw [es]
  refine ⟨_, rfl, d, _, (cs.map (·.1)).map (fun (n : Nat) => (n : Int)), rfl, hD, by unfold toK; rw [List.map_map, List.map_map, List.map_map]; rfl, by rw [List.length_map, List.length_map]; lia, fun L ns' fL hp ho => ?_⟩
  obtain ⟨ms, rfl, hms, hmem⟩ := sorted_nats hnd hp ho
  have yL := same_new fL (.lst ((ms.map fun (n : Nat) => (n : Int)).map V.int))
  have wL : (upd H4 L (.lst ((ms.map fun (n : Nat) => (n : Int)).map V.int))) L = some (.lst ((ms.map fun (n : Nat) => (n : Int)).map V.int)) := upd_same
  generalize upd H4 L (.lst ((ms.map fun (n : Nat) => (n : Int)).map V.int)) = H5 at yL wL ⊢
  have hD5 := yL _ _ hD
  have hml : ms.length ≤ 60 := by
    have := hp.length_eq
    rw [List.length_map, List.length_map, List.length_map] at this
    lia
  have hTf : Fit T := by
    refine Fit.of ?_
    have h1 := shP_le (fun o => o.isSome) (ends pl 0) pl.dp
    rw [hT] at h1
    have h2 : (ends pl 0).length * 2 ^ pl.dp ≤ 4096 * 4096 := Nat.mul_le_mul (by lia) c1
    lia
  refine ⟨L, rfl, ⟨_, SqL.of wL⟩, comp_list (xs := (ms.map fun (n : Nat) => (n : Int)).map V.int) (fun j acc σ' H' => ∃ (rs : List Addr) (o3 o4 : Option V), acc = rs.map V.ref ∧ rs.length = j ∧ σ' = [some v, some (.int (pl.dp : Int)), some (.ref d), o3, o4, some (.int (T : Int))] ∧ Same H5 H' ∧ ∀ (i : Nat) (r : Addr) (n : Nat), rs[i]? = some r → ms[i]? = some n → ∃ fp, H' r = some (.tup [.int (n : Int), .ref fp]) ∧ H' fp = some (.tup (frV (getc cs n) T)))
    ⟨[], _, _, rfl, rfl, rfl, Same.refl _, fun i r n e => by simp at e⟩
    (fun j acc σ' H' hj ⟨rs, _, _, e', hb, _⟩ => by
      rw [e', List.length_map]
      rw [List.length_map, List.length_map] at hj
      lia) (fun j acc σ' H' _ ⟨_, _, _, _, _, _, y', _⟩ => SqL.of (y' _ _ wL)) ?_ ?_⟩
  · rintro j x acc σ' H6 hx ⟨rs, o3, o4, rfl, hrl, rfl, y6, hr6⟩
    rw [List.getElem?_map, List.getElem?_map] at hx
    obtain ⟨n, hn⟩ : ∃ n, ms[j]? = some n := by
      cases e : ms[j]? with
      | none => rw [e] at hx; cases hx
      | some r => exact ⟨r, rfl⟩
    rw [hn] at hx
    obtain rfl : V.int (n : Int) = x := Option.some.inj hx
    have hin : n ∈ cs.map (·.1) := (hmem n).mp (List.mem_of_getElem? hn)
    have hg := DGet.k (k := .inl (n : Int)) (y6 _ _ hD5)
    rw [toK_get, if_pos hin] at hg
    refine ⟨_, rfl, _, rfl, _, rfl, d, _, rfl, hg, _, rfl, getc cs n, T, rfl, hpos, hTf, fun fp H7 y7 w7 => ?_⟩
    refine ⟨(by show 2 ≤ sizeLine; decide), fun p fp' => ?_⟩
    have y8 := same_new fp' (.tup [V.int (n : Int), V.ref fp])
    have w8 : (upd H7 p (.tup [V.int (n : Int), V.ref fp])) p = some (.tup [V.int (n : Int), V.ref fp]) := upd_same
    generalize upd H7 p (.tup [V.int (n : Int), V.ref fp]) = H8 at y8 w8 ⊢
    refine ⟨rs ++ [p], _, _, by rw [List.map_append]; rfl, by rw [List.length_append, hrl]; rfl, rfl, (y6.trans y7).trans y8, fun i r n' e1 e2 => ?_⟩
    by_cases c : i < rs.length
    · rw [List.getElem?_append_left c] at e1
      obtain ⟨fp2, z1, z2⟩ := hr6 i r n' e1 e2
      exact ⟨fp2, y8 _ _ (y7 _ _ z1), y8 _ _ (y7 _ _ z2)⟩
    · rw [List.getElem?_append_right (by lia)] at e1
      have hi : i - rs.length = 0 := by
        have := (List.getElem?_eq_some_iff.mp e1).1
        simpa using this
      rw [hi] at e1
      cases e1
      have hi2 : i = j := by lia
      subst hi2
      rw [hn] at e2
      cases e2
      exact ⟨fp, w8, y8 _ _ w7⟩
  rintro acc σ' H6 D ⟨rs, o3, o4, rfl, hrl, rfl, y6, hr6⟩ fD
  rw [List.length_map, List.length_map] at hrl
  have yD := same_new fD (.lst (rs.map V.ref))
  refine ⟨D, _, rfl, .inl ⟨SqL.of upd_same, fun p fp => ?_⟩⟩
  have yp := same_new fp (.tup (rs.map V.ref))
  refine q p rs ms _ (fun c o e => ?_) upd_same hms (fun n => ?_) hrl (fun i r n e1 e2 => ?_)
  · have e3 := s3 _ _ (s2 _ _ e)
    exact yp _ _ (yD _ _ (y6 _ _ (yL _ _ (y c o (fdH c o e) e3))))
  · rw [hmem, hkey]
  · obtain ⟨fp2, z1, z2⟩ := hr6 i r n e1 e2
    rw [hget] at z2
    exact ⟨fp2, yp _ _ (yD _ _ z1), yp _ _ (yD _ _ z2)⟩
end
theorem comp_rangeS {lo st : Int} {n : Nat} {g : TG} {tt : TT} {te : TE} {σ : St} {H : Hp} {Q : VK} (Pv : Nat → List V → St → Hp → Prop) (h0 : Pv 0 [] σ H) (hl : ∀ i acc σ H, i ≤ n → Pv i acc σ H → acc.length ≤ 1000000)
    (hs : ∀ i acc σ H, i < n → Pv i acc σ H → g (.int (lo + i * st)) σ H fun σ2 H3 => tt σ2 H3 fun b H4 => if b = true then te σ2 H4 fun y H5 => Pv (i + 1) (acc ++ [y]) σ2 H5 else Pv (i + 1) acc σ2 H4)
    (hd : ∀ acc σ H D, Pv n acc σ H → H D = none → Q (.ref D) (upd H D (.lst acc))) : compW (ItrS lo st n) g tt te σ H Q :=
  comp_of Pv h0 hl (fun i acc σ H h _ => h) (fun acc σ H _ => Nat.le_refl _) (fun i acc σ H h p x H2 y => by
    obtain ⟨e, e2⟩ := y
    subst e e2
    exact hs i acc σ _ h p) hd
noncomputable def PL (K : PySem.W.Frag) (H : Hp) (vs : List V) (ps : List Pn) : Prop := vs.length = ps.length ∧ ∀ (j : Nat) (v : V) (p : Pn), vs[j]? = some v → ps[j]? = some p → PnAt K H p v
theorem PL.same {K : PySem.W.Frag} {H H' : Hp} {vs : List V} {ps : List Pn} (h : PL K H vs ps) (s : Same H H') : PL K H' vs ps := ⟨h.1, fun j v p e1 e2 => (h.2 j v p e1 e2).same s⟩
theorem PL.nil {K : PySem.W.Frag} {H : Hp} : PL K H [] [] := ⟨rfl, fun j v p e => by simp at e⟩
theorem PL.app {K : PySem.W.Frag} {H : Hp} {vs us : List V} {ps qs : List Pn} (h : PL K H vs ps) (g : PL K H us qs) : PL K H (vs ++ us) (ps ++ qs) := by
  refine ⟨by rw [List.length_append, List.length_append, h.1, g.1], fun j a e e1 e2 => ?_⟩
  by_cases c : j < vs.length
  · rw [List.getElem?_append_left c] at e1
    rw [List.getElem?_append_left (by rw [← h.1]; exact c)] at e2
    exact h.2 j a e e1 e2
  · rw [List.getElem?_append_right (by lia)] at e1
    rw [List.getElem?_append_right (by rw [← h.1]; lia), ← h.1] at e2
    exact g.2 _ a e e1 e2
theorem PL.one {K : PySem.W.Frag} {H : Hp} {v : V} {p : Pn} (h : PnAt K H p v) : PL K H [v] [p] := by
  refine ⟨rfl, fun j a e e1 e2 => ?_⟩
  have hj : j = 0 := by
    have := (List.getElem?_eq_some_iff.mp e1).1
    simpa using this
  subst hj
  cases e1
  cases e2
  exact h
theorem PL.at' {K : PySem.W.Frag} {H : Hp} {vs : List V} {ps : List Pn} (h : PL K H vs ps) {j : Nat} (hj : j < ps.length) : ∃ v p, vs[j]? = some v ∧ ps[j]? = some p ∧ PnAt K H p v :=
  ⟨_, _, List.getElem?_eq_getElem (by rw [h.1]; exact hj), List.getElem?_eq_getElem hj, h.2 j _ _ (List.getElem?_eq_getElem (by rw [h.1]; exact hj)) (List.getElem?_eq_getElem hj)⟩
theorem EndsL.snoc {K : PySem.W.Frag} {H : Hp} {as : List Addr} {es : List (Option Nat × Nat)} {p : Addr} {o : Option Nat} {d : Nat} {v : V} (h : EndsL K H as es) (hp : H p = some (.tup [.int (d : Int), v])) (hv : LeafV K H o v) : EndsL K H (as ++ [p]) (es ++ [(o, d)]) := by
  refine h.app ⟨rfl, fun j a e e1 e2 => ?_⟩
  have hj : j = 0 := by
    have := (List.getElem?_eq_some_iff.mp e1).1
    simpa using this
  subst hj
  cases e1
  cases e2
  exact ⟨v, hp, hv⟩
theorem figO_take (es : List (Option Nat × Nat)) (k j : Nat) (e : Option Nat × Nat) (h : es[j]? = some e) : figO (es.take (j + 1)) k = figO (es.take j) k ++ (if e.2 / 2 ^ k % 2 = 1 then [e.1] else []) := by
  unfold figO
  rw [List.take_add_one, h, List.filter_append, List.map_append]
  congr 1
  show (([e].filter _).map _ : List (Option Nat)) = _
  rw [List.filter_cons]
  by_cases c : e.2 / 2 ^ k % 2 = 1
  · rw [if_pos c, if_pos (decide_eq_true c)]; rfl
  · rw [if_neg c, if_neg (by rw [decide_eq_false c]; decide)]; rfl
theorem figO_le (es : List (Option Nat × Nat)) (k : Nat) : (figO es k).length ≤ es.length := by
  unfold figO
  rw [List.length_map]
  exact List.length_filter_le _ _
theorem parts_le (es : List (Option Nat × Nat)) : ∀ k, (parts es k).length ≤ 2 * es.length
  | 0 => Nat.zero_le _
  | k + 1 => by
    have ih := parts_le es k
    have := figO_le es k
    rw [parts, List.length_append, List.length_map, asks_len]
    lia
inductive spOf (K : PySem.W.Frag) (vs : List V) (H : Hp) (Q : VK) (E : XK) : Prop
  | mk (r : Addr) (ws : List Nat) (f1 : vs = [.ref r]) (f2 : H r = some (.tup (vnats ws))) (f3 : 0 < ws.sum) (f4 : ws.sum ≤ 4096) (f5 : ws.length ≤ 8) (f6 : ∀ v D H', Same H H' → isD ws.sum D → PnAt K H' (plW ws D) v → Q v H') : spOf K vs H Q E
section
variable {P : Program} {w : World} {K : PySem.W.Frag} {mg : Str → Option Value} {base : Heap} {f : Addr} {fd : FuncData}
theorem ok_plan_of (F_plan_of : Fun K "plan_of" "plan_of" s_plan_of f fd) (B : Bl mg) (C' : Cn K mg) : FnOk P w K mg base CX0 1 f fd p_plan_of (spOf K) := by
  refine F_plan_of.ok sc_plan_of (fun vs H Q E h => ?_) (fun cdv A outer s H vs Q E hr h => ?_)
  · obtain ⟨r, ws, rfl, _⟩ := h
    rfl
  obtain ⟨r, ws, rfl, hW, h0, h4, h8, q⟩ := h
  obtain ⟨A_AGAIN, C_AGAIN, hAg⟩ := C'.AGAIN
  refine ⟨_, (pss_cons (ps_set (i := 1) sc_plan_of.nd rfl (Or.inl rfl) (pe_callB (call_sumT rfl) rfl B.sum_ L3.bt_sum (pa_cons (pv 0) pa_nil)))
      (pss_cons (ps_set (i := 2) sc_plan_of.nd rfl (Or.inl rfl) pe_int)
      (pss_cons (ps_while PassesOwn.never (pt_cmpR op_lt (pe_op op_shl pe_int (pv 2)) (pv 1) (nomark _)) (pss_one (ps_set (i := 2) sc_plan_of.nd rfl (Or.inl rfl) (pe_op op_add (pv 2) pe_int))))
      (pss_cons (ps_comp 3 [] ["weights", "total", "depth", "ends", "parts", "place", "asks", "number", "weight"] 2 rfl sc_plan_of.nd rfl rfl (pi_enumT rfl B.enumerate_ (pa_cons (pv 0) pa_nil)) (fun _ _ _ _ _ => (pg_tupK K 2 rfl (pgs_cons (pg_name (i := 7) nd_9 rfl (Or.inl rfl) (Or.inr rfl)) (pgs_cons (pg_name (i := 8) nd_9 rfl (Or.inl rfl) (Or.inr rfl)) pgs_nil)) rfl rfl rfl)) (fun _ _ _ _ _ => pif_nil) (fun _ _ _ _ _ => (pe_tup (pa_cons (pv 8) (pa_cons (pe_tup (pa_cons pe_str (pa_cons (pv 7) pa_nil))) pa_nil)))))
      (pss_cons (ps_expr (pe_bm PySem.F.plainAttrs_list PySem.F.slot_list_append PySem.F.type_list_append mt_append (pv 3) (pa_cons (pe_tup (pa_cons (pe_op op_sub (pe_op op_shl pe_int (pv 2)) (pv 1)) (pa_cons (pe_glob (v := .ref A_AGAIN) rfl C_AGAIN rfl) pa_nil))) pa_nil)))
      (pss_cons (ps_set (i := 4) sc_plan_of.nd rfl (Or.inr rfl) (pe_lst pa_nil))
      (pss_cons (ps_for PassesOwn.never rfl (pi_range1 rfl B.range_ (pa_cons (pe_op op_add (pv 2) pe_int) pa_nil)) (pg_name (i := 5) sc_plan_of.nd rfl (Or.inr rfl)) (pss_cons (ps_comp 6 [] ["weights", "total", "depth", "ends", "parts", "place", "asks", "left"] 1 rfl sc_plan_of.nd rfl rfl (pi_rangeTwo rfl B.range_ (pa_cons pe_int (pa_cons (pe_callB call_len_seq rfl B.len_ L3.bt_len (pa_cons (pv 4) pa_nil)) (pa_cons pe_int pa_nil)))) (fun _ _ _ _ _ => (pg_name (i := 7) nd_10 rfl (Or.inl rfl) (Or.inr rfl))) (fun _ _ _ _ _ => pif_nil) (fun _ _ _ _ _ => (pe_tup (pa_cons pe_str (pa_cons (pe_ix (ix_listK K rfl) (pv 4) (pv 7) (fun _ _ => rfl)) (pa_cons (pe_ix (ix_listK K rfl) (pv 4) (pe_op op_add (pv 7) pe_int) (fun _ _ => rfl)) pa_nil))))))
      (pss_one (ps_set (i := 4) sc_plan_of.nd rfl (Or.inr rfl) (pe_op op_cat (pe_comp [] ["weights", "total", "depth", "ends", "parts", "place", "asks", "weight", "end"] 2 rfl (pi_list (pv 3)) (fun _ _ _ _ _ => (pg_tupK K 2 rfl (pgs_cons (pg_name (i := 7) nd_11 rfl (Or.inl rfl) (Or.inr rfl)) (pgs_cons (pg_name (i := 8) nd_11 rfl (Or.inl rfl) (Or.inr rfl)) pgs_nil)) rfl rfl rfl)) (fun _ _ _ _ _ => (pif_one (pt_cmpR op_eq (pe_op op_mod (pe_op op_shr (pv 7) (pv 5)) pe_int) pe_int (nomark _)))) (fun _ _ _ _ _ => (pv 8))) (pv 6))))))
      (pss_one (ps_ret (pe_ix ix_list (pv 4) pe_int (fun _ _ => rfl))))))))))), ?_⟩
  have hsq : SqT K H r ((ws.map (fun (n : Nat) => (n : Int))).map V.int) := SqT.of (by rw [← vnats_ints]; exact hW)
  refine ⟨_, rfl, r, ws.map (fun (n : Nat) => (n : Int)), rfl, hsq, ?_⟩
  rw [sum_nats]
  generalize hS : ws.sum = S at h0 h4 q
  refine ⟨fun m σ' H' => ∃ D : Nat, m = 13 - D ∧ D ≤ 12 ∧ σ' = [some (.ref r), some (.int (S : Int)), some (.int (D : Int)), none, none, none, none] ∧ H' = H ∧ ∀ j, j < D → 2 ^ j < S, ⟨_, 0, rfl, by decide, rfl, rfl, fun j hj => absurd hj (Nat.not_lt_zero _)⟩, ?_⟩
  rintro m σ' H' ⟨D, rfl, hD12, rfl, eH, hD⟩
  obtain rfl : H = H' := eH.symm
  clear eH
  have ep : (1 : Int) * 2 ^ ((D : Int)).toNat = ((2 ^ D : Nat) : Int) := by rw [Int.toNat_natCast, Int.one_mul, Int.natCast_pow]; rfl
  refine ⟨_, rfl, _, _, rfl, rfl, ⟨by lia, by lia, by decide⟩, _, rfl, _, _, rfl, rfl, _, rfl, ite2 (fun c => ?_) (fun c => ?_)⟩
  · have c' : (1 : Int) * 2 ^ ((D : Int)).toNat < (S : Int) := of_decide_eq_true c
    rw [ep] at c'
    have hlt : 2 ^ D < S := by lia
    have hD11 : D < 12 := by
      rcases Nat.lt_or_ge D 12 with z | z
      · exact z
      · have : 2 ^ 12 ≤ 2 ^ D := Nat.pow_le_pow_right (by decide) z
        lia
    exact ⟨_, fun _ _ z => z, _, rfl, _, _, rfl, rfl, 13 - (D + 1), by lia, D + 1, rfl, by lia, rfl, rfl, fun j hj => by
      rcases Nat.lt_or_ge j D with z | z
      · exact hD j z
      · have : j = D := by lia
        rw [this]; exact hlt⟩
  have c' : ¬ (1 : Int) * 2 ^ ((D : Int)).toNat < (S : Int) := of_decide_eq_false (Bool.eq_false_iff.mpr c)
  rw [ep] at c'
  have hge : S ≤ 2 ^ D := by lia
  have hisD : isD S D := ⟨hge, hD⟩
  clear c c'
  -- ends
  refine ⟨_, rfl, r, rfl, ⟨_, SqT.of hW⟩, comp_enum (xs := vnats ws) (fun j acc σ' H' => ∃ (as : List Addr) (o7 o8 : Option V), acc = as.map V.ref ∧ as.length = j ∧ σ' = [some (.ref r), some (.int (S : Int)), some (.int (D : Int)), none, none, none, none, o7, o8] ∧ Same H H' ∧ EndsL K H' as ((numE ws).take j))
    ⟨[], _, _, rfl, rfl, rfl, Same.refl _, rfl, fun j a e h => by simp at h⟩
    (fun j acc σ' H' hj ⟨as, _, _, e', hb, _⟩ => by
      rw [e', List.length_map]
      rw [vnats_len] at hj
      lia) (fun j acc σ' H' _ ⟨_, _, _, _, _, _, y, _⟩ => SqT.of (y _ _ hW)) ?_ ?_⟩
  · rintro j x acc σ' H1 p hx ⟨as, o7, o8, rfl, hal, rfl, y, hE⟩ fp
    have hj : j < ws.length := by rw [← vnats_len]; exact (List.getElem?_eq_some_iff.mp hx).1
    rw [vnats_at hj] at hx
    obtain rfl := Option.some.inj hx
    have y1 := same_new fp (.tup [V.int (j : Int), V.int ((ws.getD j 0 : Nat) : Int)])
    have w1 : (upd H1 p (.tup [V.int (j : Int), V.int ((ws.getD j 0 : Nat) : Int)])) p = some (.tup [V.int (j : Int), V.int ((ws.getD j 0 : Nat) : Int)]) := upd_same
    generalize upd H1 p (.tup [V.int (j : Int), V.int ((ws.getD j 0 : Nat) : Int)]) = H2 at y1 w1 ⊢
    refine ⟨p, _, rfl, SqT.of w1, rfl, _, _, rfl, _, _, rfl, rfl, _, rfl, _, rfl, (by show 2 ≤ sizeLine; decide), fun p2 fp2 => ?_⟩
    have y2 := same_new fp2 (.tup [V.str "is", V.int (j : Int)])
    have w2 : (upd H2 p2 (.tup [V.str "is", V.int (j : Int)])) p2 = some (.tup [V.str "is", V.int (j : Int)]) := upd_same
    generalize upd H2 p2 (.tup [V.str "is", V.int (j : Int)]) = H3 at y2 w2 ⊢
    refine ⟨(by show 2 ≤ sizeLine; decide), fun p3 fp3 => ?_⟩
    have y3 := same_new fp3 (.tup [V.int ((ws.getD j 0 : Nat) : Int), V.ref p2])
    have hn : (numE ws).take (j + 1) = (numE ws).take j ++ [(some j, ws.getD j 0)] := by
      rw [List.take_add_one]
      congr 1
      unfold numE
      rw [List.getElem?_map, List.getElem?_range hj]
      rfl
    refine ⟨as ++ [p3], _, _, by rw [List.map_append]; rfl, by rw [List.length_append, hal]; rfl, rfl, ((y.trans y1).trans y2).trans y3, ?_⟩
    rw [hn]
    exact (hE.same ((y1.trans y2).trans y3)).snoc upd_same ⟨p2, rfl, y3 _ _ w2⟩
  rintro acc σ' H1 LE ⟨as, o7, o8, rfl, hal, rfl, y, hE⟩ fLE
  rw [vnats_len] at hal hE
  rw [List.take_of_length_le (by unfold numE; rw [List.length_map, List.length_range]; exact Nat.le_refl _)] at hE
  have yE := same_new fLE (.lst (as.map V.ref))
  have wE : (upd H1 LE (.lst (as.map V.ref))) LE = some (.lst (as.map V.ref)) := upd_same
  have fLEH : H LE = none := by
    cases e : H LE with
    | none => rfl
    | some o => have := y _ _ e; rw [fLE] at this; cases this
  generalize upd H1 LE (.lst (as.map V.ref)) = H2 at yE wE ⊢
  have yH2 := y.trans yE
  have hE2 := hE.same yE
  clear hE y fLE
  refine ⟨_, rfl, .inl ⟨rfl, _, SqL.of wE⟩, _, rfl, _, _, rfl, rfl, ⟨by lia, by lia, by decide⟩, _, rfl, _, _, rfl, rfl, (by show 2 ≤ sizeLine; decide), fun p4 fp4 => ?_⟩
  have ew : (1 : Int) * 2 ^ ((D : Int)).toNat - (S : Int) = ((2 ^ D - S : Nat) : Int) := by rw [ep]; lia
  dsimp only
  rw [ew]
  have y4 := same_new fp4 (.tup [V.int ((2 ^ D - S : Nat) : Int), V.ref A_AGAIN])
  have w4 : (upd H2 p4 (.tup [V.int ((2 ^ D - S : Nat) : Int), V.ref A_AGAIN])) p4 = some (.tup [V.int ((2 ^ D - S : Nat) : Int), V.ref A_AGAIN]) := upd_same
  generalize upd H2 p4 (.tup [V.int ((2 ^ D - S : Nat) : Int), V.ref A_AGAIN]) = H3 at y4 w4 ⊢
  have wE3 := y4 _ _ wE
  have hE3 : EndsL K H3 (as ++ [p4]) (esW ws D) := by
    unfold esW
    rw [hS]
    exact (hE2.same y4).snoc w4 ⟨A_AGAIN, rfl, .inr hAg⟩
  have np : ∀ c xs, H3 c = some (.tup xs) → c ≠ LE := fun c xs e z => by rw [z, wE3] at e; cases e
  refine ⟨LE, _, _, rfl, rfl, wE3, smallL (by rw [List.length_map]; lia), ?_⟩
  have wE4 : (upd H3 LE (.lst (as.map V.ref ++ [V.ref p4]))) LE = some (.lst ((as ++ [p4]).map V.ref)) := by rw [upd_same, List.map_append]; rfl
  have k4 : ∀ c xs, H3 c = some (.tup xs) → (upd H3 LE (.lst (as.map V.ref ++ [V.ref p4]))) c = some (.tup xs) := fun c xs e => by rw [upd_ne (np c xs e)]; exact e
  have yH4 : Same H (upd H3 LE (.lst (as.map V.ref ++ [V.ref p4]))) := fun c o e => by rw [upd_ne (ne_of_none e fLEH)]; exact y4 _ _ (yH2 _ _ e)
  have hE4 : EndsL K (upd H3 LE (.lst (as.map V.ref ++ [V.ref p4]))) (as ++ [p4]) (esW ws D) := ⟨hE3.1, fun j a e e1 e2 => by
    obtain ⟨v, z1, z2⟩ := hE3.2 j a e e1 e2
    exact ⟨v, k4 _ _ z1, PnAt.keep k4 z2⟩⟩
  generalize upd H3 LE (.lst (as.map V.ref ++ [V.ref p4])) = H4 at wE4 yH4 hE4
  generalize as ++ [p4] = bs at wE4 hE4
  clear hE3 hE2 wE3 wE y4 w4 np k4 yE yH2
  have hEl : (esW ws D).length ≤ 9 := by unfold esW numE; rw [List.length_append, List.length_map, List.length_range]; show ws.length + 1 ≤ 9; lia
  have ht : tot (esW ws D) = 2 ^ D := esW_tot (by rw [hS]; exact hge)
  generalize hes : esW ws D = es at hE4 hEl ht
  -- parts
  refine ⟨(by show 0 ≤ sizeLine; decide), fun l0 fl0 => ?_⟩
  have y5 := same_new fl0 (.lst ([] : List V))
  have w5 : (upd H4 l0 (.lst ([] : List V))) l0 = some (.lst []) := upd_same
  generalize upd H4 l0 (.lst ([] : List V)) = H5 at y5 w5 ⊢
  refine ⟨_, rfl, _, _, rfl, rfl, D + 1, rfl, lo62 _, hi62 (n := D + 1) (by lia), for_range (lo := 0) (n := D + 1) (fun i σ' H' => ∃ (lp : Addr) (vs : List V) (o5 o6 : Option V), σ' = [some (.ref r), some (.int (S : Int)), some (.int (D : Int)), some (.ref LE), some (.ref lp), o5, o6] ∧ Same H5 H' ∧ H' lp = some (.lst vs) ∧ PL K H' vs (parts es i))
    ⟨l0, [], _, _, rfl, Same.refl _, w5, PL.nil⟩ ?_ ?_⟩
  · rintro i σ' H6 hi ⟨lp, vs, o5, o6, rfl, y6, wp, hPL⟩
    have hev : (parts es i).length % 2 = 0 := (parts_len ht i (by lia)).2 (by lia)
    have hpl := parts_le es i
    have hvl := hPL.1
    refine ⟨_, rfl, lp, vs, rfl, .inl (SqL.of wp), 0, ((vs.length : Nat) : Int), rfl, ⟨by decide, by decide, by lia, by lia⟩, ?_⟩
    have en : ((((vs.length : Nat) : Int) - 0 + 1) / 2).toNat = (parts es i).length / 2 := by lia
    rw [en]
    refine comp_rangeS (fun j acc σ' H' => ∃ (o7 : Option V), acc.length = j ∧ σ' = [some (.ref r), some (.int (S : Int)), some (.int (D : Int)), some (.ref LE), some (.ref lp), some (.int (0 + (i : Int))), o6, o7] ∧ Same H6 H' ∧ PL K H' acc (asksTo (parts es i) j))
      ⟨_, rfl, rfl, Same.refl _, PL.nil⟩ (fun j acc σ' H' hj ⟨_, e', _⟩ => by lia) ?_ ?_
    · rintro j acc σ' H7 hj ⟨o7, hal, rfl, y7, hP7⟩
      obtain ⟨v1, q1, e1, f1, g1⟩ := hPL.at' (j := 2 * j) (by lia)
      obtain ⟨v2, q2, e2, f2, g2⟩ := hPL.at' (j := 2 * j + 1) (by lia)
      have ex : (0 : Int) + (j : Int) * 2 = ((2 * j : Nat) : Int) := by lia
      rw [ex]
      have wp7 := y7 _ _ wp
      refine ⟨_, rfl, _, rfl, lp, _, _, v1, rfl, rfl, SqL.of wp7, atI_nat e1, _, rfl, _, rfl, _, _, rfl, rfl, lp, _, _, v2, rfl, rfl, SqL.of wp7, (by
        show atI vs (((2 * j : Nat) : Int) + 1) = some v2
        rw [show (((2 * j : Nat) : Int) + 1) = ((2 * j + 1 : Nat) : Int) by lia]
        exact atI_nat e2), (by show 3 ≤ sizeLine; decide), fun p8 fp8 => ?_⟩
      have y8 := same_new fp8 (.tup [V.str "ask", v1, v2])
      refine ⟨_, by rw [List.length_append, hal]; rfl, rfl, y7.trans y8, ?_⟩
      rw [asksTo_succ f1 f2]
      exact (hP7.same y8).app (PL.one ⟨p8, v1, v2, rfl, upd_same, (g1.same y7).same y8, (g2.same y7).same y8⟩)
    rintro acc σ' H7 LA ⟨o7, hal, rfl, y7, hP7⟩ fLA
    rw [asksTo_all hev] at hP7
    have y8 := same_new fLA (.lst acc)
    have w8 : (upd H7 LA (.lst acc)) LA = some (.lst acc) := upd_same
    generalize upd H7 LA (.lst acc) = H8 at y8 w8 ⊢
    have hP8 := hP7.same y8
    have y68 := y7.trans y8
    have wE8 := y68 _ _ (y6 _ _ (y5 _ _ wE4))
    have hE8 := ((hE4.same y5).same y6).same y68
    have hbl : bs.length = es.length := hE8.1
    refine ⟨_, rfl, LE, rfl, ⟨_, SqL.of wE8⟩, comp_list (xs := bs.map V.ref) (fun j acc2 σ' H' => ∃ (o7 o8 : Option V), acc2.length ≤ j ∧ σ' = [some (.ref r), some (.int (S : Int)), some (.int (D : Int)), some (.ref LE), some (.ref lp), some (.int (0 + (i : Int))), some (.ref LA), o7, o8] ∧ Same H8 H' ∧ PL K H' acc2 ((figO (es.take j) i).map leafP))
      ⟨_, _, Nat.le_refl _, rfl, Same.refl _, PL.nil⟩ (fun j acc2 σ' H' hj ⟨_, _, e', _⟩ => by rw [List.length_map] at hj; lia) (fun j acc2 σ' H' _ ⟨_, _, _, _, y', _⟩ => SqL.of (y' _ _ wE8)) ?_ ?_⟩
    · rintro j x acc2 σ' H9 hx ⟨o7, o8, hal2, rfl, y9, hP9⟩
      obtain ⟨a, hja⟩ : ∃ a, bs[j]? = some a := by
        rw [List.getElem?_map] at hx
        cases e : bs[j]? with
        | none => rw [e] at hx; cases hx
        | some r => exact ⟨r, rfl⟩
      rw [List.getElem?_map, hja] at hx
      cases hx
      have hj : j < es.length := by rw [← hbl]; exact (List.getElem?_eq_some_iff.mp hja).1
      obtain ⟨en, hen⟩ : ∃ en, es[j]? = some en := ⟨_, List.getElem?_eq_getElem hj⟩
      obtain ⟨lv, ha, hleaf⟩ := hE8.2 j a en hja hen
      have ha9 := y9 _ _ ha
      have hnext := figO_take es i j en hen
      refine ⟨a, _, rfl, SqT.of ha9, rfl, _, _, rfl, _, _, rfl, rfl, ?_⟩
      refine ⟨_, rfl, _, rfl, _, _, rfl, rfl, (by show (0 : Int) ≤ 0 + (i : Int); lia), _, _, rfl, rfl, (by show (0 : Int) < 2; decide), rfl, _, rfl, ?_⟩
      have et : decide (V.int ((en.2 : Int) / 2 ^ (0 + (i : Int)).toNat % 2) = V.int 1) = decide (en.2 / 2 ^ i % 2 = 1) := by
        rw [show (0 + (i : Int)).toNat = i by lia]
        have e3 : (en.2 : Int) / 2 ^ i % 2 = ((en.2 / 2 ^ i % 2 : Nat) : Int) := by
          rw [Int.natCast_emod, Int.natCast_ediv, Int.natCast_pow]; rfl
        rw [e3, decide_eq_decide]
        exact ⟨fun z => by injection z with z; lia, fun z => by rw [z]; rfl⟩
      try dsimp only
      rw [et]
      refine ite2 (fun c => ?_) (fun c => ?_)
      · have c' := of_decide_eq_true c
        refine ⟨_, rfl, _, _, by rw [List.length_append]; show acc2.length + 1 ≤ j + 1; lia, rfl, y9, ?_⟩
        rw [hnext, if_pos c', List.map_append]
        exact hP9.app (PL.one (PnAt.same hleaf y9))
      · have c' := of_decide_eq_false (Bool.eq_false_iff.mpr c)
        refine ⟨_, _, by lia, rfl, y9, ?_⟩
        rw [hnext, if_neg c', List.append_nil]
        exact hP9
    rintro acc2 σ' H9 LF ⟨o7, o8, hal2, rfl, y9, hP9⟩ fLF
    rw [List.length_map, hbl, List.take_length] at hP9
    have y10 := same_new fLF (.lst acc2)
    have hl9 := hP9.1
    have hl8 := hP8.1
    rw [List.length_map] at hl9
    rw [asks_len] at hl8
    have hfl := figO_le es i
    refine ⟨_, rfl, LF, LA, acc2, acc, rfl, rfl, upd_same, y10 _ _ (y9 _ _ w8), small (by lia), fun ln fln => ?_⟩
    have y11 := same_new fln (.lst (acc2 ++ acc))
    refine ⟨ln, acc2 ++ acc, _, _, rfl, ((y6.trans y68).trans y9).trans (y10.trans y11), upd_same, ?_⟩
    exact ((hP9.same y10).same y11).app (((hP8.same y9).same y10).same y11)
  · rintro σ' H6 ⟨lp, vs, o5, o6, rfl, y6, wp, hPL⟩
    rw [plan_parts ht] at hPL
    obtain ⟨v1, q1, e1, f1, g1⟩ := hPL.at' (j := 0) (by show 0 < 1; decide)
    have : q1 = planP es D := (Option.some.inj f1).symm
    subst this
    refine ⟨_, rfl, lp, _, _, v1, rfl, rfl, SqL.of wp, atI_nat e1, q v1 D H6 ((yH4.trans y5).trans y6) hisD ?_⟩
    unfold plW
    rw [hes]
    exact g1
end
noncomputable def RowsL (H : Hp) (as : List Addr) (es : List (Option Nat × Nat)) : Prop := as.length = es.length ∧ ∀ (j : Nat) (a : Addr) (e : Option Nat × Nat), as[j]? = some a → es[j]? = some e → ∃ v, H a = some (.tup [v, .int (e.2 : Int)]) ∧ LeafV [] H e.1 v
theorem RowsL.keep {H H' : Hp} {as : List Addr} {es : List (Option Nat × Nat)} (h : RowsL H as es) (k : ∀ c xs, H c = some (.tup xs) → H' c = some (.tup xs)) : RowsL H' as es := ⟨h.1, fun j a e e1 e2 => by
  obtain ⟨v, h1, h2⟩ := h.2 j a e e1 e2
  exact ⟨v, k _ _ h1, PnAt.keep k h2⟩⟩
theorem RowsL.same {H H' : Hp} {as : List Addr} {es : List (Option Nat × Nat)} (h : RowsL H as es) (s : Same H H') : RowsL H' as es := h.keep fun _ _ e => s _ _ e
theorem RowsL.snoc {H : Hp} {as : List Addr} {es : List (Option Nat × Nat)} {p : Addr} {o : Option Nat} {d : Nat} {v : V} (h : RowsL H as es) (hp : H p = some (.tup [v, .int (d : Int)])) (hv : LeafV [] H o v) : RowsL H (as ++ [p]) (es ++ [(o, d)]) := by
  refine ⟨by rw [List.length_append, List.length_append, h.1]; rfl, fun j a e e1 e2 => ?_⟩
  by_cases c : j < as.length
  · rw [List.getElem?_append_left c] at e1
    rw [List.getElem?_append_left (by rw [← h.1]; exact c)] at e2
    exact h.2 j a e e1 e2
  · rw [List.getElem?_append_right (by lia)] at e1
    rw [List.getElem?_append_right (by rw [← h.1]; lia), ← h.1] at e2
    have hj : j - as.length = 0 := by
      have := (List.getElem?_eq_some_iff.mp e1).1
      simpa using this
    rw [hj] at e1 e2
    cases e1
    cases e2
    exact ⟨v, hp, hv⟩
theorem PL.keep {K : PySem.W.Frag} {H H' : Hp} {vs : List V} {ps : List Pn} (h : PL K H vs ps) (k : ∀ c xs, H c = some (.tup xs) → H' c = some (.tup xs)) : PL K H' vs ps := ⟨h.1, fun j v p e1 e2 => PnAt.keep k (h.2 j v p e1 e2)⟩
noncomputable def NodesL (H : Hp) (es : List (Option Nat × Nat)) (D : Nat) (ls : List Addr) : Prop := ∀ (t : Nat) (l : Addr), ls[t]? = some l → ∃ vs, H l = some (.lst vs) ∧ PL [] H vs ((figO es (D - t)).map leafP)
theorem NodesL.keep {H H' : Hp} {es : List (Option Nat × Nat)} {D : Nat} {ls : List Addr} (h : NodesL H es D ls) (kl : ∀ l ∈ ls, ∀ vs, H l = some (.lst vs) → H' l = some (.lst vs)) (k : ∀ c xs, H c = some (.tup xs) → H' c = some (.tup xs)) : NodesL H' es D ls := fun t l e => by
  obtain ⟨vs, h1, h2⟩ := h t l e
  exact ⟨vs, kl l (List.mem_of_getElem? e) vs h1, h2.keep k⟩
theorem NodesL.snoc {H : Hp} {es : List (Option Nat × Nat)} {D : Nat} {ls : List Addr} {l : Addr} {vs : List V} (h : NodesL H es D ls) (hl : H l = some (.lst vs)) (hp : PL [] H vs ((figO es (D - ls.length)).map leafP)) : NodesL H es D (ls ++ [l]) := fun t l' e => by
  by_cases c : t < ls.length
  · rw [List.getElem?_append_left c] at e
    exact h t l' e
  · rw [List.getElem?_append_right (by lia)] at e
    have hj : t - ls.length = 0 := by
      have := (List.getElem?_eq_some_iff.mp e).1
      simpa using this
    rw [hj] at e
    cases e
    rw [show t = ls.length by lia]
    exact ⟨vs, hl, hp⟩
theorem half_pow (D t : Nat) : (if ((2 ^ (D - t) : Nat) : Int) / 2 > 1 then ((2 ^ (D - t) : Nat) : Int) / 2 else 1) = ((2 ^ (D - (t + 1)) : Nat) : Int) := by
  rcases Nat.lt_or_ge t D with c | c
  · rw [show D - t = D - (t + 1) + 1 by lia, Nat.pow_succ]
    have := Nat.two_pow_pos (D - (t + 1))
    generalize 2 ^ (D - (t + 1)) = x at this
    split <;> lia
  · rw [show D - t = 0 by lia, show D - (t + 1) = 0 by lia]
    decide
theorem atI_last {zs : List Int} (h : 0 < zs.length) : ∃ z, atI (zs.map V.int) (-1) = some (V.int z) := by
  refine ⟨zs[zs.length - 1]'(by lia), ?_⟩
  unfold atI ixN
  rw [List.length_map, if_neg (by decide), if_pos (by lia)]
  show (zs.map V.int)[_]? = _
  rw [show ((-1 : Int) + (zs.length : Int)).toNat = zs.length - 1 by lia, List.getElem?_map, List.getElem?_eq_getElem (by lia)]
  rfl
inductive spMade (vs : List V) (H : Hp) (Q : VK) (E : XK) : Prop
  | mk (r : Addr) (ws : List Nat) (f1 : vs = [.ref r]) (f2 : H r = some (.tup (vnats ws))) (f3 : 0 < ws.sum) (f4 : ws.sum ≤ 4096) (f5 : ws.length ≤ 8) (f6 : ∀ v D H', Same H H' → isD ws.sum D → PnAt [] H' (plW ws D) v → Q v H') : spMade  vs H Q E
section
variable {P : Program} {w : World} {K : PySem.W.Frag} {mg : Str → Option Value} {base : Heap} {f : Addr} {fd : FuncData}
theorem ok__law_made (F__law_made : Fun K "_law_made" "_law_made" s__law_made f fd) (B : Bl mg) : FnOk P w K mg base CX0 1 f fd p__law_made spMade := by
  refine F__law_made.ok sc__law_made (fun vs H Q E h => ?_) (fun cdv A outer s H vs Q E hr h => ?_)
  · obtain ⟨r, ws, rfl, _⟩ := h
    rfl
  obtain ⟨r, ws, rfl, hW, h0, h4, h8, q⟩ := h
  refine ⟨_, (pss_cons (ps_par3 (i := 1) (j := 2) (k := 3) rfl sc__law_made.nd rfl rfl rfl (by decide) (by decide) (by decide) rfl rfl rfl (pa_cons (pe_callB (call_sumT rfl) rfl B.sum_ L3.bt_sum (pa_cons (pv 0) pa_nil)) (pa_cons pe_int (pa_cons pe_int pa_nil))) rfl)
      (pss_cons (ps_while PassesOwn.never (pt_cmpR op_lt (pv 2) (pv 1) (nomark _)) (pss_one (ps_par (i := 2) (j := 3) rfl sc__law_made.nd rfl rfl (by decide) rfl rfl (pa_cons (pe_op op_mul (pv 2) pe_int) (pa_cons (pe_op op_add (pv 3) pe_int) pa_nil)) rfl)))
      (pss_cons (ps_set (i := 4) sc__law_made.nd rfl (Or.inl rfl) (pe_op op_cat (pe_comp [] ["_law_weights_here", "_law_total", "_law_size", "_law_high", "_law_rows", "_law_nodes", "_law_wide", "_law_part", "_law_turn", "_law_ends_here", "_law_under", "_law_asks", "_law_number", "_law_weight"] 2 rfl (pi_enumT rfl B.enumerate_ (pa_cons (pv 0) pa_nil)) (fun _ _ _ _ _ => (pg_tupK K 2 rfl (pgs_cons (pg_name (i := 12) nd_12 rfl (Or.inl rfl) (Or.inr rfl)) (pgs_cons (pg_name (i := 13) nd_12 rfl (Or.inl rfl) (Or.inr rfl)) pgs_nil)) rfl rfl rfl)) (fun _ _ _ _ _ => pif_nil) (fun _ _ _ _ _ => (pe_tup (pa_cons (pe_tup (pa_cons pe_str (pa_cons (pv 12) pa_nil))) (pa_cons (pv 13) pa_nil))))) (pe_lst (pa_cons (pe_tup (pa_cons (pe_tup (pa_cons pe_str pa_nil)) (pa_cons (pe_op op_sub (pv 2) (pv 1)) pa_nil))) pa_nil))))
      (pss_cons (ps_asg (pe_tup (pa_cons (pe_lst pa_nil) (pa_cons (pe_lst (pa_cons pe_int pa_nil)) (pa_cons (pv 2) pa_nil)))) (pg_tup rfl (pgs_cons (pg_name (i := 5) sc__law_made.nd rfl (Or.inl rfl)) (pgs_cons (pg_name (i := 6) sc__law_made.nd rfl (Or.inl rfl)) (pgs_cons (pg_name (i := 7) sc__law_made.nd rfl (Or.inr rfl)) pgs_nil)))))
      (pss_cons (ps_for PassesOwn.never rfl (pi_range1 rfl B.range_ (pa_cons (pe_op op_add (pv 3) pe_int) pa_nil)) (pg_name (i := 8) sc__law_made.nd rfl (Or.inl rfl)) (pss_cons (ps_comp 9 [] ["_law_weights_here", "_law_total", "_law_size", "_law_high", "_law_rows", "_law_nodes", "_law_wide", "_law_part", "_law_turn", "_law_ends_here", "_law_under", "_law_asks", "_law_end", "_law_weight"] 2 rfl sc__law_made.nd rfl rfl (pi_list (pv 4)) (fun _ _ _ _ _ => (pg_tupK K 2 rfl (pgs_cons (pg_name (i := 12) nd_13 rfl (Or.inl rfl) (Or.inr rfl)) (pgs_cons (pg_name (i := 13) nd_13 rfl (Or.inl rfl) (Or.inr rfl)) pgs_nil)) rfl rfl rfl)) (fun _ _ _ _ _ => (pif_one (pt_cmpR op_eq (pe_op op_mod (pe_op op_fdiv (pv 13) (pv 7)) pe_int) pe_int (nomark _)))) (fun _ _ _ _ _ => (pv 12)))
      (pss_cons (ps_expr (pe_bm PySem.F.plainAttrs_list PySem.F.slot_list_append PySem.F.type_list_append mt_append (pv 5) (pa_cons (pv 9) pa_nil)))
      (pss_cons (ps_expr (pe_bm PySem.F.plainAttrs_list PySem.F.slot_list_append PySem.F.type_list_append mt_append (pv 6) (pa_cons (pe_op op_mul pe_int (pe_op op_sub (pe_ix ix_list (pv 6) (pe_un un_neg pe_int) (fun _ _ => rfl)) (pe_callB call_len_seq rfl B.len_ L3.bt_len (pa_cons (pv 9) pa_nil)))) pa_nil)))
      (pss_one (ps_set (i := 7) sc__law_made.nd rfl (Or.inr rfl) (pe_callB (call_max2 rfl) rfl B.max_ L3.bt_max (pa_cons pe_int (pa_cons (pe_op op_fdiv (pv 7) pe_int) pa_nil)))))))))
      (pss_cons (ps_set (i := 10) sc__law_made.nd rfl (Or.inr rfl) (pe_lst pa_nil))
      (pss_cons (ps_for PassesOwn.never rfl (pi_rangeDown rfl B.range_ (pa_cons (pv 3) (pa_cons (pe_un un_neg pe_int) (pa_cons (pe_un un_neg pe_int) pa_nil)))) (pg_name (i := 8) sc__law_made.nd rfl (Or.inl rfl)) (pss_cons (ps_comp 11 [] ["_law_weights_here", "_law_total", "_law_size", "_law_high", "_law_rows", "_law_nodes", "_law_wide", "_law_part", "_law_turn", "_law_ends_here", "_law_under", "_law_asks", "_law_at"] 1 rfl sc__law_made.nd rfl rfl (pi_rangeTwo rfl B.range_ (pa_cons pe_int (pa_cons (pe_callB call_len_seq rfl B.len_ L3.bt_len (pa_cons (pv 10) pa_nil)) (pa_cons pe_int pa_nil)))) (fun _ _ _ _ _ => (pg_name (i := 12) nd_14 rfl (Or.inl rfl) (Or.inr rfl))) (fun _ _ _ _ _ => pif_nil) (fun _ _ _ _ _ => (pe_tup (pa_cons pe_str (pa_cons (pe_ix (ix_listK K rfl) (pv 10) (pv 12) (fun _ _ => rfl)) (pa_cons (pe_ix (ix_listK K rfl) (pv 10) (pe_op op_add (pv 12) pe_int) (fun _ _ => rfl)) pa_nil))))))
      (pss_one (ps_set (i := 10) sc__law_made.nd rfl (Or.inr rfl) (pe_op op_cat (pe_ix ix_list (pv 5) (pv 8) (fun _ _ => rfl)) (pv 11))))))
      (pss_one (ps_ret (pe_ix ix_list (pv 10) pe_int (fun _ _ => rfl))))))))))), ?_⟩
  have hsq : SqT K H r ((ws.map (fun (n : Nat) => (n : Int))).map V.int) := SqT.of (by rw [← vnats_ints]; exact hW)
  refine ⟨_, rfl, r, ws.map (fun (n : Nat) => (n : Int)), rfl, hsq, _, _, _, rfl, ?_⟩
  rw [sum_nats]
  generalize hS : ws.sum = S at h0 h4 q
  refine ⟨fun m σ' H' => ∃ D : Nat, m = 13 - D ∧ D ≤ 12 ∧ σ' = [some (.ref r), some (.int (S : Int)), some (.int ((2 ^ D : Nat) : Int)), some (.int (D : Int)), none, none, none, none, none, none, none, none] ∧ H' = H ∧ ∀ j, j < D → 2 ^ j < S, ⟨_, 0, rfl, by decide, rfl, rfl, fun j hj => absurd hj (Nat.not_lt_zero _)⟩, ?_⟩
  rintro m σ' H' ⟨D, rfl, hD12, rfl, eH, hD⟩
  obtain rfl : H = H' := eH.symm
  clear eH
  refine ⟨_, rfl, _, rfl, _, _, rfl, rfl, _, rfl, ite2 (fun c => ?_) (fun c => ?_)⟩
  · have c' : ((2 ^ D : Nat) : Int) < (S : Int) := of_decide_eq_true c
    have hlt : 2 ^ D < S := by lia
    have hD11 : D < 12 := by
      rcases Nat.lt_or_ge D 12 with z | z
      · exact z
      · have : 2 ^ 12 ≤ 2 ^ D := Nat.pow_le_pow_right (by decide) z
        lia
    have e2 : ((2 ^ D : Nat) : Int) * 2 = ((2 ^ (D + 1) : Nat) : Int) := by rw [Nat.pow_succ]; lia
    exact ⟨_, fun _ _ z => z, _, rfl, _, _, rfl, rfl, .inr ⟨by decide, by decide⟩, _, rfl, _, _, rfl, rfl, _, _, rfl, 13 - (D + 1), by lia, D + 1, rfl, by lia, by rw [← e2]; rfl, rfl, fun j hj => by
      rcases Nat.lt_or_ge j D with z | z
      · exact hD j z
      · have : j = D := by lia
        rw [this]; exact hlt⟩
  have c' : ¬ ((2 ^ D : Nat) : Int) < (S : Int) := of_decide_eq_false (Bool.eq_false_iff.mpr c)
  have hge : S ≤ 2 ^ D := by lia
  have hisD : isD S D := ⟨hge, hD⟩
  have hp12 : 2 ^ D ≤ 4096 := Nat.le_trans (Nat.pow_le_pow_right (n := 2) (by decide) hD12) (by decide)
  clear c c'
  -- rows
  refine ⟨_, rfl, r, rfl, ⟨_, SqT.of hW⟩, comp_enum (xs := vnats ws) (fun j acc σ' H' => ∃ (as : List Addr) (o7 o8 : Option V), acc = as.map V.ref ∧ as.length = j ∧ σ' = [some (.ref r), some (.int (S : Int)), some (.int ((2 ^ D : Nat) : Int)), some (.int (D : Int)), none, none, none, none, none, none, none, none, o7, o8] ∧ Same H H' ∧ RowsL H' as ((numE ws).take j))
    ⟨[], _, _, rfl, rfl, rfl, Same.refl _, rfl, fun j a e h => by simp at h⟩
    (fun j acc σ' H' hj ⟨as, _, _, e', hb, _⟩ => by
      rw [e', List.length_map]
      rw [vnats_len] at hj
      lia) (fun j acc σ' H' _ ⟨_, _, _, _, _, _, y, _⟩ => SqT.of (y _ _ hW)) ?_ ?_⟩
  · rintro j x acc σ' H1 p hx ⟨as, o7, o8, rfl, hal, rfl, y, hE⟩ fp
    have hj : j < ws.length := by rw [← vnats_len]; exact (List.getElem?_eq_some_iff.mp hx).1
    rw [vnats_at hj] at hx
    obtain rfl := Option.some.inj hx
    have y1 := same_new fp (.tup [V.int (j : Int), V.int ((ws.getD j 0 : Nat) : Int)])
    have w1 : (upd H1 p (.tup [V.int (j : Int), V.int ((ws.getD j 0 : Nat) : Int)])) p = some (.tup [V.int (j : Int), V.int ((ws.getD j 0 : Nat) : Int)]) := upd_same
    generalize upd H1 p (.tup [V.int (j : Int), V.int ((ws.getD j 0 : Nat) : Int)]) = H2 at y1 w1 ⊢
    refine ⟨p, _, rfl, SqT.of w1, rfl, _, _, rfl, _, _, rfl, rfl, _, rfl, (by show 2 ≤ sizeLine; decide), fun p2 fp2 => ?_⟩
    have y2 := same_new fp2 (.tup [V.str "is", V.int (j : Int)])
    have w2 : (upd H2 p2 (.tup [V.str "is", V.int (j : Int)])) p2 = some (.tup [V.str "is", V.int (j : Int)]) := upd_same
    generalize upd H2 p2 (.tup [V.str "is", V.int (j : Int)]) = H3 at y2 w2 ⊢
    refine ⟨_, rfl, (by show 2 ≤ sizeLine; decide), fun p3 fp3 => ?_⟩
    have y3 := same_new fp3 (.tup [V.ref p2, V.int ((ws.getD j 0 : Nat) : Int)])
    have hn : (numE ws).take (j + 1) = (numE ws).take j ++ [(some j, ws.getD j 0)] := by
      rw [List.take_add_one]
      congr 1
      unfold numE
      rw [List.getElem?_map, List.getElem?_range hj]
      rfl
    refine ⟨as ++ [p3], _, _, by rw [List.map_append]; rfl, by rw [List.length_append, hal]; rfl, rfl, ((y.trans y1).trans y2).trans y3, ?_⟩
    rw [hn]
    exact (hE.same ((y1.trans y2).trans y3)).snoc upd_same ⟨p2, rfl, y3 _ _ w2⟩
  rintro acc σ' H1 LE ⟨as, o7, o8, rfl, hal, rfl, y, hE⟩ fLE
  rw [vnats_len] at hal hE
  rw [List.take_of_length_le (by unfold numE; rw [List.length_map, List.length_range]; exact Nat.le_refl _)] at hE
  have yE := same_new fLE (.lst (as.map V.ref))
  have wE : (upd H1 LE (.lst (as.map V.ref))) LE = some (.lst (as.map V.ref)) := upd_same
  generalize upd H1 LE (.lst (as.map V.ref)) = H2 at yE wE ⊢
  have yH2 := y.trans yE
  have hE2 := hE.same yE
  clear hE y fLE
  refine ⟨(by show 1 ≤ sizeLine; decide), fun p4 fp4 => ?_⟩
  have y4 := same_new fp4 (.tup [V.str "again"])
  have w4 : (upd H2 p4 (.tup [V.str "again"])) p4 = some (.tup [V.str "again"]) := upd_same
  generalize upd H2 p4 (.tup [V.str "again"]) = H3 at y4 w4 ⊢
  have ew : ((2 ^ D : Nat) : Int) - (S : Int) = ((2 ^ D - S : Nat) : Int) := by lia
  refine ⟨_, rfl, _, rfl, _, _, rfl, rfl, (by show 2 ≤ sizeLine; decide), fun p5 fp5 => ?_⟩
  dsimp only
  rw [ew]
  have y5 := same_new fp5 (.tup [V.ref p4, V.int ((2 ^ D - S : Nat) : Int)])
  have w5 : (upd H3 p5 (.tup [V.ref p4, V.int ((2 ^ D - S : Nat) : Int)])) p5 = some (.tup [V.ref p4, V.int ((2 ^ D - S : Nat) : Int)]) := upd_same
  generalize upd H3 p5 (.tup [V.ref p4, V.int ((2 ^ D - S : Nat) : Int)]) = H4 at y5 w5 ⊢
  refine ⟨(by show 1 ≤ sizeLine; decide), fun l6 fl6 => ?_⟩
  have y6 := same_new fl6 (.lst [V.ref p5])
  have w6 : (upd H4 l6 (.lst [V.ref p5])) l6 = some (.lst [V.ref p5]) := upd_same
  generalize upd H4 l6 (.lst [V.ref p5]) = H6 at y6 w6 ⊢
  have y26 := (y4.trans y5).trans y6
  refine ⟨LE, l6, _, _, rfl, rfl, y26 _ _ wE, w6, small (by rw [List.length_map]; show as.length + 1 ≤ _; lia), fun LR fLR => ?_⟩
  have y7 := same_new fLR (.lst (as.map V.ref ++ [V.ref p5]))
  have wR : (upd H6 LR (.lst (as.map V.ref ++ [V.ref p5]))) LR = some (.lst ((as ++ [p5]).map V.ref)) := by rw [upd_same, List.map_append]; rfl
  generalize upd H6 LR (.lst (as.map V.ref ++ [V.ref p5])) = H7 at y7 wR ⊢
  have hR7 : RowsL H7 (as ++ [p5]) (esW ws D) := by
    unfold esW
    rw [hS]
    exact ((hE2.same y26).same y7).snoc (y7 _ _ (y6 _ _ w5)) ⟨p4, rfl, .inl (y7 _ _ (y6 _ _ (y5 _ _ w4)))⟩
  have yH7 := (yH2.trans y26).trans y7
  generalize as ++ [p5] = bs at wR hR7
  clear hE2 wE y4 w4 y5 w5 y6 w6 yE yH2 y26 y7
  have hEl : (esW ws D).length ≤ 9 := by unfold esW numE; rw [List.length_append, List.length_map, List.length_range]; show ws.length + 1 ≤ 9; lia
  have ht : tot (esW ws D) = 2 ^ D := esW_tot (by rw [hS]; exact hge)
  generalize hes : esW ws D = es at hR7 hEl ht
  refine ⟨(by show 0 ≤ sizeLine; decide), fun LN fLN => ?_⟩
  have y8 := same_new fLN (.lst ([] : List V))
  have wN : (upd H7 LN (.lst ([] : List V))) LN = some (.lst []) := upd_same
  generalize upd H7 LN (.lst ([] : List V)) = H8 at y8 wN ⊢
  refine ⟨(by show 1 ≤ sizeLine; decide), fun LW fLW => ?_⟩
  have nNW : LN ≠ LW := ne_of_none wN fLW
  have y9 := same_new fLW (.lst [V.int 1])
  have wW : (upd H8 LW (.lst [V.int 1])) LW = some (.lst [V.int 1]) := upd_same
  generalize upd H8 LW (.lst [V.int 1]) = H9 at y9 wW ⊢
  refine ⟨_, rfl, (by show 3 ≤ sizeLine; decide), fun p10 fp10 => ?_⟩
  have y10 := same_new fp10 (.tup [V.ref LN, V.ref LW, V.int ((2 ^ D : Nat) : Int)])
  have w10 : (upd H9 p10 (.tup [V.ref LN, V.ref LW, V.int ((2 ^ D : Nat) : Int)])) p10 = some (.tup [V.ref LN, V.ref LW, V.int ((2 ^ D : Nat) : Int)]) := upd_same
  generalize upd H9 p10 (.tup [V.ref LN, V.ref LW, V.int ((2 ^ D : Nat) : Int)]) = H10 at y10 w10 ⊢
  refine ⟨p10, _, rfl, SqT.of w10, rfl, _, _, rfl, _, _, rfl, _, _, rfl, rfl, ?_⟩
  have wN10 := y10 _ _ (y9 _ _ wN)
  have wW10 := y10 _ _ wW
  have y710 := (y8.trans y9).trans y10
  have fN : ∀ c o, H7 c = some o → c ≠ LN := fun c o e => ne_of_none e fLN
  have fW : ∀ c o, H7 c = some o → c ≠ LW := fun c o e => ne_of_none (y8 _ _ e) fLW
  have tN : ∀ c xs, H10 c = some (.tup xs) → c ≠ LN := fun c xs e z => by rw [z, wN10] at e; cases e
  have tW : ∀ c xs, H10 c = some (.tup xs) → c ≠ LW := fun c xs e z => by rw [z, wW10] at e; cases e
  refine ⟨_, rfl, _, _, rfl, rfl, D + 1, rfl, lo62 _, hi62 (n := D + 1) (by lia), for_range (lo := 0) (n := D + 1) (fun t σ' H' => ∃ (ls : List Addr) (zs : List Int) (o8 o9 : Option V), σ' = [some (.ref r), some (.int (S : Int)), some (.int ((2 ^ D : Nat) : Int)), some (.int (D : Int)), some (.ref LR), some (.ref LN), some (.ref LW), some (.int ((2 ^ (D - t) : Nat) : Int)), o8, o9, none, none] ∧ (∀ c o, c ≠ LN → c ≠ LW → H10 c = some o → H' c = some o) ∧ H' LN = some (.lst (ls.map V.ref)) ∧ ls.length = t ∧ (∀ l ∈ ls, l ≠ LN ∧ l ≠ LW) ∧ NodesL H' es D ls ∧ H' LW = some (.lst (zs.map V.int)) ∧ zs.length = t + 1)
    ⟨[], [1], _, _, rfl, fun c o _ _ e => e, wN10, rfl, fun l hl => (by cases hl), fun t l e => (by simp at e), wW10, rfl⟩ ?_ ?_⟩
  · rintro t σ' H11 hti ⟨ls, zs, o8, o9, rfl, k11, hLN, hll, hln, hNd, hLW, hzl⟩
    have wR11 := k11 LR _ (fN _ _ wR) (fW _ _ wR) (y710 _ _ wR)
    have hR11 : RowsL H11 bs es := (hR7.same y710).keep fun c xs e => k11 c _ (tN c xs e) (tW c xs e) e
    have hbl : bs.length = es.length := hR11.1
    refine ⟨_, rfl, LR, rfl, ⟨_, SqL.of wR11⟩, comp_list (xs := bs.map V.ref) (fun j acc2 σ' H' => ∃ (o12 o13 : Option V), acc2.length ≤ j ∧ σ' = [some (.ref r), some (.int (S : Int)), some (.int ((2 ^ D : Nat) : Int)), some (.int (D : Int)), some (.ref LR), some (.ref LN), some (.ref LW), some (.int ((2 ^ (D - t) : Nat) : Int)), some (.int (0 + (t : Int))), o9, none, none, o12, o13] ∧ H' = H11 ∧ PL [] H' acc2 ((figO (es.take j) (D - t)).map leafP))
      ⟨_, _, Nat.le_refl _, rfl, rfl, PL.nil⟩ (fun j acc2 σ' H' hj ⟨_, _, e', _⟩ => by rw [List.length_map] at hj; lia) (fun j acc2 σ' H' _ ⟨_, _, _, _, y', _⟩ => SqL.of (by rw [y']; exact wR11)) ?_ ?_⟩
    · rintro j x acc2 σ' H12 hx ⟨o12, o13, hal2, rfl, eH, hP9⟩
      obtain rfl : H11 = H12 := eH.symm
      obtain ⟨a, hja⟩ : ∃ a, bs[j]? = some a := by
        rw [List.getElem?_map] at hx
        cases e : bs[j]? with
        | none => rw [e] at hx; cases hx
        | some r => exact ⟨r, rfl⟩
      rw [List.getElem?_map, hja] at hx
      cases hx
      have hj : j < es.length := by rw [← hbl]; exact (List.getElem?_eq_some_iff.mp hja).1
      obtain ⟨en, hen⟩ : ∃ en, es[j]? = some en := ⟨_, List.getElem?_eq_getElem hj⟩
      obtain ⟨lv, ha, hleaf⟩ := hR11.2 j a en hja hen
      have hnext := figO_take es (D - t) j en hen
      have hpt := Nat.two_pow_pos (D - t)
      have hpt2 : 2 ^ (D - t) ≤ 4096 := Nat.le_trans (Nat.pow_le_pow_right (n := 2) (by decide) (show D - t ≤ 12 by lia)) (by decide)
      refine ⟨a, _, rfl, SqT.of ha, rfl, _, _, rfl, _, _, rfl, rfl, ?_⟩
      refine ⟨_, rfl, _, rfl, _, _, rfl, rfl, ⟨by lia, by lia⟩, _, _, rfl, rfl, (by show (0 : Int) < 2; decide), rfl, _, rfl, ?_⟩
      have et : decide (V.int ((en.2 : Int) / ((2 ^ (D - t) : Nat) : Int) % 2) = V.int 1) = decide (en.2 / 2 ^ (D - t) % 2 = 1) := by
        have e3 : (en.2 : Int) / ((2 ^ (D - t) : Nat) : Int) % 2 = ((en.2 / 2 ^ (D - t) % 2 : Nat) : Int) := by
          rw [Int.natCast_emod, Int.natCast_ediv]; rfl
        rw [e3, decide_eq_decide]
        exact ⟨fun z => by injection z with z; lia, fun z => by rw [z]; rfl⟩
      try dsimp only
      rw [et]
      refine ite2 (fun c => ?_) (fun c => ?_)
      · have c' := of_decide_eq_true c
        refine ⟨_, rfl, _, _, by rw [List.length_append]; show acc2.length + 1 ≤ j + 1; lia, rfl, rfl, ?_⟩
        rw [hnext, if_pos c', List.map_append]
        exact hP9.app (PL.one hleaf)
      · have c' := of_decide_eq_false (Bool.eq_false_iff.mpr c)
        refine ⟨_, _, by lia, rfl, rfl, ?_⟩
        rw [hnext, if_neg c', List.append_nil]
        exact hP9
    rintro acc2 σ' H12 LF ⟨o12, o13, hal2, rfl, eH, hP9⟩ fLF
    obtain rfl : H11 = H12 := eH.symm
    rw [List.length_map, hbl, List.take_length] at hP9
    have nFN : LF ≠ LN := fun z => by rw [z, hLN] at fLF; cases fLF
    have nFW : LF ≠ LW := fun z => by rw [z, hLW] at fLF; cases fLF
    have y13 := same_new fLF (.lst acc2)
    have w13 : (upd H11 LF (.lst acc2)) LF = some (.lst acc2) := upd_same
    generalize upd H11 LF (.lst acc2) = H13 at y13 w13 ⊢
    have hLN13 := y13 _ _ hLN
    have hLW13 := y13 _ _ hLW
    refine ⟨_, rfl, .inl ⟨rfl, _, SqL.of hLN13⟩, _, rfl, LN, _, _, rfl, rfl, hLN13, smallL (by rw [List.length_map]; lia), ?_⟩
    have hLN14 : (upd H13 LN (.lst (ls.map V.ref ++ [V.ref LF]))) LN = some (.lst ((ls ++ [LF]).map V.ref)) := by rw [upd_same, List.map_append]; rfl
    have k14 : ∀ c, c ≠ LN → (upd H13 LN (.lst (ls.map V.ref ++ [V.ref LF]))) c = H13 c := fun c h => upd_ne h
    generalize upd H13 LN (.lst (ls.map V.ref ++ [V.ref LF])) = H14 at hLN14 k14 ⊢
    have hLW14 := (k14 LW (Ne.symm nNW)).trans hLW13
    have w14 := (k14 LF nFN).trans w13
    obtain ⟨z, hz⟩ := atI_last (zs := zs) (by lia)
    refine ⟨_, rfl, .inl ⟨rfl, _, SqL.of hLW14⟩, _, rfl, _, rfl, LW, _, _, _, rfl, rfl, SqL.of hLW14, hz, _, rfl, LF, _, rfl, .inl (SqL.of w14), _, _, rfl, rfl, _, _, rfl, rfl, .inl ⟨by decide, by decide⟩, LW, _, _, rfl, rfl, hLW14, smallL (by rw [List.length_map]; lia), ?_⟩
    refine ⟨_, rfl, _, _, rfl, rfl, ⟨by decide, by decide⟩, _, _, rfl, ?_⟩
    refine ⟨ls ++ [LF], zs ++ [2 * (z - (acc2.length : Int))], _, _, by rw [← half_pow]; rfl, fun c o h1 h2 e => ?_, ?_, by rw [List.length_append, hll]; rfl, fun l hl => ?_, ?_, ?_, by rw [List.length_append, hzl]; rfl⟩
    · rw [upd_ne h2, k14 c h1]
      exact y13 _ _ (k11 c o h1 h2 e)
    · rw [upd_ne nNW]
      exact hLN14
    · rcases List.mem_append.mp hl with hl | hl
      · exact hln l hl
      · have : l = LF := by simpa using hl
        rw [this]; exact ⟨nFN, nFW⟩
    · have kt : ∀ c xs, H11 c = some (.tup xs) → (upd H14 LW (.lst (zs.map V.int ++ [V.int (2 * (z - (acc2.length : Int)))]))) c = some (.tup xs) := fun c xs e => by
        rw [upd_ne (fun z => by rw [z, hLW] at e; cases e), k14 c (fun z => by rw [z, hLN] at e; cases e)]
        exact y13 _ _ e
      refine NodesL.snoc (vs := acc2) (hNd.keep (fun l hl vs e => ?_) kt) ?_ ?_
      · rw [upd_ne (hln l hl).2, k14 l (hln l hl).1]
        exact y13 _ _ e
      · rw [upd_ne nFW]
        exact w14
      · rw [hll]
        exact hP9.keep kt
    · rw [upd_same, List.map_append]
      rfl
  · rintro σ' H11 ⟨ls, zs, o8, o9, rfl, k11, hLN, hll, hln, hNd, hLW, hzl⟩
    have yH11 : Same H H11 := fun c o e => k11 c o (fN c o (yH7 _ _ e)) (fW c o (yH7 _ _ e)) (y710 _ _ (yH7 _ _ e))
    refine ⟨(by show 0 ≤ sizeLine; decide), fun l0 fl0 => ?_⟩
    have y12 := same_new fl0 (.lst ([] : List V))
    have w12 : (upd H11 l0 (.lst ([] : List V))) l0 = some (.lst []) := upd_same
    generalize upd H11 l0 (.lst ([] : List V)) = H12 at y12 w12 ⊢
    have hLN12 := y12 _ _ hLN
    have hNd12 : NodesL H12 es D ls := hNd.keep (fun l _ vs e => y12 _ _ e) fun c xs e => y12 _ _ e
    refine ⟨_, rfl, _, rfl, _, rfl, (D : Int), -1, rfl, ⟨by lia, by lia, by decide, by decide⟩, ?_⟩
    rw [show ((D : Int) - -1).toNat = D + 1 by lia]
    refine for_rangeS (lo := (D : Int)) (st := -1) (n := D + 1) (fun i σ' H' => ∃ (lp : Addr) (vs : List V) (o8 o11 : Option V), σ' = [some (.ref r), some (.int (S : Int)), some (.int ((2 ^ D : Nat) : Int)), some (.int (D : Int)), some (.ref LR), some (.ref LN), some (.ref LW), some (.int ((2 ^ (D - (D + 1)) : Nat) : Int)), o8, o9, some (.ref lp), o11] ∧ Same H12 H' ∧ H' lp = some (.lst vs) ∧ PL [] H' vs (parts es i))
      ⟨l0, [], _, _, rfl, Same.refl _, w12, PL.nil⟩ ?_ ?_
    · rintro i σ' H13 hi ⟨lp, vs, o8', o11, rfl, y13, wp, hPL⟩
      have hev : (parts es i).length % 2 = 0 := (parts_len ht i (by lia)).2 (by lia)
      have hpl := parts_le es i
      have hvl := hPL.1
      refine ⟨_, rfl, lp, vs, rfl, .inl (SqL.of wp), 0, ((vs.length : Nat) : Int), rfl, ⟨by decide, by decide, by lia, by lia⟩, ?_⟩
      have en : ((((vs.length : Nat) : Int) - 0 + 1) / 2).toNat = (parts es i).length / 2 := by lia
      rw [en]
      refine comp_rangeS (fun j acc σ' H' => ∃ (o12 : Option V), acc.length = j ∧ σ' = [some (.ref r), some (.int (S : Int)), some (.int ((2 ^ D : Nat) : Int)), some (.int (D : Int)), some (.ref LR), some (.ref LN), some (.ref LW), some (.int ((2 ^ (D - (D + 1)) : Nat) : Int)), some (.int ((D : Int) + (i : Int) * -1)), o9, some (.ref lp), o11, o12] ∧ Same H13 H' ∧ PL [] H' acc (asksTo (parts es i) j))
        ⟨_, rfl, rfl, Same.refl _, PL.nil⟩ (fun j acc σ' H' hj ⟨_, e', _⟩ => by lia) ?_ ?_
      · rintro j acc σ' H14 hj ⟨o12, hal, rfl, y14, hP14⟩
        obtain ⟨v1, q1, e1, f1, g1⟩ := hPL.at' (j := 2 * j) (by lia)
        obtain ⟨v2, q2, e2, f2, g2⟩ := hPL.at' (j := 2 * j + 1) (by lia)
        have ex : (0 : Int) + (j : Int) * 2 = ((2 * j : Nat) : Int) := by lia
        rw [ex]
        have wp14 := y14 _ _ wp
        refine ⟨_, rfl, _, rfl, lp, _, _, v1, rfl, rfl, SqL.of wp14, atI_nat e1, _, rfl, _, rfl, _, _, rfl, rfl, lp, _, _, v2, rfl, rfl, SqL.of wp14, (by
          show atI vs (((2 * j : Nat) : Int) + 1) = some v2
          rw [show (((2 * j : Nat) : Int) + 1) = ((2 * j + 1 : Nat) : Int) by lia]
          exact atI_nat e2), (by show 3 ≤ sizeLine; decide), fun p8 fp8 => ?_⟩
        have y8 := same_new fp8 (.tup [V.str "ask", v1, v2])
        refine ⟨_, by rw [List.length_append, hal]; rfl, rfl, y14.trans y8, ?_⟩
        rw [asksTo_succ f1 f2]
        exact (hP14.same y8).app (PL.one ⟨p8, v1, v2, rfl, upd_same, (g1.same y14).same y8, (g2.same y14).same y8⟩)
      rintro acc σ' H14 LA ⟨o12, hal, rfl, y14, hP14⟩ fLA
      rw [asksTo_all hev] at hP14
      have y15 := same_new fLA (.lst acc)
      have w15 : (upd H14 LA (.lst acc)) LA = some (.lst acc) := upd_same
      generalize upd H14 LA (.lst acc) = H15 at y15 w15 ⊢
      have hP15 := hP14.same y15
      have y1215 := (y13.trans y14).trans y15
      obtain ⟨l, hl⟩ : ∃ l, ls[D - i]? = some l := ⟨_, List.getElem?_eq_getElem (by lia)⟩
      obtain ⟨us, hu1, hu2⟩ := hNd12 (D - i) l hl
      rw [show D - (D - i) = i by lia] at hu2
      have hl8 := hP15.1
      have hl9 := hu2.1
      rw [List.length_map] at hl9
      rw [asks_len] at hl8
      have hfl := figO_le es i
      have et : ((D : Int) + (i : Int) * -1) = ((D - i : Nat) : Int) := by lia
      refine ⟨_, rfl, _, rfl, LN, _, _, V.ref l, rfl, rfl, SqL.of (y1215 _ _ hLN12), (by
        show atI (ls.map V.ref) ((D : Int) + (i : Int) * -1) = some (V.ref l)
        rw [et]
        exact atI_nat (by rw [List.getElem?_map, hl]; rfl)), _, rfl, l, LA, us, acc, rfl, rfl, y1215 _ _ hu1, w15, small (by lia), fun ln fln => ?_⟩
      have y16 := same_new fln (.lst (us ++ acc))
      refine ⟨ln, us ++ acc, _, _, rfl, y1215.trans y16, upd_same, ?_⟩
      exact ((hu2.same y1215).same y16).app (hP15.same y16)
    · rintro σ' H13 ⟨lp, vs, o8', o11, rfl, y13, wp, hPL⟩
      rw [plan_parts ht] at hPL
      obtain ⟨v1, q1, e1, f1, g1⟩ := hPL.at' (j := 0) (by show 0 < 1; decide)
      have : q1 = planP es D := (Option.some.inj f1).symm
      subst this
      refine ⟨_, rfl, lp, _, _, v1, rfl, rfl, SqL.of wp, atI_nat e1, q v1 D H13 ((yH11.trans y12).trans y13) hisD ?_⟩
      unfold plW
      rw [hes]
      exact g1
end
noncomputable def vopN : Option Nat → V
  | none => .non
  | some n => .int (n : Int)
noncomputable def LEnds (H : Hp) (as : List Addr) (es : List (Option Nat × Nat)) : Prop := as.length = es.length ∧ ∀ (j : Nat) (a : Addr) (e : Option Nat × Nat), as[j]? = some a → es[j]? = some e → H a = some (.tup [vopN e.1, .int ((2 ^ e.2 : Nat) : Int), .int (e.2 : Int)])
theorem LEnds.same {H H' : Hp} {as : List Addr} {es : List (Option Nat × Nat)} (h : LEnds H as es) (s : Same H H') : LEnds H' as es := ⟨h.1, fun j a e e1 e2 => s _ _ (h.2 j a e e1 e2)⟩
theorem LEnds.app {H : Hp} {as bs : List Addr} {es fs : List (Option Nat × Nat)} (h : LEnds H as es) (g : LEnds H bs fs) : LEnds H (as ++ bs) (es ++ fs) := by
  refine ⟨by rw [List.length_append, List.length_append, h.1, g.1], fun j a e e1 e2 => ?_⟩
  by_cases c : j < as.length
  · rw [List.getElem?_append_left c] at e1
    rw [List.getElem?_append_left (by rw [← h.1]; exact c)] at e2
    exact h.2 j a e e1 e2
  · rw [List.getElem?_append_right (by lia)] at e1
    rw [List.getElem?_append_right (by rw [← h.1]; lia), ← h.1] at e2
    exact g.2 _ a e e1 e2
inductive spLEnds (K : PySem.W.Frag) (n : Nat) (vs : List V) (H : Hp) (Q : VK) (E : XK) : Prop
  | mk (v : V) (pl : Pn) (d : Nat) (f1 : vs = [v, .int ((2 ^ d : Nat) : Int), .int (d : Int)]) (f2 : PnAt K H pl v) (f3 : pl.dp ≤ n) (f4 : n ≤ 12) (f5 : ∀ l as H', H l = none → Same H H' → H' l = some (.lst (as.map V.ref)) → LEnds H' as (ends pl d) → Q (.ref l) H') : spLEnds K n vs H Q E
section
variable {P : Program} {w : World} {K : PySem.W.Frag} {mg : Str → Option Value} {base : Heap} {f : Addr} {fd : FuncData}
theorem ok__law_ends {lv n : Nat} {spG : Sp} (F__law_ends : Fun K "_law_ends" "_law_ends" s__law_ends f fd) (g__law_ends : Fn P w K mg base "_law_ends" p__law_ends lv spG) (hg : ∀ m vs H Q E, n = m + 1 → spLEnds K m vs H Q E → spG vs H Q E) : FnOk P w K mg base CX0 (lv + 1) f fd p__law_ends (spLEnds K n) := by
  refine F__law_ends.ok sc__law_ends (fun vs H Q E h => ?_) (fun cdv A outer s H vs Q E hr h => ?_)
  · obtain ⟨v, pl, d, rfl, _⟩ := h
    rfl
  obtain ⟨v, pl, d, rfl, hP, hd, hn, q⟩ := h
  refine ⟨_, (pss_cons (ps_if (pt_cmpR op_eq (pe_ix ix_tup (pv 0) pe_int (fun _ _ => rfl)) pe_str (nomark _)) (pss_one (ps_ret (pe_lst (pa_cons (pe_tup (pa_cons (pe_ix ix_tup (pv 0) pe_int (fun _ _ => rfl)) (pa_cons (pv 1) (pa_cons (pv 2) pa_nil)))) pa_nil)))) pss_nil)
      (pss_cons (ps_if (pt_cmpR op_eq (pe_ix ix_tup (pv 0) pe_int (fun _ _ => rfl)) pe_str (nomark _)) (pss_one (ps_ret (pe_lst (pa_cons (pe_tup (pa_cons pe_non (pa_cons (pv 1) (pa_cons (pv 2) pa_nil)))) pa_nil)))) pss_nil)
      (pss_one (ps_ret (pe_op op_cat (pe_fn g__law_ends hr (pa_cons (pe_ix ix_tup (pv 0) pe_int (fun _ _ => rfl)) (pa_cons (pe_op op_mul (pv 1) pe_int) (pa_cons (pe_op op_add (pv 2) pe_int) pa_nil)))) (pe_fn g__law_ends hr (pa_cons (pe_ix ix_tup (pv 0) pe_int (fun _ _ => rfl)) (pa_cons (pe_op op_mul (pv 1) pe_int) (pa_cons (pe_op op_add (pv 2) pe_int) pa_nil))))))))), ?_⟩
  have leaf : ∀ (o : Option Nat), ends (o.elim .again .num) d = [(o, d)] := fun o => by cases o <;> rfl
  have last : ∀ (o : Option Nat) (p l : Addr), pl = o.elim .again .num → H p = none → (upd H p (.tup [vopN o, V.int ((2 ^ d : Nat) : Int), V.int (d : Int)])) l = none → Q (.ref l) (upd (upd H p (.tup [vopN o, V.int ((2 ^ d : Nat) : Int), V.int (d : Int)])) l (.lst [V.ref p])) := fun o p l e fp fl => by
    have y1 := same_new fp (.tup [vopN o, V.int ((2 ^ d : Nat) : Int), V.int (d : Int)])
    have y2 := same_new fl (.lst [V.ref p])
    have nl : H l = none := by
      cases e : H l with
      | none => rfl
      | some o => have := y1 _ _ e; rw [fl] at this; cases this
    refine q l [p] _ nl (y1.trans y2) upd_same ?_
    rw [e, leaf o]
    refine ⟨rfl, fun j a e' h1 h2 => ?_⟩
    have hj : j = 0 := by
      have := (List.getElem?_eq_some_iff.mp h1).1
      simpa using this
    subst hj
    cases h1
    cases h2
    exact y2 _ _ upd_same
  cases pl with
  | num m =>
    obtain ⟨p, rfl, h⟩ := id hP
    refine ⟨_, rfl, p, _, _, _, rfl, rfl, SqT.of h, rfl, rfl, _, rfl, ite2 (fun _ => ?_) (fun c => absurd (by decide +kernel) c)⟩
    exact ⟨_, rfl, p, _, _, _, rfl, rfl, SqT.of h, rfl, _, rfl, _, rfl, (by show 3 ≤ sizeLine; decide), fun p' fp => ⟨(by show 1 ≤ sizeLine; decide), fun l fl => last (some m) p' l rfl fp fl⟩⟩
  | again =>
    obtain ⟨p, rfl, h⟩ := id hP
    refine ⟨_, rfl, p, _, _, _, rfl, rfl, h.sq, rfl, rfl, _, rfl, ite2 (fun c => absurd (of_decide_eq_true c) (by decide +kernel)) (fun _ => ?_)⟩
    refine ⟨_, rfl, p, _, _, _, rfl, rfl, h.sq, rfl, rfl, _, rfl, ite2 (fun _ => ?_) (fun c => absurd (by decide +kernel) c)⟩
    exact ⟨_, rfl, _, rfl, (by show 3 ≤ sizeLine; decide), fun p' fp => ⟨(by show 1 ≤ sizeLine; decide), fun l fl => last none p' l rfl fp fl⟩⟩
  | ask pl1 pl2 =>
    clear last leaf
    obtain ⟨p, y, z, rfl, h, h1, h2⟩ := id hP
    have hd' : max pl1.dp pl2.dp + 1 ≤ n := hd
    obtain ⟨m, rfl⟩ : ∃ m, n = m + 1 := ⟨n - 1, by lia⟩
    have e2p : ((2 ^ d : Nat) : Int) * 2 = ((2 ^ (d + 1) : Nat) : Int) := by rw [Nat.pow_succ]; lia
    refine ⟨_, rfl, p, _, _, _, rfl, rfl, SqT.of h, rfl, rfl, _, rfl, ite2 (fun c => absurd (of_decide_eq_true c) (by decide +kernel)) (fun _ => ?_)⟩
    refine ⟨_, rfl, p, _, _, _, rfl, rfl, SqT.of h, rfl, rfl, _, rfl, ite2 (fun c => absurd (of_decide_eq_true c) (by decide +kernel)) (fun _ => ?_)⟩
    refine ⟨_, rfl, p, _, _, _, rfl, rfl, SqT.of h, rfl, _, rfl, _, _, rfl, rfl, .inr ⟨by decide, by decide⟩, _, rfl, _, _, rfl, rfl, hg m _ _ _ _ rfl ⟨y, pl1, d + 1, by rw [← e2p]; rfl, h1, by lia, by lia, fun l1 as1 H1 n1 s1 w1 e1 => ?_⟩⟩
    refine ⟨_, rfl, p, _, _, _, rfl, rfl, SqT.of (s1 _ _ h), rfl, _, rfl, _, _, rfl, rfl, .inr ⟨by decide, by decide⟩, _, rfl, _, _, rfl, rfl, hg m _ _ _ _ rfl ⟨z, pl2, d + 1, by rw [← e2p]; rfl, h2.same s1, by lia, by lia, fun l2 as2 H2 n2 s2 w2 e2 => ?_⟩⟩
    have e1' := e1.same s2
    have b1 := ends_len pl1 (d + 1)
    have b2 := ends_len pl2 (d + 1)
    have c1 : 2 ^ pl1.dp ≤ 4096 := Nat.le_trans (Nat.pow_le_pow_right (n := 2) (by decide) (show pl1.dp ≤ 12 by lia)) (by decide)
    have c2 : 2 ^ pl2.dp ≤ 4096 := Nat.le_trans (Nat.pow_le_pow_right (n := 2) (by decide) (show pl2.dp ≤ 12 by lia)) (by decide)
    refine ⟨l1, l2, _, _, rfl, rfl, s2 _ _ w1, w2, small (by rw [List.length_map, List.length_map, e1.1, e2.1]; lia), fun l3 f3 => ?_⟩
    have y3 := same_new f3 (.lst (as1.map V.ref ++ as2.map V.ref))
    have n3 : H l3 = none := by
      cases e : H l3 with
      | none => rfl
      | some o => have := s2 _ _ (s1 _ _ e); rw [f3] at this; cases this
    refine q l3 (as1 ++ as2) _ n3 ((s1.trans s2).trans y3) (by rw [upd_same, List.map_append]) ((e1'.app e2).same y3)
theorem lends_all (F : Fun K "_law_ends" "_law_ends" s__law_ends f fd) (mo : ∀ {k : Nat} {sp : Sp}, FnOk P w K mg base CX0 k f fd p__law_ends sp → Fn P w K mg base "_law_ends" p__law_ends k sp) : ∀ n : Nat, FnOk P w K mg base CX0 (n + 1) f fd p__law_ends (spLEnds K n)
  | 0 => ok__law_ends (lv := 0) (n := 0) F (mo (ok__law_same0 (sp := fun _ _ _ _ => False) (fun _ _ _ _ h => h))) (fun m vs H Q E e => by cases e)
  | n + 1 => ok__law_ends (lv := n + 1) (n := n + 1) F (mo (lends_all F mo n)) (fun m vs H Q E e h => by cases e; exact h)
end
noncomputable def resT : Option (Nat × Nat) → List V
  | none => [.str "NoBits", .int 0]
  | some x => [.int (x.1 : Int), .int (x.2 : Int)]
inductive spTold16 (K : PySem.W.Frag) (C : Addr) (vs : List V) (H : Hp) (Q : VK) (E : XK) : Prop
  | mk (kind : Int) (r wr : Addr) (pvv : V) (bl ws : List Nat) (pl : Pn) (f1 : vs = [.int kind, .ref r, .ref wr, pvv]) (f2 : H r = some (.tup (vbits bl))) (f3 : (∀ y ∈ bl, y ≤ 1)) (f4 : H wr = some (.tup (vnats ws))) (f5 : 0 < ws.sum) (f6 : ws.sum ≤ 4096) (f7 : ws.length ≤ 8) (f8 : PnAt K H pl pvv) (f9 : pl.dp ≤ 12) (f10 : pl.has = true) (f11 : wk pl pl bl = pkF ws bl) (f12 : ∀ p H', Same H H' → H' p = some (.tup (resT (pkF ws bl))) → Q (.ref p) H') : spTold16 K C vs H Q E
section
variable {P : Program} {w : World} {K : PySem.W.Frag} {mg : Str → Option Value} {base : Heap} {f C fI fT fU fL fG CN CS : Addr} {fd dI dT dU dL dG : FuncData} {mN mS : List Value}
theorem ok__law_told (F__law_told : Fun K "_law_told" "_law_told" s__law_told f fd) (T : Txt K mg C fI fT fU fL fG dI dT dU dL dG) (X_NoBits : Exc K mg "NoBits" CN mN) (hNN : mN.contains (.ref CN) = true) {fW fP : Addr} {dW dP : FuncData} (g_by_plan : FnX P w K mg base "by_plan" fW dW p_by_plan 15 (spByP K C CN CS wkV)) (g_pick : FnX P w K mg base "pick" fP dP p_pick 15 (spDone C CN ShW pkV))
    (g_init : FnOk P w K mg base CX0 1 fI dI p_Bits___init__ (spInit C)) (g_used : FnOk P w K mg base CX0 1 fU dU p_Bits_used (spUsed C)) : FnOk P w K mg base CX0 16 f fd p__law_told (spTold16 K C) := by
  refine F__law_told.ok sc__law_told (fun vs H Q E h => ?_) (fun cdv A outer s H vs Q E hr h => ?_)
  · obtain ⟨kind, r, wr, pvv, bl, ws, pl, rfl, _⟩ := h
    rfl
  obtain ⟨kind, r, wr, pvv, bl, ws, pl, rfl, hR, hbit, hW, h0, h4, h8, hP, hd, hh, hwp, q⟩ := h
  refine ⟨_, (pss_cons (ps_par (i := 4) (j := 5) rfl sc__law_told.nd rfl rfl (by decide) rfl rfl (pa_cons (pe_make T.made g_init (hr.mono (by first | decide | lia)) rfl T.mgC T.b_init .nil pass0 (pa_cons (pv 1) pa_nil)) (pa_cons pe_non pa_nil)) rfl)
      (pss_cons (ps_tryT (fun ps Kx Ex hp => (pss_one (ps_set (i := 5) sc__law_told.nd rfl (Or.inl rfl) (pe_ifExp (pt_cmpR op_eq (pv 0) pe_int (nomark _)) (pe_fnT hp g_by_plan hr (pa_cons (pv 4) (pa_cons (pv 3) pa_nil))) (pe_fnT hp g_pick hr (pa_cons (pv 4) (pa_cons (pv 2) pa_nil))))))) (Hs.cons X_NoBits rfl (by decide) (fun y ps ok hd => (pss_one (ps_set (i := 5) sc__law_told.nd rfl (Or.inl rfl) pe_str))) .nil) rfl rfl (fun _ => PassesOwnAt.never))
      (pss_one (ps_ret (pe_tup (pa_cons (pv 5) (pa_cons (pe_meth0 (pv 4) T.cl T.m_used g_used (hr.mono (by first | decide | lia)) T.b_used .nil pass0) pa_nil))))))), ?_⟩
  refine ⟨_, rfl, fun b dx nb ndx nex => ?_⟩
  have s7 : Same H (upd (upd H dx (.own b)) b (.ins C dx [])) := fun c o y => by
    rw [upd_ne (ne_of_none y nb), upd_ne (ne_of_none y ndx)]
    exact y
  refine ⟨b, dx, r, vbits bl, rfl, upd_same, s7 _ _ hR, fun H7 e7 kp => ⟨rfl, _, _, rfl, ?_⟩⟩
  have s8 : Same H H7 := fun c o y => kp c o (s7 c o y) (ne_of_none y nb)
  have a7 : At C H7 b dx r bl 0 := ⟨e7, s8 _ _ hR, Nat.zero_le _⟩
  have gs : ∀ {H'' : Hp}, Grow b H7 H'' → Same H H'' := fun {H''} g c o e => g c o (ne_of_none e nb) (s8 c o e)
  have hb1 : b ≠ r := fun z => by rw [← z, nb] at hR; cases hR
  have hlast : ∀ (v : V) (u : Nat) (H8 : Hp), Grow b H7 H8 → At C H8 b dx r bl u → resT (pkF ws bl) = [v, V.int (u : Int)] →
      2 ≤ sizeLine ∧ ∀ p, H8 p = none → Q (.ref p) (upd H8 p (.tup [v, V.int (u : Int)])) := fun v u H8 g8 a8 e => ⟨by decide, fun p fp => by
    have y := same_new fp (.tup [v, V.int (u : Int)])
    refine q p _ ((gs g8).trans y) ?_
    rw [upd_same, e]⟩
  clear nb ndx nex s7 e7 kp
  intro ps Kx
  refine ⟨_, rfl, rfl, _, rfl, ite2 (fun _ => ?_) (fun _ => ?_)⟩
  · refine ⟨_, rfl, _, rfl, b, dx, r, bl, 0, pvv, pl, rfl, a7, hbit, hP.same s8, hd, fun v u H8 h1 hv g8 a8 => ?_, fun H8 h1 hv g8 a8 => ?_, fun H8 h1 s' => by rw [hh] at h1; cases h1⟩
    · rw [List.drop_zero] at hv
      unfold wkV at hv
      rw [hwp] at hv
      rw [Nat.zero_add] at a8
      cases ev : pkF ws bl with
      | none => rw [ev] at hv; cases hv
      | some pr =>
        rw [ev] at hv
        cases hv
        exact ⟨_, rfl, _, rfl, b, dx, _, rfl, a8.obj, flds_no _ _ (by decide +kernel) (by decide +kernel), b, dx, r, pr.2, rfl, a8.obj, hlast _ _ H8 g8 a8 (by rw [ev]; rfl)⟩
    · rw [List.drop_zero] at hv
      unfold wkV at hv
      rw [hwp] at hv
      refine ⟨"NoBits", CN, mN, _, rfl, X_NoBits, if_pos hNN, ?_⟩
      cases ev : pkF ws bl with
      | some pr => rw [ev] at hv; cases hv
      | none => exact ⟨_, rfl, _, rfl, b, dx, _, rfl, a8.obj, flds_no _ _ (by decide +kernel) (by decide +kernel), b, dx, r, 0, rfl, a8.obj, hlast _ _ H8 g8 a8 (by rw [ev]; rfl)⟩
  · refine ⟨_, rfl, _, rfl, b, dx, r, bl, 0, _, ws, rfl, a7, ⟨wr, rfl, s8 _ _ hW, h0, by lia, by lia⟩, fun v u H8 hv g8 a8 => ?_, fun H8 hv g8 a8 => ?_⟩
    · rw [List.drop_zero] at hv
      unfold pkV at hv
      rw [Nat.zero_add] at a8
      cases ev : pkF ws bl with
      | none => rw [ev] at hv; cases hv
      | some pr =>
        rw [ev] at hv
        cases hv
        exact ⟨_, rfl, _, rfl, b, dx, _, rfl, a8.obj, flds_no _ _ (by decide +kernel) (by decide +kernel), b, dx, r, pr.2, rfl, a8.obj, hlast _ _ H8 g8 a8 (by rw [ev]; rfl)⟩
    · rw [List.drop_zero] at hv
      unfold pkV at hv
      refine ⟨"NoBits", CN, mN, _, rfl, X_NoBits, if_pos hNN, ?_⟩
      cases ev : pkF ws bl with
      | some pr => rw [ev] at hv; cases hv
      | none => exact ⟨_, rfl, _, rfl, b, dx, _, rfl, a8.obj, flds_no _ _ (by decide +kernel) (by decide +kernel), b, dx, r, 0, rfl, a8.obj, hlast _ _ H8 g8 a8 (by rw [ev]; rfl)⟩
end
noncomputable def SclL (zs : List V) : Prop := ∀ z ∈ zs, scl z = true
theorem cat34 {K : PySem.W.Frag} {H : Hp} {a b : Addr} {xs ys : List V} {Q : VK} (ha : H a = some (.tup xs)) (hb : H b = some (.tup ys)) (hz : xs.length + ys.length ≤ 300000) (q : ∀ p H', Same H H' → H' p = some (.tup (xs ++ ys)) → Q (.ref p) H') : rCat0 K (.ref a) (.ref b) H Q := by
  refine ⟨a, b, xs, ys, rfl, rfl, SqT.of ha, SqT.of hb, small (by lia), fun e => ?_, fun _ e => ?_, fun _ _ p fp => q p _ (same_new fp _) upd_same⟩
  · subst e
    exact q b H (Same.refl _) hb
  · subst e
    refine q a H (Same.refl _) ?_
    rw [List.append_nil]
    exact ha
theorem agH {H : Hp} {p : Addr} (h : AgAt [] H p) : H p = some (.tup [.str "again"]) := by
  rcases h with h | h
  · exact h
  · rcases h (fun _ => none) with (z | ⟨_, z⟩) | ⟨o, its, n, z, _⟩
    · cases z
    · cases z
    · cases z
theorem plan_eqv {K : PySem.W.Frag} {H : Hp} : ∀ {pl : Pn} {x y : V} {n : Nat}, PnAt K H pl x → PnAt [] H pl y → pl.dp + 2 ≤ n → EqvS K H n x y
  | .num m, _, _, n + 2, ⟨p, e, h⟩, ⟨p', e', h'⟩, _ => .inr ⟨p, p', _, _, e, e', .inl h, h', (by show 2 ≤ 1000000; decide), .cons (.inl ⟨rfl, rfl⟩) (.cons (.inl ⟨rfl, rfl⟩) .nil)⟩
  | .again, _, _, n + 2, ⟨p, e, h⟩, ⟨p', e', h'⟩, _ => .inr ⟨p, p', _, _, e, e', h, agH h', (by show 1 ≤ 1000000; decide), .cons (.inl ⟨rfl, rfl⟩) .nil⟩
  | .ask l r, _, _, n + 2, ⟨p, y, z, e, h, h1, h2⟩, ⟨p', y', z', e', h', h1', h2'⟩, hn => by
    have hn' : max l.dp r.dp + 1 + 2 ≤ n + 2 := hn
    exact .inr ⟨p, p', _, _, e, e', .inl h, h', (by show 3 ≤ 1000000; decide), .cons (.inl ⟨rfl, rfl⟩) (.cons (plan_eqv h1 h1' (by lia)) (.cons (plan_eqv h2 h2' (by lia)) .nil))⟩
  | _, _, _, 0, _, _, hn => by lia
  | _, _, _, 1, _, _, hn => by lia
theorem small_of : ∀ (pl : Pn) (k : Nat), (∀ (n d : Nat), (some n, d) ∈ ends pl k → n ≤ 99) → pl.small
  | .num m, k, h => h m k (by simp [ends])
  | .again, _, _ => True.intro
  | .ask l r, k, h => ⟨small_of l (k + 1) fun n d e => h n d (List.mem_append_left _ e), small_of r (k + 1) fun n d e => h n d (List.mem_append_right _ e)⟩
theorem sorted_uniq : ∀ {a b : List Nat}, a.Pairwise (· < ·) → b.Pairwise (· < ·) → (∀ n, n ∈ a ↔ n ∈ b) → a = b
  | [], [], _, _, _ => rfl
  | [], y :: b, _, _, h => absurd ((h y).mpr List.mem_cons_self) (by simp)
  | x :: a, [], _, _, h => absurd ((h x).mp List.mem_cons_self) (by simp)
  | x :: a, y :: b, ha, hb, h => by
    rw [List.pairwise_cons] at ha hb
    have hxy : x = y := by
      have h1 := (h x).mp List.mem_cons_self
      have h2 := (h y).mpr List.mem_cons_self
      rcases List.mem_cons.mp h1 with e | e
      · exact e
      · rcases List.mem_cons.mp h2 with e' | e'
        · exact e'.symm
        · have := hb.1 x e
          have := ha.1 y e'
          lia
    subst hxy
    congr 1
    refine sorted_uniq ha.2 hb.2 fun n => ?_
    constructor
    · intro hn
      have := ha.1 n hn
      rcases List.mem_cons.mp ((h n).mp (List.mem_cons_of_mem _ hn)) with e | e
      · lia
      · exact e
    · intro hn
      have := hb.1 n hn
      rcases List.mem_cons.mp ((h n).mpr (List.mem_cons_of_mem _ hn)) with e | e
      · lia
      · exact e
noncomputable def posN (ws : List Nat) (j : Nat) : List Nat := (List.range j).filter fun i => decide (0 < ws.getD i 0)
theorem posN_succ (ws : List Nat) (j : Nat) : posN ws (j + 1) = posN ws j ++ (if 0 < ws.getD j 0 then [j] else []) := by
  unfold posN
  rw [List.range_succ, List.filter_append]
  congr 1
  rw [List.filter_cons]
  by_cases c : 0 < ws.getD j 0
  · rw [if_pos c, if_pos (decide_eq_true c)]; rfl
  · rw [if_neg c, if_neg (by rw [decide_eq_false c]; decide)]; rfl
theorem posN_sorted (ws : List Nat) (j : Nat) : (posN ws j).Pairwise (· < ·) := List.Pairwise.sublist List.filter_sublist List.pairwise_lt_range
theorem posN_mem (ws : List Nat) (n : Nat) : n ∈ posN ws ws.length ↔ 0 < ws.getD n 0 := by
  unfold posN
  rw [List.mem_filter, List.mem_range, decide_eq_true_iff]
  refine ⟨fun h => h.2, fun h => ⟨?_, h⟩⟩
  rcases Nat.lt_or_ge n ws.length with c | c
  · exact c
  · rw [List.getD_eq_getElem?_getD, List.getElem?_eq_none c] at h
    exact absurd h (by decide)
noncomputable def ShL (H : Hp) (rs : List Addr) (ms : List Nat) (F : Nat → List V) : Prop := rs.length = ms.length ∧ ∀ (j : Nat) (r : Addr) (n : Nat), rs[j]? = some r → ms[j]? = some n → ∃ fp, H r = some (.tup [.int (n : Int), .ref fp]) ∧ H fp = some (.tup (F n))
theorem ShL.same {H H' : Hp} {rs : List Addr} {ms : List Nat} {F : Nat → List V} (h : ShL H rs ms F) (s : Same H H') : ShL H' rs ms F := ⟨h.1, fun j r n e1 e2 => by
  obtain ⟨fp, z1, z2⟩ := h.2 j r n e1 e2
  exact ⟨fp, s _ _ z1, s _ _ z2⟩⟩
theorem ShL.snoc {H : Hp} {rs : List Addr} {ms : List Nat} {F : Nat → List V} {p fp : Addr} {n : Nat} (h : ShL H rs ms F) (hp : H p = some (.tup [.int (n : Int), .ref fp])) (hf : H fp = some (.tup (F n))) : ShL H (rs ++ [p]) (ms ++ [n]) F := by
  refine ⟨by rw [List.length_append, List.length_append, h.1]; rfl, fun j a e e1 e2 => ?_⟩
  by_cases c : j < rs.length
  · rw [List.getElem?_append_left c] at e1
    rw [List.getElem?_append_left (by rw [← h.1]; exact c)] at e2
    exact h.2 j a e e1 e2
  · rw [List.getElem?_append_right (by lia)] at e1
    rw [List.getElem?_append_right (by rw [← h.1]; lia), ← h.1] at e2
    have hj : j - rs.length = 0 := by
      have := (List.getElem?_eq_some_iff.mp e1).1
      simpa using this
    rw [hj] at e1 e2
    cases e1
    cases e2
    exact ⟨fp, hp, hf⟩
theorem sh_eqv {K : PySem.W.Frag} {H : Hp} {a b : Addr} {rs qs : List Addr} {ms : List Nat} {F : Nat → List V} {n : Nat} (ha : H a = some (.tup (rs.map V.ref))) (hb : H b = some (.tup (qs.map V.ref))) (h1 : ShL H rs ms F) (h2 : ShL H qs ms F) (hF : ∀ n, ∃ u l : Int, F n = [.int u, .int l]) (hz : ms.length ≤ 1000) : EqvS K H (n + 4) (.ref a) (.ref b) := by
  refine .inr ⟨a, b, _, _, rfl, rfl, .inl ha, hb, by rw [List.length_map, h1.1]; lia, ?_⟩
  refine pairedGet (by rw [List.length_map, List.length_map, h1.1, h2.1]) fun i x y e1 e2 => ?_
  rw [List.getElem?_map] at e1 e2
  cases f1 : rs[i]? with
  | none => rw [f1] at e1; cases e1
  | some r1 =>
    cases f2 : qs[i]? with
    | none => rw [f2] at e2; cases e2
    | some r2 =>
      rw [f1] at e1
      rw [f2] at e2
      cases e1
      cases e2
      have hi : i < ms.length := by rw [← h1.1]; exact (List.getElem?_eq_some_iff.mp f1).1
      obtain ⟨g1, z1, w1⟩ := h1.2 i r1 _ f1 (List.getElem?_eq_getElem hi)
      obtain ⟨g2, z2, w2⟩ := h2.2 i r2 _ f2 (List.getElem?_eq_getElem hi)
      obtain ⟨u, l, e⟩ := hF ms[i]
      rw [e] at w1 w2
      exact .inr ⟨r1, r2, _, _, rfl, rfl, .inl z1, z2, (by show 2 ≤ 1000000; decide), .cons (.inl ⟨rfl, rfl⟩) (.cons (.inr ⟨g1, g2, _, _, rfl, rfl, .inl w1, w2, (by show 2 ≤ 1000000; decide), .cons (.inl ⟨rfl, rfl⟩) (.cons (.inl ⟨rfl, rfl⟩) .nil)⟩) .nil)⟩
theorem plW_frV {ws : List Nat} {D : Nat} (h : ws.sum ≤ 2 ^ D) (h0 : 0 < ws.sum) (n : Nat) : frV (shP (· == some n) (ends (plW ws D) 0) (plW ws D).dp) (shP (·.isSome) (ends (plW ws D) 0) (plW ws D).dp) = frV (ws.getD n 0) ws.sum := by
  have e1 := plW_one n h
  have e2 := plW_all h
  have hb : 0 < shP (·.isSome) (ends (plW ws D) 0) (plW ws D).dp := by
    rcases Nat.eq_zero_or_pos (shP (·.isSome) (ends (plW ws D) 0) (plW ws D).dp) with z | z
    · rw [z, Nat.zero_mul] at e2; lia
    · exact z
  refine frV_eq hb h0 ?_
  rw [← e1]
  generalize shP (· == some n) (ends (plW ws D) 0) (plW ws D).dp = a at e1
  generalize shP (·.isSome) (ends (plW ws D) 0) (plW ws D).dp = b at e2 hb
  rw [← e2, Nat.mul_right_comm, Nat.mul_assoc]
theorem plW_num {ws : List Nat} {D n d : Nat} (h : ws.sum ≤ 2 ^ D) (hm : (some n, d) ∈ ends (plW ws D) 0) : n < ws.length := by
  have := (plW_mem h n).mp ⟨d, hm⟩
  rcases Nat.lt_or_ge n ws.length with c | c
  · exact c
  · rw [List.getD_eq_getElem?_getD, List.getElem?_eq_none c] at this
    exact absurd this (by decide)
noncomputable def kOf (e : Option Nat × Nat) : List (Option Int) := [e.1.map fun (n : Nat) => (n : Int), some (e.2 : Int)]
theorem kOf_V (e : Option Nat × Nat) : (kOf e).map oV = [vopN e.1, .int (e.2 : Int)] := by
  obtain ⟨o, d⟩ := e
  cases o <;> rfl
theorem kOf_inj {e e' : Option Nat × Nat} (h : kOf e = kOf e') : e = e' := by
  obtain ⟨o, d⟩ := e
  obtain ⟨o', d'⟩ := e'
  unfold kOf at h
  injection h with h1 h2
  injection h2 with h2 _
  injection h2 with h2
  have hd : d = d' := by lia
  subst hd
  cases o with
  | none =>
    cases o' with
    | none => rfl
    | some _ => cases h1
  | some n =>
    cases o' with
    | none => cases h1
    | some m =>
      have h1' : (n : Int) = (m : Int) := Option.some.inj h1
      have : n = m := by lia
      rw [this]
theorem isD_pow (D : Nat) : isD (2 ^ D) D := ⟨Nat.le_refl _, fun j hj => Nat.pow_lt_pow_right (by decide) hj⟩
theorem sum_le_len {m : Nat} : ∀ {l : List Nat}, (∀ x ∈ l, x ≤ m) → l.sum ≤ l.length * m
  | [], _ => by simp
  | a :: l, h => by
    have h1 := h a List.mem_cons_self
    have h2 := sum_le_len fun x hx => h x (List.mem_cons_of_mem _ hx)
    rw [List.sum_cons, List.length_cons, Nat.succ_mul]
    lia
theorem scl_pair {K : PySem.W.Frag} {H : Hp} {n : Nat} : ∀ {zs : List V}, SclL zs → Paired (EqvS K H (n + 1)) zs zs
  | [], _ => .nil
  | z :: zs, h => .cons (.inl ⟨rfl, h z List.mem_cons_self⟩) (scl_pair fun x hx => h x (List.mem_cons_of_mem _ hx))
section
variable {P : Program} {w : World} {K : PySem.W.Frag} {mg : Str → Option Value} {base : Heap} {f C fI fT fU fL fG CN : Addr} {fd dI dT dU dL dG : FuncData}
theorem ok_law (F_law : Fun K "law" "law" s_law f fd) (B : Bl mg) (g__law_bits : Fn P w K mg base "_law_bits" p__law_bits 16 (spBits K)) (g__law_weights : Fn P w K mg base "_law_weights" p__law_weights 16 (spWts K)) (g_plan_of : Fn P w K mg base "plan_of" p_plan_of 16 (spOf K)) (g__law_made : Fn P w K mg base "_law_made" p__law_made 16 spMade)
    (g_is_plan : Fn P w K mg base "is_plan" p_is_plan 16 (spIsPlan K)) (g__law_frac : Fn P w K mg base "_law_frac" p__law_frac 16 spFrac) (g_shares_of : Fn P w K mg base "shares_of" p_shares_of 16 (spSh K)) (g__law_ends : Fn P w K mg base "_law_ends" p__law_ends 16 (spLEnds K 12)) (g__law_told : Fn P w K mg base "_law_told" p__law_told 16 (spTold16 K C)) (g__law_same : Fn P w K mg base "_law_same" p__law_same 16 (spSameS K 15)) : FnOk P w K mg base CX0 17 f fd p_law (spLaw K) := by
  refine F_law.ok sc_law (fun vs H Q E h => ?_) (fun cdv A outer s H vs Q E hr h => ?_)
  · obtain ⟨a, ns, rfl, _⟩ := h
    rfl
  obtain ⟨a, ns, rfl, hS, h63, q⟩ := h
  refine ⟨_, (pss_cons (ps_set (i := 1) sc_law.nd rfl (Or.inl rfl) (pe_lst pa_nil))
      (pss_cons (ps_for PassesOwn.never rfl (pi_range1 rfl B.range_ (pa_cons pe_int pa_nil)) (pg_name (i := 2) sc_law.nd rfl (Or.inl rfl)) (pss_cons (ps_set (i := 3) sc_law.nd rfl (Or.inl rfl) (pe_fn g__law_weights hr (pa_cons (pv 0) (pa_cons (pv 1) pa_nil))))
      (pss_cons (ps_set (i := 4) sc_law.nd rfl (Or.inl rfl) (pe_fn g_plan_of hr (pa_cons (pv 3) pa_nil)))
      (pss_cons (ps_if (PW.pt (pw_or (pt_not (pt_truth (pe_fn g__law_same hr (pa_cons (pv 4) (pa_cons (pe_fn g__law_made hr (pa_cons (pv 3) pa_nil)) pa_nil))) (fun _ => rfl))) (pw_or1 (pt_cmpR op_notBl (pe_fn g_is_plan hr (pa_cons (pv 4) pa_nil)) pe_bl (nomark _))))) (pss_one (ps_ret pe_bl)) pss_nil)
      (pss_cons (ps_set (i := 5) sc_law.nd rfl (Or.inl rfl) (pe_callB (call_sumT rfl) rfl B.sum_ L3.bt_sum (pa_cons (pv 3) pa_nil)))
      (pss_cons (ps_set (i := 6) sc_law.nd rfl (Or.inl rfl) (pe_tup pa_nil))
      (pss_cons (ps_for PassesOwn.never rfl (pi_enumT rfl B.enumerate_ (pa_cons (pv 3) pa_nil)) (pg_tup rfl (pgs_cons (pg_name (i := 7) sc_law.nd rfl (Or.inl rfl)) (pgs_cons (pg_name (i := 8) sc_law.nd rfl (Or.inl rfl)) pgs_nil))) (pss_one (ps_set (i := 6) sc_law.nd rfl (Or.inl rfl) (pe_op op_cat0 (pv 6) (pe_op op_repT01 (pe_tup (pa_cons (pe_tup (pa_cons (pv 7) (pa_cons (pe_fn g__law_frac hr (pa_cons (pv 8) (pa_cons (pv 5) pa_nil))) pa_nil))) pa_nil)) (pe_callTy call_int1 rfl B.int_ L3.bt_int (pa_cons (pe_cmpR op_gt (pv 8) pe_int (nomark _)) pa_nil)))))))
      (pss_cons (ps_if (pt_not (pt_truth (pe_fn g__law_same hr (pa_cons (pe_fn g_shares_of hr (pa_cons (pv 4) pa_nil)) (pa_cons (pv 6) pa_nil))) (fun _ => rfl))) (pss_one (ps_ret pe_bl)) pss_nil)
      (pss_cons (ps_comp 9 [7, 10] ["_law_script", "_law_town", "_law_k", "_law_weights_here", "_law_made_here", "_law_total", "_law_due", "_law_number", "_law_weight", "_law_ends_here", "_law_size", "_law_whole", "_law_other", "_law_j", "_law_row", "_law_high"] 1 rfl sc_law.nd rfl rfl (pi_list (pe_fn g__law_ends hr (pa_cons (pv 4) (pa_cons pe_int (pa_cons pe_int pa_nil))))) (fun _ _ _ _ _ => (pg_tupK K 3 rfl (pgs_cons (pg_name (i := 7) nd_15 rfl (Or.inl rfl) (Or.inr rfl)) (pgs_cons (pg_name (i := 10) nd_15 rfl (Or.inl rfl) (Or.inr rfl)) (pgs_cons (pg_name (i := 15) nd_15 rfl (Or.inl rfl) (Or.inr rfl)) pgs_nil))) rfl rfl rfl)) (fun _ _ _ _ _ => pif_nil) (fun _ _ _ _ _ => (pe_tup (pa_cons (pv 7) (pa_cons (pv 15) pa_nil)))))
      (pss_cons (ps_if (pt_cmpR op_ne (pe_lenDict rfl hr.units rfl B.len_ rfl B.dict_ (pa_cons (pe_comp [] ["_law_script", "_law_town", "_law_k", "_law_weights_here", "_law_made_here", "_law_total", "_law_due", "_law_number", "_law_weight", "_law_ends_here", "_law_size", "_law_whole", "_law_other", "_law_j", "_law_row", "_law_end"] 1 rfl (pi_list (pv 9)) (fun _ _ _ _ _ => (pg_name (i := 15) nd_16 rfl (Or.inl rfl) (Or.inr rfl))) (fun _ _ _ _ _ => pif_nil) (fun _ _ _ _ _ => (pe_tup (pa_cons (pv 15) (pa_cons pe_int pa_nil))))) pa_nil)) (pe_callB call_len_seq rfl B.len_ L3.bt_len (pa_cons (pv 9) pa_nil)) (nomark _)) (pss_one (ps_ret pe_bl)) pss_nil)
      (pss_cons (ps_set (i := 10) sc_law.nd rfl (Or.inl rfl) pe_int)
      (pss_cons (ps_while PassesOwn.never (pt_cmpR op_lt (pv 10) (pv 5) (nomark _)) (pss_one (ps_set (i := 10) sc_law.nd rfl (Or.inl rfl) (pe_op op_mul (pv 10) pe_int))))
      (pss_cons (ps_set (i := 11) sc_law.nd rfl (Or.inl rfl) (pe_op op_cat0 (pv 3) (pe_tup (pa_cons (pe_op op_sub (pv 10) (pv 5)) pa_nil))))
      (pss_cons (ps_set (i := 12) sc_law.nd rfl (Or.inl rfl) (pe_fn g_plan_of hr (pa_cons (pv 11) pa_nil)))
      (pss_one (ps_for PassesOwn.never rfl (pi_range1 rfl B.range_ (pa_cons pe_int pa_nil)) (pg_name (i := 13) sc_law.nd rfl (Or.inl rfl)) (pss_cons (ps_set (i := 14) sc_law.nd rfl (Or.inl rfl) (pe_fn g__law_bits hr (pa_cons (pv 0) (pa_cons (pv 1) (pa_cons pe_int pa_nil)))))
      (pss_one (ps_if (pt_not (pt_truth (pe_fn g__law_same hr (pa_cons (pe_fn g__law_told hr (pa_cons pe_int (pa_cons (pv 14) (pa_cons (pv 11) (pa_cons (pv 12) pa_nil))))) (pa_cons (pe_fn g__law_told hr (pa_cons pe_int (pa_cons (pv 14) (pa_cons (pv 11) (pa_cons (pv 12) pa_nil))))) pa_nil))) (fun _ => rfl))) (pss_one (ps_ret pe_bl)) pss_nil)))))))))))))))))))
      (pss_one (ps_ret pe_bl)))), ?_⟩
  refine ⟨(by show 0 ≤ sizeLine; decide), fun t ft => ?_⟩
  have sT := same_new ft (.lst ([] : List V))
  have hT : Twn (upd H t (.lst [])) t 0 := upd_same
  replace hS := sT.scr hS
  generalize upd H t (.lst []) = H0 at hS hT
  refine ⟨6, rfl, by decide, by decide, for_range (lo := 0) (n := 6) (fun i σ' H' => ∃ (k : Nat) (o2 o3 o4 o5 o6 o7 o8 o9 o10 o11 o12 o13 o14 : Option V), σ' = [some (.ref a), some (.ref t), o2, o3, o4, o5, o6, o7, o8, o9, o10, o11, o12, o13, o14] ∧ Scr K H' a ns ∧ Twn H' t k ∧ k ≤ 1000 * i)
    ⟨0, _, _, _, _, _, _, _, _, _, _, _, _, _, rfl, hS, hT, by lia⟩ ?_ ?_⟩
  rotate_left
  · rintro σ H1 ⟨k, o2, o3, o4, o5, o6, o7, o8, o9, o10, o11, o12, o13, o14, rfl, hS1, hT1, hk1⟩
    exact q H1
  rintro i σ H1 hi ⟨k, o2, o3, o4, o5, o6, o7, o8, o9, o10, o11, o12, o13, o14, rfl, hS1, hT1, hk1⟩
  -- weights
  refine ⟨_, rfl, _, rfl, a, t, ns, k, rfl, hS1, h63, hT1, by lia, fun p ws k2 H2 g2 t2 hk2 hW hl1 hl7 h0 h400 => ?_⟩
  have hS2 := g2.scr hT1 hS1
  have hsum : ws.sum ≤ 2800 := by
    have h1 := sum_le_len (m := 400) h400
    have h2 : ws.length * 400 ≤ 7 * 400 := Nat.mul_le_mul_right _ hl7
    lia
  clear hS1 hT1 g2
  -- the plan
  refine ⟨_, rfl, p, ws, rfl, hW, h0, by lia, by lia, fun v D H3 s3 hD hP => ?_⟩
  have hge : ws.sum ≤ 2 ^ D := hD.1
  have hD12 : D ≤ 12 := isD_le hD (by lia)
  have hdp : (plW ws D).dp ≤ 12 := Nat.le_trans (plW_dp hge) hD12
  have hhas := plW_has hge h0
  have hnum : ∀ (n d : Nat), (some n, d) ∈ ends (plW ws D) 0 → n < 7 := fun n d h => by have := plW_num hge h; lia
  have hpow : 2 ^ D ≤ 4096 := Nat.le_trans (Nat.pow_le_pow_right (n := 2) (by decide) hD12) (by decide)
  -- the same by hand
  refine ⟨_, rfl, _, rfl, p, ws, rfl, s3 _ _ hW, h0, by lia, by lia, fun v' D' H4 s4 hD' hP' => ?_⟩
  obtain rfl := isD_uniq hD hD'
  have hP4 := hP.same s4
  refine ⟨_, _, rfl, plan_eqv hP4 hP' (by lia), fun H5 s5 => ⟨_, rfl, iteF ?_⟩⟩
  refine ⟨_, rfl, v, _, rfl, hP4.same s5, hdp, small_of _ 0 fun n d h => by have := hnum n d h; lia, fun H6 s6 => ?_⟩
  refine ⟨true, true, rfl, rfl, _, rfl, iteF ?_⟩
  have s26 := ((s3.trans s4).trans s5).trans s6
  have hW6 := s26 _ _ hW
  have hP6 := (hP4.same s5).same s6
  have hS6 := s26.scr hS2
  have t6 := s26.twn t2
  clear hP hP' hP4 s26 s3 s4 s5 s6 hW hS2 t2 hD'
  -- total
  refine ⟨_, rfl, p, ws.map (fun (n : Nat) => (n : Int)), rfl, SqT.of (by rw [← vnats_ints]; exact hW6), ?_⟩
  rw [sum_nats]
  -- due
  refine ⟨(by show 0 ≤ sizeLine; decide), fun d0 fd0 => ?_⟩
  have y7 := same_new fd0 (.tup ([] : List V))
  have w7 : (upd H6 d0 (.tup ([] : List V))) d0 = some (.tup []) := upd_same
  generalize upd H6 d0 (.tup ([] : List V)) = H7 at y7 w7 ⊢
  have hW7 := y7 _ _ hW6
  have hP7 := hP6.same y7
  have hS7 := y7.scr hS6
  have t7 := y7.twn t6
  clear y7 hW6 hP6 hS6 t6 fd0
  refine ⟨_, rfl, p, rfl, ⟨_, SqT.of hW7⟩, for_enum (xs := vnats ws) (fun j σ' H' => ∃ (dd : Addr) (qs : List Addr) (o7 o8 : Option V), σ' = [some (.ref a), some (.ref t), some (.int (0 + (i : Int))), some (.ref p), some v, some (.int ((ws.sum : Nat) : Int)), some (.ref dd), o7, o8, o9, o10, o11, o12, o13, o14] ∧ Same H7 H' ∧ H' dd = some (.tup (qs.map V.ref)) ∧ ShL H' qs (posN ws j) (fun n => frV (ws.getD n 0) ws.sum))
    ⟨d0, [], _, _, rfl, Same.refl _, w7, rfl, fun j r n e => by simp at e⟩ (fun j σ' H' _ ⟨_, _, _, _, _, y, _⟩ => SqT.of (y _ _ hW7)) ?_ ?_⟩
  · rintro j x σ' H8 pt hx ⟨dd, qs, o7', o8', rfl, y8, hdd, hQ⟩ fpt
    have hj : j < ws.length := by rw [← vnats_len]; exact (List.getElem?_eq_some_iff.mp hx).1
    rw [vnats_at hj] at hx
    obtain rfl := Option.some.inj hx
    have y9 := same_new fpt (.tup [V.int (j : Int), V.int ((ws.getD j 0 : Nat) : Int)])
    have w9 : (upd H8 pt (.tup [V.int (j : Int), V.int ((ws.getD j 0 : Nat) : Int)])) pt = some (.tup [V.int (j : Int), V.int ((ws.getD j 0 : Nat) : Int)]) := upd_same
    generalize upd H8 pt (.tup [V.int (j : Int), V.int ((ws.getD j 0 : Nat) : Int)]) = H9 at y9 w9 ⊢
    refine ⟨pt, _, rfl, SqT.of w9, rfl, _, _, rfl, _, _, rfl, rfl, ?_⟩
    refine ⟨_, rfl, _, rfl, _, rfl, _, rfl, ws.getD j 0, ws.sum, rfl, h0, Fit.of (by lia), fun fp H10 s10 w10 => ?_⟩
    refine ⟨(by show 2 ≤ sizeLine; decide), fun p11 fp11 => ?_⟩
    have y11 := same_new fp11 (.tup [V.int (j : Int), V.ref fp])
    have w11 : (upd H10 p11 (.tup [V.int (j : Int), V.ref fp])) p11 = some (.tup [V.int (j : Int), V.ref fp]) := upd_same
    generalize upd H10 p11 (.tup [V.int (j : Int), V.ref fp]) = H11 at y11 w11 ⊢
    refine ⟨(by show 1 ≤ sizeLine; decide), fun p12 fp12 => ?_⟩
    have y12 := same_new fp12 (.tup [V.ref p11])
    have w12 : (upd H11 p12 (.tup [V.ref p11])) p12 = some (.tup [V.ref p11]) := upd_same
    generalize upd H11 p12 (.tup [V.ref p11]) = H12 at y12 w12 ⊢
    have y812 := ((y9.trans s10).trans y11).trans y12
    have hQ12 := hQ.same y812
    have hdd12 := y812 _ _ hdd
    have hql : qs.length ≤ 7 := by
      rw [hQ.1]
      have := List.length_filter_le (fun i => decide (0 < ws.getD i 0)) (List.range j)
      rw [List.length_range] at this
      unfold posN
      lia
    refine ⟨_, rfl, _, _, rfl, rfl, .inr ⟨_, rfl, p12, _, _, rfl, rfl, SqT.of w12, (by intro z; cases z), ?_⟩⟩
    by_cases c : 0 < ws.getD j 0
    · refine .inl ⟨by rw [if_pos (decide_eq_true (by lia))], cat34 hdd12 w12 (by rw [List.length_map]; show qs.length + 1 ≤ 300000; lia) fun pn H13 s13 w13 => ?_⟩
      refine ⟨pn, qs ++ [p11], _, _, rfl, (y8.trans y812).trans s13, by rw [w13, List.map_append]; rfl, ?_⟩
      rw [posN_succ, if_pos c]
      exact (hQ12.same s13).snoc (s13 _ _ (y12 _ _ w11)) (s13 _ _ (y12 _ _ (y11 _ _ w10)))
    · refine .inr ⟨by rw [if_neg (by rw [decide_eq_false (by lia)]; decide)], fun p13 fp13 => ?_⟩
      have y13 := same_new fp13 (.tup ([] : List V))
      have w13 : (upd H12 p13 (.tup ([] : List V))) p13 = some (.tup []) := upd_same
      generalize upd H12 p13 (.tup ([] : List V)) = H13 at y13 w13 ⊢
      refine cat34 (y13 _ _ hdd12) w13 (by rw [List.length_map]; show qs.length + 0 ≤ 300000; lia) fun pn H14 s14 w14 => ?_
      refine ⟨pn, qs, _, _, rfl, ((y8.trans y812).trans y13).trans s14, by rw [w14, List.append_nil], ?_⟩
      rw [posN_succ, if_neg c, List.append_nil]
      exact (hQ12.same y13).same s14
  rintro σ' H8 ⟨dd, qs, o7', o8', rfl, y8, hdd, hQ⟩
  rw [vnats_len] at hQ
  have hW8 := y8 _ _ hW7
  have hP8 := hP7.same y8
  have hS8 := y8.scr hS7
  have t8 := y8.twn t7
  clear y8 hW7 hP7 hS7 t7 w7
  -- shares
  refine ⟨_, rfl, v, _, rfl, hP8, hdp, hhas, fun n d h => by have := hnum n d h; lia, fun pr rs ms H9 s9 hpr hms hmem hrl hsh => ?_⟩
  have hmsE : ms = posN ws ws.length := sorted_uniq hms (posN_sorted _ _) fun n => by rw [hmem, plW_mem hge, posN_mem]
  subst hmsE
  have hposl : (posN ws ws.length).length ≤ 7 := by
    have := List.length_filter_le (fun i => decide (0 < ws.getD i 0)) (List.range ws.length)
    rw [List.length_range] at this
    unfold posN
    lia
  refine ⟨_, rfl, _, _, rfl, sh_eqv (n := 11) hpr (s9 _ _ hdd) ⟨hrl, fun j r n e1 e2 => ?_⟩ (hQ.same s9) (fun n => ⟨_, _, rfl⟩) (by lia), fun H10 s10 => ⟨_, rfl, iteF ?_⟩⟩
  · obtain ⟨fp, z1, z2⟩ := hsh j r n e1 e2
    rw [plW_frV hge h0] at z2
    exact ⟨fp, z1, z2⟩
  have s810 := s9.trans s10
  have hW10 := s810 _ _ hW8
  have hP10 := hP8.same s810
  have hS10 := s810.scr hS8
  have t10 := s810.twn t8
  clear hW8 hP8 hS8 t8 hpr hms hmem hrl hsh s9 s10 s810 hQ hdd
  -- ends
  refine ⟨_, rfl, v, _, 0, rfl, hP10, hdp, by decide, fun l as H12 nl s12 w12 e12 => ?_⟩
  have b1 := ends_len (plW ws D) 0
  have c1 : 2 ^ (plW ws D).dp ≤ 4096 := Nat.le_trans (Nat.pow_le_pow_right (n := 2) (by decide) hdp) (by decide)
  have hndE := plW_nodup hge
  generalize ends (plW ws D) 0 = es at e12 b1 hndE
  refine ⟨l, rfl, ⟨_, SqL.of w12⟩, comp_list (xs := as.map V.ref) (fun j acc σ' H' => ∃ (bs : List Addr) (o7 o10 o15 : Option V), acc = bs.map V.ref ∧ bs.length = j ∧ σ' = [some (.ref a), some (.ref t), some (.int (0 + (i : Int))), some (.ref p), some v, some (.int ((ws.sum : Nat) : Int)), some (.ref dd), o7, o8', o9, o10, o11, o12, o13, o14, o15] ∧ Same H12 H' ∧ ∀ (i : Nat) (b : Addr) (e : Option Nat × Nat), bs[i]? = some b → es[i]? = some e → H' b = some (.tup ((kOf e).map oV)))
    ⟨[], _, _, _, rfl, rfl, rfl, Same.refl _, fun i b e z => by simp at z⟩
    (fun j acc σ' H' hj ⟨bs, _, _, _, e', hb, _⟩ => by
      rw [e', List.length_map]
      rw [List.length_map, e12.1] at hj
      lia) (fun j acc σ' H' _ ⟨_, _, _, _, _, _, _, y, _⟩ => SqL.of (y _ _ w12)) ?_ ?_⟩
  · rintro j x acc σ' H13 hx ⟨bs, q7, q10, q15, rfl, hbl, rfl, y13, hB⟩
    obtain ⟨a', hja⟩ : ∃ a', as[j]? = some a' := by
      rw [List.getElem?_map] at hx
      cases e : as[j]? with
      | none => rw [e] at hx; cases hx
      | some r => exact ⟨r, rfl⟩
    rw [List.getElem?_map, hja] at hx
    cases hx
    have hj : j < es.length := by rw [← e12.1]; exact (List.getElem?_eq_some_iff.mp hja).1
    obtain ⟨en, hen⟩ : ∃ en, es[j]? = some en := ⟨_, List.getElem?_eq_getElem hj⟩
    have ha' := y13 _ _ (e12.2 j a' en hja hen)
    refine ⟨a', _, rfl, SqT.of ha', rfl, _, _, rfl, _, _, rfl, _, _, rfl, rfl, _, rfl, _, rfl, (by show 2 ≤ sizeLine; decide), fun p2 fp2 => ?_⟩
    have y14 := same_new fp2 (.tup [vopN en.1, V.int (en.2 : Int)])
    refine ⟨bs ++ [p2], _, _, _, by rw [List.map_append]; rfl, by rw [List.length_append, hbl]; rfl, rfl, y13.trans y14, fun i b e z1 z2 => ?_⟩
    by_cases c : i < bs.length
    · rw [List.getElem?_append_left c] at z1
      exact y14 _ _ (hB i b e z1 z2)
    · rw [List.getElem?_append_right (by lia)] at z1
      have hi : i - bs.length = 0 := by
        have := (List.getElem?_eq_some_iff.mp z1).1
        simpa using this
      rw [hi] at z1
      cases z1
      have hi2 : i = j := by lia
      subst hi2
      rw [hen] at z2
      cases z2
      rw [kOf_V]
      exact upd_same
  rintro acc σ' H13 LB ⟨bs, q7, q10, q15, rfl, hbl, rfl, y13, hB⟩ fLB
  rw [List.length_map, e12.1] at hbl
  have y14 := same_new fLB (.lst (bs.map V.ref))
  have w14 : (upd H13 LB (.lst (bs.map V.ref))) LB = some (.lst (bs.map V.ref)) := upd_same
  generalize upd H13 LB (.lst (bs.map V.ref)) = H14 at y14 w14 ⊢
  have hB14 : ∀ (i : Nat) (b : Addr) (e : Option Nat × Nat), bs[i]? = some b → es[i]? = some e → H14 b = some (.tup ((kOf e).map oV)) := fun i b e z1 z2 => y14 _ _ (hB i b e z1 z2)
  have s1014 := (s12.trans y13).trans y14
  clear hB y13 y14 s12 w12 e12 nl fLB
  -- the dict
  refine ⟨_, rfl, LB, rfl, ⟨_, SqL.of w14⟩, comp_list (xs := bs.map V.ref) (fun j acc σ' H' => ∃ (cs : List Addr) (o15 : Option V), acc = cs.map V.ref ∧ cs.length = j ∧ σ' = [some (.ref a), some (.ref t), some (.int (0 + (i : Int))), some (.ref p), some v, some (.int ((ws.sum : Nat) : Int)), some (.ref dd), o7', o8', some (.ref LB), o10, o11, o12, o13, o14, o15] ∧ Same H14 H' ∧ ∀ (i : Nat) (c b : Addr), cs[i]? = some c → bs[i]? = some b → H' c = some (.tup [.ref b, .int 0]))
    ⟨[], _, rfl, rfl, rfl, Same.refl _, fun i b e z => by simp at z⟩
    (fun j acc σ' H' hj ⟨cs, _, e', hb, _⟩ => by
      rw [e', List.length_map]
      rw [List.length_map] at hj
      lia) (fun j acc σ' H' _ ⟨_, _, _, _, _, y, _⟩ => SqL.of (y _ _ w14)) ?_ ?_⟩
  · rintro j x acc σ' H15 hx ⟨cs, q15', rfl, hcl, rfl, y15, hC⟩
    obtain ⟨b, hjb⟩ : ∃ b, bs[j]? = some b := by
      rw [List.getElem?_map] at hx
      cases e : bs[j]? with
      | none => rw [e] at hx; cases hx
      | some r => exact ⟨r, rfl⟩
    rw [List.getElem?_map, hjb] at hx
    cases hx
    refine ⟨_, rfl, (by show 2 ≤ sizeLine; decide), fun p2 fp2 => ?_⟩
    have y16 := same_new fp2 (.tup [V.ref b, V.int 0])
    refine ⟨cs ++ [p2], _, by rw [List.map_append]; rfl, by rw [List.length_append, hcl]; rfl, rfl, y15.trans y16, fun i c b' z1 z2 => ?_⟩
    by_cases h : i < cs.length
    · rw [List.getElem?_append_left h] at z1
      exact y16 _ _ (hC i c b' z1 z2)
    · rw [List.getElem?_append_right (by lia)] at z1
      have hi : i - cs.length = 0 := by
        have := (List.getElem?_eq_some_iff.mp z1).1
        simpa using this
      rw [hi] at z1
      cases z1
      have hi2 : i = j := by lia
      subst hi2
      rw [hjb] at z2
      cases z2
      exact upd_same
  rintro acc σ' H15 LC ⟨cs, q15', rfl, hcl, rfl, y15, hC⟩ fLC
  rw [List.length_map] at hcl
  have y16 := same_new fLC (.lst (cs.map V.ref))
  have w16 : (upd H15 LC (.lst (cs.map V.ref))) LC = some (.lst (cs.map V.ref)) := upd_same
  generalize upd H15 LC (.lst (cs.map V.ref)) = H16 at y16 w16 ⊢
  have s1416 := y15.trans y16
  refine ⟨LC, cs, bs, es.map kOf, rfl, w16, by rw [List.length_map]; lia, by rw [List.length_map]; lia, by rw [List.length_map]; lia, List.Pairwise.map _ (fun e e' h z => h (kOf_inj z)) hndE, fun j c b k z1 z2 z3 => ?_, ?_⟩
  · rw [List.getElem?_map] at z3
    cases ee : es[j]? with
    | none => rw [ee] at z3; cases z3
    | some e =>
      rw [ee] at z3
      cases z3
      exact ⟨_, y16 _ _ (hC j c b z1 z2), s1416 _ _ (hB14 j b e z2 ee)⟩
  refine ⟨_, rfl, LB, _, rfl, .inl (SqL.of (s1416 _ _ w14)), rfl, _, rfl, iteNS (by rw [List.length_map, List.length_map, hbl]) ?_⟩
  have s1016 := s1014.trans s1416
  have hW16 := s1016 _ _ hW10
  have hS16 := s1016.scr hS10
  have t16 := s1016.twn t10
  clear hB14 s1014 hC y15 y16 w16 w14 s1416 fLC hW10 hS10 t10 hP10 s1016 hndE
  -- size
  refine ⟨fun m σ' H' => ∃ E : Nat, m = 13 - E ∧ E ≤ D ∧ σ' = [some (.ref a), some (.ref t), some (.int (0 + (i : Int))), some (.ref p), some v, some (.int ((ws.sum : Nat) : Int)), some (.ref dd), o7', o8', some (.ref LB), some (.int ((2 ^ E : Nat) : Int)), o11, o12, o13, o14] ∧ H' = H16, ⟨_, 0, rfl, Nat.zero_le _, rfl, rfl⟩, ?_⟩
  rintro m σ' H17 ⟨E, rfl, hE, rfl, eH⟩
  obtain rfl : H16 = H17 := eH.symm
  refine ⟨_, rfl, _, rfl, _, _, rfl, rfl, _, rfl, ite2 (fun c => ?_) (fun c => ?_)⟩
  · have c' : ((2 ^ E : Nat) : Int) < ((ws.sum : Nat) : Int) := of_decide_eq_true c
    have hED : E < D := by
      rcases Nat.lt_or_ge E D with z | z
      · exact z
      · have : E = D := by lia
        subst this
        lia
    have e2 : ((2 ^ E : Nat) : Int) * 2 = ((2 ^ (E + 1) : Nat) : Int) := by rw [Nat.pow_succ]; lia
    exact ⟨_, fun _ _ z => z, _, rfl, _, _, rfl, rfl, .inr ⟨by decide, by decide⟩, 13 - (E + 1), by lia, E + 1, rfl, by lia, by rw [← e2]; rfl, rfl⟩
  have c' : ¬ ((2 ^ E : Nat) : Int) < ((ws.sum : Nat) : Int) := of_decide_eq_false (Bool.eq_false_iff.mpr c)
  have hED : E = D := by
    rcases Nat.lt_or_ge E D with z | z
    · have := hD.2 E z
      lia
    · lia
  subst hED
  clear c c' hE
  -- whole
  refine ⟨_, rfl, _, rfl, _, rfl, _, _, rfl, rfl, (by show 1 ≤ sizeLine; decide), fun p18 fp18 => ?_⟩
  have ew : ((2 ^ E : Nat) : Int) - ((ws.sum : Nat) : Int) = ((2 ^ E - ws.sum : Nat) : Int) := by lia
  dsimp only
  rw [ew]
  have y18 := same_new fp18 (.tup [V.int ((2 ^ E - ws.sum : Nat) : Int)])
  have w18 : (upd H16 p18 (.tup [V.int ((2 ^ E - ws.sum : Nat) : Int)])) p18 = some (.tup [V.int ((2 ^ E - ws.sum : Nat) : Int)]) := upd_same
  generalize upd H16 p18 (.tup [V.int ((2 ^ E - ws.sum : Nat) : Int)]) = H18 at y18 w18 ⊢
  refine cat34 (y18 _ _ hW16) w18 (by rw [vnats_len]; show ws.length + 1 ≤ 300000; lia) fun pw H19 s19 w19 => ?_
  have hww : H19 pw = some (.tup (vnats (ws ++ [2 ^ E - ws.sum]))) := by rw [w19, vnats_app]; rfl
  have hsw : (ws ++ [2 ^ E - ws.sum]).sum = 2 ^ E := by
    rw [List.sum_append]
    show ws.sum + (2 ^ E - ws.sum + 0) = _
    lia
  have hlw : (ws ++ [2 ^ E - ws.sum]).length ≤ 8 := by rw [List.length_append]; show ws.length + 1 ≤ 8; lia
  have s1619 := y18.trans s19
  have hS19 := s1619.scr hS16
  have t19 := s1619.twn t16
  generalize ws ++ [2 ^ E - ws.sum] = wz at hww hsw hlw
  clear w19 w18 y18 s19 s1619 hS16 t16 hW16
  have hpos := Nat.two_pow_pos E
  refine ⟨_, rfl, pw, wz, rfl, hww, by lia, by lia, hlw, fun vo Do H20 s20 hDo hPo => ?_⟩
  rw [hsw] at hDo
  obtain rfl := isD_uniq (isD_pow E) hDo
  have hw20 := s20 _ _ hww
  have hS20 := s20.scr hS19
  have t20 := s20.twn t19
  clear hww hS19 t19 s20 hDo
  have hgz : wz.sum ≤ 2 ^ E := Nat.le_of_eq hsw
  have hdz : (plW wz E).dp ≤ 12 := Nat.le_trans (plW_dp hgz) hD12
  have hhz := plW_has hgz (by lia)
  refine ⟨4, rfl, by decide, by decide, for_range (lo := 0) (n := 4) (fun j σ' H' => ∃ (kk : Nat) (o13 o14 : Option V), σ' = [some (.ref a), some (.ref t), some (.int (0 + (i : Int))), some (.ref p), some v, some (.int ((ws.sum : Nat) : Int)), some (.ref dd), o7', o8', some (.ref LB), some (.int ((2 ^ E : Nat) : Int)), some (.ref pw), some vo, o13, o14] ∧ Scr K H' a ns ∧ Twn H' t kk ∧ kk ≤ k2 + 20 * j ∧ H' pw = some (.tup (vnats wz)) ∧ PnAt K H' (plW wz E) vo)
    ⟨k2, _, _, rfl, hS20, t20, by lia, hw20, hPo⟩ ?_ ?_⟩
  rotate_left
  · rintro σ' H21 ⟨kk, q13, q14, rfl, hS21, t21, hkk, _⟩
    exact ⟨kk, _, _, _, _, _, _, _, _, _, _, _, _, _, rfl, hS21, t21, by lia⟩
  rintro j σ' H21 hj ⟨kk, q13, q14, rfl, hS21, t21, hkk, hw21, hP21⟩
  refine ⟨_, rfl, _, rfl, a, t, ns, kk, 14, rfl, hS21, h63, t21, by lia, by decide, by decide, fun r H22 g22 t22 e22 => ?_⟩
  have n0 := drw_nn ns (kk + 1) (show (0 : Int) < 14 + 1 by decide)
  have n1 := drw_lt ns (kk + 1) (show (0 : Int) < 14 + 1 by decide)
  obtain ⟨bl, hbl', hlen, hbit⟩ := dbits_nat ns (kk + 1) (drw ns (kk + 1) (14 + 1)).toNat
  rw [hbl'] at e22
  have hS22 := g22.scr t21 hS21
  have hbit1 : ∀ y ∈ bl, y ≤ 1 := fun y hy => by have := hbit y hy; lia
  rw [← hlen] at t22
  have hw22 := g22 _ _ (twn_tup t21 hw21) hw21
  have hP22 := hP21.town t21 g22
  have hwk := wk_pick hsw hbit1
  obtain ⟨rw', hrw⟩ : ∃ rw' : List V, rw' = resT (pkF wz bl) := ⟨_, rfl⟩
  have hscl : SclL rw' ∧ rw'.length = 2 := by
    rw [hrw]
    cases pkF wz bl with
    | none => exact ⟨fun z hz => by
        rcases List.mem_cons.mp hz with rfl | hz
        · rfl
        · have : z = V.int 0 := by simpa using hz
          rw [this]; rfl, rfl⟩
    | some pr => exact ⟨fun z hz => by
        rcases List.mem_cons.mp hz with rfl | hz
        · rfl
        · have : z = V.int (pr.2 : Int) := by simpa using hz
          rw [this]; rfl, rfl⟩
  refine ⟨_, rfl, _, rfl, _, rfl, 0, r, pw, vo, bl, wz, plW wz E, rfl, e22, hbit1, hw22, by lia, by lia, hlw, hP22, hdz, hhz, hwk, fun p23 H23 s23 w23 => ?_⟩
  rw [← hrw] at w23
  refine ⟨_, rfl, _, rfl, _, rfl, 1, r, pw, vo, bl, wz, plW wz E, rfl, s23 _ _ e22, hbit1, s23 _ _ hw22, by lia, by lia, hlw, hP22.same s23, hdz, hhz, hwk, fun p24 H24 s24 w24 => ?_⟩
  rw [← hrw] at w24
  refine ⟨_, _, rfl, .inr ⟨p23, p24, _, _, rfl, rfl, .inl (s24 _ _ w23), w24, by rw [hscl.2]; decide, scl_pair hscl.1⟩, fun H25 s25 => ⟨_, rfl, iteF ?_⟩⟩
  have s2225 := (s23.trans s24).trans s25
  exact ⟨kk + 1 + bl.length, _, _, rfl, s2225.scr hS22, s2225.twn t22, by lia, s2225 _ _ hw22, hP22.same s2225⟩
theorem same_all (F : Fun K "_law_same" "_law_same" s__law_same f fd) (B : Bl mg) (mo : ∀ {k : Nat} {sp : Sp}, FnOk P w K mg base CX0 k f fd p__law_same sp → Fn P w K mg base "_law_same" p__law_same k sp) : ∀ n : Nat, FnOk P w K mg base CX0 n f fd p__law_same (spSameS K n)
  | 0 => ok__law_same0 (sp := spSameS K 0) (fun _ _ _ _ ⟨_, _, _, h, _⟩ => h)
  | n + 1 => ok__law_same1 F B (mo (same_all F B mo n))
theorem isw_all (F : Fun K "is_plan_within" "is_plan_within" s_is_plan_within f fd) (C' : Cn K mg) (gr : ∀ k, 1 ≤ k → Fn P w K mg base "is_row" p_is_row k (spRowK K)) (gw : ∀ k, 1 ≤ k → Fn P w K mg base "is_whole_number" p_is_whole_number k spWholeK) (mo : ∀ {k : Nat} {sp : Sp}, FnOk P w K mg base CX0 k f fd p_is_plan_within sp → Fn P w K mg base "is_plan_within" p_is_plan_within k sp) : ∀ n : Nat, FnOk P w K mg base CX0 (n + 2) f fd p_is_plan_within (spIsW K n)
  | 0 => ok_is_plan_within (lv := 1) (n := 0) F C' (gr 1 (by decide)) (gw 1 (by decide)) (mo ((ok__law_same0 (sp := fun _ _ _ _ => False) (fun _ _ _ _ h => h)).mono (show 0 ≤ 1 by decide))) (fun m vs H Q E e => by cases e)
  | n + 1 => ok_is_plan_within (lv := n + 2) (n := n + 1) F C' (gr _ (by lia)) (gw _ (by lia)) (mo (isw_all F C' gr gw mo n)) (fun m vs H Q E e h => by cases e; exact h)
end
theorem lenS {us : List Value} {n : Nat} (h : us.length = n + 1) : ∃ a t, us = a :: t ∧ t.length = n := by
  cases us with
  | nil => cases h
  | cons a t => exact ⟨a, t, rfl, Nat.succ.inj h⟩
theorem lenU0 {us : List Value} (h : us.length = 0) : us = [] := List.eq_nil_of_length_eq_zero h
theorem lenU1 {us : List Value} (h : us.length = 1) : ∃ a0, us = [a0] := by
  obtain ⟨a0, t, rfl, h2⟩ := lenS h
  obtain ⟨rfl⟩ := lenU0 h2
  exact ⟨a0, rfl⟩
theorem lenU2 {us : List Value} (h : us.length = 2) : ∃ a0 a1, us = [a0, a1] := by
  obtain ⟨a0, t, rfl, h2⟩ := lenS h
  obtain ⟨a1, rfl⟩ := lenU1 h2
  exact ⟨a0, a1, rfl⟩
theorem lenU3 {us : List Value} (h : us.length = 3) : ∃ a0 a1 a2, us = [a0, a1, a2] := by
  obtain ⟨a0, t, rfl, h2⟩ := lenS h
  obtain ⟨a1, a2, rfl⟩ := lenU2 h2
  exact ⟨a0, a1, a2, rfl⟩
theorem lenU4 {us : List Value} (h : us.length = 4) : ∃ a0 a1 a2 a3, us = [a0, a1, a2, a3] := by
  obtain ⟨a0, t, rfl, h2⟩ := lenS h
  obtain ⟨a1, a2, a3, rfl⟩ := lenU3 h2
  exact ⟨a0, a1, a2, a3, rfl⟩
theorem all_mk {l : PySem.W.OpenLaw} {w : World} {K : PySem.W.Frag} {h : Heap} {mg : Str → Option Value} {fa f1 f2 f3 f4 f5 f6 f7 f8 f9 f10 f11 f12 f13 f14 f15 f16 f17 f18 f19 f20 f21 f22 f23 f24 f25 f26 f27 gt3 c_Bits f28 f29 f30 f31 f32 e_NoBits e_NoShares : Addr} (X : K.In h) (G : h.Ns mainGlobals mg) (hfa : mg "law" = some (.ref fa))
    {od1 an1 od2 an2 od3 an3 od4 an4 od5 an5 od6 an6 od7 an7 od8 an8 od9 an9 od10 an10 od11 an11 od12 an12 od13 an13 od14 an14 od15 an15 od16 an16 od17 an17 od18 an18 od19 an19 od20 an20 od21 an21 od22 an22 od23 an23 od24 an24 od25 an25 od26 an26 od27 an27 gd3 od28 an28 od29 an29 od30 an30 od31 an31 od32 an32 xo_NoBits xo_NoShares : Option Addr} {sl1 sl2 sl3 sl4 sl5 sl6 sl7 sl8 sl9 sl10 sl11 sl12 sl13 sl14 sl15 sl16 sl17 sl18 sl19 sl20 sl21 sl22 sl23 sl24 sl25 sl26 sl27 gs3 sl28 sl29 sl30 sl31 sl32 xs_NoBits xs_NoShares : Array (Option Value)} {oc1 kV1 dc1 pm1 cd1 ct1 oc2 kV2 dc2 pm2 cd2 ct2 oc3 kV3 dc3 pm3 cd3 ct3 oc4 kV4 dc4 pm4 cd4 ct4 oc5 kV5 dc5 pm5 cd5 ct5 oc6 kV6 dc6 pm6 cd6 ct6 oc7 kV7 dc7 pm7 cd7 ct7 oc8 kV8 dc8 pm8 cd8 ct8 oc9 kV9 dc9 pm9 cd9 ct9 oc10 kV10 dc10 pm10 cd10 ct10 oc11 kV11 dc11 pm11 cd11 ct11 oc12 kV12 dc12 pm12 cd12 ct12 oc13 kV13 dc13 pm13 cd13 ct13 oc14 kV14 dc14 pm14 cd14 ct14 oc15 kV15 dc15 pm15 cd15 ct15 oc16 kV16 dc16 pm16 cd16 ct16 oc17 kV17 dc17 pm17 cd17 ct17 oc18 kV18 dc18 pm18 cd18 ct18 oc19 kV19 dc19 pm19 cd19 ct19 oc20 kV20 dc20 pm20 cd20 ct20 oc21 kV21 dc21 pm21 cd21 ct21 oc22 kV22 dc22 pm22 cd22 ct22 oc23 kV23 dc23 pm23 cd23 ct23 oc24 kV24 dc24 pm24 cd24 ct24 oc25 kV25 dc25 pm25 cd25 ct25 oc26 kV26 dc26 pm26 cd26 ct26 oc27 kV27 dc27 pm27 cd27 ct27 oc28 kV28 dc28 pm28 cd28 ct28 oc29 kV29 dc29 pm29 cd29 ct29 oc30 kV30 dc30 pm30 cd30 ct30 oc31 kV31 dc31 pm31 cd31 ct31 oc32 kV32 dc32 pm32 cd32 ct32 xc_NoBits xc_NoShares : Value} {ed_NoBits ed_NoShares : ClassData} {w1 w2 tk3_0 : Tok} {gn3 : Nat}
    (a1 : PySem.W.nsIn K mainGlobals "drawn_whole" = some (some (.ref f1))) (l1 : K.lookup f1 = some ⟨oc1, od1, .func (PySem.W.fnOf "drawn_whole" "drawn_whole" (defArgs s_drawn_whole) (defBody s_drawn_whole) (defScope s_drawn_whole) .none kV1 dc1 pm1 an1 cd1 ct1), sl1⟩) (c1 : PySem.W.codeIn K cd1 "drawn_whole" = true) (k1 : PySem.W.keepIn K (.ref f1) = true)
    (a2 : PySem.W.nsIn K mainGlobals "common_divisor" = some (some (.ref f2))) (l2 : K.lookup f2 = some ⟨oc2, od2, .func (PySem.W.fnOf "common_divisor" "common_divisor" (defArgs s_common_divisor) (defBody s_common_divisor) (defScope s_common_divisor) .none kV2 dc2 pm2 an2 cd2 ct2), sl2⟩) (c2 : PySem.W.codeIn K cd2 "common_divisor" = true) (k2 : PySem.W.keepIn K (.ref f2) = true)
    (a3 : PySem.W.nsIn K mainGlobals "fraction" = some (some (.ref f3))) (l3 : K.lookup f3 = some ⟨oc3, od3, .func (PySem.W.fnOf "fraction" "fraction" (defArgs s_fraction) (defBody s_fraction) (defScope s_fraction) .none kV3 dc3 pm3 an3 cd3 ct3), sl3⟩) (c3 : PySem.W.codeIn K cd3 "fraction" = true) (k3 : PySem.W.keepIn K (.ref f3) = true)
    (a4 : PySem.W.nsIn K mainGlobals "is_whole_number" = some (some (.ref f4))) (l4 : K.lookup f4 = some ⟨oc4, od4, .func (PySem.W.fnOf "is_whole_number" "is_whole_number" (defArgs s_is_whole_number) (defBody s_is_whole_number) (defScope s_is_whole_number) .none kV4 dc4 pm4 an4 cd4 ct4), sl4⟩) (c4 : PySem.W.codeIn K cd4 "is_whole_number" = true) (k4 : PySem.W.keepIn K (.ref f4) = true)
    (a5 : PySem.W.nsIn K mainGlobals "is_row" = some (some (.ref f5))) (l5 : K.lookup f5 = some ⟨oc5, od5, .func (PySem.W.fnOf "is_row" "is_row" (defArgs s_is_row) (defBody s_is_row) (defScope s_is_row) .none kV5 dc5 pm5 an5 cd5 ct5), sl5⟩) (c5 : PySem.W.codeIn K cd5 "is_row" = true) (k5 : PySem.W.keepIn K (.ref f5) = true)
    (a6 : PySem.W.nsIn K mainGlobals "pick" = some (some (.ref f6))) (l6 : K.lookup f6 = some ⟨oc6, od6, .func (PySem.W.fnOf "pick" "pick" (defArgs s_pick) (defBody s_pick) (defScope s_pick) .none kV6 dc6 pm6 an6 cd6 ct6), sl6⟩) (c6 : PySem.W.codeIn K cd6 "pick" = true) (k6 : PySem.W.keepIn K (.ref f6) = true)
    (a7 : PySem.W.nsIn K mainGlobals "take_pick" = some (some (.ref f7))) (l7 : K.lookup f7 = some ⟨oc7, od7, .func (PySem.W.fnOf "take_pick" "take_pick" (defArgs s_take_pick) (defBody s_take_pick) (defScope s_take_pick) .none kV7 dc7 pm7 an7 cd7 ct7), sl7⟩) (c7 : PySem.W.codeIn K cd7 "take_pick" = true) (k7 : PySem.W.keepIn K (.ref f7) = true)
    (a8 : PySem.W.nsIn K mainGlobals "is_plan" = some (some (.ref f8))) (l8 : K.lookup f8 = some ⟨oc8, od8, .func (PySem.W.fnOf "is_plan" "is_plan" (defArgs s_is_plan) (defBody s_is_plan) (defScope s_is_plan) .none kV8 dc8 pm8 an8 cd8 ct8), sl8⟩) (c8 : PySem.W.codeIn K cd8 "is_plan" = true) (k8 : PySem.W.keepIn K (.ref f8) = true)
    (a9 : PySem.W.nsIn K mainGlobals "is_plan_within" = some (some (.ref f9))) (l9 : K.lookup f9 = some ⟨oc9, od9, .func (PySem.W.fnOf "is_plan_within" "is_plan_within" (defArgs s_is_plan_within) (defBody s_is_plan_within) (defScope s_is_plan_within) .none kV9 dc9 pm9 an9 cd9 ct9), sl9⟩) (c9 : PySem.W.codeIn K cd9 "is_plan_within" = true) (k9 : PySem.W.keepIn K (.ref f9) = true)
    (a10 : PySem.W.nsIn K mainGlobals "ends_of" = some (some (.ref f10))) (l10 : K.lookup f10 = some ⟨oc10, od10, .func (PySem.W.fnOf "ends_of" "ends_of" (defArgs s_ends_of) (defBody s_ends_of) (defScope s_ends_of) .none kV10 dc10 pm10 an10 cd10 ct10), sl10⟩) (c10 : PySem.W.codeIn K cd10 "ends_of" = true) (k10 : PySem.W.keepIn K (.ref f10) = true)
    (a11 : PySem.W.nsIn K mainGlobals "deep" = some (some (.ref f11))) (l11 : K.lookup f11 = some ⟨oc11, od11, .func (PySem.W.fnOf "deep" "deep" (defArgs s_deep) (defBody s_deep) (defScope s_deep) .none kV11 dc11 pm11 an11 cd11 ct11), sl11⟩) (c11 : PySem.W.codeIn K cd11 "deep" = true) (k11 : PySem.W.keepIn K (.ref f11) = true)
    (a12 : PySem.W.nsIn K mainGlobals "numbered_ends" = some (some (.ref f12))) (l12 : K.lookup f12 = some ⟨oc12, od12, .func (PySem.W.fnOf "numbered_ends" "numbered_ends" (defArgs s_numbered_ends) (defBody s_numbered_ends) (defScope s_numbered_ends) .none kV12 dc12 pm12 an12 cd12 ct12), sl12⟩) (c12 : PySem.W.codeIn K cd12 "numbered_ends" = true) (k12 : PySem.W.keepIn K (.ref f12) = true)
    (a13 : PySem.W.nsIn K mainGlobals "rows_to" = some (some (.ref f13))) (l13 : K.lookup f13 = some ⟨oc13, od13, .func (PySem.W.fnOf "rows_to" "rows_to" (defArgs s_rows_to) (defBody s_rows_to) (defScope s_rows_to) .none kV13 dc13 pm13 an13 cd13 ct13), sl13⟩) (c13 : PySem.W.codeIn K cd13 "rows_to" = true) (k13 : PySem.W.keepIn K (.ref f13) = true)
    (a14 : PySem.W.nsIn K mainGlobals "shares_of" = some (some (.ref f14))) (l14 : K.lookup f14 = some ⟨oc14, od14, .func (PySem.W.fnOf "shares_of" "shares_of" (defArgs s_shares_of) (defBody s_shares_of) (defScope s_shares_of) .none kV14 dc14 pm14 an14 cd14 ct14), sl14⟩) (c14 : PySem.W.codeIn K cd14 "shares_of" = true) (k14 : PySem.W.keepIn K (.ref f14) = true)
    (a15 : PySem.W.nsIn K mainGlobals "by_plan" = some (some (.ref f15))) (l15 : K.lookup f15 = some ⟨oc15, od15, .func (PySem.W.fnOf "by_plan" "by_plan" (defArgs s_by_plan) (defBody s_by_plan) (defScope s_by_plan) .none kV15 dc15 pm15 an15 cd15 ct15), sl15⟩) (c15 : PySem.W.codeIn K cd15 "by_plan" = true) (k15 : PySem.W.keepIn K (.ref f15) = true)
    (a16 : PySem.W.nsIn K mainGlobals "take_by_plan" = some (some (.ref f16))) (l16 : K.lookup f16 = some ⟨oc16, od16, .func (PySem.W.fnOf "take_by_plan" "take_by_plan" (defArgs s_take_by_plan) (defBody s_take_by_plan) (defScope s_take_by_plan) .none kV16 dc16 pm16 an16 cd16 ct16), sl16⟩) (c16 : PySem.W.codeIn K cd16 "take_by_plan" = true) (k16 : PySem.W.keepIn K (.ref f16) = true)
    (a17 : PySem.W.nsIn K mainGlobals "plan_of" = some (some (.ref f17))) (l17 : K.lookup f17 = some ⟨oc17, od17, .func (PySem.W.fnOf "plan_of" "plan_of" (defArgs s_plan_of) (defBody s_plan_of) (defScope s_plan_of) .none kV17 dc17 pm17 an17 cd17 ct17), sl17⟩) (c17 : PySem.W.codeIn K cd17 "plan_of" = true) (k17 : PySem.W.keepIn K (.ref f17) = true)
    (a18 : PySem.W.nsIn K mainGlobals "_law_same" = some (some (.ref f18))) (l18 : K.lookup f18 = some ⟨oc18, od18, .func (PySem.W.fnOf "_law_same" "_law_same" (defArgs s__law_same) (defBody s__law_same) (defScope s__law_same) .none kV18 dc18 pm18 an18 cd18 ct18), sl18⟩) (c18 : PySem.W.codeIn K cd18 "_law_same" = true) (k18 : PySem.W.keepIn K (.ref f18) = true)
    (a19 : PySem.W.nsIn K mainGlobals "_law_draw" = some (some (.ref f19))) (l19 : K.lookup f19 = some ⟨oc19, od19, .func (PySem.W.fnOf "_law_draw" "_law_draw" (defArgs s__law_draw) (defBody s__law_draw) (defScope s__law_draw) .none kV19 dc19 pm19 an19 cd19 ct19), sl19⟩) (c19 : PySem.W.codeIn K cd19 "_law_draw" = true) (k19 : PySem.W.keepIn K (.ref f19) = true)
    (a20 : PySem.W.nsIn K mainGlobals "_law_one" = some (some (.ref f20))) (l20 : K.lookup f20 = some ⟨oc20, od20, .func (PySem.W.fnOf "_law_one" "_law_one" (defArgs s__law_one) (defBody s__law_one) (defScope s__law_one) .none kV20 dc20 pm20 an20 cd20 ct20), sl20⟩) (c20 : PySem.W.codeIn K cd20 "_law_one" = true) (k20 : PySem.W.keepIn K (.ref f20) = true)
    (a21 : PySem.W.nsIn K mainGlobals "_law_bits" = some (some (.ref f21))) (l21 : K.lookup f21 = some ⟨oc21, od21, .func (PySem.W.fnOf "_law_bits" "_law_bits" (defArgs s__law_bits) (defBody s__law_bits) (defScope s__law_bits) .none kV21 dc21 pm21 an21 cd21 ct21), sl21⟩) (c21 : PySem.W.codeIn K cd21 "_law_bits" = true) (k21 : PySem.W.keepIn K (.ref f21) = true)
    (a22 : PySem.W.nsIn K mainGlobals "_law_frac" = some (some (.ref f22))) (l22 : K.lookup f22 = some ⟨oc22, od22, .func (PySem.W.fnOf "_law_frac" "_law_frac" (defArgs s__law_frac) (defBody s__law_frac) (defScope s__law_frac) .none kV22 dc22 pm22 an22 cd22 ct22), sl22⟩) (c22 : PySem.W.codeIn K cd22 "_law_frac" = true) (k22 : PySem.W.keepIn K (.ref f22) = true)
    (a23 : PySem.W.nsIn K mainGlobals "_law_weights" = some (some (.ref f23))) (l23 : K.lookup f23 = some ⟨oc23, od23, .func (PySem.W.fnOf "_law_weights" "_law_weights" (defArgs s__law_weights) (defBody s__law_weights) (defScope s__law_weights) .none kV23 dc23 pm23 an23 cd23 ct23), sl23⟩) (c23 : PySem.W.codeIn K cd23 "_law_weights" = true) (k23 : PySem.W.keepIn K (.ref f23) = true)
    (a24 : PySem.W.nsIn K mainGlobals "_law_ends" = some (some (.ref f24))) (l24 : K.lookup f24 = some ⟨oc24, od24, .func (PySem.W.fnOf "_law_ends" "_law_ends" (defArgs s__law_ends) (defBody s__law_ends) (defScope s__law_ends) .none kV24 dc24 pm24 an24 cd24 ct24), sl24⟩) (c24 : PySem.W.codeIn K cd24 "_law_ends" = true) (k24 : PySem.W.keepIn K (.ref f24) = true)
    (a25 : PySem.W.nsIn K mainGlobals "_law_made" = some (some (.ref f25))) (l25 : K.lookup f25 = some ⟨oc25, od25, .func (PySem.W.fnOf "_law_made" "_law_made" (defArgs s__law_made) (defBody s__law_made) (defScope s__law_made) .none kV25 dc25 pm25 an25 cd25 ct25), sl25⟩) (c25 : PySem.W.codeIn K cd25 "_law_made" = true) (k25 : PySem.W.keepIn K (.ref f25) = true)
    (a26 : PySem.W.nsIn K mainGlobals "_law_told" = some (some (.ref f26))) (l26 : K.lookup f26 = some ⟨oc26, od26, .func (PySem.W.fnOf "_law_told" "_law_told" (defArgs s__law_told) (defBody s__law_told) (defScope s__law_told) .none kV26 dc26 pm26 an26 cd26 ct26), sl26⟩) (c26 : PySem.W.codeIn K cd26 "_law_told" = true) (k26 : PySem.W.keepIn K (.ref f26) = true)
    (a27 : PySem.W.nsIn K mainGlobals "law" = some (some (.ref f27))) (l27 : K.lookup f27 = some ⟨oc27, od27, .func (PySem.W.fnOf "law" "law" (defArgs s_law) (defBody s_law) (defScope s_law) .none kV27 dc27 pm27 an27 cd27 ct27), sl27⟩) (c27 : PySem.W.codeIn K cd27 "law" = true) (k27 : PySem.W.keepIn K (.ref f27) = true)
    (z1 : PySem.W.nsIn K mainGlobals "abs" = some none)
    (z2 : PySem.W.nsIn K mainGlobals "all" = some none)
    (z3 : PySem.W.nsIn K mainGlobals "bool" = some none)
    (z4 : PySem.W.nsIn K mainGlobals "dict" = some none)
    (z5 : PySem.W.nsIn K mainGlobals "enumerate" = some none)
    (z6 : PySem.W.nsIn K mainGlobals "int" = some none)
    (z7 : PySem.W.nsIn K mainGlobals "isinstance" = some none)
    (z8 : PySem.W.nsIn K mainGlobals "len" = some none)
    (z9 : PySem.W.nsIn K mainGlobals "max" = some none)
    (z10 : PySem.W.nsIn K mainGlobals "range" = some none)
    (z11 : PySem.W.nsIn K mainGlobals "sorted" = some none)
    (z12 : PySem.W.nsIn K mainGlobals "str" = some none)
    (z13 : PySem.W.nsIn K mainGlobals "sum" = some none)
    (z14 : PySem.W.nsIn K mainGlobals "tuple" = some none)
    (z15 : PySem.W.nsIn K mainGlobals "zip" = some none)
    (v1 : PySem.W.nsIn K mainGlobals "GREATEST_NUMBER" = some (some (.int 99 w1)))
    (v2 : PySem.W.nsIn K mainGlobals "MOST_ASKS" = some (some (.int 12 w2)))
    (v3 : PySem.W.nsIn K mainGlobals "AGAIN" = some (some (.ref gt3))) (u3 : K.lookup gt3 = some ⟨.type "tuple", gd3, .seq #[.str "again" tk3_0] gn3, gs3⟩)
    (ca_Bits : PySem.W.nsIn K mainGlobals "Bits" = some (some (.ref c_Bits)))
    (pg_Bits : PySem.W.plainGet K c_Bits Str.empty = true) (hd_Bits : PySem.W.hasDictIn K c_Bits = true) (po_Bits : PySem.W.plainOver K c_Bits = true) (sa_Bits : PySem.W.findIn K (.ref c_Bits) "__setattr__" = some (some (.builtin "object.__setattr__"))) (mk_Bits : PySem.W.makesIn K c_Bits = true) (kc_Bits : PySem.W.keepIn K (.ref c_Bits) = true)
    (n_Bits_row : PySem.W.findIn K (.ref c_Bits) "row" = some none)
    (n_Bits_place : PySem.W.findIn K (.ref c_Bits) "place" = some none)
    (a28 : PySem.W.findIn K (.ref c_Bits) "__init__" = some (some (.ref f28))) (i28 : PySem.W.isFn K (.ref f28) = true) (l28 : K.lookup f28 = some ⟨oc28, od28, .func (PySem.W.fnOf "__init__" "Bits.__init__" (defArgs s_Bits___init__) (defBody s_Bits___init__) (defScope s_Bits___init__) .none kV28 dc28 pm28 an28 cd28 ct28), sl28⟩) (c28 : PySem.W.codeIn K cd28 "Bits.__init__" = true) (k28 : PySem.W.keepIn K (.ref f28) = true)
    (a29 : PySem.W.findIn K (.ref c_Bits) "take" = some (some (.ref f29))) (i29 : PySem.W.isFn K (.ref f29) = true) (l29 : K.lookup f29 = some ⟨oc29, od29, .func (PySem.W.fnOf "take" "Bits.take" (defArgs s_Bits_take) (defBody s_Bits_take) (defScope s_Bits_take) .none kV29 dc29 pm29 an29 cd29 ct29), sl29⟩) (c29 : PySem.W.codeIn K cd29 "Bits.take" = true) (k29 : PySem.W.keepIn K (.ref f29) = true)
    (a30 : PySem.W.findIn K (.ref c_Bits) "used" = some (some (.ref f30))) (i30 : PySem.W.isFn K (.ref f30) = true) (l30 : K.lookup f30 = some ⟨oc30, od30, .func (PySem.W.fnOf "used" "Bits.used" (defArgs s_Bits_used) (defBody s_Bits_used) (defScope s_Bits_used) .none kV30 dc30 pm30 an30 cd30 ct30), sl30⟩) (c30 : PySem.W.codeIn K cd30 "Bits.used" = true) (k30 : PySem.W.keepIn K (.ref f30) = true)
    (a31 : PySem.W.findIn K (.ref c_Bits) "left" = some (some (.ref f31))) (i31 : PySem.W.isFn K (.ref f31) = true) (l31 : K.lookup f31 = some ⟨oc31, od31, .func (PySem.W.fnOf "left" "Bits.left" (defArgs s_Bits_left) (defBody s_Bits_left) (defScope s_Bits_left) .none kV31 dc31 pm31 an31 cd31 ct31), sl31⟩) (c31 : PySem.W.codeIn K cd31 "Bits.left" = true) (k31 : PySem.W.keepIn K (.ref f31) = true)
    (a32 : PySem.W.findIn K (.ref c_Bits) "go_back" = some (some (.ref f32))) (i32 : PySem.W.isFn K (.ref f32) = true) (l32 : K.lookup f32 = some ⟨oc32, od32, .func (PySem.W.fnOf "go_back" "Bits.go_back" (defArgs s_Bits_go_back) (defBody s_Bits_go_back) (defScope s_Bits_go_back) .none kV32 dc32 pm32 an32 cd32 ct32), sl32⟩) (c32 : PySem.W.codeIn K cd32 "Bits.go_back" = true) (k32 : PySem.W.keepIn K (.ref f32) = true)
    (xa_NoBits : PySem.W.nsIn K mainGlobals "NoBits" = some (some (.ref e_NoBits))) (xl_NoBits : K.lookup e_NoBits = some ⟨xc_NoBits, xo_NoBits, .cls ed_NoBits, xs_NoBits⟩) (xi_NoBits : PySem.W.excIn K e_NoBits [.type "ValueError", .type "Exception", .type "BaseException", .type "object"] "ValueError.__new__" = true)
    (xa_NoShares : PySem.W.nsIn K mainGlobals "NoShares" = some (some (.ref e_NoShares))) (xl_NoShares : K.lookup e_NoShares = some ⟨xc_NoShares, xo_NoShares, .cls ed_NoShares, xs_NoShares⟩) (xi_NoShares : PySem.W.excIn K e_NoShares [.type "ValueError", .type "Exception", .type "BaseException", .type "object"] "ValueError.__new__" = true)
    (xm_NoBits_NoBits : ed_NoBits.mro.contains (.ref e_NoBits) = true)
    (xm_NoBits_NoShares : ed_NoBits.mro.contains (.ref e_NoShares) = false)
    (xm_NoShares_NoBits : ed_NoShares.mro.contains (.ref e_NoBits) = false)
    (xm_NoShares_NoShares : ed_NoShares.mro.contains (.ref e_NoShares) = true) :
    ∃ fd : FuncData, (∀ (s : Shared) (v : Value), BindsTo s fd ⟨[v], []⟩ [("_law_script", v)]) ∧ ∀ base : Heap, K.In base → base.Ns mainGlobals mg → FnOk l.prog w K mg base CX0 17 fa fd ["_law_script"] (spLaw K) := by
  have e := hfa.symm.trans (PySem.W.mg_of X G a27)
  cases e
  have B : Bl mg := ⟨PySem.W.mg_none_of X G z1, PySem.W.mg_none_of X G z2, PySem.W.mg_none_of X G z3, PySem.W.mg_none_of X G z4, PySem.W.mg_none_of X G z5, PySem.W.mg_none_of X G z6, PySem.W.mg_none_of X G z7, PySem.W.mg_none_of X G z8, PySem.W.mg_none_of X G z9, PySem.W.mg_none_of X G z10, PySem.W.mg_none_of X G z11, PySem.W.mg_none_of X G z12, PySem.W.mg_none_of X G z13, PySem.W.mg_none_of X G z14, PySem.W.mg_none_of X G z15⟩
  have C : Cn K mg := ⟨⟨_, PySem.W.mg_of X G v1⟩, ⟨_, PySem.W.mg_of X G v2⟩, ⟨_, PySem.W.mg_of X G v3, fun _ => .inr ⟨_, _, _, u3, rfl, rfl, by show 1 ≤ sizeLine; decide, .cons ⟨_, rfl⟩ (.nil)⟩⟩⟩
  have F_drawn_whole := fun_mk (st := s_drawn_whole) l1 c1 k1
  have F_common_divisor := fun_mk (st := s_common_divisor) l2 c2 k2
  have F_fraction := fun_mk (st := s_fraction) l3 c3 k3
  have F_is_whole_number := fun_mk (st := s_is_whole_number) l4 c4 k4
  have F_is_row := fun_mk (st := s_is_row) l5 c5 k5
  have F_pick := fun_mk (st := s_pick) l6 c6 k6
  have F_take_pick := fun_mk (st := s_take_pick) l7 c7 k7
  have F_is_plan := fun_mk (st := s_is_plan) l8 c8 k8
  have F_is_plan_within := fun_mk (st := s_is_plan_within) l9 c9 k9
  have F_ends_of := fun_mk (st := s_ends_of) l10 c10 k10
  have F_deep := fun_mk (st := s_deep) l11 c11 k11
  have F_numbered_ends := fun_mk (st := s_numbered_ends) l12 c12 k12
  have F_rows_to := fun_mk (st := s_rows_to) l13 c13 k13
  have F_shares_of := fun_mk (st := s_shares_of) l14 c14 k14
  have F_by_plan := fun_mk (st := s_by_plan) l15 c15 k15
  have F_take_by_plan := fun_mk (st := s_take_by_plan) l16 c16 k16
  have F_plan_of := fun_mk (st := s_plan_of) l17 c17 k17
  have F__law_same := fun_mk (st := s__law_same) l18 c18 k18
  have F__law_draw := fun_mk (st := s__law_draw) l19 c19 k19
  have F__law_one := fun_mk (st := s__law_one) l20 c20 k20
  have F__law_bits := fun_mk (st := s__law_bits) l21 c21 k21
  have F__law_frac := fun_mk (st := s__law_frac) l22 c22 k22
  have F__law_weights := fun_mk (st := s__law_weights) l23 c23 k23
  have F__law_ends := fun_mk (st := s__law_ends) l24 c24 k24
  have F__law_made := fun_mk (st := s__law_made) l25 c25 k25
  have F__law_told := fun_mk (st := s__law_told) l26 c26 k26
  have F_law := fun_mk (st := s_law) l27 c27 k27
  have F_Bits___init__ := fun_mk (st := s_Bits___init__) l28 c28 k28
  have b_Bits___init__ := F_Bits___init__.binds (ps := p_Bits___init__) fun _ _ _ _ _ _ us hl => (by obtain ⟨_, _, rfl⟩ := lenU2 hl; rfl)
  have m_Bits___init__ : Meth K c_Bits "__init__" f28 := ⟨a28, i28, k28⟩
  have F_Bits_take := fun_mk (st := s_Bits_take) l29 c29 k29
  have b_Bits_take := F_Bits_take.binds (ps := p_Bits_take) fun _ _ _ _ _ _ us hl => (by obtain ⟨_, rfl⟩ := lenU1 hl; rfl)
  have m_Bits_take : Meth K c_Bits "take" f29 := ⟨a29, i29, k29⟩
  have F_Bits_used := fun_mk (st := s_Bits_used) l30 c30 k30
  have b_Bits_used := F_Bits_used.binds (ps := p_Bits_used) fun _ _ _ _ _ _ us hl => (by obtain ⟨_, rfl⟩ := lenU1 hl; rfl)
  have m_Bits_used : Meth K c_Bits "used" f30 := ⟨a30, i30, k30⟩
  have F_Bits_left := fun_mk (st := s_Bits_left) l31 c31 k31
  have b_Bits_left := F_Bits_left.binds (ps := p_Bits_left) fun _ _ _ _ _ _ us hl => (by obtain ⟨_, rfl⟩ := lenU1 hl; rfl)
  have m_Bits_left : Meth K c_Bits "left" f31 := ⟨a31, i31, k31⟩
  have F_Bits_go_back := fun_mk (st := s_Bits_go_back) l32 c32 k32
  have b_Bits_go_back := F_Bits_go_back.binds (ps := p_Bits_go_back) fun _ _ _ _ _ _ us hl => (by obtain ⟨_, _, rfl⟩ := lenU2 hl; rfl)
  have m_Bits_go_back : Meth K c_Bits "go_back" f32 := ⟨a32, i32, k32⟩
  have cls_Bits : Cls K c_Bits := ⟨pg_Bits, hd_Bits, po_Bits, sa_Bits⟩
  have mk_Bits : Mk K c_Bits f28 := ⟨mk_Bits, a28, i28, kc_Bits⟩
  have mgC_Bits := PySem.W.mg_of X G ca_Bits
  have X_NoBits : Exc K mg "NoBits" e_NoBits ed_NoBits.mro := ⟨PySem.W.mg_of X G xa_NoBits, xi_NoBits, _, _, _, _, xl_NoBits, rfl⟩
  have X_NoShares : Exc K mg "NoShares" e_NoShares ed_NoShares.mro := ⟨PySem.W.mg_of X G xa_NoShares, xi_NoShares, _, _, _, _, xl_NoShares, rfl⟩
  have b_drawn_whole := F_drawn_whole.binds (ps := p_drawn_whole) fun _ _ _ _ _ _ us hl => (by obtain ⟨_, _, _, rfl⟩ := lenU3 hl; rfl)
  have b_common_divisor := F_common_divisor.binds (ps := p_common_divisor) fun _ _ _ _ _ _ us hl => (by obtain ⟨_, _, rfl⟩ := lenU2 hl; rfl)
  have b_fraction := F_fraction.binds (ps := p_fraction) fun _ _ _ _ _ _ us hl => (by obtain ⟨_, _, rfl⟩ := lenU2 hl; rfl)
  have b_is_whole_number := F_is_whole_number.binds (ps := p_is_whole_number) fun _ _ _ _ _ _ us hl => (by obtain ⟨_, _, _, rfl⟩ := lenU3 hl; rfl)
  have b_is_row := F_is_row.binds (ps := p_is_row) fun _ _ _ _ _ _ us hl => (by obtain ⟨_, _, rfl⟩ := lenU2 hl; rfl)
  have b_pick := F_pick.binds (ps := p_pick) fun _ _ _ _ _ _ us hl => (by obtain ⟨_, _, rfl⟩ := lenU2 hl; rfl)
  have b_take_pick := F_take_pick.binds (ps := p_take_pick) fun _ _ _ _ _ _ us hl => (by obtain ⟨_, _, rfl⟩ := lenU2 hl; rfl)
  have b_is_plan := F_is_plan.binds (ps := p_is_plan) fun _ _ _ _ _ _ us hl => (by obtain ⟨_, rfl⟩ := lenU1 hl; rfl)
  have b_is_plan_within := F_is_plan_within.binds (ps := p_is_plan_within) fun _ _ _ _ _ _ us hl => (by obtain ⟨_, _, rfl⟩ := lenU2 hl; rfl)
  have b_ends_of := F_ends_of.binds (ps := p_ends_of) fun _ _ _ _ _ _ us hl => (by obtain ⟨_, _, rfl⟩ := lenU2 hl; rfl)
  have b_deep := F_deep.binds (ps := p_deep) fun _ _ _ _ _ _ us hl => (by obtain ⟨_, rfl⟩ := lenU1 hl; rfl)
  have b_numbered_ends := F_numbered_ends.binds (ps := p_numbered_ends) fun _ _ _ _ _ _ us hl => (by obtain ⟨_, rfl⟩ := lenU1 hl; rfl)
  have b_rows_to := F_rows_to.binds (ps := p_rows_to) fun _ _ _ _ _ _ us hl => (by obtain ⟨_, _, rfl⟩ := lenU2 hl; rfl)
  have b_shares_of := F_shares_of.binds (ps := p_shares_of) fun _ _ _ _ _ _ us hl => (by obtain ⟨_, rfl⟩ := lenU1 hl; rfl)
  have b_by_plan := F_by_plan.binds (ps := p_by_plan) fun _ _ _ _ _ _ us hl => (by obtain ⟨_, _, rfl⟩ := lenU2 hl; rfl)
  have b_take_by_plan := F_take_by_plan.binds (ps := p_take_by_plan) fun _ _ _ _ _ _ us hl => (by obtain ⟨_, _, rfl⟩ := lenU2 hl; rfl)
  have b_plan_of := F_plan_of.binds (ps := p_plan_of) fun _ _ _ _ _ _ us hl => (by obtain ⟨_, rfl⟩ := lenU1 hl; rfl)
  have b__law_same := F__law_same.binds (ps := p__law_same) fun _ _ _ _ _ _ us hl => (by obtain ⟨_, _, rfl⟩ := lenU2 hl; rfl)
  have b__law_draw := F__law_draw.binds (ps := p__law_draw) fun _ _ _ _ _ _ us hl => (by obtain ⟨_, _, _, rfl⟩ := lenU3 hl; rfl)
  have b__law_one := F__law_one.binds (ps := p__law_one) fun _ _ _ _ _ _ us hl => (by obtain ⟨_, _, _, rfl⟩ := lenU3 hl; rfl)
  have b__law_bits := F__law_bits.binds (ps := p__law_bits) fun _ _ _ _ _ _ us hl => (by obtain ⟨_, _, _, rfl⟩ := lenU3 hl; rfl)
  have b__law_frac := F__law_frac.binds (ps := p__law_frac) fun _ _ _ _ _ _ us hl => (by obtain ⟨_, _, rfl⟩ := lenU2 hl; rfl)
  have b__law_weights := F__law_weights.binds (ps := p__law_weights) fun _ _ _ _ _ _ us hl => (by obtain ⟨_, _, rfl⟩ := lenU2 hl; rfl)
  have b__law_ends := F__law_ends.binds (ps := p__law_ends) fun _ _ _ _ _ _ us hl => (by obtain ⟨_, _, _, rfl⟩ := lenU3 hl; rfl)
  have b__law_made := F__law_made.binds (ps := p__law_made) fun _ _ _ _ _ _ us hl => (by obtain ⟨_, rfl⟩ := lenU1 hl; rfl)
  have b__law_told := F__law_told.binds (ps := p__law_told) fun _ _ _ _ _ _ us hl => (by obtain ⟨_, _, _, _, rfl⟩ := lenU4 hl; rfl)
  have b_law := F_law.binds (ps := p_law) fun _ _ _ _ _ _ us hl => (by obtain ⟨_, rfl⟩ := lenU1 hl; rfl)
  refine ⟨PySem.W.fnOf "law" "law" (defArgs s_law) (defBody s_law) (defScope s_law) .none kV27 dc27 pm27 an27 cd27 ct27, fun s v => .of_eq rfl, fun base _ _ => ?_⟩
  have m_drawn_whole := fun {sp : Sp} {j : Nat} (O : FnOk l.prog w K mg base (CXR l.prog w) j f1 _ p_drawn_whole sp) => FnX.mk (x := "drawn_whole") O (PySem.W.mg_of X G a1) k1 b_drawn_whole
  have m_common_divisor := fun {sp : Sp} {j : Nat} (O : FnOk l.prog w K mg base CX0 j f2 _ p_common_divisor sp) => Fn.of (x := "common_divisor") O (PySem.W.mg_of X G a2) k2 b_common_divisor
  have m_fraction := fun {sp : Sp} {j : Nat} (O : FnOk l.prog w K mg base CX0 j f3 _ p_fraction sp) => Fn.of (x := "fraction") O (PySem.W.mg_of X G a3) k3 b_fraction
  have m_is_whole_number := fun {sp : Sp} {j : Nat} (O : FnOk l.prog w K mg base CX0 j f4 _ p_is_whole_number sp) => Fn.of (x := "is_whole_number") O (PySem.W.mg_of X G a4) k4 b_is_whole_number
  have m_is_row := fun {sp : Sp} {j : Nat} (O : FnOk l.prog w K mg base CX0 j f5 _ p_is_row sp) => Fn.of (x := "is_row") O (PySem.W.mg_of X G a5) k5 b_is_row
  have m_pick := fun {sp : Sp} {j : Nat} (O : FnOk l.prog w K mg base (CXR l.prog w) j f6 _ p_pick sp) => FnX.mk (x := "pick") O (PySem.W.mg_of X G a6) k6 b_pick
  have m_take_pick := fun {sp : Sp} {j : Nat} (O : FnOk l.prog w K mg base (CXR l.prog w) j f7 _ p_take_pick sp) => FnX.mk (x := "take_pick") O (PySem.W.mg_of X G a7) k7 b_take_pick
  have m_is_plan := fun {sp : Sp} {j : Nat} (O : FnOk l.prog w K mg base CX0 j f8 _ p_is_plan sp) => Fn.of (x := "is_plan") O (PySem.W.mg_of X G a8) k8 b_is_plan
  have m_is_plan_within := fun {sp : Sp} {j : Nat} (O : FnOk l.prog w K mg base CX0 j f9 _ p_is_plan_within sp) => Fn.of (x := "is_plan_within") O (PySem.W.mg_of X G a9) k9 b_is_plan_within
  have m_ends_of := fun {sp : Sp} {j : Nat} (O : FnOk l.prog w K mg base CX0 j f10 _ p_ends_of sp) => Fn.of (x := "ends_of") O (PySem.W.mg_of X G a10) k10 b_ends_of
  have m_deep := fun {sp : Sp} {j : Nat} (O : FnOk l.prog w K mg base CX0 j f11 _ p_deep sp) => Fn.of (x := "deep") O (PySem.W.mg_of X G a11) k11 b_deep
  have m_numbered_ends := fun {sp : Sp} {j : Nat} (O : FnOk l.prog w K mg base (CXR l.prog w) j f12 _ p_numbered_ends sp) => FnX.mk (x := "numbered_ends") O (PySem.W.mg_of X G a12) k12 b_numbered_ends
  have m_rows_to := fun {sp : Sp} {j : Nat} (O : FnOk l.prog w K mg base CX0 j f13 _ p_rows_to sp) => Fn.of (x := "rows_to") O (PySem.W.mg_of X G a13) k13 b_rows_to
  have m_shares_of := fun {sp : Sp} {j : Nat} (O : FnOk l.prog w K mg base CX0 j f14 _ p_shares_of sp) => Fn.of (x := "shares_of") O (PySem.W.mg_of X G a14) k14 b_shares_of
  have m_by_plan := fun {sp : Sp} {j : Nat} (O : FnOk l.prog w K mg base (CXR l.prog w) j f15 _ p_by_plan sp) => FnX.mk (x := "by_plan") O (PySem.W.mg_of X G a15) k15 b_by_plan
  have m_take_by_plan := fun {sp : Sp} {j : Nat} (O : FnOk l.prog w K mg base (CXR l.prog w) j f16 _ p_take_by_plan sp) => FnX.mk (x := "take_by_plan") O (PySem.W.mg_of X G a16) k16 b_take_by_plan
  have m_plan_of := fun {sp : Sp} {j : Nat} (O : FnOk l.prog w K mg base CX0 j f17 _ p_plan_of sp) => Fn.of (x := "plan_of") O (PySem.W.mg_of X G a17) k17 b_plan_of
  have m__law_same := fun {sp : Sp} {j : Nat} (O : FnOk l.prog w K mg base CX0 j f18 _ p__law_same sp) => Fn.of (x := "_law_same") O (PySem.W.mg_of X G a18) k18 b__law_same
  have m__law_draw := fun {sp : Sp} {j : Nat} (O : FnOk l.prog w K mg base CX0 j f19 _ p__law_draw sp) => Fn.of (x := "_law_draw") O (PySem.W.mg_of X G a19) k19 b__law_draw
  have m__law_one := fun {sp : Sp} {j : Nat} (O : FnOk l.prog w K mg base CX0 j f20 _ p__law_one sp) => Fn.of (x := "_law_one") O (PySem.W.mg_of X G a20) k20 b__law_one
  have m__law_bits := fun {sp : Sp} {j : Nat} (O : FnOk l.prog w K mg base CX0 j f21 _ p__law_bits sp) => Fn.of (x := "_law_bits") O (PySem.W.mg_of X G a21) k21 b__law_bits
  have m__law_frac := fun {sp : Sp} {j : Nat} (O : FnOk l.prog w K mg base CX0 j f22 _ p__law_frac sp) => Fn.of (x := "_law_frac") O (PySem.W.mg_of X G a22) k22 b__law_frac
  have m__law_weights := fun {sp : Sp} {j : Nat} (O : FnOk l.prog w K mg base CX0 j f23 _ p__law_weights sp) => Fn.of (x := "_law_weights") O (PySem.W.mg_of X G a23) k23 b__law_weights
  have m__law_ends := fun {sp : Sp} {j : Nat} (O : FnOk l.prog w K mg base CX0 j f24 _ p__law_ends sp) => Fn.of (x := "_law_ends") O (PySem.W.mg_of X G a24) k24 b__law_ends
  have m__law_made := fun {sp : Sp} {j : Nat} (O : FnOk l.prog w K mg base CX0 j f25 _ p__law_made sp) => Fn.of (x := "_law_made") O (PySem.W.mg_of X G a25) k25 b__law_made
  have m__law_told := fun {sp : Sp} {j : Nat} (O : FnOk l.prog w K mg base CX0 j f26 _ p__law_told sp) => Fn.of (x := "_law_told") O (PySem.W.mg_of X G a26) k26 b__law_told
  have q_draw := m__law_draw (ok__law_draw F__law_draw B)
  have q_one := m__law_one (ok__law_one F__law_one B q_draw)
  have q_bits := m__law_bits ((ok__law_bits F__law_bits B q_draw).mono (show 2 ≤ 16 by decide))
  have q_w := m__law_weights ((ok__law_weights F__law_weights B q_draw q_one).mono (show 3 ≤ 16 by decide))
  have T : Txt K mg c_Bits _ _ _ _ _ _ _ _ _ _ := ⟨cls_Bits, n_Bits_row, n_Bits_place, mgC_Bits, mk_Bits, m_Bits_take, m_Bits_used, m_Bits_left, m_Bits_go_back, b_Bits___init__, b_Bits_take, b_Bits_used, b_Bits_left, b_Bits_go_back⟩
  have q_init := ok_init (P := l.prog) (w := w) (base := base) F_Bits___init__ B T
  have q_used := ok_used (P := l.prog) (w := w) (base := base) F_Bits_used T
  have q_left := ok_left (P := l.prog) (w := w) (base := base) F_Bits_left B T
  have q_take := (ok_take (P := l.prog) (w := w) (base := base) F_Bits_take T X_NoBits q_left).imp take_imp
  have q_goH := okH_go_back (P := l.prog) (w := w) (base := base) F_Bits_go_back T
  have q_dw := m_drawn_whole (ok_drawn_whole (k0 := 3) F_drawn_whole T X_NoBits xm_NoBits_NoBits q_used q_goH)
  have q_tp := m_take_pick (ok_take_pick F_take_pick B T q_take)
  have q_pk := m_pick ((ok_pick F_pick B q_dw q_tp).mono (show 6 ≤ 15 by decide))
  have q_s := m__law_same ((same_all (P := l.prog) (w := w) (base := base) F__law_same B m__law_same 15).mono (show 15 ≤ 16 by decide))
  have o_e := ends_all (P := l.prog) (w := w) (base := base) F_ends_of m_ends_of
  have o_ne := ok_numbered_ends F_numbered_ends B C X_NoShares (m_ends_of (o_e 12))
  have q_tb := m_take_by_plan (ok_take_by_plan F_take_by_plan C T q_take)
  have q_by := m_by_plan (ok_by_plan F_by_plan (m_numbered_ends (o_ne.imp ne_imp)) q_dw q_tb)
  have q_to := m__law_told (ok__law_told F__law_told T X_NoBits xm_NoBits_NoBits q_by q_pk q_init q_used)
  have o_r := ok_is_row (P := l.prog) (w := w) (base := base) F_is_row B
  have o_wn := ok_is_whole_number (P := l.prog) (w := w) (base := base) F_is_whole_number B
  have o_w := isw_all (P := l.prog) (w := w) (base := base) F_is_plan_within C (fun k h => m_is_row (o_r.mono h)) (fun k h => m_is_whole_number (o_wn.mono h)) m_is_plan_within 12
  have q_ip := m_is_plan ((ok_is_plan F_is_plan C (m_is_plan_within o_w)).mono (show 15 ≤ 16 by decide))
  have q_cd := m_common_divisor (ok_common_divisor (P := l.prog) (w := w) (base := base) F_common_divisor B)
  have q_fr := m_fraction ((ok_fraction F_fraction q_cd).mono (show 2 ≤ 14 by decide))
  have q_lf := m__law_frac ((ok__law_frac (P := l.prog) (w := w) (base := base) F__law_frac B).mono (show 1 ≤ 16 by decide))
  have q_dp := m_deep (ok_deep F_deep B (m_ends_of (o_e 12)))
  have q_rt := m_rows_to ((ok_rows_to (P := l.prog) (w := w) (base := base) F_rows_to).mono (show 1 ≤ 14 by decide))
  have q_sh := m_shares_of ((ok_shares_of F_shares_of B (m_numbered_ends o_ne) q_dp q_rt q_fr).mono (show 15 ≤ 16 by decide))
  have q_of := m_plan_of ((ok_plan_of (P := l.prog) (w := w) (base := base) F_plan_of B C).mono (show 1 ≤ 16 by decide))
  have q_md := m__law_made ((ok__law_made (P := l.prog) (w := w) (base := base) F__law_made B).mono (show 1 ≤ 16 by decide))
  have o_le := lends_all (P := l.prog) (w := w) (base := base) F__law_ends m__law_ends
  exact ok_law F_law B q_bits q_w q_of q_md q_ip q_lf q_sh (m__law_ends ((o_le 12).mono (show 13 ≤ 16 by decide))) q_to q_s
theorem walk {l : PySem.W.OpenLaw} {q : Program} {loose : List Str} {XP : (Str → Option Value) → Heap → Prop} {YP : World → Heap → Prop} {d : DefRec} {K : Params → PySem.W.Frag} (hn : l.most = some 63) (hdf : d.params.defaults = [])
    (hY : ∀ (w : World) (h : Heap), YP w h → (K w.params).In h)
    (F : ∀ (w : World) (mg : Str → Option Value) (fa : Addr) (h : Heap), (K w.params).In h → h.Ns mainGlobals mg → mg d.name = some (.ref fa) →
      ∃ fd : FuncData, (∀ (s : Shared) (u : Value), BindsTo s fd ⟨[u], []⟩ [("_law_script", u)]) ∧ ∀ base : Heap, (K w.params).In base → base.Ns mainGlobals mg → FnOk l.prog w (K w.params) mg base CX0 17 fa fd ["_law_script"] (spLaw (K w.params))) :
    PySem.W.WalkO q loose XP YP l.row.toRowW d [] (fun f vs => PySem.call f vs) :=
  L2.walk_of (n := 63) (k := 17) (x := "_law_script") (CX := fun _ => CX0) (sp := fun w => spLaw (K w.params)) hn (by decide) hdf ⟨rfl, by decide, by decide⟩ hY F (fun _ _ a ns hl hO hS => ⟨a, ns, rfl, Scr.of hS hO, hl, fun _ => rfl⟩) fun _ _ _ _ _ z => z
end Lw
open PySem PySem.W PyProof.Rows
noncomputable def PySem.W.Fast.tw17185814588926140968 : Nat := 0
theorem PySem.W.Fast.te17185814588926140968 : True := trivial
set_option maxRecDepth 100000 in
set_option maxHeartbeats 0 in
theorem PySem.Challenge.cw_bitdraws_k16_whole_plans_for_weights_holds : PySem.Challenge.rw_bitdraws_k16_whole_plans_for_weights.Holds := by
  w_on; o_law; k_head; (case hw => w_witness2)
  k_fill
  refine Lw.walk (l := PySem.Challenge.rw_bitdraws_k16_whole_plans_for_weights) rfl rfl (fun w h Y => PySem.W.kIn_of Y) ?F
  case F =>
    intro w mg fa h KX G hmg
    refine' Lw.all_mk KX G hmg ?a1 ?l1 ?c1 ?k1 ?a2 ?l2 ?c2 ?k2 ?a3 ?l3 ?c3 ?k3 ?a4 ?l4 ?c4 ?k4 ?a5 ?l5 ?c5 ?k5 ?a6 ?l6 ?c6 ?k6 ?a7 ?l7 ?c7 ?k7 ?a8 ?l8 ?c8 ?k8 ?a9 ?l9 ?c9 ?k9 ?a10 ?l10 ?c10 ?k10 ?a11 ?l11 ?c11 ?k11 ?a12 ?l12 ?c12 ?k12 ?a13 ?l13 ?c13 ?k13 ?a14 ?l14 ?c14 ?k14 ?a15 ?l15 ?c15 ?k15 ?a16 ?l16 ?c16 ?k16 ?a17 ?l17 ?c17 ?k17 ?a18 ?l18 ?c18 ?k18 ?a19 ?l19 ?c19 ?k19 ?a20 ?l20 ?c20 ?k20 ?a21 ?l21 ?c21 ?k21 ?a22 ?l22 ?c22 ?k22 ?a23 ?l23 ?c23 ?k23 ?a24 ?l24 ?c24 ?k24 ?a25 ?l25 ?c25 ?k25 ?a26 ?l26 ?c26 ?k26 ?a27 ?l27 ?c27 ?k27 ?z1 ?z2 ?z3 ?z4 ?z5 ?z6 ?z7 ?z8 ?z9 ?z10 ?z11 ?z12 ?z13 ?z14 ?z15 ?v1 ?v2 ?v3 ?u3 ?ca_Bits ?pg_Bits ?hd_Bits ?po_Bits ?sa_Bits ?mk_Bits ?kc_Bits ?n_Bits_row ?n_Bits_place ?a28 ?i28 ?l28 ?c28 ?k28 ?a29 ?i29 ?l29 ?c29 ?k29 ?a30 ?i30 ?l30 ?c30 ?k30 ?a31 ?i31 ?l31 ?c31 ?k31 ?a32 ?i32 ?l32 ?c32 ?k32 ?xa_NoBits ?xl_NoBits ?xi_NoBits ?xa_NoShares ?xl_NoShares ?xi_NoShares ?xm_NoBits_NoBits ?xm_NoBits_NoShares ?xm_NoShares_NoBits ?xm_NoShares_NoShares
    (case a1 => k_is)
    (case l1 => k_is)
    (case c1 => k_is)
    (case k1 => k_is)
    (case a2 => k_is)
    (case l2 => k_is)
    (case c2 => k_is)
    (case k2 => k_is)
    (case a3 => k_is)
    (case l3 => k_is)
    (case c3 => k_is)
    (case k3 => k_is)
    (case a4 => k_is)
    (case l4 => k_is)
    (case c4 => k_is)
    (case k4 => k_is)
    (case a5 => k_is)
    (case l5 => k_is)
    (case c5 => k_is)
    (case k5 => k_is)
    (case a6 => k_is)
    (case l6 => k_is)
    (case c6 => k_is)
    (case k6 => k_is)
    (case a7 => k_is)
    (case l7 => k_is)
    (case c7 => k_is)
    (case k7 => k_is)
    (case a8 => k_is)
    (case l8 => k_is)
    (case c8 => k_is)
    (case k8 => k_is)
    (case a9 => k_is)
    (case l9 => k_is)
    (case c9 => k_is)
    (case k9 => k_is)
    (case a10 => k_is)
    (case l10 => k_is)
    (case c10 => k_is)
    (case k10 => k_is)
    (case a11 => k_is)
    (case l11 => k_is)
    (case c11 => k_is)
    (case k11 => k_is)
    (case a12 => k_is)
    (case l12 => k_is)
    (case c12 => k_is)
    (case k12 => k_is)
    (case a13 => k_is)
    (case l13 => k_is)
    (case c13 => k_is)
    (case k13 => k_is)
    (case a14 => k_is)
    (case l14 => k_is)
    (case c14 => k_is)
    (case k14 => k_is)
    (case a15 => k_is)
    (case l15 => k_is)
    (case c15 => k_is)
    (case k15 => k_is)
    (case a16 => k_is)
    (case l16 => k_is)
    (case c16 => k_is)
    (case k16 => k_is)
    (case a17 => k_is)
    (case l17 => k_is)
    (case c17 => k_is)
    (case k17 => k_is)
    (case a18 => k_is)
    (case l18 => k_is)
    (case c18 => k_is)
    (case k18 => k_is)
    (case a19 => k_is)
    (case l19 => k_is)
    (case c19 => k_is)
    (case k19 => k_is)
    (case a20 => k_is)
    (case l20 => k_is)
    (case c20 => k_is)
    (case k20 => k_is)
    (case a21 => k_is)
    (case l21 => k_is)
    (case c21 => k_is)
    (case k21 => k_is)
    (case a22 => k_is)
    (case l22 => k_is)
    (case c22 => k_is)
    (case k22 => k_is)
    (case a23 => k_is)
    (case l23 => k_is)
    (case c23 => k_is)
    (case k23 => k_is)
    (case a24 => k_is)
    (case l24 => k_is)
    (case c24 => k_is)
    (case k24 => k_is)
    (case a25 => k_is)
    (case l25 => k_is)
    (case c25 => k_is)
    (case k25 => k_is)
    (case a26 => k_is)
    (case l26 => k_is)
    (case c26 => k_is)
    (case k26 => k_is)
    (case a27 => k_is)
    (case l27 => k_is)
    (case c27 => k_is)
    (case k27 => k_is)
    (case z1 => k_is)
    (case z2 => k_is)
    (case z3 => k_is)
    (case z4 => k_is)
    (case z5 => k_is)
    (case z6 => k_is)
    (case z7 => k_is)
    (case z8 => k_is)
    (case z9 => k_is)
    (case z10 => k_is)
    (case z11 => k_is)
    (case z12 => k_is)
    (case z13 => k_is)
    (case z14 => k_is)
    (case z15 => k_is)
    (case v1 => k_is)
    (case v2 => k_is)
    (case v3 => k_is)
    (case u3 => k_is)
    (case ca_Bits => k_is)
    (case pg_Bits => k_is)
    (case hd_Bits => k_is)
    (case po_Bits => k_is)
    (case sa_Bits => k_is)
    (case mk_Bits => k_is)
    (case kc_Bits => k_is)
    (case n_Bits_row => k_is)
    (case n_Bits_place => k_is)
    (case a28 => k_is)
    (case i28 => k_is)
    (case l28 => k_is)
    (case c28 => k_is)
    (case k28 => k_is)
    (case a29 => k_is)
    (case i29 => k_is)
    (case l29 => k_is)
    (case c29 => k_is)
    (case k29 => k_is)
    (case a30 => k_is)
    (case i30 => k_is)
    (case l30 => k_is)
    (case c30 => k_is)
    (case k30 => k_is)
    (case a31 => k_is)
    (case i31 => k_is)
    (case l31 => k_is)
    (case c31 => k_is)
    (case k31 => k_is)
    (case a32 => k_is)
    (case i32 => k_is)
    (case l32 => k_is)
    (case c32 => k_is)
    (case k32 => k_is)
    (case xa_NoBits => k_is)
    (case xl_NoBits => k_is)
    (case xi_NoBits => first | kernel_rfl | rfl | decide +kernel | k_is)
    (case xa_NoShares => k_is)
    (case xl_NoShares => k_is)
    (case xi_NoShares => first | kernel_rfl | rfl | decide +kernel | k_is)
    (case xm_NoBits_NoBits => first | kernel_rfl | rfl | decide +kernel | k_is)
    (case xm_NoBits_NoShares => first | kernel_rfl | rfl | decide +kernel | k_is)
    (case xm_NoShares_NoBits => first | kernel_rfl | rfl | decide +kernel | k_is)
    (case xm_NoShares_NoShares => first | kernel_rfl | rfl | decide +kernel | k_is)
