import PyProof.Rows.All
import Wide.All
import OpenK.AllK
import Wide.FinOn
import Lean
import PyProof.EqAt
import PyProof.EqKinds
import PyProof.TupleCall
import PyProof.EnumMake
import PyProof.ZipIter
import PyProof.NeKinds
import PyProof.Rows.SortWalk
import PyProof.AttrMiss
import PyProof.IsiH_list
import KE.KDictOf
import PyProof.Draws
import PyProof.StrCalls
import PyProof.StrCalls2
import PyProof.FString5
import PyProof.DictWalks
import PyProof.MeetsDict
import PyProof.EqAt
import PyProof.Rows.RuleM_int
import KE.KEqDict
import KE.KDictSum
import PyProof.WalkInts
import PyProof.FactsAll.dict_4
import PyProof.StrBlockI
import PyProof.StrBlock2
import PyProof.StrCalls3
import KE.KIntText
import PyProof.ListStr
import PyProof.Rows.StrNews2
import PyProof.SliceStr2
import PyProof.StrLawsFrom
import PyProof.StrLawsIn
import PySem.Challenge.RW_bitdraws_k38_whole_plans_as_texts
set_option Elab.async false
set_option linter.all false
set_option maxRecDepth 100000
namespace L2
open PySem PySem.Spec PyProof.Rows
noncomputable abbrev Key := Sum Int Str
noncomputable def keyIs : Key → Value → Bool
  | .inl k, v => Value.isInt k v
  | .inr x, v => Value.isStrOf x v
noncomputable def keyH (w : World) : Key → Int
  | .inl k => hashInt k
  | .inr x => hashStr w x
theorem keyIs_shape : ∀ {k : Key} {v : Value}, keyIs k v = true → (∃ i t, k = Sum.inl i ∧ v = Value.int i t) ∨ (∃ x t, k = Sum.inr x ∧ v = Value.str x t)
  | .inl i, v, h => by
    obtain ⟨t, e⟩ := Value.isInt_shape (k := i) (v := v) h
    exact .inl ⟨i, t, rfl, e⟩
  | .inr x, v, h => by
    obtain ⟨t, e⟩ := Value.isStrOf_shape (x := x) (v := v) h
    exact .inr ⟨x, t, rfl, e⟩
theorem key_ll (a b : Int) : decide ((Sum.inl a : Key) = Sum.inl b) = (a == b) := by
  by_cases e : a = b
  · subst e; simp
  · have h : ¬ (Sum.inl a : Key) = Sum.inl b := fun q => e (Sum.inl.inj q)
    rw [decide_eq_false h]
    exact (beq_eq_false_iff_ne.mpr e).symm
theorem key_rr (a b : Str) : decide ((Sum.inr a : Key) = Sum.inr b) = decide (a = b) := by
  by_cases e : a = b
  · subst e; simp
  · have h : ¬ (Sum.inr a : Key) = Sum.inr b := fun q => e (Sum.inr.inj q)
    rw [decide_eq_false h, decide_eq_false e]
theorem key_lr (a : Int) (b : Str) : decide ((Sum.inl a : Key) = Sum.inr b) = false := decide_eq_false (fun q => nomatch q)
theorem key_rl (a : Str) (b : Int) : decide ((Sum.inr a : Key) = Sum.inl b) = false := decide_eq_false (fun q => nomatch q)
noncomputable def mixKind (prog : Program) (w : World) : PySem.KeyKind prog w Key where
  is := keyIs
  hash := keyH w
  inj := fun v a b ha hb => by
    rcases keyIs_shape ha with ⟨i, t, rfl, rfl⟩ | ⟨x, t, rfl, rfl⟩
    · rcases keyIs_shape hb with ⟨j, u, rfl, e⟩ | ⟨y, u, rfl, e⟩
      · injection e with e1 _; rw [e1]
      · exact nomatch e
    · rcases keyIs_shape hb with ⟨j, u, rfl, e⟩ | ⟨y, u, rfl, e⟩
      · exact nomatch e
      · injection e with e1 _; rw [e1]
  byValue := fun k v h => by
    rcases keyIs_shape h with ⟨i, t, rfl, rfl⟩ | ⟨x, t, rfl, rfl⟩ <;> rfl
  pyHash := fun hv h => by
    rcases keyIs_shape hv with ⟨i, t, rfl, rfl⟩ | ⟨x, t, rfl, rfl⟩
    · exact wpAny_pyHash_int h
    · exact wpAny_pyHash_str h
  eqBool := fun hu hv h => by
    rcases keyIs_shape hu with ⟨i, t, rfl, rfl⟩ | ⟨x, t, rfl, rfl⟩
    · rcases keyIs_shape hv with ⟨j, u, rfl, rfl⟩ | ⟨y, u, rfl, rfl⟩
      · rw [key_ll] at h; exact wpAny_eqBool_int h
      · rw [key_lr] at h; exact SeqAt.EqAt.int_str i t y u _ _ _ _ h
    · rcases keyIs_shape hv with ⟨j, u, rfl, rfl⟩ | ⟨y, u, rfl, rfl⟩
      · rw [key_rl] at h; exact SeqAt.EqAt.str_int x t j u _ _ _ _ h
      · rw [key_rr] at h; exact wpAny_eqBool_str h
  «strs» := fun k x t v h => by
    rcases keyIs_shape h with ⟨i, u, rfl, e⟩ | ⟨y, u, rfl, e⟩
    · exact nomatch e
    · injection e with e1 _
      subst e1
      cases v <;> rfl
end L2
namespace L2
open PySem PySem.Spec PyProof.Rows
inductive V where
  | non | bl (b : Bool) | int (i : Int) | str (x : Str) | byt (b : Array UInt8) | flt (b : UInt64) | ref (a : Addr) | ty (n : String)
  deriving DecidableEq
noncomputable def RelV : V → Value → Prop
  | .non, u => u = Value.none
  | .bl b, u => u = Value.bool b
  | .int i, u => ∃ t, u = Value.int i t
  | .str x, u => ∃ t, u = Value.str x t
  | .byt b, u => ∃ t, u = Value.bytes b t
  | .flt b, u => ∃ t, u = Value.float b t
  | .ref a, u => u = Value.ref a
  | .ty n, u => u = Value.type n
noncomputable abbrev Vals : List V → List Value → Prop := Paired RelV
theorem Vals.length {xs : List V} {us : List Value} (r : Vals xs us) : xs.length = us.length := Paired.length r
theorem Vals.get : ∀ {xs : List V} {us : List Value} {i : Nat} {x : V}, Vals xs us → xs[i]? = some x → ∃ u, us[i]? = some u ∧ RelV x u
  | _, _, _, _, .nil, e => by simp at e
  | _, _, 0, _, .cons r _, e => by simp at e; subst e; exact ⟨_, rfl, r⟩
  | _, _, i + 1, x, .cons _ t, e => by
    obtain ⟨u, h1, h2⟩ := Vals.get (i := i) (x := x) t (by simpa using e)
    exact ⟨u, by simpa using h1, h2⟩
theorem Vals.set {x : V} {u : Value} (r : RelV x u) : ∀ {xs : List V} {us : List Value} (i : Nat), Vals xs us → Vals (xs.set i x) (us.set i u)
  | _, _, _, .nil => .nil
  | _, _, 0, .cons _ t => .cons r t
  | _, _, i + 1, .cons q t => .cons q (Vals.set r i t)
theorem Vals.append : ∀ {xs ys : List V} {us ws : List Value}, Vals xs us → Vals ys ws → Vals (xs ++ ys) (us ++ ws)
  | _, _, _, _, .nil, s => s
  | _, _, _, _, .cons r t, s => .cons r (Vals.append t s)
theorem Vals.take : ∀ {xs : List V} {us : List Value} (n : Nat), Vals xs us → Vals (xs.take n) (us.take n)
  | _, _, 0, _ => .nil
  | _, _, _ + 1, .nil => .nil
  | _, _, n + 1, .cons r t => .cons r (Vals.take n t)
theorem Vals.drop : ∀ {xs : List V} {us : List Value} (n : Nat), Vals xs us → Vals (xs.drop n) (us.drop n)
  | _, _, 0, r => r
  | _, _, _ + 1, .nil => .nil
  | _, _, n + 1, .cons _ t => Vals.drop n t
noncomputable def RelO : Option V → Option Value → Prop
  | some v, some u => RelV v u
  | none, none => True
  | _, _ => False
noncomputable def KV {κ : Type} : List (κ × V) → List (κ × Value) → Prop := Paired fun (p : κ × V) (q : κ × Value) => p.1 = q.1 ∧ RelV p.2 q.2
noncomputable def kV : Key → V
  | .inl i => .int i
  | .inr x => .str x
inductive HO where
  /-- a list -/
  | lst (xs : List V)
  /-- a tuple (never changes) -/
  | tup (xs : List V)
  /-- a dict whose keys are ints and texts; one whose keys are tuples of ints and texts (the empty one is both) -/
  | dK (kvs : List (Key × V)) | dT (kvs : List (List Key × V))
  /-- a set of ints: its members, its size -/
  | set (S : Int → Bool) (n : Nat)
  /-- an instance of the class at C, its dict at dx, its attributes -/
  | ins (C dx : Addr) (fs : List (Str × V))
  /-- the dict of the instance at x -/
  | own (x : Addr)
  /-- the dict of an exception -/
  | xd (fs : List (Str × V))
  /-- a bound method, f of x -/
  | met (f x : Addr)
  /-- a range object lo, lo + 1, .. below hi -/
  | rng (lo hi : Int)
  /-- a thing that is known to the object (the script; a dict while a loop walks it): read, never written while it is so -/
  | frz (o : Obj) (u : HO)
  /-- a code object's table -/
  | tbl (ps : Array Value)
  /-- any other thing, by what is true of its one object (a def of one's own: SetO a S n := HO.ext fun h => ..) -/
  | ext (φ : Heap → Prop)
noncomputable abbrev Hp := Addr → Option HO
noncomputable def upd (H : Hp) (a : Addr) (o : HO) : Hp := fun b => if b = a then some o else H b
theorem upd_same {H : Hp} {a : Addr} {o : HO} : upd H a o a = some o := by unfold upd; rw [if_pos rfl]
theorem upd_ne {H : Hp} {a b : Addr} {o : HO} (h : b ≠ a) : upd H a o b = H b := by unfold upd; rw [if_neg h]
theorem ne_of_none {H : Hp} {a b : Addr} {o : HO} (h : H a = some o) (h' : H b = none) : a ≠ b := by
  intro e; subst e; rw [h] at h'; cases h'
section
variable (P : Program) (w : World)
noncomputable def ObjOk (H : Hp) (h : Heap) (a : Addr) : HO → Prop
  | .lst xs => xs.length ≤ sizeLine ∧ ∃ (its : List Value) (n : Nat), Vals xs its ∧ h.get? a = some { cls := .type "list", data := .seq its.toArray n }
  | .tup xs => xs.length ≤ sizeLine ∧ ∃ its : List Value, Vals xs its ∧ IsTup h a its.toArray ∧ ∃ ob, h.get? a = some ob ∧ ob.dict = none
  | .dK kvs => kvs.length ≤ sizeLine ∧ (a == sysModules) = false ∧ ∃ vs, KV kvs vs ∧ h.DictOf (mixKind P w) a vs
  | .dT kvs => kvs.length ≤ sizeLine ∧ (a == sysModules) = false ∧ ∃ xs : List (List Key × Addr × Value),
      Paired (fun (p : List Key × V) (q : List Key × Addr × Value) => p.1 = q.1 ∧ H q.2.1 = some (.tup (p.1.map kV)) ∧ RelV p.2 q.2.2) kvs xs ∧
      ∃ o es ep, h.get? a = some o ∧ o.ExactDict ∧ o.data = .dict es ep ∧ es.toList = xs.map (entryOfKey (tupleKind (mixKind P w))) ∧ (xs.map (·.1)).Nodup
  | .set S n => h.SetOf (intKind P w) a S n
  | .ins C dx fs => H dx = some (.own a) ∧ fs.length ≤ 1000 ∧ dx ≠ a ∧ h.get? a = some (PySem.W.instObj C dx) ∧
      ∃ mA, h.Ns1 dx mA ∧ (∀ f, RelO (fs.lookup f) (mA f)) ∧ PySem.Within mA (fs.map (·.1))
  | .own _ => ∃ o, h.get? a = some o
  | .xd fs => ∃ mA, h.Ns1 a mA ∧ ∀ f, RelO (fs.lookup f) (mA f)
  | .rng lo hi => ∃ t u v, h.get? a = some { cls := .type "range", data := .fields #[.int lo t, .int hi u, .int 1 v] }
  | .frz o u => h.get? a = some o ∧ ObjOk H h a u
  | .tbl ps => h.get? a = some { cls := .none, data := .fields ps }
  | .met f x => h.get? a = some (PySem.W.methodObj (.ref f) (.ref x))
  | .ext φ => φ h ∧ (∃ o, h.get? a = some o) ∧ ∀ h1 h2 : Heap, φ h1 → (∀ o, h1.get? a = some o → h2.get? a = some o) → φ h2
noncomputable def HOk (H : Hp) (h : Heap) : Prop := ∀ a o, H a = some o → ObjOk P w H h a o
end
section
variable {P : Program} {w : World} {H H' : Hp} {h h' : Heap} {a : Addr} {o : HO}
theorem ObjOk.lt (x : ObjOk P w H h a o) : a < h.objs.size := by
  cases o with
  | lst xs => obtain ⟨_, _, _, _, e⟩ := x; exact Heap.lt_size e
  | tup xs => obtain ⟨_, _, _, p, _⟩ := x; exact p.lt
  | dK kvs => obtain ⟨_, _, _, _, o, _, _, e, _⟩ := x; exact Heap.lt_size e
  | dT kvs => obtain ⟨_, _, _, _, o, _, _, e, _⟩ := x; exact Heap.lt_size e
  | set S n => obtain ⟨o, _, _, _, e, _⟩ := x; exact Heap.lt_size e
  | ins C dx fs => obtain ⟨_, _, _, e, _⟩ := x; exact Heap.lt_size e
  | own y => obtain ⟨_, e⟩ := x; exact Heap.lt_size e
  | xd fs => obtain ⟨_, ⟨_, _, _, e, _⟩, _⟩ := x; exact Heap.lt_size e
  | rng lo hi => obtain ⟨_, _, _, e⟩ := x; exact Heap.lt_size e
  | frz ob u => obtain ⟨e, _⟩ := x; exact Heap.lt_size e
  | tbl ps => exact Heap.lt_size (show h.get? a = some _ from x)
  | met f y => exact Heap.lt_size (show h.get? a = some _ from x)
  | ext φ => obtain ⟨_, ⟨_, e⟩, _⟩ := x; exact Heap.lt_size e
theorem Paired.mapP {α β : Type} {F G : α → β → Prop} : ∀ {l₁ : List α} {l₂ : List β}, Paired F l₁ l₂ → (∀ a b, F a b → G a b) → Paired G l₁ l₂
  | _, _, .nil, _ => .nil
  | _, _, .cons r t, f => .cons (f _ _ r) (Paired.mapP t f)
theorem ObjOk.stay (x : ObjOk P w H h a o) (k : ∀ b u, (b = a ∨ H b = some (.own a)) → h.get? b = some u → h'.get? b = some u)
    (ho : ∀ b, H b = some (.own a) → H' b = some (.own a)) (ht : ∀ b xs, H b = some (.tup xs) → H' b = some (.tup xs)) : ObjOk P w H' h' a o := by
  induction o with
  | lst xs => obtain ⟨z, its, n, r, e⟩ := x; exact ⟨z, its, n, r, k _ _ (.inl rfl) e⟩
  | tup xs => obtain ⟨z, its, r, ⟨ob, e, c⟩, od, ed, dd⟩ := x; exact ⟨z, its, r, ⟨ob, k _ _ (.inl rfl) e, c⟩, od, k _ _ (.inl rfl) ed, dd⟩
  | dK kvs => obtain ⟨z, y, vs, r, ob, es, ep, e, c⟩ := x; exact ⟨z, y, vs, r, ob, es, ep, k _ _ (.inl rfl) e, c⟩
  | dT kvs =>
    obtain ⟨z, y, xs, r, ob, es, ep, e, c⟩ := x
    exact ⟨z, y, xs, Paired.mapP r fun p q z => ⟨z.1, ht _ _ z.2.1, z.2.2⟩, ob, es, ep, k _ _ (.inl rfl) e, c⟩
  | set S n => obtain ⟨ob, es, ep, t, e, c⟩ := x; exact ⟨ob, es, ep, t, k _ _ (.inl rfl) e, c⟩
  | ins C dx fs =>
    obtain ⟨d, z, ne, e, mA, ⟨od, es, ep, e2, c⟩, r⟩ := x
    exact ⟨ho _ d, z, ne, k _ _ (.inl rfl) e, mA, ⟨od, es, ep, k _ _ (.inr d) e2, c⟩, r⟩
  | own y => obtain ⟨ob, e⟩ := x; exact ⟨ob, k _ _ (.inl rfl) e⟩
  | xd fs => obtain ⟨mA, ⟨od, es, ep, e, c⟩, r⟩ := x; exact ⟨mA, ⟨od, es, ep, k _ _ (.inl rfl) e, c⟩, r⟩
  | rng lo hi => obtain ⟨t, u, v, e⟩ := x; exact ⟨t, u, v, k _ _ (.inl rfl) e⟩
  | frz ob u ih => obtain ⟨e, q⟩ := x; exact ⟨k _ _ (.inl rfl) e, ih q⟩
  | tbl ps =>
    have e : h.get? a = some { cls := .none, data := .fields ps } := x
    show h'.get? a = some { cls := .none, data := .fields ps }
    exact k a _ (.inl rfl) e
  | met f y =>
    have e : h.get? a = some (PySem.W.methodObj (.ref f) (.ref y)) := x
    show h'.get? a = some (PySem.W.methodObj (.ref f) (.ref y))
    exact k a _ (.inl rfl) e
  | ext φ => obtain ⟨p, ⟨o, e⟩, st⟩ := x; exact ⟨st _ _ p fun o q => k _ _ (.inl rfl) q, ⟨o, k _ _ (.inl rfl) e⟩, st⟩
theorem HOk.lt (x : HOk P w H h) (e : H a = some o) : a < h.objs.size := (x a o e).lt
theorem HOk.fresh (x : HOk P w H h) (e : h.objs.size ≤ a) : H a = none := by
  cases q : H a with
  | none => rfl
  | some u => exact absurd (Nat.lt_of_lt_of_le (x.lt q) e) (Nat.lt_irrefl _)
theorem HOk.kept (x : HOk P w H h) (k : ∀ b u, h.get? b = some u → h'.get? b = some u) : HOk P w H h' := fun a o e =>
  (x a o e).stay (fun b u _ q => k b u q) (fun _ q => q) fun _ _ q => q
theorem HOk.laid (x : HOk P w H h) (k : ∀ b u, h.get? b = some u → h'.get? b = some u) (hp : h.objs.size ≤ a) (new : ObjOk P w (upd H a o) h' a o) : HOk P w (upd H a o) h' := fun b u e => by
  have hn := x.fresh hp
  by_cases hb : b = a
  · subst hb; rw [upd_same] at e; cases e; exact new
  · rw [upd_ne hb] at e
    exact (x b u e).stay (fun c v _ q => k c v q) (fun c q => by rw [upd_ne (ne_of_none q hn)]; exact q) fun c xs q => by rw [upd_ne (ne_of_none q hn)]; exact q
end
noncomputable def Rd (H : Hp) (a : Addr) (u : HO) : Prop := H a = some u ∨ ∃ o, H a = some (.frz o u)
theorem Rd.of {H : Hp} {a : Addr} {u : HO} (h : H a = some u) : Rd H a u := .inl h
theorem Rd.ok {P : Program} {w : World} {H : Hp} {h : Heap} {a : Addr} {u : HO} (r : Rd H a u) (x : HOk P w H h) : ObjOk P w H h a u := by
  rcases r with r | ⟨o, r⟩
  · exact x a u r
  · obtain ⟨_, q⟩ := x a _ r
    exact q
noncomputable def Mut : Option HO → Prop
  | some (.lst _) => True
  | some (.dK _) => True
  | some (.dT _) => True
  | some (.set _ _) => True
  | some (.ins _ _ _) => True
  | some (.ext _) => True
  | _ => False
section
variable {P : Program} {w : World} {H : Hp} {h h' : Heap} {x e : Addr} {o' : HO}
theorem HOk.write (ok : HOk P w H h) (mu : Mut (H x)) (he : e = x ∨ H e = some (.own x)) (k : ∀ b u, b ≠ e → h.get? b = some u → h'.get? b = some u) (heo : ∃ u, h'.get? e = some u)
    (new : ObjOk P w (upd H x o') h' x o') : HOk P w (upd H x o') h' := fun b u q => by
  have nown : ∀ c y, H c = some (.own y) → c ≠ x := fun c y r z => by subst z; rw [r] at mu; exact mu
  have ntup : ∀ c xs, H c = some (.tup xs) → c ≠ x := fun c xs r z => by subst z; rw [r] at mu; exact mu
  by_cases hb : b = x
  · subst hb; rw [upd_same] at q; cases q; exact new
  · rw [upd_ne hb] at q
    by_cases hbe : b = e
    · have q' : H b = some (.own x) := by
        rcases he with z | z
        · exact absurd (hbe.trans z) hb
        · rw [hbe]; exact z
      rw [q] at q'; cases q'
      obtain ⟨v, hv⟩ := heo
      exact ⟨v, by rw [hbe]; exact hv⟩
    · refine (ok b u q).stay (fun c v hc r => k c v ?_ r) (fun c r => by rw [upd_ne (nown c b r)]; exact r) fun c xs r => by rw [upd_ne (ntup c xs r)]; exact r
      rcases hc with rfl | hc
      · exact hbe
      · rintro rfl
        rcases he with z | z
        · exact nown c b hc z
        · rw [hc] at z; cases z; exact hb rfl
end
structure Un (fs ex : List Addr) (H H' : Hp) (h h' : Heap) : Prop where
  keep : ∀ b o, h.get? b = some o → H b = none → b ∉ fs → b ∉ ex → h'.get? b = some o
  slot : ∀ b o, h.get? b = some o → H b = none → b ∈ fs → b ∉ ex → ∃ sl, h'.get? b = some { o with slots := sl }
  free : ∀ b o, h.get? b = some o → H b = none → b ∉ ex → H' b = none
  there : ∀ b o, h.get? b = some o → b ∉ ex → ∃ o', h'.get? b = some o'
  tups : ∀ b xs, H b = some (.tup xs) → H' b = some (.tup xs)
  frzs : ∀ b o u, H b = some (.frz o u) → H' b = some (.frz o u)
  tbls : ∀ b ps, H b = some (.tbl ps) → ∃ more, H' b = some (.tbl (ps ++ more))
section
variable {fs fs' ex ex' : List Addr} {H H1 H2 : Hp} {h h1 h2 h' : Heap} {a x e : Addr} {o : HO}
theorem Un.any (u : Un fs ex H H1 h h1) {b : Addr} {ob : Obj} (q : h.get? b = some ob) (n : H b = none) (hx : b ∉ ex) : ∃ sl, h1.get? b = some { ob with slots := sl } := by
  by_cases hb : b ∈ fs
  · exact u.slot b ob q n hb hx
  · exact ⟨ob.slots, u.keep b ob q n hb hx⟩
theorem Un.trans (a : Un fs ex H H1 h h1) (b : Un fs ex H1 H2 h1 h2) : Un fs ex H H2 h h2 where
  keep := fun c ob q n hc hx => b.keep c ob (a.keep c ob q n hc hx) (a.free c ob q n hx) hc hx
  slot := fun c ob q n hc hx => by
    obtain ⟨sl, e1⟩ := a.slot c ob q n hc hx
    obtain ⟨sl', e2⟩ := b.slot c _ e1 (a.free c ob q n hx) hc hx
    exact ⟨sl', e2⟩
  free := fun c ob q n hx => by
    obtain ⟨o', e1⟩ := a.there c ob q hx
    exact b.free c o' e1 (a.free c ob q n hx) hx
  there := fun c ob q hx => by
    obtain ⟨o', e1⟩ := a.there c ob q hx
    exact b.there c o' e1 hx
  tups := fun c xs q => b.tups c xs (a.tups c xs q)
  frzs := fun c ob xs q => b.frzs c ob xs (a.frzs c ob xs q)
  tbls := fun c ps q => by
    obtain ⟨m1, e1⟩ := a.tbls c ps q
    obtain ⟨m2, e2⟩ := b.tbls c _ e1
    exact ⟨m1 ++ m2, by rw [e2, Array.append_assoc]⟩
theorem Un.kept (k : ∀ b u, h.get? b = some u → h'.get? b = some u) : Un fs ex H H h h' :=
  ⟨fun b ob q _ _ _ => k b ob q, fun b ob q _ _ _ => ⟨ob.slots, k b ob q⟩, fun _ _ _ n _ => n, fun b ob q _ => ⟨ob, k b ob q⟩, fun _ _ q => q, fun _ _ _ q => q, fun _ ps q => ⟨#[], by rw [q]; simp⟩⟩
theorem Un.refl : Un fs ex H H h h := Un.kept fun _ _ q => q
theorem Un.laid (k : ∀ b u, h.get? b = some u → h'.get? b = some u) (hp : h.objs.size ≤ a) (hn : H a = none) : Un fs ex H (upd H a o) h h' where
  keep := fun b u q _ _ _ => k b u q
  slot := fun b u q _ _ _ => ⟨u.slots, k b u q⟩
  free := fun b u q n _ => by rw [upd_ne (Nat.ne_of_lt (Nat.lt_of_lt_of_le (Heap.lt_size q) hp))]; exact n
  there := fun b u q _ => ⟨u, k b u q⟩
  tups := fun b xs q => by rw [upd_ne (ne_of_none q hn)]; exact q
  frzs := fun b u xs q => by rw [upd_ne (ne_of_none q hn)]; exact q
  tbls := fun b ps q => ⟨#[], by rw [upd_ne (ne_of_none q hn), q]; simp⟩
theorem Un.write (mu : Mut (H x)) (he : e = x ∨ H e = some (.own x)) (k : ∀ b u, b ≠ e → h.get? b = some u → h'.get? b = some u) (heo : ∃ u, h'.get? e = some u) : Un fs ex H (upd H x o) h h' := by
  have hx : ∀ b, H b = none → b ≠ x := fun b n z => by subst z; rw [n] at mu; exact mu
  have hb : ∀ b, H b = none → b ≠ e := fun b n z => by
    subst z
    rcases he with r | r
    · exact hx b n r
    · rw [n] at r; cases r
  have hm : ∀ b u, H b = some u → ¬ Mut (some u) → b ≠ x := fun b u q nm z => by subst z; rw [q] at mu; exact nm mu
  refine ⟨fun b u q n _ _ => k b u (hb b n) q, fun b u q n _ _ => ⟨u.slots, k b u (hb b n) q⟩, fun b u q n _ => by rw [upd_ne (hx b n)]; exact n, fun b u q _ => ?_,
    fun b xs q => by rw [upd_ne (hm b _ q fun z => z)]; exact q, fun b u xs q => by rw [upd_ne (hm b _ q fun z => z)]; exact q, fun b ps q => ⟨#[], by rw [upd_ne (hm b _ q fun z => z), q]; simp⟩⟩
  by_cases hbe : b = e
  · subst hbe; exact heo
  · exact ⟨u, k b u hbe q⟩
theorem Un.mono (u : Un fs ex H H1 h h1) (hs : ∀ b ∈ fs, b ∈ fs') (hx : ∀ b ∈ ex, b ∈ ex') : Un fs' ex' H H1 h h1 :=
  ⟨fun b ob q n hb he => u.keep b ob q n (fun z => hb (hs b z)) fun z => he (hx b z), fun _ _ q n _ he => u.any q n fun z => he (hx _ z), fun b ob q n he => u.free b ob q n fun z => he (hx b z), fun b ob q he => u.there b ob q fun z => he (hx b z), u.tups, u.frzs, u.tbls⟩
end
noncomputable def trk (h : Heap) (H : Hp) : List Addr := (List.range h.objs.size).filter fun a => (H a).isSome
noncomputable def hidT (h : Heap) (H : Hp) : Heap := PySem.W.hideAll h (trk h H)
theorem hidT_size (h : Heap) (H : Hp) : (hidT h H).objs.size = h.objs.size := PySem.W.hideAll_size _ _
theorem hidT_get {h : Heap} {H : Hp} {b : Addr} {o : Obj} (e : h.get? b = some o) (n : H b = none) : (hidT h H).get? b = some o :=
  PySem.W.hideAll_get _ e fun hm => by
    have q : (H b).isSome = true := (List.mem_filter.mp hm).2
    rw [n] at q; simp at q
theorem of_hidT {h : Heap} {H : Hp} {b : Addr} {o : Obj} (e : (hidT h H).get? b = some o) : h.get? b = some o ∧ H b = none := by
  have e' : h.get? b = some o := PySem.W.of_hideAll (trk h H) e
  refine ⟨e', ?_⟩
  cases q : H b with
  | none => rfl
  | some x =>
    have hm : b ∈ trk h H := List.mem_filter.mpr ⟨List.mem_range.mpr (Heap.lt_size e'), by simp [q]⟩
    have z : (hidT h H).get? b = none := PySem.W.hideAll_none (trk h H) hm
    rw [z] at e; cases e
noncomputable def allNews (g h : Heap) (L : Addr) : List (Addr × Obj) := (List.range h.objs.size).filterMap fun a => if a = L ∨ (g.get? a).isSome = true then none else (h.get? a).map fun o => (a, o)
noncomputable def rest (g h : Heap) (L d : Addr) : List (Addr × Obj) := (allNews g h L).filter fun p => decide (p.1 ≠ d)
end L2
namespace L2
open PySem PySem.Spec PyProof.Rows
structure Mod (K : PySem.W.Frag) (mg : Str → Option Value) (base : Heap) : Prop where
  kin : K.In base
  glob : base.Ns mainGlobals mg
  blt : ∃ mb, base.Ns builtinsNs mb ∧ ∀ x : Str, x ≠ "__name__" → mb x = bootBuiltins x
  nolimit : base.NoLimit
structure Cx where
  prog : Program
  w : World
  K : PySem.W.Frag
  mg : Str → Option Value
  base : Heap
  A : Around
  N : List Str
  s₀ : Shared
  H₀ : Hp
  env : Env
  outer : List Env
  stack : List Env
  ex : List Addr
  fn : Str → Bool
  calm : Bool
  pn : List (Addr × Obj)
  xe : Value → Shared → Prop
noncomputable def frs (l : List Env) : List Addr := l.filterMap (·.frame)
noncomputable abbrev Cx.fs (X : Cx) : List Addr := frs X.outer
noncomputable def Vis (sc : Scope) (x : Str) : Prop := sc.names.lookup x = some .local ∨ sc.names.lookup x = some .cell ∨ sc.names.lookup x = some .free
noncomputable def Loc (sc : Scope) (x : Str) : Prop := sc.names.lookup x = some .local ∨ sc.names.lookup x = some .cell
noncomputable def Look (env : Env) (h : Heap) (m : Str → Option Value) (x : Str) (u : Value) : Prop :=
  (env.kindOf x = some .local ∧ m x = some u) ∨ ((env.kindOf x = some .cell ∨ env.kindOf x = some .free) ∧ ∃ c, env.cells.lookup x = some c ∧ h.IsCell c (some u))
structure Cx.Ok (X : Cx) : Prop where
  mod : Mod X.K X.mg X.base
  kind : X.env.scope.kind = .function
  glob : X.env.globals = mainGlobals
  blt : X.env.builtins = builtinsNs
  above : X.s₀.heap.objs.size ≤ X.env.locals
  inj : ∀ x y c, X.env.cells.lookup x = some c → X.env.cells.lookup y = some c → x = y
  has : ∀ x, (X.env.kindOf x = some .cell ∨ X.env.kindOf x = some .free) → ∃ c, X.env.cells.lookup x = some c
  cab : ∀ x c, X.fn x = true → X.env.cells.lookup x = some c → X.s₀.heap.objs.size ≤ c
  hd : X.calm = true → X.A.handled = none
  frames : X.A.frames = some X.stack
  stk : X.stack = X.outer ∨ (X.stack = X.env :: X.outer ∧ X.env.frame = some X.env.locals)
  exf : ∀ b ∈ X.ex, b ≠ X.env.locals ∧ ∀ x c, X.env.cells.lookup x = some c → c ≠ b
  bs : ∀ b o, X.base.get? b = some o → X.s₀.heap.get? b = some o ∧ X.H₀ b = none
  bsz : X.base.objs.size ≤ X.s₀.heap.objs.size
  noex : ∀ b o, X.base.get? b = some o → b ∉ X.ex
  exfs : ∀ b ∈ X.ex, b ∉ X.fs
  funs : X.s₀.heap.FunFrames X.base X.outer
  frf : ∀ b ∈ X.fs, X.H₀ b = none
structure Inv (X : Cx) (pins : List (Addr × Obj)) (σ : List (Option V)) (H : Hp) (s : Shared) : Prop where
  ok : X.Ok
  os : s.os = X.s₀.os
  bare : AllBare s.gens
  base : Un X.fs X.ex X.H₀ H X.s₀.heap s.heap
  loc : ∃ m, s.heap.Ns X.env.locals m ∧ ∀ (i : Nat) (x : Str) (v : V), X.N[i]? = some x → σ[i]? = some (some v) → Vis X.env.scope x → ∃ u, RelV v u ∧ Look X.env s.heap m x u
  cell : ∀ x c, X.env.cells.lookup x = some c → ∃ v, s.heap.IsCell c v
  free : H X.env.locals = none
  freeC : ∀ x c, X.env.cells.lookup x = some c → H c = none
  pin : ∀ p ∈ X.pn ++ pins, s.heap.get? p.1 = some p.2 ∧ H p.1 = none ∧ p.1 ≠ X.env.locals ∧ p.1 ∉ X.fs ∧ ∀ v, p.2.data ≠ .cell v
  hok : HOk X.prog X.w H s.heap
  len : σ.length = X.N.length
section
variable {X : Cx} {pins : List (Addr × Obj)} {σ : List (Option V)} {H H' : Hp} {s : Shared} {h' : Heap}
theorem Cx.Ok.nofr (ok : X.Ok) {b : Addr} {o : Obj} (e : X.base.get? b = some o) : b ∉ X.fs := fun hb => by
  have := (ok.funs.mem hb).1
  rw [e] at this; cases this
theorem Inv.bs (I : Inv X pins σ H s) : ∀ b o, X.base.get? b = some o → s.heap.get? b = some o ∧ H b = none := fun b o e =>
  ⟨I.base.keep b o (I.ok.bs b o e).1 (I.ok.bs b o e).2 (I.ok.nofr e) (I.ok.noex b o e), I.base.free b o (I.ok.bs b o e).1 (I.ok.bs b o e).2 (I.ok.noex b o e)⟩
theorem Inv.bk (I : Inv X pins σ H s) : ∀ b o, X.base.get? b = some o → s.heap.get? b = some o := fun b o e => (I.bs b o e).1
theorem Inv.mod (I : Inv X pins σ H s) : Mod X.K X.mg X.base := I.ok.mod
theorem Inv.kIn (I : Inv X pins σ H s) : X.K.In s.heap := I.ok.mod.kin.keeps I.bk
theorem Inv.nolimit (I : Inv X pins σ H s) : s.heap.NoLimit := I.ok.mod.nolimit.keeps I.bk
theorem Inv.lt (I : Inv X pins σ H s) : X.env.locals < s.heap.objs.size := let ⟨_, hn, _⟩ := I.loc; hn.lt
theorem Inv.sz (I : Inv X pins σ H s) : X.s₀.heap.objs.size ≤ s.heap.objs.size := Nat.le_trans I.ok.above (Nat.le_of_lt I.lt)
theorem Inv.nofs (I : Inv X pins σ H s) {a : Addr} (h : s.heap.objs.size ≤ a) : a ∉ X.fs := fun hb => by
  obtain ⟨_, o, ho, _⟩ := I.ok.funs.mem hb
  exact absurd (Nat.lt_of_lt_of_le (Heap.lt_size ho) (Nat.le_trans I.sz h)) (Nat.lt_irrefl _)
theorem Inv.cne (I : Inv X pins σ H s) : ∀ x c, X.env.cells.lookup x = some c → c ≠ X.env.locals := fun x c e z => by
  obtain ⟨v, o, ho, hd⟩ := I.cell x c e
  obtain ⟨m, ⟨o', es, ep, ho', hd', _⟩, _⟩ := I.loc
  rw [z, ho'] at ho; cases ho; rw [hd'] at hd; cases hd
theorem Inv.funs (I : Inv X pins σ H s) : s.heap.FunFrames X.base X.outer := by
  have all : ∀ (l : List Env), (∀ b ∈ frs l, b ∈ X.fs) → X.s₀.heap.FunFrames X.base l → s.heap.FunFrames X.base l := by
    intro l
    induction l with
    | nil => intro _ _; trivial
    | cons env r ih =>
      intro hs hl
      obtain ⟨hk, ⟨L, o, hf, hn, ho, hd⟩, hr⟩ := hl
      have hL : L ∈ X.fs := hs L (by unfold frs; rw [List.filterMap_cons, hf]; exact List.mem_cons_self)
      obtain ⟨sl, e⟩ := I.base.slot L o ho (I.ok.frf L hL) hL fun z => I.ok.exfs L z hL
      exact ⟨hk, ⟨L, _, hf, hn, e, hd⟩, ih (fun b hb => hs b (by unfold frs; rw [List.filterMap_cons, hf]; exact List.mem_cons_of_mem _ hb)) hr⟩
  exact all X.outer (fun _ hb => hb) I.ok.funs
theorem Inv.stack (I : Inv X pins σ H s) : s.heap.FunFrames X.base X.stack := by
  rcases I.ok.stk with e | ⟨e, hf⟩
  · rw [e]; exact I.funs
  · rw [e]
    obtain ⟨m, hn, _⟩ := I.loc
    refine .cons (by rw [I.ok.kind]; decide) hf hn ?_ I.funs
    exact Heap.get?_none_of_le (Nat.le_trans I.ok.bsz I.ok.above)
theorem Inv.stkSub (I : Inv X pins σ H s) : ∀ b ∈ frs X.stack, b ∈ X.env.locals :: X.fs := fun b hb => by
  rcases I.ok.stk with e | ⟨e, hf⟩
  · rw [e] at hb; exact List.mem_cons_of_mem _ hb
  · rw [e] at hb
    unfold frs at hb
    rw [List.filterMap_cons, hf] at hb
    exact hb
theorem Inv.stkFree (I : Inv X pins σ H s) : ∀ b ∈ frs X.stack, H b = none := fun b hb => by
  rcases List.mem_cons.mp (I.stkSub b hb) with e | hb
  · rw [e]; exact I.free
  · obtain ⟨_, o, ho, _⟩ := I.ok.funs.mem hb
    exact I.base.free b o ho (I.ok.frf b hb) fun z => I.ok.exfs b z hb
theorem Inv.step {g' : Array GenState} {t' : Nat} {d' : Drawn} {ch : List Addr} (I : Inv X pins σ H s)
    (hch : ∀ b ∈ ch, (b ∈ X.ex ∨ X.s₀.heap.objs.size ≤ b) ∧ b ≠ X.env.locals ∧ (∀ x c, X.env.cells.lookup x = some c → c ≠ b) ∧ ∀ p ∈ X.pn ++ pins, p.1 ≠ b)
    (keep : ∀ b o, b ≠ X.env.locals → b ∉ X.fs → b ∉ ch → s.heap.get? b = some o → H b = none → h'.get? b = some o)
    (slot : ∀ b o, b ≠ X.env.locals → b ∈ X.fs → b ∉ ch → s.heap.get? b = some o → H b = none → ∃ sl, h'.get? b = some { o with slots := sl }) (free : ∀ b o, b ∉ ch → s.heap.get? b = some o → H b = none → H' b = none)
    (there : ∀ b o, b ∉ ch → s.heap.get? b = some o → ∃ o', h'.get? b = some o')
    (tups : ∀ b xs, H b = some (.tup xs) → H' b = some (.tup xs)) (frzs : ∀ b o u, H b = some (.frz o u) → H' b = some (.frz o u)) (tbls : ∀ b ps, H b = some (.tbl ps) → ∃ more, H' b = some (.tbl (ps ++ more)))
    (ns : ∀ m, s.heap.Ns X.env.locals m → h'.Ns X.env.locals m) (hok : HOk X.prog X.w H' h') (hg : AllBare g') :
    Inv X pins σ H' { s with heap := h', gens := g', drawn := d', toks := t' } := by
  have neL : ∀ b o, X.s₀.heap.get? b = some o → b ≠ X.env.locals := fun b o e => Nat.ne_of_lt (Nat.lt_of_lt_of_le (Heap.lt_size e) I.ok.above)
  have neC : ∀ b o, X.s₀.heap.get? b = some o → b ∉ X.ex → b ∉ ch := fun b o e hx hb => by
    rcases (hch b hb).1 with z | z
    · exact hx z
    · exact absurd (Nat.lt_of_lt_of_le (Heap.lt_size e) z) (Nat.lt_irrefl _)
  have cellK : ∀ x c, X.env.cells.lookup x = some c → ∀ v, s.heap.IsCell c v → h'.IsCell c v := fun x c e v ⟨o, ho, hd⟩ => by
    have nch : c ∉ ch := fun z => (hch c z).2.2.1 x c e rfl
    by_cases hc : c ∈ X.fs
    · obtain ⟨sl, q⟩ := slot c o (I.cne x c e) hc nch ho (I.freeC x c e)
      exact ⟨_, q, hd⟩
    · exact ⟨o, keep c o (I.cne x c e) hc nch ho (I.freeC x c e), hd⟩
  refine ⟨I.ok, I.os, hg, ⟨fun b o e n hb hx => ?_, fun b o e n hb hx => ?_, fun b o e n hx => ?_, fun b o e hx => ?_, fun b xs e => tups b xs (I.base.tups b xs e), fun b o xs e => frzs b o xs (I.base.frzs b o xs e), fun b ps e => ?_⟩, ?_, fun x c e => ?_, ?_, fun x c e => ?_, fun p hp => ?_, hok, I.len⟩
  · exact keep b o (neL b o e) hb (neC b o e hx) (I.base.keep b o e n hb hx) (I.base.free b o e n hx)
  · obtain ⟨sl, e1⟩ := I.base.slot b o e n hb hx
    obtain ⟨sl', e2⟩ := slot b _ (neL b o e) hb (neC b o e hx) e1 (I.base.free b o e n hx)
    exact ⟨sl', e2⟩
  · obtain ⟨o', e1⟩ := I.base.there b o e hx
    exact free b o' (neC b o e hx) e1 (I.base.free b o e n hx)
  · obtain ⟨o', e1⟩ := I.base.there b o e hx
    exact there b o' (neC b o e hx) e1
  · obtain ⟨m1, e1⟩ := I.base.tbls b ps e
    obtain ⟨m2, e2⟩ := tbls b _ e1
    exact ⟨m1 ++ m2, by rw [e2, Array.append_assoc]⟩
  · obtain ⟨m, hn, hl⟩ := I.loc
    refine ⟨m, ns m hn, fun i x v e1 e2 e3 => ?_⟩
    obtain ⟨u, r, l⟩ := hl i x v e1 e2 e3
    refine ⟨u, r, ?_⟩
    rcases l with l | ⟨k, c, e, z⟩
    · exact .inl l
    · exact .inr ⟨k, c, e, cellK x c e _ z⟩
  · obtain ⟨v, z⟩ := I.cell x c e
    exact ⟨v, cellK x c e v z⟩
  · obtain ⟨m, ⟨o, _, _, ho, _⟩, _⟩ := I.loc
    exact free _ o (fun z => (hch _ z).2.1 rfl) ho I.free
  · obtain ⟨v, o, ho, hd⟩ := I.cell x c e
    exact free c o (fun z => (hch c z).2.2.1 x c e rfl) ho (I.freeC x c e)
  · obtain ⟨e, n, ne, nf, d⟩ := I.pin p hp
    have nch : p.1 ∉ ch := fun z => (hch p.1 z).2.2.2 p hp rfl
    exact ⟨keep p.1 p.2 ne nf nch e n, free p.1 p.2 nch e n, ne, nf, d⟩
theorem Inv.un {t' : Nat} (I : Inv X pins σ H s) (u : Un X.fs [] H H' s.heap h') (hok : HOk X.prog X.w H' h') : Inv X pins σ H' { s with heap := h', toks := t' } := by
  obtain ⟨m, ⟨o, es, ep, ho, r⟩, _⟩ := id I.loc
  obtain ⟨sl, hL⟩ := u.any ho I.free (by simp)
  exact I.step (g' := s.gens) (d' := s.drawn) (ch := []) (fun _ z => nomatch z) (fun b o _ hb _ e n => u.keep b o e n hb (by simp)) (fun b o _ hb _ e n => u.slot b o e n hb (by simp)) (fun b o _ e n => u.free b o e n (by simp)) (fun b o _ e => u.there b o e (by simp)) u.tups u.frzs u.tbls (fun m' hm => by
    obtain ⟨o', es', ep', ho', r'⟩ := hm
    rw [ho] at ho'; cases ho'
    exact ⟨_, es', ep', hL, r'⟩) hok I.bare
theorem Inv.call {g' : Array GenState} {t' : Nat} {d' : Drawn} {ch : List Addr} (I : Inv X pins σ H s) (u : Un (frs X.stack) ch H H' s.heap h') (hok : HOk X.prog X.w H' h') (hg : AllBare g')
    (hch : ∀ b ∈ ch, (b ∈ X.ex ∨ X.s₀.heap.objs.size ≤ b) ∧ b ≠ X.env.locals ∧ (∀ x c, X.env.cells.lookup x = some c → c ≠ b) ∧ ∀ p ∈ X.pn ++ pins, p.1 ≠ b) :
    Inv X pins σ H' { s with heap := h', gens := g', drawn := d', toks := t' } := by
  obtain ⟨m, ⟨o, es, ep, ho, r⟩, _⟩ := id I.loc
  obtain ⟨sl, hL⟩ := u.any ho I.free fun z => (hch _ z).2.1 rfl
  exact I.step (ch := ch) hch (fun b o hL hb hc e n => u.keep b o e n (fun z => (List.mem_cons.mp (I.stkSub b z)).elim hL hb) hc) (fun b o _ _ hc e n => u.any e n hc) (fun b o hc e n => u.free b o e n hc) (fun b o hc e => u.there b o e hc) u.tups u.frzs u.tbls (fun m' hm => by
    obtain ⟨o', es', ep', ho', r'⟩ := hm
    rw [ho] at ho'; cases ho'
    exact ⟨_, es', ep', hL, r'⟩) hok hg
theorem Inv.turned {t' : Nat} {it : Addr} (I : Inv X pins σ H s) (k : ∀ b o, b ≠ it → s.heap.get? b = some o → h'.get? b = some o) (hn : H it = none) (hL : it ≠ X.env.locals)
    (h1 : it ∈ X.ex ∨ X.s₀.heap.objs.size ≤ it) (h2 : ∀ x c, X.env.cells.lookup x = some c → c ≠ it) (h3 : ∀ p ∈ X.pn ++ pins, p.1 ≠ it) : Inv X pins σ H { s with heap := h', toks := t' } := by
  have nit : ∀ b u, H b = some u → b ≠ it := fun b u e z => by rw [z, hn] at e; cases e
  refine I.step (g' := s.gens) (d' := s.drawn) (ch := [it]) (fun b hb => ?_) (fun b o _ _ hc e _ => k b o (fun z => hc (by simp [z])) e) (fun b o _ _ hc e _ => ⟨o.slots, k b o (fun z => hc (by simp [z])) e⟩) (fun _ _ _ _ n => n)
    (fun b o hc e => ⟨o, k b o (fun z => hc (by simp [z])) e⟩) (fun _ _ e => e) (fun _ _ _ e => e) (fun b ps e => ⟨#[], by rw [e]; simp⟩) (fun m hm => ?_) (fun b u e => ?_) I.bare
  · have e : b = it := by simpa using hb
    subst e
    exact ⟨h1, hL, h2, h3⟩
  · obtain ⟨o, es, ep, ho, r⟩ := hm
    exact ⟨o, es, ep, k _ o (Ne.symm hL) ho, r⟩
  · refine (I.hok b u e).stay (fun c v hc q => k c v ?_ q) (fun _ q => q) fun _ _ q => q
    rcases hc with z | z
    · rw [z]; exact nit b u e
    · exact nit c _ z
theorem Inv.tok (I : Inv X pins σ H s) (t : Nat) : Inv X pins σ H { s with toks := t } := I.un (h' := s.heap) (t' := t) Un.refl I.hok
theorem Inv.kept {t' : Nat} (I : Inv X pins σ H s) (k : ∀ b u, s.heap.get? b = some u → h'.get? b = some u) : Inv X pins σ H { s with heap := h', toks := t' } := I.un (Un.kept k) (I.hok.kept k)
theorem Inv.laid {a : Addr} {o : HO} {t' : Nat} (I : Inv X pins σ H s) (k : ∀ b u, s.heap.get? b = some u → h'.get? b = some u) (hp : s.heap.objs.size ≤ a) (new : ObjOk X.prog X.w (upd H a o) h' a o) :
    Inv X pins σ (upd H a o) { s with heap := h', toks := t' } := I.un (Un.laid k hp (I.hok.fresh hp)) (I.hok.laid k hp new)
theorem Inv.write {x e : Addr} {o : HO} {t' : Nat} (I : Inv X pins σ H s) (mu : Mut (H x)) (he : e = x ∨ H e = some (.own x)) (k : ∀ b u, b ≠ e → s.heap.get? b = some u → h'.get? b = some u) (heo : ∃ u, h'.get? e = some u)
    (new : ObjOk X.prog X.w (upd H x o) h' x o) : Inv X pins σ (upd H x o) { s with heap := h', toks := t' } := I.un (Un.write mu he k heo) (I.hok.write mu he k heo new)
theorem Inv.pins_of {pins' : List (Addr × Obj)} (I : Inv X pins σ H s) (h : ∀ p ∈ pins', s.heap.get? p.1 = some p.2 ∧ H p.1 = none ∧ p.1 ≠ X.env.locals ∧ p.1 ∉ X.fs ∧ ∀ v, p.2.data ≠ .cell v) : Inv X pins' σ H s :=
  ⟨I.ok, I.os, I.bare, I.base, I.loc, I.cell, I.free, I.freeC, fun p hp => (List.mem_append.mp hp).elim (fun z => I.pin p (List.mem_append_left _ z)) (h p), I.hok, I.len⟩
theorem nodup_ix {N : List Str} (hN : N.Nodup) {i j : Nat} {x : Str} (a : N[i]? = some x) (b : N[j]? = some x) : i = j := by
  obtain ⟨h1, e1⟩ := List.getElem?_eq_some_iff.mp a
  obtain ⟨h2, e2⟩ := List.getElem?_eq_some_iff.mp b
  exact (List.getElem_inj hN).mp (e1.trans e2.symm)
theorem store_ok2 {M : Model} {A : Around} {E : Value → Shared → Prop} {i : Nat} {x : Str} {v : V} {u : Value} {Q : Unit → Shared → Prop} (I : Inv X pins σ H s) (hN : X.N.Nodup) (hi : X.N[i]? = some x) (hx : Loc X.env.scope x) (r : RelV v u)
    (h : ∀ s', Inv X pins (σ.set i (some v)) H s' → (∃ a, Heap.SameBut a s.heap s'.heap ∧ (a = X.env.locals ∨ X.env.cells.lookup x = some a)) → Q () s') (hf : X.fn x = true ∨ X.env.scope.names.lookup x = some .local := by first | exact .inl rfl | exact .inr rfl | assumption) : wpAny M A (storeName X.env x u) Q E s := by
  obtain ⟨m, hn, hl⟩ := id I.loc
  have hcls : (X.env.scope.kind == .class || (X.env.scope.kind == .module && X.env.locals != X.env.globals)) = false := by rw [I.ok.kind]; rfl
  have hiσ : i < σ.length := by rw [I.len]; exact (List.getElem?_eq_some_iff.mp hi).1
  have cne := I.cne
  have tracked : ∀ {a : Addr} {h' : Heap}, (∃ o, s.heap.get? a = some o ∧ H a = none) → Heap.SameBut a s.heap h' → HOk X.prog X.w H h' := fun {a h'} ha hs b ob e => by
    obtain ⟨_, _, hfree⟩ := ha
    refine (I.hok b ob e).stay (fun c w' hc q => (hs.2 c ?_).trans q) (fun _ q => q) fun _ _ q => q
    rintro rfl
    rcases hc with rfl | hc
    · rw [hfree] at e; cases e
    · rw [hfree] at hc; cases hc
  rcases hx with hk | hk
  · refine wpAny_storeName_local hk hn (fun h' hn' hs => ?_) hcls
    obtain ⟨oL, _, _, hoL, _⟩ := id hn
    refine h _ ⟨I.ok, I.os, I.bare, ⟨fun b o e n hb hx => ?_, fun b o e n hb hx => ?_, I.base.free, fun b o e hx => ?_, I.base.tups, I.base.frzs, I.base.tbls⟩, ⟨_, hn', fun j y v' e1 e2 e3 => ?_⟩, fun y c e => ?_, I.free, I.freeC, fun p hp => ?_, tracked ⟨oL, hoL, I.free⟩ hs, by simpa using I.len⟩ ⟨_, hs, .inl rfl⟩
    · exact (hs.2 b (Nat.ne_of_lt (Nat.lt_of_lt_of_le (Heap.lt_size e) I.ok.above))).trans (I.base.keep b o e n hb hx)
    · obtain ⟨sl, e1⟩ := I.base.slot b o e n hb hx
      exact ⟨sl, (hs.2 b (Nat.ne_of_lt (Nat.lt_of_lt_of_le (Heap.lt_size e) I.ok.above))).trans e1⟩
    · obtain ⟨o', e1⟩ := I.base.there b o e hx
      exact ⟨o', (hs.2 b (Nat.ne_of_lt (Nat.lt_of_lt_of_le (Heap.lt_size e) I.ok.above))).trans e1⟩
    · by_cases hj : j = i
      · subst hj
        rw [hi] at e1; cases e1
        rw [List.getElem?_set_self hiσ] at e2
        cases e2
        exact ⟨u, r, .inl ⟨hk, by simp⟩⟩
      · rw [List.getElem?_set_ne (Ne.symm hj)] at e2
        obtain ⟨u', r', q⟩ := hl j y v' e1 e2 e3
        refine ⟨u', r', ?_⟩
        rcases q with ⟨k, e⟩ | ⟨k, c, e, z⟩
        · refine .inl ⟨k, ?_⟩
          have : y ≠ x := fun e => hj (nodup_ix hN e1 (e ▸ hi))
          simp [this, e]
        · exact .inr ⟨k, c, e, z.sameBut hs (cne y c e)⟩
    · obtain ⟨w', z⟩ := I.cell y c e
      exact ⟨w', z.sameBut hs (cne y c e)⟩
    · obtain ⟨e, n, ne, nf, d⟩ := I.pin p hp
      exact ⟨(hs.2 p.1 ne).trans e, n, ne, nf, d⟩
  · have hfn : X.fn x = true := by
      rcases hf with z | z
      · exact z
      · rw [z] at hk; cases hk
    obtain ⟨c, hc⟩ := I.ok.has x (.inl hk)
    obtain ⟨w', z⟩ := I.cell x c hc
    refine wpAny_storeName_cell I.ok.kind hk hc z (fun h' hc' hs => ?_)
    obtain ⟨oc, hoc, hocd⟩ := id z
    refine h { s with heap := h' } ⟨I.ok, I.os, I.bare, ⟨fun b o e n hb hx => ?_, fun b o e n hb hx => ?_, I.base.free, fun b o e hx => ?_, I.base.tups, I.base.frzs, I.base.tbls⟩, ⟨m, hn.sameBut hs (Ne.symm (cne x c hc)), fun j y v' e1 e2 e3 => ?_⟩, fun y c' e => ?_, I.free, I.freeC, fun p hp => ?_, tracked ⟨oc, hoc, I.freeC x c hc⟩ hs, by simpa using I.len⟩ ⟨c, hs, .inr hc⟩
    · exact (hs.2 b (Nat.ne_of_lt (Nat.lt_of_lt_of_le (Heap.lt_size e) (I.ok.cab x c hfn hc)))).trans (I.base.keep b o e n hb hx)
    · obtain ⟨sl, e1⟩ := I.base.slot b o e n hb hx
      exact ⟨sl, (hs.2 b (Nat.ne_of_lt (Nat.lt_of_lt_of_le (Heap.lt_size e) (I.ok.cab x c hfn hc)))).trans e1⟩
    · obtain ⟨o', e1⟩ := I.base.there b o e hx
      exact ⟨o', (hs.2 b (Nat.ne_of_lt (Nat.lt_of_lt_of_le (Heap.lt_size e) (I.ok.cab x c hfn hc)))).trans e1⟩
    · by_cases hj : j = i
      · subst hj
        rw [hi] at e1; cases e1
        rw [List.getElem?_set_self hiσ] at e2
        cases e2
        exact ⟨u, r, .inr ⟨.inl hk, c, hc, hc'⟩⟩
      · rw [List.getElem?_set_ne (Ne.symm hj)] at e2
        obtain ⟨u', r', q⟩ := hl j y v' e1 e2 e3
        refine ⟨u', r', ?_⟩
        rcases q with q | ⟨k, c', e, z'⟩
        · exact .inl q
        · refine .inr ⟨k, c', e, z'.sameBut hs ?_⟩
          rintro rfl
          exact hj (nodup_ix hN e1 (I.ok.inj _ _ _ e hc ▸ hi))
    · by_cases hcc : c' = c
      · subst hcc; exact ⟨_, hc'⟩
      · obtain ⟨w2, z2⟩ := I.cell y c' e
        exact ⟨w2, z2.sameBut hs hcc⟩
    · obtain ⟨e, n, ne, nf, d⟩ := I.pin p hp
      refine ⟨(hs.2 p.1 ?_).trans e, n, ne, nf, d⟩
      intro q
      rw [q, hoc] at e
      have q' : oc = p.2 := Option.some.inj e
      exact d w' (by rw [← q']; exact hocd)
theorem store_ok {M : Model} {A : Around} {E : Value → Shared → Prop} {i : Nat} {x : Str} {v : V} {u : Value} {Q : Unit → Shared → Prop} (I : Inv X pins σ H s) (hN : X.N.Nodup) (hi : X.N[i]? = some x) (hx : Loc X.env.scope x) (r : RelV v u)
    (h : ∀ s', Inv X pins (σ.set i (some v)) H s' → Q () s') (hf : X.fn x = true ∨ X.env.scope.names.lookup x = some .local := by first | exact .inl rfl | exact .inr rfl | assumption) : wpAny M A (storeName X.env x u) Q E s :=
  store_ok2 I hN hi hx r (fun s' I' _ => h s' I') hf
theorem Inv.call' {s' : Shared} {ch : List Addr} (I : Inv X pins σ H s) (ho : s'.os = s.os) (u : Un (frs X.stack) ch H H' s.heap s'.heap) (hok : HOk X.prog X.w H' s'.heap) (hg : AllBare s'.gens)
    (hch : ∀ b ∈ ch, (b ∈ X.ex ∨ X.s₀.heap.objs.size ≤ b) ∧ b ≠ X.env.locals ∧ (∀ x c, X.env.cells.lookup x = some c → c ≠ b) ∧ ∀ p ∈ X.pn ++ pins, p.1 ≠ b) : Inv X pins σ H' s' := by
  obtain ⟨h', g', d', t', o'⟩ := s'
  have e : o' = s.os := ho
  subst e
  exact I.call (g' := g') (t' := t') (d' := d') u hok hg hch
end
noncomputable abbrev XK := Value → Option Addr → Hp → Prop
noncomputable abbrev St := List (Option V)
noncomputable abbrev VK := V → Hp → Prop
noncomputable abbrev TE := St → Hp → VK → Prop
noncomputable abbrev TT := St → Hp → (Bool → Hp → Prop) → Prop
noncomputable abbrev TA := St → Hp → (List V → Hp → Prop) → Prop
structure Ends where
  nx : St → Hp → Prop
  rt : VK
  bk : St → Hp → Prop := fun _ _ => False
  ct : St → Hp → Prop := fun _ _ => False
noncomputable abbrev TS := Ends → St → Hp → Prop
noncomputable def EP (X : Cx) (pins : List (Addr × Obj)) (σ : St) (Q : VK) (u : Value) (s' : Shared) : Prop := ∃ v H', Inv X pins σ H' s' ∧ RelV v u ∧ Q v H'
noncomputable def TP (X : Cx) (pins : List (Addr × Obj)) (σ : St) (Q : Bool → Hp → Prop) (b : Bool) (s' : Shared) : Prop := ∃ H', Inv X pins σ H' s' ∧ Q b H'
noncomputable def AP (X : Cx) (pins : List (Addr × Obj)) (σ : St) (Q : List V → Hp → Prop) (us : List Value) (s' : Shared) : Prop := ∃ vs H', Inv X pins σ H' s' ∧ Vals vs us ∧ Q vs H'
noncomputable def SP (X : Cx) (pins : List (Addr × Obj)) (D : Ends) (f : Flow) (s' : Shared) : Prop :=
  match f with
  | .next => ∃ σ' H', Inv X pins σ' H' s' ∧ D.nx σ' H'
  | .brk => ∃ σ' H', Inv X pins σ' H' s' ∧ D.bk σ' H'
  | .cont => ∃ σ' H', Inv X pins σ' H' s' ∧ D.ct σ' H'
  | .ret u => ∃ v σ' H', Inv X pins σ' H' s' ∧ RelV v u ∧ D.rt v H'
noncomputable def PE (X : Cx) (e : Expr) (t : TE) : Prop :=
  ∀ (pins : List (Addr × Obj)) (s : Shared) (σ : St) (H : Hp) (Q : VK), Inv X pins σ H s → t σ H Q → wpAny (model X.prog X.w) X.A (eval e X.env) (EP X pins σ Q) X.xe s
noncomputable def PT (X : Cx) (e : Expr) (t : TT) : Prop :=
  ∀ (pins : List (Addr × Obj)) (s : Shared) (σ : St) (H : Hp) (Q : Bool → Hp → Prop), Inv X pins σ H s → t σ H Q → wpAny (model X.prog X.w) X.A (isTrue e X.env (eval e X.env)) (TP X pins σ Q) X.xe s
noncomputable def PW (X : Cx) (e : Expr) (t : TT) : Prop :=
  ∀ (whole : Sem Value) (pins : List (Addr × Obj)) (s : Shared) (σ : St) (H : Hp) (Q : Bool → Hp → Prop), Inv X pins σ H s → t σ H Q → wpAny (model X.prog X.w) X.A (isTrue e X.env whole) (TP X pins σ Q) X.xe s
theorem PW.pt {X : Cx} {e : Expr} {t : TT} (h : PW X e t) : PT X e t := h _
noncomputable def PA (X : Cx) (es : List Expr) (t : TA) : Prop :=
  ∀ (pos : Pos) (pins : List (Addr × Obj)) (s : Shared) (σ : St) (H : Hp) (Q : List V → Hp → Prop), Inv X pins σ H s → t σ H Q → wpAny (model X.prog X.w) X.A (spliced (backTo pos (starEach es X.env))) (AP X pins σ Q) X.xe s
noncomputable def PS (X : Cx) (st : Stmt) (t : TS) : Prop :=
  ∀ (pins : List (Addr × Obj)) (s : Shared) (σ : St) (H : Hp) (D : Ends), Inv X pins σ H s → t D σ H → wpAny (model X.prog X.w) X.A (exec st X.env) (SP X pins D) X.xe s
noncomputable def PSs (X : Cx) (st : List Stmt) (t : TS) : Prop :=
  ∀ (pins : List (Addr × Obj)) (s : Shared) (σ : St) (H : Hp) (D : Ends), Inv X pins σ H s → t D σ H → wpAny (model X.prog X.w) X.A (execs st X.env) (SP X pins D) X.xe s
theorem thn {α : Type} {t : Sem α} {Q Q' : α → Shared → Prop} {M : Model} {A : Around} {E : Value → Shared → Prop} {s : Shared} (h : wpAny M A t Q E s) (hQ : ∀ a s, Q a s → Q' a s) : wpAny M A t Q' E s := wpAny_mono h hQ fun _ _ x => x
end L2
namespace L2
open PySem PySem.Spec PyProof.Rows
section
variable {X : Cx}
noncomputable def tVar (i : Nat) : TE := fun σ H Q => ∃ v, σ[i]? = some (some v) ∧ Q v H
noncomputable def tC (v : V) : TE := fun _ H Q => Q v H
theorem pe_var {i : Nat} {x : Str} {pos : Pos} (hN : X.N[i]? = some x) (hv : Vis X.env.scope x) (hd : (x == ("__debug__" : Str)) = false := by decide) (hcd : (x == ("__classdict__" : Str)) = false := by decide) : PE X (.Name x pos) (tVar i) := by
  intro pins s σ H Q I h
  obtain ⟨v, e, h⟩ := h
  obtain ⟨m, hn, hl⟩ := I.loc
  obtain ⟨u, r, l⟩ := hl i x v hN e hv
  have fin : EP X pins σ Q u s := ⟨v, H, I, r, h⟩
  rcases l with ⟨hk, hm⟩ | ⟨hk, c, hc, hcell⟩
  · exact wpAny_Name (wpAny_loadName_local I.ok.kind hk hn hm fin) hd
  · rcases hk with hk | hk
    · exact wpAny_Name (wpAny_loadName_cell I.ok.kind hk hc hcell fin) hd
    · exact wpAny_Name (wpAny_loadName_free I.ok.kind hk hc hcell fin hcd) hd
theorem pe_int {i j pos} : PE X (.Constant (.int i) j pos) (tC (.int i)) := fun _ _ _ H _ I h => wpAny_Constant_int ⟨.int i, H, I.tok _, ⟨_, rfl⟩, h⟩
theorem pe_bl {b j pos} : PE X (.Constant (.bool b) j pos) (tC (.bl b)) := fun _ _ _ H _ I h => Constant_bool ⟨.bl b, H, I, rfl, h⟩
theorem pe_non {j pos} : PE X (.Constant .none j pos) (tC .non) := fun _ _ _ H _ I h => Constant_none ⟨.non, H, I, rfl, h⟩
theorem pe_str {x j pos} : PE X (.Constant (.str x) j pos) (tC (.str x)) := fun _ _ _ H _ I h => Calls.Constant_str ⟨.str x, H, I.tok _, ⟨_, rfl⟩, h⟩
noncomputable def Gl (X : Cx) (x : Str) : Prop := X.env.kindOf x = some .globalImplicit
theorem ld_glob {E : Value → Shared → Prop} {pins : List (Addr × Obj)} {s : Shared} {σ : St} {H : Hp} {x : Str} {u : Value} {pos : Pos} {Q : Value → Shared → Prop} (I : Inv X pins σ H s) (hg : Gl X x) (hm : X.mg x = some u) (h : Q u s)
    (hd : (x == ("__debug__" : Str)) = false := by decide) : wpAny (model X.prog X.w) X.A (eval (.Name x pos) X.env) Q E s :=
  Calls.Name_function_global I.ok.kind hg (Calls.loadGlobal_global (by rw [I.ok.glob]; exact I.mod.glob.keeps I.bk) hm h) hd
theorem ld_blt {E : Value → Shared → Prop} {pins : List (Addr × Obj)} {s : Shared} {σ : St} {H : Hp} {x : Str} {u : Value} {pos : Pos} {Q : Value → Shared → Prop} (I : Inv X pins σ H s) (hg : Gl X x) (hm : X.mg x = none) (hv : bootBuiltins x = some u) (h : Q u s)
    (hn : x ≠ "__name__" := by decide) (hd : (x == ("__debug__" : Str)) = false := by decide) : wpAny (model X.prog X.w) X.A (eval (.Name x pos) X.env) Q E s := by
  obtain ⟨mb, h1, h2⟩ := I.mod.blt
  exact Calls.Name_function_global I.ok.kind hg (Calls.loadGlobal_builtin (by rw [I.ok.glob]; exact I.mod.glob.keeps I.bk) hm (by rw [I.ok.blt]; exact h1.keeps I.bk) ((h2 x hn).trans hv) h) hd
theorem pe_glob {x : Str} {v : V} {u : Value} {pos : Pos} (hg : Gl X x) (hm : X.mg x = some u) (r : RelV v u) (hd : (x == ("__debug__" : Str)) = false := by decide) : PE X (.Name x pos) (tC v) :=
  fun _ _ _ H _ I h => ld_glob I hg hm ⟨v, H, I, r, h⟩ hd
theorem pe_bltn {x : Str} {v : V} {u : Value} {pos : Pos} (hg : Gl X x) (hm : X.mg x = none) (hv : bootBuiltins x = some u) (r : RelV v u) (hn : x ≠ "__name__" := by decide) (hd : (x == ("__debug__" : Str)) = false := by decide) : PE X (.Name x pos) (tC v) :=
  fun _ _ _ H _ I h => ld_blt I hg hm hv ⟨v, H, I, r, h⟩ hn hd
variable {a b : Expr} {ta tb : TE} {pos : Pos}
noncomputable def tB (t : TE) : TT := fun σ H Q => t σ H fun x H1 => ∃ c, x = .bl c ∧ Q c H1
variable {tA tB' : TT} {rest : List Expr}
noncomputable def tAnd (t u : TT) : TT := fun σ H Q => t σ H fun c H1 => if c = true then u σ H1 Q else Q false H1
noncomputable def tOr (t u : TT) : TT := fun σ H Q => t σ H fun c H1 => if c = true then Q true H1 else u σ H1 Q
noncomputable def tNot (t : TT) : TT := fun σ H Q => t σ H fun c H1 => Q (!c) H1
theorem pw_and1 (ha : PT X a tA) : PW X (.BoolOp .And [a] pos) tA := by
  intro wh pins s σ H Q I h
  refine isTrue_and (thn (ha pins s σ H Q I h) fun c s1 e => ?_)
  cases c with
  | true => exact isTrue_and_nil e
  | false => exact e
theorem pw_or1 (ha : PT X a tA) : PW X (.BoolOp .Or [a] pos) tA := by
  intro wh pins s σ H Q I h
  refine isTrue_or (thn (ha pins s σ H Q I h) fun c s1 e => ?_)
  cases c with
  | false => exact isTrue_or_nil e
  | true => exact e
theorem pw_and (ha : PT X a tA) (hb : PW X (.BoolOp .And (b :: rest) pos) tB') : PW X (.BoolOp .And (a :: b :: rest) pos) (tAnd tA tB') := by
  intro wh pins s σ H Q I h
  refine isTrue_and (thn (ha pins s σ H _ I h) fun c s1 ⟨H1, I1, q1⟩ => ?_)
  cases c with
  | true => exact hb wh pins s1 σ H1 Q I1 q1
  | false => exact ⟨H1, I1, q1⟩
theorem pw_or (ha : PT X a tA) (hb : PW X (.BoolOp .Or (b :: rest) pos) tB') : PW X (.BoolOp .Or (a :: b :: rest) pos) (tOr tA tB') := by
  intro wh pins s σ H Q I h
  refine isTrue_or (thn (ha pins s σ H _ I h) fun c s1 ⟨H1, I1, q1⟩ => ?_)
  cases c with
  | true => exact ⟨H1, I1, q1⟩
  | false => exact hb wh pins s1 σ H1 Q I1 q1
theorem pt_not (ha : PT X a tA) : PT X (.UnaryOp .Not a pos) (tNot tA) := by
  intro pins s σ H Q I h
  exact isTrue_not (ha pins s σ H (fun c H1 => Q (!c) H1) I h)
noncomputable def tAndV (ta tb : TE) : TE := fun σ H Q => ta σ H fun x H1 => ∃ c, x = .bl c ∧ if c = true then tb σ H1 Q else Q (.bl false) H1
noncomputable def tNotV (ta : TE) : TE := fun σ H Q => ta σ H fun x H1 => ∃ c, x = .bl c ∧ Q (.bl (!c)) H1
theorem pe_one {op} {t : TE} (h : PE X a t) : PE X (.BoolOp op [a] pos) t := fun pins s σ H Q I hw => BoolOp_one (h pins s σ H Q I hw)
theorem pe_and (ha : PE X a ta) (hb : PE X (.BoolOp .And (b :: rest) pos) tb) : PE X (.BoolOp .And (a :: b :: rest) pos) (tAndV ta tb) := by
  intro pins s σ H Q I h
  refine BoolOp_and (thn (ha pins s σ H _ I h) fun v s1 ⟨x, H1, I1, r1, q1⟩ => ?_)
  obtain ⟨c, rfl, q1⟩ := q1
  cases r1
  refine wpAny_truthy_bool ?_
  cases c with
  | true => exact hb pins s1 σ H1 Q I1 q1
  | false => exact ⟨.bl false, H1, I1, rfl, q1⟩
theorem pe_not (ha : PE X a ta) : PE X (.UnaryOp .Not a pos) (tNotV ta) := by
  intro pins s σ H Q I h
  refine UnaryOp_ (thn (ha pins s σ H _ I h) fun v s1 ⟨x, H1, I1, r1, q1⟩ => ?_)
  obtain ⟨c, rfl, q1⟩ := q1
  cases r1
  exact not_of (wpAny_truthy_bool ⟨.bl (!c), H1, I1, rfl, q1⟩)
noncomputable def tIf (t : TT) (ta tb : TE) : TE := fun σ H Q => t σ H fun c H1 => if c = true then ta σ H1 Q else tb σ H1 Q
theorem pe_ifExp {c : Expr} (hc : PT X c tA) (ha : PE X a ta) (hb : PE X b tb) : PE X (.IfExp c a b pos) (tIf tA ta tb) := by
  intro pins s σ H Q I h
  refine wpAny_IfExp (thn (hc pins s σ H _ I h) fun d s1 ⟨H1, I1, q1⟩ => ?_)
  cases d with
  | true => exact ha pins s1 σ H1 Q I1 q1
  | false => exact hb pins s1 σ H1 Q I1 q1
end
end L2
namespace L2
open PySem PySem.Spec PyProof.Rows
noncomputable def SqL (K : PySem.W.Frag) (H : Hp) (a : Addr) (xs : List V) : Prop :=
  Rd H a (.lst xs) ∨
    ∃ (o : Obj) (its : Array Value) (n : Nat), K.lookup a = some o ∧ o.cls = .type "list" ∧ o.dict = none ∧ o.data = .seq its n ∧ its.size ≤ sizeLine ∧ Vals xs its.toList
noncomputable def SqT (K : PySem.W.Frag) (H : Hp) (a : Addr) (xs : List V) : Prop :=
  Rd H a (.tup xs) ∨
    ∃ (o : Obj) (its : Array Value) (n : Nat), K.lookup a = some o ∧ o.cls = .type "tuple" ∧ o.data = .seq its n ∧ its.size ≤ sizeLine ∧ Vals xs its.toList
noncomputable def absV : Value → Option V
  | .none => some .non
  | .bool b => some (.bl b)
  | .int i _ => some (.int i)
  | .str x _ => some (.str x)
  | .bytes b _ => some (.byt b)
  | .float b _ => some (.flt b)
  | .ref a => some (.ref a)
  | .type n => some (.ty n)
  | _ => none
theorem RelV.abs {x : V} {u : Value} (r : RelV x u) : absV u = some x := by
  cases x with
  | non => cases r; rfl
  | bl _ => cases r; rfl
  | int _ => obtain ⟨t, rfl⟩ := r; rfl
  | str _ => obtain ⟨t, rfl⟩ := r; rfl
  | byt _ => obtain ⟨t, rfl⟩ := r; rfl
  | flt _ => obtain ⟨t, rfl⟩ := r; rfl
  | ref _ => cases r; rfl
  | ty _ => cases r; rfl
theorem RelV.inj {x y : V} {u : Value} (r : RelV x u) (q : RelV y u) : x = y := Option.some.inj (r.abs.symm.trans q.abs)
theorem Vals.inj : ∀ {xs ys : List V} {us : List Value}, Vals xs us → Vals ys us → xs = ys
  | _, _, _, .nil, .nil => rfl
  | _, _, _, .cons r t, .cons r' t' => by rw [r.inj r', Vals.inj t t']
section
variable {X : Cx} {pins : List (Addr × Obj)} {σ : St} {H : Hp} {s : Shared} {a : Addr} {xs ys : List V}
theorem SqL.of {K : PySem.W.Frag} (h : H a = some (.lst xs)) : SqL K H a xs := .inl (.inl h)
theorem SqT.of {K : PySem.W.Frag} (h : H a = some (.tup xs)) : SqT K H a xs := .inl (.inl h)
theorem Inv.list (I : Inv X pins σ H s) (h : SqL X.K H a xs) : ∃ its : List Value, Vals xs its ∧ PlainL s.heap a its.toArray ∧ xs.length ≤ sizeLine := by
  rcases h with h | ⟨o, its, n, hk, hc, hd, hs, hz, r⟩
  · obtain ⟨z, its, n, r, e⟩ := h.ok I.hok
    exact ⟨its, r, ⟨_, n, e, rfl, rfl, rfl⟩, z⟩
  · refine ⟨its.toList, r, ⟨o, n, I.kIn a o hk, hc, hd, by simpa using hs⟩, ?_⟩
    have e := r.length
    simp only [Array.length_toList] at e
    omega
theorem Inv.tuple (I : Inv X pins σ H s) (h : SqT X.K H a xs) : ∃ its : List Value, Vals xs its ∧ IsTup s.heap a its.toArray ∧ xs.length ≤ sizeLine := by
  rcases h with h | ⟨o, its, n, hk, hc, hs, hz, r⟩
  · obtain ⟨z, its, r, p, _⟩ := h.ok I.hok
    exact ⟨its, r, p, z⟩
  · refine ⟨its.toList, r, ⟨o, I.kIn a o hk, hc, n, by simpa using hs⟩, ?_⟩
    have e := r.length
    simp only [Array.length_toList] at e
    omega
theorem Inv.list_inj (I : Inv X pins σ H s) (h : SqL X.K H a xs) (h' : SqL X.K H a ys) : xs = ys := by
  obtain ⟨its, r, ⟨o, n, e, _, _, d⟩, _⟩ := I.list h
  obtain ⟨its', r', ⟨o', n', e', _, _, d'⟩, _⟩ := I.list h'
  rw [e] at e'; cases e'
  rw [d] at d'
  injection d' with d1 _
  have : its = its' := by simpa using congrArg Array.toList d1
  subst this
  exact r.inj r'
theorem Inv.tuple_inj (I : Inv X pins σ H s) (h : SqT X.K H a xs) (h' : SqT X.K H a ys) : xs = ys := by
  obtain ⟨its, r, ⟨o, e, _, n, d⟩, _⟩ := I.tuple h
  obtain ⟨its', r', ⟨o', e', _, n', d'⟩, _⟩ := I.tuple h'
  rw [e] at e'; cases e'
  rw [d] at d'
  injection d' with d1 _
  have : its = its' := by simpa using congrArg Array.toList d1
  subst this
  exact r.inj r'
end
noncomputable abbrev Cx.wish (X : Cx) (E : Value → Shared → Prop) : Cx := { X with xe := E }
noncomputable abbrev Cx.nox (X : Cx) : Cx := X.wish fun _ _ => False
theorem Cx.Ok.wish {X : Cx} (ok : X.Ok) (E : Value → Shared → Prop) : (X.wish E).Ok :=
  ⟨ok.mod, ok.kind, ok.glob, ok.blt, ok.above, ok.inj, ok.has, ok.cab, ok.hd, ok.frames, ok.stk, ok.exf, ok.bs, ok.bsz, ok.noex, ok.exfs, ok.funs, ok.frf⟩
theorem Cx.Ok.unwish {X : Cx} {E : Value → Shared → Prop} (ok : (X.wish E).Ok) : X.Ok :=
  ⟨ok.mod, ok.kind, ok.glob, ok.blt, ok.above, ok.inj, ok.has, ok.cab, ok.hd, ok.frames, ok.stk, ok.exf, ok.bs, ok.bsz, ok.noex, ok.exfs, ok.funs, ok.frf⟩
section
variable {X : Cx} {pins : List (Addr × Obj)} {σ : St} {H : Hp} {s : Shared} {E : Value → Shared → Prop}
theorem Inv.wish (I : Inv X pins σ H s) (E : Value → Shared → Prop) : Inv (X.wish E) pins σ H s := ⟨I.ok.wish E, I.os, I.bare, I.base, I.loc, I.cell, I.free, I.freeC, I.pin, I.hok, I.len⟩
theorem Inv.unwish (I : Inv (X.wish E) pins σ H s) : Inv X pins σ H s := ⟨I.ok.unwish, I.os, I.bare, I.base, I.loc, I.cell, I.free, I.freeC, I.pin, I.hok, I.len⟩
theorem SP.unwish {D : Ends} {f : Flow} {s' : Shared} (h : SP (X.wish E) pins D f s') : SP X pins D f s' := by
  cases f with
  | next => obtain ⟨σ', H', I, q⟩ := h; exact ⟨σ', H', I.unwish, q⟩
  | brk => obtain ⟨σ', H', I, q⟩ := h; exact ⟨σ', H', I.unwish, q⟩
  | cont => obtain ⟨σ', H', I, q⟩ := h; exact ⟨σ', H', I.unwish, q⟩
  | ret u => obtain ⟨v, σ', H', I, r, q⟩ := h; exact ⟨v, σ', H', I.unwish, r, q⟩
theorem PE.nox {e : Expr} {t : TE} (h : PE X.nox e t) : PE X e t := fun pins s σ H Q I hw =>
  wpAny_mono (h pins s σ H Q (I.wish _) hw) (fun _ _ ⟨v, H', I', r, q⟩ => ⟨v, H', I'.unwish, r, q⟩) fun _ _ z => False.elim z
theorem PT.nox {e : Expr} {t : TT} (h : PT X.nox e t) : PT X e t := fun pins s σ H Q I hw =>
  wpAny_mono (h pins s σ H Q (I.wish _) hw) (fun _ _ ⟨H', I', q⟩ => ⟨H', I'.unwish, q⟩) fun _ _ z => False.elim z
theorem PSs.nox {st : List Stmt} {t : TS} (h : PSs X.nox st t) : PSs X st t := fun pins s σ H D I hw =>
  wpAny_mono (h pins s σ H D (I.wish _) hw) (fun _ _ q => q.unwish) fun _ _ z => False.elim z
end
section
variable {X : Cx} {st : Stmt} {rest : List Stmt} {t u : TS} {e : Expr} {te : TE} {pos : Pos}
noncomputable def tNext : TS := fun D σ H => D.nx σ H
noncomputable def tSeq (t u : TS) : TS := fun D σ H => t { D with nx := u D } σ H
theorem pss_nil : PSs X [] tNext := fun _ _ σ H _ I h => wpAny_execs_nil ⟨σ, H, I, h⟩
theorem pss_cons (h1 : PS X st t) (h2 : PSs X rest u) : PSs X (st :: rest) (tSeq t u) := by
  intro pins s σ H D I h
  refine wpAny_execs_cons (thn (h1 pins s σ H { D with nx := u D } I h) fun f s1 q => ?_)
  cases f with
  | next =>
    obtain ⟨σ', H', I', q⟩ := q
    exact h2 pins s1 σ' H' D I' q
  | ret v => exact q
  | brk => exact q
  | cont => exact q
theorem pss_one (h1 : PS X st t) : PSs X [st] t := by
  intro pins s σ H D I h
  refine wpAny_execs_cons (thn (h1 pins s σ H D I h) fun f s1 q => ?_)
  cases f with
  | next => exact wpAny_execs_nil q
  | ret v => exact q
  | brk => exact q
  | cont => exact q
theorem Inv.quiet {pins : List (Addr × Obj)} {σ : St} {H : Hp} {s : Shared} (I : Inv X pins σ H s) : interactive X.env = false := by simp [interactive, I.ok.kind]
noncomputable def tDrop (te : TE) : TS := fun D σ H => te σ H fun _ H1 => D.nx σ H1
theorem ps_expr (he : PE X e te) (hs : swapsWith e none pos.line X.env = pure false := by rfl) : PS X (.Expr e pos) (tDrop te) := by
  intro pins s σ H D I h
  exact wpAny_Expr_any (thn (he pins s σ H _ I h) fun v s1 ⟨x, H1, I1, r1, q1⟩ => ⟨σ, H1, I1, q1⟩) I.quiet hs
noncomputable def tRet (te : TE) : TS := fun D σ H => te σ H D.rt
theorem ps_ret (he : PE X e te) : PS X (.Return (some e) pos) (tRet te) := by
  intro pins s σ H D I h
  exact wpAny_Return_some (thn (he pins s σ H _ I h) fun v s1 ⟨x, H1, I1, r1, q1⟩ => ⟨x, σ, H1, I1, r1, q1⟩)
noncomputable def tIfS (c : TT) (t u : TS) : TS := fun D σ H => c σ H fun b H1 => if b = true then t D σ H1 else u D σ H1
theorem ps_if {c : Expr} {a b : List Stmt} {tc : TT} (hc : PT X c tc) (ha : PSs X a t) (hb : PSs X b u) : PS X (.If c a b pos) (tIfS tc t u) := by
  intro pins s σ H D I h
  refine wpAny_If (thn (hc pins s σ H _ I h) fun d s1 ⟨H1, I1, q1⟩ => ?_)
  cases d with
  | true => exact ha pins s1 σ H1 D I1 q1
  | false => exact hb pins s1 σ H1 D I1 q1
end
noncomputable abbrev TG := V → St → Hp → (St → Hp → Prop) → Prop
noncomputable abbrev TGs := List V → St → Hp → (St → Hp → Prop) → Prop
noncomputable def PG (X : Cx) (target : Expr) (t : TG) : Prop :=
  ∀ (pins : List (Addr × Obj)) (s : Shared) (σ : St) (H : Hp) (v : V) (u : Value) (Q : St → Hp → Prop), Inv X pins σ H s → RelV v u → t v σ H Q →
    wpAny (model X.prog X.w) X.A (assign target X.env u) (fun _ s' => ∃ σ' H', Inv X pins σ' H' s' ∧ Q σ' H') X.xe s
noncomputable def PGs (X : Cx) (ts : List Expr) (t : TGs) : Prop :=
  ∀ (pins : List (Addr × Obj)) (s : Shared) (σ : St) (H : Hp) (vs : List V) (us : List Value) (Q : St → Hp → Prop), Inv X pins σ H s → Vals vs us → t vs σ H Q →
    wpAny (model X.prog X.w) X.A (assignInOrder ((assignEach ts X.env).map (·.2)) us) (fun _ s' => ∃ σ' H', Inv X pins σ' H' s' ∧ Q σ' H') X.xe s
section
variable {X : Cx} {pos : Pos}
noncomputable def gName (i : Nat) : TG := fun v σ H Q => Q (σ.set i (some v)) H
theorem pg_name {i : Nat} {x : Str} (hN : X.N.Nodup) (hi : X.N[i]? = some x) (hx : Loc X.env.scope x) (hf : X.fn x = true ∨ X.env.scope.names.lookup x = some .local := by first | exact .inl rfl | exact .inr rfl | assumption) : PG X (.Name x pos) (gName i) := by
  intro pins s σ H v u Q I r h
  exact wpAny_assign_Name (store_ok I hN hi hx r (fun s' I' => ⟨_, H, I', h⟩) hf)
noncomputable def gNil : TGs := fun vs σ H Q => vs = [] ∧ Q σ H
noncomputable def gCons (t : TG) (u : TGs) : TGs := fun vs σ H Q => ∃ v r, vs = v :: r ∧ t v σ H fun σ' H' => u r σ' H' Q
theorem pgs_nil : PGs X [] gNil := by
  intro pins s σ H vs us Q I r h
  obtain ⟨e, h⟩ := h
  subst e
  cases r
  exact assignInOrder_nil ⟨σ, H, I, h⟩
theorem pgs_cons {e : Expr} {es : List Expr} {t : TG} {u : TGs} (h1 : PG X e t) (h2 : PGs X es u)
    (hs : (assignEach (e :: es) X.env).map (·.2) = assign e X.env :: (assignEach es X.env).map (·.2) := by rfl) : PGs X (e :: es) (gCons t u) := by
  intro pins s σ H vs us Q I r h
  obtain ⟨v, vr, e1, h⟩ := h
  subst e1
  cases r with
  | cons r rr =>
    rw [hs]
    refine assignInOrder_cons (thn (h1 pins s σ H _ _ _ I r h) fun _ s1 ⟨σ1, H1, I1, q1⟩ => ?_)
    exact h2 pins s1 σ1 H1 _ _ Q I1 rr q1
noncomputable def gTup (K : PySem.W.Frag) (n : Nat) (t : TGs) : TG := fun v σ H Q => ∃ a xs, v = .ref a ∧ SqT K H a xs ∧ xs.length = n ∧ t xs σ H Q
theorem pg_tup {es : List Expr} {k : Nat} {t : TGs} {n : Nat} (hc : X.calm = true) (h : PGs X es t)
    (hn : (assignEach es X.env).length = n := by rfl) (hst : (assignEach es X.env).findIdx? (·.1) = none := by rfl) : PG X (.Tuple es k pos) (gTup X.K n t) := by
  intro pins s σ H v u Q I r hw
  obtain ⟨a, xs, e1, hq, hl, hw⟩ := hw
  subst e1
  cases r
  obtain ⟨its, rv, ht, hz⟩ := I.tuple hq
  refine assign_Tuple_tuple (I.ok.hd hc) ht (by simp [hn, ← hl, rv.length]) hst fun h' hx => ?_
  have I1 : Inv X pins σ H { s with heap := h' } := I.kept (t' := s.toks) fun b o e => hx b o (Nat.ne_of_lt (Heap.lt_size e)) e
  exact h pins _ σ H xs _ Q I1 (by simpa using rv) hw
noncomputable def tAsg (te : TE) (g : TG) : TS := fun D σ H => te σ H fun x H1 => g x σ H1 D.nx
theorem ps_asg {tg e : Expr} {te : TE} {g : TG} (he : PE X e te) (hg : PG X tg g) (hs : swapsWithSole [tg] e pos.line X.env = pure false := by rfl) (hw : swappedStores [tg] e X.env = pure none := by rfl)
    (h1 : (assignEach [tg] X.env).map (·.2) = [assign tg X.env] := by rfl) : PS X (.Assign [tg] e pos) (tAsg te g) := by
  intro pins s σ H D I h
  refine wpAny_Assign_stores (thn (he pins s σ H _ I h) fun v s1 ⟨x, H1, I1, r1, q1⟩ => ?_) hs hw
  rw [h1]
  exact thn (hg pins s1 σ H1 x v _ I1 r1 q1) fun _ s2 q => q
theorem ps_set {i : Nat} {x : Str} {e : Expr} {te : TE} {pos' : Pos} (hN : X.N.Nodup) (hi : X.N[i]? = some x) (hx : Loc X.env.scope x) (he : PE X e te) (hs : swapsWith e (some (.Name x pos')) pos.line X.env = pure false := by rfl) (hf : X.fn x = true ∨ X.env.scope.names.lookup x = some .local := by first | exact .inl rfl | exact .inr rfl | assumption) :
    PS X (.Assign [.Name x pos'] e pos) (tAsg te (gName i)) := by
  intro pins s σ H D I h
  refine wpAny_Assign_Name (thn (he pins s σ H _ I h) fun v s1 ⟨y, H1, I1, r1, q1⟩ => ?_) hs
  exact store_ok I1 hN hi hx r1 (fun s2 I2 => ⟨_, H1, I2, q1⟩) hf
end
section
variable {X : Cx} {pos : Pos}
end
structure It where
  go : Nat → Hp → Prop
  yld : Nat → Hp → V → Hp → Prop
  stop : Nat → Hp → Prop
noncomputable def FpOk (X : Cx) (pins : List (Addr × Obj)) (H : Hp) (b : Addr) : Prop :=
  H b = none ∧ b ≠ X.env.locals ∧ b ∉ X.fs ∧ (b ∈ X.ex ∨ X.s₀.heap.objs.size ≤ b) ∧ (∀ x c, X.env.cells.lookup x = some c → c ≠ b) ∧ ∀ p ∈ X.pn ++ pins, p.1 ≠ b
theorem Inv.fpOk {X : Cx} {pins : List (Addr × Obj)} {σ : St} {H H' : Hp} {s : Shared} {b : Addr} (I : Inv X pins σ H s) (hb : s.heap.objs.size ≤ b) (hn : H' b = none) : FpOk X pins H' b := by
  refine ⟨hn, Nat.ne_of_gt (Nat.lt_of_lt_of_le I.lt hb), I.nofs hb, .inr (Nat.le_trans I.sz hb), fun x c e z => ?_, fun p hp z => ?_⟩
  · obtain ⟨v, q⟩ := I.cell x c e
    exact absurd (Nat.lt_of_lt_of_le q.lt (by rw [z]; exact hb)) (Nat.lt_irrefl _)
  · exact absurd (Nat.lt_of_lt_of_le (Heap.lt_size (I.pin p hp).1) (by rw [z]; exact hb)) (Nat.lt_irrefl _)
structure Turn (P : Program) (w : World) (K : PySem.W.Frag) (tg : Expr) (J : It) (fp : List Addr) (it : Addr) (tn : Nat → Heap → Prop) : Prop where
  mem : it ∈ fp
  obj : ∀ i h, tn i h → ∀ b ∈ fp, ∃ o, h.get? b = some o ∧ ∀ v, o.data ≠ .cell v
  keep : ∀ i h h', tn i h → (∀ b ∈ fp, ∀ o, h.get? b = some o → h'.get? b = some o) → tn i h'
  item : ∀ (X : Cx), X.prog = P → X.w = w → X.K = K → X.calm = true → ∀ (i : Nat) (pins : List (Addr × Obj)) (s : Shared) (σ : St) (H : Hp) (E : Value → Shared → Prop), Inv X pins σ H s → (∀ b ∈ fp, FpOk X pins H b) → tn i s.heap → J.go i H →
    wpAny (model P w) X.A (pyNext (.ref it)) (fun r s1 => ∃ u, r = some u ∧
      wpAny (model P w) X.A (letOwnedTupleGo tg (.ref it) u) (fun _ s2 => ∃ x H', Inv X pins σ H' s2 ∧ RelV x u ∧ J.yld i H x H' ∧ tn (i + 1) s2.heap ∧ ∀ b ∈ fp, H' b = none) E s1) E s
  done : ∀ (X : Cx), X.prog = P → X.w = w → X.K = K → X.calm = true → ∀ (i : Nat) (pins : List (Addr × Obj)) (s : Shared) (σ : St) (H : Hp) (E : Value → Shared → Prop), Inv X pins σ H s → (∀ b ∈ fp, FpOk X pins H b) → tn i s.heap → J.stop i H →
    wpAny (model P w) X.A (pyNext (.ref it)) (fun r s1 => r = none ∧ Inv X pins σ H s1) E s
  self : ∀ (A : Around) (i : Nat) (s : Shared) (Q : Value → Shared → Prop) (E : Value → Shared → Prop), tn i s.heap → Q (.ref it) s → wpAny (model P w) A (pyIter (.ref it)) Q E s
noncomputable abbrev TI := St → Hp → (It → Hp → Prop) → Prop
noncomputable def PIE (X : Cx) (pins : List (Addr × Obj)) (σ : St) (tg : Expr) (R : It → Hp → Prop) (itv : Value) (s2 : Shared) : Prop :=
  ∃ (it : Addr) (fp : List Addr) (tn : Nat → Heap → Prop) (J : It) (H' : Hp), itv = .ref it ∧ Inv X pins σ H' s2 ∧ Turn X.prog X.w X.K tg J fp it tn ∧ tn 0 s2.heap ∧ (∀ b ∈ fp, FpOk X pins H' b) ∧ R J H'
noncomputable def PI (X : Cx) (tg iter : Expr) (wi : TI) : Prop :=
  ∀ (pins : List (Addr × Obj)) (s : Shared) (σ : St) (H : Hp) (R : It → Hp → Prop), Inv X pins σ H s → wi σ H R →
    wpAny (model X.prog X.w) X.A (eval iter X.env) (fun v s1 => wpAny (model X.prog X.w) X.A (pyIter v) (PIE X pins σ tg R) X.xe s1) X.xe s
theorem go_of {M : Model} {A : Around} {E : Value → Shared → Prop} {s : Shared} {tg : Expr} {it : Addr} {u : Value} {o : Obj} {n : String} {vs : Array Value} {Q : Unit → Shared → Prop} (ho : s.heap.get? it = some o) (hc : o.cls = .type n) (hd : o.data = .fields vs)
    (hn : ["enumerate", "zip", "dict_itemiterator", "dict_reverseitemiterator", "odict_iterator", "itertools.zip_longest", "itertools.pairwise"].contains n = false) (hQ : Q () s) : wpAny M A (letOwnedTupleGo tg (.ref it) u) Q E s := by
  unfold letOwnedTupleGo
  cases tg <;> first
    | exact wpAny_pure hQ
    | (cases u <;> first
        | exact wpAny_pure hQ
        | (refine wpAny_bind (wpAny_load ho ?_)
           rw [hc, hd]
           show wpAny M A (if (["enumerate", "zip", "dict_itemiterator", "dict_reverseitemiterator", "odict_iterator", "itertools.zip_longest", "itertools.pairwise"].contains n && vs[0]? == some (rawInt _)) = true then _ else _) Q E s
           rw [if_neg (by intro h; rw [hn, Bool.false_and] at h; cases h)]
           exact wpAny_pure hQ))
noncomputable def Itl (K : PySem.W.Frag) (a : Addr) : It :=
  ⟨fun i H => ∃ xs x, SqL K H a xs ∧ xs[i]? = some x, fun i H x H' => H' = H ∧ ∀ xs, SqL K H a xs → xs[i]? = some x, fun i H => ∃ xs, SqL K H a xs ∧ xs.length ≤ i⟩
noncomputable def Itt (K : PySem.W.Frag) (a : Addr) : It :=
  ⟨fun i H => ∃ xs x, SqT K H a xs ∧ xs[i]? = some x, fun i H x H' => H' = H ∧ ∀ xs, SqT K H a xs → xs[i]? = some x, fun i H => ∃ xs, SqT K H a xs ∧ xs.length ≤ i⟩
noncomputable def Itr (lo : Int) (n : Nat) : It := ⟨fun i _ => i < n, fun i H x H' => H' = H ∧ x = .int (lo + i), fun i _ => n ≤ i⟩
theorem turn_list {P : Program} {w : World} {K : PySem.W.Frag} {tg : Expr} (a it : Addr) : Turn P w K tg (Itl K a) [it] it (fun i h => h.IsListIter it a i) where
  mem := by simp
  obj := fun i h st b hb => by
    have e : b = it := by simpa using hb
    subst e
    obtain ⟨o, e, c, d⟩ := st
    exact ⟨o, e, fun v z => by rw [d] at z; cases z⟩
  keep := fun i h h' st k => st.at fun o e => k it (by simp) o e
  item := by
    intro X hP hw hK hc i pins s σ H E I hf st hg
    subst hP hw hK
    obtain ⟨xs, x, hq, hx⟩ := hg
    obtain ⟨its, rv, p, hz⟩ := I.list hq
    obtain ⟨u, hu, ru⟩ := rv.get hx
    obtain ⟨f0, f1, f2, f3, f4, f5⟩ := hf it (by simp)
    refine wpAny_pyNext_list_item st p.isList (x := u) (by simpa using hu) fun h' st' sb => ?_
    have I1 : Inv X pins σ H { s with heap := h' } := I.turned (t' := s.toks) (fun b o hb e => (sb.2 b hb).trans e) f0 f1 f3 f4 f5
    obtain ⟨o, e, c, d⟩ := id st'
    exact ⟨u, rfl, go_of (s := { s with heap := h' }) e c d (by decide) ⟨x, H, I1, ru, ⟨rfl, fun ys hy => by rw [I.list_inj hy hq]; exact hx⟩, st', fun b hb => (hf b hb).1⟩⟩
  done := by
    intro X hP hw hK hc i pins s σ H E I hf st hg
    subst hP hw hK
    obtain ⟨xs, hq, hx⟩ := hg
    obtain ⟨its, rv, p, hz⟩ := I.list hq
    obtain ⟨f0, f1, f2, f3, f4, f5⟩ := hf it (by simp)
    have hl := rv.length
    exact wpAny_pyNext_list_end (I.ok.hd hc) st p.isList (by simp; omega) fun h' eb => ⟨rfl, I.turned (t' := s.toks) (fun b o hb e => eb b o hb e) f0 f1 f3 f4 f5⟩
  self := fun _ _ _ _ _ st h => wpAny_pyIter_listiter st h
theorem turn_tuple {P : Program} {w : World} {K : PySem.W.Frag} {tg : Expr} (a it : Addr) : Turn P w K tg (Itt K a) [it] it (fun i h => h.IsTupleIter it a i) where
  mem := by simp
  obj := fun i h st b hb => by
    have e : b = it := by simpa using hb
    subst e
    obtain ⟨o, e, c, d⟩ := st
    exact ⟨o, e, fun v z => by rw [d] at z; cases z⟩
  keep := fun i h h' st k => st.at fun o e => k it (by simp) o e
  item := by
    intro X hP hw hK hc i pins s σ H E I hf st hg
    subst hP hw hK
    obtain ⟨xs, x, hq, hx⟩ := hg
    obtain ⟨its, rv, p, hz⟩ := I.tuple hq
    obtain ⟨u, hu, ru⟩ := rv.get hx
    obtain ⟨f0, f1, f2, f3, f4, f5⟩ := hf it (by simp)
    refine wpAny_pyNext_tuple_item st (show s.heap.IsTuple a its.toArray from p) (x := u) (by simpa using hu) fun h' st' sb => ?_
    have I1 : Inv X pins σ H { s with heap := h' } := I.turned (t' := s.toks) (fun b o hb e => (sb.2 b hb).trans e) f0 f1 f3 f4 f5
    obtain ⟨o, e, c, d⟩ := id st'
    exact ⟨u, rfl, go_of (s := { s with heap := h' }) e c d (by decide) ⟨x, H, I1, ru, ⟨rfl, fun ys hy => by rw [I.tuple_inj hy hq]; exact hx⟩, st', fun b hb => (hf b hb).1⟩⟩
  done := by
    intro X hP hw hK hc i pins s σ H E I hf st hg
    subst hP hw hK
    obtain ⟨xs, hq, hx⟩ := hg
    obtain ⟨its, rv, p, hz⟩ := I.tuple hq
    obtain ⟨f0, f1, f2, f3, f4, f5⟩ := hf it (by simp)
    have hl := rv.length
    exact wpAny_pyNext_tuple_end (I.ok.hd hc) st (show s.heap.IsTuple a its.toArray from p) (by simp; omega) fun h' eb => ⟨rfl, I.turned (t' := s.toks) (fun b o hb e => eb b o hb e) f0 f1 f3 f4 f5⟩
  self := fun _ _ _ _ _ st h => wpAny_pyIter_tupleiter st h
theorem turn_range {P : Program} {w : World} {K : PySem.W.Frag} {tg : Expr} (it : Addr) (lo : Int) (n : Nat) : Turn P w K tg (Itr lo n) [it] it (fun i h => IsRangeIter h it (lo + (i : Nat) * 1) ((n : Int) - (i : Nat)) 1) where
  mem := by simp
  obj := fun i h st b hb => by
    have e : b = it := by simpa using hb
    subst e
    exact ⟨_, st, fun v z => by
      have z' : Data.fields _ = Data.cell v := z
      cases z'⟩
  keep := fun i h h' st k => k it (by simp) _ st
  item := by
    intro X hP hw hK hc i pins s σ H E I hf st hg
    subst hP hw hK
    obtain ⟨f0, f1, f2, f3, f4, f5⟩ := hf it (by simp)
    have W := Walks.range (prog := X.prog) (w := X.w) (I.ok.hd hc) it lo 1 n
    refine W.item i s _ _ hg st fun v h' tk hv st' kk => ?_
    obtain ⟨t, rfl⟩ := hv
    have I1 : Inv X pins σ H { s with heap := h', toks := tk } := I.turned (fun b o hb e => kk b o (by simpa using hb) e) f0 f1 f3 f4 f5
    refine ⟨_, rfl, go_of (s := { s with heap := h', toks := tk }) (n := "range_iterator") st' rfl rfl (by decide) ⟨.int (lo + i), H, I1, ⟨t, ?_⟩, ⟨rfl, rfl⟩, st', fun b hb => (hf b hb).1⟩⟩
    rw [Int.mul_one]
  done := by
    intro X hP hw hK hc i pins s σ H E I hf st hg
    subst hP hw hK
    obtain ⟨f0, f1, f2, f3, f4, f5⟩ := hf it (by simp)
    exact wpAny_pyNext_range_end (I.ok.hd hc) st (by have : n ≤ i := hg; omega) fun h' eb => ⟨rfl, I.turned (t' := s.toks) (fun b o hb e => eb b o hb e) f0 f1 f3 f4 f5⟩
  self := fun _ _ _ _ _ st h => wpAny_pyIter_rangeiter st h
end L2
namespace L2
open PySem PySem.Spec PyProof.Rows
section
variable {X : Cx} {tg : Expr}
noncomputable def iList (K : PySem.W.Frag) (tl : TE) : TI := fun σ H R => tl σ H fun x H1 => ∃ a, x = .ref a ∧ (∃ xs, SqL K H1 a xs) ∧ R (Itl K a) H1
noncomputable def iTup (K : PySem.W.Frag) (tl : TE) : TI := fun σ H R => tl σ H fun x H1 => ∃ a, x = .ref a ∧ (∃ xs, SqT K H1 a xs) ∧ R (Itt K a) H1
theorem pi_list {l : Expr} {tl : TE} (hl : PE X l tl) : PI X tg l (iList X.K tl) := by
  intro pins s σ H R I h
  refine thn (hl pins s σ H _ I h) fun v s1 ⟨x, H1, I1, r1, q1⟩ => ?_
  obtain ⟨a, e, ⟨xs, hq⟩, q⟩ := q1
  subst e
  cases r1
  obtain ⟨its, rv, p, hz⟩ := I1.list hq
  refine wpAny_pyIter_list p.isList ?_
  refine ⟨s1.heap.objs.size, [s1.heap.objs.size], _, _, H1, rfl, I1.kept (t' := s1.toks) fun b o e => Heap.get?_push_of_some _ e, turn_list a _, ⟨_, Heap.get?_push_size _ rfl, rfl, rfl⟩, fun b hb => ?_, q⟩
  have e : b = s1.heap.objs.size := by simpa using hb
  subst e
  exact I1.fpOk (Nat.le_refl _) (I1.hok.fresh (Nat.le_refl _))
theorem pi_tup {l : Expr} {tl : TE} (hl : PE X l tl) : PI X tg l (iTup X.K tl) := by
  intro pins s σ H R I h
  refine thn (hl pins s σ H _ I h) fun v s1 ⟨x, H1, I1, r1, q1⟩ => ?_
  obtain ⟨a, e, ⟨xs, hq⟩, q⟩ := q1
  subst e
  cases r1
  obtain ⟨its, rv, p, hz⟩ := I1.tuple hq
  refine wpAny_pyIter_tuple (show s1.heap.IsTuple a its.toArray from p) ?_
  refine ⟨s1.heap.objs.size, [s1.heap.objs.size], _, _, H1, rfl, I1.kept (t' := s1.toks) fun b o e => Heap.get?_push_of_some _ e, turn_tuple a _, ⟨_, Heap.get?_push_size _ rfl, rfl, rfl⟩, fun b hb => ?_, q⟩
  have e : b = s1.heap.objs.size := by simpa using hb
  subst e
  exact I1.fpOk (Nat.le_refl _) (I1.hok.fresh (Nat.le_refl _))
theorem range_it {pins : List (Addr × Obj)} {σ : St} {H : Hp} {s : Shared} {R : It → Hp → Prop} {E : Value → Shared → Prop} {lo hi : Int} {t u v : Tok} {tk : Nat} (I : Inv X pins σ H s) (h1 : -(2 ^ 62) ≤ lo) (h2 : lo < 2 ^ 62) (h3 : -(2 ^ 62) ≤ hi) (h4 : hi < 2 ^ 62)
    (q : R (Itr lo (hi - lo).toNat) H) : wpAny (model X.prog X.w) X.A (pyIter (.ref s.heap.objs.size)) (PIE X pins σ tg R) E { s with heap := s.heap.push { cls := .type "range", data := .fields #[.int lo t, .int hi u, .int 1 v] }, toks := tk } := by
  refine wpAny_pyIter_range (IsRange.new ..) (small_one h1 h2 h3 h4) ?_
  have I1 : Inv X pins σ H { s with heap := s.heap.push { cls := .type "range", data := .fields #[.int lo t, .int hi u, .int 1 v] }, toks := tk } := I.kept fun b o e => Heap.get?_push_of_some _ e
  refine ⟨(s.heap.push { cls := .type "range", data := .fields #[.int lo t, .int hi u, .int 1 v] }).objs.size, [(s.heap.push { cls := .type "range", data := .fields #[.int lo t, .int hi u, .int 1 v] }).objs.size], _, _, H, rfl,
    I1.kept (t' := tk) fun b o e => Heap.get?_push_of_some _ e, turn_range _ lo (hi - lo).toNat, ?_, fun b hb => ?_, q⟩
  · have e1 : lo + ((0 : Nat) : Int) * 1 = lo := by simp
    have e2 : (((hi - lo).toNat : Nat) : Int) - ((0 : Nat) : Int) = Builtin.Range.rangeSize lo hi 1 := by rw [rangeSize_one]; split <;> omega
    show IsRangeIter _ _ (lo + ((0 : Nat) : Int) * 1) ((((hi - lo).toNat : Nat) : Int) - ((0 : Nat) : Int)) 1
    rw [e1, e2]
    exact Heap.get?_push_size _ rfl
  · have e : b = (s.heap.push { cls := .type "range", data := .fields #[.int lo t, .int hi u, .int 1 v] }).objs.size := by simpa using hb
    subst e
    exact I1.fpOk (Nat.le_refl _) (I1.hok.fresh (Nat.le_refl _))
noncomputable def iRng1 (ta : TA) : TI := fun σ H R => ta σ H fun vs H1 => ∃ j : Int, vs = [.int j] ∧ -(2 ^ 62) ≤ j ∧ j < 2 ^ 62 ∧ R (Itr 0 j.toNat) H1
theorem pi_range1 {a : Expr} {ta : TA} {p pos : Pos} (hg : Gl X "range") (hm : X.mg "range" = none) (ha : PA X [a] ta) (hs : starEach [a] X.env = [(false, eval a X.env)] := by rfl) : PI X tg (.Call (.Name "range" p) [a] [] pos) (iRng1 ta) := by
  intro pins s σ H R I h
  refine Call_ (ld_blt I hg hm boot_range (PyProof.Rows.callWith_type1 (thn (ha pos pins s σ H _ I h) fun us s1 ⟨vs, H1, I1, r1, q1⟩ => ?_) hs rfl))
  obtain ⟨j, e, q1, q2, q⟩ := q1
  subst e
  cases r1 with
  | cons r rr =>
    cases rr
    obtain ⟨t, rfl⟩ := r
    exact call_range_1 (range_it I1 (by omega) (by omega) q1 q2 (by simpa using q))
noncomputable def tFor (wi : TI) (g : TG) (tb : TS) : TS := fun D σ H => wi σ H fun J H1 => ∃ W : Nat → Nat → St → Hp → Prop, (∃ m, W 0 m σ H1) ∧ ∀ i m σ H, W i m σ H →
  (J.stop i H ∧ D.nx σ H) ∨ (J.go i H ∧ ∃ N : St → Hp → Prop, (∀ σ' H', N σ' H' → ∃ m', m' < m ∧ W (i + 1) m' σ' H') ∧ ∀ x H', J.yld i H x H' → g x σ H' fun σ2 H2 => tb { D with nx := N, ct := N, bk := D.nx } σ2 H2)
noncomputable def pinsAt (fp : List Addr) (h : Heap) : List (Addr × Obj) := fp.filterMap fun b => (h.get? b).map fun o => (b, o)
theorem mem_pinsAt {fp : List Addr} {h : Heap} {b : Addr} {o : Obj} (hb : b ∈ fp) (e : h.get? b = some o) : (b, o) ∈ pinsAt fp h := List.mem_filterMap.mpr ⟨b, hb, by rw [e]; rfl⟩
theorem of_pinsAt {fp : List Addr} {h : Heap} {p : Addr × Obj} (hp : p ∈ pinsAt fp h) : p.1 ∈ fp ∧ h.get? p.1 = some p.2 := by
  obtain ⟨b, hb, e⟩ := List.mem_filterMap.mp hp
  cases q : h.get? b with
  | none => rw [q] at e; cases e
  | some o =>
    rw [q] at e
    have e' : (b, o) = p := Option.some.inj e
    subst e'
    exact ⟨hb, q⟩
theorem Inv.pinned {pins : List (Addr × Obj)} {σ : St} {H : Hp} {s : Shared} {fp : List Addr} (I : Inv X pins σ H s) (hf : ∀ b ∈ fp, FpOk X pins H b) (ho : ∀ b ∈ fp, ∃ o, s.heap.get? b = some o ∧ ∀ v, o.data ≠ .cell v) : Inv X (pins ++ pinsAt fp s.heap) σ H s :=
  I.pins_of fun p hp => (List.mem_append.mp hp).elim (fun z => I.pin p (List.mem_append_right _ z)) fun z => by
    obtain ⟨hb, e⟩ := of_pinsAt z
    obtain ⟨f0, f1, f2, _⟩ := hf p.1 hb
    obtain ⟨o, e', d⟩ := ho p.1 hb
    rw [e] at e'; cases e'
    exact ⟨e, f0, f1, f2, d⟩
theorem Inv.unpinned {pins pl : List (Addr × Obj)} {σ : St} {H : Hp} {s : Shared} (I : Inv X (pins ++ pl) σ H s) : Inv X pins σ H s := I.pins_of fun p hp => I.pin p (List.mem_append_right _ (List.mem_append_left _ hp))
theorem ps_for {iter : Expr} {body : List Stmt} {wi : TI} {g : TG} {tb : TS} {pos : Pos} (hp : PassesOwn (model X.prog X.w) X.A X.env X.xe) (hc : X.calm = true) (hi : PI X tg iter wi) (hg : PG X tg g) (hb : PSs X body tb)
    (hs : ∀ x, foldedSetIterable iter X.env x = pure x := by intro _; rfl) : PS X (.For tg iter body [] pos) (tFor wi g tb) := by
  intro pins s σ H D I h
  refine wpAny_For (thn (hi pins s σ H _ I h) fun v s1 h1 => thn h1 fun itv s2 h2 => ?_) hs
  obtain ⟨it, fp, tn, J, H2, e, I2, T, st2, f2, W, ⟨m0, w0⟩, turn⟩ := h2
  subst e
  -- what stays true of the iterator's objects through the loop
  have stat : ∀ {H' : Hp}, (∀ b ∈ fp, H' b = none) → ∀ b ∈ fp, FpOk X pins H' b := fun hn b hb => ⟨hn b hb, (f2 b hb).2⟩
  refine codeAny_forLoop_any (fun n s' => ∃ i σ' H', Inv X pins σ' H' s' ∧ tn i s'.heap ∧ (∀ b ∈ fp, H' b = none) ∧ W i n σ' H') ?_ m0 ⟨0, σ, H2, I2, st2, fun b hb => (f2 b hb).1, w0⟩
  rintro n s3 ⟨i, σ3, H3, I3, st3, fr3, w3⟩
  rcases turn i n σ3 H3 w3 with ⟨stop, qn⟩ | ⟨go, N, hN, step⟩
  · refine wpAny_passesOwn hp (thn (T.done X rfl rfl rfl hc i pins s3 σ3 H3 X.xe I3 (stat fr3) st3 stop) fun r s4 ⟨hr, I4⟩ => ?_)
    subst hr
    exact wpAny_execs_nil ⟨σ3, H3, I4, qn⟩
  · refine wpAny_passesOwn hp (thn (T.item X rfl rfl rfl hc i pins s3 σ3 H3 X.xe I3 (stat fr3) st3 go) fun r s4 ⟨u, hr, h4⟩ => ?_)
    subst hr
    refine wpAny_passesOwn hp (thn h4 fun _ s5 ⟨x, H5, I5, r5, y5, st5, fr5⟩ => ?_)
    have I5' := I5.pinned (stat fr5) (T.obj _ _ st5)
    refine wpAny_passesOwn hp (thn (hg _ s5 σ3 H5 x u _ I5' r5 (step x H5 y5)) fun _ s6 ⟨σ6, H6, I6, q6⟩ => ?_)
    refine wpAny_passesOwn hp (thn (hb _ s6 σ6 H6 _ I6 q6) fun f s7 q7 => ?_)
    have again : ∀ {σ7 : St} {H7 : Hp}, Inv X (pins ++ pinsAt fp s5.heap) σ7 H7 s7 → N σ7 H7 → ∃ m, m < n ∧ ∃ i σ' H', Inv X pins σ' H' s7 ∧ tn i s7.heap ∧ (∀ b ∈ fp, H' b = none) ∧ W i m σ' H' := fun {σ7 H7} I7 n7 => by
      obtain ⟨m', hm, w7⟩ := hN σ7 H7 n7
      refine ⟨m', hm, i + 1, σ7, H7, I7.unpinned, T.keep _ _ _ st5 fun b hb o e => (I7.pin (b, o) (List.mem_append_right _ (List.mem_append_right _ (mem_pinsAt hb e)))).1, fun b hb => ?_, w7⟩
      obtain ⟨o, e, d⟩ := T.obj _ _ st5 b hb
      exact (I7.pin (b, o) (List.mem_append_right _ (List.mem_append_right _ (mem_pinsAt hb e)))).2.1
    cases f with
    | next => obtain ⟨σ7, H7, I7, n7⟩ := q7; exact again I7 n7
    | cont => obtain ⟨σ7, H7, I7, n7⟩ := q7; exact again I7 n7
    | brk => obtain ⟨σ7, H7, I7, q7⟩ := q7; exact ⟨σ7, H7, I7.unpinned, q7⟩
    | ret v => obtain ⟨x7, σ7, H7, I7, r7, q7⟩ := q7; exact ⟨x7, σ7, H7, I7.unpinned, r7, q7⟩
end
theorem for_list {K : PySem.W.Frag} {a : Addr} {xs : List V} {g : TG} {tb : TS} {D : Ends} {σ : St} {H : Hp} (Pv : Nat → St → Hp → Prop) (h0 : Pv 0 σ H) (hl : ∀ i σ H, i ≤ xs.length → Pv i σ H → SqL K H a xs)
    (hs : ∀ i x σ H, xs[i]? = some x → Pv i σ H → g x σ H fun σ2 H2 => tb { D with nx := Pv (i + 1), ct := Pv (i + 1), bk := D.nx } σ2 H2) (hd : ∀ σ H, Pv xs.length σ H → D.nx σ H) :
    ∃ W : Nat → Nat → St → Hp → Prop, (∃ m, W 0 m σ H) ∧ ∀ i m σ H, W i m σ H →
      ((Itl K a).stop i H ∧ D.nx σ H) ∨ ((Itl K a).go i H ∧ ∃ N : St → Hp → Prop, (∀ σ' H', N σ' H' → ∃ m', m' < m ∧ W (i + 1) m' σ' H') ∧ ∀ x H', (Itl K a).yld i H x H' → g x σ H' fun σ2 H2 => tb { D with nx := N, ct := N, bk := D.nx } σ2 H2) := by
  refine ⟨fun i m σ H => m = xs.length - i ∧ i ≤ xs.length ∧ Pv i σ H, ⟨xs.length, by simp, Nat.zero_le _, h0⟩, ?_⟩
  rintro i m σ H ⟨rfl, hi, p⟩
  have q := hl i σ H hi p
  by_cases hlt : i < xs.length
  · refine .inr ⟨⟨xs, xs[i], q, by simp [hlt]⟩, Pv (i + 1), fun σ' H' p' => ⟨xs.length - (i + 1), by omega, rfl, hlt, p'⟩, fun x H' y => ?_⟩
    obtain ⟨e, y⟩ := y
    subst e
    exact hs i x σ _ (y xs q) p
  · have e : i = xs.length := by omega
    subst e
    exact .inl ⟨⟨xs, q, Nat.le_refl _⟩, hd σ H p⟩
theorem for_tup {K : PySem.W.Frag} {a : Addr} {xs : List V} {g : TG} {tb : TS} {D : Ends} {σ : St} {H : Hp} (Pv : Nat → St → Hp → Prop) (h0 : Pv 0 σ H) (hl : ∀ i σ H, i ≤ xs.length → Pv i σ H → SqT K H a xs)
    (hs : ∀ i x σ H, xs[i]? = some x → Pv i σ H → g x σ H fun σ2 H2 => tb { D with nx := Pv (i + 1), ct := Pv (i + 1), bk := D.nx } σ2 H2) (hd : ∀ σ H, Pv xs.length σ H → D.nx σ H) :
    ∃ W : Nat → Nat → St → Hp → Prop, (∃ m, W 0 m σ H) ∧ ∀ i m σ H, W i m σ H →
      ((Itt K a).stop i H ∧ D.nx σ H) ∨ ((Itt K a).go i H ∧ ∃ N : St → Hp → Prop, (∀ σ' H', N σ' H' → ∃ m', m' < m ∧ W (i + 1) m' σ' H') ∧ ∀ x H', (Itt K a).yld i H x H' → g x σ H' fun σ2 H2 => tb { D with nx := N, ct := N, bk := D.nx } σ2 H2) := by
  refine ⟨fun i m σ H => m = xs.length - i ∧ i ≤ xs.length ∧ Pv i σ H, ⟨xs.length, by simp, Nat.zero_le _, h0⟩, ?_⟩
  rintro i m σ H ⟨rfl, hi, p⟩
  have q := hl i σ H hi p
  by_cases hlt : i < xs.length
  · refine .inr ⟨⟨xs, xs[i], q, by simp [hlt]⟩, Pv (i + 1), fun σ' H' p' => ⟨xs.length - (i + 1), by omega, rfl, hlt, p'⟩, fun x H' y => ?_⟩
    obtain ⟨e, y⟩ := y
    subst e
    exact hs i x σ _ (y xs q) p
  · have e : i = xs.length := by omega
    subst e
    exact .inl ⟨⟨xs, q, Nat.le_refl _⟩, hd σ H p⟩
theorem for_range {lo : Int} {n : Nat} {g : TG} {tb : TS} {D : Ends} {σ : St} {H : Hp} (Pv : Nat → St → Hp → Prop) (h0 : Pv 0 σ H)
    (hs : ∀ i σ H, i < n → Pv i σ H → g (.int (lo + i)) σ H fun σ2 H2 => tb { D with nx := Pv (i + 1), ct := Pv (i + 1), bk := D.nx } σ2 H2) (hd : ∀ σ H, Pv n σ H → D.nx σ H) :
    ∃ W : Nat → Nat → St → Hp → Prop, (∃ m, W 0 m σ H) ∧ ∀ i m σ H, W i m σ H →
      ((Itr lo n).stop i H ∧ D.nx σ H) ∨ ((Itr lo n).go i H ∧ ∃ N : St → Hp → Prop, (∀ σ' H', N σ' H' → ∃ m', m' < m ∧ W (i + 1) m' σ' H') ∧ ∀ x H', (Itr lo n).yld i H x H' → g x σ H' fun σ2 H2 => tb { D with nx := N, ct := N, bk := D.nx } σ2 H2) := by
  refine ⟨fun i m σ H => m = n - i ∧ i ≤ n ∧ Pv i σ H, ⟨n, by simp, Nat.zero_le _, h0⟩, ?_⟩
  rintro i m σ H ⟨rfl, hi, p⟩
  by_cases hlt : i < n
  · refine .inr ⟨hlt, Pv (i + 1), fun σ' H' p' => ⟨n - (i + 1), by omega, rfl, hlt, p'⟩, fun x H' y => ?_⟩
    obtain ⟨e, y⟩ := y
    subst e y
    exact hs i σ _ hlt p
  · have e : i = n := by omega
    subst e
    exact .inl ⟨Nat.le_refl _, hd σ H p⟩
end L2
namespace L2
open PySem PySem.Spec PyProof.Rows
noncomputable abbrev R2 := V → V → Hp → VK → Prop
noncomputable def OpR (X : Cx) (f : Value → Value → Sem Value) (r : R2) : Prop :=
  ∀ (pins : List (Addr × Obj)) (s : Shared) (σ : St) (H : Hp) (x y : V) (v u : Value) (Q : VK), Inv X pins σ H s → RelV x v → RelV y u → r x y H Q →
    wpAny (model X.prog X.w) X.A (f v u) (EP X pins σ Q) X.xe s
noncomputable def UnR (X : Cx) (f : Value → Sem Value) (r : V → Hp → VK → Prop) : Prop :=
  ∀ (pins : List (Addr × Obj)) (s : Shared) (σ : St) (H : Hp) (x : V) (v : Value) (Q : VK), Inv X pins σ H s → RelV x v → r x H Q →
    wpAny (model X.prog X.w) X.A (f v) (EP X pins σ Q) X.xe s
noncomputable def CallR (X : Cx) (f : Value) (r : List V → Hp → VK → Prop) : Prop :=
  ∀ (pins : List (Addr × Obj)) (s : Shared) (σ : St) (H : Hp) (xs : List V) (us : List Value) (Q : VK), Inv X pins σ H s → Vals xs us → r xs H Q →
    wpAny (model X.prog X.w) X.A (call f us) (EP X pins σ Q) X.xe s
noncomputable def TruR (X : Cx) (r : V → Hp → (Bool → Hp → Prop) → Prop) : Prop :=
  ∀ (pins : List (Addr × Obj)) (s : Shared) (σ : St) (H : Hp) (x : V) (v : Value) (Q : Bool → Hp → Prop), Inv X pins σ H s → RelV x v → r x H Q →
    wpAny (model X.prog X.w) X.A (truthy v) (TP X pins σ Q) X.xe s
noncomputable def tOp (r : R2) (ta tb : TE) : TE := fun σ H Q => ta σ H fun x H1 => tb σ H1 fun y H2 => r x y H2 Q
noncomputable def tUn (r : V → Hp → VK → Prop) (ta : TE) : TE := fun σ H Q => ta σ H fun x H1 => r x H1 Q
noncomputable def rI (C : Int → Int → Prop) (g : Int → Int → V) : R2 := fun x y H Q => ∃ i j, x = .int i ∧ y = .int j ∧ C i j ∧ Q (g i j) H
noncomputable def rI0 (g : Int → Int → V) : R2 := fun x y H Q => ∃ i j, x = .int i ∧ y = .int j ∧ Q (g i j) H
noncomputable def rU (g : Int → V) : V → Hp → VK → Prop := fun x H Q => ∃ i, x = .int i ∧ Q (g i) H
section
variable {X : Cx} {a b c : Expr} {ta tb tc : TE} {pos : Pos}
theorem binT (ha : PE X a ta) (hb : PE X b tb) {pins : List (Addr × Obj)} {s : Shared} {σ : St} {H : Hp} {R : V → V → Hp → Prop} (I : Inv X pins σ H s)
    (h : ta σ H fun x H1 => tb σ H1 fun y H2 => R x y H2) {Q : Value → Shared → Prop} {f : Value → Value → Sem Value}
    (hf : ∀ v u s2 x y H2, Inv X pins σ H2 s2 → RelV x v → RelV y u → R x y H2 → wpAny (model X.prog X.w) X.A (f v u) Q X.xe s2) :
    wpAny (model X.prog X.w) X.A (eval a X.env) (fun v s₁ => wpAny (model X.prog X.w) X.A (eval b X.env) (fun u s₂ => wpAny (model X.prog X.w) X.A (f v u) Q X.xe s₂) X.xe s₁) X.xe s := by
  refine thn (ha pins s σ H _ I h) fun v s1 ⟨x, H1, I1, r1, q1⟩ => ?_
  refine thn (hb pins s1 σ H1 _ I1 q1) fun u s2 ⟨y, H2, I2, r2, q2⟩ => ?_
  exact hf v u s2 x y H2 I2 r1 r2 q2
theorem pe_op {op : Operator} {r : R2} (ho : OpR X (binaryOp op) r) (ha : PE X a ta) (hb : PE X b tb) : PE X (.BinOp a op b pos) (tOp r ta tb) := by
  intro pins s σ H Q I h
  exact wpAny_BinOp (binT ha hb I h fun v u s2 x y H2 I2 rx ry q => ho pins s2 σ H2 x y v u Q I2 rx ry q)
theorem pe_un {op : UnaryOp} {r : V → Hp → VK → Prop} (ho : UnR X (unaryOp op) r) (ha : PE X a ta) : PE X (.UnaryOp op a pos) (tUn r ta) := by
  intro pins s σ H Q I h
  exact UnaryOp_ (thn (ha pins s σ H _ I h) fun v s1 ⟨x, H1, I1, r1, q1⟩ => ho pins s1 σ H1 x v Q I1 r1 q1)
theorem opI {f : Value → Value → Sem Value} {C : Int → Int → Prop} {g : Int → Int → Int}
    (rule : ∀ (i j : Int) (t u : Tok) (s : Shared) (Q : Value → Shared → Prop) (E : Value → Shared → Prop), C i j → Q (.int (g i j) s.toks) { s with toks := s.toks + 1 } → wpAny (model X.prog X.w) X.A (f (.int i t) (.int j u)) Q E s) :
    OpR X f (rI C fun i j => .int (g i j)) := by
  intro pins s σ H x y v u Q I rx ry h
  obtain ⟨i, j, rfl, rfl, hc, q⟩ := h
  obtain ⟨t, rfl⟩ := rx
  obtain ⟨t', rfl⟩ := ry
  exact rule i j t t' s _ _ hc ⟨.int (g i j), H, I.tok _, ⟨_, rfl⟩, q⟩
theorem opI0 {f : Value → Value → Sem Value} {g : Int → Int → Int}
    (rule : ∀ (i j : Int) (t u : Tok) (s : Shared) (Q : Value → Shared → Prop) (E : Value → Shared → Prop), Q (.int (g i j) s.toks) { s with toks := s.toks + 1 } → wpAny (model X.prog X.w) X.A (f (.int i t) (.int j u)) Q E s) :
    OpR X f (rI0 fun i j => .int (g i j)) := by
  intro pins s σ H x y v u Q I rx ry h
  obtain ⟨i, j, rfl, rfl, q⟩ := h
  obtain ⟨t, rfl⟩ := rx
  obtain ⟨t', rfl⟩ := ry
  exact rule i j t t' s _ _ ⟨.int (g i j), H, I.tok _, ⟨_, rfl⟩, q⟩
theorem opB0 {f : Value → Value → Sem Value} {g : Int → Int → Bool}
    (rule : ∀ (i j : Int) (t u : Tok) (s : Shared) (Q : Value → Shared → Prop) (E : Value → Shared → Prop), Q (.bool (g i j)) s → wpAny (model X.prog X.w) X.A (f (.int i t) (.int j u)) Q E s) :
    OpR X f (rI0 fun i j => .bl (g i j)) := by
  intro pins s σ H x y v u Q I rx ry h
  obtain ⟨i, j, rfl, rfl, q⟩ := h
  obtain ⟨t, rfl⟩ := rx
  obtain ⟨t', rfl⟩ := ry
  exact rule i j t t' s _ _ ⟨.bl (g i j), H, I, rfl, q⟩
noncomputable def CDiv (i j : Int) : Prop := 0 < j ∧ j < 1073741824
noncomputable def CMul (i j : Int) : Prop := (-(2 ^ 64) < i ∧ i < 2 ^ 64) ∨ (-(2 ^ 64) < j ∧ j < 2 ^ 64)
theorem CMul.ok {i j : Int} (h : CMul i j) : IntMulOk i j := by
  rcases h with ⟨h1, h2⟩ | ⟨h1, h2⟩
  · exact .of_left (intBits_le_64 h1 h2)
  · exact .of_right (intBits_le_64 h1 h2)
theorem op_add : OpR X (binaryOp .Add) (rI0 fun i j => .int (i + j)) := opI0 fun _ _ _ _ _ _ _ q => add_int q
theorem op_sub : OpR X (binaryOp .Sub) (rI0 fun i j => .int (i - j)) := opI0 fun _ _ _ _ _ _ _ q => sub_int q
theorem op_mul : OpR X (binaryOp .Mult) (rI CMul fun i j => .int (i * j)) := opI fun _ _ _ _ _ _ _ hc q => mul_int q hc.ok
theorem op_fdiv : OpR X (binaryOp .FloorDiv) (rI CDiv fun i j => .int (i / j)) := opI fun i j _ _ _ _ _ hc q => by
  have h1 : (0 : Int) < j := hc.1
  have h2 : j < 1073741824 := hc.2
  exact floordiv_int (by omega) (by rw [Int.fdiv_eq_ediv_of_nonneg i (by omega)]; exact q) (.inl (PyProof.noPylong_small (by omega)))
theorem op_mod : OpR X (binaryOp .Mod) (rI (fun _ j => 0 < j) fun i j => .int (i % j)) := opI fun i j _ _ _ _ _ hc q => by
  have h1 : (0 : Int) < j := hc
  exact mod_int' (by omega) (by rw [Int.fmod_eq_emod_of_nonneg i (by omega)]; exact q)
theorem unI {f : Value → Sem Value} {g : Int → Int}
    (rule : ∀ (i : Int) (t : Tok) (s : Shared) (Q : Value → Shared → Prop) (E : Value → Shared → Prop), Q (.int (g i) s.toks) { s with toks := s.toks + 1 } → wpAny (model X.prog X.w) X.A (f (.int i t)) Q E s) :
    UnR X f (rU fun i => .int (g i)) := by
  intro pins s σ H x v Q I rx h
  obtain ⟨i, rfl, q⟩ := h
  obtain ⟨t, rfl⟩ := rx
  exact rule i t s _ _ ⟨.int (g i), H, I.tok _, ⟨_, rfl⟩, q⟩
theorem un_neg : UnR X (unaryOp .USub) (rU fun i => .int (-i)) := unI fun _ _ _ _ _ q => neg_int q
end
noncomputable def scal : V → V → Bool
  | .non, .non => true | .non, .int _ => true | .int _, .non => true | .non, .bl _ => true | .bl _, .non => true | .non, .str _ => true | .str _, .non => true
  | .int _, .int _ => true | .bl _, .bl _ => true | .str _, .str _ => true | .byt _, .byt _ => true
  | .int _, .str _ => true | .str _, .int _ => true | .bl _, .str _ => true | .str _, .bl _ => true
  | _, _ => false
noncomputable def rEq : R2 := fun x y H Q => scal x y = true ∧ Q (.bl (decide (x = y))) H
noncomputable def rNe : R2 := fun x y H Q => scal x y = true ∧ Q (.bl (!decide (x = y))) H
theorem dec_int {i j : Int} : decide (V.int i = V.int j) = (i == j) := by
  rw [Bool.eq_iff_iff]
  simp
theorem dec_bl {i j : Bool} : decide (V.bl i = V.bl j) = (i == j) := by
  rw [Bool.eq_iff_iff]
  simp
theorem dec_str {i j : Str} : decide (V.str i = V.str j) = (i == j) := by
  rw [Bool.eq_iff_iff]
  simp
theorem dec_byt {i j : Array UInt8} : decide (V.byt i = V.byt j) = (i.toList == j.toList) := by
  rw [Bool.eq_iff_iff]
  cases i
  cases j
  simp
section
variable {X : Cx} {a b c : Expr} {ta tb tc : TE} {pos : Pos}
theorem fin_bl {pins : List (Addr × Obj)} {σ : St} {H : Hp} {s : Shared} {Q : VK} {k k' : Bool} (I : Inv X pins σ H s) (q : Q (.bl k) H) (e : k = k') : EP X pins σ Q (.bool k') s := by
  subst e
  exact ⟨.bl k, H, I, rfl, q⟩
theorem op_eq : OpR X (compareOp .Eq) rEq := by
  intro pins s σ H x y v u Q I rx ry h
  obtain ⟨hs, q⟩ := h
  cases x with
  | non =>
    cases rx
    cases y with
    | non => cases ry; exact PySem.EqNone.eq_none_none (fin_bl I q (by simp))
    | bl j => cases ry; exact PySem.EqNone.eq_none_bool (fin_bl I q (by simp))
    | int j => obtain ⟨t', rfl⟩ := ry; exact PySem.EqNone.eq_none_int (fin_bl I q (by simp))
    | str j => obtain ⟨t', rfl⟩ := ry; exact PySem.EqNone.eq_none_str (fin_bl I q (by simp))
    | _ => exact absurd (show false = true from hs) Bool.false_ne_true
  | bl i =>
    cases rx
    cases y with
    | non => cases ry; exact PySem.EqNone.eq_bool_none (fin_bl I q (by simp))
    | bl j => cases ry; exact eq_bool (fin_bl I q dec_bl)
    | str j => obtain ⟨t', rfl⟩ := ry; exact PySem.EqMixed.eq_bool_str (fin_bl I q (by simp))
    | _ => exact absurd (show false = true from hs) Bool.false_ne_true
  | int i =>
    obtain ⟨t, rfl⟩ := rx
    cases y with
    | non => cases ry; exact PySem.EqNone.eq_int_none (fin_bl I q (by simp))
    | int j => obtain ⟨t', rfl⟩ := ry; exact eq_int (fin_bl I q dec_int)
    | str j => obtain ⟨t', rfl⟩ := ry; exact PySem.EqMixed.eq_int_str (fin_bl I q (by simp))
    | _ => exact absurd (show false = true from hs) Bool.false_ne_true
  | str i =>
    obtain ⟨t, rfl⟩ := rx
    cases y with
    | non => cases ry; exact PySem.EqNone.eq_str_none (fin_bl I q (by simp))
    | bl j => cases ry; exact PySem.EqMixed.eq_str_bool (fin_bl I q (by simp))
    | int j => obtain ⟨t', rfl⟩ := ry; exact PySem.EqMixed.eq_str_int (fin_bl I q (by simp))
    | str j => obtain ⟨t', rfl⟩ := ry; exact eq_str (fin_bl I q dec_str)
    | _ => exact absurd (show false = true from hs) Bool.false_ne_true
  | byt i =>
    obtain ⟨t, rfl⟩ := rx
    cases y with
    | byt j => obtain ⟨t', rfl⟩ := ry; exact PySem.W.eq_bytes (fin_bl I q dec_byt)
    | _ => exact absurd (show false = true from hs) Bool.false_ne_true
  | _ => cases y <;> exact absurd (show false = true from hs) Bool.false_ne_true
theorem op_ne : OpR X (compareOp .NotEq) rNe := by
  intro pins s σ H x y v u Q I rx ry h
  obtain ⟨hs, q⟩ := h
  cases x with
  | non =>
    cases rx
    cases y with
    | non => cases ry; exact PySem.EqNone.ne_none_none (fin_bl I q (by simp))
    | bl j => cases ry; exact PySem.EqNone.ne_none_bool (fin_bl I q (by simp))
    | int j => obtain ⟨t', rfl⟩ := ry; exact PySem.EqNone.ne_none_int (fin_bl I q (by simp))
    | str j => obtain ⟨t', rfl⟩ := ry; exact PySem.EqNone.ne_none_str (fin_bl I q (by simp))
    | _ => exact absurd (show false = true from hs) Bool.false_ne_true
  | bl i =>
    cases rx
    cases y with
    | non => cases ry; exact PySem.EqNone.ne_bool_none (fin_bl I q (by simp))
    | bl j => cases ry; exact ne_bool (fin_bl I q (congrArg not dec_bl))
    | str j => obtain ⟨t', rfl⟩ := ry; exact PySem.EqMixed.ne_bool_str (fin_bl I q (by simp))
    | _ => exact absurd (show false = true from hs) Bool.false_ne_true
  | int i =>
    obtain ⟨t, rfl⟩ := rx
    cases y with
    | non => cases ry; exact PySem.EqNone.ne_int_none (fin_bl I q (by simp))
    | int j => obtain ⟨t', rfl⟩ := ry; exact ne_int (fin_bl I q (congrArg not dec_int))
    | str j => obtain ⟨t', rfl⟩ := ry; exact PySem.EqMixed.ne_int_str (fin_bl I q (by simp))
    | _ => exact absurd (show false = true from hs) Bool.false_ne_true
  | str i =>
    obtain ⟨t, rfl⟩ := rx
    cases y with
    | non => cases ry; exact PySem.EqNone.ne_str_none (fin_bl I q (by simp))
    | bl j => cases ry; exact PySem.EqMixed.ne_str_bool (fin_bl I q (by simp))
    | int j => obtain ⟨t', rfl⟩ := ry; exact PySem.EqMixed.ne_str_int (fin_bl I q (by simp))
    | str j => obtain ⟨t', rfl⟩ := ry; exact ne_str (fin_bl I q (congrArg not dec_str))
    | _ => exact absurd (show false = true from hs) Bool.false_ne_true
  | byt i =>
    obtain ⟨t, rfl⟩ := rx
    cases y with
    | byt j => obtain ⟨t', rfl⟩ := ry; exact PySem.W.ne_bytes (fin_bl I q (congrArg not dec_byt))
    | _ => exact absurd (show false = true from hs) Bool.false_ne_true
  | _ => cases y <;> exact absurd (show false = true from hs) Bool.false_ne_true
theorem op_lt : OpR X (compareOp .Lt) (rI0 fun i j => .bl (decide (i < j))) := opB0 fun _ _ _ _ _ _ _ q => lt_int q
theorem op_gt : OpR X (compareOp .Gt) (rI0 fun i j => .bl (decide (j < i))) := opB0 fun _ _ _ _ _ _ _ q => gt_int q
theorem op_isN : OpR X (compareOp .Is) (fun x y H Q => y = .non ∧ Q (.bl (decide (x = .non))) H) := by
  intro pins s σ H x y v u Q I rx ry h
  obtain ⟨rfl, q⟩ := h
  cases ry
  refine is_none_gen (fin_bl I q ?_)
  cases x <;> first
    | (cases rx; rfl)
    | (obtain ⟨t, rfl⟩ := rx; rfl)
theorem op_notN : OpR X (compareOp .IsNot) (fun x y H Q => y = .non ∧ Q (.bl (!decide (x = .non))) H) := by
  intro pins s σ H x y v u Q I rx ry h
  obtain ⟨rfl, q⟩ := h
  cases ry
  refine isnot_none_gen (fin_bl I q ?_)
  cases x <;> first
    | (cases rx; rfl)
    | (obtain ⟨t, rfl⟩ := rx; rfl)
theorem nomark (b : Expr) {op : CmpOp} (h : op ≠ .In := by decide) (h2 : op ≠ .NotIn := by decide) : behindInMarks op b = false := by
  have e1 : (op == CmpOp.In) = false := by cases op <;> first | rfl | exact absurd rfl h
  have e2 : (op == CmpOp.NotIn) = false := by cases op <;> first | rfl | exact absurd rfl h2
  cases b <;> simp [behindInMarks, e1, e2]
theorem pe_cmpR {op : CmpOp} {r : R2} (ho : OpR X (compareOp op) r) (ha : PE X a ta) (hb : PE X b tb) (hm : behindInMarks op b = false) : PE X (.Compare a [op] [b] pos) (tOp r ta tb) := by
  intro pins s σ H Q I h
  exact wpAny_Compare1 (binT ha hb I h fun v u s2 x y H2 I2 rx ry q => ho pins s2 σ H2 x y v u Q I2 rx ry q) hm
noncomputable def tTest (t : TE) : TT := fun σ H Q => t σ H fun x H' => ∃ k, x = .bl k ∧ Q k H'
theorem pt_cmpR {op : CmpOp} {r : R2} (ho : OpR X (compareOp op) r) (ha : PE X a ta) (hb : PE X b tb) (hm : behindInMarks op b = false) : PT X (.Compare a [op] [b] pos) (tTest (tOp r ta tb)) := by
  intro pins s σ H Q I h
  refine wpAny_isTrue_Compare1 (thn (ha pins s σ H _ I h) fun v s1 ⟨x, H1, I1, r1, q1⟩ => thn (hb pins s1 σ H1 _ I1 q1) fun u s2 ⟨y, H2, I2, r2, q2⟩ =>
    thn (ho pins s2 σ H2 x y v u _ I2 r1 r2 q2) fun c s3 ⟨z, H3, I3, r3, k, e, q3⟩ => ?_) hm
  subst e
  cases r3
  exact wpAny_truthy_bool ⟨H3, I3, q3⟩
noncomputable def TruV (K : PySem.W.Frag) (x : V) (H : Hp) (k : Bool) : Prop :=
  match x with
  | .non => k = false
  | .bl b => k = b
  | .int i => k = (i != 0)
  | .str y => y.length ≤ sizeLine ∧ k = ((y.length : Int) != 0)
  | .byt y => y.size ≤ sizeLine ∧ k = ((y.size : Int) != 0)
  | .ref p => (∃ xs, SqL K H p xs ∧ k = !xs.isEmpty) ∨ (∃ xs, SqT K H p xs ∧ k = !xs.isEmpty) ∨ ∃ kvs, H p = some (.dK kvs) ∧ k = !kvs.isEmpty
  | _ => False
theorem isEmpty_kv {κ : Type} {kvs : List (κ × V)} {vs : List (κ × Value)} (r : KV kvs vs) : (!vs.isEmpty) = !kvs.isEmpty := by
  cases r <;> rfl
theorem isEmpty_of {xs : List V} {its : List Value} (r : Vals xs its) : (!its.toArray.isEmpty) = !xs.isEmpty := by
  cases r <;> simp
theorem line63 : (sizeLine : Nat) < 2 ^ 63 := by rw [sizeLine_eq]; decide
theorem tru_ok : TruR X (fun x H Q => ∃ k, TruV X.K x H k ∧ Q k H) := by
  intro pins s σ H x v Q I rx h
  obtain ⟨k, e, q⟩ := h
  have hl := line63
  have hs : sizeLine = 16777216 := sizeLine_eq
  cases x with
  | non =>
    cases rx
    have e' : k = false := e
    subst e'
    exact truthy_none ⟨H, I, q⟩
  | bl b =>
    cases rx
    have e' : k = b := e
    subst e'
    exact wpAny_truthy_bool ⟨H, I, q⟩
  | int i =>
    obtain ⟨t, rfl⟩ := rx
    have e' : k = (i != 0) := e
    subst e'
    exact PySem.P.truthy_int ⟨H, I, q⟩
  | str y =>
    obtain ⟨t, rfl⟩ := rx
    obtain ⟨hy, e'⟩ : y.length ≤ sizeLine ∧ k = ((y.length : Int) != 0) := e
    subst e'
    exact PySem.P.truthy_str (by omega) ⟨H, I.tok _, q⟩
  | byt y =>
    obtain ⟨t, rfl⟩ := rx
    obtain ⟨hy, e'⟩ : y.size ≤ sizeLine ∧ k = ((y.size : Int) != 0) := e
    subst e'
    exact PySem.W.truthy_bytes (by omega) ⟨H, I.tok _, q⟩
  | ref p =>
    cases rx
    have e' : (∃ xs, SqL X.K H p xs ∧ k = !xs.isEmpty) ∨ (∃ xs, SqT X.K H p xs ∧ k = !xs.isEmpty) ∨ ∃ kvs, H p = some (.dK kvs) ∧ k = !kvs.isEmpty := e
    rcases e' with ⟨xs, hx, e'⟩ | ⟨xs, hx, e'⟩ | ⟨kvs, hx, e'⟩
    · subst e'
      obtain ⟨its, r, pl, hz⟩ := I.list hx
      have hlen := r.length
      exact wpAny_truthy_list pl.isList (by simp only [List.size_toArray]; omega) ⟨H, I.tok _, by rw [isEmpty_of r]; exact q⟩
    · subst e'
      obtain ⟨its, r, pl, hz⟩ := I.tuple hx
      have hlen := r.length
      exact truthy_tuple pl (by simp only [List.size_toArray]; omega) ⟨H, I.tok _, by rw [isEmpty_of r]; exact q⟩
    · subst e'
      obtain ⟨hz, hS, vs, r, m⟩ : kvs.length ≤ sizeLine ∧ (p == sysModules) = false ∧ ∃ vs, KV kvs vs ∧ s.heap.DictOf (mixKind X.prog X.w) p vs := I.hok p _ hx
      have hlen : kvs.length = vs.length := Paired.length r
      exact wpAny_truthy_dict hS m (by omega) ⟨H, I.tok _, by rw [isEmpty_kv r]; exact q⟩
  | _ => exact (show False from e).elim
theorem pt_truth (ha : PE X a ta) (he : ∀ whole, isTrue a X.env whole = (do let v ← whole; standAt a.pos; holding [v] (truthy v))) :
    PT X a (fun σ H Q => ta σ H fun x H' => ∃ k, TruV X.K x H' k ∧ Q k H') := by
  intro pins s σ H Q I h
  exact isTrue_plain (thn (ha pins s σ H _ I h) fun v s1 ⟨x, H1, I1, r1, q1⟩ => tru_ok pins s1 σ H1 x v Q I1 r1 q1) (he _)
theorem op_add_str : OpR X (binaryOp .Add) (fun x y H Q => ∃ i j, x = .str i ∧ y = .str j ∧ i.length + j.length ≤ sizeLine ∧ Q (.str (i ++ j)) H) := by
  intro pins s σ H x y v u Q I rx ry h
  obtain ⟨i, j, rfl, rfl, hz, q⟩ := h
  obtain ⟨t, rfl⟩ := rx
  obtain ⟨t', rfl⟩ := ry
  exact add_str (fun t' tk => ⟨.str (i ++ j), H, I.tok _, ⟨_, rfl⟩, q⟩) hz
theorem vals1 {x : V} {us : List Value} (r : Vals [x] us) : ∃ u, us = [u] ∧ RelV x u := by
  cases r with
  | cons r1 r2 => cases r2; exact ⟨_, rfl, r1⟩
theorem vals2 {x y : V} {us : List Value} (r : Vals [x, y] us) : ∃ u w', us = [u, w'] ∧ RelV x u ∧ RelV y w' := by
  cases r with
  | cons r1 r2 =>
    cases r2 with
    | cons r3 r4 => cases r4; exact ⟨_, _, rfl, r1, r3⟩
theorem call_str_int : CallR X (.type "str") (fun xs H Q => ∃ i, xs = [.int i] ∧ i.natAbs.log2 < 1920 ∧ Q (.str (toString i)) H) := by
  intro pins s σ H xs us Q I r h
  obtain ⟨i, rfl, hz, q⟩ := h
  obtain ⟨u, rfl, t, rfl⟩ := vals1 r
  exact PySem.P.str_of_int hz ⟨.str _, H, I.tok _, ⟨_, rfl⟩, q⟩
end
end L2
namespace L2
open PySem PySem.Spec PyProof.Rows
structure ObjM (h : Heap) (x dx C : Addr) (mA : Str → Option Value) : Prop where
  obj : h.get? x = some (PySem.W.instObj C dx)
  ns : h.Ns1 dx mA
  ne : dx ≠ x
theorem lookIn_ns {h : Heap} {dx : Addr} {mA : Str → Option Value} (n : h.Ns1 dx mA) : ∃ od, h.get? dx = some od ∧ ∀ name, PySem.W.lookIn name od = some (mA name) := by
  obtain ⟨o, es, ep, ho, hd, hk, _, hm⟩ := n
  refine ⟨o, ho, fun name => ?_⟩
  have e := hm name
  unfold nsFind findBy at e
  rw [← Array.find?_toList] at e
  unfold PySem.W.lookIn
  rw [hd]
  dsimp only
  split
  · rename_i y q
    rw [q] at e
    exact congrArg some e
  · rename_i q
    rw [q] at e
    have a : es.toList.any (·.refKey) = false := by
      rw [List.any_eq_false]
      intro y hy
      obtain ⟨z, t, hkey⟩ := hk y (Array.mem_toList_iff.mp hy)
      simp [DictEntry.refKey, hkey]
    have a' : ¬ es.toList.any (·.refKey) = true := by rw [a]; exact Bool.false_ne_true
    rw [if_neg a']
    exact congrArg some e
theorem ObjM.look {h : Heap} {x dx C : Addr} {mA : Str → Option Value} (I : ObjM h x dx C mA) : ∃ od, PySem.W.InstAt h x (PySem.W.instObj C dx) C (some od) ∧ ∀ name, PySem.W.lookIn name od = some (mA name) :=
  let ⟨od, ho, hl⟩ := lookIn_ns I.ns
  ⟨od, ⟨I.obj, rfl, rfl, ho⟩, hl⟩
section
variable {prog : Program} {w : World} {A : Around} {E : Value → Shared → Prop} {s : Shared} {K : PySem.W.Frag} {x dx C f : Addr} {mA : Str → Option Value} {name : Str} {v : Value}
end
section
variable {P : Program} {w : World} {H H' : Hp} {h h' : Heap} {a C dx : Addr} {fs fs' : List (Str × V)}
theorem ins_get (hok : HOk P w H h) (e : H a = some (.ins C dx fs)) : ∃ mA, ObjM h a dx C mA ∧ (∀ f, RelO (fs.lookup f) (mA f)) ∧ PySem.Within mA (fs.map (·.1)) ∧ fs.length ≤ 1000 ∧ H dx = some (.own a) := by
  obtain ⟨d, z, ne, ob, mA, n, r, q⟩ := (show ObjOk P w H h a (.ins C dx fs) from hok a _ e)
  exact ⟨mA, ⟨ob, n, ne⟩, r, q, z, d⟩
end
structure Cls (K : PySem.W.Frag) (C : Addr) : Prop where
  pg : PySem.W.plainGet K C Str.empty = true
  hd : PySem.W.hasDictIn K C = true
  po : PySem.W.plainOver K C = true
  sa : PySem.W.findIn K (.ref C) "__setattr__" = some (some (.builtin "object.__setattr__"))
theorem Cls.get {K : PySem.W.Frag} {C : Addr} (c : Cls K C) (f : Str) : PySem.W.plainGet K C f = true := c.pg
structure Con (K : PySem.W.Frag) (C : Addr) (f : Str) (v : V) (u : Value) : Prop where
  at_ : PySem.W.findIn K (.ref C) f = some (some u)
  rel : RelV v u
  get : PySem.W.specialIn K u "__get__" = some none
  cp : PySem.W.copiedNames.contains f = false
structure Meth (K : PySem.W.Frag) (C : Addr) (m : Str) (f : Addr) : Prop where
  at_ : PySem.W.findIn K (.ref C) m = some (some (.ref f))
  fn : PySem.W.isFn K (.ref f) = true
  kp : PySem.W.keepIn K (.ref f) = true
section
variable {X : Cx} {pins : List (Addr × Obj)} {σ : St} {H : Hp} {s : Shared} {a C dx : Addr} {fs : List (Str × V)} {f : Str} {v : V} {A : Around} {E : Value → Shared → Prop}
end
section
variable {X : Cx} {o e value : Expr} {f : Str} {pos pos' tpos : Pos} {ta tv : TE}
end
section
variable {X : Cx} {pins : List (Addr × Obj)} {σ : St} {H : Hp} {s : Shared} {A : Around} {E : Value → Shared → Prop} {Q : Value → Shared → Prop} {c : Value} {b : Bool}
inductive TyOf (K : PySem.W.Frag) (H : Hp) : V → Value → Prop where
  | non : TyOf K H .non (.type "NoneType")
  | bl (x : Bool) : TyOf K H (.bl x) (.type "bool")
  | int (i : Int) : TyOf K H (.int i) (.type "int")
  | str (x : Str) : TyOf K H (.str x) (.type "str")
  | flt (x : UInt64) : TyOf K H (.flt x) (.type "float")
  | lst {a : Addr} {xs : List V} (e : H a = some (.lst xs)) : TyOf K H (.ref a) (.type "list")
  | frz {a : Addr} {o : Obj} {xs : List V} (e : H a = some (.frz o (.lst xs))) : TyOf K H (.ref a) (.type "list")
  | tup {a : Addr} {xs : List V} (e : H a = some (.tup xs)) : TyOf K H (.ref a) (.type "tuple")
  | dK {a : Addr} {kvs : List (Key × V)} (e : H a = some (.dK kvs)) : TyOf K H (.ref a) (.type "dict")
  | dT {a : Addr} {kvs : List (List Key × V)} (e : H a = some (.dT kvs)) : TyOf K H (.ref a) (.type "dict")
  | ins {a C dx : Addr} {fs : List (Str × V)} (e : H a = some (.ins C dx fs)) (cl : Cls K C) (ha : PySem.W.findIn K (.ref C) "__class__" = some (some (.builtin "object.__class__")))
      (hn : PySem.W.specialIn K (.builtin "object.__class__") "__get__" = some (some (.builtin "getset_descriptor.__get__"))) (htk : PySem.W.takesIn K (.builtin "object.__class__") = some true)
      (hm : PySem.W.mroIn K C (.type "object") = some true) : TyOf K H (.ref a) (.ref C)
theorem isinst_ok {x : V} {u t : Value} (I : Inv X pins σ H s) (rx : RelV x u) (ty : TyOf X.K H x t) (e : PySem.W.kitOne X.K t c = some b) (h : ∀ tk, Q (.bool b) { s with toks := tk }) :
    wpAny (model X.prog X.w) A (call (.builtin "isinstance") [u, c]) Q E s := by
  cases ty with
  | non => cases (show u = Value.none from rx); exact PySem.W.kia_one PySem.W.kitx_none I.kIn True.intro e (fun z => nomatch z) h
  | bl y => cases (show u = Value.bool y from rx); exact PySem.W.kia_one PySem.W.kitx_bool I.kIn True.intro e (fun z => nomatch z) h
  | int i => obtain ⟨t, q⟩ := (show ∃ t, u = Value.int i t from rx); cases q; exact PySem.W.kia_one PySem.W.kitx_int I.kIn True.intro e (fun z => nomatch z) h
  | str y => obtain ⟨t, q⟩ := (show ∃ t, u = Value.str y t from rx); cases q; exact PySem.W.kia_one PySem.W.kitx_str I.kIn True.intro e (fun z => nomatch z) h
  | flt y => obtain ⟨t, q⟩ := (show ∃ t, u = Value.float y t from rx); cases q; exact PySem.W.kia_one PySem.W.kitx_float I.kIn True.intro e (fun z => nomatch z) h
  | @lst a xs ea =>
    cases (show u = Value.ref a from rx)
    obtain ⟨_, _, n, _, h1⟩ := (show ObjOk X.prog X.w H s.heap a (.lst xs) from I.hok a _ ea)
    exact PySem.W.kia_one PySem.W.kitx_list I.kIn ⟨_, h1, rfl⟩ e (fun z => nomatch z) h
  | @frz a ob xs ea =>
    cases (show u = Value.ref a from rx)
    obtain ⟨_, _, _, n, _, h1⟩ := (show ObjOk X.prog X.w H s.heap a (.frz ob (.lst xs)) from I.hok a _ ea)
    exact PySem.W.kia_one PySem.W.kitx_list I.kIn ⟨_, h1, rfl⟩ e (fun z => nomatch z) h
  | @tup a xs ea =>
    cases (show u = Value.ref a from rx)
    obtain ⟨_, _, _, p, _⟩ := (show ObjOk X.prog X.w H s.heap a (.tup xs) from I.hok a _ ea)
    obtain ⟨o, h1, h2, _⟩ := p
    exact PySem.W.kia_one PySem.W.kitx_tuple I.kIn ⟨o, h1, h2⟩ e (fun z => nomatch z) h
  | @dK a kvs ea =>
    cases (show u = Value.ref a from rx)
    obtain ⟨_, _, vs, _, p⟩ := (show ObjOk X.prog X.w H s.heap a (.dK kvs) from I.hok a _ ea)
    obtain ⟨o, es, ep, h1, h2, _⟩ := p
    exact PySem.W.kia_one PySem.W.kitx_dict I.kIn ⟨o, h1, h2.1⟩ e (fun z => nomatch z) h
  | @dT a kvs ea =>
    cases (show u = Value.ref a from rx)
    obtain ⟨_, _, xs, _, o, es, ep, h1, h2, _⟩ := (show ObjOk X.prog X.w H s.heap a (.dT kvs) from I.hok a _ ea)
    exact PySem.W.kia_one PySem.W.kitx_dict I.kIn ⟨o, h1, h2.1⟩ e (fun z => nomatch z) h
  | @ins a C dx fs ea cl ha hn htk hm =>
    cases (show u = Value.ref a from rx)
    obtain ⟨mA, O, _⟩ := ins_get I.hok ea
    obtain ⟨od, J, _⟩ := O.look
    exact PySem.W.kia_one (PySem.W.kitx_own (cl.get _) cl.hd ha hn htk hm) I.kIn J e (fun z => nomatch z) h
end
end L2
namespace L2
open PySem PySem.Spec PyProof.Rows
structure Room (k : Nat) (A : Around) : Prop where
  hd : A.handled = none
  dp : A.depth + 3 * k + 5 < recursionLimit
  un : A.units + 16 * k + 200 < cLine
theorem Room.mono {j k : Nat} {A : Around} (r : Room k A) (h : j ≤ k) : Room j A := ⟨r.hd, by have := r.dp; omega, by have := r.un; omega⟩
theorem Room.deeper {k : Nat} {A : Around} (r : Room (k + 1) A) (env : Env) : Room k (A.deeper env) :=
  ⟨r.hd, by have := r.dp; show A.depth + 1 + 3 * k + 5 < _; omega, by have := r.un; show A.units + 3 + 16 * k + 200 < _; omega⟩
theorem Room.in1 {k : Nat} {A : Around} (r : Room (k + 1) A) : Room k A.in1 :=
  ⟨r.hd, by have := r.dp; show A.depth + 3 * k + 5 < _; omega, by have := r.un; show A.units + 1 + 16 * k + 200 < _; omega⟩
theorem Room.depth {k : Nat} {A : Around} (r : Room k A) : A.depth < recursionLimit := by have := r.dp; omega
theorem Room.units {k : Nat} {A : Around} (r : Room k A) : A.units + 64 < cLine := by have := r.un; omega
noncomputable def tNil : TA := fun _ H Q => Q [] H
noncomputable def tCons (ta : TE) (tr : TA) : TA := fun σ H Q => ta σ H fun x H1 => tr σ H1 fun xs H2 => Q (x :: xs) H2
section
variable {X : Cx} {e : Expr} {es : List Expr} {te : TE} {t : TA} {pos : Pos}
theorem pa_nil : PA X [] tNil := fun _ _ _ _ H Q I h => Calls.spliced_nil ⟨[], H, I, .nil, h⟩
theorem pa_cons (ha : PE X e te) (hr : PA X es t) (hs : starEach (e :: es) X.env = (false, eval e X.env) :: starEach es X.env := by rfl) : PA X (e :: es) (tCons te t) := by
  intro pos pins s σ H Q I h
  rw [hs]
  show wpAny _ _ (spliced ((false, eval e X.env) :: backTo pos (starEach es X.env))) _ _ s
  refine Calls.spliced_cons (thn (ha pins s σ H _ I h) fun u s1 ⟨x, H1, I1, r1, q1⟩ => ?_)
  exact thn (hr pos pins s1 σ H1 _ I1 q1) fun us s2 ⟨xs, H2, I2, r2, q2⟩ => ⟨x :: xs, H2, I2, .cons r1 r2, q2⟩
noncomputable def tTup (t : TA) : TE := fun σ H Q => t σ H fun xs H1 => xs.length ≤ sizeLine ∧ ∀ p, H1 p = none → Q (.ref p) (upd H1 p (.tup xs))
noncomputable def tLst (t : TA) : TE := fun σ H Q => t σ H fun xs H1 => xs.length ≤ sizeLine ∧ ∀ p, H1 p = none → Q (.ref p) (upd H1 p (.lst xs))
theorem pe_tup {x1} (h : PA X es t) : PE X (.Tuple es x1 pos) (tTup t) := by
  intro pins s σ H Q I hq
  refine wpAny_Tuple_spliced (thn (h pos pins s σ H _ I hq) fun us s1 ⟨xs, H1, I1, r, z, q⟩ => ⟨by rw [← r.length]; exact z, ?_⟩)
  have hf : H1 s1.heap.objs.size = none := I1.hok.fresh (Nat.le_refl _)
  refine ⟨.ref s1.heap.objs.size, upd H1 s1.heap.objs.size (.tup xs), I1.laid (t' := s1.toks) (fun b u e => Heap.get?_push_of_some _ e) (Nat.le_refl _) ?_, rfl, q _ hf⟩
  exact ⟨z, us, r, ⟨_, Heap.get?_push_size _ rfl, rfl, _, rfl⟩, _, Heap.get?_push_size _ rfl, rfl⟩
theorem pe_lst (h : PA X es t) : PE X (.List es pos) (tLst t) := by
  intro pins s σ H Q I hq
  refine wpAny_List_spliced (thn (h pos pins s σ H _ I hq) fun us s1 ⟨xs, H1, I1, r, z, q⟩ => ⟨by rw [← r.length]; exact z, ?_⟩)
  have hf : H1 s1.heap.objs.size = none := I1.hok.fresh (Nat.le_refl _)
  refine ⟨.ref s1.heap.objs.size, upd H1 s1.heap.objs.size (.lst xs), I1.laid (t' := s1.toks) (fun b u e => Heap.get?_push_of_some _ e) (Nat.le_refl _) ?_, rfl, q _ hf⟩
  exact ⟨z, us, 0, r, Heap.get?_push_size _ rfl⟩
end
noncomputable abbrev Sp := List V → Hp → VK → XK → Prop
noncomputable abbrev CXT := List Env → Hp → Shared → XK → Value → Shared → Prop
structure Env0 (P : Program) (w : World) (K : PySem.W.Frag) (mg : Str → Option Value) (base : Heap) (A : Around) (outer : List Env) (s : Shared) (H : Hp) : Prop where
  frames : A.frames = some outer
  mod : Mod K mg base
  bs : ∀ b o, base.get? b = some o → s.heap.get? b = some o ∧ H b = none
  bsz : base.objs.size ≤ s.heap.objs.size
  funs : s.heap.FunFrames base outer
  frf : ∀ b ∈ frs outer, H b = none
  hok : HOk P w H s.heap
  bare : AllBare s.gens
noncomputable def CE (outer : List Env) (P : Program) (w : World) (H : Hp) (s : Shared) (Q : VK) (u : Value) (s' : Shared) : Prop :=
  ∃ v H', s'.os = s.os ∧ AllBare s'.gens ∧ Un (frs outer) [] H H' s.heap s'.heap ∧ HOk P w H' s'.heap ∧ RelV v u ∧ Q v H'
noncomputable def CR (CX : CXT) (outer : List Env) (P : Program) (w : World) (H : Hp) (s : Shared) (Q : VK) (E : XK) (r : Result) (s' : Shared) : Prop :=
  match r with
  | .ok (.ret u) => CE outer P w H s Q u s'
  | .ok _ => False
  | .error e => CX outer H s E e s'
structure FnOk (P : Program) (w : World) (K : PySem.W.Frag) (mg : Str → Option Value) (base : Heap) (CX : CXT) (k : Nat) (f : Addr) (fd : FuncData) (ps : List Str) (sp : Sp) : Prop where
  len : ∀ vs H Q E, sp vs H Q E → vs.length = ps.length
  run : ∀ (A : Around) (outer : List Env) (s : Shared) (H : Hp) (args : Args) (us : List Value) (vs : List V) (Q : VK) (E : XK), Room k A → Env0 P w K mg base A outer s H → BindsTo s fd args (ps.zip us) → Vals vs us → sp vs H Q E →
    codeAny (model P w) A (.call (.ref f) args) (CR CX outer P w H s Q E) s
theorem FnOk.mono {P : Program} {w : World} {K : PySem.W.Frag} {mg : Str → Option Value} {base : Heap} {CX : CXT} {j k : Nat} {f : Addr} {fd : FuncData} {ps : List Str} {sp : Sp} (F : FnOk P w K mg base CX j f fd ps sp) (h : j ≤ k) :
    FnOk P w K mg base CX k f fd ps sp := ⟨F.len, fun A outer s H args us vs Q E hr => F.run A outer s H args us vs Q E (hr.mono h)⟩
theorem FnOk.imp {P : Program} {w : World} {K : PySem.W.Frag} {mg : Str → Option Value} {base : Heap} {CX : CXT} {k : Nat} {f : Addr} {fd : FuncData} {ps : List Str} {sp sp' : Sp} (F : FnOk P w K mg base CX k f fd ps sp)
    (h : ∀ vs H Q E, sp' vs H Q E → sp vs H Q E) : FnOk P w K mg base CX k f fd ps sp' :=
  ⟨fun vs H Q E q => F.len vs H Q E (h _ _ _ _ q), fun A outer s H args us vs Q E hr he hb hv hs => F.run A outer s H args us vs Q E hr he hb hv (h _ _ _ _ hs)⟩
theorem Env0.in1 {P : Program} {w : World} {K : PySem.W.Frag} {mg : Str → Option Value} {base : Heap} {A : Around} {outer : List Env} {s : Shared} {H : Hp} (e : Env0 P w K mg base A outer s H) :
    Env0 P w K mg base A.in1 outer s H := ⟨e.frames, e.mod, e.bs, e.bsz, e.funs, e.frf, e.hok, e.bare⟩
section
variable {X : Cx} {pins : List (Addr × Obj)} {σ : St} {H : Hp} {s s' : Shared}
theorem Inv.env0 (I : Inv X pins σ H s) : Env0 X.prog X.w X.K X.mg X.base X.A X.stack s H :=
  ⟨I.ok.frames, I.ok.mod, I.bs, Nat.le_trans I.ok.bsz I.sz, I.stack, I.stkFree, I.hok, I.bare⟩
theorem Inv.after {Q : VK} {u : Value} (I : Inv X pins σ H s) (h : CE X.stack X.prog X.w H s Q u s') : EP X pins σ Q u s' := by
  obtain ⟨v, H', os, bare, un, hok, r, q⟩ := h
  obtain ⟨hh, g, d, t, os'⟩ := s'
  obtain rfl : os' = s.os := os
  exact ⟨v, H', I.call (h' := hh) (g' := g) (d' := d) (t' := t) (ch := []) un hok bare (fun b z => absurd z (by simp)), r, q⟩
end
noncomputable def tCall (sp : Sp) (dvs : List V) (E : XK) (t : TA) : TE := fun σ H Q => t σ H fun vs H1 => sp (vs ++ dvs) H1 Q E
noncomputable def Binds (K : PySem.W.Frag) (fd : FuncData) (ps : List Str) (ds : List Value) : Prop :=
  ∀ (s : Shared) (us : List Value), K.In s.heap → (us ++ ds).length = ps.length → BindsTo s fd ⟨us, []⟩ (ps.zip (us ++ ds))
theorem Binds.all {K : PySem.W.Frag} {fd : FuncData} {ps : List Str} (h : ∀ us : List Value, us.length = ps.length → bindArgs fd ⟨us, []⟩ = pure (ps.zip us)) : Binds K fd ps [] := fun s us _ hl => by
  rw [List.append_nil] at hl ⊢
  exact .of_eq (h us hl)
noncomputable def Passes (CX : CXT) (X : Cx) (E : XK) : Prop := ∀ (pins : List (Addr × Obj)) (σ : St) (H : Hp) (s : Shared) (e : Value) (s' : Shared), Inv X pins σ H s → CX X.stack H s E e s' → X.xe e s'
section
variable {X : Cx} {CX : CXT} {k : Nat} {f C : Addr} {fd : FuncData} {ps : List Str} {sp : Sp} {dvs : List V} {ds : List Value} {E : XK} {x m : Str} {p pos apos : Pos} {e o : Expr} {es : List Expr} {ta : TE} {t : TA}
theorem run_fn {pins : List (Addr × Obj)} {σ : St} {H : Hp} {s : Shared} {Q : VK} {us : List Value} {vs : List V} (F : FnOk X.prog X.w X.K X.mg X.base CX k f fd ps sp) (hr : Room k X.A) (hb : Binds X.K fd ps ds) (hd : Vals dvs ds) (hx : Passes CX X E)
    (I : Inv X pins σ H s) (r : Vals vs us) (h : sp (vs ++ dvs) H Q E) : wpAny (model X.prog X.w) X.A (call (.ref f) us) (EP X pins σ Q) X.xe s := by
  have r2 : Vals (vs ++ dvs) (us ++ ds) := r.append hd
  have hl : (us ++ ds).length = ps.length := by rw [← r2.length]; exact F.len _ _ _ _ h
  refine wpAny_call (codeAny_mono (F.run X.A X.stack s H ⟨us, []⟩ (us ++ ds) (vs ++ dvs) Q E hr I.env0 (hb s us I.kIn hl) r2 h) fun r s' hq => ?_)
  cases r with
  | error e => exact hx pins σ H s e s' I hq
  | ok fl =>
    cases fl with
    | ret u => exact I.after hq
    | next => exact False.elim hq
    | brk => exact False.elim hq
    | cont => exact False.elim hq
theorem pe_call (F : FnOk X.prog X.w X.K X.mg X.base CX k f fd ps sp) (hr : Room k X.A) (hg : Gl X x) (hm : X.mg x = some (.ref f)) (hk : PySem.W.keepIn X.K (.ref f) = true) (hb : Binds X.K fd ps ds) (hd : Vals dvs ds) (hx : Passes CX X E)
    (ha : PA X (e :: es) t) (hdb : (x == ("__debug__" : Str)) = false := by decide) (he : starEach (e :: es) X.env = (false, eval e X.env) :: starEach es X.env := by rfl) (hpl : (backTo pos (starEach es X.env)).any (·.1) = false := by rfl) :
    PE X (.Call (.Name x p) (e :: es) [] pos) (tCall sp dvs E t) := by
  intro pins s σ H Q I h
  refine wpAny_Call_Name_kw (ld_glob I hg hm ?_ hdb)
  refine PySem.W.callWith_K (h₀ := X.base) I.ok.mod.kin hk (thn (ha pos pins s σ H _ I h) fun us s1 ⟨vs, H1, I1, r, q⟩ => ⟨I1.kIn, ?_⟩) he hpl
  exact run_fn F hr hb hd hx I1 r q
structure Mk (K : PySem.W.Frag) (C f : Addr) : Prop where
  makes : PySem.W.makesIn K C = true
  init : PySem.W.findIn K (.ref C) "__init__" = some (some (.ref f))
  fn : PySem.W.isFn K (.ref f) = true
  kp : PySem.W.keepIn K (.ref C) = true
end
section
variable {X : Cx} {CX : CXT} {k : Nat} {f C : Addr} {fd : FuncData} {ps ks : List Str} {sp : Sp} {E : XK} {x m : Str} {p pos apos kpos : Pos} {e o : Expr} {es : List Expr} {kws : List Keyword} {te ta : TE} {t tk : TA} {nm : Option Str}
structure KBinds (K : PySem.W.Frag) (fd : FuncData) (ps ks : List Str) (g : List Value → List Value → List Value) (gV : List V → List V → List V) : Prop where
  to : ∀ (s : Shared) (us ws : List Value), K.In s.heap → (g us ws).length = ps.length → BindsTo s fd ⟨us, ks.zip ws⟩ (ps.zip (g us ws))
  rel : ∀ {vs : List V} {us : List Value} {zs : List V} {ws : List Value}, Vals vs us → Vals zs ws → Vals (gV vs zs) (g us ws)
variable {g : List Value → List Value → List Value} {gV : List V → List V → List V}
end
structure FnScope (N P : List Str) (sc : Scope) : Prop where
  kind : sc.kind = .function
  co : sc.isCoroutine = false
  gen : sc.isGenerator = false
  nd : N.Nodup
  pre : N.take P.length = P
  par : ∀ x ∈ P, sc.names.lookup x = some .local ∨ sc.names.lookup x = some .cell
  nofree : ∀ y ∈ sc.names, y.2 ≠ .free
theorem bindL_out {kindOf : Str → Option NameKind} {x : Str} : ∀ {binds : List (Str × Value)} {m : Str → Option Value}, (∀ v, (x, v) ∉ binds) → bindL kindOf binds m x = m x
  | [], _, _ => rfl
  | (n, v) :: r, m, h => by
    unfold bindL
    rw [bindL_out fun w hw => h w (List.mem_cons_of_mem _ hw)]
    split
    · have : x ≠ n := by rintro rfl; exact h v List.mem_cons_self
      simp [this]
    · rfl
theorem bindC_out {kindOf : Str → Option NameKind} {x : Str} : ∀ {binds : List (Str × Value)} {m : Str → Option Value}, (∀ v, (x, v) ∉ binds) → bindC kindOf binds m x = m x
  | [], _, _ => rfl
  | (n, v) :: r, m, h => by
    unfold bindC
    rw [bindC_out fun w hw => h w (List.mem_cons_of_mem _ hw)]
    split
    · rfl
    · have : x ≠ n := by rintro rfl; exact h v List.mem_cons_self
      simp [this]
theorem bindL_get {kindOf : Str → Option NameKind} {x : Str} {v : Value} : ∀ {P : List Str} {vs : List Value} {i : Nat} {m : Str → Option Value}, P.Nodup → P[i]? = some x → vs[i]? = some v → kindOf x = some .local →
    bindL kindOf (P.zip vs) m x = some v
  | [], _, _, _, _, h, _, _ => by simp at h
  | _ :: _, [], _, _, _, _, h, _ => by simp at h
  | p :: P, w :: vs, 0, m, nd, h1, h2, hk => by
    simp at h1 h2; subst h1; subst h2
    show bindL kindOf ((p, w) :: P.zip vs) m p = _
    unfold bindL
    rw [bindL_out fun v hv => (List.nodup_cons.mp nd).1 (List.of_mem_zip hv).1, if_pos hk]
    simp
  | p :: P, w :: vs, i + 1, m, nd, h1, h2, hk => by
    show bindL kindOf ((p, w) :: P.zip vs) m x = _
    unfold bindL
    exact bindL_get (i := i) (List.nodup_cons.mp nd).2 (by simpa using h1) (by simpa using h2) hk
theorem bindC_get {kindOf : Str → Option NameKind} {x : Str} {v : Value} : ∀ {P : List Str} {vs : List Value} {i : Nat} {m : Str → Option Value}, P.Nodup → P[i]? = some x → vs[i]? = some v → kindOf x ≠ some .local →
    bindC kindOf (P.zip vs) m x = some v
  | [], _, _, _, _, h, _, _ => by simp at h
  | _ :: _, [], _, _, _, _, h, _ => by simp at h
  | p :: P, w :: vs, 0, m, nd, h1, h2, hk => by
    simp at h1 h2; subst h1; subst h2
    show bindC kindOf ((p, w) :: P.zip vs) m p = _
    unfold bindC
    rw [bindC_out fun v hv => (List.nodup_cons.mp nd).1 (List.of_mem_zip hv).1, if_neg hk]
    simp
  | p :: P, w :: vs, i + 1, m, nd, h1, h2, hk => by
    show bindC kindOf ((p, w) :: P.zip vs) m x = _
    unfold bindC
    exact bindC_get (i := i) (List.nodup_cons.mp nd).2 (by simpa using h1) (by simpa using h2) hk
noncomputable def start (N : List Str) (vs : List V) : St := vs.map some ++ List.replicate (N.length - vs.length) none
noncomputable def cxOf (CX : CXT) (P : Program) (w : World) (K : PySem.W.Frag) (mg : Str → Option Value) (base : Heap) (N : List Str) (qual : Str) (scope : Scope) (f : Addr) (cd : Value) (A : Around) (outer : List Env) (s : Shared) (H : Hp) (E : XK) : Cx where
  prog := P
  w := w
  K := K
  mg := mg
  base := base
  A := A.deeper (envOfC qual scope s.heap.objs.size f cd)
  N := N
  s₀ := s
  H₀ := H
  env := envOfC qual scope s.heap.objs.size f cd
  outer := outer
  stack := envOfC qual scope s.heap.objs.size f cd :: outer
  ex := []
  calm := true
  fn := fun _ => true
  pn := []
  xe := fun e s' => wpAny (model P w) (A.deeper (envOfC qual scope s.heap.objs.size f cd)) (leaving (envOfC qual scope s.heap.objs.size f cd) e) (fun _ s'' => CX outer H s E e s'') (fun e' s'' => CX outer H s E e' s'') s'
theorem cell_has {sc : Scope} {n : Nat} {x : Str} (h : sc.names.lookup x = some .cell) : ∃ c, (cellsFrom n sc.names []).lookup x = some c := by
  have q := PySem.W.cellsFrom_some sc.names n [] (.inl h)
  exact Option.isSome_iff_exists.mp q
theorem inv_start {CX : CXT} {P : Program} {w : World} {K : PySem.W.Frag} {mg : Str → Option Value} {base : Heap} {N ps : List Str} {qual : Str} {scope : Scope} {f : Addr} {cd : Value} {A : Around} {outer : List Env} {s s1 : Shared} {H : Hp} {E : XK} {us : List Value} {vs : List V}
    (S : FnScope N ps scope) (hd : A.handled = none) (e0 : Env0 P w K mg base A outer s H) (hl : vs.length = ps.length) (r : Vals vs us)
    (x : InCallC s s.heap.objs.size (bindL (envOfC qual scope s.heap.objs.size f cd).kindOf (ps.zip us) fun _ => none) (cellsFrom (s.heap.objs.size + 1) scope.names []) (bindC (envOfC qual scope s.heap.objs.size f cd).kindOf (ps.zip us) fun _ => none) s1) :
    Inv (cxOf CX P w K mg base N qual scope f cd A outer s H E) [] (start N vs) H s1 := by
  have hpl : ps.length ≤ N.length := by have := congrArg List.length S.pre; rw [List.length_take] at this; omega
  obtain ⟨h1, tk, rfl, hk⟩ := x.done
  have noA : ∀ b : Addr, b ∉ (cxOf CX P w K mg base N qual scope f cd A outer s H E).ex := fun b z => absurd (show b ∈ ([] : List Addr) from z) (by simp)
  refine ⟨⟨e0.mod, S.kind, rfl, rfl, Nat.le_refl _, fun y z c h1 h2 => ?_, fun y hy => ?_, fun y c _ h => ?_, fun _ => hd, Around.frames_deeper e0.frames, .inr ⟨rfl, rfl⟩, fun b z => absurd z (noA b), e0.bs, e0.bsz, fun b _ _ => noA b, fun b z => absurd z (noA b), e0.funs, e0.frf⟩,
    rfl, e0.bare, Un.kept hk, ⟨_, x.toInCall.ns, fun i y v h1 h2 h3 => ?_⟩, fun y c h => ⟨_, x.cell y c h⟩, e0.hok.fresh (Nat.le_refl _), fun y c h => ?_, fun p hp => absurd (show p ∈ ([] : List (Addr × Obj)) from hp) (by simp), e0.hok.kept hk, ?_⟩
  · exact name_of_addr x.apart (PySem.mem_of_lookup h1) (PySem.mem_of_lookup h2)
  · have hy : scope.names.lookup y = some .cell ∨ scope.names.lookup y = some .free := hy
    rcases hy with hy | hy
    · exact cell_has hy
    · exact absurd rfl (S.nofree _ (PySem.mem_of_lookup hy))
  · exact Nat.le_of_lt (x.above y c (PySem.mem_of_lookup h))
  · have hi : i < vs.length := by
      unfold start at h2
      by_cases hi : i < vs.length
      · exact hi
      · rw [List.getElem?_append_right (by simpa using hi)] at h2
        rw [List.getElem?_replicate] at h2
        split at h2 <;> cases h2
    have ha : vs[i]? = some v := by
      unfold start at h2
      rw [List.getElem?_append_left (by simpa using hi), List.getElem?_map] at h2
      cases e : vs[i]? with
      | none => rw [e] at h2; cases h2
      | some a => rw [e] at h2; cases h2; rfl
    obtain ⟨u, hu, rv⟩ := r.get ha
    have hp : ps[i]? = some y := by
      rw [← S.pre, List.getElem?_take_of_lt (by omega)]; exact h1
    have ndP : ps.Nodup := by rw [← S.pre]; exact S.nd.sublist (List.take_sublist _ _)
    refine ⟨u, rv, ?_⟩
    rcases S.par y (List.mem_of_getElem? hp) with k | k
    · exact .inl ⟨k, bindL_get ndP hp hu k⟩
    · obtain ⟨c, e⟩ := cell_has (n := s.heap.objs.size + 1) k
      refine .inr ⟨.inl k, c, e, ?_⟩
      have q := x.cell y c e
      rw [bindC_get ndP hp hu (by show scope.names.lookup y ≠ _; rw [k]; decide)] at q
      exact q
  · exact e0.hok.fresh (Nat.le_of_lt (x.above y c (PySem.mem_of_lookup h)))
  · unfold start
    show _ = N.length
    rw [List.length_append, List.length_map, List.length_replicate]
    omega
theorem fn_of {CX : CXT} {P : Program} {w : World} {K : PySem.W.Frag} {mg : Str → Option Value} {base : Heap} {k : Nat} {f : Addr} {name qual : Str} {params : Arguments} {body : List Stmt} {scope : Scope} {dV kV doc pm cdv ct oc : Value} {an od : Option Addr}
    {osl : Array (Option Value)} {N ps : List Str} {sp : Sp} (lk : K.lookup f = some ⟨oc, od, .func (PySem.W.fnOf name qual params body scope dV kV doc pm an cdv ct), osl⟩) (hcd : PySem.W.codeIn K cdv qual = true) (S : FnScope N ps scope)
    (len : ∀ vs H Q E, sp vs H Q E → vs.length = ps.length)
    (hbody : ∀ (A : Around) (outer : List Env) (s : Shared) (H : Hp) (vs : List V) (Q : VK) (E : XK), Room k (A.deeper (envOfC qual scope s.heap.objs.size f cdv)) → sp vs H Q E →
      ∃ t, PSs (cxOf CX P w K mg base N qual scope f cdv A outer s H E) body t ∧ t { nx := fun _ H' => Q .non H', rt := Q } (start N vs) H) :
    FnOk P w K mg base CX (k + 1) f (PySem.W.fnOf name qual params body scope dV kV doc pm an cdv ct) ps sp := by
  refine ⟨len, fun A outer s H args us vs Q E hr e0 hb r hsp => ?_⟩
  have hl := len _ _ _ _ hsp
  have KX : K.In s.heap := e0.mod.kin.keeps fun b o e => (e0.bs b o e).1
  have lim : s.heap.NoLimit := e0.mod.nolimit.keeps fun b o e => (e0.bs b o e).1
  have hkind : ∀ y ∈ ps.zip us, scope.names.lookup y.1 = some .local ∨ (scope.names.lookup y.1 = some .cell ∧ ((cellsFrom (s.heap.objs.size + 1) scope.names []).lookup y.1).isSome = true) := fun ⟨n, v⟩ hy => by
    rcases S.par n (List.of_mem_zip hy).1 with q | q
    · exact .inl q
    · exact .inr ⟨q, PySem.W.cellsFrom_some _ _ _ (.inl q)⟩
  refine codeAny_call_function hr.depth (KX _ _ lk) rfl S.co S.gen rfl (PySem.W.codeRec_of KX hcd) (hb _ _ _ _ ?_)
  refine wpAny_newFunctionEnv_cells S.kind hkind fun env he s1 x => ?_
  subst he
  refine ⟨lim.keeps x.toInCall.keep, codeAny_func ?_⟩
  obtain ⟨t, ht, hq⟩ := hbody A outer s H vs Q E (hr.deeper _) hsp
  have I : Inv (cxOf CX P w K mg base N qual scope f cdv A outer s H E) [] (start N vs) H s1 := inv_start S hr.hd e0 hl r x
  refine wpAny_mono (ht [] s1 (start N vs) H _ I hq) (fun fl s' hs => ?_) fun e s' hs => hs
  have fin : ∀ {σ' : St} {H' : Hp} {v : V} {u : Value}, Inv (cxOf CX P w K mg base N qual scope f cdv A outer s H E) [] σ' H' s' → RelV v u → Q v H' → CE outer P w H s Q u s' :=
    fun {σ' H' v u} J rv q => ⟨v, H', J.os, J.bare, J.base, J.hok, rv, q⟩
  cases fl with
  | ret u =>
    obtain ⟨v, σ', H', J, rv, q⟩ := hs
    exact fin J rv q
  | next =>
    obtain ⟨σ', H', J, q⟩ := hs
    exact fin (v := V.non) (u := Value.none) J rfl q
  | brk =>
    obtain ⟨_, _, _, q⟩ := hs
    exact False.elim q
  | cont =>
    obtain ⟨_, _, _, q⟩ := hs
    exact False.elim q
end L2
namespace L2
open PySem PySem.Spec PyProof.Rows
section
variable {X : Cx} {x : Str} {p pos : Pos} {e : Expr} {es : List Expr} {t : TA} {id T : String} {r : List V → Hp → VK → Prop}
noncomputable def tCB (r : List V → Hp → VK → Prop) (t : TA) : TE := fun σ H Q => t σ H fun vs H1 => r vs H1 Q
theorem pe_callB (hc : CallR X (.builtin id) r) (hg : Gl X x) (hm : X.mg x = none) (hv : bootBuiltins x = some (.builtin id)) (ha : PA X (e :: es) t) (hn : x ≠ "__name__" := by decide) (hdb : (x == ("__debug__" : Str)) = false := by decide)
    (he : starEach (e :: es) X.env = (false, eval e X.env) :: starEach es X.env := by rfl) (hpl : (backTo pos (starEach es X.env)).any (·.1) = false := by rfl) : PE X (.Call (.Name x p) (e :: es) [] pos) (tCB r t) := by
  intro pins s σ H Q I h
  refine wpAny_Call_Name_kw (ld_blt I hg hm hv ?_ hn hdb)
  exact PyProof.Rows.callWith_builtin1 (thn (ha pos pins s σ H _ I h) fun us s1 ⟨vs, H1, I1, r1, q1⟩ => hc pins s1 σ H1 vs us Q I1 r1 q1) he hpl
theorem pe_callTy (hc : CallR X (.type T) r) (hg : Gl X x) (hm : X.mg x = none) (hv : bootBuiltins x = some (.type T)) (ha : PA X (e :: es) t) (hn : x ≠ "__name__" := by decide) (hdb : (x == ("__debug__" : Str)) = false := by decide)
    (he : starEach (e :: es) X.env = (false, eval e X.env) :: starEach es X.env := by rfl) (hpl : (backTo pos (starEach es X.env)).any (·.1) = false := by rfl) : PE X (.Call (.Name x p) (e :: es) [] pos) (tCB r t) := by
  intro pins s σ H Q I h
  refine wpAny_Call_Name_kw (ld_blt I hg hm hv ?_ hn hdb)
  exact PyProof.Rows.callWith_type1 (thn (ha pos pins s σ H _ I h) fun us s1 ⟨vs, H1, I1, r1, q1⟩ => hc pins s1 σ H1 vs us Q I1 r1 q1) he hpl
end
end L2
namespace HT
open PySem PyProof.Rows
section
open PySem.SeqAt
open PySem.AutoSeq1 (wpAny_loadPart')
open PySem.MeetsSeq PySem.MeetsSeq2 PySem.MeetsSeq3
end
section
variable {prog : Program} {w : World} {A : Around} {E : Value → Shared → Prop} {s : Shared}
end
end HT
namespace L2
open PySem PySem.Spec PyProof.Rows
noncomputable abbrev TO := St → Hp → (Option Int → Hp → Prop) → Prop
noncomputable def PO (X : Cx) (e : Option Expr) (t : TO) : Prop :=
  ∀ (pins : List (Addr × Obj)) (s : Shared) (σ : St) (H : Hp) (Q : Option Int → Hp → Prop), Inv X pins σ H s → t σ H Q →
    wpAny (model X.prog X.w) X.A (evalPart e X.env) (fun u s' => ∃ o H', Inv X pins σ H' s' ∧ IsPart u o ∧ Q o H') X.xe s
noncomputable def tNoPart : TO := fun _ H Q => Q none H
noncomputable def tPart (t : TE) : TO := fun σ H Q => t σ H fun x H1 => ∃ i, x = .int i ∧ Q (some i) H1
section
variable {X : Cx} {e : Expr} {te : TE} {lo hi : Option Expr} {tl th : TO} {pos p2 : Pos}
theorem po_none : PO X none tNoPart := by
  intro pins s σ H Q I h
  rw [evalPart_none]
  exact wpAny_pure ⟨none, H, I, .none, h⟩
theorem po_some (h : PE X e te) : PO X (some e) (tPart te) := by
  intro pins s σ H Q I hw
  rw [evalPart_some]
  refine thn (h pins s σ H _ I hw) fun u s1 ⟨x, H1, I1, r1, q1⟩ => ?_
  obtain ⟨i, rfl, q⟩ := q1
  obtain ⟨t, rfl⟩ := r1
  exact ⟨some i, H1, I1, .int i t, q⟩
noncomputable def SlR (X : Cx) (r : V → Option Int → Option Int → Hp → VK → Prop) : Prop :=
  ∀ (pins : List (Addr × Obj)) (s : Shared) (σ : St) (H : Hp) (x : V) (v vl vu : Value) (lo hi : Option Int) (sl : Addr) (Q : VK), Inv X pins σ H s → RelV x v → s.heap.IsSliceOf sl vl vu .none → IsPart vl lo → IsPart vu hi → r x lo hi H Q →
    ∃ T id, typeLookup (.type T) "__getitem__" = pure (some (.builtin id)) ∧ s.TypeIs v T ∧ wpAny (model X.prog X.w) X.A (getItem v (.ref sl)) (EP X pins σ Q) X.xe s
noncomputable def tSl (r : V → Option Int → Option Int → Hp → VK → Prop) (te : TE) (tl th : TO) : TE := fun σ H Q => te σ H fun x H1 => tl σ H1 fun l H2 => th σ H2 fun u H3 => r x l u H3 Q
theorem pe_slice {r : V → Option Int → Option Int → Hp → VK → Prop} (hr : SlR X r) (he : PE X e te) (hl : PO X lo tl) (hu : PO X hi th) : PE X (.Subscript e (.Slice lo hi none p2) pos) (tSl r te tl th) := by
  intro pins s σ H Q I h
  refine Subscript_ (thn (he pins s σ H _ I h) fun v s1 ⟨x, H1, I1, r1, q1⟩ => ?_)
  refine wpAny_Slice (thn (hl pins s1 σ H1 _ I1 q1) fun vl s2 ⟨l, H2, I2, pl, q2⟩ => thn (hu pins s2 σ H2 _ I2 q2) fun vu s3 ⟨u, H3, I3, pu, q3⟩ => ?_)
  rw [evalPart_none]
  refine wpAny_pure ?_
  have I4 : Inv X pins σ H3 { s3 with heap := s3.heap.push { cls := .type "slice", data := .fields #[vl, vu, .none] } } := I3.kept (t' := s3.toks) fun b ob q => Heap.get?_push_of_some _ q
  obtain ⟨T, id, hT, ht, hg⟩ := hr pins { s3 with heap := s3.heap.push { cls := .type "slice", data := .fields #[vl, vu, .none] } } σ H3 x v vl vu l u s3.heap.objs.size Q I4 r1 (Heap.IsSliceOf.new ..) pl pu q3
  show wpAny (model X.prog X.w) X.A (subscriptTail e (.Slice lo hi none p2) v (.ref s3.heap.objs.size)) (EP X pins σ Q) X.xe { s3 with heap := s3.heap.push { cls := .type "slice", data := .fields #[vl, vu, .none] } }
  exact tail_any (ops := [.ref s3.heap.objs.size, v]) ht hT hg (by with_unfolding_all rfl)
end
end L2
namespace L2
open PySem PySem.Spec PyProof.Rows
noncomputable def ixN (n : Nat) (i : Int) : Option Nat := if 0 ≤ i then (if i < n then some i.toNat else none) else if -(n : Int) ≤ i then some (i + n).toNat else none
noncomputable def atI {α : Type} (xs : List α) (i : Int) : Option α := (ixN xs.length i).bind fun j => xs[j]?
theorem ixN_seq {n : Nat} {i : Int} {j : Nat} (h : ixN n i = some j) : seqIndex? i n = some j ∧ j < n ∧ -(n : Int) ≤ i ∧ i < n := by
  unfold ixN at h
  by_cases h0 : 0 ≤ i
  · rw [if_pos h0] at h
    by_cases h1 : i < n
    · rw [if_pos h1] at h
      have e : i.toNat = j := Option.some.inj h
      exact ⟨by rw [seqIndex_of h0 h1, e], by omega, by omega, h1⟩
    · rw [if_neg h1] at h; cases h
  · rw [if_neg h0] at h
    by_cases h1 : -(n : Int) ≤ i
    · rw [if_pos h1] at h
      have e : (i + n).toNat = j := Option.some.inj h
      exact ⟨by rw [seqIndex_neg (by omega) h1, e], by omega, h1, by omega⟩
    · rw [if_neg h1] at h; cases h
theorem atI_get {α : Type} {xs : List α} {i : Int} {v : α} (h : atI xs i = some v) : ∃ j, seqIndex? i xs.length = some j ∧ xs[j]? = some v ∧ j < xs.length ∧ -(xs.length : Int) ≤ i ∧ i < xs.length := by
  unfold atI at h
  cases e : ixN xs.length i with
  | none => rw [e] at h; cases h
  | some j =>
    rw [e] at h
    obtain ⟨h1, h2, h3, h4⟩ := ixN_seq e
    exact ⟨j, h1, h, h2, h3, h4⟩
theorem atI_nat {α : Type} {xs : List α} {j : Nat} {v : α} (h : xs[j]? = some v) : atI xs (j : Int) = some v := by
  have hj : j < xs.length := (List.getElem?_eq_some_iff.mp h).1
  have e : ixN xs.length (j : Int) = some j := by
    unfold ixN
    rw [if_pos (by omega), if_pos (by omega)]; simp
  unfold atI; rw [e]; exact h
noncomputable def PlainIx (b : Expr) : Prop := ∀ o i, subscripted b false o i = operate [o, i] (getItem o i)
noncomputable def IxR (X : Cx) (r : R2) : Prop :=
  ∀ (value slice : Expr) (pins : List (Addr × Obj)) (s : Shared) (σ : St) (H : Hp) (x y : V) (v u : Value) (Q : VK), Inv X pins σ H s → RelV x v → RelV y u → r x y H Q →
    subscripted slice false v u = operate [v, u] (getItem v u) → wpAny (model X.prog X.w) X.A (subscriptTail value slice v u) (EP X pins σ Q) X.xe s
noncomputable def MtR (X : Cx) (id : String) (r : V → List V → Hp → VK → Prop) : Prop :=
  ∀ (pins : List (Addr × Obj)) (s : Shared) (σ : St) (H : Hp) (x : V) (xs : List V) (v : Value) (us : List Value) (Q : VK), Inv X pins σ H s → RelV x v → Vals xs us → r x xs H Q →
    wpAny (model X.prog X.w) X.A (call (.builtin id) (v :: us)) (EP X pins σ Q) X.xe s
section
variable {X : Cx} {a b : Expr} {ta tb : TE} {pos : Pos}
theorem pe_ix {r : R2} (hr : IxR X r) (ha : PE X a ta) (hb : PE X b tb) (hs : PlainIx b) : PE X (.Subscript a b pos) (tOp r ta tb) := by
  intro pins s σ H Q I h
  exact Subscript_ (binT ha hb I h fun v u s2 x y H2 I2 rx ry q => hr a b pins s2 σ H2 x y v u Q I2 rx ry q (hs _ _))
noncomputable def rIxL (K : PySem.W.Frag) : R2 := fun x y H Q => ∃ p xs i v, x = .ref p ∧ y = .int i ∧ SqL K H p xs ∧ atI xs i = some v ∧ Q v H
noncomputable def rIxT (K : PySem.W.Frag) : R2 := fun x y H Q => ∃ p xs i v, x = .ref p ∧ y = .int i ∧ SqT K H p xs ∧ atI xs i = some v ∧ Q v H
noncomputable def rIxS : R2 := fun x y H Q => ∃ z i c, x = .str z ∧ y = .int i ∧ z.length ≤ sizeLine ∧ atI z.cps.toList i = some c ∧ Q (.str ⟨#[c]⟩) H
theorem ix_list : IxR X (rIxL X.K) := by
  intro value slice pins s σ H x y v u Q I rx ry h hs
  obtain ⟨p, xs, i, z, rfl, rfl, hq, he, q⟩ := h
  cases rx
  obtain ⟨t, rfl⟩ := ry
  obtain ⟨its, r, pl, hz⟩ := I.list hq
  obtain ⟨j, h1, h2, h3, h4, h5⟩ := atI_get he
  obtain ⟨w, ew, rw'⟩ := r.get h2
  have hl := r.length
  have hn := line63
  have fin : EP X pins σ Q w s := ⟨z, H, I, rw', q⟩
  by_cases h0 : 0 ≤ i
  · have hj : i.toNat = j := by
      rw [seqIndex_of h0 h5] at h1
      exact Option.some.inj h1
    exact item_listR pl.isList h0 (by omega) (by rw [hj]; simpa using ew) fin hs
  · have hj : (i + (its.toArray.size : Int)).toNat = j := by
      rw [seqIndex_neg (by omega) h4] at h1
      rw [List.size_toArray, ← hl]
      exact Option.some.inj h1
    exact subscriptTail_builtinR (x := w) pl.isList.typeIs slot_list_getitem.lookup
      (wpAny_getItem_list_neg (Q := fun r s' => r = w ∧ EP X pins σ Q r s') pl.isList (by omega) (by rw [List.size_toArray] <;> omega) (by omega) (by rw [hj]; simpa using ew) ⟨rfl, fin⟩) hs
theorem ix_tup : IxR X (rIxT X.K) := by
  intro value slice pins s σ H x y v u Q I rx ry h hs
  obtain ⟨p, xs, i, z, rfl, rfl, hq, he, q⟩ := h
  cases rx
  obtain ⟨t, rfl⟩ := ry
  obtain ⟨its, r, pl, hz⟩ := I.tuple hq
  obtain ⟨j, h1, h2, h3, h4, h5⟩ := atI_get he
  obtain ⟨w, ew, rw'⟩ := r.get h2
  have hl := r.length
  have hn := line63
  have fin : EP X pins σ Q w s := ⟨z, H, I, rw', q⟩
  exact subscriptTail_builtinR (x := w) pl.typeIs slot_tuple_getitem.lookup
    (getItem_tuple (j := j) (Q := fun r s' => r = w ∧ EP X pins σ Q r s') pl (by omega) (by omega) (by rw [List.size_toArray, ← hl]; exact h1) (by simpa using ew) ⟨rfl, fin⟩) hs
theorem ix_str : IxR X rIxS := by
  intro value slice pins s σ H x y v u Q I rx ry h hs
  obtain ⟨z, i, c, rfl, rfl, hz, he, q⟩ := h
  obtain ⟨t, rfl⟩ := rx
  obtain ⟨t', rfl⟩ := ry
  obtain ⟨j, h1, h2, h3, h4, h5⟩ := atI_get he
  have hl : z.cps.toList.length = z.length := by simp [Str.length]
  rw [hl] at h1 h4 h5
  have hn := line63
  exact tail_any (typeIs_str s z t) slot_str_getitem.lookup (getItem_str (c := c) (by
    have e1 : decide (i < -(2 ^ 63 : Int)) = false := decide_eq_false (by omega)
    have e2 : decide (i ≥ 2 ^ 63) = false := decide_eq_false (by omega)
    rw [e1, e2, Bool.or_false]) (by rw [h1]; simpa using h2) ⟨.str ⟨#[c]⟩, H, I.tok _, ⟨_, rfl⟩, q⟩) hs
theorem Inv.lst {pins : List (Addr × Obj)} {σ : St} {H : Hp} {s : Shared} {p : Addr} {xs : List V} (I : Inv X pins σ H s) (h : H p = some (.lst xs)) :
    ∃ (its : List Value) (n : Nat), Vals xs its ∧ s.heap.get? p = some { cls := .type "list", data := .seq its.toArray n } ∧ xs.length ≤ sizeLine := by
  obtain ⟨z, its, n, r, e⟩ := I.hok p _ h
  exact ⟨its, n, r, e, z⟩
theorem call_len_seq : CallR X (.builtin "len") (fun xs H Q => ∃ p ys, xs = [.ref p] ∧ (SqL X.K H p ys ∨ SqT X.K H p ys) ∧ Q (.int ys.length) H) := by
  intro pins s σ H xs us Q I r h
  obtain ⟨p, ys, rfl, hq, q⟩ := h
  obtain ⟨u, rfl, rx⟩ := vals1 r
  cases rx
  have hn := line63
  rcases hq with hq | hq
  · obtain ⟨its, r', pl, hz⟩ := I.list hq
    have hlen := r'.length
    exact Calls.call_len_list pl.isList (by simp only [List.size_toArray] <;> omega) ⟨.int ys.length, H, I.tok _, ⟨s.toks + 1, by rw [List.size_toArray, hlen]⟩, q⟩
  · obtain ⟨its, r', pl, hz⟩ := I.tuple hq
    have hlen := r'.length
    exact len_tuple pl (by simp only [List.size_toArray] <;> omega) ⟨.int ys.length, H, I.tok _, ⟨s.toks + 1, by rw [List.size_toArray, hlen]⟩, q⟩
theorem call_len_str : CallR X (.builtin "len") (fun xs H Q => ∃ z, xs = [.str z] ∧ z.length ≤ sizeLine ∧ Q (.int z.length) H) := by
  intro pins s σ H xs us Q I r h
  obtain ⟨z, rfl, hz, q⟩ := h
  obtain ⟨u, rfl, t, rfl⟩ := vals1 r
  have hn := line63
  exact len_str (by omega) ⟨.int z.length, H, I.tok _, ⟨_, rfl⟩, q⟩
noncomputable def tyV (K : PySem.W.Frag) (T : String) (x : V) (H : Hp) : Prop := match x with
  | .str _ => T = "str"
  | .int _ => T = "int"
  | .ref p => (T = "list" ∧ ∃ xs, SqL K H p xs) ∨ (T = "tuple" ∧ ∃ o, K.lookup p = some o ∧ o.cls = .type "tuple" ∧ o.dict = none) ∨
      (T = "dict" ∧ ((∃ kvs, H p = some (.dK kvs)) ∨ ∃ kvs, H p = some (.dT kvs))) ∨ (T = "set" ∧ ∃ S n, H p = some (.set S n))
  | _ => False
theorem tyV_is {pins : List (Addr × Obj)} {σ : St} {H : Hp} {s : Shared} {T : String} {x : V} {v : Value} (I : Inv X pins σ H s) (r : RelV x v) (ty : tyV X.K T x H) :
    s.TypeIs v T ∧ ∀ a, v = .ref a → ∃ ob, s.heap.get? a = some ob ∧ ob.dict = none := by
  cases x with
  | str z =>
    obtain ⟨t, rfl⟩ := r
    cases (show T = "str" from ty)
    exact ⟨typeIs_str s z t, fun _ e => nomatch e⟩
  | int i =>
    obtain ⟨t, rfl⟩ := r
    cases (show T = "int" from ty)
    exact ⟨typeIs_int s i t, fun _ e => nomatch e⟩
  | ref p =>
    cases r
    rcases ty with ⟨rfl, xs, hq⟩ | ⟨rfl, o, hk, hc, hd⟩ | ⟨rfl, hk⟩ | ⟨rfl, S, n, hk⟩
    · obtain ⟨its, _, pl, _⟩ := I.list hq
      refine ⟨pl.isList.typeIs, fun a e => ?_⟩
      cases e
      obtain ⟨o, n, e, c, hd, _⟩ := pl
      exact ⟨o, e, hd⟩
    · refine ⟨⟨o, I.kIn p o hk, hc⟩, fun a e => ?_⟩
      cases e
      exact ⟨o, I.kIn _ o hk, hd⟩
    · have z : ∃ o, s.heap.get? p = some o ∧ o.ExactDict := by
        rcases hk with ⟨kvs, hk⟩ | ⟨kvs, hk⟩
        · obtain ⟨_, _, _, _, o, _, _, e, ex, _⟩ := I.hok p _ hk
          exact ⟨o, e, ex⟩
        · obtain ⟨_, _, _, _, o, _, _, e, ex, _⟩ := I.hok p _ hk
          exact ⟨o, e, ex⟩
      obtain ⟨o, e, ex⟩ := z
      refine ⟨⟨o, e, ex.1⟩, fun a e2 => ?_⟩
      cases e2
      exact ⟨o, e, ex.2.1⟩
    · obtain ⟨o, _, _, _, e, ex, _⟩ := I.hok p _ hk
      refine ⟨⟨o, e, ex.1⟩, fun a e2 => ?_⟩
      cases e2
      exact ⟨o, e, ex.2.1⟩
  | _ => exact False.elim ty
noncomputable def tBM (K : PySem.W.Frag) (T : String) (r : V → List V → Hp → VK → Prop) (to : TE) (t : TA) : TE := fun σ H Q => to σ H fun x H1 => tyV K T x H1 ∧ t σ H1 fun xs H2 => r x xs H2 Q
variable {o e : Expr} {es : List Expr} {to : TE} {t : TA} {name : Str} {apos cpos : Pos} {T id : String} {r : V → List V → Hp → VK → Prop}
theorem pe_bm (pa : PlainAttrs T) (slot : Slot T name id) (hty : typeOf (.builtin id) = pure (.type "method_descriptor")) (hm : MtR X id r) (ho : PE X o to) (ha : PA X (e :: es) t)
    (hbase : attributeBase o name X.env (eval o X.env) = eval o X.env := by rfl)
    (hfew : ((backTo cpos (starEach (e :: es) X.env)).all (fun x => !x.1) && (backToKw cpos (keywordEach [] X.env)).all (fun x => x.1.isSome)
      && decide ((e :: es).length + ([] : List Keyword).length + (if ([] : List Keyword).isEmpty then 0 else 1) < 30)) = true := by rfl)
    (hline : (apos.endLine == cpos.line) = true := by rfl) (hs : starEach (e :: es) X.env = (false, eval e X.env) :: starEach es X.env := by rfl) (hplain : (backTo cpos (starEach es X.env)).any (·.1) = false := by rfl) :
    PE X (.Call (.Attribute o name apos) (e :: es) [] cpos) (tBM X.K T r to t) := by
  intro pins s σ H Q I h
  refine wpAny_Call_method_late hbase hfew hline rfl (thn (ho pins s σ H _ I h) fun v s1 ⟨x, H1, I1, r1, ty, q1⟩ => ?_)
  obtain ⟨h1, h2⟩ := tyV_is I1 r1 ty
  refine ⟨T, id, pa, slot, hty, h1, h2, ?_⟩
  have hA := ha cpos pins s1 σ H1 _ I1 q1
  rw [hs] at hA ⊢
  refine Calls.callWith_builtin (by show (false || (backTo cpos (starEach es X.env)).any (·.1)) = false; rw [hplain] <;> rfl) (Calls.evalArgs_plain ?_)
  exact thn hA fun us s2 ⟨vs, H2, I2, r2, q2⟩ => hm pins s2 σ H2 x vs v us Q I2 r1 r2 q2
end
end L2
namespace L2
open PySem PySem.Spec PyProof.Rows
noncomputable def MtM (X : Cx) (id : String) (r : V → List V → Hp → VK → Prop) : Prop :=
  ∀ (pins : List (Addr × Obj)) (s : Shared) (σ : St) (H : Hp) (x : V) (xs : List V) (v : Value) (us : List Value) (Q : VK), Inv X pins σ H s → RelV x v → Vals xs us → r x xs H Q →
    wpAny (model X.prog X.w) X.A (call (.builtin id) (v :: us)) (EP X pins σ Q) X.xe s
theorem Vals.one : ∀ {x : V} {us : List Value}, Vals [x] us → ∃ u, us = [u] ∧ RelV x u
  | _, _, .cons r .nil => ⟨_, rfl, r⟩
theorem Vals.two : ∀ {x y : V} {us : List Value}, Vals [x, y] us → ∃ u v, us = [u, v] ∧ RelV x u ∧ RelV y v
  | _, _, _, .cons r (.cons q .nil) => ⟨_, _, rfl, r, q⟩
theorem Vals.zero : ∀ {us : List Value}, Vals [] us → us = []
  | _, .nil => rfl
theorem Vals.reverse {xs : List V} {us : List Value} (h : Vals xs us) : Vals xs.reverse us.reverse := by
  induction h with
  | nil => exact .nil
  | cons r t ih => rw [List.reverse_cons, List.reverse_cons]; exact Vals.append ih (.cons r .nil)
section
variable {X : Cx} {pins : List (Addr × Obj)} {σ : St} {H : Hp} {s : Shared} {l b : Addr} {xs ys zs : List V}
theorem Inv.lset {its its' : List Value} {n : Nat} {f : Array Value → Array Value} {t' : Nat} (I : Inv X pins σ H s) (hH : H l = some (.lst xs))
    (e : s.heap.get? l = some { cls := .type "list", data := .seq its.toArray n }) (hf : f its.toArray = its'.toArray) (hv : Vals ys its') (hz : ys.length ≤ sizeLine) :
    Inv X pins σ (upd H l (.lst ys)) { s with heap := s.heap.update l (Obj.mapSeq f), toks := t' } := by
  have q := PySem.IsL.update e f
  rw [hf] at q
  refine I.write (x := l) (e := l) (by rw [hH]; exact trivial) (.inl rfl) (fun b' u hb hu => (Heap.get?_update_other s.heap (Obj.mapSeq f) (Ne.symm hb)).trans hu) ⟨_, q⟩ ?_
  exact ⟨hz, its', _, hv, q⟩
theorem Inv.lnew {its : List Value} {t' : Nat} (I : Inv X pins σ H s) (hv : Vals ys its) (hz : ys.length ≤ sizeLine) :
    Inv X pins σ (upd H s.heap.objs.size (.lst ys)) { s with heap := s.heap.push { cls := .type "list", data := .seq its.toArray }, toks := t' } :=
  I.laid (fun _ _ q => Heap.get?_push_of_some _ q) (Nat.le_refl _) ⟨hz, its, 0, hv, Heap.get?_push_size _ rfl⟩
theorem Inv.fresh (I : Inv X pins σ H s) : H s.heap.objs.size = none := I.hok.fresh (Nat.le_refl _)
theorem Inv.lstM (I : Inv X pins σ H s) (hH : H l = some (.lst xs)) : xs.length ≤ sizeLine ∧ ∃ (its : List Value) (n : Nat), Vals xs its ∧ xs.length = its.length ∧ s.heap.get? l = some { cls := .type "list", data := .seq its.toArray n } := by
  obtain ⟨z, its, n, r, e⟩ := I.hok l _ hH
  exact ⟨z, its, n, r, r.length, e⟩
end
section
variable {X : Cx}
noncomputable def rAppend : V → List V → Hp → VK → Prop := fun x vs H Q => ∃ l xs y, x = .ref l ∧ vs = [y] ∧ H l = some (.lst xs) ∧ xs.length < sizeLine ∧ Q .non (upd H l (.lst (xs ++ [y])))
theorem mt_append : MtM X "list.append" rAppend := by
  intro pins s σ H x vs v us Q I rx rv h
  obtain ⟨l, xs, y, rfl, rfl, hH, hz, q⟩ := h
  cases rx
  obtain ⟨u, rfl, ru⟩ := rv.one
  obtain ⟨z, its, n, r, hl, e⟩ := I.lstM hH
  refine call_meets F.slot_list_append ⟨_, e, rfl⟩ F.entry_list_append (F.args_list_append_2 _ _) (PySem.list_append l its.toArray n u (by rw [List.size_toArray]; omega)) ⟨e, ?_⟩
  refine ⟨.non, _, I.lset (its' := its ++ [u]) hH e (by simp) (r.append (.cons ru .nil)) ?_, rfl, q⟩
  rw [List.length_append, List.length_singleton]
  omega
noncomputable def rCat : R2 := fun x y H Q => ∃ l b xs zs, x = .ref l ∧ y = .ref b ∧ H l = some (.lst xs) ∧ H b = some (.lst zs) ∧ xs.length + zs.length ≤ sizeLine ∧ ∀ p, H p = none → Q (.ref p) (upd H p (.lst (xs ++ zs)))
theorem op_cat : OpR X (binaryOp .Add) rCat := by
  intro pins s σ H x y v u Q I rx ry h
  obtain ⟨l, b, xs, zs, rfl, rfl, hH, hB, hz, q⟩ := h
  cases rx
  cases ry
  obtain ⟨z, its, n, r, hl, e⟩ := I.lstM hH
  obtain ⟨z2, its2, n2, r2, hl2, e2⟩ := I.lstM hB
  refine PySem.P.add_list e e2 ?_ (by rw [List.size_toArray, List.size_toArray]; omega)
  have ea : its.toArray ++ its2.toArray = (its ++ its2).toArray := by simp
  rw [ea]
  exact ⟨.ref _, _, I.lnew (t' := s.toks) (r.append r2) (by rw [List.length_append]; omega), rfl, q _ I.fresh⟩
end
section
variable {prog : Program} {w : World} {A : Around} {E : Value → Shared → Prop} {s : Shared}
end
section
variable {X : Cx}
end
end L2
namespace Att
open PySem PySem.W PySem.Calls PyProof.Rows
theorem ints_of_wellAll {P : Params} {h : Heap} : ∀ (ns : List Int) (vs : List Value), WellAll P h vs (ns.map WData.int) → IntsAre vs ns := by
  intro ns
  induction ns with
  | nil =>
    intro vs w
    rw [List.map_nil] at w
    cases w
    exact .nil
  | cons n ns ih =>
    intro vs w
    rw [List.map_cons] at w
    cases w with
    | cons a b =>
      cases a
      exact .cons _ _ (ih _ b)
theorem script_of {l : OpenLaw} {n : Nat} (hn : l.most = some n) {P : Params} {h : Heap} {args : List WData} {vals : List Value}
    (hpre : l.row.toRowW.claim.pre args = true) (hwl : WellAll P h vals args) :
    ∃ a vs ns, vals = [Value.ref a] ∧ args = [WData.list (ns.map WData.int)] ∧ h.get? a = some { cls := .type "list", data := .seq vs.toArray } ∧ IntsAre vs ns ∧ ns.length ≤ n := by
  have hsh : WShape.hasAll [] args [.list .int] = true := (pre_splitW hpre).1
  have hc : l.pre.holds [] { args := args } = true := (pre_splitW hpre).2
  obtain ⟨d, r, rfl, h1, h2⟩ := hasAllW_cons hsh
  obtain rfl := hasAllW_nil h2
  obtain ⟨xs, rfl, h3⟩ := hasW_list h1
  obtain ⟨ns, rfl⟩ := items_int h3
  have hlen : ns.length ≤ n := by
    unfold OpenLaw.pre at hc
    have h4 : (WTm.not (.lt (.lit (.int (n : Int))) (.len (.arg 0)))).holds [] { args := [.list (ns.map .int)] } = true := by
      have h4 := (holds_andW hc).1
      rw [hn] at h4
      exact h4
    have h5 := condW_of h4 (w_not (w_lt w_lit (w_len_list (w_arg rfl))))
    rw [List.length_map] at h5
    refine Nat.le_of_not_lt fun q => ?_
    have q' : (n : Int) < ((ns.length : Nat) : Int) := by omega
    first
      | (rw [decide_eq_true q'] at h5; exact absurd h5 (by decide))
      | (simp at h5; omega)
  cases hwl with
  | cons w1 w2 =>
    cases w2
    cases w1 with
    | list ho hall => exact ⟨_, _, ns, rfl, rfl, ho, ints_of_wellAll ns _ hall, hlen⟩
theorem post_true (l : OpenLaw) (args : List WData) : l.row.toRowW.claim.post args (.bool true) args = true :=
  postW_of (r := l.row.toRowW) (X := (true == true))
    (show WShape.has [] (.bool true) .bool = true by first | rfl | decide | simp [WShape.has, WShape.arms, WShape.armsAll])
    (show (WTm.eq .res (.lit (.bool true))).value [] { args := args, res := some (.bool true), after := args } = some (.bool (true == true)) from w_eq_bool (w_res rfl) w_lit) rfl
theorem attach_call {l : OpenLaw} {n : Nat} {q : Program} {loose : List Str} {XP : (Str → Option Value) → Heap → Prop} {YP : World → Heap → Prop} {d : DefRec}
    (hn : l.most = some n) (hdf : d.params.defaults = [])
    (call : ∀ (w : World) (s₀ s₁ : Shared) (mg mb : Str → Option Value) (fa : Addr) (o : Obj) (pm cd doc : Value) (a : Addr) (vs : List Value) (ns : List Int),
      Ground q loose [] XP w s₀ mg mb s₁.heap → YP w s₁.heap →
      s₁.heap.get? fa = some o → o.data = .func (docDef d.name d.params d.body d.scope pm cd doc) → s₁.heap.CodeRec cd d.name → mg d.name = some (.ref fa) →
      s₁.heap.get? a = some { cls := .type "list", data := .seq vs.toArray } → IntsAre vs ns → ns.length ≤ n → s₁.gens = #[] →
      codeAny (model l.prog w) callerA (.call (.ref fa) ⟨[.ref a], []⟩) (fun r s' => r = .ok (.ret (.bool true)) ∧ OldK s₁.heap s'.heap ∧ s'.os = s₁.os ∧ AllBare s'.gens) s₁) :
    WalkO q loose XP YP l.row.toRowW d [] (fun f vs => PySem.call f vs) := by
  intro w s₀ s₁ mg mb G Y fa o pm cd doc dV kV ho hd hcd hD hmg hg args vals as hpre hlay hrd hwl hlo
  obtain rfl : dV = .none := Dflts.none hD hdf
  obtain rfl : kV = .none := Dflts.noKw hD
  obtain ⟨a, vs, ns, rfl, rfl, hobj, hints, hlen⟩ := script_of hn hpre hwl
  refine enter_call (codeAny_mono (call w s₀ s₁ mg mb fa o pm cd doc a vs ns G Y ho (fd_plain hd) hcd hmg hobj hints hlen hg) fun r s' hq => ?_)
  obtain ⟨rfl, h2, h3, h4⟩ := hq
  exact ⟨.inl ⟨.bool true, .bool true, [], rfl, fun _ => rfl, .bool true, post_true l _, fun _ => ⟨List.Pairwise.nil, fun _ hm => (nomatch hm)⟩⟩, h2, h3, h4⟩
section
variable {prog : Program} {w : World} {A : Around} {E : Value → Shared → Prop} {s : Shared} {K : Frag}
end
end Att
namespace L2
open PySem PySem.Spec PyProof.Rows
theorem vals_ints : ∀ {vs : List Value} {ns : List Int}, IntsAre vs ns → Vals (ns.map V.int) vs
  | _, _, .nil => .nil
  | _, _, .cons n t h => .cons ⟨t, rfl⟩ (vals_ints h)
noncomputable def Only (H : Hp) : Prop := ∀ b, H b = none ∨ ∃ o xs, H b = some (.frz o (.lst xs))
theorem law_call {P : Program} {w : World} {K : PySem.W.Frag} {mg mb : Str → Option Value} {CX : CXT} {k : Nat} {fa a : Addr} {fd : FuncData} {x : Str} {sp : Sp} {s₁ : Shared} {vs : List Value} {ns : List Int}
    (KX : K.In s₁.heap) (hns : s₁.heap.Ns mainGlobals mg) (hb : s₁.heap.Ns builtinsNs mb) (hbb : ∀ x : Str, x ≠ "__name__" → mb x = bootBuiltins x) (hlim : s₁.heap.NoLimit) (hg : s₁.gens = #[])
    (ha : s₁.heap.get? a = some { cls := .type "list", data := .seq vs.toArray }) (hi : IntsAre vs ns) (hl : ns.length ≤ sizeLine) (hr : Room k callerA)
    (F : ∀ base : Heap, K.In base → base.Ns mainGlobals mg → FnOk P w K mg base CX k fa fd [x] sp) (hbind : ∀ (s : Shared) (u : Value), BindsTo s fd ⟨[u], []⟩ [(x, u)])
    (hsp : ∀ H : Hp, Only H → SqL K H a (ns.map V.int) → sp [.ref a] H (fun v _ => v = .bl true) fun _ _ _ => False)
    (hCX : ∀ H e s', CX [] H s₁ (fun _ _ _ => False) e s' → False) :
    codeAny (model P w) callerA (.call (.ref fa) ⟨[.ref a], []⟩) (fun r s' => r = .ok (.ret (.bool true)) ∧ OldK s₁.heap s'.heap ∧ s'.os = s₁.os ∧ AllBare s'.gens) s₁ := by
  have rv := vals_ints hi
  have lenV := hi.length
  -- from an abstract heap in which nothing but the script may be tracked
  have core : ∀ H : Hp, Only H → SqL K H a (ns.map V.int) → HOk P w H s₁.heap → (∀ b, H b ≠ none → b = a) → (H a ≠ none → K.lookup a = none) →
      codeAny (model P w) callerA (.call (.ref fa) ⟨[.ref a], []⟩) (fun r s' => r = .ok (.ret (.bool true)) ∧ OldK s₁.heap s'.heap ∧ s'.os = s₁.os ∧ AllBare s'.gens) s₁ := by
    intro H hO hS hok hA hK
    have base_of : ∀ {b : Addr} {o : Obj}, s₁.heap.get? b = some o → H b = none → (hidT s₁.heap H).get? b = some o := fun e n => hidT_get e n
    have noA : ∀ {b : Addr} {o : Obj} {es : Array DictEntry} {ep : Nat}, s₁.heap.get? b = some o → o.data = .dict es ep → H b = none := fun {b o es ep} e d => by
      cases q : H b with
      | none => rfl
      | some u =>
        have e' : b = a := hA b (by rw [q]; simp)
        subst e'
        rw [ha] at e; cases e
        have d' : Data.seq vs.toArray _ = Data.dict es ep := d
        cases d'
    have nsK : ∀ {b : Addr} {m : Str → Option Value}, s₁.heap.Ns b m → (hidT s₁.heap H).Ns b m := fun {b m} ⟨o, es, ep, e, d, r⟩ => ⟨o, es, ep, base_of e (noA e d), d, r⟩
    have hKb : K.In (hidT s₁.heap H) := fun b o e => base_of (KX b o e) (by
      cases q : H b with
      | none => rfl
      | some u =>
        have e' : b = a := hA b (by rw [q]; simp)
        subst e'
        rw [hK (by rw [q]; simp)] at e; cases e)
    have hM : Mod K mg (hidT s₁.heap H) := ⟨hKb, nsK hns, ⟨mb, nsK hb, hbb⟩, let ⟨mc, h1, h2⟩ := hlim; ⟨mc, nsK h1, h2⟩⟩
    have e0 : Env0 P w K mg (hidT s₁.heap H) callerA [] s₁ H := ⟨rfl, hM, fun b o e => of_hidT e, Nat.le_of_eq (hidT_size _ _), trivial, fun b hb => absurd (show b ∈ ([] : List Addr) from hb) (by simp), hok, .of_eq hg⟩
    refine codeAny_mono ((F _ hKb (nsK hns)).run callerA [] s₁ H ⟨[.ref a], []⟩ [.ref a] [.ref a] _ _ hr e0 (hbind s₁ (.ref a)) (.cons rfl .nil) (hsp H hO hS)) fun r s' h => ?_
    cases r with
    | error e => exact (hCX H e s' h).elim
    | ok fl =>
      cases fl with
      | next => exact False.elim h
      | brk => exact False.elim h
      | cont => exact False.elim h
      | ret u =>
        obtain ⟨v, H', os, bare, un, hok', r', q⟩ := h
        have q' : v = .bl true := q
        subst q'
        obtain rfl : u = Value.bool true := r'
        refine ⟨rfl, OldK.of_keep fun b o e => ?_, os, bare⟩
        cases q : H b with
        | none => exact un.keep b o e q (by intro z; exact absurd (show b ∈ ([] : List Addr) from z) (by simp)) (by simp)
        | some u =>
          rcases hO b with z | ⟨ob, xs, z⟩
          · rw [q] at z; cases z
          · have z2 := un.frzs b ob _ z
            obtain ⟨e1, _⟩ := hok b _ z
            obtain ⟨e2, _⟩ := hok' b _ z2
            rw [e] at e1; cases e1
            exact e2
  cases hk : K.lookup a with
  | some o =>
    -- the script is one of the module's own objects
    have e := KX a o hk
    rw [ha] at e
    cases e
    refine core (fun _ => none) (fun _ => .inl rfl) (.inr ⟨_, vs.toArray, _, hk, rfl, rfl, rfl, by rw [List.size_toArray, lenV]; exact hl, by simpa using rv⟩) (fun b u z => by have z' : (none : Option HO) = some u := z; cases z') (fun b z => absurd rfl z) fun z => absurd rfl z
  | none =>
    refine core (fun b => if b = a then some (.frz { cls := .type "list", data := .seq vs.toArray } (.lst (ns.map V.int))) else none) (fun b => ?_) (.inl (.inr ⟨{ cls := .type "list", data := .seq vs.toArray }, if_pos rfl⟩)) (fun b u z => ?_) (fun b z => ?_) fun _ => hk
    · by_cases hb : b = a
      · exact .inr ⟨_, _, if_pos hb⟩
      · exact .inl (if_neg hb)
    · by_cases hb : b = a
      · have z' := (if_pos hb).symm.trans z
        cases z'
        subst hb
        exact ⟨ha, by rw [List.length_map]; exact hl, vs, _, rv, ha⟩
      · have z' := (if_neg hb).symm.trans z
        cases z'
    · by_cases hb : b = a
      · exact hb
      · exact absurd (if_neg hb) z
end L2
namespace L2
open PySem PySem.Spec PyProof.Rows
theorem walk_of {l : PySem.W.OpenLaw} {n k : Nat} {q : Program} {loose : List Str} {XP : (Str → Option Value) → Heap → Prop} {YP : World → Heap → Prop} {d : DefRec} {K : Params → PySem.W.Frag} {CX : World → CXT} {sp : World → Sp} {x : Str}
    (hn : l.most = some n) (hn2 : n ≤ sizeLine) (hdf : d.params.defaults = []) (hr : Room k callerA)
    (hY : ∀ (w : World) (h : Heap), YP w h → (K w.params).In h)
    (F : ∀ (w : World) (mg : Str → Option Value) (fa : Addr) (h : Heap), (K w.params).In h → h.Ns mainGlobals mg → mg d.name = some (.ref fa) →
      ∃ fd : FuncData, (∀ (s : Shared) (u : Value), BindsTo s fd ⟨[u], []⟩ [(x, u)]) ∧
        ∀ base : Heap, (K w.params).In base → base.Ns mainGlobals mg → FnOk l.prog w (K w.params) mg base (CX w) k fa fd [x] (sp w))
    (hsp : ∀ (w : World) (H : Hp) (a : Addr) (ns : List Int), ns.length ≤ n → Only H → SqL (K w.params) H a (ns.map V.int) → sp w [.ref a] H (fun v _ => v = .bl true) fun _ _ _ => False)
    (hCX : ∀ (w : World) (H : Hp) (s : Shared) (e : Value) (s' : Shared), CX w [] H s (fun _ _ _ => False) e s' → False) :
    PySem.W.WalkO q loose XP YP l.row.toRowW d [] (fun f vs => PySem.call f vs) := by
  refine Att.attach_call hn hdf fun w s₀ s₁ mg mb fa o pm cd doc a vs ns G Y ho hd hcd hmg hobj hints hlen hg => ?_
  have KX := hY w _ Y
  obtain ⟨fd, hb, hF⟩ := F w mg fa _ KX G.T.g hmg
  exact law_call KX G.T.g G.T.b G.T.builtins G.T.nolimit hg hobj hints (Nat.le_trans hlen hn2) hr hF hb (fun H hO hS => hsp w H a ns hlen hO hS) fun H e s' => hCX w H s₁ e s'
end L2
namespace L2
open PySem PySem.Spec PyProof.Rows
noncomputable def defArgs (s : Stmt) : Arguments := match s with
  | .FunctionDef _ a _ _ _ _ _ _ _ _ => a
  | _ => { posonlyargs := [], args := [], vararg := none, kwonlyargs := [], kw_defaults := [], kwarg := none, defaults := [] }
noncomputable def defBody (s : Stmt) : List Stmt := match s with
  | .FunctionDef _ _ b _ _ _ _ _ _ _ => b
  | _ => []
noncomputable def defScope (s : Stmt) : Scope := match s with
  | .FunctionDef _ _ _ _ _ _ sc _ _ _ => sc
  | _ => { kind := .function, names := [], isGenerator := false, isCoroutine := false }
noncomputable abbrev CX0 : CXT := fun _ _ _ _ _ _ => False
noncomputable abbrev E0 : XK := fun _ _ _ => False
theorem pass0 {X : Cx} : Passes CX0 X E0 := fun _ _ _ _ _ _ _ h => h.elim
structure Fun (K : PySem.W.Frag) (x qual : Str) (st : Stmt) (f : Addr) (fd : FuncData) : Prop where
  ex : ∃ (oc : Value) (od : Option Addr) (kV doc pm : Value) (an : Option Addr) (cdv ct : Value) (osl : Array (Option Value)),
    fd = PySem.W.fnOf x qual (defArgs st) (defBody st) (defScope st) .none kV doc pm an cdv ct ∧ K.lookup f = some ⟨oc, od, .func fd, osl⟩ ∧ PySem.W.codeIn K cdv qual = true
  kp : PySem.W.keepIn K (.ref f) = true
section
variable {P : Program} {w : World} {K : PySem.W.Frag} {mg : Str → Option Value} {base : Heap}
theorem Fun.ok {x qual : Str} {st : Stmt} {f : Addr} {fd : FuncData} {N ps : List Str} {k : Nat} {sp : Sp} (F : Fun K x qual st f fd) (S : FnScope N ps (defScope st)) (len : ∀ vs H Q E, sp vs H Q E → vs.length = ps.length)
    (hbody : ∀ (cdv : Value) (A : Around) (outer : List Env) (s : Shared) (H : Hp) (vs : List V) (Q : VK) (E : XK), Room k (A.deeper (envOfC qual (defScope st) s.heap.objs.size f cdv)) → sp vs H Q E →
      ∃ t, PSs (cxOf CX0 P w K mg base N qual (defScope st) f cdv A outer s H E).nox (defBody st) t ∧ t { nx := fun _ H' => Q .non H', rt := Q } (start N vs) H) : FnOk P w K mg base CX0 (k + 1) f fd ps sp := by
  obtain ⟨oc, od, kV, doc, pm, an, cdv, ct, osl, rfl, lk, hcd⟩ := F.ex
  refine fn_of lk hcd S len fun A outer s H vs Q E hr hsp => ?_
  obtain ⟨t, h, q⟩ := hbody cdv A outer s H vs Q E hr hsp
  exact ⟨t, h.nox, q⟩
theorem Fun.binds {x qual : Str} {st : Stmt} {f : Addr} {fd : FuncData} {ps : List Str} (F : Fun K x qual st f fd)
    (h : ∀ (kV doc pm : Value) (an : Option Addr) (cdv ct : Value) (us : List Value), us.length = ps.length → bindArgs (PySem.W.fnOf x qual (defArgs st) (defBody st) (defScope st) .none kV doc pm an cdv ct) ⟨us, []⟩ = pure (ps.zip us)) : Binds K fd ps [] := by
  obtain ⟨oc, od, kV, doc, pm, an, cdv, ct, osl, rfl, lk, hcd⟩ := F.ex
  exact .all (h kV doc pm an cdv ct)
theorem fun_mk {x qual : Str} {st : Stmt} {f : Addr} {oc : Value} {od an : Option Addr} {osl : Array (Option Value)} {kV doc pm cdv ct : Value} (l : K.lookup f = some ⟨oc, od, .func (PySem.W.fnOf x qual (defArgs st) (defBody st) (defScope st) .none kV doc pm an cdv ct), osl⟩)
    (c : PySem.W.codeIn K cdv qual = true) (k : PySem.W.keepIn K (.ref f) = true) : Fun K x qual st f (PySem.W.fnOf x qual (defArgs st) (defBody st) (defScope st) .none kV doc pm an cdv ct) := ⟨⟨oc, od, kV, doc, pm, an, cdv, ct, osl, rfl, l, c⟩, k⟩
end
section
variable {X : Cx}
theorem pv (i : Nat) {x : Str} {pos : Pos} (hN : X.N[i]? = some x := by rfl) (hv : Vis X.env.scope x := by first | exact Or.inl rfl | exact Or.inr (Or.inl rfl) | exact Or.inr (Or.inr rfl)) (hd : (x == ("__debug__" : Str)) = false := by decide)
    (hcd : (x == ("__classdict__" : Str)) = false := by decide) : PE X (.Name x pos) (tVar i) := pe_var hN hv hd hcd
end
theorem iteF {A B : Prop} (h : B) : if false = true then A else B := by
  rw [if_neg Bool.false_ne_true]
  exact h
theorem iteT {A B : Prop} (h : A) : if true = true then A else B := by
  rw [if_pos rfl]
  exact h
theorem ite2 {c A B : Prop} [Decidable c] (h1 : c → A) (h2 : ¬ c → B) : if c then A else B := by
  by_cases h : c
  · rw [if_pos h]
    exact h1 h
  · rw [if_neg h]
    exact h2 h
theorem iteNS {c A B : Prop} [Decidable c] (hc : c) (h : B) : if (!decide c) = true then A else B := by
  rw [decide_eq_true hc]
  exact iteF h
noncomputable def Same (H H' : Hp) : Prop := ∀ b o, H b = some o → H' b = some o
theorem Same.refl (H : Hp) : Same H H := fun _ _ h => h
theorem Same.trans {H H1 H2 : Hp} (a : Same H H1) (b : Same H1 H2) : Same H H2 := fun c o h => b c o (a c o h)
theorem Same.free {H H' : Hp} (e : Same H H') {l : Addr} (h : H' l = Option.none) : H l = Option.none := by
  cases q : H l with
  | none => rfl
  | some o =>
    rw [e l o q] at h
    cases h
theorem Same.seq {K : PySem.W.Frag} {H H' : Hp} {a : Addr} {xs : List V} (e : Same H H') (h : SqL K H a xs) : SqL K H' a xs := by
  rcases h with (h | ⟨o, h⟩) | h
  · exact .inl (.inl (e _ _ h))
  · exact .inl (.inr ⟨o, e _ _ h⟩)
  · exact .inr h
end L2
set_option maxRecDepth 100000
namespace L3
open PySem
noncomputable def closL (cells : List (Str × Addr)) : List (Str × NameKind) → List (Str × Addr) → List (Str × Addr)
  | [], cs => cs
  | (n, k) :: r, cs => closL cells r (if k == .free then (match cells.lookup n with | some c => (n, c) :: cs | none => cs) else cs)
theorem closureFor_eq {scope : Scope} {env : Env} (h : ∀ x ∈ scope.names, x.2 = .free → (env.cells.lookup x.1).isSome = true) : closureFor scope env = pure (closL env.cells scope.names []) := by
  unfold closureFor
  dsimp only
  generalize scope.names = names at h ⊢
  generalize ([] : List (Str × Addr)) = cs
  induction names generalizing cs with
  | nil => rfl
  | cons x r ih =>
    obtain ⟨n, k⟩ := x
    have ih' := fun cs => ih (fun y hy => h y (List.mem_cons_of_mem _ hy)) cs
    rw [List.forIn_cons]
    by_cases hk : (k == NameKind.free) = true
    · have hs := h (n, k) List.mem_cons_self (by simpa using hk)
      obtain ⟨c, hc⟩ := Option.isSome_iff_exists.mp hs
      have hc' : env.cells.lookup n = some c := hc
      have e1 : cellOf env n = pure c := by unfold cellOf; rw [hc']
      simp only [hk, if_true, e1, closL, hc']
      exact ih' _
    · have hk' : (k == NameKind.free) = false := by simpa using hk
      simp only [hk', Bool.false_eq_true, if_false, closL]
      exact ih' _
theorem closL_lookup {cells : List (Str × Addr)} {x : Str} {c : Addr} : ∀ {names : List (Str × NameKind)} {cs : List (Str × Addr)}, (∀ c, cs.lookup x = some c → cells.lookup x = some c) → (closL cells names cs).lookup x = some c → cells.lookup x = some c
  | [], _, h, e => h c e
  | (n, k) :: r, cs, h, e => by
    unfold closL at e
    refine closL_lookup (names := r) (fun c' e' => ?_) e
    by_cases hk : (k == NameKind.free) = true
    · rw [if_pos hk] at e'
      cases hc : cells.lookup n with
      | none => rw [hc] at e'; exact h c' e'
      | some d =>
        rw [hc] at e'
        by_cases hx : (x == n) = true
        · have : x = n := by simpa using hx
          subst this
          simp only [List.lookup_cons, beq_self_eq_true] at e'
          cases e'
          exact hc
        · have hx' : (x == n) = false := by simpa using hx
          simp only [List.lookup_cons, hx'] at e'
          exact h c' e'
    · rw [if_neg hk] at e'
      exact h c' e'
theorem closL_keep {cells : List (Str × Addr)} {x : Str} : ∀ {names : List (Str × NameKind)} {cs : List (Str × Addr)}, (∃ c, cs.lookup x = some c) → ∃ c, (closL cells names cs).lookup x = some c
  | [], _, h => h
  | (n, k) :: r, cs, h => by
    unfold closL
    refine closL_keep (names := r) ?_
    by_cases hk : (k == NameKind.free) = true
    · rw [if_pos hk]
      cases hc : cells.lookup n with
      | none => exact h
      | some d =>
        by_cases hx : (x == n) = true
        · exact ⟨d, by simp only [List.lookup_cons, hx]⟩
        · have hx' : (x == n) = false := by simpa using hx
          simp only [List.lookup_cons, hx']
          exact h
    · rw [if_neg hk]; exact h
theorem closL_has {cells : List (Str × Addr)} {x : Str} {d : Addr} (hd : cells.lookup x = some d) : ∀ {names : List (Str × NameKind)} {cs : List (Str × Addr)}, (x, NameKind.free) ∈ names → ∃ c, (closL cells names cs).lookup x = some c
  | [], _, h => nomatch h
  | (n, k) :: r, cs, h => by
    unfold closL
    rcases List.mem_cons.mp h with e | e
    · cases e
      refine closL_keep (names := r) ⟨d, ?_⟩
      rw [if_pos (by rfl), hd]
      simp only [List.lookup_cons, beq_self_eq_true]
    · exact closL_has hd e
end L3
namespace L3
open PySem
open Sem (wp)
section
variable {prog : Program} {w : World} {A : Around} {R : Result → Shared → Prop} {s : Shared}
noncomputable abbrev testsOf (ifs : List Expr) (env : Env) : Sem Bool := forIn ifs true fun c r => if r = true then do let ok ← isTrue c env (eval c env); pure (ForInStep.yield ok) else pure (ForInStep.yield r)
theorem comp_loop {elt tg iter : Expr} {ifs : List Expr} {scope : Scope} {pos : Pos} {it acc : Value} {env : Env} (I : Nat → Shared → Prop)
    (turn : ∀ n s, I n s → wpAny (model prog w) A (pyNext it) (fun r s1 => match r with
      | none => R (.ok .next) s1
      | some v => wpAny (model prog w) A (letOwnedTupleGo tg it v) (fun _ s2 => wpAny (model prog w) A (assign tg env v) (fun _ s3 => wpAny (model prog w) A (testsOf ifs env) (fun ok s4 =>
          if ok = true then wpAny (model prog w) A (eval elt env) (fun x s5 => wpAny (model prog w) A (call (.builtin "list.append") [acc, x]) (fun _ s6 => ∃ m, m < n ∧ I m s6) (fun _ _ => False) s5) (fun _ _ => False) s4
          else ∃ m, m < n ∧ I m s4) (fun _ _ => False) s3) (fun _ _ => False) s2) (fun _ _ => False) s1) (fun _ _ => False) s)
    (n : Nat) (h : I n s) : codeAny (model prog w) A (.compLoop (.ListComp elt [⟨tg, iter, ifs, 0⟩] scope pos) 0 it acc env) R s := by
  refine codeAny_loop rfl I (fun n s hI => ?_) n h
  show wpAny _ A ((compTurn (.ListComp elt [⟨tg, iter, ifs, 0⟩] scope pos) 0 it acc env).onRaise (fun x => do noteFrame x env; theTreesLotGoes x)) _ _ s
  refine wpAny_noted ?_
  rw [compTurn_list]
  refine wpAny_bind (wpAny_standAt (wpAny_bind (wpAny_mono (turn n s hI) (fun r s1 h1 => ?_) fun _ _ z => z.elim)))
  cases r with
  | none => exact wpAny_pure h1
  | some v =>
    refine wpAny_bind (wpAny_mono h1 (fun _ s2 h2 => ?_) fun _ _ z => z.elim)
    refine wpAny_bind (wpAny_mono h2 (fun _ s3 h3 => wpAny_bind (wpAny_mono h3 (fun ok s4 h4 => ?_) fun _ _ z => z.elim)) fun _ _ z => z.elim)
    cases ok with
    | false => exact wpAny_pure ⟨rfl, h4⟩
    | true =>
      refine wpAny_bind (wpAny_bind (wpAny_mono h4 (fun x s5 h5 => wpAny_bind (wpAny_mono h5 (fun _ s6 h6 => wpAny_pure (wpAny_pure ⟨rfl, h6⟩)) fun _ _ z => z.elim)) fun _ _ z => z.elim))
end
end L3
namespace L3
open PySem
noncomputable def compOk (sc0 scope : Scope) (N N' : List Str) (sh : List Nat) : Bool :=
  (scope.kind == .function) && (scope.names.all fun y => y.2 != .cell && ((y.2 != .local || scope.names.lookup y.1 == some .local) && (y.2 != .free || sc0.names.lookup y.1 == some .cell))) &&
    ((N'.take N.length == N) && N.zipIdx.all fun p => scope.names.lookup p.1 != some .local || sh.contains p.2)
structure CompParts (sc0 scope : Scope) (N N' : List Str) (sh : List Nat) : Prop where
  kind : scope.kind = .function
  cell : ∀ y ∈ scope.names, y.2 ≠ .cell
  loc : ∀ y ∈ scope.names, y.2 = .local → scope.names.lookup y.1 = some .local
  free : ∀ y ∈ scope.names, y.2 = .free → sc0.names.lookup y.1 = some .cell
  pre : N'.take N.length = N
  shad : ∀ (i : Nat) (x : Str), N[i]? = some x → scope.names.lookup x = some .local → i ∈ sh
theorem compOk_parts {sc0 scope : Scope} {N N' : List Str} {sh : List Nat} (h : compOk sc0 scope N N' sh = true) : CompParts sc0 scope N N' sh := by
  unfold compOk at h
  rw [Bool.and_eq_true, Bool.and_eq_true, Bool.and_eq_true] at h
  obtain ⟨⟨h1, h2⟩, h3, h4⟩ := h
  rw [List.all_eq_true] at h2 h4
  have q : ∀ y ∈ scope.names, y.2 ≠ .cell ∧ (y.2 = .local → scope.names.lookup y.1 = some .local) ∧ (y.2 = .free → sc0.names.lookup y.1 = some .cell) := fun y hy => by
    have := h2 y hy
    rw [Bool.and_eq_true, Bool.and_eq_true] at this
    obtain ⟨a, b, c⟩ := this
    refine ⟨by simpa using a, fun e => ?_, fun e => ?_⟩
    · rw [e] at b; simpa using b
    · rw [e] at c; simpa using c
  refine ⟨by simpa using h1, fun y hy => (q y hy).1, fun y hy => (q y hy).2.1, fun y hy => (q y hy).2.2, by simpa using h3, fun i x e l => ?_⟩
  have := h4 (x, i) (by rw [List.mem_zipIdx_iff_getElem?]; simpa using e)
  simp only [l] at this
  simpa using this
theorem relab_inv {env : Env} {x : Str} {k : NameKind} : ∀ {names : List (Str × NameKind)}, (names.map fun (n, k) => if (k == NameKind.free && env.scope.kind == .function && env.kindOf n == some .cell) then (n, NameKind.cell) else (n, k)).lookup x = some k →
    ∃ k0, names.lookup x = some k0 ∧ (k = k0 ∨ (k0 = .free ∧ k = .cell))
  | [], h => by simp at h
  | (n, k1) :: r, h => by
    have ih := @relab_inv env x k r
    rw [List.map_cons] at h
    dsimp only at h
    by_cases hx : (x == n) = true
    · refine ⟨k1, by simp only [List.lookup_cons, hx], ?_⟩
      by_cases hc : (k1 == NameKind.free && env.scope.kind == .function && env.kindOf n == some .cell) = true
      · rw [if_pos hc] at h
        simp only [List.lookup_cons, hx] at h
        have : k1 = .free := by
          rw [Bool.and_eq_true, Bool.and_eq_true] at hc
          simpa using hc.1.1
        exact .inr ⟨this, (Option.some.inj h).symm⟩
      · rw [if_neg hc] at h
        simp only [List.lookup_cons, hx] at h
        exact .inl (Option.some.inj h).symm
    · have hx' : (x == n) = false := by simpa using hx
      by_cases hc : (k1 == NameKind.free && env.scope.kind == .function && env.kindOf n == some .cell) = true
      · rw [if_pos hc] at h
        simp only [List.lookup_cons, hx'] at h ⊢
        exact ih h
      · rw [if_neg hc] at h
        simp only [List.lookup_cons, hx'] at h ⊢
        exact ih h
theorem mem_of_look {x : Str} {k : NameKind} : ∀ {names : List (Str × NameKind)}, names.lookup x = some k → (x, k) ∈ names
  | [], h => by simp at h
  | (n, k1) :: r, h => by
    by_cases hx : (x == n) = true
    · have e : x = n := by simpa using hx
      subst e
      simp only [List.lookup_cons, beq_self_eq_true] at h
      cases h
      exact List.mem_cons_self
    · have hx' : (x == n) = false := by simpa using hx
      simp only [List.lookup_cons, hx'] at h
      exact List.mem_cons_of_mem _ (mem_of_look h)
noncomputable def blank {α : Type} (sh : List Nat) (σ : List (Option α)) : List (Option α) := sh.foldl (fun σ i => σ.set i none) σ
theorem blank_length {α : Type} : ∀ (sh : List Nat) (σ : List (Option α)), (blank sh σ).length = σ.length
  | [], _ => rfl
  | j :: sh, σ => by
    show (blank sh (σ.set j none)).length = _
    rw [blank_length sh, List.length_set]
theorem blank_get {α : Type} {i : Nat} {v : α} : ∀ {sh : List Nat} {σ : List (Option α)}, (blank sh σ)[i]? = some (some v) → i ∉ sh ∧ σ[i]? = some (some v)
  | [], σ, h => ⟨by simp, h⟩
  | j :: sh, σ, h => by
    have h' : (blank sh (σ.set j none))[i]? = some (some v) := h
    obtain ⟨h1, h2⟩ := blank_get h'
    by_cases e : j = i
    · subst e
      rw [List.getElem?_set] at h2
      simp at h2
    · rw [List.getElem?_set_ne e] at h2
      exact ⟨fun z => (List.mem_cons.mp z).elim (fun q => e q.symm) h1, h2⟩
end L3
namespace L3
open PySem
open Sem (wp)
section
variable {prog : Program} {w : World} {A : Around} {E : Value → Shared → Prop} {s : Shared}
structure AtT (it t : Addr) (xs : Array Value) (i : Nat) (h : Heap) : Prop where
  iter : h.IsTupleIter it t i
  tup : h.IsTuple t xs
theorem AtT.move {it t b : Addr} {xs : Array Value} {i : Nat} {h h' : Heap} (a : AtT it t xs i h) (k : Heap.ExtBut b h h') (h1 : it ≠ b) (h2 : t ≠ b) : AtT it t xs i h' := ⟨a.iter.extBut k h1, a.tup.extBut k h2⟩
theorem AtT.keeps {it t : Addr} {xs : Array Value} {i : Nat} {h h' : Heap} (a : AtT it t xs i h) (k1 : ∀ o, h.get? it = some o → h'.get? it = some o) (k2 : ∀ o, h.get? t = some o → h'.get? t = some o) : AtT it t xs i h' :=
  ⟨a.iter.at k1, let ⟨o, ho, r⟩ := a.tup; ⟨o, k2 o ho, r⟩⟩
theorem tnext_item {it t : Addr} {i : Nat} {xs : Array Value} {x : Value} {Q : Value → Shared → Prop} (a : AtT it t xs i s.heap) (hne : t ≠ it) (hx : xs[i]? = some x)
    (hQ : ∀ h', AtT it t xs (i + 1) h' → Heap.SameBut it s.heap h' → Q x { s with heap := h' }) : wpAny (model prog w) A (Builtin.SmallTypes.nextOf (.ref it)) Q E s := by
  obtain ⟨hit, ht⟩ := a
  have ht0 := ht
  obtain ⟨o, ho, hc, hd⟩ := id hit
  obtain ⟨ol, hol, _, nl, hdl⟩ := ht
  unfold Builtin.SmallTypes.nextOf
  refine wpAny_bind (wpAny_callSpecial?_slot (name := Str.ofString "__next__") hit.typeIs F.slot_tuple_iterator_next (wpAny_call_entry F.slot_tuple_iterator_next hit.typeIs F.entry_tuple_iterator_next ?_ (F.args_tuple_iterator_next_1 _)))
  show wpAny _ _ (field (.ref it) 0 >>= _) _ _ s
  refine wpAny_bind (wpAny_field ho hd (x := .ref t) rfl ?_)
  show wpAny _ _ (if (Value.ref t == Value.none) = true then _ else _) _ _ s
  rw [if_neg (show ¬ ((Value.ref t == Value.none) = true) from Bool.false_ne_true)]
  show wpAny _ _ (field (.ref it) 1 >>= _) _ _ s
  refine wpAny_bind (wpAny_field ho hd (x := .int i 0) rfl ?_)
  show wpAny _ _ (seqItems? (.ref t) >>= _) _ _ s
  refine wpAny_bind (wpAny_seqItems hol hdl ?_)
  simp only [Int.toNat_natCast, hx]
  refine wpAny_bind (wpAny_setField ho hd (by simp) (wpAny_pure ⟨x, rfl, wpAny_pure (hQ _ ⟨?_, ht0.extBut (Heap.SameBut.update ..).extBut hne⟩ (Heap.SameBut.update ..))⟩))
  refine ⟨_, Heap.get?_update_self _ ho (Obj.isFreed_of_fields (Obj.data_mapFields hd _)), (Obj.cls_mapFields ..).trans hc, ?_⟩
  rw [Obj.data_mapFields hd]; simp [rawInt]
theorem tnext_end {it t : Addr} {i : Nat} {xs : Array Value} {Q : Value → Shared → Prop} (hh : A.handled = none) (a : AtT it t xs i s.heap) (hx : xs[i]? = none)
    (hE : ∀ h' e, Heap.ExtBut it s.heap h' → (∃ o, h'.get? e = some o ∧ o.cls = .type "StopIteration") → E (.ref e) { s with heap := h' }) : wpAny (model prog w) A (Builtin.SmallTypes.nextOf (.ref it)) Q E s := by
  obtain ⟨hit, ht⟩ := a
  obtain ⟨o, ho, hc, hd⟩ := id hit
  obtain ⟨ol, hol, _, nl, hdl⟩ := ht
  unfold Builtin.SmallTypes.nextOf
  refine wpAny_bind (wpAny_callSpecial?_slot (name := Str.ofString "__next__") hit.typeIs F.slot_tuple_iterator_next (wpAny_call_entry F.slot_tuple_iterator_next hit.typeIs F.entry_tuple_iterator_next ?_ (F.args_tuple_iterator_next_1 _)))
  show wpAny _ _ (field (.ref it) 0 >>= _) _ _ s
  refine wpAny_bind (wpAny_field ho hd (x := .ref t) rfl ?_)
  show wpAny _ _ (if (Value.ref t == Value.none) = true then _ else _) _ _ s
  rw [if_neg (show ¬ ((Value.ref t == Value.none) = true) from Bool.false_ne_true)]
  show wpAny _ _ (field (.ref it) 1 >>= _) _ _ s
  refine wpAny_bind (wpAny_field ho hd (x := .int i 0) rfl ?_)
  show wpAny _ _ (seqItems? (.ref t) >>= _) _ _ s
  refine wpAny_bind (wpAny_seqItems hol hdl ?_)
  simp only [Int.toNat_natCast, hx]
  refine wpAny_bind (wpAny_rule (wpAny_bind (wpAny_setField ho hd (by simp) ?_)))
  show wpAny _ _ (newExc (.type "StopIteration") [] >>= _) _ _ _
  refine wpAny_bind ?_
  simp only [newExc, newTuple]
  refine wpAny_bind (wpAny_newObj_type ?_ (by size_fits))
  refine wpAny_bind (m := firstArgMember _ _) (wpAny_of_eq (a := Value.none) (by first | rfl | (simp only [firstArgMember]; rfl)) ?_)
  refine wpAny_newObj_type ?_ (by size_fits)
  simp only [raiseNew]
  refine wpAny_bind (wpAny_handled ?_)
  first | rw [show A.in1.handled = none from hh] | rw [hh]
  refine wpAny_bind (wpAny_pure (wpAny_throw ?_))
  exact hE _ _ (((Heap.SameBut.update ..).extBut.push _).push _) ⟨_, Heap.get?_push_size _ rfl, rfl⟩
end
end L3
namespace L3
open PySem
open Sem (wp)
open AutoSeq1 (wpAny_loadPart')
set_option maxRecDepth 100000
noncomputable abbrev tupIt (t : Addr) : Obj := { cls := .type "tuple_iterator", data := .fields #[.ref t, .int 0 0] }
section
variable {prog : Program} {w : World} {A : Around} {E : Value → Shared → Prop} {s : Shared}
structure ZipAt (z TI TO i1 i2 t1 t2 : Addr) (xs ys : Array Value) (i : Nat) (f0 : Value) (h : Heap) : Prop where
  z : IsZip h z TI TO f0
  TI : IsPair h TI (.ref i1) (.ref i2)
  TO : ∃ a b, IsPair h TO a b
  one : AtT i1 t1 xs i h
  two : AtT i2 t2 ys i h
theorem ZipAt.keeps {z TI TO i1 i2 t1 t2 : Addr} {xs ys : Array Value} {i : Nat} {f0 : Value} {h h' : Heap} (Z : ZipAt z TI TO i1 i2 t1 t2 xs ys i f0 h) (k : ∀ b ∈ [z, TI, TO, i1, i2], ∀ o, h.get? b = some o → h'.get? b = some o)
    (k1 : ∀ o, h.get? t1 = some o → h'.get? t1 = some o) (k2 : ∀ o, h.get? t2 = some o → h'.get? t2 = some o) : ZipAt z TI TO i1 i2 t1 t2 xs ys i f0 h' :=
  ⟨k z (by simp) _ Z.z, k TI (by simp) _ Z.TI, let ⟨a, b, q⟩ := Z.TO; ⟨a, b, k TO (by simp) _ q⟩, Z.one.keeps (k i1 (by simp)) k1, Z.two.keeps (k i2 (by simp)) k2⟩
theorem zipT_next {z TI TO i1 i2 t1 t2 : Addr} {xs ys : Array Value} {i : Nat} {x y : Value} {Q : Value → Shared → Prop} (D : ZipApart z TI TO i1 i2 t1 t2) (Z : ZipAt z TI TO i1 i2 t1 t2 xs ys i .none s.heap) (hx : xs[i]? = some x) (hy : ys[i]? = some y)
    (hQ : ∀ h', ZipAt z TI TO i1 i2 t1 t2 xs ys (i + 1) (rawInt s.heap.objs.size) h' → IsPair h' s.heap.objs.size x y → h'.objs.size = s.heap.objs.size + 1 →
      (∀ c o, c ≠ z → c ≠ TO → c ≠ i1 → c ≠ i2 → s.heap.get? c = some o → h'.get? c = some o) → Q (.ref s.heap.objs.size) { s with heap := h' }) :
    wpAny (model prog w) A (Builtin.«zip.__next__» ⟨[.ref z], []⟩) (fun fin s' => ∃ v, fin = .done (.ret v) ∧ Q v s') E s := by
  obtain ⟨hz, hTI, ⟨a, b, hTO⟩, h1, h2⟩ := Z
  show wpAny _ _ (field (.ref z) 2 >>= _) _ _ _
  refine wpAny_bind (wpAny_field hz rfl (x := .bool false) rfl ?_)
  show wpAny _ _ (field (.ref z) 3 >>= _) _ _ _
  refine wpAny_bind (wpAny_field hz rfl (x := .ref TI) rfl ?_)
  refine wpAny_bind (wpAny_seqItems hTI rfl ?_)
  show wpAny _ _ (Builtin.SmallTypes.ownedTupleIsFree (.ref z) >>= _) _ _ _
  refine wpAny_bind ?_
  unfold Builtin.SmallTypes.ownedTupleIsFree
  refine wpAny_bind (wpAny_field hz rfl (x := .none) rfl (wpAny_pure ?_))
  simp only [if_true]
  refine wpAny_bind (wpAny_rule (wpAny_bind (wpAny_field hz rfl (x := .ref TO) rfl (wpAny_bind (wpAny_setField_rec hz (by simp) fun g1 z1 k1 => ?_)))))
  replace z1 : IsZip g1 z TI TO .ellipsis := z1
  refine wpAny_bind ?_
  simp only [List.forIn_cons, List.forIn_nil, List.zipIdx_cons, List.zipIdx_nil]
  refine wpAny_bind (wpAny_bind (wpAny_onRaise ?_))
  show wpAny _ _ (Builtin.SmallTypes.nextOf (.ref i1) >>= _) _ _ _
  refine wpAny_bind (tnext_item (h1.move k1.extBut D.i1z D.l1z) D.l1i1 hx fun g2 p2 k2 => wpAny_pure ?_)
  have O2 : IsPair g2 TO a b := k2.extBut _ _ D.TOi1 (k1.extBut _ _ D.TOz hTO)
  refine wpAny_bind (wpAny_seqItems O2 rfl (wpAny_bind (wpAny_updateSeq_pair O2 fun g3 O3 k3 => ?_)))
  replace O3 : IsPair g3 TO x b := O3
  refine wpAny_bind (wpAny_letGo (wpAny_pure (wpAny_bind (wpAny_bind (wpAny_onRaise ?_)))))
  show wpAny _ _ (Builtin.SmallTypes.nextOf (.ref i2) >>= _) _ _ _
  refine wpAny_bind (tnext_item (((h2.move k1.extBut D.i2z D.l2z).move k2.extBut D.i12.symm D.l2i1).move k3.extBut D.TOi2.symm D.l2TO) D.l2i2 hy fun g4 p4 k4 => wpAny_pure ?_)
  have O4 : IsPair g4 TO x b := k4.extBut _ _ D.TOi2 O3
  refine wpAny_bind (wpAny_seqItems O4 rfl (wpAny_bind (wpAny_updateSeq_pair O4 fun g5 O5 k5 => ?_)))
  replace O5 : IsPair g5 TO x y := O5
  refine wpAny_bind (wpAny_letGo (wpAny_pure (wpAny_pure (wpAny_bind (wpAny_seqItems O5 rfl (wpAny_bind (wpAny_newTuple ?_)))))))
  have sz : g5.objs.size = s.heap.objs.size := by rw [k5.1, k4.1, k3.1, k2.1, k1.1]
  have z5 : IsZip g5 z TI TO .ellipsis := k5.extBut _ _ D.TOz.symm (k4.extBut _ _ D.i2z.symm (k3.extBut _ _ D.TOz.symm (k2.extBut _ _ D.i1z.symm z1)))
  have kp5 : ∀ c o, c ≠ z → c ≠ TO → c ≠ i1 → c ≠ i2 → s.heap.get? c = some o → g5.get? c = some o := fun c o c1 c2 c3 c4 e => k5.extBut _ _ c2 (k4.extBut _ _ c4 (k3.extBut _ _ c2 (k2.extBut _ _ c3 (k1.extBut _ _ c1 e))))
  have a5 : AtT i1 t1 xs (i + 1) g5 := ((p2.move k3.extBut D.TOi1.symm D.l1TO).move k4.extBut D.i12 D.l1i2).move k5.extBut D.TOi1.symm D.l1TO
  have b5 : AtT i2 t2 ys (i + 1) g5 := p4.move k5.extBut D.TOi2.symm D.l2TO
  have zlt : z < g5.objs.size := Heap.lt_size z5
  show wpAny _ _ (Builtin.SmallTypes.ownedTupleHandOut (.ref z) (.ref g5.objs.size) >>= _) _ _ _
  refine wpAny_bind ?_
  unfold Builtin.SmallTypes.ownedTupleHandOut
  have z6 : IsZip (g5.push { cls := .type "tuple", data := .seq #[x, y] }) z TI TO .ellipsis := Heap.get?_push_of_some _ z5
  refine wpAny_bind (wpAny_setField_rec z6 (by simp) fun g7 z7 k7 => ?_)
  replace z7 : IsZip g7 z TI TO (rawInt g5.objs.size) := z7
  refine wpAny_setField_rec z7 (by simp) fun g8 z8 k8 => ?_
  replace z8 : IsZip g8 z TI TO (rawInt g5.objs.size) := z8
  have up : ∀ c o, c ≠ z → g5.get? c = some o → g8.get? c = some o := fun c o c1 e => k8.extBut _ _ c1 (k7.extBut _ _ c1 (Heap.get?_push_of_some _ e))
  have T8 : IsPair g8 g5.objs.size x y := k8.extBut _ _ (Nat.ne_of_gt zlt) (k7.extBut _ _ (Nat.ne_of_gt zlt) (Heap.get?_push_size _ rfl))
  have s8 : g8.objs.size = g5.objs.size + 1 := by rw [k8.1, k7.1, Heap.size_push]
  rw [sz] at z8 T8 s8
  refine wpAny_pure ⟨_, rfl, ?_⟩
  show Q (.ref g5.objs.size) _
  rw [sz]
  exact hQ g8 ⟨z8, up _ _ D.TIz (kp5 _ _ D.TIz D.TITO D.TIi1 D.TIi2 hTI), ⟨x, y, up _ _ D.TOz O5⟩, a5.keeps (fun o q => up _ o D.i1z q) (fun o q => up _ o D.l1z q), b5.keeps (fun o q => up _ o D.i2z q) fun o q => up _ o D.l2z q⟩ T8 s8
    fun c o c1 c2 c3 c4 e => up c o c1 (kp5 c o c1 c2 c3 c4 e)
theorem zipT_stop {z TI TO i1 i2 t1 t2 : Addr} {xs ys : Array Value} {i : Nat} {Q : Fin → Shared → Prop} (hh : A.handled = none) (D : ZipApart z TI TO i1 i2 t1 t2) (Z : ZipAt z TI TO i1 i2 t1 t2 xs ys i .none s.heap) (hend : xs[i]? = none ∨ ys[i]? = none)
    (hE : ∀ h' e, (∀ c o, c ≠ z → c ≠ TO → c ≠ i1 → c ≠ i2 → s.heap.get? c = some o → h'.get? c = some o) → (∃ o, h'.get? e = some o ∧ o.cls = .type "StopIteration") → E (.ref e) { s with heap := h' }) :
    wpAny (model prog w) A (Builtin.«zip.__next__» ⟨[.ref z], []⟩) Q E s := by
  obtain ⟨hz, hTI, ⟨a, b, hTO⟩, h1, h2⟩ := Z
  show wpAny _ _ (field (.ref z) 2 >>= _) _ _ _
  refine wpAny_bind (wpAny_field hz rfl (x := .bool false) rfl ?_)
  show wpAny _ _ (field (.ref z) 3 >>= _) _ _ _
  refine wpAny_bind (wpAny_field hz rfl (x := .ref TI) rfl ?_)
  refine wpAny_bind (wpAny_seqItems hTI rfl ?_)
  show wpAny _ _ (Builtin.SmallTypes.ownedTupleIsFree (.ref z) >>= _) _ _ _
  refine wpAny_bind ?_
  unfold Builtin.SmallTypes.ownedTupleIsFree
  refine wpAny_bind (wpAny_field hz rfl (x := .none) rfl (wpAny_pure ?_))
  simp only [if_true]
  refine wpAny_bind (wpAny_rule (wpAny_bind (wpAny_field hz rfl (x := .ref TO) rfl (wpAny_bind (wpAny_setField_rec hz (by simp) fun g1 z1 k1 => ?_)))))
  replace z1 : IsZip g1 z TI TO .ellipsis := z1
  refine wpAny_bind ?_
  simp only [List.forIn_cons, List.forIn_nil, List.zipIdx_cons, List.zipIdx_nil]
  refine wpAny_bind (wpAny_bind (wpAny_onRaise ?_))
  show wpAny _ _ (Builtin.SmallTypes.nextOf (.ref i1) >>= _) _ _ _
  cases hx : xs[i]? with
  | none =>
    refine wpAny_bind (tnext_end hh (h1.move k1.extBut D.i1z D.l1z) hx fun g2 e k2 he => ?_)
    obtain ⟨oe, hoe, hce⟩ := he
    have z2 : IsZip g2 z TI TO .ellipsis := k2 _ _ D.i1z.symm z1
    have hez : e ≠ z := fun q => by subst q; rw [z2] at hoe; cases hoe; simp at hce
    exact wpAny_setField_rec z2 (by simp) fun g3 _ k3 => hE g3 e (fun c o c1 _ c3 _ q => k3.extBut _ _ c1 (k2 _ _ c3 (k1.extBut _ _ c1 q))) ⟨oe, k3.extBut _ _ hez hoe, hce⟩
  | some x =>
    have hy : ys[i]? = none := by rcases hend with q | q; rw [hx] at q; cases q; exact q
    refine wpAny_bind (tnext_item (h1.move k1.extBut D.i1z D.l1z) D.l1i1 hx fun g2 p2 k2 => wpAny_pure ?_)
    have O2 : IsPair g2 TO a b := k2.extBut _ _ D.TOi1 (k1.extBut _ _ D.TOz hTO)
    refine wpAny_bind (wpAny_seqItems O2 rfl (wpAny_bind (wpAny_updateSeq_pair O2 fun g3 O3 k3 => ?_)))
    refine wpAny_bind (wpAny_letGo (wpAny_pure (wpAny_bind (wpAny_bind (wpAny_onRaise ?_)))))
    show wpAny _ _ (Builtin.SmallTypes.nextOf (.ref i2) >>= _) _ _ _
    refine wpAny_bind (tnext_end hh (((h2.move k1.extBut D.i2z D.l2z).move k2.extBut D.i12.symm D.l2i1).move k3.extBut D.TOi2.symm D.l2TO) hy fun g4 e k4 he => ?_)
    obtain ⟨oe, hoe, hce⟩ := he
    have z4 : IsZip g4 z TI TO .ellipsis := k4 _ _ D.i2z.symm (k3.extBut _ _ D.TOz.symm (k2.extBut _ _ D.i1z.symm z1))
    have hez : e ≠ z := fun q => by subst q; rw [z4] at hoe; cases hoe; simp at hce
    exact wpAny_setField_rec z4 (by simp) fun g5 _ k5 => hE g5 e (fun c o c1 c2 c3 c4 q => k5.extBut _ _ c1 (k4 _ _ c4 (k3.extBut _ _ c2 (k2.extBut _ _ c3 (k1.extBut _ _ c1 q))))) ⟨oe, k5.extBut _ _ hez hoe, hce⟩
theorem zipT_pyNext {z TI TO i1 i2 t1 t2 : Addr} {xs ys : Array Value} {i : Nat} {x y : Value} {Q : Option Value → Shared → Prop} (D : ZipApart z TI TO i1 i2 t1 t2) (Z : ZipAt z TI TO i1 i2 t1 t2 xs ys i .none s.heap) (hx : xs[i]? = some x) (hy : ys[i]? = some y)
    (hQ : ∀ h', ZipAt z TI TO i1 i2 t1 t2 xs ys (i + 1) (rawInt s.heap.objs.size) h' → IsPair h' s.heap.objs.size x y → h'.objs.size = s.heap.objs.size + 1 →
      (∀ c o, c ≠ z → c ≠ TO → c ≠ i1 → c ≠ i2 → s.heap.get? c = some o → h'.get? c = some o) → Q (some (.ref s.heap.objs.size)) { s with heap := h' }) : wpAny (model prog w) A (pyNext (.ref z)) Q E s := by
  have hT : s.TypeIs (.ref z) "zip" := ⟨_, Z.z, rfl⟩
  unfold pyNext
  exact wpAny_bind (wpAny_attempt (wpAny_callSpecial?_slot (name := Str.ofString "__next__") hT F.slot_zip_next (wpAny_call_entry F.slot_zip_next hT F.entry_zip_next
    (zipT_next D Z hx hy fun h' p1 p2 p3 p4 => wpAny_pure (hQ h' p1 p2 p3 p4)) (F.args_zip_next_1 _))))
theorem zipT_pyEnd {z TI TO i1 i2 t1 t2 : Addr} {xs ys : Array Value} {i : Nat} {Q : Option Value → Shared → Prop} (hh : A.handled = none) (D : ZipApart z TI TO i1 i2 t1 t2) (Z : ZipAt z TI TO i1 i2 t1 t2 xs ys i .none s.heap) (hend : xs[i]? = none ∨ ys[i]? = none)
    (hQ : ∀ h', (∀ c o, c ≠ z → c ≠ TO → c ≠ i1 → c ≠ i2 → s.heap.get? c = some o → h'.get? c = some o) → Q none { s with heap := h' }) : wpAny (model prog w) A (pyNext (.ref z)) Q E s := by
  have hT : s.TypeIs (.ref z) "zip" := ⟨_, Z.z, rfl⟩
  unfold pyNext
  refine wpAny_bind (wpAny_attempt (wpAny_callSpecial?_slot (name := Str.ofString "__next__") hT F.slot_zip_next (wpAny_call_entry F.slot_zip_next hT F.entry_zip_next
    (zipT_stop hh D Z hend fun h' e hk he => ?_) (F.args_zip_next_1 _))))
  obtain ⟨o, ho, hc⟩ := he
  exact wpAny_bind (wpAny_isInstance (T := "StopIteration") (b := true) ⟨o, ho, hc⟩ isSubtype_stop (wpAny_pure (hQ _ hk)))
noncomputable abbrev zh1 (h : Heap) (t1 : Addr) : Heap := h.push (tupIt t1)
noncomputable abbrev zh2 (h : Heap) (t1 t2 : Addr) : Heap := (zh1 h t1).push (tupIt t2)
noncomputable abbrev zh3 (h : Heap) (t1 t2 : Addr) : Heap := (zh2 h t1 t2).push { cls := .type "tuple", data := .seq #[.ref h.objs.size, .ref (zh1 h t1).objs.size] }
noncomputable abbrev zh4 (h : Heap) (t1 t2 : Addr) : Heap := (zh3 h t1 t2).push { cls := .type "tuple", data := .seq #[.none, .none] }
noncomputable abbrev zh5 (h : Heap) (t1 t2 : Addr) : Heap := (zh4 h t1 t2).push { cls := .type "zip", data := .fields #[.none, .bool false, .bool false, .ref (zh2 h t1 t2).objs.size, .ref (zh3 h t1 t2).objs.size] }
theorem zipT_new (t1 t2 : Addr) (xs ys : Array Value) :
    Meets (Builtin.«zip.__new__» ⟨[.type "zip", .ref t1, .ref t2], []⟩) (fun _ R s => s.heap.IsTuple t1 xs ∧ s.heap.IsTuple t2 ys ∧ R (.ok (.ret (.ref (zh4 s.heap t1 t2).objs.size))) { s with heap := zh5 s.heap t1 t2 }) :=
  .of_wp fun prog w A R s h => by
    obtain ⟨hp, g, d, tk, os⟩ := s; obtain ⟨ht1, ht2, h⟩ := h
    have hsub := sub_zip
    have T1 : Heap.IsTuple (Shared.heap ⟨hp, g, d, tk, os⟩) t1 xs := ht1
    have T2 : Heap.IsTuple (Shared.heap ⟨hp.push { cls := .type "tuple_iterator", data := .fields #[.ref t1, .int 0 0] }, g, d, tk, os⟩) t2 ys := Heap.IsTuple.push ht2 _
    wp_walk using wpAny_pyIter_tuple T1, wpAny_pyIter_tuple T2
    exact ⟨_, rfl, h⟩
theorem call_zipT {t1 t2 : Addr} {xs ys : Array Value} {Q : Value → Shared → Prop} (ht1 : s.heap.IsTuple t1 xs) (ht2 : s.heap.IsTuple t2 ys)
    (h : ∀ h', ZipAt (s.heap.objs.size + 4) (s.heap.objs.size + 2) (s.heap.objs.size + 3) s.heap.objs.size (s.heap.objs.size + 1) t1 t2 xs ys 0 .none h' → h'.objs.size = s.heap.objs.size + 5 →
      (∀ c o, s.heap.get? c = some o → h'.get? c = some o) → Q (.ref (s.heap.objs.size + 4)) { s with heap := h' }) : wpAny (model prog w) A (call (.type "zip") [.ref t1, .ref t2]) Q E s := by
  refine callType_new F.called_zip (by decide) (F.typeCall_zip_2 _ _) (F.newCall_zip_2 _ _) (fun obj => F.args_object_init_3 obj _ _) F.entry_zip_new (zipT_new t1 t2 xs ys) ⟨ht1, ht2, ?_⟩
  have z1 : (zh1 s.heap t1).objs.size = s.heap.objs.size + 1 := Heap.size_push ..
  have z2 : (zh2 s.heap t1 t2).objs.size = s.heap.objs.size + 2 := by rw [Heap.size_push, z1]
  have z3 : (zh3 s.heap t1 t2).objs.size = s.heap.objs.size + 3 := by rw [Heap.size_push, z2]
  have z4 : (zh4 s.heap t1 t2).objs.size = s.heap.objs.size + 4 := by rw [Heap.size_push, z3]
  have z5 : (zh5 s.heap t1 t2).objs.size = s.heap.objs.size + 5 := by rw [Heap.size_push, z4]
  have up : ∀ c o, s.heap.get? c = some o → (zh5 s.heap t1 t2).get? c = some o := fun c o q => Heap.get?_push_of_some _ (Heap.get?_push_of_some _ (Heap.get?_push_of_some _ (Heap.get?_push_of_some _ (Heap.get?_push_of_some _ q))))
  have g5 : (zh5 s.heap t1 t2).get? (zh4 s.heap t1 t2).objs.size = some _ := Heap.get?_push_size _ rfl
  have g4 : (zh5 s.heap t1 t2).get? (zh3 s.heap t1 t2).objs.size = some _ := Heap.get?_push_of_some _ (Heap.get?_push_size _ rfl)
  have g3 : (zh5 s.heap t1 t2).get? (zh2 s.heap t1 t2).objs.size = some _ := Heap.get?_push_of_some _ (Heap.get?_push_of_some _ (Heap.get?_push_size _ rfl))
  have g2 : (zh5 s.heap t1 t2).get? (zh1 s.heap t1).objs.size = some _ := Heap.get?_push_of_some _ (Heap.get?_push_of_some _ (Heap.get?_push_of_some _ (Heap.get?_push_size _ rfl)))
  have g1 : (zh5 s.heap t1 t2).get? s.heap.objs.size = some _ := Heap.get?_push_of_some _ (Heap.get?_push_of_some _ (Heap.get?_push_of_some _ (Heap.get?_push_of_some _ (Heap.get?_push_size _ rfl))))
  show _ ∧ _
  rw [z2, z3, z4] at g5
  rw [z1, z2] at g3
  rw [z3] at g4
  rw [z1] at g2
  rw [z4]
  have T1 : (zh5 s.heap t1 t2).IsTuple t1 xs := let ⟨o, ho, r⟩ := ht1; ⟨o, up _ _ ho, r⟩
  have T2 : (zh5 s.heap t1 t2).IsTuple t2 ys := let ⟨o, ho, r⟩ := ht2; ⟨o, up _ _ ho, r⟩
  exact ⟨⟨_, g5, rfl⟩, h _ ⟨g5, g3, ⟨_, _, g4⟩, ⟨⟨_, g1, rfl, rfl⟩, T1⟩, ⟨⟨_, g2, rfl, rfl⟩, T2⟩⟩ z5 up⟩
end
end L3
namespace L3
open PySem PyProof.Rows
section
variable {prog : Program} {w : World} {A : Around} {E : Value → Shared → Prop} {s : Shared}
end
end L3
namespace L3
open PySem
theorem bt_len : bootBuiltins "len" = some (.builtin "len") := by decide +kernel
theorem bt_tuple : bootBuiltins "tuple" = some (.type "tuple") := by decide +kernel
theorem bt_all : bootBuiltins "all" = some (.builtin "all") := by decide +kernel
theorem bt_isinstance : bootBuiltins "isinstance" = some (.builtin "isinstance") := by decide +kernel
theorem bt_bool : bootBuiltins "bool" = some (.type "bool") := by decide +kernel
theorem bt_str : bootBuiltins "str" = some (.type "str") := by decide +kernel
theorem bt_int : bootBuiltins "int" = some (.type "int") := by decide +kernel
end L3
set_option maxRecDepth 100000
namespace L2
open PySem PySem.Spec PyProof.Rows
section
variable {X : Cx} {pins : List (Addr × Obj)} {σ : St} {H : Hp} {s : Shared} {h' : Heap}
theorem Inv.turnLay {a : Addr} {o : HO} {t' : Nat} {ch : List Addr} (I : Inv X pins σ H s) (hf : ∀ b ∈ ch, FpOk X pins H b) (k : ∀ b u, b ∉ ch → s.heap.get? b = some u → h'.get? b = some u) (hp : s.heap.objs.size ≤ a)
    (new : ObjOk X.prog X.w (upd H a o) h' a o) : Inv X pins σ (upd H a o) { s with heap := h', toks := t' } := by
  have fa : H a = none := I.hok.fresh hp
  have nch : ∀ b u, H b = some u → b ∉ ch := fun b u e z => by rw [(hf b z).1] at e; cases e
  refine I.step (g' := s.gens) (d' := s.drawn) (ch := ch) (fun b hb => ?_) (fun b u _ _ hc e _ => k b u hc e) (fun b u _ _ hc e _ => ⟨u.slots, k b u hc e⟩) (fun b u hc e n => ?_) (fun b u hc e => ⟨u, k b u hc e⟩)
    (fun b xs e => ?_) (fun b ob u e => ?_) (fun b ps e => ?_) (fun m hm => ?_) (fun b u e => ?_) I.bare
  · obtain ⟨_, f1, _, f3, f4, f5⟩ := hf b hb
    exact ⟨f3, f1, f4, f5⟩
  · rw [upd_ne (Nat.ne_of_lt (Nat.lt_of_lt_of_le (Heap.lt_size e) hp))]; exact n
  · rw [upd_ne (ne_of_none e fa)]; exact e
  · rw [upd_ne (ne_of_none e fa)]; exact e
  · exact ⟨#[], by rw [upd_ne (ne_of_none e fa), e]; simp⟩
  · obtain ⟨ob, es, ep, ho, r⟩ := hm
    exact ⟨ob, es, ep, k _ ob (fun z => (hf _ z).2.1 rfl) ho, r⟩
  · by_cases hb : b = a
    · subst hb; rw [upd_same] at e; cases e; exact new
    · rw [upd_ne hb] at e
      refine (I.hok b u e).stay (fun c v hc q => k c v ?_ q) (fun c q => by rw [upd_ne (ne_of_none q fa)]; exact q) fun c xs q => by rw [upd_ne (ne_of_none q fa)]; exact q
      rcases hc with z | z
      · rw [z]; exact nch b u e
      · exact nch c _ z
theorem Inv.turnMany {t' : Nat} {ch : List Addr} (I : Inv X pins σ H s) (hf : ∀ b ∈ ch, FpOk X pins H b) (k : ∀ b u, b ∉ ch → s.heap.get? b = some u → h'.get? b = some u) : Inv X pins σ H { s with heap := h', toks := t' } := by
  have nch : ∀ b u, H b = some u → b ∉ ch := fun b u e z => by rw [(hf b z).1] at e; cases e
  refine I.step (g' := s.gens) (d' := s.drawn) (ch := ch) (fun b hb => ?_) (fun b u _ _ hc e _ => k b u hc e) (fun b u _ _ hc e _ => ⟨u.slots, k b u hc e⟩) (fun b u hc e n => n) (fun b u hc e => ⟨u, k b u hc e⟩)
    (fun b xs e => e) (fun b ob u e => e) (fun b ps e => ⟨#[], by rw [e]; simp⟩) (fun m hm => ?_) (fun b u e => ?_) I.bare
  · obtain ⟨_, f1, _, f3, f4, f5⟩ := hf b hb
    exact ⟨f3, f1, f4, f5⟩
  · obtain ⟨ob, es, ep, ho, r⟩ := hm
    exact ⟨ob, es, ep, k _ ob (fun z => (hf _ z).2.1 rfl) ho, r⟩
  · refine (I.hok b u e).stay (fun c v hc q => k c v ?_ q) (fun _ q => q) fun _ _ q => q
    rcases hc with z | z
    · rw [z]; exact nch b u e
    · exact nch c _ z
end
noncomputable def Itz (K : PySem.W.Frag) (a b : Addr) : It :=
  ⟨fun i H => ∃ xs ys x y, SqT K H a xs ∧ SqT K H b ys ∧ xs[i]? = some x ∧ ys[i]? = some y,
   fun i H v H' => ∃ p x y, H p = none ∧ v = .ref p ∧ H' = upd H p (.tup [x, y]) ∧ (∀ xs, SqT K H a xs → xs[i]? = some x) ∧ ∀ ys, SqT K H b ys → ys[i]? = some y,
   fun i H => ∃ xs ys, SqT K H a xs ∧ SqT K H b ys ∧ (xs.length ≤ i ∨ ys.length ≤ i)⟩
theorem turn_zipT {P : Program} {w : World} {K : PySem.W.Frag} {elts : List Expr} {x1} {tp : Pos} {z TI TO i1 i2 a b : Addr} (D : ZipApart z TI TO i1 i2 a b) :
    Turn P w K (.Tuple elts x1 tp) (Itz K a b) [z, TI, TO, i1, i2] z (fun i h => IsZip h z TI TO .none ∧ IsPair h TI (.ref i1) (.ref i2) ∧ (∃ u v, IsPair h TO u v) ∧ h.IsTupleIter i1 a i ∧ h.IsTupleIter i2 b i) where
  mem := by simp
  obj := fun i h st c hc => by
    obtain ⟨q1, q2, ⟨u, v, q3⟩, ⟨o4, e4, c4, d4⟩, ⟨o5, e5, c5, d5⟩⟩ := st
    simp only [List.mem_cons, List.not_mem_nil, or_false] at hc
    rcases hc with rfl | rfl | rfl | rfl | rfl
    · exact ⟨_, q1, fun v z => by have z' : Data.fields _ = Data.cell v := z; cases z'⟩
    · exact ⟨_, q2, fun v z => by have z' : Data.seq _ _ = Data.cell v := z; cases z'⟩
    · exact ⟨_, q3, fun v z => by have z' : Data.seq _ _ = Data.cell v := z; cases z'⟩
    · exact ⟨o4, e4, fun v z => by rw [d4] at z; cases z⟩
    · exact ⟨o5, e5, fun v z => by rw [d5] at z; cases z⟩
  keep := fun i h h' ⟨q1, q2, ⟨u, v, q3⟩, r4, r5⟩ k => ⟨k _ (by simp) _ q1, k _ (by simp) _ q2, ⟨u, v, k _ (by simp) _ q3⟩, r4.at fun o q => k _ (by simp) o q, r5.at fun o q => k _ (by simp) o q⟩
  item := by
    intro X hP hw hK hc i pins s σ H E I hf st hg
    subst hP hw hK
    have st0 := st
    obtain ⟨q1, q2, q3, r4, r5⟩ := st
    obtain ⟨xs, ys, x, y, hq, hq', hx, hy⟩ := hg
    obtain ⟨its, rv, p, _⟩ := I.tuple hq
    obtain ⟨its', rv', p', _⟩ := I.tuple hq'
    obtain ⟨u, hu, ru⟩ := rv.get hx
    obtain ⟨v, hv, rw'⟩ := rv'.get hy
    refine L3.zipT_pyNext D ⟨q1, q2, q3, ⟨r4, p⟩, ⟨r5, p'⟩⟩ (x := u) (y := v) (by simpa using hu) (by simpa using hv) fun h' Z tp1 sz k1 => ⟨_, rfl, ?_⟩
    refine wpAny_letOwnedTupleGo_zip Z.z fun h2 z2 k2 => ?_
    have lt : ∀ c ∈ [z, TI, TO, i1, i2], c < s.heap.objs.size := fun c hc => by
      obtain ⟨w1, w2, ⟨_, _, w3⟩, ⟨_, w4, _⟩, ⟨_, w5, _⟩⟩ := st0
      simp only [List.mem_cons, List.not_mem_nil, or_false] at hc
      rcases hc with rfl | rfl | rfl | rfl | rfl
      · exact Heap.lt_size w1
      · exact Heap.lt_size w2
      · exact Heap.lt_size w3
      · exact Heap.lt_size w4
      · exact Heap.lt_size w5
    have hT : s.heap.objs.size ≠ z := Nat.ne_of_gt (lt z (by simp))
    have kk : ∀ c w', c ∉ [z, TI, TO, i1, i2] → s.heap.get? c = some w' → h2.get? c = some w' := fun c w' hc q => by
      have n1 : c ≠ z := fun e => hc (by simp [e])
      exact (k2.2 c n1).trans (k1 c w' n1 (fun e => hc (by simp [e])) (fun e => hc (by simp [e])) (fun e => hc (by simp [e])) q)
    have new : ObjOk X.prog X.w (upd H s.heap.objs.size (.tup [x, y])) h2 s.heap.objs.size (.tup [x, y]) :=
      ⟨by show 2 ≤ sizeLine; decide, [u, v], .cons ru (.cons rw' .nil), ⟨_, (k2.2 _ hT).trans tp1, rfl, _, rfl⟩, _, (k2.2 _ hT).trans tp1, rfl⟩
    have IL : Inv X pins σ (upd H s.heap.objs.size (.tup [x, y])) { s with heap := h2, toks := s.toks } := I.turnLay (t' := s.toks) (ch := [z, TI, TO, i1, i2]) hf kk (Nat.le_refl _) new
    refine ⟨.ref s.heap.objs.size, _, IL, rfl,
      ⟨_, x, y, I.hok.fresh (Nat.le_refl _), rfl, rfl, fun ys hy' => by rw [I.tuple_inj hy' hq]; exact hx, fun ys hy' => by rw [I.tuple_inj hy' hq']; exact hy⟩,
      ⟨z2, (k2.2 _ D.TIz).trans Z.TI, ?_, Z.one.iter.at fun o q => (k2.2 _ D.i1z).trans q, Z.two.iter.at fun o q => (k2.2 _ D.i2z).trans q⟩, fun c hc => ?_⟩
    · obtain ⟨a', b', q⟩ := Z.TO
      exact ⟨a', b', (k2.2 _ D.TOz).trans q⟩
    · rw [upd_ne (Nat.ne_of_lt (lt c hc))]; exact (hf c hc).1
  done := by
    intro X hP hw hK hc i pins s σ H E I hf st hg
    subst hP hw hK
    obtain ⟨q1, q2, q3, r4, r5⟩ := st
    obtain ⟨xs, ys, hq, hq', hx⟩ := hg
    obtain ⟨its, rv, p, _⟩ := I.tuple hq
    obtain ⟨its', rv', p', _⟩ := I.tuple hq'
    have hl := rv.length
    have hl' := rv'.length
    refine L3.zipT_pyEnd (I.ok.hd hc) D ⟨q1, q2, q3, ⟨r4, p⟩, ⟨r5, p'⟩⟩ ?_ fun h' k => ⟨rfl, I.turnMany (t' := s.toks) (ch := [z, TI, TO, i1, i2]) hf fun c v hc q =>
      k c v (fun e => hc (by simp [e])) (fun e => hc (by simp [e])) (fun e => hc (by simp [e])) (fun e => hc (by simp [e])) q⟩
    rcases hx with hx | hx
    · exact .inl (by simp; omega)
    · exact .inr (by simp; omega)
  self := fun _ _ _ _ _ ⟨q, _⟩ h => wpAny_pyIter_zip q h
section
variable {X : Cx}
noncomputable def iZipT (K : PySem.W.Frag) (ta : TA) : TI := fun σ H R => ta σ H fun vs H1 => ∃ a b, vs = [.ref a, .ref b] ∧ (∃ xs, SqT K H1 a xs) ∧ (∃ ys, SqT K H1 b ys) ∧ R (Itz K a b) H1
theorem pi_zipT {a b : Expr} {ta : TA} {p pos tp : Pos} {elts : List Expr} {x1} (hg : Gl X "zip") (hm : X.mg "zip" = none) (ha : PA X [a, b] ta)
    (hs : starEach [a, b] X.env = [(false, eval a X.env), (false, eval b X.env)] := by rfl) (hs2 : starEach [b] X.env = [(false, eval b X.env)] := by rfl) : PI X (.Tuple elts x1 tp) (.Call (.Name "zip" p) [a, b] [] pos) (iZipT X.K ta) := by
  intro pins s σ H R I h
  refine Call_ (ld_blt I hg hm boot_zip (PyProof.Rows.callWith_type1 (thn (ha pos pins s σ H _ I h) fun us s1 ⟨vs, H1, I1, r1, q1⟩ => ?_) (by rw [hs, hs2]) (by rw [hs2]; rfl)))
  obtain ⟨t, t2, e, ⟨xs, hq⟩, ⟨ys, hq'⟩, q⟩ := q1
  subst e
  cases r1 with
  | cons r rr =>
    cases rr with
    | cons r' rr =>
      cases rr
      cases r
      cases r'
      obtain ⟨its, rv, pt, hz⟩ := I1.tuple hq
      obtain ⟨its', rv', pt', hz'⟩ := I1.tuple hq'
      have T1 : s1.heap.IsTuple t its.toArray := pt
      have T2 : s1.heap.IsTuple t2 its'.toArray := pt'
      have l1 : t < s1.heap.objs.size := by obtain ⟨o, ho, _⟩ := T1; exact Heap.lt_size ho
      have l2 : t2 < s1.heap.objs.size := by obtain ⟨o, ho, _⟩ := T2; exact Heap.lt_size ho
      refine L3.call_zipT T1 T2 fun h' Z sz k => ?_
      have I2 : Inv X pins σ H1 { s1 with heap := h' } := I1.kept (t' := s1.toks) k
      have D : ZipApart (s1.heap.objs.size + 4) (s1.heap.objs.size + 2) (s1.heap.objs.size + 3) s1.heap.objs.size (s1.heap.objs.size + 1) t t2 := PyProof.Rows.zipApart_new l1 l2
      refine wpAny_pyIter_zip Z.z ⟨_, [s1.heap.objs.size + 4, s1.heap.objs.size + 2, s1.heap.objs.size + 3, s1.heap.objs.size, s1.heap.objs.size + 1], _, _, H1, rfl, I2, turn_zipT D, ⟨Z.z, Z.TI, Z.TO, Z.one.iter, Z.two.iter⟩, fun c hc => ?_, q⟩
      have hc' : s1.heap.objs.size ≤ c := by
        simp only [List.mem_cons, List.not_mem_nil, or_false] at hc
        rcases hc with rfl | rfl | rfl | rfl | rfl <;> first | exact Nat.le_refl _ | exact Nat.le_add_right _ _
      exact I1.fpOk hc' (I1.hok.fresh hc')
end
section
variable {X : Cx}
noncomputable def Cx.comp (X : Cx) (scope : Scope) (N' : List Str) (C : Addr) (fp : List Addr) (pins : List (Addr × Obj)) (s₂ : Shared) (H₂ : Hp) : Cx :=
  { X with N := N', s₀ := s₂, H₀ := H₂, env := compEnvC scope (L3.closL X.env.cells scope.names []) C X.env, outer := X.stack, ex := fp, fn := fun _ => false, pn := X.pn ++ pins, xe := fun _ _ => False }
theorem comp_look {scope : Scope} {x : Str} {c : Addr} (h : (L3.closL X.env.cells scope.names []).lookup x = some c) : X.env.cells.lookup x = some c :=
  L3.closL_lookup (cs := []) (fun _ e => by simp at e) h
variable {scope : Scope} {N' : List Str} {sh : List Nat} {pins : List (Addr × Obj)} {σ : St} {H : Hp} {s : Shared} {C : Addr} {fp : List Addr}
theorem comp_free (cp : L3.CompParts X.env.scope scope X.N N' sh) {x : Str} (h : (relabel scope X.env).names.lookup x = some .cell ∨ (relabel scope X.env).names.lookup x = some .free) : (x, NameKind.free) ∈ scope.names ∧ X.env.kindOf x = some .cell := by
  have q : (x, NameKind.free) ∈ scope.names := by
    rcases h with h | h
    · obtain ⟨k0, h0, h1⟩ := L3.relab_inv h
      rcases h1 with h1 | ⟨h1, _⟩
      · subst h1; exact absurd rfl (cp.cell _ (L3.mem_of_look h0))
      · subst h1; exact L3.mem_of_look h0
    · obtain ⟨k0, h0, h1⟩ := L3.relab_inv h
      rcases h1 with h1 | ⟨_, h1⟩
      · subst h1; exact L3.mem_of_look h0
      · cases h1
  exact ⟨q, cp.free _ q rfl⟩
theorem comp_ok (I : Inv X pins σ H s) (cp : L3.CompParts X.env.scope scope X.N N' sh) (hC : s.heap.objs.size ≤ C) (hf : ∀ b ∈ fp, FpOk X pins H b) (hlt : ∀ b ∈ fp, b < s.heap.objs.size) : (X.comp scope N' C fp pins s H).Ok := by
  refine ⟨I.ok.mod, cp.kind, I.ok.glob, I.ok.blt, hC, fun x y c h1 h2 => I.ok.inj x y c (comp_look h1) (comp_look h2), fun x hx => ?_, fun x c z _ => ?_, I.ok.hd, I.ok.frames, .inl rfl, fun b hb => ⟨?_, fun x c e => ?_⟩, I.bs, Nat.le_trans I.ok.bsz I.sz, fun b o e hb => ?_, fun b hb z => ?_, I.stack, I.stkFree⟩
  · obtain ⟨q, kq⟩ := comp_free cp hx
    obtain ⟨d, hd⟩ := I.ok.has x (.inl kq)
    exact L3.closL_has hd q
  · exact absurd (show false = true from z) Bool.false_ne_true
  · exact Nat.ne_of_lt (Nat.lt_of_lt_of_le (hlt b hb) hC)
  · exact (hf b hb).2.2.2.2.1 x c (comp_look e)
  · rcases (hf b hb).2.2.2.1 with z | z
    · exact I.ok.noex b o e z
    · exact absurd (Nat.lt_of_lt_of_le (Heap.lt_size e) (Nat.le_trans I.ok.bsz z)) (Nat.lt_irrefl _)
  · rcases List.mem_cons.mp (I.stkSub b z) with e | e
    · exact (hf b hb).2.1 e
    · exact (hf b hb).2.2.1 e
theorem comp_in (I : Inv X pins σ H s) (cp : L3.CompParts X.env.scope scope X.N N' sh) {more : Nat} (hm : N'.length = X.N.length + more) (hC : s.heap.objs.size ≤ C) (hf : ∀ b ∈ fp, FpOk X pins H b) (hlt : ∀ b ∈ fp, b < s.heap.objs.size)
    {h1 : Heap} {t : Nat} {m : Str → Option Value} (k : ∀ b o, s.heap.get? b = some o → h1.get? b = some o) (hn : h1.Ns C m) : Inv (X.comp scope N' C fp pins s H) [] (L3.blank sh σ ++ List.replicate more none) H { s with heap := h1, toks := t } := by
  have neC : ∀ b o, s.heap.get? b = some o → b ≠ C := fun b o e => Nat.ne_of_lt (Nat.lt_of_lt_of_le (Heap.lt_size e) hC)
  have lenσ : σ.length = X.N.length := I.len
  refine ⟨comp_ok I cp hC hf hlt, rfl, I.bare, Un.kept k, ⟨m, hn, fun i x v e1 e2 e3 => ?_⟩, fun x c e => ?_, I.hok.fresh hC, fun x c e => I.freeC x c (comp_look e), fun p hp => ?_, I.hok.kept k, ?_⟩
  · have hi : i < (L3.blank sh σ).length := by
      by_cases hi : i < (L3.blank sh σ).length
      · exact hi
      · rw [List.getElem?_append_right (Nat.le_of_not_lt hi), List.getElem?_replicate] at e2
        split at e2 <;> cases e2
    rw [List.getElem?_append_left hi] at e2
    obtain ⟨h1', h2'⟩ := L3.blank_get e2
    rw [L3.blank_length, lenσ] at hi
    have eN : X.N[i]? = some x := by
      have q : (N'.take X.N.length)[i]? = some x := by rw [List.getElem?_take_of_lt hi]; exact e1
      rw [cp.pre] at q; exact q
    have e3' : (relabel scope X.env).names.lookup x = some .local ∨ (relabel scope X.env).names.lookup x = some .cell ∨ (relabel scope X.env).names.lookup x = some .free := e3
    rcases e3' with z | z
    · obtain ⟨k0, h0, hk⟩ := L3.relab_inv z
      have : k0 = .local := by
        rcases hk with q | ⟨_, q⟩
        · exact q.symm
        · cases q
      subst this
      exact absurd (cp.shad i x eN h0) h1'
    · obtain ⟨q, kq⟩ := comp_free cp z
      obtain ⟨m0, _, hl⟩ := I.loc
      obtain ⟨u, ru, lu⟩ := hl i x v eN h2' (.inr (.inl kq))
      rcases lu with ⟨kl, _⟩ | ⟨_, c, hc, ic⟩
      · rw [kq] at kl; cases kl
      · obtain ⟨c', hc'⟩ := L3.closL_has (cs := []) hc q
        have := comp_look (X := X) hc'
        rw [hc] at this; cases this
        exact ⟨u, ru, .inr ⟨z, c, hc', ic.keeps k⟩⟩
  · obtain ⟨v, z⟩ := I.cell x c (comp_look e)
    exact ⟨v, z.keeps k⟩
  · have hp' : p ∈ X.pn ++ pins := by simpa [Cx.comp] using hp
    obtain ⟨e, n, ne, nf, d⟩ := I.pin p hp'
    refine ⟨k _ _ e, n, neC _ _ e, fun z => ?_, d⟩
    rcases List.mem_cons.mp (I.stkSub p.1 z) with q | q
    · exact ne q
    · exact nf q
  · show (L3.blank sh σ ++ List.replicate more none).length = N'.length
    rw [List.length_append, L3.blank_length, List.length_replicate, lenσ, hm]
theorem comp_out {D : Addr} {n : Nat} {acc : List V} {ys : Array Value} {pl : List (Addr × Obj)} {σ4 : St} {H4 : Hp} {s4 : Shared} {h' : Heap} (I : Inv X pins σ H s) (hC : s.heap.objs.size ≤ C) (hf : ∀ b ∈ fp, FpOk X pins H b)
    (I4 : Inv (X.comp scope N' C fp pins s H) pl σ4 H4 s4) (hD : s.heap.objs.size ≤ D) (hDC : D ≠ C) (gD : s4.heap.get? D = some { cls := .type "list", data := .seq ys n }) (va : Vals acc ys.toList) (fD : H4 D = none) (hl : acc.length ≤ sizeLine)
    (sb : Heap.SameBut C s4.heap h') : Inv X pins σ (upd H4 D (.lst acc)) { s4 with heap := h' } := by
  have B : Un (frs X.stack) fp H H4 s.heap s4.heap := I4.base
  have fC : H4 C = none := I4.free
  have lo : ∀ b o, s.heap.get? b = some o → b ≠ C ∧ b ≠ D := fun b o e => ⟨Nat.ne_of_lt (Nat.lt_of_lt_of_le (Heap.lt_size e) hC), Nat.ne_of_lt (Nat.lt_of_lt_of_le (Heap.lt_size e) hD)⟩
  have u : Un (frs X.stack) fp H (upd H4 D (.lst acc)) s.heap h' := by
    refine ⟨fun b o e n hb hx => (sb.2 b (lo b o e).1).trans (B.keep b o e n hb hx), fun b o e n hb hx => ?_, fun b o e n hx => by rw [upd_ne (lo b o e).2]; exact B.free b o e n hx, fun b o e hx => ?_,
      fun b xs e => ?_, fun b o v e => ?_, fun b ps e => ?_⟩
    · obtain ⟨sl, q⟩ := B.slot b o e n hb hx
      exact ⟨sl, (sb.2 b (lo b o e).1).trans q⟩
    · obtain ⟨o', q⟩ := B.there b o e hx
      exact ⟨o', (sb.2 b (lo b o e).1).trans q⟩
    · have q := B.tups b xs e
      rw [upd_ne (ne_of_none q fD)]; exact q
    · have q := B.frzs b o v e
      rw [upd_ne (ne_of_none q fD)]; exact q
    · obtain ⟨more, q⟩ := B.tbls b ps e
      exact ⟨more, by rw [upd_ne (ne_of_none q fD)]; exact q⟩
  have hok : HOk X.prog X.w (upd H4 D (.lst acc)) h' := fun b v e => by
    by_cases hb : b = D
    · subst hb
      rw [upd_same] at e; cases e
      exact ⟨hl, ys.toList, n, va, by rw [sb.2 _ hDC, gD]⟩
    · rw [upd_ne hb] at e
      refine (show ObjOk X.prog X.w H4 s4.heap b v from I4.hok b v e).stay (fun c w' hc q => (sb.2 c ?_).trans q) (fun c q => by rw [upd_ne (ne_of_none q fD)]; exact q) fun c xs q => by rw [upd_ne (ne_of_none q fD)]; exact q
      rcases hc with z | z
      · rw [z]; exact ne_of_none e fC
      · exact ne_of_none z fC
  exact I.call' (s' := { s4 with heap := h' }) (ch := fp) (show s4.os = s.os from I4.os) u hok I4.bare fun b hb => ⟨(hf b hb).2.2.2.1, (hf b hb).2.1, (hf b hb).2.2.2.2.1, (hf b hb).2.2.2.2.2⟩
end
noncomputable def PIf (X : Cx) (ifs : List Expr) (tt : TT) : Prop :=
  ∀ (pins : List (Addr × Obj)) (s : Shared) (σ : St) (H : Hp) (Q : Bool → Hp → Prop), Inv X pins σ H s → tt σ H Q → wpAny (model X.prog X.w) X.A (L3.testsOf ifs X.env) (TP X pins σ Q) X.xe s
theorem pif_nil {X : Cx} : PIf X [] (fun _ H Q => Q true H) := fun _ _ _ H _ I h => wpAny_tests_nil ⟨H, I, h⟩
noncomputable def compW (J : It) (g : TG) (tt : TT) (te : TE) (σ : St) (H : Hp) (Q : VK) : Prop := ∃ W : Nat → Nat → List V → St → Hp → Prop, (∃ m, W 0 m [] σ H) ∧ ∀ i m acc σ' H', W i m acc σ' H' →
  (J.stop i H' ∧ acc.length ≤ sizeLine ∧ ∀ D, H' D = none → Q (.ref D) (upd H' D (.lst acc))) ∨
  (J.go i H' ∧ acc.length < sizeLine ∧ ∃ N : List V → St → Hp → Prop, (∀ acc' σ2 H2, N acc' σ2 H2 → ∃ m', m' < m ∧ W (i + 1) m' acc' σ2 H2) ∧
    ∀ x H2, J.yld i H' x H2 → g x σ' H2 fun σ2 H3 => tt σ2 H3 fun b H4 => if b = true then te σ2 H4 fun y H5 => N (acc ++ [y]) σ2 H5 else N acc σ2 H4)
noncomputable def tComp (wi : TI) (g : TG) (tt : TT) (te : TE) (sh : List Nat) (more : Nat) : TE := fun σ H Q => wi σ H fun J H1 => compW J g tt te (L3.blank sh σ ++ List.replicate more none) H1 Q
theorem comp_any {X : Cx} {elt tg iter : Expr} {ifs : List Expr} {scope : Scope} {pos pos' : Pos} {wi : TI} {g : TG} {tt : TT} {te : TE} {sh : List Nat} {N' : List Str} {more : Nat} (hcalm : X.calm = true) (hi : PI X tg iter wi)
    (hg : ∀ C fp pins s H, PG (X.comp scope N' C fp pins s H) tg g) (ht : ∀ C fp pins s H, PIf (X.comp scope N' C fp pins s H) ifs tt) (he : ∀ C fp pins s H, PE (X.comp scope N' C fp pins s H) elt te)
    (hc : L3.compOk X.env.scope scope X.N N' sh = true) (hm : N'.length = X.N.length + more) (hs : ∀ x, foldedSetIterable iter X.env x = pure x) {use : Option (Value → Sem Unit)} {Qv : Value → Shared → Prop}
    {pins : List (Addr × Obj)} {s : Shared} {σ : St} {H : Hp} {Q : VK} (I : Inv X pins σ H s) (h : tComp wi g tt te sh more σ H Q)
    (fin : ∀ (D C : Addr) (s2 : Shared) (H2 : Hp) (fp : List Addr) (pl : List (Addr × Obj)) (σ4 : St) (H4 : Hp) (s4 : Shared) (n : Nat) (ys : Array Value) (acc : List V), Inv X pins σ H2 s2 → (∀ b ∈ fp, FpOk X pins H2 b) → s2.heap.objs.size ≤ C → s2.heap.objs.size ≤ D → D ≠ C →
      Inv (X.comp scope N' C fp pins s2 H2) pl σ4 H4 s4 → s4.heap.get? D = some { cls := .type "list", data := .seq ys n } → Vals acc ys.toList → H4 D = none → acc.length ≤ sizeLine → Q (.ref D) (upd H4 D (.lst acc)) → compPost (model X.prog X.w) X.A X.xe use Qv (.ref D) C (.ok .next) s4) :
    wpAny (model X.prog X.w) X.A (comprehension (.ListComp elt [⟨tg, iter, ifs, 0⟩] scope pos) scope X.env pos' (newList []) false (eval iter X.env) use) Qv X.xe s := by
  have cp := L3.compOk_parts hc
  refine wpAny_comprehension_free (cl := L3.closL X.env.cells scope.names []) rfl hs (L3.closureFor_eq fun x hx hk => ?_) cp.kind cp.loc ?_
  · obtain ⟨c, q⟩ := I.ok.has x.1 (.inl (cp.free x hx hk))
    rw [q]; rfl
  show wpAny _ X.A (eval iter X.env) _ _ s
  refine thn (hi pins s σ H _ I h) fun v s1 h1 => thn h1 fun itv s2 h2 => ?_
  obtain ⟨it, fp, tn, J, H2, e, I2, T, st2, f2, W, ⟨m0, w0⟩, turn⟩ := h2
  subst e
  have hlt : ∀ b ∈ fp, b < s2.heap.objs.size := fun b hb => by
    obtain ⟨o, q, _⟩ := T.obj 0 _ st2 b hb
    exact Heap.lt_size q
  refine wpAny_newObj_type (wpAny_newFunctionEnv cp.cell (by intro y hy; simp at hy) (fun h₁ hns hsb => ?_) cp.kind)
  dsimp only at hns hsb ⊢
  generalize hG : s2.heap.push { cls := .type "list", dict := none, data := .seq ([] : List Value).toArray } = G at hns hsb ⊢
  have hz : G.objs.size = s2.heap.objs.size + 1 := by rw [← hG, Heap.size_push]
  have hC : s2.heap.objs.size ≤ G.objs.size := by omega
  have hDC : s2.heap.objs.size ≠ G.objs.size := by omega
  have old : ∀ b o, s2.heap.get? b = some o → h₁.get? b = some o := fun b o q => by
    have hb := Heap.lt_size q
    exact hsb.extBut b o (Nat.ne_of_lt (Nat.lt_of_lt_of_le hb hC)) (Heap.get?_push_of_some _ (hG ▸ Heap.get?_push_of_some _ q))
  have acc0 : h₁.PlainList s2.heap.objs.size #[] := ⟨_, hsb.extBut _ _ hDC (Heap.get?_push_of_some _ (hG ▸ Heap.get?_push_size _ rfl))⟩
  have nfD : s2.heap.objs.size ∉ frs X.stack := fun z => by
    obtain ⟨_, o, ho, _⟩ := I2.stack.mem z
    exact absurd (Heap.lt_size ho) (Nat.lt_irrefl _)
  have fpD : ∀ b ∈ fp, s2.heap.objs.size ≠ b := fun b hb => Nat.ne_of_gt (hlt b hb)
  have cD : ∀ x c, (L3.closL X.env.cells scope.names []).lookup x = some c → c ≠ s2.heap.objs.size := fun x c q z => by
    obtain ⟨w', z'⟩ := I2.cell x c (comp_look q)
    rw [z] at z'
    exact absurd z'.lt (Nat.lt_irrefl _)
  have pnD : ∀ p ∈ X.pn ++ pins, p.1 ≠ s2.heap.objs.size := fun p hp z => by
    have q := (I2.pin p hp).1
    rw [z] at q
    exact absurd (Heap.lt_size q) (Nat.lt_irrefl _)
  have okX : (X.comp scope N' G.objs.size fp pins s2 H2).Ok := comp_ok I2 cp hC f2 hlt
  -- the iterator's records, seen from the block
  have stat : ∀ {o : Obj} {H' : Hp}, (∀ b ∈ fp, H' b = none) → ∀ b ∈ fp, FpOk (X.comp scope N' G.objs.size fp pins s2 H2) [(s2.heap.objs.size, o)] H' b := fun {o H'} hn b hb => by
    refine ⟨hn b hb, (okX.exf b hb).1, okX.exfs b hb, .inl hb, (okX.exf b hb).2, fun p hp => ?_⟩
    rcases List.mem_append.mp hp with z | z
    · exact (f2 b hb).2.2.2.2.2 p z
    · have : p = (s2.heap.objs.size, o) := by simpa using z
      rw [this]; exact fpD b hb
  -- the list so far, held as it is
  have hold : ∀ {σ' : St} {H' : Hp} {s' : Shared} {o : Obj}, Inv (X.comp scope N' G.objs.size fp pins s2 H2) [] σ' H' s' → s'.heap.get? s2.heap.objs.size = some o → H' s2.heap.objs.size = none → (∀ v, o.data ≠ .cell v) →
      Inv (X.comp scope N' G.objs.size fp pins s2 H2) [(s2.heap.objs.size, o)] σ' H' s' := fun {σ' H' s' o} I' q n d => I'.pins_of fun p hp => by
    have : p = (s2.heap.objs.size, o) := by simpa using hp
    subst this
    exact ⟨q, n, hDC, nfD, d⟩
  have loop : ∀ s₃ : Shared, s₃ = { s2 with heap := h₁, toks := s2.toks + ([] : List (Str × Value)).length } →
      codeAny (model X.prog X.w) X.A (.compLoop (.ListComp elt [⟨tg, iter, ifs, 0⟩] scope pos) 0 (.ref it) (.ref s2.heap.objs.size) (compEnvC scope (L3.closL X.env.cells scope.names []) G.objs.size X.env))
        (compPost (model X.prog X.w) X.A X.xe use Qv (.ref s2.heap.objs.size) G.objs.size) s₃ := by
    rintro s₃ rfl
    refine L3.comp_loop (fun n s' => ∃ i acc ys σ' H', Inv (X.comp scope N' G.objs.size fp pins s2 H2) [] σ' H' s' ∧ tn i s'.heap ∧ (∀ b ∈ fp, H' b = none) ∧ s'.heap.PlainList s2.heap.objs.size ys ∧ Vals acc ys.toList ∧ H' s2.heap.objs.size = none ∧ W i n acc σ' H') ?_ m0
      ⟨0, [], #[], _, H2, comp_in I2 cp hm hC f2 hlt old hns, T.keep _ _ _ st2 (fun b _ o q => old b o q), fun b hb => (f2 b hb).1, acc0, .nil, I2.hok.fresh (Nat.le_refl _), w0⟩
    rintro n s3 ⟨i, acc, ys, σ3, H3, I3, st3, fr3, ⟨nn, gD⟩, va, fD, w3⟩
    have dD : ∀ v, ({ cls := .type "list", data := .seq ys nn } : Obj).data ≠ .cell v := fun v z => by
      have z' : Data.seq ys nn = Data.cell v := z
      cases z'
    have I3' := hold I3 gD fD dD
    rcases turn i n acc σ3 H3 w3 with ⟨stop, hl, q⟩ | ⟨go, hl, N, hN, step⟩
    · refine thn (T.done (X.comp scope N' G.objs.size fp pins s2 H2) rfl rfl rfl hcalm i _ s3 σ3 H3 (fun _ _ => False) I3' (stat fr3) st3 stop) fun r s4 ⟨hr, I4⟩ => ?_
      subst hr
      have g4 := (I4.pin (s2.heap.objs.size, _) (List.mem_append_right _ List.mem_cons_self)).1
      exact fin _ _ s2 H2 fp _ _ _ s4 _ _ acc I2 f2 hC (Nat.le_refl _) hDC I4 g4 va fD hl (q _ fD)
    · refine thn (T.item (X.comp scope N' G.objs.size fp pins s2 H2) rfl rfl rfl hcalm i _ s3 σ3 H3 (fun _ _ => False) I3' (stat fr3) st3 go) fun r s4 ⟨u, hr, h4⟩ => ?_
      subst hr
      refine thn h4 fun _ s5 ⟨x, H5, I5, r5, y5, st5, fr5⟩ => ?_
      have I5' := I5.pinned (stat fr5) (T.obj _ _ st5)
      refine thn (hg _ _ _ _ _ _ s5 σ3 H5 x u _ I5' r5 (step x H5 y5)) fun _ s6 ⟨σ6, H6, I6, q6⟩ => ?_
      refine thn (ht _ _ _ _ _ _ s6 σ6 H6 _ I6 q6) fun b s7 ⟨H7, I7, q7⟩ => ?_
      have inD : ∀ {o : Obj}, (s2.heap.objs.size, o) ∈ [(s2.heap.objs.size, o)] ++ pinsAt fp s5.heap := List.mem_append_left _ List.mem_cons_self
      have turned : ∀ {σ' : St} {H' : Hp} {s' : Shared}, Inv (X.comp scope N' G.objs.size fp pins s2 H2) ([(s2.heap.objs.size, ({ cls := .type "list", data := .seq ys nn } : Obj))] ++ pinsAt fp s5.heap) σ' H' s' →
          (∀ b ∈ fp, ∀ o, s5.heap.get? b = some o → s'.heap.get? b = some o) ∧ ∀ b ∈ fp, H' b = none := fun I' => by
        refine ⟨fun b hb o q => (I'.pin (b, o) (List.mem_append_right _ (List.mem_append_right _ (mem_pinsAt hb q)))).1, fun b hb => ?_⟩
        obtain ⟨o, q, _⟩ := T.obj _ _ st5 b hb
        exact (I'.pin (b, o) (List.mem_append_right _ (List.mem_append_right _ (mem_pinsAt hb q)))).2.1
      cases b with
      | false =>
        rw [if_neg Bool.false_ne_true] at q7 ⊢
        obtain ⟨m', hm', w7⟩ := hN _ _ _ q7
        have p7 := I7.pin (s2.heap.objs.size, _) (List.mem_append_right _ inD)
        exact ⟨m', hm', i + 1, acc, ys, σ6, H7, I7.pins_of (fun p hp => absurd hp (by simp)), T.keep _ _ _ st5 (turned I7).1, (turned I7).2, ⟨nn, p7.1⟩, va, p7.2.1, w7⟩
      | true =>
        rw [if_pos rfl] at q7 ⊢
        refine thn (he _ _ _ _ _ _ s7 σ6 H7 _ I7 q7) fun yv s8 ⟨y, H8, I8, r8, q8⟩ => ?_
        obtain ⟨m', hm', w8⟩ := hN _ _ _ q8
        have p8 := I8.pin (s2.heap.objs.size, _) (List.mem_append_right _ inD)
        have lenv := va.length
        refine wpAny_list_append_plain (hsz := by rw [← Array.length_toList, ← lenv]; exact Nat.le_of_lt hl) ⟨nn, p8.1⟩ fun h9 pl9 sb9 => ?_
        have J8 : Inv (X.comp scope N' G.objs.size fp pins s2 H2) [] σ6 H8 s8 := I8.pins_of fun p hp => absurd hp (by simp)
        refine ⟨m', hm', i + 1, acc ++ [y], ys.push yv, σ6, H8, J8.turned (t' := s8.toks) (fun b o hb q => (sb9.2 b hb).trans q) p8.2.1 hDC (.inr (Nat.le_refl _)) cD (fun p hp => pnD p (by simpa [Cx.comp] using hp)), ?_, (turned I8).2, pl9, ?_, p8.2.1, w8⟩
        · exact T.keep _ _ _ st5 fun b hb o q => (sb9.2 b (fpD b hb).symm).trans ((turned I8).1 b hb o q)
        · rw [Array.toList_push]
          exact va.append (.cons r8 .nil)
  exact codeAny_compStart_list (loop _ rfl) (T.self _ 0 _ _ _ (T.keep _ _ _ st2 fun b _ o q => old b o q) (loop _ rfl))
theorem pe_comp {X : Cx} {elt tg iter : Expr} {ifs : List Expr} {scope : Scope} {pos : Pos} {wi : TI} {g : TG} {tt : TT} {te : TE} (sh : List Nat) (N' : List Str) (more : Nat) (hcalm : X.calm = true) (hi : PI X tg iter wi)
    (hg : ∀ C fp pins s H, PG (X.comp scope N' C fp pins s H) tg g) (ht : ∀ C fp pins s H, PIf (X.comp scope N' C fp pins s H) ifs tt) (he : ∀ C fp pins s H, PE (X.comp scope N' C fp pins s H) elt te)
    (hc : L3.compOk X.env.scope scope X.N N' sh = true := by rfl) (hm : N'.length = X.N.length + more := by rfl) (hs : ∀ x, foldedSetIterable iter X.env x = pure x := by intro _; rfl) :
    PE X (.ListComp elt [⟨tg, iter, ifs, 0⟩] scope pos) (tComp wi g tt te sh more) := by
  intro pins s σ H Q I h
  rw [eval_ListComp]
  refine comp_any hcalm hi hg ht he hc hm hs (use := none) I h fun D C s2 H2 fp pl σ4 H4 s4 n ys acc I2 f2 hC hD hDC I4 g4 va fD hl q => ?_
  obtain ⟨m4, hn4, _⟩ := I4.loc
  exact ⟨m4, hn4, fun h' sb => ⟨.ref D, _, comp_out I2 hC f2 I4 hD hDC g4 va fD hl sb, rfl, q⟩⟩
theorem range_all : ∀ (bs : List Bool), ((List.range bs.length).all fun i => bs.getD i true) = bs.all id := by
  intro bs
  rw [Bool.eq_iff_iff, List.all_eq_true, List.all_eq_true]
  constructor
  · intro h b hb
    obtain ⟨i, hi, e⟩ := List.mem_iff_getElem.mp hb
    have q := h i (List.mem_range.mpr hi)
    rw [List.getD_eq_getElem?_getD, List.getElem?_eq_getElem hi] at q
    rw [← e]; exact q
  · intro h i hi
    have hi := List.mem_range.mp hi
    rw [List.getD_eq_getElem?_getD, List.getElem?_eq_getElem hi]
    exact h _ (List.getElem_mem hi)
section
variable {X : Cx}
theorem call_allL (hc : X.calm = true) : CallR X (.builtin "all") (fun xs H Q => ∃ (p : Addr) (bs : List Bool), xs = [.ref p] ∧ SqL X.K H p (bs.map V.bl) ∧ Q (.bl (bs.all id)) H) := by
  intro pins s σ H xs us Q I r h
  obtain ⟨p, bs, rfl, hq, q⟩ := h
  obtain ⟨u, rfl, rx⟩ := vals1 r
  cases rx
  obtain ⟨its, rv, pl, hz⟩ := I.list hq
  have hlen : its.length = bs.length := by rw [← rv.length, List.length_map]
  have plt : p < s.heap.objs.size := by
    obtain ⟨o, ho, _⟩ := pl.isList
    exact Heap.lt_size ho
  have hh : X.A.in1.handled = none := I.ok.hd hc
  refine call_all_walk (wpAny_pyIter_list pl.isList ⟨s.heap.objs.size, _, _, _, _, _, fun i => bs.getD i true, rfl, Walks.list hh s.heap.objs.size p (Nat.ne_of_lt plt) its.toArray, ⟨⟨_, Heap.get?_push_size _ rfl, rfl, rfl⟩, pl.isList.push _⟩, fun i v s' Q' E' hv hQ => ?_, fun h' tk k => ?_⟩)
  · have hv' : its[i]? = some v := by simpa using hv
    have hi : i < bs.length := by
      rw [← hlen]; exact (List.getElem?_eq_some_iff.mp hv').1
    obtain ⟨u, hu, ru⟩ := rv.get (i := i) (x := .bl bs[i]) (by rw [List.getElem?_map, List.getElem?_eq_getElem hi]; rfl)
    rw [hv'] at hu; cases hu
    cases ru
    have e : bs.getD i true = bs[i] := by rw [List.getD_eq_getElem?_getD, List.getElem?_eq_getElem hi]; rfl
    have hQ' : Q' (bs.getD i true) s' := hQ
    rw [e] at hQ'
    exact wpAny_truthy_bool hQ'
  · have e : its.toArray.size = bs.length := by rw [List.size_toArray, hlen]
    rw [e, range_all]
    refine ⟨.bl (bs.all id), H, ?_, rfl, q⟩
    have I1 : Inv X pins σ H { s with heap := s.heap.push { cls := .type "list_iterator", data := .fields #[.ref p, .int 0 0] } } := I.kept (t' := s.toks) fun b o z => Heap.get?_push_of_some _ z
    refine I1.turnMany (t' := tk) (ch := [s.heap.objs.size]) (fun b hb => ?_) fun b o hb z => k b o (by simpa using hb) z
    have : b = s.heap.objs.size := by simpa using hb
    subst this
    exact I.fpOk (Nat.le_refl _) (I.hok.fresh (Nat.le_refl _))
theorem call_isi : CallR X (.builtin "isinstance") (fun xs H Q => ∃ x c t b, xs = [x, .ty c] ∧ TyOf X.K H x t ∧ PySem.W.kitOne X.K t (.type c) = some b ∧ Q (.bl b) H) := by
  intro pins s σ H xs us Q I r h
  obtain ⟨x, c, t, b, rfl, ty, e, q⟩ := h
  obtain ⟨u, v, rfl, rx, rc⟩ := vals2 r
  cases (show v = Value.type c from rc)
  exact isinst_ok I rx ty e fun tk => ⟨.bl b, H, I.tok _, rfl, q⟩
noncomputable def tSl3 (r : V → Option Int → Option Int → Option Int → Hp → VK → Prop) (te : TE) (tl th ts : TO) : TE := fun σ H Q => te σ H fun x H1 => tl σ H1 fun l H2 => th σ H2 fun u H3 => ts σ H3 fun st H4 => r x l u st H4 Q
end
end L2
namespace L2
open PySem PySem.Spec PyProof.Rows
structure Fn (P : Program) (w : World) (K : PySem.W.Frag) (mg : Str → Option Value) (base : Heap) (x : Str) (ps : List Str) (k : Nat) (sp : Sp) : Prop where
  ex : ∃ f fd, FnOk P w K mg base CX0 k f fd ps sp ∧ mg x = some (.ref f) ∧ PySem.W.keepIn K (.ref f) = true ∧ Binds K fd ps []
theorem Fn.of {P : Program} {w : World} {K : PySem.W.Frag} {mg : Str → Option Value} {base : Heap} {x : Str} {ps : List Str} {k : Nat} {sp : Sp} {f : Addr} {fd : FuncData} (O : FnOk P w K mg base CX0 k f fd ps sp) (m : mg x = some (.ref f)) (kp : PySem.W.keepIn K (.ref f) = true) (b : Binds K fd ps []) :
    Fn P w K mg base x ps k sp := ⟨f, fd, O, m, kp, b⟩
section
variable {X : Cx} {x : Str} {ps : List Str} {k k' : Nat} {sp : Sp} {e : Expr} {es : List Expr} {t : TA} {p pos : Pos}
theorem pe_fn (F : Fn X.prog X.w X.K X.mg X.base x ps k sp) (hr : Room k' X.A) (ha : PA X (e :: es) t) (hk : k ≤ k' := by first | decide | exact Nat.le_refl _) (hg : Gl X x := by rfl) (hdb : (x == ("__debug__" : Str)) = false := by decide)
    (he : starEach (e :: es) X.env = (false, eval e X.env) :: starEach es X.env := by rfl) (hpl : (backTo pos (starEach es X.env)).any (·.1) = false := by rfl) : PE X (.Call (.Name x p) (e :: es) [] pos) (tCall sp [] E0 t) := by
  obtain ⟨f, fd, O, m, kp, b⟩ := F.ex
  exact pe_call O (hr.mono hk) hg m kp b .nil pass0 ha hdb he hpl
theorem ps_join {st : Stmt} {t : TS} (h : PS X st t) : PS X st (fun D σ H => ∃ J : St → Hp → Prop, (∀ σ' H', J σ' H' → D.nx σ' H') ∧ t { D with nx := J } σ H) := by
  intro pins s σ H D I q
  obtain ⟨J, hJ, q⟩ := q
  refine thn (h pins s σ H _ I q) fun f s1 r => ?_
  cases f with
  | next =>
    obtain ⟨σ', H', I', r⟩ := r
    exact ⟨σ', H', I', hJ _ _ r⟩
  | ret v => exact r
  | brk => exact r
  | cont => exact r
end
section
variable {X : Cx}
theorem pg_tupK (K : PySem.W.Frag) (n : Nat) {es : List Expr} {k : Nat} {t : TGs} {pos : Pos} (hc : X.calm = true) (h : PGs X es t) (hK : X.K = K) (hn : (assignEach es X.env).length = n) (hst : (assignEach es X.env).findIdx? (·.1) = none) : PG X (.Tuple es k pos) (gTup K n t) := by
  subst hK
  exact pg_tup hc h hn hst
end
theorem same_new {H : Hp} {p : Addr} (h : H p = none) (o : HO) : Same H (upd H p o) := fun b u q => by rw [upd_ne (ne_of_none q h)]; exact q
theorem small {n : Nat} (h : n ≤ 1000000) : n ≤ sizeLine := Nat.le_trans h (by rw [sizeLine_eq]; decide)
theorem smallL {n : Nat} (h : n ≤ 1000000) : n < sizeLine := Nat.lt_of_le_of_lt h (by rw [sizeLine_eq]; decide)
noncomputable def Scr (K : PySem.W.Frag) (H : Hp) (a : Addr) (ns : List Int) : Prop := (∃ o, H a = some (.frz o (.lst (ns.map V.int)))) ∨
  ∃ (o : Obj) (its : Array Value) (n : Nat), K.lookup a = some o ∧ o.cls = .type "list" ∧ o.dict = none ∧ o.data = .seq its n ∧ its.size ≤ sizeLine ∧ Vals (ns.map V.int) its.toList
theorem Scr.seq {K : PySem.W.Frag} {H : Hp} {a : Addr} {ns : List Int} (h : Scr K H a ns) : SqL K H a (ns.map V.int) := by
  rcases h with ⟨o, h⟩ | h
  · exact .inl (.inr ⟨o, h⟩)
  · exact .inr h
theorem Scr.of {K : PySem.W.Frag} {H : Hp} {a : Addr} {ns : List Int} (h : SqL K H a (ns.map V.int)) (o : Only H) : Scr K H a ns := by
  rcases h with (h | ⟨ob, h⟩) | h
  · rcases o a with z | ⟨ob, xs, z⟩
    · rw [z] at h; cases h
    · rw [z] at h; cases h
  · exact .inl ⟨ob, h⟩
  · exact .inr h
noncomputable abbrev zeros (k : Nat) : List V := List.replicate k (V.int 0)
noncomputable def Twn (H : Hp) (t : Addr) (k : Nat) : Prop := H t = some (.lst (zeros k))
noncomputable def Grow (t : Addr) (H H' : Hp) : Prop := ∀ b o, b ≠ t → H b = some o → H' b = some o
theorem Grow.refl (t : Addr) (H : Hp) : Grow t H H := fun _ _ _ h => h
theorem Grow.trans {t : Addr} {H H1 H2 : Hp} (a : Grow t H H1) (b : Grow t H1 H2) : Grow t H H2 := fun c o n h => b c o n (a c o n h)
theorem Grow.same {t : Addr} {H H1 : Hp} (a : Same H H1) : Grow t H H1 := fun c o _ h => a c o h
theorem Grow.upd {t : Addr} {H : Hp} (o : HO) : Grow t H (upd H t o) := fun c u n h => by rw [upd_ne n]; exact h
theorem Grow.scr {K : PySem.W.Frag} {t a : Addr} {H H' : Hp} {ns : List Int} {k : Nat} (g : Grow t H H') (tw : Twn H t k) (s : Scr K H a ns) : Scr K H' a ns := by
  rcases s with ⟨o, h⟩ | h
  · exact .inl ⟨o, g _ _ (fun z => by subst z; unfold Twn at tw; rw [tw] at h; cases h) h⟩
  · exact .inr h
theorem Grow.tup {t a : Addr} {H H' : Hp} {xs : List V} {k : Nat} (g : Grow t H H') (tw : Twn H t k) (h : H a = some (.tup xs)) : H' a = some (.tup xs) :=
  g _ _ (fun z => by subst z; unfold Twn at tw; rw [tw] at h; cases h) h
theorem Same.scr {K : PySem.W.Frag} {a : Addr} {H H' : Hp} {ns : List Int} (g : Same H H') (s : Scr K H a ns) : Scr K H' a ns := by
  rcases s with ⟨o, h⟩ | h
  · exact .inl ⟨o, g _ _ h⟩
  · exact .inr h
theorem Same.twn {t : Addr} {H H' : Hp} {k : Nat} (g : Same H H') (s : Twn H t k) : Twn H' t k := g _ _ s
noncomputable def scl : V → Bool
  | .non => true | .bl _ => true | .int _ => true | .str _ => true | _ => false
noncomputable def Eqv (H : Hp) : Nat → V → V → Prop
  | 0, _, _ => False
  | n + 1, x, y => (x = y ∧ scl x = true) ∨ ∃ a b xs ys, x = .ref a ∧ y = .ref b ∧ H a = some (.tup xs) ∧ H b = some (.tup ys) ∧ xs.length ≤ 1000000 ∧ Paired (Eqv H n) xs ys
theorem Eqv.same {H H' : Hp} (g : Same H H') : ∀ {n : Nat} {x y : V}, Eqv H n x y → Eqv H' n x y
  | 0, _, _, h => h
  | n + 1, x, y, h => by
    rcases h with h | ⟨a, b, xs, ys, e1, e2, h1, h2, hz, p⟩
    · exact .inl h
    · exact .inr ⟨a, b, xs, ys, e1, e2, g _ _ h1, g _ _ h2, hz, Paired.mapP p fun _ _ q => Eqv.same g q⟩
theorem Eqv.int {H : Hp} {n : Nat} (i : Int) : Eqv H (n + 1) (.int i) (.int i) := .inl ⟨rfl, rfl⟩
theorem eqv_ints {H : Hp} {n : Nat} : ∀ (l : List Int), Paired (Eqv H (n + 1)) (l.map V.int) (l.map V.int)
  | [] => .nil
  | i :: l => .cons (Eqv.int i) (eqv_ints l)
theorem Eqv.ints {H : Hp} {n : Nat} {a b : Addr} {l : List Int} (h1 : H a = some (.tup (l.map V.int))) (h2 : H b = some (.tup (l.map V.int))) (hz : l.length ≤ 1000000) : Eqv H (n + 2) (.ref a) (.ref b) :=
  .inr ⟨a, b, _, _, rfl, rfl, h1, h2, by rw [List.length_map]; exact hz, eqv_ints l⟩
noncomputable def lcell (ns : List Int) (k : Nat) : Int := if ns = [] then 0 else ns.getD (k % ns.length) 0
noncomputable def drw1 (ns : List Int) (k : Nat) : Int := (lcell ns k + 104729 * (k : Int)) % 4294967291
noncomputable def drw2 (ns : List Int) (k : Nat) : Int := drw1 ns k * drw1 ns k % 4294967279 * 48271 % 4294967291
noncomputable def drw3 (ns : List Int) (k : Nat) : Int := drw2 ns k * drw2 ns k % 4294967279 * 69621 % 4294967291
noncomputable def drw (ns : List Int) (k : Nat) (m : Int) : Int := (drw2 ns k / 64 * 67108864 + drw3 ns k / 64) % m
theorem drw_nn (ns : List Int) (k : Nat) {m : Int} (h : 0 < m) : 0 ≤ drw ns k m := Int.emod_nonneg _ (by omega)
theorem drw_lt (ns : List Int) (k : Nat) {m : Int} (h : 0 < m) : drw ns k m < m := Int.emod_lt_of_pos _ h
noncomputable def spDraw (K : PySem.W.Frag) : Sp := fun vs H Q _ => ∃ (a t : Addr) (ns : List Int) (k : Nat) (m : Int), vs = [.ref a, .ref t, .int m] ∧ Scr K H a ns ∧ ns.length ≤ 63 ∧ Twn H t k ∧ k ≤ 900000 ∧ 0 < m ∧
  ∀ H', Grow t H H' → Twn H' t (k + 1) → Q (.int (drw ns (k + 1) m)) H'
noncomputable def spLaw (K : PySem.W.Frag) : Sp := fun vs H Q _ => ∃ (a : Addr) (ns : List Int), vs = [.ref a] ∧ Scr K H a ns ∧ ns.length ≤ 63 ∧ ∀ H', Q (.bl true) H'
end L2
set_option maxRecDepth 100000
namespace L2
open PySem
noncomputable def Tr (B h : Heap) (e : Addr) (cls c fl : Value) : Prop :=
  ∃ oe vs T oT ts, h.get? e = some oe ∧ oe.cls = cls ∧ oe.data = .fields vs ∧ vs[2]? = some c ∧ vs[1]? = some (.ref T) ∧ B.get? T = none ∧ T ≠ e ∧ h.get? T = some oT ∧ oT.data = .fields ts ∧ ts[3]? = some fl
noncomputable def Fl (B : Heap) (l : List Env) (e : Addr) (cls c fl : Value) (h : Heap) : Prop :=
  B.StaysIn h ∧ B.get? e = none ∧ h.FunFrames B l ∧ Tr B h e cls c fl
theorem Fl.rest {B h : Heap} {env : Env} {outer : List Env} {e : Addr} {cls c fl : Value} (x : Fl B (env :: outer) e cls c fl h) : Fl B outer e cls c fl h := by
  obtain ⟨x1, x2, ⟨_, _, x3⟩, x4⟩ := x
  exact ⟨x1, x2, x3, x4⟩
section
variable {M : Model} {A : Around} {E : Value → Shared → Prop} {s : Shared} {B : Heap} {env : Env} {outer : List Env} {L e : Addr} {oe : Obj} {vs : Array Value} {cls c : Value} {Q : Unit → Shared → Prop}
theorem fl_entry {head : Value} {nx : Bool} (fA : A.frames = some (env :: outer)) (fF : s.heap.FunFrames B (env :: outer)) (fL : env.frame = some L) (e1 : s.heap.get? e = some oe) (sB : B.StaysIn s.heap) (eB : B.get? e = none) (ed : oe.data = .fields vs) (ec : vs[2]? = some c)
    (q : ∀ g, Fl B (env :: outer) e oe.cls c (rawInt L) g → s.heap.UpToSlots g → Q () { s with heap := g }) :
    wpAny M A (do let a ← frameOf env; let pl ← entryPlaceOf L nx; let b ← EntryCells.newEntry head a .none (rawInt L) .none pl; setField (.ref e) 1 b) Q E s := by
  have ez : 2 < vs.size := (Array.getElem?_eq_some_iff.mp ec).1
  have notF : ∀ b o ws, s.heap.get? b = some o → o.data = .fields ws → b ∉ (env :: outer).filterMap (·.frame) := fun b o ws e2 e3 y => by
    obtain ⟨_, o', e4, n4⟩ := fF.mem y
    rw [e2] at e4; cases e4; exact n4 ws e3
  refine wpAny_bind (wpAny_frameOf_fun fA fF fL fun g1 sl => wpAny_bind (wpAny_entryPlaceOf fun pl hpl => ?_))
  unfold EntryCells.newEntry newFields
  refine wpAny_bind (wpAny_newObj_type ?_ (hpl.sizeOk5 _ _ _ _ _))
  have tb : ∃ ts, (.fields ([head, .ref L, .none, rawInt L, .none] ++ (if pl.isEmpty then List.replicate 6 Value.none else pl)).toArray : Data) = .fields ts ∧ ts[3]? = some (rawInt L) := ⟨_, rfl, by simp⟩
  generalize (Data.fields ([head, .ref L, .none, rawInt L, .none] ++ (if pl.isEmpty then List.replicate 6 Value.none else pl)).toArray) = da at tb ⊢
  obtain ⟨ts, rfl, t3⟩ := tb
  have g1e : g1.get? e = some oe := (sl.2.1 e (notF e oe vs e1 ed)).trans e1
  have ob := Heap.get?_push_of_some (h := g1) { cls := .type "traceback", dict := none, data := .fields ts } g1e
  have ob2 := Heap.get?_push_size g1 (o := { cls := .type "traceback", dict := none, data := .fields ts }) rfl
  refine wpAny_setField ob ed (by omega) (q _ ?_ ?_)
  all_goals
    have far : g1.objs.size ≠ e := Nat.ne_of_gt (Heap.lt_size g1e)
    have kp : ∀ b o, b ≠ e → g1.get? b = some o → ((g1.push { cls := .type "traceback", dict := none, data := .fields ts }).update e (Obj.mapFields (·.setIfInBounds 1 (Value.ref g1.objs.size)))).get? b = some o := fun b o n y =>
      (Heap.get?_update_other _ _ (Ne.symm n)).trans (Heap.get?_push_of_some _ y)
    have rec0 : ∀ b o, s.heap.get? b = some o → (∀ ws, o.data ≠ .fields ws) → b ≠ e := fun b o y n z => by
      subst z; rw [e1] at y; cases y; exact n vs ed
  · have inB : ∀ b o, B.get? b = some o → g1.get? b = some o := fun b o y => (sl.2.1 b fun z => by rw [(fF.mem z).1] at y; cases y).trans (sB b o y)
    have ed2 := Obj.data_mapFields ed (·.setIfInBounds 1 (Value.ref g1.objs.size))
    refine ⟨fun b o y => kp b o (fun z => by subst z; rw [eB] at y; cases y) (inB b o y), eB, fF.of_keeps fun b o y n => ?_, _, _, g1.objs.size, _, ts, Heap.get?_update_self _ ob (Obj.isFreed_of_fields ed2), Obj.cls_mapFields _ _, ed2, ?_, ?_, ?_, far, (Heap.get?_update_other _ _ (Ne.symm far)).trans ob2, rfl, t3⟩
    · obtain ⟨sl2, y2⟩ := sl.2.2 b o y
      exact ⟨_, kp b _ (rec0 b o y n) y2, rfl⟩
    · rw [Array.getElem?_setIfInBounds_ne (by decide)]; exact ec
    · simp [show 1 < vs.size by omega]
    · cases y : B.get? g1.objs.size with
      | none => rfl
      | some o => exact absurd (Heap.lt_size (inB _ _ y)) (Nat.lt_irrefl _)
  · intro b o y n
    obtain ⟨sl2, y2⟩ := sl.2.2 b o y
    exact ⟨sl2, kp b _ (rec0 b o y n) y2⟩
theorem fl_new (fA : A.frames = some (env :: outer)) (fF : s.heap.FunFrames B (env :: outer)) (fL : env.frame = some L) (e1 : s.heap.get? e = some oe) (sB : B.StaysIn s.heap) (eB : B.get? e = none) (ed : oe.data = .fields vs) (ec : vs[2]? = some c) (et : vs[1]? = some .none)
    (q : ∀ g, Fl B (env :: outer) e oe.cls c (rawInt L) g → s.heap.UpToSlots g → Q () { s with heap := g }) : wpAny M A (noteFrame (.ref e) env) Q E s := by
  unfold noteFrame
  simp only [fL]
  refine wpAny_bind (wpAny_field e1 ed et ?_)
  rw [if_neg (by decide)]
  exact fl_entry fA fF fL e1 sB eB ed ec q
theorem fl_note (fA : A.frames = some (env :: outer)) (fL : env.frame = some L) (x : Fl B (env :: outer) e cls c .none s.heap)
    (q : ∀ g, Fl B (env :: outer) e cls c (rawInt L) g → s.heap.UpToSlots g → Q () { s with heap := g }) : wpAny M A (noteFrame (.ref e) env) Q E s := by
  obtain ⟨sB, eB, fF, oe, vs, T, oT, ts, e1, rfl, ed, ec, et, tB, tn, t1, td, t3⟩ := x
  unfold noteFrame
  simp only [fL]
  refine wpAny_bind (wpAny_field e1 ed et ?_)
  rw [if_pos (show (Value.ref T != Value.none) = true by simp)]
  refine wpAny_bind (wpAny_field t1 td t3 ?_)
  rw [if_neg (show ¬ ((Value.none == rawInt L) = true) by simp [rawInt])]
  refine wpAny_bind (wpAny_setField t1 td (Array.getElem?_eq_some_iff.mp t3).1 ?_)
  have oth : ∀ b, b ≠ T → (s.heap.update T (Obj.mapFields (·.setIfInBounds 3 Value.none))).get? b = s.heap.get? b := fun b n => Heap.get?_update_other _ _ (Ne.symm n)
  have rec0 : ∀ b o, s.heap.get? b = some o → (∀ ws, o.data ≠ .fields ws) → b ≠ T := fun b o y n z => by
    subst z; rw [t1] at y; cases y; exact n ts td
  refine fl_entry (s := { s with heap := s.heap.update T (Obj.mapFields (·.setIfInBounds 3 Value.none)) }) fA (fF.of_keeps fun b o y n => ⟨o, (oth b (rec0 b o y n)).trans y, rfl⟩) fL ((oth e (Ne.symm tn)).trans e1) (fun b o y => (oth b fun z => by subst z; rw [tB] at y; cases y).trans (sB b o y)) eB ed ec
    fun g y1 y2 => q g y1 fun b o z n => y2 b o ((oth b (rec0 b o z n)).trans z) n
theorem fl_land {l : List Env} {fl : Value} (x : Fl B l e cls c fl s.heap) (q : ∀ g, Fl B l e cls c .none g → s.heap.UpToSlots g → Q () { s with heap := g }) : wpAny M A (setFlight (.ref e) none) Q E s := by
  obtain ⟨sB, eB, fF, oe, vs, T, oT, ts, e1, ek, ed, ec, et, tB, tn, t1, td, t3⟩ := x
  have z3 : 3 < ts.size := (Array.getElem?_eq_some_iff.mp t3).1
  have oth : ∀ b, b ≠ T → (s.heap.update T (Obj.mapFields (·.setIfInBounds 3 ((none : Option Addr).elim Value.none fun f => rawInt f)))).get? b = s.heap.get? b := fun b n => Heap.get?_update_other _ _ (Ne.symm n)
  have rec0 : ∀ b o, s.heap.get? b = some o → (∀ ws, o.data ≠ .fields ws) → b ≠ T := fun b o y n z => by
    subst z; rw [t1] at y; cases y; exact n ts td
  unfold setFlight
  refine wpAny_bind (wpAny_field e1 ed et ?_)
  rw [if_pos (show (Value.ref T != Value.none) = true by simp)]
  refine wpAny_setField t1 td z3 (q _ ⟨fun b o y => (oth b fun z => by subst z; rw [tB] at y; cases y).trans (sB b o y), eB, fF.of_keeps fun b o y n => ⟨o, (oth b (rec0 b o y n)).trans y, rfl⟩, oe, vs, T, _, _, (oth e (Ne.symm tn)).trans e1, ek, ed, ec, et, tB, tn, Heap.get?_update_self _ t1 (Obj.isFreed_of_fields (Obj.data_mapFields td _)), Obj.data_mapFields td _, ?_⟩ fun b o y n => ⟨o.slots, (oth b (rec0 b o y n)).trans y⟩)
  simp [z3]
theorem fl_leave (fA : A.frames = some (env :: outer)) (fL : env.frame = some L) (x : Fl B (env :: outer) e cls c .none s.heap)
    (q : ∀ g, Fl B outer e cls c .none g → s.heap.UpToSlots g → Q () { s with heap := g }) : wpAny M A (leaving env (.ref e)) Q E s := by
  unfold leaving
  exact wpAny_bind (fl_note fA fL x fun g1 y1 u1 => fl_land (s := { s with heap := g1 }) y1 fun g2 y2 u2 => q g2 y2.rest (u1.trans u2))
theorem fl_leaveNew (fA : A.frames = some (env :: outer)) (fF : s.heap.FunFrames B (env :: outer)) (fL : env.frame = some L) (e1 : s.heap.get? e = some oe) (sB : B.StaysIn s.heap) (eB : B.get? e = none) (ed : oe.data = .fields vs) (ec : vs[2]? = some c) (et : vs[1]? = some .none)
    (q : ∀ g, Fl B outer e oe.cls c .none g → s.heap.UpToSlots g → Q () { s with heap := g }) : wpAny M A (leaving env (.ref e)) Q E s := by
  unfold leaving
  exact wpAny_bind (fl_new fA fF fL e1 sB eB ed ec et fun g1 y1 u1 => fl_land (s := { s with heap := g1 }) y1 fun g2 y2 u2 => q g2 y2.rest (u1.trans u2))
end
end L2
namespace L2
open PySem
inductive Reach (h : Heap) : Value → Value → Prop
  | refl (v : Value) : Reach h v v
  | step {a : Addr} {o : Obj} {vs : Array Value} {v u : Value} : h.get? a = some o → o.data = .fields vs → vs[2]? = some v → Reach h v u → Reach h (.ref a) u
noncomputable def Chain (h : Heap) (F : Addr → Prop) : Nat → Value → Prop
  | 0, v => v = .none
  | n + 1, v => v = .none ∨ ∃ a o vs c, v = .ref a ∧ h.get? a = some o ∧ F a ∧ o.data = .fields vs ∧ vs[2]? = some c ∧ Chain h F n c
theorem Chain.imp {h g : Heap} {F G : Addr → Prop} (k : ∀ a o vs, F a → h.get? a = some o → o.data = .fields vs → g.get? a = some o ∧ G a) : ∀ {n : Nat} {v : Value}, Chain h F n v → Chain g G n v
  | 0, _, x => x
  | n + 1, _, x => by
    rcases x with x | ⟨a, o, vs, c, e1, e2, e3, e4, e5, r⟩
    · exact .inl x
    · exact .inr ⟨a, o, vs, c, e1, (k a o vs e3 e2 e4).1, (k a o vs e3 e2 e4).2, e4, e5, Chain.imp k r⟩
noncomputable def ChainP (ps : List (Addr × Obj)) : Nat → Value → Prop
  | 0, v => v = .none
  | n + 1, v => v = .none ∨ ∃ a o vs c, v = .ref a ∧ (a, o) ∈ ps ∧ o.data = .fields vs ∧ vs[2]? = some c ∧ ChainP ps n c
theorem ChainP.more {ps qs : List (Addr × Obj)} (k : ∀ p ∈ ps, p ∈ qs) : ∀ {n : Nat} {v : Value}, ChainP ps n v → ChainP qs n v
  | 0, _, x => x
  | n + 1, _, x => by
    rcases x with x | ⟨a, o, vs, c, e1, e2, e4, e5, r⟩
    · exact .inl x
    · exact .inr ⟨a, o, vs, c, e1, k _ e2, e4, e5, ChainP.more k r⟩
theorem Chain.pins {h : Heap} {F : Addr → Prop} : ∀ {n : Nat} {v : Value}, Chain h F n v → ∃ ps : List (Addr × Obj), (∀ p ∈ ps, h.get? p.1 = some p.2 ∧ F p.1 ∧ ∃ vs, p.2.data = .fields vs) ∧ ChainP ps n v
  | 0, _, x => ⟨[], fun _ y => absurd y (by simp), x⟩
  | n + 1, _, x => by
    rcases x with x | ⟨a, o, vs, c, e1, e2, e3, e4, e5, r⟩
    · exact ⟨[], fun _ y => absurd y (by simp), .inl x⟩
    · obtain ⟨ps, k, r⟩ := Chain.pins r
      refine ⟨(a, o) :: ps, fun p y => ?_, .inr ⟨a, o, vs, c, e1, List.mem_cons_self, e4, e5, r.more fun p y => List.mem_cons_of_mem _ y⟩⟩
      rcases List.mem_cons.mp y with rfl | y
      · exact ⟨e2, e3, vs, e4⟩
      · exact k p y
section
variable {prog : Program} {w : World}
end
end L2
namespace L2
open PySem
section
variable {prog : Program} {w : World} {A : Around} {E : Value → Shared → Prop} {env : Env}
variable {nm q : Str} {C N : Addr} {bs bm bmB : List Value} {hdct : Bool} {sn : List Str} {sub : List Value} {ab : Bool} {col : Option Bool} {dd : Option Addr} {k0 k1 k2 k3 k5 : Option Value} {newId : String}
end
end L2
namespace L2
open PySem
section
variable {prog : Program} {w : World} {A : Around} {E : Value → Shared → Prop} {s : Shared} {env : Env}
variable {nm q : Str} {C N : Addr} {bs bm bmB : List Value} {hdct : Bool} {sn : List Str} {sub : List Value} {ab : Bool} {col : Option Bool} {dd : Option Addr} {k0 k1 k2 k3 k5 : Option Value} {T newId initId : String}
end
end L2
namespace L2
open PySem PySem.Spec PyProof.Rows
theorem hok_none {P : Program} {w : World} {H : Hp} {h : Heap} {a : Addr} (x : HOk P w H h) (e : h.get? a = none) : H a = none := by
  cases q : H a with
  | none => rfl
  | some o =>
    have y := x a o q
    have : ∃ ob, h.get? a = some ob := by
      cases o with
      | lst xs => obtain ⟨_, _, _, _, e⟩ := y; exact ⟨_, e⟩
      | tup xs => obtain ⟨_, _, _, ⟨_, e, _⟩, _⟩ := y; exact ⟨_, e⟩
      | dK kvs => obtain ⟨_, _, _, _, o, _, _, e, _⟩ := y; exact ⟨_, e⟩
      | dT kvs => obtain ⟨_, _, _, _, o, _, _, e, _⟩ := y; exact ⟨_, e⟩
      | set S n => obtain ⟨o, _, _, _, e, _⟩ := y; exact ⟨_, e⟩
      | ins C dx fs => obtain ⟨_, _, _, e, _⟩ := y; exact ⟨_, e⟩
      | own y => obtain ⟨_, e⟩ := y; exact ⟨_, e⟩
      | xd fs => obtain ⟨_, ⟨_, _, _, e, _⟩, _⟩ := y; exact ⟨_, e⟩
      | rng lo hi => obtain ⟨_, _, _, e⟩ := y; exact ⟨_, e⟩
      | frz ob u => obtain ⟨e, _⟩ := y; exact ⟨_, e⟩
      | tbl ps => exact ⟨_, show h.get? a = some _ from y⟩
      | met f z => exact ⟨_, show h.get? a = some _ from y⟩
      | ext φ => obtain ⟨_, ⟨_, e⟩, _⟩ := y; exact ⟨_, e⟩
    obtain ⟨ob, z⟩ := this
    rw [e] at z; cases z
structure Flown (P : Program) (w : World) (outer : List Env) (H : Hp) (s : Shared) (x C : Addr) (c : Value) (B : Heap) (H' : Hp) (s' : Shared) : Prop where
  fly : Fl B outer x (.ref C) c .none s'.heap
  os : s'.os = s.os
  bare : AllBare s'.gens
  k1 : ∀ b o, s.heap.get? b = some o → H b = none → b ∉ frs outer → B.get? b = some o
  k2 : ∀ b o, s.heap.get? b = some o → H b = none → b ∈ frs outer → ∃ sl, s'.heap.get? b = some { o with slots := sl }
  k3 : ∀ b o, s.heap.get? b = some o → b ∉ frs outer → ∃ o', B.get? b = some o'
  free : ∀ b o, s.heap.get? b = some o → H b = none → H' b = none
  tups : ∀ b xs, H b = some (.tup xs) → H' b = some (.tup xs)
  frzs : ∀ b o u, H b = some (.frz o u) → H' b = some (.frz o u)
  tbls : ∀ b ps, H b = some (.tbl ps) → ∃ more, H' b = some (.tbl (ps ++ more))
  hok : HOk P w H' B
  new : H' x = none
  ch : ∃ n, Chain B (fun a => H' a = none) n c
noncomputable def CXR (P : Program) (w : World) : CXT := fun outer H s E e s' => ∃ (x C : Addr) (c : Value) (B : Heap) (H' : Hp), e = .ref x ∧ Flown P w outer H s x C c B H' s' ∧ E (.ref C) none H'
theorem Flown.un {P : Program} {w : World} {outer : List Env} {H : Hp} {s : Shared} {x C : Addr} {c : Value} {B : Heap} {H' : Hp} {s' : Shared} (F : Flown P w outer H s x C c B H' s') {h : Heap} (st : B.StaysIn h) (up : s'.heap.UpToSlots h) : Un (frs outer) [] H H' s.heap h := by
  have nf : ∀ b ∈ frs outer, ∀ o, s'.heap.get? b = some o → ∀ vs, o.data ≠ .fields vs := fun b hb o e => by
    obtain ⟨_, o', ho', n'⟩ := F.fly.2.2.1.mem hb
    rw [e] at ho'; cases ho'; exact n'
  refine ⟨fun b o e n hb _ => st b o (F.k1 b o e n hb), fun b o e n hb _ => ?_, fun b o e n _ => F.free b o e n, fun b o e _ => ?_, F.tups, F.frzs, F.tbls⟩
  · obtain ⟨sl, q⟩ := F.k2 b o e n hb
    obtain ⟨sl', q'⟩ := up b _ q (nf b hb _ q)
    exact ⟨sl', q'⟩
  · by_cases hb : b ∈ frs outer
    · obtain ⟨_, o', ho', n'⟩ := F.fly.2.2.1.mem hb
      obtain ⟨sl', q'⟩ := up b _ ho' n'
      exact ⟨_, q'⟩
    · obtain ⟨o', q⟩ := F.k3 b o e hb
      exact ⟨o', st b o' q⟩
section
variable {P : Program} {w : World} {K : PySem.W.Frag} {mg : Str → Option Value} {base : Heap} {N : List Str} {qual : Str} {scope : Scope} {f : Addr} {cd : Value} {A : Around} {outer : List Env} {s : Shared} {H : Hp} {E : XK}
theorem frs_cons {env : Env} {l : List Env} {b : Addr} (h : b ∈ frs l) : b ∈ frs (env :: l) := by
  unfold frs at h ⊢
  obtain ⟨e, he, hf⟩ := List.mem_filterMap.mp h
  exact List.mem_filterMap.mpr ⟨e, List.mem_cons_of_mem _ he, hf⟩
theorem cx_raise {pins : List (Addr × Obj)} {σ : St} {H1 : Hp} {s1 : Shared} {g : Heap} {x C : Addr} {oe : Obj} {vs : Array Value} {c : Value} (I : Inv (cxOf (CXR P w) P w K mg base N qual scope f cd A outer s H E) pins σ H1 s1)
    (kp : ∀ b o, s1.heap.get? b = some o → g.get? b = some o) (xn : s1.heap.get? x = none) (xg : g.get? x = some oe) (xk : oe.cls = .ref C) (xd : oe.data = .fields vs) (x1 : vs[1]? = some .none) (x2 : vs[2]? = some c) (xh : ∃ n, Chain s1.heap (fun a => H1 a = none) n c)
    (q : E (.ref C) none H1) : (cxOf (CXR P w) P w K mg base N qual scope f cd A outer s H E).xe (.ref x) { s1 with heap := g } := by
  have notF : ∀ b o, s.heap.get? b = some o → b ∉ frs outer → b ∉ frs (envOfC qual scope s.heap.objs.size f cd :: outer) := fun b o e hb z => by
    rcases List.mem_cons.mp (I.stkSub b z) with y | y
    · exact absurd (Heap.lt_size e) (by rw [y]; exact Nat.lt_irrefl _)
    · exact hb y
  have noex : ∀ b : Addr, b ∉ (cxOf (CXR P w) P w K mg base N qual scope f cd A outer s H E).ex := fun b z => absurd (show b ∈ ([] : List Addr) from z) (by simp)
  have fF : s1.heap.FunFrames (PySem.W.hideAll s1.heap (frs (envOfC qual scope s.heap.objs.size f cd :: outer))) (envOfC qual scope s.heap.objs.size f cd :: outer) :=
    PySem.W.funFrames_hide I.stack fun env he a ha => List.mem_filterMap.mpr ⟨env, he, ha⟩
  have notR : ∀ b o ws, s1.heap.get? b = some o → o.data = .fields ws → b ∉ frs (envOfC qual scope s.heap.objs.size f cd :: outer) := fun b o ws e2 e3 y => by
    obtain ⟨_, o', e4, n4⟩ := fF.mem y
    rw [e2] at e4; cases e4; exact n4 ws e3
  have nB : (PySem.W.hideAll s1.heap (frs (envOfC qual scope s.heap.objs.size f cd :: outer))).get? x = none := by
    cases z : (PySem.W.hideAll s1.heap (frs (envOfC qual scope s.heap.objs.size f cd :: outer))).get? x with
    | none => rfl
    | some o =>
      have z2 := PySem.W.of_hideAll _ z
      rw [xn] at z2; cases z2
  obtain ⟨n, xh⟩ := xh
  refine fl_leaveNew (s := { s1 with heap := g }) (B := PySem.W.hideAll s1.heap (frs (envOfC qual scope s.heap.objs.size f cd :: outer))) (outer := outer) (L := s.heap.objs.size) I.ok.frames (fF.of_keeps fun b o y _ => ⟨o, kp b o y, rfl⟩) rfl xg (fun b o z => kp b o (PySem.W.of_hideAll _ z)) nB xd x2 x1
    fun g2 fl up => ⟨x, C, c, _, H1, rfl, ⟨xk ▸ fl, I.os, I.bare, fun b o e n hb => ?_, fun b o e n hb => ?_, fun b o e hb => ?_, fun b o e n => I.base.free b o e n (noex b), I.base.tups, I.base.frzs, I.base.tbls, fun b u e => ?_, hok_none I.hok xn, n, xh.imp fun a o ws na ea da => ⟨PySem.W.hideAll_get _ ea (notR a o ws ea da), na⟩⟩, q⟩
  · exact PySem.W.hideAll_get _ (I.base.keep b o e n hb (noex b)) (notF b o e hb)
  · obtain ⟨sl, z⟩ := I.base.slot b o e n hb (noex b)
    obtain ⟨_, o', ho', nf⟩ := I.funs.mem hb
    rw [z] at ho'; cases ho'
    obtain ⟨sl', z'⟩ := up b _ (kp _ _ z) nf
    exact ⟨sl', z'⟩
  · obtain ⟨o', z⟩ := I.base.there b o e (noex b)
    exact ⟨o', PySem.W.hideAll_get _ z (notF b o e hb)⟩
  · have nfr : ∀ c v, H1 c = some v → c ∉ frs (envOfC qual scope s.heap.objs.size f cd :: outer) := fun c v e z => by
      rw [I.stkFree c z] at e; cases e
    refine (show ObjOk P w H1 s1.heap b u from I.hok b u e).stay (fun c v hc z => PySem.W.hideAll_get _ z ?_) (fun _ z => z) fun _ _ z => z
    rcases hc with y | y
    · rw [y]; exact nfr b u e
    · exact nfr c _ y
theorem cx_pass : Passes (CXR P w) (cxOf (CXR P w) P w K mg base N qual scope f cd A outer s H E) E := by
  intro pins σ H1 s1 e s' I h
  obtain ⟨x, C, c, B, H', rfl, F, q⟩ := h
  have noex : ∀ b : Addr, b ∉ (cxOf (CXR P w) P w K mg base N qual scope f cd A outer s H E).ex := fun b z => absurd (show b ∈ ([] : List Addr) from z) (by simp)
  have notF : ∀ b o, s.heap.get? b = some o → b ∉ frs outer → b ∉ frs (envOfC qual scope s.heap.objs.size f cd :: outer) := fun b o e hb z => by
    rcases List.mem_cons.mp (I.stkSub b z) with y | y
    · exact absurd (Heap.lt_size e) (by rw [y]; exact Nat.lt_irrefl _)
    · exact hb y
  refine fl_leave (outer := outer) (L := s.heap.objs.size) I.ok.frames rfl F.fly fun h'' fl up => ⟨x, C, c, B, H', rfl, ⟨fl, F.os.trans I.os, F.bare, fun b o e n hb => ?_, fun b o e n hb => ?_, fun b o e hb => ?_, fun b o e n => ?_, fun b xs e => F.tups b xs (I.base.tups b xs e), fun b o u e => F.frzs b o u (I.base.frzs b o u e), fun b ps e => ?_, F.hok, F.new, F.ch⟩, q⟩
  · exact F.k1 b o (I.base.keep b o e n hb (noex b)) (I.base.free b o e n (noex b)) (notF b o e hb)
  · obtain ⟨sl, z⟩ := I.base.slot b o e n hb (noex b)
    obtain ⟨sl', z'⟩ := F.k2 b _ z (I.base.free b o e n (noex b)) (frs_cons hb)
    have hb' : b ∈ frs (envOfC qual scope s.heap.objs.size f cd :: outer) := frs_cons hb
    obtain ⟨_, o2, ho2, nf2⟩ := F.fly.2.2.1.mem hb'
    rw [z'] at ho2; cases ho2
    obtain ⟨sl2, z2⟩ := up b _ z' nf2
    exact ⟨sl2, z2⟩
  · obtain ⟨o', z⟩ := I.base.there b o e (noex b)
    exact F.k3 b o' z (notF b o e hb)
  · obtain ⟨o', z⟩ := I.base.there b o e (noex b)
    exact F.free b o' z (I.base.free b o e n (noex b))
  · obtain ⟨m1, e1⟩ := I.base.tbls b ps e
    obtain ⟨m2, e2⟩ := F.tbls b _ e1
    exact ⟨m1 ++ m2, by rw [e2, Array.append_assoc]⟩
theorem Fun.okX {x qual : Str} {st : Stmt} {f : Addr} {fd : FuncData} {N ps : List Str} {k : Nat} {sp : Sp} (F : Fun K x qual st f fd) (S : FnScope N ps (defScope st)) (len : ∀ vs H Q E, sp vs H Q E → vs.length = ps.length)
    (hbody : ∀ (cdv : Value) (A : Around) (outer : List Env) (s : Shared) (H : Hp) (vs : List V) (Q : VK) (E : XK), Room k (A.deeper (envOfC qual (defScope st) s.heap.objs.size f cdv)) → sp vs H Q E →
      ∃ t, PSs (cxOf (CXR P w) P w K mg base N qual (defScope st) f cdv A outer s H E) (defBody st) t ∧ t { nx := fun _ H' => Q .non H', rt := Q } (start N vs) H) : FnOk P w K mg base (CXR P w) (k + 1) f fd ps sp := by
  obtain ⟨oc, od, kV, doc, pm, an, cdv, ct, osl, rfl, lk, hcd⟩ := F.ex
  exact fn_of lk hcd S len fun A outer s H vs Q E hr hsp => hbody cdv A outer s H vs Q E hr hsp
end
theorem FnOk.calm {P : Program} {w : World} {K : PySem.W.Frag} {mg : Str → Option Value} {base : Heap} {CX : CXT} {k : Nat} {f : Addr} {fd : FuncData} {ps : List Str} {sp : Sp} (F : FnOk P w K mg base CX0 k f fd ps sp) : FnOk P w K mg base CX k f fd ps sp :=
  ⟨F.len, fun A outer s H args us vs Q E hr he hb hv hs => codeAny_mono (F.run A outer s H args us vs Q E hr he hb hv hs) fun r s' h => by
    cases r with
    | error e => exact False.elim h
    | ok fl => cases fl <;> exact h⟩
structure FnX (P : Program) (w : World) (K : PySem.W.Frag) (mg : Str → Option Value) (base : Heap) (x : Str) (f : Addr) (fd : FuncData) (ps : List Str) (k : Nat) (sp : Sp) : Prop where
  ok : FnOk P w K mg base (CXR P w) k f fd ps sp
  mg : mg x = some (.ref f)
  kp : PySem.W.keepIn K (.ref f) = true
  bd : Binds K fd ps []
end L2
namespace L2
open PySem PySem.Spec PyProof.Rows
structure Exc (K : PySem.W.Frag) (mg : Str → Option Value) (x : Str) (C : Addr) (mro : List Value) : Prop where
  bound : mg x = some (.ref C)
  isin : PySem.W.excIn K C [.type "ValueError", .type "Exception", .type "BaseException", .type "object"] "ValueError.__new__" = true
  mro : ∃ c d cd sl, K.lookup C = some ⟨c, d, .cls cd, sl⟩ ∧ cd.mro = mro
theorem Exc.obj {K : PySem.W.Frag} {mg : Str → Option Value} {x : Str} {C : Addr} {mro : List Value} (O : Exc K mg x C mro) {h : Heap} (X : K.In h) :
    ∃ bm N nm q bs hdct sn sub ab col dd k0 k1 k2 k3 k5 mN, h.get? C = some (excClassObj nm q C N bs bm hdct sn sub ab col dd k0 k1 k2 k3 k5 "ValueError.__new__") ∧ h.Ns N mN ∧ mN "__init__" = none ∧
      OwnTail h [.type "ValueError", .type "Exception", .type "BaseException", .type "object"] bm ∧ mro = .ref C :: bm := by
  obtain ⟨_, q, c0, d0, cd0, sl0, lk, em⟩ := O
  unfold PySem.W.excIn at q
  rw [lk] at q
  split at q
  · rename_i dd cd sl ho
    cases ho
    split at q
    · rename_i C' bm k0 k1 k2 k3 n k5 hm hs
      simp only [Bool.and_eq_true, beq_iff_eq, Bool.not_eq_true'] at q
      obtain ⟨⟨⟨⟨⟨rfl, rfl⟩, hdel⟩, ht⟩, hok⟩, hni⟩ := q
      obtain ⟨nm, bs, mr, ns, qn, hd, sn, sub, ab, col, del⟩ := cd0
      dsimp only at hm hdel hok hni em
      subst hm hdel
      have hsl : sl0 = #[k0, k1, k2, k3, some (.builtin "ValueError.__new__"), k5] := by
        obtain ⟨l⟩ := sl0
        simp only at hs
        rw [hs]
      subst hsl
      exact ⟨bm, ns, nm, qn, bs, hd, sn, sub, ab, col, d0, k0, k1, k2, k3, k5, _, X _ _ lk, .of_isNs (PySem.W.isNs_of_in X hok), PySem.W.nsMap_none_of_in X hok hni, PySem.W.tail_of_in X ht, em.symm⟩
    · cases q
  · cases q
noncomputable def tRaise (C : Addr) (E : XK) (ta : TA) : TS := fun _ σ H => ta σ H fun vs H1 => vs.length ≤ sizeLine ∧ E (.ref C) none H1
theorem ps_raise {P : Program} {w : World} {K : PySem.W.Frag} {mg : Str → Option Value} {base : Heap} {N : List Str} {qual : Str} {scope : Scope} {f : Addr} {cd : Value} {A : Around} {outer : List Env} {s₀ : Shared} {H₀ : Hp} {E : XK}
    {x : Str} {C : Addr} {mro : List Value} {e : Expr} {es : List Expr} {ta : TA} {np cpos pos : Pos} (O : Exc K mg x C mro) (ha : PA (cxOf (CXR P w) P w K mg base N qual scope f cd A outer s₀ H₀ E) (e :: es) ta)
    (hg : Gl (cxOf (CXR P w) P w K mg base N qual scope f cd A outer s₀ H₀ E) x := by rfl) (hdb : (x == ("__debug__" : Str)) = false := by decide)
    (he : starEach (e :: es) (envOfC qual scope s₀.heap.objs.size f cd) = (false, eval e (envOfC qual scope s₀.heap.objs.size f cd)) :: starEach es (envOfC qual scope s₀.heap.objs.size f cd) := by rfl)
    (hpl : (backTo cpos (starEach es (envOfC qual scope s₀.heap.objs.size f cd))).any (·.1) = false := by rfl) :
    PS (cxOf (CXR P w) P w K mg base N qual scope f cd A outer s₀ H₀ E) (.Raise (some (.Call (.Name x np) (e :: es) [] cpos)) none pos) (tRaise C E ta) := by
  intro pins s σ H D I h
  obtain ⟨bm, N', nm, q, bs, hdct, sn, sub, ab, col, dd, k0, k1, k2, k3, k5, mN, hC, hN, hni, T, _⟩ := O.obj I.ok.mod.kin
  refine wpAny_Raise_call_subT (C := C) (nm := nm) (q := q) (N := N') (bs := bs) (bm := bm) (hdct := hdct) (sn := sn) (sub := sub) (ab := ab) (col := col) (dd := dd) (k0 := k0) (k1 := k1) (k2 := k2) (k3 := k3) (k5 := k5) (mN := mN)
    PySem.F.excBase_ValueError (T.hasType PySem.F.excBase_ValueError.hasBase) (I.ok.hd rfl) ?_ hni (ld_glob I hg O.bound ⟨rfl, ?_⟩ hdb)
  · show (backTo cpos (starEach (e :: es) (envOfC qual scope s₀.heap.objs.size f cd))).any (·.1) = false
    rw [he]
    show (false || (backTo cpos (starEach es (envOfC qual scope s₀.heap.objs.size f cd))).any (·.1)) = false
    rw [hpl]; rfl
  have hA := ha cpos pins s σ H _ I h
  show wpAny _ _ (evalArgs (.ref C) true (backTo cpos (starEach (e :: es) (envOfC qual scope s₀.heap.objs.size f cd))) []) _ _ s
  have hA' : wpAny (model P w) (cxOf (CXR P w) P w K mg base N qual scope f cd A outer s₀ H₀ E).A (spliced (backTo cpos (starEach (e :: es) (envOfC qual scope s₀.heap.objs.size f cd)))) _ _ s := hA
  rw [he] at hA' ⊢
  refine Calls.evalArgs_plain (thn hA' fun us s1 ⟨vs, H1, I1, r, hz, q1⟩ => ⟨rfl, by rw [← r.length]; exact hz, I1.bk _ _ hC, hN.keeps I1.bk, T.keeps I1.bk, fun h' x' hm => (let ⟨t, e1, _, _⟩ := hm.there; cx_raise I1 hm.keeps hm.new e1 rfl rfl rfl rfl ⟨0, rfl⟩ q1)⟩)
noncomputable def XP (X : Cx) (pins : List (Addr × Obj)) (σ : St) (Ex : XK) (e : Value) (s' : Shared) : Prop := ∃ H1 s1, Inv X pins σ H1 s1 ∧ CXR X.prog X.w X.stack H1 s1 Ex e s'
noncomputable abbrev TX := St → Hp → VK → XK → Prop
noncomputable def PEx (X : Cx) (e : Expr) (t : TX) : Prop :=
  ∀ (pins : List (Addr × Obj)) (s : Shared) (σ : St) (H : Hp) (Q : VK) (Ex : XK), Inv X pins σ H s → t σ H Q Ex → wpAny (model X.prog X.w) X.A (eval e X.env) (EP X pins σ Q) (XP X pins σ Ex) s
section
variable {X : Cx} {e : Expr} {es : List Expr} {pos : Pos}
theorem noxe {α : Type} {t : Sem α} {Q : α → Shared → Prop} {M : Model} {A : Around} {E : Value → Shared → Prop} {s : Shared} (h : wpAny M A t Q X.nox.xe s) : wpAny M A t Q E s := wpAny_mono h (fun _ _ z => z) fun _ _ z => False.elim z
variable {k : Nat} {f C : Addr} {fd : FuncData} {ps : List Str} {sp : Sp} {m x : Str} {p apos : Pos} {o : Expr} {ta : TE} {t : TA}
theorem run_fnx {pins : List (Addr × Obj)} {σ : St} {H : Hp} {s : Shared} {Q : VK} {Ex : XK} {us : List Value} {vs : List V} (F : FnOk X.prog X.w X.K X.mg X.base (CXR X.prog X.w) k f fd ps sp) (hr : Room k X.A) (hb : Binds X.K fd ps [])
    (I : Inv X pins σ H s) (r : Vals vs us) (h : sp vs H Q Ex) : wpAny (model X.prog X.w) X.A (call (.ref f) us) (EP X pins σ Q) (XP X pins σ Ex) s := by
  have hl : (us ++ []).length = ps.length := by rw [List.append_nil, ← r.length]; exact F.len _ _ _ _ h
  have hb' := hb s us I.kIn hl
  rw [List.append_nil] at hb'
  refine wpAny_call (codeAny_mono (F.run X.A X.stack s H ⟨us, []⟩ us vs Q Ex hr I.env0 hb' r h) fun r s' hq => ?_)
  cases r with
  | error e => exact ⟨H, s, I, hq⟩
  | ok fl =>
    cases fl with
    | ret u => exact I.after hq
    | next => exact False.elim hq
    | brk => exact False.elim hq
    | cont => exact False.elim hq
theorem px_call (F : FnOk X.prog X.w X.K X.mg X.base (CXR X.prog X.w) k f fd ps sp) (hr : Room k X.A) (hg : Gl X x) (hm : X.mg x = some (.ref f)) (hk : PySem.W.keepIn X.K (.ref f) = true) (hb : Binds X.K fd ps []) (ha : PA X.nox (e :: es) t)
    (hdb : (x == ("__debug__" : Str)) = false := by decide) (he : starEach (e :: es) X.env = (false, eval e X.env) :: starEach es X.env := by rfl) (hpl : (backTo pos (starEach es X.env)).any (·.1) = false := by rfl) :
    PEx X.nox (.Call (.Name x p) (e :: es) [] pos) (fun σ H Q Ex => t σ H fun vs H1 => sp vs H1 Q Ex) := by
  intro pins s σ H Q Ex I h
  refine wpAny_Call_Name_kw (ld_glob I hg hm ?_ hdb)
  refine PySem.W.callWith_K (h₀ := X.base) I.ok.mod.kin hk (thn (noxe (ha pos pins s σ H _ I h)) fun us s1 ⟨vs, H1, I1, r, q⟩ => ⟨I1.kIn, ?_⟩) he hpl
  exact run_fnx (X := X.nox) F hr hb I1 r q
end
theorem exc_matches {M : Model} {A : Around} {E : Value → Shared → Prop} {nm q nm' q' : Str} {C N D N' : Addr} {bs bm bs' bm' : List Value} {hdct hdct' : Bool} {sn sn' : List Str} {sub sub' : List Value} {ab ab' : Bool} {col col' : Option Bool} {dd dd' : Option Addr} {k0 k1 k2 k3 k5 l0 l1 l2 l3 l5 : Option Value} {newId newId' : String}
    {h : Heap} {g : Array GenState} {d : Drawn} {t : Nat} {os : OsState} {e : Addr} {oe : Obj} {Q : Bool → Shared → Prop}
    (hC : h.get? C = some (excClassObj nm q C N bs bm hdct sn sub ab col dd k0 k1 k2 k3 k5 newId)) (hD : h.get? D = some (excClassObj nm' q' D N' bs' bm' hdct' sn' sub' ab' col' dd' l0 l1 l2 l3 l5 newId'))
    (he : h.get? e = some oe) (hcls : oe.cls = .ref C) (hbase : bm'.contains (.type "BaseException") = true) (hq : Q ((Value.ref C :: bm).contains (.ref D)) ⟨h, g, d, t, os⟩) : wpAny M A (excMatches (.ref e) (.ref D)) Q E ⟨h, g, d, t, os⟩ := by
  have hcB : (Value.ref D :: bm').contains (.type "BaseException") = true := by rw [List.contains_cons, hbase, Bool.or_true]
  have f := tc_notTuple
  unfold excMatches
  cases hb : (Value.ref C :: bm).contains (.ref D) with
  | true =>
    rw [hb] at hq
    repeat (first | (with_reducible refine wpAny_loadPart_at he ?_; rw [hcls]) | with_reducible refine wpAny_loadPart_at hD ?_ | (with_reducible refine wpAny_isSubtype_exc hD ?_; rw [hcB]) | (with_reducible refine wpAny_isSubtype_exc hC ?_; rw [hb]) | wp_step)
    exact hq
  | false =>
    rw [hb] at hq
    repeat (first | (with_reducible refine wpAny_loadPart_at he ?_; rw [hcls]) | with_reducible refine wpAny_loadPart_at hD ?_ | (with_reducible refine wpAny_isSubtype_exc hD ?_; rw [hcB]) | (with_reducible refine wpAny_isSubtype_exc hC ?_; rw [hb]) | wp_step)
    exact hq
noncomputable abbrev Cx.caught (X : Cx) (x : Addr) (ps : List (Addr × Obj)) : Cx := { X with A := X.A.mark (some (.ref x)), calm := false, pn := ps ++ X.pn }
theorem caught_ok {X : Cx} {e : Addr} {ps : List (Addr × Obj)} (ok : X.Ok) : (X.caught e ps).Ok :=
  ⟨ok.mod, ok.kind, ok.glob, ok.blt, ok.above, ok.inj, ok.has, ok.cab, fun z => absurd (show false = true from z) Bool.false_ne_true, ok.frames, ok.stk, ok.exf, ok.bs, ok.bsz, ok.noex, ok.exfs, ok.funs, ok.frf⟩
theorem Inv.caught {X : Cx} {e : Addr} {ps pins : List (Addr × Obj)} {σ : St} {H : Hp} {s : Shared} (I : Inv X pins σ H s) (hp : ∀ p ∈ ps, s.heap.get? p.1 = some p.2 ∧ H p.1 = none ∧ p.1 ≠ X.env.locals ∧ p.1 ∉ X.fs ∧ ∀ v, p.2.data ≠ .cell v) : Inv (X.caught e ps) pins σ H s :=
  ⟨caught_ok I.ok, I.os, I.bare, I.base, I.loc, I.cell, I.free, I.freeC, fun p z => by
    rcases List.mem_append.mp z with z | z
    · rcases List.mem_append.mp z with z | z
      · exact hp p z
      · exact I.pin p (List.mem_append_left _ z)
    · exact I.pin p (List.mem_append_right _ z), I.hok, I.len⟩
theorem Inv.uncaught {X : Cx} {e : Addr} {ps pins : List (Addr × Obj)} {σ : St} {H : Hp} {s : Shared} (ok : X.Ok) (I : Inv (X.caught e ps) pins σ H s) : Inv X pins σ H s := ⟨ok, I.os, I.bare, I.base, I.loc, I.cell, I.free, I.freeC, fun p z => I.pin p (by
    rcases List.mem_append.mp z with z | z
    · exact List.mem_append_left _ (List.mem_append_right _ z)
    · exact List.mem_append_right _ z), I.hok, I.len⟩
theorem SP.uncaught {X : Cx} {e : Addr} {ps pins : List (Addr × Obj)} {D : Ends} {f : Flow} {s : Shared} (ok : X.Ok) (h : SP (X.caught e ps) pins D f s) : SP X pins D f s := by
  cases f with
  | next => obtain ⟨σ', H', I', q⟩ := h; exact ⟨σ', H', I'.uncaught ok, q⟩
  | brk => obtain ⟨σ', H', I', q⟩ := h; exact ⟨σ', H', I'.uncaught ok, q⟩
  | cont => obtain ⟨σ', H', I', q⟩ := h; exact ⟨σ', H', I'.uncaught ok, q⟩
  | ret v => obtain ⟨x, σ', H', I', r, q⟩ := h; exact ⟨x, σ', H', I'.uncaught ok, r, q⟩
noncomputable def HeadP (ps : List (Addr × Obj)) (x : Addr) : Prop := ∃ n, ChainP ps (n + 1) (.ref x)
inductive Hs (X : Cx) : List ExceptHandler → List (Addr × TS) → Prop where
  | nil : Hs X [] []
  | cons {x : Str} {C : Addr} {mro : List Value} {b₀ : Stmt} {suite : List Stmt} {pos np : Pos} {rest : List ExceptHandler} {ts : TS} {l : List (Addr × TS)} (O : Exc X.K X.mg x C mro) (hg : Gl X x) (hdb : (x == ("__debug__" : Str)) = false)
      (hs : ∀ e ps, X.Ok → HeadP ps e → PSs (X.caught e ps) (b₀ :: suite) ts) (r : Hs X rest l) : Hs X (.ExceptHandler (some (.Name x np)) none (b₀ :: suite) pos :: rest) ((C, ts) :: l)
noncomputable def pickH (mro : List Value) : List (Addr × TS) → Option TS
  | [] => none
  | (C, t) :: r => if mro.contains (.ref C) = true then some t else pickH mro r
noncomputable abbrev TSx := Ends → XK → St → Hp → Prop
noncomputable def PSx (X : Cx) (st : Stmt) (t : TSx) : Prop :=
  ∀ (pins : List (Addr × Obj)) (s : Shared) (σ : St) (H : Hp) (D : Ends) (Ex : XK), Inv X pins σ H s → t D Ex σ H → wpAny (model X.prog X.w) X.A (exec st X.env) (SP X pins D) (XP X pins σ Ex) s
theorem psx_set {X : Cx} {e : Expr} {te : TX} {i : Nat} {x : Str} {pos' ap : Pos} (hN : X.N.Nodup) (hi : X.N[i]? = some x) (hx : X.env.scope.names.lookup x = some .local) (he : PEx X.nox e te) (hsw : swapsWith e (some (.Name x pos')) ap.line X.env = pure false := by rfl) :
    PSx X.nox (.Assign [.Name x pos'] e ap) (fun D Ex σ H => te σ H (fun y H1 => D.nx (σ.set i (some y)) H1) Ex) := by
  intro pins s σ H D Ex I h
  refine wpAny_Assign_Name (thn (he pins s σ H _ _ I h) fun v s1 ⟨y, H1, I1, r1, q1⟩ => ?_) hsw
  exact store_ok I1 hN hi (.inl hx) r1 (fun s2 I2 => ⟨_, H1, I2, q1⟩) (.inr hx)
noncomputable def tTry (K : PySem.W.Frag) (mg : Str → Option Value) (te : TSx) (l : List (Addr × TS)) : TS := fun D σ H => te D (fun c _ H1 => ∃ x C mro t, c = .ref C ∧ Exc K mg x C mro ∧ pickH mro l = some t ∧ t D σ H1) σ H
theorem ps_try {X : Cx} {st : Stmt} {te : TSx} {h₀ : ExceptHandler} {hs : List ExceptHandler} {l : List (Addr × TS)} {pos : Pos} (he : PSx X.nox st te) (hh : Hs X (h₀ :: hs) l) (hf : X.env.frame = some X.env.locals) (hst : X.stack = X.env :: X.outer)
    (hpa : ∀ v, PassesOwnAt (model X.prog X.w) (X.A.mark v) X.A X.env X.xe) : PS X (.Try [st] (h₀ :: hs) [] [] pos) (tTry X.K X.mg te l) := by
  intro pins s σ H D I h
  refine wpAny_Try_except ?_
  refine wpAny_mono (Q := SP X.nox pins D) (E := XP X.nox pins σ fun c _ H1 => ∃ x C mro t, c = .ref C ∧ Exc X.K X.mg x C mro ∧ pickH mro l = some t ∧ t D σ H1) ?_ (fun f s1 q => ?_) fun ev s1 q => ?_
  · refine wpAny_execs_cons (thn (he pins s σ H D _ (I.wish _) h) fun f s1 q => ?_)
    cases f with
    | next => exact wpAny_execs_nil q
    | ret v => exact q
    | brk => exact q
    | cont => exact q
  · cases f with
    | next => exact wpAny_execs_nil (SP.unwish q)
    | ret v => exact SP.unwish q
    | brk => exact SP.unwish q
    | cont => exact SP.unwish q
  obtain ⟨H1, s2, I1, xa, C, c, B, H', rfl, F, nmx, C', mro, t, ec, O, pk, qt⟩ := q
  cases ec
  have F' : Flown X.prog X.w (X.env :: X.outer) H1 s2 xa C c B H' s1 := by
    have : Flown X.prog X.w X.stack H1 s2 xa C c B H' s1 := F
    rw [hst] at this; exact this
  have hfr : X.A.frames = some (X.env :: X.outer) := by rw [← hst]; exact I.ok.frames
  have I1' : Inv X pins σ H1 s2 := I1.unwish
  refine fl_note hfr hf F'.fly fun h4 held4 up4 => ?_
  refine fl_land (s := { s1 with heap := h4 }) held4 fun h5 fl5 up5' => ?_
  have up5 := up4.trans up5'
  -- whatever the handlers find, the names stand
  have inv : ∀ {h : Heap}, B.StaysIn h → s1.heap.UpToSlots h → Inv X pins σ H' { s1 with heap := h } := fun {h} st up => by
    have u := F.un st up
    exact I1'.call' (s' := { s1 with heap := h }) (ch := []) F.os u (F.hok.kept st) F.bare fun b z => absurd z (by simp)
  have ok := I.ok
  have main : ∀ {hs' : List ExceptHandler} {l' : List (Addr × TS)}, Hs X hs' l' → pickH mro l' = some t → wpAny (model X.prog X.w) X.A (handleBy (.ref xa) X.env hs') (SP X pins D) X.xe { s1 with heap := h5 } := by
    intro hs' l' hH
    induction hH with
    | nil => intro z; cases z
    | @cons nm2 C2 mro2 b₀ suite p2 np rest ts l2 O2 hg hdb hsu r ih =>
      intro z
      have I5 : Inv X pins σ H' { s1 with heap := h5 } := inv fl5.1 up5
      refine wpAny_handleBy_cons (codeAny_handlers_test ?_) (by intro q; cases q)
      have Ic : Inv (X.caught xa []) pins σ H' { s1 with heap := h5 } := I5.caught fun p hp => absurd hp (by simp)
      refine wpAny_mono (E := fun _ _ => False) (ld_glob Ic hg O2.bound (Q := fun c s' => c = .ref C2 ∧ s' = { s1 with heap := h5 }) ⟨rfl, rfl⟩ hdb) (fun c s' hc => ?_) fun _ _ z => z.elim
      obtain ⟨rfl, rfl⟩ := hc
      obtain ⟨bm, N1, nm, q1, bs, hdct, sn, sub, ab, col, dd, k0, k1, k2, k3, k5, mN, hC, _, _, T, em⟩ := O.obj I5.kIn
      obtain ⟨bm', N1', nm', q1', bs', hdct', sn', sub', ab', col', dd', l0, l1, l2', l3, l5, mN', hC', _, _, T', em'⟩ := O2.obj I5.kIn
      obtain ⟨ob, vs5, _, _, _, hob, hobc, _⟩ := fl5.2.2.2
      refine exc_matches (oe := ob) hC hC' hob hobc (T'.hasType PySem.F.excBase_ValueError.hasBase) ?_
      rw [← em]
      cases hb : mro.contains (.ref C2) with
      | true =>
        have z' : (if mro.contains (.ref C2) = true then some ts else pickH mro l2) = some t := z
        rw [hb, if_pos rfl] at z'
        cases z'
        refine codeAny_handlers_suite ?_
        refine fl_land (s := { s1 with heap := h5 }) fl5 fun h6 fl6 up6 => ?_
        have I6 : Inv X pins σ H' { s1 with heap := h6 } := inv fl6.1 (up5.trans up6)
        obtain ⟨oe, vs, _, _, _, g1, g2, g3, g4, _⟩ := fl6.2.2.2
        obtain ⟨n, chn⟩ := F.ch
        have chn6 : Chain h6 (fun a => H' a = none) (n + 1) (.ref xa) := .inr ⟨xa, oe, vs, c, rfl, g1, F.new, g3, g4, chn.imp fun a o ws na ea _ => ⟨fl6.1 a o ea, na⟩⟩
        obtain ⟨ps, pk1, pk2⟩ := chn6.pins
        have Ic6 : Inv (X.caught xa ps) pins σ H' { s1 with heap := h6 } := I6.caught fun p hp => by
          obtain ⟨a1, a2, ws, a3⟩ := pk1 p hp
          refine ⟨a1, a2, fun y => ?_, fun y => ?_, fun v y => ?_⟩
          · obtain ⟨m, ⟨o', es, ep, ho', hd', _⟩, _⟩ := I6.loc
            rw [y] at a1
            have a1' : h6.get? X.env.locals = some o' := ho'
            rw [a1'] at a1; cases a1
            rw [hd'] at a3; cases a3
          · obtain ⟨_, o', ho', n'⟩ := I6.funs.mem y
            have a1' : h6.get? p.1 = some o' := ho'
            rw [a1'] at a1; cases a1
            exact n' ws a3
          · rw [a3] at y; cases y
        refine wpAny_passesOwnAt (hpa _) ?_
        exact wpAny_mono (hsu xa ps ok ⟨n, pk2⟩ pins _ σ H' D Ic6 qt) (fun f s' q => SP.uncaught ok q) fun _ _ q => q
      | false =>
        have z' : (if mro.contains (.ref C2) = true then some ts else pickH mro l2) = some t := z
        rw [hb, if_neg Bool.false_ne_true] at z'
        exact ih z'
  exact main hh pk
structure RoomH (k : Nat) (A : Around) : Prop where
  dp : A.depth + 3 * k + 5 < recursionLimit
  un : A.units + 16 * k + 200 < cLine
theorem Room.h {k : Nat} {A : Around} (r : Room k A) (v : Option Value) : RoomH k (A.mark v) := ⟨r.dp, r.un⟩
structure FnOkH (P : Program) (w : World) (K : PySem.W.Frag) (mg : Str → Option Value) (base : Heap) (k : Nat) (f : Addr) (fd : FuncData) (ps : List Str) (sp : Sp) : Prop where
  len : ∀ vs H Q E, sp vs H Q E → vs.length = ps.length
  run : ∀ (A : Around) (outer : List Env) (s : Shared) (H : Hp) (args : Args) (us : List Value) (vs : List V) (Q : VK) (E : XK), RoomH k A → Env0 P w K mg base A outer s H → BindsTo s fd args (ps.zip us) → Vals vs us → sp vs H Q E →
    codeAny (model P w) A (.call (.ref f) args) (CR CX0 outer P w H s Q E) s
section
variable {P : Program} {w : World} {K : PySem.W.Frag} {mg : Str → Option Value} {base : Heap}
end
section
variable {X : Cx} {k : Nat} {f C : Addr} {fd : FuncData} {ps : List Str} {sp : Sp} {m : Str} {pos apos : Pos} {e o : Expr} {es : List Expr} {ta : TE} {t : TA}
end
section
variable {P : Program} {w : World} {K : PySem.W.Frag} {mg : Str → Option Value} {base : Heap} {N : List Str} {qual : Str} {scope : Scope} {f' : Addr} {cd : Value} {A : Around} {outer : List Env} {s₀ : Shared} {H₀ : Hp} {E : XK}
  {x : Str} {f : Addr} {fd : FuncData} {ps : List Str} {k k' : Nat} {sp : Sp} {e : Expr} {es : List Expr} {t : TA} {p pos : Pos}
theorem pe_fnX (F : FnX P w K mg base x f fd ps k sp) (hr : Room k' (cxOf (CXR P w) P w K mg base N qual scope f' cd A outer s₀ H₀ E).A) (ha : PA (cxOf (CXR P w) P w K mg base N qual scope f' cd A outer s₀ H₀ E) (e :: es) t) (hk : k ≤ k' := by first | decide | exact Nat.le_refl _) (hg : Gl (cxOf (CXR P w) P w K mg base N qual scope f' cd A outer s₀ H₀ E) x := by rfl) (hdb : (x == ("__debug__" : Str)) = false := by decide)
    (he : starEach (e :: es) (envOfC qual scope s₀.heap.objs.size f' cd) = (false, eval e (envOfC qual scope s₀.heap.objs.size f' cd)) :: starEach es (envOfC qual scope s₀.heap.objs.size f' cd) := by rfl) (hpl : (backTo pos (starEach es (envOfC qual scope s₀.heap.objs.size f' cd))).any (·.1) = false := by rfl) :
    PE (cxOf (CXR P w) P w K mg base N qual scope f' cd A outer s₀ H₀ E) (.Call (.Name x p) (e :: es) [] pos) (tCall sp [] E t) :=
  pe_call F.ok (hr.mono hk) hg F.mg F.kp F.bd .nil cx_pass ha hdb he hpl
end
section
variable {X : Cx} {x : Str} {f : Addr} {fd : FuncData} {ps : List Str} {k k' : Nat} {sp : Sp} {e : Expr} {es : List Expr} {t : TA} {p pos : Pos}
theorem px_fn (F : FnX X.prog X.w X.K X.mg X.base x f fd ps k sp) (hr : Room k' X.A) (ha : PA X.nox (e :: es) t) (hk : k ≤ k' := by first | decide | exact Nat.le_refl _) (hg : Gl X x := by rfl) (hdb : (x == ("__debug__" : Str)) = false := by decide)
    (he : starEach (e :: es) X.env = (false, eval e X.env) :: starEach es X.env := by rfl) (hpl : (backTo pos (starEach es X.env)).any (·.1) = false := by rfl) :
    PEx X.nox (.Call (.Name x p) (e :: es) [] pos) (fun σ H Q Ex => t σ H fun vs H1 => sp vs H1 Q Ex) :=
  px_call F.ok (hr.mono hk) hg F.mg F.kp F.bd ha hdb he hpl
end
end L2
namespace L2
open PySem PySem.Spec PyProof.Rows
section
variable {X : Cx} {pos : Pos}
end
end L2
namespace L2
open PySem PySem.Spec PyProof.Rows
section
variable {X : Cx}
end
end L2
set_option maxRecDepth 100000
namespace L2
open PySem PySem.Spec PyProof.Rows
section
variable {X : Cx}
end
section
variable {prog : Program} {w : World} {A : Around} {E : Value → Shared → Prop} {s : Shared}
end
section
variable {X : Cx}
variable {o e : Expr} {es : List Expr} {to : TE} {t : TA} {name : Str} {apos cpos : Pos} {id : String} {r : V → List V → Hp → VK → Prop}
end
end L2
namespace L2
open PySem PySem.Spec PyProof.Rows
section
variable {X : Cx}
end
end L2
namespace L2
open PySem PySem.Spec PyProof.Rows
section
variable {X : Cx}
end
end L2
set_option maxRecDepth 100000
namespace PySem
namespace R4
end R4
open PyProof.Rows
section
variable {prog : Program} {w : World} {A : Around} {E : Value → Shared → Prop} {s : Shared}
noncomputable def Heap.IsRevT (h : Heap) (a t : Addr) (i : Int) : Prop := ∃ o, h.get? a = some o ∧ o.cls = .type "reversed" ∧ o.data = .fields #[.ref t, rawInt i]
theorem Heap.IsRevT.typeIs {a t : Addr} {i : Int} (x : s.heap.IsRevT a t i) : s.TypeIs (.ref a) "reversed" := let ⟨o, ho, hc, _⟩ := x; ⟨o, ho, hc⟩
theorem Heap.IsRevT.at {h h' : Heap} {a t : Addr} {i : Int} (x : h.IsRevT a t i) (e : ∀ o, h.get? a = some o → h'.get? a = some o) : h'.IsRevT a t i := let ⟨o, ho, r⟩ := x; ⟨o, e _ ho, r⟩
end
section
variable {prog : Program} {w : World} {A : Around} {E : Value → Shared → Prop} {s : Shared} {I : Addr} {fp wr : List Addr} {G : Array GenState → Array GenState → Prop} {n : Nat} {P : Nat → Value → Prop} {St : Nat → Shared → Prop}
end
end PySem
namespace L2
open PySem PySem.Spec PyProof.Rows
section
variable {X : Cx}
end
end L2
namespace HT
open PySem PyProof.Rows
section
open PySem.SeqAt
open PySem.AutoSeq1 (wpAny_loadPart')
open PySem.MeetsSeq PySem.MeetsSeq2 PySem.MeetsSeq3
end
section
variable {prog : Program} {w : World} {A : Around} {E : Value → Shared → Prop} {s : Shared}
end
end HT
namespace L2
open PySem PySem.Spec PyProof.Rows
section
variable {X : Cx}
end
section
variable {X : Cx} {tg : Expr}
end
end L2
namespace L2
open PySem PySem.Spec PyProof.Rows
end L2
set_option maxRecDepth 100000
set_option maxHeartbeats 2000000
namespace L2
open PySem PySem.Spec PyProof.Rows
section
variable {κ : Type} [DecidableEq κ]
noncomputable def valV (kvs : List (κ × V)) (k : κ) : Option V := (kvs.find? fun kv => decide (kv.1 = k)).map (·.2)
noncomputable def putK (kvs : List (κ × V)) (k : κ) (v : V) : List (κ × V) :=
  if (kvs.any fun kv => decide (kv.1 = k)) = true then kvs.map (fun kv => if kv.1 = k then (kv.1, v) else kv) else kvs ++ [(k, v)]
noncomputable def dropK (kvs : List (κ × V)) (k : κ) : List (κ × V) := kvs.filter fun kv => decide (kv.1 ≠ k)
theorem RelO.getD {o : Option V} {u : Option Value} {d : V} {d' : Value} (r : RelO o u) (rd : RelV d d') : RelV (o.getD d) (u.getD d') := by
  cases o with
  | none => cases u with
    | none => exact rd
    | some _ => exact (show False from r).elim
  | some _ => cases u with
    | none => exact (show False from r).elim
    | some _ => exact r
theorem KV.any {kvs : List (κ × V)} {vs : List (κ × Value)} (r : KV kvs vs) (k : κ) : (kvs.any fun kv => decide (kv.1 = k)) = vs.any fun kv => decide (kv.1 = k) := by
  unfold KV at r
  induction r with
  | nil => rfl
  | cons h t ih => rw [List.any_cons, List.any_cons, ih, h.1]
theorem KV.drop {kvs : List (κ × V)} {vs : List (κ × Value)} (r : KV kvs vs) (k : κ) : KV (dropK kvs k) (without vs k) := by
  unfold KV at r ⊢
  unfold dropK without
  induction r with
  | nil => exact .nil
  | @cons p q ps qs h t ih =>
    obtain ⟨h1, h2⟩ := h
    rw [List.filter_cons, List.filter_cons]
    by_cases e : p.1 = k
    · have a : ¬ decide (p.1 ≠ k) = true := by simp [e]
      have b : ¬ decide (q.1 ≠ k) = true := by simp [h1.symm.trans e]
      rw [if_neg a, if_neg b]; exact ih
    · have e' : ¬ q.1 = k := fun z => e (h1.trans z)
      have a : decide (p.1 ≠ k) = true := by simp [e]
      have b : decide (q.1 ≠ k) = true := by simp [e']
      rw [if_pos a, if_pos b]; exact .cons ⟨h1, h2⟩ ih
theorem KV.keys {kvs : List (κ × V)} {vs : List (κ × Value)} (r : KV kvs vs) : kvs.map (·.1) = vs.map (·.1) := by
  unfold KV at r
  induction r with
  | nil => rfl
  | cons h t ih => rw [List.map_cons, List.map_cons, ih, h.1]
theorem KV.length {kvs : List (κ × V)} {vs : List (κ × Value)} (r : KV kvs vs) : kvs.length = vs.length := Paired.length r
end
noncomputable abbrev KT (H : Hp) : List (List Key × V) → List (List Key × Addr × Value) → Prop := Paired fun p q => p.1 = q.1 ∧ H q.2.1 = some (.tup (p.1.map kV)) ∧ RelV p.2 q.2.2
theorem KT.keeps {H H' : Hp} {kvs : List (List Key × V)} {xs : List (List Key × Addr × Value)} (r : KT H kvs xs) (ht : ∀ b ys, H b = some (.tup ys) → H' b = some (.tup ys)) : KT H' kvs xs :=
  Paired.mapP r fun _ _ z => ⟨z.1, ht _ _ z.2.1, z.2.2⟩
section
variable {P : Program} {w : World} {H : Hp} {h : Heap} {a : Addr}
end
noncomputable def DGet (H : Hp) (a : Addr) (y : V) (r : Option V) : Prop :=
  (∃ kvs k, Rd H a (.dK kvs) ∧ y = kV k ∧ r = valV kvs k) ∨ ∃ kvs k b, Rd H a (.dT kvs) ∧ y = .ref b ∧ H b = some (.tup (k.map kV)) ∧ r = valV kvs k
noncomputable def DPut (H : Hp) (a : Addr) (y v : V) (H' : Hp) : Prop :=
  (∃ kvs k, H a = some (.dK kvs) ∧ y = kV k ∧ kvs.length < sizeLine ∧ H' = upd H a (.dK (putK kvs k v))) ∨
  ∃ kvs k b, H a = some (.dT kvs) ∧ y = .ref b ∧ H b = some (.tup (k.map kV)) ∧ kvs.length < sizeLine ∧ H' = upd H a (.dT (putK kvs k v))
theorem DGet.k {H : Hp} {a : Addr} {kvs : List (Key × V)} {k : Key} (e : H a = some (.dK kvs)) : DGet H a (kV k) (valV kvs k) := .inl ⟨kvs, k, .inl e, rfl, rfl⟩
theorem DGet.t {H : Hp} {a b : Addr} {kvs : List (List Key × V)} {k : List Key} (e : H a = some (.dT kvs)) (eb : H b = some (.tup (k.map kV))) : DGet H a (.ref b) (valV kvs k) := .inr ⟨kvs, k, b, .inl e, rfl, eb, rfl⟩
theorem DPut.k {H : Hp} {a : Addr} {kvs : List (Key × V)} {k : Key} {v : V} (e : H a = some (.dK kvs)) (hl : kvs.length < sizeLine) : DPut H a (kV k) v (upd H a (.dK (putK kvs k v))) := .inl ⟨kvs, k, e, rfl, hl, rfl⟩
theorem DPut.t {H : Hp} {a b : Addr} {kvs : List (List Key × V)} {k : List Key} {v : V} (e : H a = some (.dT kvs)) (eb : H b = some (.tup (k.map kV))) (hl : kvs.length < sizeLine) :
    DPut H a (.ref b) v (upd H a (.dT (putK kvs k v))) := .inr ⟨kvs, k, b, e, rfl, eb, hl, rfl⟩
section
variable {X : Cx} {pins : List (Addr × Obj)} {σ : St} {H : Hp} {s : Shared} {a : Addr} {y v : V} {u r : Value} {o : Option V} {A : Around} {E : Value → Shared → Prop}
end
section
variable {X : Cx} {pins : List (Addr × Obj)} {σ : St} {H : Hp} {s : Shared} {a : Addr} {kvs : List (Key × V)} {k : Key} {u : Value} {A : Around} {E : Value → Shared → Prop}
end
section
variable {X : Cx} {o i e value : Expr} {pos pos' tpos : Pos} {td ty tv : TE}
end
section
variable {X : Cx} {pos : Pos}
end
structure M1 (X : Cx) (o : Expr) (m : Str) (apos : Pos) (e : Expr) (cpos : Pos) : Prop where
  base : attributeBase o m X.env (eval o X.env) = eval o X.env
  few : ((backTo cpos (starEach [e] X.env)).all (fun x => !x.1) && (backToKw cpos (keywordEach [] X.env)).all (fun x => x.1.isSome)
    && decide (([e] : List Expr).length + ([] : List Keyword).length + (if ([] : List Keyword).isEmpty then 0 else 1) < 30)) = true
  line : (apos.endLine == cpos.line) = true
  trees : backTo cpos (starEach [e] X.env) = [(false, eval e X.env)]
structure M2 (X : Cx) (o : Expr) (m : Str) (apos : Pos) (e f : Expr) (cpos : Pos) : Prop where
  base : attributeBase o m X.env (eval o X.env) = eval o X.env
  few : ((backTo cpos (starEach [e, f] X.env)).all (fun x => !x.1) && (backToKw cpos (keywordEach [] X.env)).all (fun x => x.1.isSome)
    && decide (([e, f] : List Expr).length + ([] : List Keyword).length + (if ([] : List Keyword).isEmpty then 0 else 1) < 30)) = true
  line : (apos.endLine == cpos.line) = true
  trees : backTo cpos (starEach [e, f] X.env) = [(false, eval e X.env), (false, eval f X.env)]
section
variable {X : Cx} {pins : List (Addr × Obj)} {σ : St} {H : Hp} {s : Shared} {a : Addr} {y d : V} {u r : Value} {o : Option V} {A : Around} {E : Value → Shared → Prop}
end
section
variable {X : Cx} {o e f : Expr} {apos cpos : Pos} {td ty tx : TE}
end
section
variable {X : Cx} {pins : List (Addr × Obj)} {σ : St} {H : Hp} {s : Shared} {a : Addr} {kvs : List (Key × V)} {A : Around} {E : Value → Shared → Prop}
end
section
variable {X : Cx} {pins : List (Addr × Obj)} {σ : St} {H : Hp} {s : Shared} {a : Addr} {y : V} {u : Value} {A : Around} {E : Value → Shared → Prop}
end
end L2
namespace L2
open PySem PySem.Spec PyProof.Rows
section
variable {X : Cx}
end
section
variable {κ : Type} [DecidableEq κ]
end
end L2
namespace L2
open PySem PySem.Spec PyProof.Rows
section
variable {X : Cx}
end
end L2
namespace L2
open PySem
theorem se_Constant {es : List Expr} {env : Env} {value : Const} {k : Nat} {pos : Pos} : starEach (.Constant value k pos :: es) env = (false, eval (.Constant value k pos) env) :: starEach es env := rfl
theorem se_BinOp {es : List Expr} {env : Env} {l : Expr} {op : Operator} {r : Expr} {pos : Pos} : starEach (.BinOp l op r pos :: es) env = (false, eval (.BinOp l op r pos) env) :: starEach es env := rfl
theorem se_Subscript {es : List Expr} {env : Env} {v sl : Expr} {pos : Pos} : starEach (.Subscript v sl pos :: es) env = (false, eval (.Subscript v sl pos) env) :: starEach es env := rfl
end L2
namespace L3
open PySem
open Sem (wp)
noncomputable abbrev IsZipF (h : Heap) (z TI TO : Addr) (f0 : Value) (f : Bool) : Prop :=
  h.get? z = some { cls := .type "zip", dict := none, data := .fields #[f0, .bool f, .bool false, .ref TI, .ref TO], slots := #[] }
structure ZipOut (z TI TO i1 i2 t1 t2 : Addr) (xs ys : Array Value) (i : Nat) (a : Addr) (f : Bool) (h : Heap) : Prop where
  hz : IsZipF h z TI TO (rawInt a) f
  hTI : IsPair h TI (.ref i1) (.ref i2)
  one : AtT i1 t1 xs i h
  two : AtT i2 t2 ys i h
  al : ∃ o, h.get? a = some o
  az : a ≠ z
  a1 : a ≠ i1
  a2 : a ≠ i2
  lt : TO < h.objs.size
section
variable {prog : Program} {w : World} {A : Around} {E : Value → Shared → Prop} {s : Shared}
end
end L3
namespace L3
open PySem
noncomputable def ZSt (z TI TO i1 i2 t1 t2 : Addr) (xs ys : Array Value) (S : Addr) (i : Nat) (h : Heap) : Prop :=
  (i = 0 ∧ ZipAt z TI TO i1 i2 t1 t2 xs ys 0 .none h) ∨ ∃ a f, ZipOut z TI TO i1 i2 t1 t2 xs ys i a f h ∧ a ≠ S
theorem ZSt.keep {z TI TO i1 i2 t1 t2 S : Addr} {xs ys : Array Value} {i : Nat} {h h' : Heap} (Z : ZSt z TI TO i1 i2 t1 t2 xs ys S i h) (nS : ∀ b ∈ [z, TI, TO, i1, i2, t1, t2], b ≠ S) (k : ∀ b o, b ≠ S → h.get? b = some o → h'.get? b = some o) (ks : h'.objs.size = h.objs.size) : ZSt z TI TO i1 i2 t1 t2 xs ys S i h' := by
  rcases Z with ⟨e, Z⟩ | ⟨a, f, Z, ha⟩
  · exact .inl ⟨e, Z.keeps (fun b hb o q => k b o (nS b (by simp only [List.mem_cons, List.not_mem_nil, or_false] at hb ⊢; rcases hb with h | h | h | h | h <;> simp [h])) q) (fun o q => k _ o (nS _ (by simp)) q) (fun o q => k _ o (nS _ (by simp)) q)⟩
  · obtain ⟨hz, hTI, h1, h2, ⟨o, al⟩, az, a1, a2, lt⟩ := Z
    exact .inr ⟨a, f, ⟨k _ _ (nS _ (by simp)) hz, k _ _ (nS _ (by simp)) hTI, h1.keeps (fun o q => k _ o (nS _ (by simp)) q) (fun o q => k _ o (nS _ (by simp)) q), h2.keeps (fun o q => k _ o (nS _ (by simp)) q) (fun o q => k _ o (nS _ (by simp)) q), ⟨o, k _ _ ha al⟩, az, a1, a2, by rw [ks]; exact lt⟩, ha⟩
section
variable {prog : Program} {w : World} {A : Around} {E : Value → Shared → Prop} {s : Shared}
end
end L3
namespace L2
open PySem PySem.Spec PyProof.Rows
end L2
namespace L2
open PySem PySem.Spec PyProof.Rows
end L2
namespace L2
open PySem PySem.Spec PyProof.Rows
section
variable {X : Cx} {tg : Expr}
end
end L2
namespace L2
open PySem PySem.Spec PyProof.Rows
end L2
namespace L2
open PySem PySem.Spec PyProof.Rows
section
variable {X : Cx}
end
end L2
namespace L2
open PySem PySem.Spec PyProof.Rows
end L2
namespace L2
open PySem PySem.Spec PyProof.Rows
section
variable {X : Cx}
end
end L2
namespace L2
open PySem PySem.Spec PyProof.Rows
end L2
namespace L2
open PySem PySem.Spec PyProof.Rows
theorem comp_of {J : It} {n : Nat} {g : TG} {tt : TT} {te : TE} {σ : St} {H : Hp} {Q : VK} (Pv : Nat → List V → St → Hp → Prop) (h0 : Pv 0 [] σ H) (hl : ∀ i acc σ H, i ≤ n → Pv i acc σ H → acc.length ≤ 1000000)
    (hgo : ∀ i acc σ H, i < n → Pv i acc σ H → J.go i H) (hstop : ∀ acc σ H, Pv n acc σ H → J.stop n H)
    (hs : ∀ i acc σ H, i < n → Pv i acc σ H → ∀ x H2, J.yld i H x H2 → g x σ H2 fun σ2 H3 => tt σ2 H3 fun b H4 => if b = true then te σ2 H4 fun y H5 => Pv (i + 1) (acc ++ [y]) σ2 H5 else Pv (i + 1) acc σ2 H4)
    (hd : ∀ acc σ H D, Pv n acc σ H → H D = none → Q (.ref D) (upd H D (.lst acc))) : compW J g tt te σ H Q := by
  refine ⟨fun i m acc σ H => m = n - i ∧ i ≤ n ∧ Pv i acc σ H, ⟨n, by simp, Nat.zero_le _, h0⟩, ?_⟩
  rintro i m acc σ H ⟨rfl, hi, p⟩
  have hz := hl i acc σ H hi p
  by_cases hlt : i < n
  · exact .inr ⟨hgo i acc σ H hlt p, smallL hz, Pv (i + 1), fun acc' σ' H' p' => ⟨n - (i + 1), by omega, rfl, hlt, p'⟩, hs i acc σ H hlt p⟩
  · have e : i = n := by omega
    subst e
    exact .inl ⟨hstop acc σ H p, small hz, fun D fD => hd acc σ H D p fD⟩
theorem comp_tup {K : PySem.W.Frag} {a : Addr} {xs : List V} {g : TG} {tt : TT} {te : TE} {σ : St} {H : Hp} {Q : VK} (Pv : Nat → List V → St → Hp → Prop) (h0 : Pv 0 [] σ H) (hl : ∀ i acc σ H, i ≤ xs.length → Pv i acc σ H → acc.length ≤ 1000000)
    (ha : ∀ i acc σ H, i ≤ xs.length → Pv i acc σ H → SqT K H a xs)
    (hs : ∀ i x acc σ H, xs[i]? = some x → Pv i acc σ H → g x σ H fun σ2 H3 => tt σ2 H3 fun b H4 => if b = true then te σ2 H4 fun y H5 => Pv (i + 1) (acc ++ [y]) σ2 H5 else Pv (i + 1) acc σ2 H4)
    (hd : ∀ acc σ H D, Pv xs.length acc σ H → H D = none → Q (.ref D) (upd H D (.lst acc))) : compW (Itt K a) g tt te σ H Q :=
  comp_of Pv h0 hl (fun i acc σ H h p => ⟨xs, xs[i], ha i acc σ H (Nat.le_of_lt h) p, List.getElem?_eq_getElem h⟩) (fun acc σ H p => ⟨xs, ha _ acc σ H (Nat.le_refl _) p, Nat.le_refl _⟩) (fun i acc σ H h p x H2 y => by
    obtain ⟨e, y⟩ := y
    subst e
    exact hs i x acc σ _ (y xs (ha i acc σ _ (Nat.le_of_lt h) p)) p) hd
end L2
namespace L2
open PySem PySem.Spec PyProof.Rows
noncomputable def Fit (n : Nat) : Prop := ∃ k, k ≤ 8000 ∧ n < 2 ^ k
theorem Fit.of {n : Nat} (h : n < 18446744073709551616) : Fit n := ⟨64, by decide, h⟩
section
variable {X : Cx}
end
end L2
namespace PySem
open PySem.W PyProof.Rows
section
variable {prog : Program} {w : World} {A : Around} {E : Value → Shared → Prop} {s : Shared} {T : String} {r d : Addr} {n : Nat} {P : Nat → Value → Prop} {OK : Heap → Prop}
end
end PySem
namespace L2
open PySem PySem.Spec PyProof.Rows PySem.W
section
variable {X : Cx}
end
end L2
namespace L2
open PySem PySem.Spec PyProof.Rows
section
variable {X : Cx}
end
end L2
namespace L2
open PySem PySem.Spec PyProof.Rows
end L2
namespace L2
open PySem PySem.Spec PyProof.Rows
section
variable {X : Cx}
end
end L2
namespace L2
open PySem PySem.Spec PyProof.Rows
end L2
set_option maxRecDepth 100000
namespace L2
open PySem PySem.Spec PyProof.Rows
noncomputable abbrev Cx.tr (X : Cx) (ps : List (Addr × Obj)) (Kx : Value → Shared → Prop) : Cx := { X with pn := X.pn ++ ps, xe := fun e s' => wpAny (model X.prog X.w) X.A (noteFrame e X.env) (fun _ s'' => Kx e s'') X.xe s' }
section
variable {X : Cx} {ps pins : List (Addr × Obj)} {Kx : Value → Shared → Prop} {σ : St} {H : Hp} {s : Shared} {Ex : St → XK}
theorem Inv.tr (I : Inv X ps σ H s) (Kx : Value → Shared → Prop) : Inv (X.tr ps Kx) [] σ H s :=
  ⟨⟨I.ok.mod, I.ok.kind, I.ok.glob, I.ok.blt, I.ok.above, I.ok.inj, I.ok.has, I.ok.cab, I.ok.hd, I.ok.frames, I.ok.stk, I.ok.exf, I.ok.bs, I.ok.bsz, I.ok.noex, I.ok.exfs, I.ok.funs, I.ok.frf⟩, I.os, I.bare, I.base, I.loc, I.cell, I.free, I.freeC, fun p hp => I.pin p (by
    have : p ∈ (X.pn ++ ps) ++ [] := hp
    rwa [List.append_nil] at this), I.hok, I.len⟩
end
section
variable {X : Cx} {ps : List (Addr × Obj)} {Kx : Value → Shared → Prop} {Ex : St → XK} {k k' : Nat} {f C : Addr} {fd : FuncData} {qs : List Str} {sp : Sp} {m x : Str} {p pos apos : Pos} {o e : Expr} {es : List Expr} {ta : TE} {t : TA}
end
end L2
namespace L3
open PySem
open Sem (wp)
open AutoSeq1 (wpAny_loadPart')
noncomputable def AtQ (c : Bool) (it t : Addr) (xs : Array Value) (i : Nat) (h : Heap) : Prop := (c = true ∧ AtT it t xs i h) ∨ (c = false ∧ h.IsListIter it t i ∧ h.IsList t xs)
theorem AtQ.move {c : Bool} {it t b : Addr} {xs : Array Value} {i : Nat} {h h' : Heap} (a : AtQ c it t xs i h) (k : Heap.ExtBut b h h') (h1 : it ≠ b) (h2 : t ≠ b) : AtQ c it t xs i h' := by
  rcases a with ⟨e, a⟩ | ⟨e, a, a'⟩
  · exact .inl ⟨e, a.move k h1 h2⟩
  · exact .inr ⟨e, a.extBut k h1, a'.extBut k h2⟩
theorem AtQ.keeps {c : Bool} {it t : Addr} {xs : Array Value} {i : Nat} {h h' : Heap} (a : AtQ c it t xs i h) (k1 : ∀ o, h.get? it = some o → h'.get? it = some o) (k2 : ∀ o, h.get? t = some o → h'.get? t = some o) : AtQ c it t xs i h' := by
  rcases a with ⟨e, a⟩ | ⟨e, ⟨o, ho, r⟩, o', ho', r'⟩
  · exact .inl ⟨e, a.keeps k1 k2⟩
  · exact .inr ⟨e, ⟨o, k1 o ho, r⟩, o', k2 o' ho', r'⟩
noncomputable def ItQ (c : Bool) (it t : Addr) (i : Nat) (h : Heap) : Prop := (c = true ∧ h.IsTupleIter it t i) ∨ (c = false ∧ h.IsListIter it t i)
theorem AtQ.iter {c : Bool} {it t : Addr} {xs : Array Value} {i : Nat} {h : Heap} (a : AtQ c it t xs i h) : ItQ c it t i h := by
  rcases a with ⟨e, a⟩ | ⟨e, a, _⟩
  · exact .inl ⟨e, a.iter⟩
  · exact .inr ⟨e, a⟩
theorem ItQ.at {c : Bool} {it t : Addr} {i : Nat} {h h' : Heap} (a : ItQ c it t i h) (k : ∀ o, h.get? it = some o → h'.get? it = some o) : ItQ c it t i h' := by
  rcases a with ⟨e, o, ho, r⟩ | ⟨e, o, ho, r⟩
  · exact .inl ⟨e, o, k o ho, r⟩
  · exact .inr ⟨e, o, k o ho, r⟩
theorem ItQ.obj {c : Bool} {it t : Addr} {i : Nat} {h : Heap} (a : ItQ c it t i h) : ∃ o, h.get? it = some o ∧ ∀ v, o.data ≠ .cell v := by
  rcases a with ⟨_, o, ho, _, d⟩ | ⟨_, o, ho, _, d⟩
  · exact ⟨o, ho, fun v z => by rw [d] at z; cases z⟩
  · exact ⟨o, ho, fun v z => by rw [d] at z; cases z⟩
noncomputable def SeqQ (c : Bool) (t : Addr) (xs : Array Value) (h : Heap) : Prop := (c = true ∧ h.IsTuple t xs) ∨ (c = false ∧ h.IsList t xs)
theorem AtQ.of {c : Bool} {it t : Addr} {xs : Array Value} {i : Nat} {h : Heap} (a : ItQ c it t i h) (b : SeqQ c t xs h) : AtQ c it t xs i h := by
  rcases a with ⟨e, a⟩ | ⟨e, a⟩ <;> rcases b with ⟨e', b⟩ | ⟨e', b⟩
  · exact .inl ⟨e, a, b⟩
  · rw [e] at e'; cases e'
  · rw [e] at e'; cases e'
  · exact .inr ⟨e, a, b⟩
theorem SeqQ.lt {c : Bool} {t : Addr} {xs : Array Value} {h : Heap} (b : SeqQ c t xs h) : t < h.objs.size := by
  rcases b with ⟨_, o, ho, _⟩ | ⟨_, o, ho, _⟩ <;> exact Heap.lt_size ho
theorem SeqQ.keeps {c : Bool} {t : Addr} {xs : Array Value} {h h' : Heap} (b : SeqQ c t xs h) (k : ∀ o, h.get? t = some o → h'.get? t = some o) : SeqQ c t xs h' := by
  rcases b with ⟨e, o, ho, r⟩ | ⟨e, o, ho, r⟩
  · exact .inl ⟨e, o, k o ho, r⟩
  · exact .inr ⟨e, o, k o ho, r⟩
section
variable {prog : Program} {w : World} {A : Around} {E : Value → Shared → Prop} {s : Shared}
structure ZipQ (c1 c2 : Bool) (z TI TO i1 i2 t1 t2 : Addr) (xs ys : Array Value) (i : Nat) (f0 : Value) (h : Heap) : Prop where
  z : IsZip h z TI TO f0
  TI : IsPair h TI (.ref i1) (.ref i2)
  TO : ∃ a b, IsPair h TO a b
  one : AtQ c1 i1 t1 xs i h
  two : AtQ c2 i2 t2 ys i h
theorem ZipQ.keeps {c1 c2 : Bool} {z TI TO i1 i2 t1 t2 : Addr} {xs ys : Array Value} {i : Nat} {f0 : Value} {h h' : Heap} (Z : ZipQ c1 c2 z TI TO i1 i2 t1 t2 xs ys i f0 h) (k : ∀ b ∈ [z, TI, TO, i1, i2], ∀ o, h.get? b = some o → h'.get? b = some o)
    (k1 : ∀ o, h.get? t1 = some o → h'.get? t1 = some o) (k2 : ∀ o, h.get? t2 = some o → h'.get? t2 = some o) : ZipQ c1 c2 z TI TO i1 i2 t1 t2 xs ys i f0 h' :=
  ⟨k z (by simp) _ Z.z, k TI (by simp) _ Z.TI, let ⟨a, b, q⟩ := Z.TO; ⟨a, b, k TO (by simp) _ q⟩, Z.one.keeps (k i1 (by simp)) k1, Z.two.keeps (k i2 (by simp)) k2⟩
end
section
variable {prog : Program} {w : World} {A : Around} {E : Value → Shared → Prop} {s : Shared}
end
end L3
namespace L2
open PySem PySem.Spec PyProof.Rows
noncomputable def SqQ (c : Bool) (K : PySem.W.Frag) (H : Hp) (a : Addr) (xs : List V) : Prop := (c = true ∧ SqT K H a xs) ∨ (c = false ∧ SqL K H a xs)
theorem SqQ.tup {K : PySem.W.Frag} {H : Hp} {a : Addr} {xs : List V} (h : SqT K H a xs) : SqQ true K H a xs := .inl ⟨rfl, h⟩
theorem SqQ.lst {K : PySem.W.Frag} {H : Hp} {a : Addr} {xs : List V} (h : SqL K H a xs) : SqQ false K H a xs := .inr ⟨rfl, h⟩
section
variable {X : Cx}
end
end L2
namespace PySem
open PySem.W PyProof.Rows
section
variable {prog : Program} {w : World} {A : Around} {E : Value → Shared → Prop} {s : Shared} {r : Addr} {a b c : Int} {t u v : Tok} {n : Nat}
end
end PySem
namespace PyProof.Rows
open PySem
section
variable {prog : Program} {w : World} {A : Around} {E : Value → Shared → Prop} {s : Shared}
end
end PyProof.Rows
namespace L2
open PySem PySem.Spec PyProof.Rows
section
variable {X : Cx}
end
end L2
namespace PySem
open Sem (wp)
end PySem
namespace PySem.F
end PySem.F
namespace L2
open PySem PySem.Spec PyProof.Rows
end L2
namespace L2
open PySem PySem.Spec PyProof.Rows
noncomputable def asciiS (x : Str) : Prop := x.cps.all (· < 128) = true
section
variable {X : Cx} {tg : Expr}
end
end L2
namespace L2
open PySem PySem.Spec PyProof.Rows
section
variable {X : Cx}
end
end L2
namespace PySem
open Sem (wp)
section
variable {prog : Program} {w : World} {A : Around} {E : Value → Shared → Prop} {s : Shared}
end
end PySem
namespace L2
open PySem PySem.Spec PyProof.Rows PySem.W
section
variable {X : Cx} {tg : Expr}
end
end L2
namespace PySem
open Sem (wp)
section
variable {prog : Program} {w : World} {K : Type} [DecidableEq K] {knd : KeyKind prog w K} {A : Around} {E : Value → Shared → Prop} {s : Shared}
end
end PySem
namespace L2
open PySem PySem.Spec PyProof.Rows PySem.W
section
variable {X : Cx} {o e f : Expr} {apos cpos : Pos} {td ty tx : TE}
end
end L2
namespace L2
open PySem PySem.Spec PyProof.Rows PySem.W
section
variable {X : Cx}
end
end L2
namespace L2
open PySem PySem.Spec PyProof.Rows PySem.W
section
variable {X : Cx}
end
end L2
namespace PySem
open Sem (wp)
section
variable {prog : Program} {w : World} {A : Around} {E : Value → Shared → Prop} {s : Shared}
theorem wpAny_pyHash_none {Q : Int → Shared → Prop} (h : Q 4238894112 { s with toks := s.toks + 1 }) : wpAny (model prog w) A (pyHash .none) Q E s := by
  unfold pyHash
  have hv : [Value.none].any Value.onHeap = false := rfl
  refine wpAny_bind ?_
  rw [cRoomFor, if_neg (by rw [hv]; exact Bool.false_ne_true)]; refine wpAny_pure ?_
  refine wpAny_bind (wpAny_specialOf (typeIs_none s) F.slot_NoneType_hash.lookup ?_)
  show wpAny _ _ (if (some (Value.builtin "NoneType.__hash__") == some Value.none) = true then _ else _) Q E s
  rw [if_neg (by rw [beq_builtin_none]; exact Bool.false_ne_true)]
  refine wpAny_bind (wpAny_specialOf (typeIs_none s) F.slot_NoneType_hash.lookup ?_)
  show wpAny _ _ (callSpecialIfBoundUnlessNone? .none "__hash__" _ >>= _) Q E s
  refine wpAny_bind (wpAny_callSpecialIfBoundUnlessNone?_slot (typeIs_none s) F.slot_NoneType_hash
    (wpAny_call_entry F.slot_NoneType_hash (typeIs_none s) F.entry_NoneType_hash
      (show wpAny _ _ (do ret (← mkInt 4238894112)) _ _ s from wpAny_ret_mkInt ?_) (F.args_NoneType_hash_1 _)))
  show wpAny _ _ (if (decide (-(2 : Int) ^ 63 ≤ 4238894112) && decide ((4238894112 : Int) < 2 ^ 63)) = true then _ else _) Q E _
  rw [if_pos (by decide)]
  exact wpAny_pure h
end
end PySem
namespace L2
open PySem PySem.Spec PyProof.Rows
noncomputable def oIs : Option Int → Value → Bool
  | none, .none => true
  | none, _ => false
  | some i, v => Value.isInt i v
noncomputable def oH : Option Int → Int
  | none => 4238894112
  | some i => hashInt i
theorem oIs_shape : ∀ {k : Option Int} {v : Value}, oIs k v = true → (k = none ∧ v = Value.none) ∨ (∃ i t, k = some i ∧ v = Value.int i t)
  | none, v, h => by
    cases v with
    | none => exact .inl ⟨rfl, rfl⟩
    | _ => cases h
  | some i, v, h => by
    obtain ⟨t, e⟩ := Value.isInt_shape (k := i) (v := v) h
    exact .inr ⟨i, t, rfl, e⟩
noncomputable def noneKind (prog : Program) (w : World) : PySem.KeyKind prog w (Option Int) where
  is := oIs
  hash := oH
  inj := fun v a b ha hb => by
    rcases oIs_shape ha with ⟨rfl, rfl⟩ | ⟨i, t, rfl, rfl⟩
    · rcases oIs_shape hb with ⟨rfl, e⟩ | ⟨j, u, rfl, e⟩
      · rfl
      · exact nomatch e
    · rcases oIs_shape hb with ⟨rfl, e⟩ | ⟨j, u, rfl, e⟩
      · exact nomatch e
      · injection e with e1 _; rw [e1]
  byValue := fun k v h => by
    rcases oIs_shape h with ⟨rfl, rfl⟩ | ⟨i, t, rfl, rfl⟩ <;> rfl
  pyHash := fun hv h => by
    rcases oIs_shape hv with ⟨rfl, rfl⟩ | ⟨i, t, rfl, rfl⟩
    · exact wpAny_pyHash_none h
    · exact wpAny_pyHash_int h
  eqBool := fun {A E s a b u v Q} hu hv h => by
    rcases oIs_shape hu with ⟨rfl, rfl⟩ | ⟨i, t, rfl, rfl⟩
    · rcases oIs_shape hv with ⟨rfl, rfl⟩ | ⟨j, u, rfl, rfl⟩
      · exact SeqAt.EqAt.same .none _ _ _ _ h
      · exact SeqAt.EqAt.none_int j u _ _ _ _ h
    · rcases oIs_shape hv with ⟨rfl, rfl⟩ | ⟨j, u, rfl, rfl⟩
      · exact SeqAt.EqAt.int_none i t _ _ _ _ h
      · have e : decide ((some i : Option Int) = some j) = (i == j) := by
          by_cases c : i = j
          · subst c; simp
          · rw [decide_eq_false (fun z => c (Option.some.inj z))]; exact (beq_eq_false_iff_ne.mpr c).symm
        rw [e] at h
        exact wpAny_eqBool_int h
  «strs» := fun k x t v h => by
    rcases oIs_shape h with ⟨_, e⟩ | ⟨_, _, _, e⟩ <;> exact nomatch e
noncomputable def oV : Option Int → V
  | none => .non
  | some i => .int i
theorem oV_is : ∀ {k : Option Int} {v : Value}, RelV (oV k) v → oIs k v = true
  | none, _, r => by cases (show _ = Value.none from r); rfl
  | some i, _, r => by
    obtain ⟨t, rfl⟩ := r
    simp [oIs, Value.isInt]
theorem oItems {P : Program} {w : World} : ∀ {ks : List (Option Int)} {us : List Value}, Vals (ks.map oV) us → ItemsAre (noneKind P w) ks us
  | [], _, r => by rw [List.map_nil] at r; cases r; exact .nil
  | k :: ks, _, r => by
    rw [List.map_cons] at r
    cases r with
    | cons h t => exact .cons (oV_is h) (oItems t)
theorem oKey {P : Program} {w : World} {H : Hp} {h : Heap} {a : Addr} {ks : List (Option Int)} (ok : HOk P w H h) (e : H a = some (.tup (ks.map oV))) : (tupleKind (noneKind P w)).is h ks a := by
  obtain ⟨_, its, r, ⟨o, h1, h2, n, h3⟩, _⟩ := (show ObjOk P w H h a (.tup (ks.map oV)) from ok a _ e)
  exact ⟨o, its.toArray, n, h1, h2, h3, by simpa using oItems r⟩
noncomputable def OD (P : Program) (w : World) (H : Hp) (h : Heap) (S : Addr) (ks : List (List (Option Int))) : Prop := ∃ (xs : List (List (Option Int) × Addr × Value)) (o : Obj) (es : Array DictEntry) (ep : Nat), xs.map (·.1) = ks ∧ (∀ x ∈ xs, H x.2.1 = some (.tup (x.1.map oV))) ∧ h.get? S = some o ∧ o.ExactDict ∧ o.data = .dict es ep ∧ es.toList = xs.map (entryOfKey (tupleKind (noneKind P w)))
theorem OD.at' {P : Program} {w : World} {H : Hp} {h h' : Heap} {S : Addr} {ks : List (List (Option Int))} (d : OD P w H h S ks) (k : ∀ o, h.get? S = some o → h'.get? S = some o) : OD P w H h' S ks := by
  obtain ⟨xs, o, es, ep, e1, e2, e3, e4⟩ := d
  exact ⟨xs, o, es, ep, e1, e2, k _ e3, e4⟩
theorem OD.set {X : Cx} {pins : List (Addr × Obj)} {σ : St} {H : Hp} {s : Shared} {S a : Addr} {r : Value} {A : Around} {E : Value → Shared → Prop} {ks : List (List (Option Int))} {k : List (Option Int)} {Q : Unit → Shared → Prop} (I : Inv X pins σ H s) (d : OD X.prog X.w H s.heap S ks) (hn : (ks ++ [k]).Nodup) (l : ks.length ≤ 1000000) (hu : A.units < cLine) (ha : H a = some (.tup (k.map oV)))
    (h : ∀ h' tk, Heap.SameBut S s.heap h' → OD X.prog X.w H h' S (ks ++ [k]) → Q () { s with heap := h', toks := tk }) : wpAny (model X.prog X.w) A (dictSet S (.ref a) r) Q E s := by
  obtain ⟨xs, o, es, ep, e1, e2, e3, e4, e5, e6⟩ := d
  rw [List.nodup_append] at hn
  have hx : ∀ x ∈ xs, (tupleKind (noneKind X.prog X.w)).is s.heap x.1 x.2.1 := fun x hx => oKey I.hok (e2 x hx)
  have dd : s.heap.DictOfH (tupleKind (noneKind X.prog X.w)) S xs := ⟨o, es, ep, e3, e4, e5, e6, hx, by rw [e1]; exact hn.1⟩
  have hz : xs.length ≤ sizeLine := by
    have : xs.length = ks.length := by rw [← e1, List.length_map]
    exact Nat.le_trans (show xs.length ≤ 1000000 by omega) (by decide)
  refine wpAny_dictSet_heap (knd := tupleKind (noneKind X.prog X.w)) (hsz := hz) hu (oKey I.hok ha) dd fun h' dd' hs => h h' _ hs ?_
  have hnew : atKey xs k = none := atKey_none_of_get fun j p hj => hn.2.2 k (by rw [← e1]; exact List.mem_map.mpr ⟨_, List.mem_of_getElem? hj, rfl⟩) k (by simp) rfl
  rw [storedH_new hnew] at dd'
  obtain ⟨o', es', ep', f1, f2, f3, f4, f5, f6⟩ := dd'
  refine ⟨_, o', es', ep', by rw [List.map_append, e1]; rfl, fun x hx => ?_, f1, f2, f3, f4⟩
  rcases List.mem_append.mp hx with y | y
  · exact e2 x y
  · have : x = (k, a, r) := by simpa using y
    rw [this]; exact ha
section
variable {X : Cx}
end
end L2
namespace L2
open PySem PySem.Spec PyProof.Rows
noncomputable def TyQ (K : PySem.W.Frag) (H : Hp) (x : V) (t : Value) : Prop := TyOf K H x t ∨ (t = .type "tuple" ∧ ∃ a ys, x = .ref a ∧ SqT K H a ys)
theorem call_isiQ {X : Cx} : CallR X (.builtin "isinstance") (fun xs H Q => ∃ x c t b, xs = [x, .ty c] ∧ TyQ X.K H x t ∧ PySem.W.kitOne X.K t (.type c) = some b ∧ Q (.bl b) H) := by
  intro pins s σ H xs us Q I r h
  obtain ⟨x, c, t, b, rfl, ty, e, q⟩ := h
  rcases ty with ty | ⟨rfl, a, ys, rfl, hq⟩
  · exact call_isi pins s σ H _ us Q I r ⟨x, c, t, b, rfl, ty, e, q⟩
  · obtain ⟨u1, u2, rfl, r1, r2⟩ := vals2 r
    cases (show u1 = Value.ref a from r1)
    cases (show u2 = Value.type c from r2)
    obtain ⟨its, rv, p, _⟩ := I.tuple hq
    obtain ⟨o, h1, h2, _⟩ := p
    exact PySem.W.kia_one PySem.W.kitx_tuple I.kIn ⟨o, h1, h2⟩ e (fun z => nomatch z) fun tk => ⟨.bl b, H, I.kept (t' := tk) fun _ _ e => e, rfl, q⟩
end L2
namespace L2
open PySem PySem.Spec PyProof.Rows
section
variable {X : Cx}
noncomputable def rSlS : V → Option Int → Option Int → Hp → VK → Prop := fun x lo hi H Q => ∃ z : Str, x = .str z ∧ z.length ≤ sizeLine ∧ Q (.str (Txt.slice z lo hi)) H
theorem sl_str : SlR X rSlS := by
  intro pins s σ H x v vl vu lo hi sl Q I rx hs pl pu h
  obtain ⟨z, rfl, hz, q⟩ := h
  obtain ⟨t, rfl⟩ := rx
  refine ⟨"str", _, F.slot_str_getitem.lookup, typeIs_str _ _ _, ?_⟩
  obtain ⟨l, hl, el⟩ : ∃ l : Option (Int × Tok), vl = partValue l ∧ l.map (·.1) = lo := by
    cases lo with
    | none => cases pl; exact ⟨none, rfl, rfl⟩
    | some i => cases pl with | int _ t' => exact ⟨some (i, t'), rfl, rfl⟩
  obtain ⟨u, hu, eu⟩ : ∃ u : Option (Int × Tok), vu = partValue u ∧ u.map (·.1) = hi := by
    cases hi with
    | none => cases pu; exact ⟨none, rfl, rfl⟩
    | some i => cases pu with | int _ t' => exact ⟨some (i, t'), rfl, rfl⟩
  subst hl hu el eu
  refine wpAny_getItem_str_slice (l := l) (u := u) (st := none) hs rfl ?_
  exact (post_val_or_str ⟨Nat.le_trans (Txt.slice_le z _ _) hz, fun t' k => ⟨.str _, H, I.tok _, ⟨_, rfl⟩, q⟩⟩)
theorem call_intS : CallR X (.type "int") (fun xs H Q => ∃ (z : Str) (n : Int), xs = [.str z] ∧ PySem.intText? z = some n ∧ z.length ≤ 640 ∧ Q (.int n) H) := by
  intro pins s σ H xs us Q I r h
  obtain ⟨z, n, rfl, hn, hl, q⟩ := h
  obtain ⟨u, rfl, ru⟩ := vals1 r
  obtain ⟨t, rfl⟩ := ru
  exact PySem.W.KIN.call_text hn hl ⟨.int n, H, I.tok _, ⟨_, rfl⟩, q⟩
end
end L2
namespace L2
open PySem PySem.Spec PyProof.Rows
section
variable {X : Cx}
theorem mt_strip : MtR X "str.strip" (fun x vs H Q => ∃ z y, x = .str z ∧ vs = [.str y] ∧ z.length ≤ sizeLine ∧ Q (.str (Txt.stripChars z y)) H) := by
  intro pins s σ H x vs v us Q I rx rv h
  obtain ⟨z, y, rfl, rfl, hz, q⟩ := h
  obtain ⟨t, rfl⟩ := rx
  obtain ⟨u, rfl, ru⟩ := rv.one
  obtain ⟨t', rfl⟩ := ru
  exact SC.stripChars (fun t' k => ⟨.str _, H, I.tok _, ⟨_, rfl⟩, q⟩) hz
end
end L2
namespace L2
open PySem PySem.Spec PyProof.Rows
section
variable {X : Cx}
theorem mt_find3 : MtR X "str.find" (fun x vs H Q => ∃ z y i, x = .str z ∧ vs = [.str y, .int i] ∧ Q (.int (Txt.find3 z y i)) H) := by
  intro pins s σ H x vs v us Q I rx rv h
  obtain ⟨z, y, i, rfl, rfl, q⟩ := h
  obtain ⟨t, rfl⟩ := rx
  obtain ⟨u, u', rfl, ru, ru'⟩ := rv.two
  obtain ⟨t', rfl⟩ := ru
  obtain ⟨t2, rfl⟩ := ru'
  exact SC.find3 ⟨.int _, H, I.tok _, ⟨_, rfl⟩, q⟩
noncomputable def backS (z : Str) : Str := ⟨((Builtin.Str.strSliceIndices none none (-1) z.length).filterMap (z.cps[·]?)).toArray⟩
theorem backS_le (z : Str) : (backS z).length ≤ z.length := by
  unfold backS
  show ((Builtin.Str.strSliceIndices none none (-1) z.length).filterMap (z.cps[·]?)).toArray.size ≤ _
  rw [List.size_toArray]
  refine Nat.le_trans (List.length_filterMap_le _ _) ?_
  unfold Builtin.Str.strSliceIndices sliceRange
  simp only [show ¬ ((-1 : Int) > 0) by decide, show ¬ ((-1 : Int) ≥ 0) by decide, if_false]
  rw [List.length_map, List.length_range]
  rw [show (- -1 : Int) = 1 by decide, Int.ediv_one]
  split <;> omega
noncomputable def rSlS3 : V → Option Int → Option Int → Option Int → Hp → VK → Prop := fun x lo hi st H Q => ∃ z : Str, x = .str z ∧ z.length ≤ sizeLine ∧ lo = none ∧ hi = none ∧ st = some (-1) ∧ Q (.str (backS z)) H
theorem pe_sliceS3 {e : Expr} {te : TE} {lo hi : Option Expr} {st : Expr} {tl th ts : TO} {pos p2 : Pos} (he : PE X e te) (hl : PO X lo tl) (hu : PO X hi th) (hst : PO X (some st) ts) : PE X (.Subscript e (.Slice lo hi (some st) p2) pos) (tSl3 rSlS3 te tl th ts) := by
  intro pins s σ H Q I h
  refine Subscript_ (thn (he pins s σ H _ I h) fun v s1 ⟨x, H1, I1, r1, q1⟩ => ?_)
  refine wpAny_Slice (thn (hl pins s1 σ H1 _ I1 q1) fun vl s2 ⟨l, H2, I2, pl, q2⟩ => thn (hu pins s2 σ H2 _ I2 q2) fun vu s3 ⟨u, H3, I3, pu, q3⟩ => thn (hst pins s3 σ H3 _ I3 q3) fun vs s4 ⟨k, H4, I4, ps, q4⟩ => ?_)
  obtain ⟨z, rfl, hz, rfl, rfl, rfl, q5⟩ := q4
  obtain ⟨t, rfl⟩ := r1
  cases pl
  cases pu
  cases ps with
  | int _ t' =>
  have I5 : Inv X pins σ H4 { s4 with heap := s4.heap.push { cls := .type "slice", data := .fields #[.none, .none, .int (-1) t'] } } := I4.kept (t' := s4.toks) fun b ob q => Heap.get?_push_of_some _ q
  have hg : wpAny (model X.prog X.w) X.A (getItem (.str z t) (.ref s4.heap.objs.size)) (EP X pins σ Q) X.xe { s4 with heap := s4.heap.push { cls := .type "slice", data := .fields #[.none, .none, .int (-1) t'] } } := by
    refine wpAny_getItem_str_slice (l := none) (u := none) (st := some (-1, t')) ⟨_, Heap.get?_push_size _ rfl, rfl, rfl⟩ rfl ?_
    unfold sliceMade
    rw [if_neg (by intro h; rw [Bool.and_eq_true] at h; exact absurd h.1 (show ¬ ((-1 : Int) == 1) = true by decide))]
    exact ⟨Nat.le_trans (backS_le z) hz, .str _, H4, I5.tok _, ⟨_, rfl⟩, q5⟩
  exact tail_any (ops := [.str z t, .ref s4.heap.objs.size]) (typeIs_str _ _ _) F.slot_str_getitem.lookup hg (by with_unfolding_all rfl)
end
end L2
set_option maxHeartbeats 4000000
namespace Lw
open PySem L2
structure PB (X : Cx) (es : List Expr) (t : TA) : Prop where
  go : PA X es t
theorem pb_nil {X : Cx} : PB X [] tNil := ⟨pa_nil⟩
theorem pb_cons {X : Cx} {e : Expr} {es : List Expr} {te : TE} {t : TA} (ha : PE X e te) (hr : PB X es t) (hs : starEach (e :: es) X.env = (false, eval e X.env) :: starEach es X.env := by rfl) : PB X (e :: es) (tCons te t) := ⟨pa_cons ha hr.go hs⟩
noncomputable def top (i : Nat) : Stmt := PySem.Challenge.pw_bitdraws_k38_whole_plans_as_texts.main.body.getD i (.Pass ⟨0, 0, 0, 0⟩)
noncomputable abbrev s_written : Stmt := top 7
noncomputable abbrev p_written : List Str := ["plan"]
theorem sc_written : FnScope ["plan"] ["plan"] (defScope s_written) := ⟨rfl, rfl, rfl, by decide +kernel, rfl, by decide +kernel, by decide +kernel⟩
noncomputable abbrev s_read : Stmt := top 8
noncomputable abbrev p_read : List Str := ["text"]
theorem sc_read : FnScope ["text", "part"] ["text"] (defScope s_read) := ⟨rfl, rfl, rfl, by decide +kernel, rfl, by decide +kernel, by decide +kernel⟩
noncomputable abbrev s_read_part : Stmt := top 9
noncomputable abbrev p_read_part : List Str := ["text", "begin", "most_asks"]
theorem sc_read_part : FnScope ["text", "begin", "most_asks", "sign", "zero", "one"] ["text", "begin", "most_asks"] (defScope s_read_part) := ⟨rfl, rfl, rfl, by decide +kernel, rfl, by decide +kernel, by decide +kernel⟩
noncomputable abbrev s_read_number : Stmt := top 10
noncomputable abbrev p_read_number : List Str := ["text", "begin"]
theorem sc_read_number : FnScope ["text", "begin", "part", "number"] ["text", "begin"] (defScope s_read_number) := ⟨rfl, rfl, rfl, by decide +kernel, rfl, by decide +kernel, by decide +kernel⟩
noncomputable abbrev s__law_same : Stmt := top 12
noncomputable abbrev p__law_same : List Str := ["_law_got", "_law_due_here"]
theorem sc__law_same : FnScope ["_law_got", "_law_due_here"] ["_law_got", "_law_due_here"] (defScope s__law_same) := ⟨rfl, rfl, rfl, by decide +kernel, rfl, by decide +kernel, by decide +kernel⟩
noncomputable abbrev s__law_or : Stmt := top 13
noncomputable abbrev p__law_or : List Str := ["_law_due_here"]
theorem sc__law_or : FnScope ["_law_due_here"] ["_law_due_here"] (defScope s__law_or) := ⟨rfl, rfl, rfl, by decide +kernel, rfl, by decide +kernel, by decide +kernel⟩
noncomputable abbrev s__law_draw : Stmt := top 14
noncomputable abbrev p__law_draw : List Str := ["_law_script", "_law_town", "_law_many"]
theorem sc__law_draw : FnScope ["_law_script", "_law_town", "_law_many", "_law_k", "_law_cell", "_law_number", "_law_more"] ["_law_script", "_law_town", "_law_many"] (defScope s__law_draw) := ⟨rfl, rfl, rfl, by decide +kernel, rfl, by decide +kernel, by decide +kernel⟩
noncomputable abbrev s__law_one : Stmt := top 15
noncomputable abbrev p__law_one : List Str := ["_law_script", "_law_town", "_law_some"]
theorem sc__law_one : FnScope ["_law_script", "_law_town", "_law_some"] ["_law_script", "_law_town", "_law_some"] (defScope s__law_one) := ⟨rfl, rfl, rfl, by decide +kernel, rfl, by decide +kernel, by decide +kernel⟩
noncomputable abbrev s__law_plan : Stmt := top 16
noncomputable abbrev p__law_plan : List Str := ["_law_script", "_law_town", "_law_left"]
theorem sc__law_plan : FnScope ["_law_script", "_law_town", "_law_left", "_law_kind"] ["_law_script", "_law_town", "_law_left"] (defScope s__law_plan) := ⟨rfl, rfl, rfl, by decide +kernel, rfl, by decide +kernel, by decide +kernel⟩
noncomputable abbrev s__law_told : Stmt := top 18
noncomputable abbrev p__law_told : List Str := ["_law_text"]
theorem sc__law_told : FnScope ["_law_text", "_law_got"] ["_law_text"] (defScope s__law_told) := ⟨rfl, rfl, rfl, by decide +kernel, rfl, by decide +kernel, by decide +kernel⟩
noncomputable abbrev s__law_say : Stmt := top 19
noncomputable abbrev p__law_say : List Str := ["_law_made"]
theorem sc__law_say : FnScope ["_law_made"] ["_law_made"] (defScope s__law_say) := ⟨rfl, rfl, rfl, by decide +kernel, rfl, by decide +kernel, by decide +kernel⟩
noncomputable abbrev s__law_read : Stmt := top 20
noncomputable abbrev p__law_read : List Str := ["_law_text", "_law_left"]
theorem sc__law_read : FnScope ["_law_text", "_law_left", "_law_one_here", "_law_rest", "_law_other", "_law_many", "_law_part"] ["_law_text", "_law_left"] (defScope s__law_read) := ⟨rfl, rfl, rfl, by decide +kernel, rfl, by decide +kernel, by decide +kernel⟩
noncomputable abbrev s__law_due : Stmt := top 21
noncomputable abbrev p__law_due : List Str := ["_law_text"]
theorem sc__law_due : FnScope ["_law_text", "_law_made", "_law_rest"] ["_law_text"] (defScope s__law_due) := ⟨rfl, rfl, rfl, by decide +kernel, rfl, by decide +kernel, by decide +kernel⟩
noncomputable abbrev s__law_comb : Stmt := top 22
noncomputable abbrev p__law_comb : List Str := ["_law_script", "_law_town", "_law_many"]
theorem sc__law_comb : FnScope ["_law_script", "_law_town", "_law_many", "_law_got", "_law_turn"] ["_law_script", "_law_town", "_law_many"] (defScope s__law_comb) := ⟨rfl, rfl, rfl, by decide +kernel, rfl, by decide +kernel, by decide +kernel⟩
noncomputable abbrev s_law : Stmt := top 23
noncomputable abbrev p_law : List Str := ["_law_script"]
theorem sc_law : FnScope ["_law_script", "_law_town", "_law_k", "_law_made", "_law_text", "_law_texts", "_law_j", "_law_at", "_law_sign", "_law_thing"] ["_law_script"] (defScope s_law) := ⟨rfl, rfl, rfl, by decide +kernel, rfl, by decide +kernel, by decide +kernel⟩
theorem nd_1 : (["_law_got", "_law_due_here", "_law_one_here", "_law_other"] : List Str).Nodup := by decide +kernel
theorem nd_2 : (["_law_script", "_law_town", "_law_k", "_law_made", "_law_text", "_law_texts", "_law_j", "_law_at", "_law_sign", "_law_thing", "_law_many"] : List Str).Nodup := by decide +kernel
structure Bl (mg : Str → Option Value) : Prop where
  all_ : mg "all" = none
  bool_ : mg "bool" = none
  int_ : mg "int" = none
  isinstance_ : mg "isinstance" = none
  len_ : mg "len" = none
  range_ : mg "range" = none
  str_ : mg "str" = none
  tuple_ : mg "tuple" = none
  zip_ : mg "zip" = none
structure Cn (K : PySem.W.Frag) (mg : Str → Option Value) : Prop where
  GREATEST_NUMBER : ∃ t, mg "GREATEST_NUMBER" = some (.int 99 t)
  MOST_ASKS : ∃ t, mg "MOST_ASKS" = some (.int 12 t)
  AGAIN : ∃ g, mg "AGAIN" = some (.ref g) ∧ ∀ H, SqT K H g [.str "again"]
theorem cell_at {ns : List Int} (h : ns ≠ []) (k : Nat) : atI (ns.map V.int) ((k : Int) % ((ns.map V.int).length : Int)) = some (.int (lcell ns k)) := by
  have hp : 0 < ns.length := List.length_pos_iff.mpr h
  have e : ((k : Int) % ((ns.map V.int).length : Int)) = (((k % ns.length : Nat)) : Int) := by rw [List.length_map]; omega
  have hk : k % ns.length < ns.length := Nat.mod_lt _ hp
  rw [e]
  refine atI_nat ?_
  rw [List.getElem?_map, List.getElem?_eq_getElem hk]
  unfold lcell
  rw [if_neg h, List.getD_eq_getElem?_getD, List.getElem?_eq_getElem hk]
  rfl
theorem emod_bd (i : Int) {m : Int} (h : 0 < m) (h2 : m < 18446744073709551616) : -(2 ^ 64) < i % m ∧ i % m < 2 ^ 64 := by
  have a := Int.emod_nonneg i (show m ≠ 0 by omega)
  have b := Int.emod_lt_of_pos i h
  exact ⟨by omega, by omega⟩
section
variable {P : Program} {w : World} {K : PySem.W.Frag} {mg : Str → Option Value} {base : Heap} {f : Addr} {fd : FuncData}
theorem ok__law_draw (F__law_draw : Fun K "_law_draw" "_law_draw" s__law_draw f fd) (B : Bl mg) : FnOk P w K mg base CX0 1 f fd p__law_draw (spDraw K) := by
  refine F__law_draw.ok sc__law_draw (fun vs H Q E h => ?_) (fun cdv A outer s H vs Q E hr h => ?_)
  · obtain ⟨a, t, ns, k, m, rfl, _⟩ := h
    rfl
  obtain ⟨a, t, ns, k, m, rfl, hS, h63, hT, hk, hm, q⟩ := h
  refine ⟨_, (pss_cons (ps_expr (pe_bm PySem.F.plainAttrs_list PySem.F.slot_list_append PySem.F.type_list_append mt_append (pv 1) (pa_cons pe_int pa_nil)))
      (pss_cons (ps_set (i := 3) sc__law_draw.nd rfl (Or.inl rfl) (pe_callB call_len_seq rfl B.len_ L3.bt_len (pa_cons (pv 1) pa_nil)))
      (pss_cons (ps_set (i := 4) sc__law_draw.nd rfl (Or.inl rfl) pe_int)
      (pss_cons (ps_join (ps_if (pt_truth (pv 0) (fun _ => rfl)) (pss_one (ps_set (i := 4) sc__law_draw.nd rfl (Or.inl rfl) (pe_ix ix_list (pv 0) (pe_op op_mod (pv 3) (pe_callB call_len_seq rfl B.len_ L3.bt_len (pa_cons (pv 0) pa_nil))) (fun _ _ => rfl)))) pss_nil))
      (pss_cons (ps_set (i := 5) sc__law_draw.nd rfl (Or.inl rfl) (pe_op op_mod (pe_op op_add (pv 4) (pe_op op_mul pe_int (pv 3))) pe_int))
      (pss_cons (ps_set (i := 5) sc__law_draw.nd rfl (Or.inl rfl) (pe_op op_mod (pe_op op_mul (pe_op op_mod (pe_op op_mul (pv 5) (pv 5)) pe_int) pe_int) pe_int))
      (pss_cons (ps_set (i := 6) sc__law_draw.nd rfl (Or.inl rfl) (pe_op op_mod (pe_op op_mul (pe_op op_mod (pe_op op_mul (pv 5) (pv 5)) pe_int) pe_int) pe_int))
      (pss_one (ps_ret (pe_op op_mod (pe_op op_add (pe_op op_mul (pe_op op_fdiv (pv 5) pe_int) pe_int) (pe_op op_fdiv (pv 6) pe_int)) (pv 2))))))))))), ?_⟩
  have hT' : H t = some (.lst (zeros k)) := hT
  have g1 : Grow t H (upd H t (.lst (zeros k ++ [V.int 0]))) := Grow.upd _
  have t1 : Twn (upd H t (.lst (zeros k ++ [V.int 0]))) t (k + 1) := by
    unfold Twn
    rw [upd_same]
    show some (HO.lst (List.replicate k (V.int 0) ++ [V.int 0])) = some (HO.lst (List.replicate (k + 1) (V.int 0)))
    rw [List.replicate_succ']
  have s1 := g1.scr hT hS
  have hl : (((zeros k ++ [V.int 0]).length : Nat) : Int) = ((k + 1 : Nat) : Int) := by simp
  refine ⟨_, rfl, .inl ⟨rfl, _, SqL.of hT'⟩, t, _, _, rfl, rfl, hT', (by rw [List.length_replicate]; exact smallL (by omega)), ?_⟩
  refine ⟨_, rfl, t, _, rfl, .inl (SqL.of upd_same), ?_⟩
  rw [hl]
  refine ⟨fun σ' H' => σ' = [some (.ref a), some (.ref t), some (.int m), some (.int ((k + 1 : Nat) : Int)), some (.int (lcell ns (k + 1))), none, none] ∧ H' = upd H t (.lst (zeros k ++ [V.int 0])), ?_, ?_⟩
  · rintro σ' H' ⟨rfl, rfl⟩
    refine ⟨_, rfl, _, rfl, _, _, rfl, rfl, .inl ⟨by decide, by decide⟩, _, _, rfl, rfl, _, _, rfl, rfl, (by show (0 : Int) < 4294967291; decide), ?_⟩
    refine ⟨_, rfl, _, rfl, _, _, rfl, rfl, .inl (emod_bd _ (by decide) (by decide)), _, _, rfl, rfl, (by show (0 : Int) < 4294967279; decide), _, _, rfl, rfl, .inr ⟨by decide, by decide⟩, _, _, rfl, rfl, (by show (0 : Int) < 4294967291; decide), ?_⟩
    refine ⟨_, rfl, _, rfl, _, _, rfl, rfl, .inl (emod_bd _ (by decide) (by decide)), _, _, rfl, rfl, (by show (0 : Int) < 4294967279; decide), _, _, rfl, rfl, .inr ⟨by decide, by decide⟩, _, _, rfl, rfl, (by show (0 : Int) < 4294967291; decide), ?_⟩
    refine ⟨_, rfl, _, _, rfl, rfl, ⟨by decide, by decide⟩, _, _, rfl, rfl, .inr ⟨by decide, by decide⟩, _, rfl, _, _, rfl, rfl, ⟨by decide, by decide⟩, _, _, rfl, rfl, _, rfl, _, _, rfl, rfl, hm, ?_⟩
    exact q _ g1 t1
  · by_cases hn : ns = []
    · refine ⟨_, rfl, false, .inl ⟨_, s1.seq, by rw [hn]; rfl⟩, iteF ⟨?_, rfl⟩⟩
      unfold lcell
      rw [if_pos hn]
      rfl
    · refine ⟨_, rfl, true, .inl ⟨_, s1.seq, by cases ns with | nil => exact absurd rfl hn | cons _ _ => rfl⟩, iteT ?_⟩
      refine ⟨_, rfl, _, rfl, _, rfl, a, _, rfl, .inl s1.seq, _, _, rfl, rfl, ?_, a, _, _, _, rfl, rfl, s1.seq, cell_at hn (k + 1), rfl, rfl⟩
      show (0 : Int) < (((ns.map V.int).length : Nat) : Int)
      rw [List.length_map]
      have := List.length_pos_iff.mpr hn
      omega
end
noncomputable def spOne (K : PySem.W.Frag) : Sp := fun vs H Q _ => ∃ (a t l : Addr) (ns : List Int) (k : Nat) (xs : List V), vs = [.ref a, .ref t, .ref l] ∧ Scr K H a ns ∧ ns.length ≤ 63 ∧ Twn H t k ∧ k ≤ 800000 ∧ H l = some (.lst xs) ∧ l ≠ t ∧ 0 < xs.length ∧ xs.length ≤ 1000 ∧
  ∀ (i : Nat) (v : V) H', i = (drw ns (k + 1) (xs.length : Int)).toNat → xs[i]? = some v → Grow t H H' → Twn H' t (k + 1) → Q v H'
section
variable {P : Program} {w : World} {K : PySem.W.Frag} {mg : Str → Option Value} {base : Heap} {f : Addr} {fd : FuncData}
theorem ok__law_one (F__law_one : Fun K "_law_one" "_law_one" s__law_one f fd) (B : Bl mg) (g__law_draw : Fn P w K mg base "_law_draw" p__law_draw 1 (spDraw K)) : FnOk P w K mg base CX0 2 f fd p__law_one (spOne K) := by
  refine F__law_one.ok sc__law_one (fun vs H Q E h => ?_) (fun cdv A outer s H vs Q E hr h => ?_)
  · obtain ⟨a, t, l, ns, k, xs, rfl, _⟩ := h
    rfl
  obtain ⟨a, t, l, ns, k, xs, rfl, hS, h63, hT, hk, hL, hlt, hx, hx2, q⟩ := h
  refine ⟨_, (pss_one (ps_ret (pe_ix ix_list (pv 2) (pe_fn g__law_draw hr (pa_cons (pv 0) (pa_cons (pv 1) (pa_cons (pe_callB call_len_seq rfl B.len_ L3.bt_len (pa_cons (pv 2) pa_nil)) pa_nil)))) (fun _ _ => rfl)))), ?_⟩
  refine ⟨_, rfl, _, rfl, _, rfl, _, rfl, l, _, rfl, .inl (SqL.of hL), a, t, ns, k, _, rfl, hS, h63, hT, by omega, by omega, fun H1 g1 t1 => ?_⟩
  have n0 := drw_nn ns (k + 1) (show (0 : Int) < (xs.length : Int) by omega)
  have n1 := drw_lt ns (k + 1) (show (0 : Int) < (xs.length : Int) by omega)
  have hi : (drw ns (k + 1) (xs.length : Int)).toNat < xs.length := by omega
  have key : ∀ (d : Int) (i : Nat) (hi : i < xs.length), d = (i : Int) → atI xs d = some xs[i] := fun d i hi e => by
    subst e
    exact atI_nat (List.getElem?_eq_getElem hi)
  have at' := key (drw ns (k + 1) (xs.length : Int)) _ hi (by omega)
  exact ⟨l, _, _, _, rfl, rfl, SqL.of (g1 _ _ hlt hL), at', q _ _ _ rfl (List.getElem?_eq_getElem hi) g1 t1⟩
end
section
variable {P : Program} {w : World} {K : PySem.W.Frag} {mg : Str → Option Value} {base : Heap} {f : Addr} {fd : FuncData}
theorem ko_bb (K : PySem.W.Frag) : PySem.W.kitOne K (.type "bool") (.type "bool") = some true := by kernel_rfl
theorem ko_ib (K : PySem.W.Frag) : PySem.W.kitOne K (.type "int") (.type "bool") = some false := by kernel_rfl
theorem ko_it (K : PySem.W.Frag) : PySem.W.kitOne K (.type "int") (.type "tuple") = some false := by kernel_rfl
theorem ko_is (K : PySem.W.Frag) : PySem.W.kitOne K (.type "int") (.type "str") = some false := by kernel_rfl
theorem ko_ii (K : PySem.W.Frag) : PySem.W.kitOne K (.type "int") (.type "int") = some true := by kernel_rfl
theorem ko_sb (K : PySem.W.Frag) : PySem.W.kitOne K (.type "str") (.type "bool") = some false := by kernel_rfl
theorem ko_st (K : PySem.W.Frag) : PySem.W.kitOne K (.type "str") (.type "tuple") = some false := by kernel_rfl
theorem ko_ss (K : PySem.W.Frag) : PySem.W.kitOne K (.type "str") (.type "str") = some true := by kernel_rfl
theorem ko_tb (K : PySem.W.Frag) : PySem.W.kitOne K (.type "tuple") (.type "bool") = some false := by kernel_rfl
theorem ko_tt (K : PySem.W.Frag) : PySem.W.kitOne K (.type "tuple") (.type "tuple") = some true := by kernel_rfl
theorem paired_at {α β : Type} {F : α → β → Prop} : ∀ {l : List α} {m : List β} {i : Nat} {x : α} {y : β}, Paired F l m → l[i]? = some x → m[i]? = some y → F x y
  | _, _, _, _, _, .nil, h, _ => by simp at h
  | _, _, 0, _, _, .cons r _, h, h' => by
    simp at h h'; subst h; subst h'; exact r
  | _, _, i + 1, _, _, .cons _ t, h, h' => paired_at (i := i) t (by simpa using h) (by simpa using h')
noncomputable def TupAt (K : PySem.W.Frag) (H : Hp) (a : Addr) (xs : List V) : Prop := H a = some (.tup xs) ∨ ∀ H', SqT K H' a xs
theorem TupAt.sq {K : PySem.W.Frag} {H : Hp} {a : Addr} {xs : List V} (h : TupAt K H a xs) : SqT K H a xs := h.elim SqT.of fun z => z H
theorem TupAt.same {K : PySem.W.Frag} {H H' : Hp} {a : Addr} {xs : List V} (h : TupAt K H a xs) (s : Same H H') : TupAt K H' a xs := h.imp (s _ _) id
noncomputable def EqvS (K : PySem.W.Frag) (H : Hp) : Nat → V → V → Prop
  | 0, _, _ => False
  | n + 1, x, y => (x = y ∧ scl x = true) ∨ ∃ a b xs ys, x = .ref a ∧ y = .ref b ∧ TupAt K H a xs ∧ H b = some (.tup ys) ∧ xs.length ≤ 1000000 ∧ Paired (EqvS K H n) xs ys
theorem EqvS.same {K : PySem.W.Frag} {H H' : Hp} (g : Same H H') : ∀ {n : Nat} {x y : V}, EqvS K H n x y → EqvS K H' n x y
  | 0, _, _, h => h
  | n + 1, x, y, h => by
    rcases h with h | ⟨a, b, xs, ys, e1, e2, h1, h2, hz, p⟩
    · exact .inl h
    · exact .inr ⟨a, b, xs, ys, e1, e2, h1.same g, g _ _ h2, hz, Paired.mapP p fun _ _ q => EqvS.same g q⟩
noncomputable def spSameS (K : PySem.W.Frag) (n : Nat) : Sp := fun vs H Q _ => ∃ x y, vs = [x, y] ∧ EqvS K H n x y ∧ ∀ H', Same H H' → Q (.bl true) H'
theorem ok__law_same1 {n : Nat} (F__law_same : Fun K "_law_same" "_law_same" s__law_same f fd) (B : Bl mg) (g__law_same : Fn P w K mg base "_law_same" p__law_same n (spSameS K n)) : FnOk P w K mg base CX0 (n + 1) f fd p__law_same (spSameS K (n + 1)) := by
  refine F__law_same.ok sc__law_same (fun vs H Q E h => ?_) (fun cdv A outer s H vs Q E hr h => ?_)
  · obtain ⟨x, y, rfl, _⟩ := h
    rfl
  obtain ⟨x, y, rfl, hE, q⟩ := h
  refine ⟨_, (pss_cons (ps_if (pt_cmpR op_isN (pv 1) pe_non (nomark _)) (pss_one (ps_ret (pe_cmpR op_isN (pv 0) pe_non (nomark _)))) pss_nil)
      (pss_cons (ps_if (pt_truth (pe_callB call_isi rfl B.isinstance_ L3.bt_isinstance (pa_cons (pv 1) (pa_cons (pe_bltn (v := .ty "bool") rfl B.bool_ L3.bt_bool rfl) pa_nil))) (fun _ => rfl)) (pss_one (ps_ret (pe_and (pe_callB call_isi rfl B.isinstance_ L3.bt_isinstance (pa_cons (pv 0) (pa_cons (pe_bltn (v := .ty "bool") rfl B.bool_ L3.bt_bool rfl) pa_nil))) (pe_one (pe_cmpR op_eq (pv 0) (pv 1) (nomark _)))))) pss_nil)
      (pss_cons (ps_if (pt_truth (pe_callB call_isi rfl B.isinstance_ L3.bt_isinstance (pa_cons (pv 1) (pa_cons (pe_bltn (v := .ty "tuple") rfl B.tuple_ L3.bt_tuple rfl) pa_nil))) (fun _ => rfl)) (pss_cons (ps_if (PW.pt (pw_or (pt_not (pt_truth (pe_callB call_isiQ rfl B.isinstance_ L3.bt_isinstance (pa_cons (pv 0) (pa_cons (pe_bltn (v := .ty "tuple") rfl B.tuple_ L3.bt_tuple rfl) pa_nil))) (fun _ => rfl))) (pw_or1 (pt_cmpR op_ne (pe_callB call_len_seq rfl B.len_ L3.bt_len (pa_cons (pv 0) pa_nil)) (pe_callB call_len_seq rfl B.len_ L3.bt_len (pa_cons (pv 1) pa_nil)) (nomark _))))) (pss_one (ps_ret pe_bl)) pss_nil)
      (pss_one (ps_ret (pe_callB (call_allL rfl) rfl B.all_ L3.bt_all (pa_cons (pe_comp [] ["_law_got", "_law_due_here", "_law_one_here", "_law_other"] 2 rfl (pi_zipT rfl B.zip_ (pa_cons (pv 0) (pa_cons (pv 1) pa_nil))) (fun _ _ _ _ _ => (pg_tupK K 2 rfl (pgs_cons (pg_name (i := 2) nd_1 rfl (Or.inl rfl) (Or.inr rfl)) (pgs_cons (pg_name (i := 3) nd_1 rfl (Or.inl rfl) (Or.inr rfl)) pgs_nil)) rfl rfl rfl)) (fun _ _ _ _ _ => pif_nil) (fun _ _ _ _ _ => (pe_fn g__law_same hr (pa_cons (pv 2) (pa_cons (pv 3) pa_nil))))) pa_nil))))) pss_nil)
      (pss_cons (ps_if (pt_truth (pe_callB call_isi rfl B.isinstance_ L3.bt_isinstance (pa_cons (pv 1) (pa_cons (pe_bltn (v := .ty "str") rfl B.str_ L3.bt_str rfl) pa_nil))) (fun _ => rfl)) (pss_one (ps_ret (pe_and (pe_callB call_isi rfl B.isinstance_ L3.bt_isinstance (pa_cons (pv 0) (pa_cons (pe_bltn (v := .ty "str") rfl B.str_ L3.bt_str rfl) pa_nil))) (pe_one (pe_cmpR op_eq (pv 0) (pv 1) (nomark _)))))) pss_nil)
      (pss_one (ps_ret (pe_and (pe_callB call_isi rfl B.isinstance_ L3.bt_isinstance (pa_cons (pv 0) (pa_cons (pe_bltn (v := .ty "int") rfl B.int_ L3.bt_int rfl) pa_nil))) (pe_and (pe_not (pe_callB call_isi rfl B.isinstance_ L3.bt_isinstance (pa_cons (pv 0) (pa_cons (pe_bltn (v := .ty "bool") rfl B.bool_ L3.bt_bool rfl) pa_nil)))) (pe_one (pe_cmpR op_eq (pv 0) (pv 1) (nomark _))))))))))), ?_⟩
  rcases hE with ⟨rfl, hs⟩ | ⟨a, b, xs, ys, rfl, rfl, h1, h2, hz, hp⟩
  · cases x with
    | non =>
      refine ⟨_, rfl, rfl, _, rfl, iteT ?_⟩
      refine ⟨_, rfl, rfl, ?_⟩
      exact q H (Same.refl _)
    | bl c =>
      refine ⟨_, rfl, rfl, _, rfl, iteF ?_⟩
      refine ⟨_, rfl, _, _, _, _, rfl, .bl c, ko_bb _, _, rfl, iteT ?_⟩
      refine ⟨_, rfl, _, _, _, _, rfl, .bl c, ko_bb _, _, rfl, iteT ?_⟩
      refine ⟨_, rfl, _, rfl, rfl, ?_⟩
      rw [decide_eq_true rfl]
      exact q H (Same.refl _)
    | int i =>
      refine ⟨_, rfl, rfl, _, rfl, iteF ?_⟩
      refine ⟨_, rfl, _, _, _, _, rfl, .int i, ko_ib _, _, rfl, iteF ?_⟩
      refine ⟨_, rfl, _, _, _, _, rfl, .int i, ko_it _, _, rfl, iteF ?_⟩
      refine ⟨_, rfl, _, _, _, _, rfl, .int i, ko_is _, _, rfl, iteF ?_⟩
      refine ⟨_, rfl, _, _, _, _, rfl, .int i, ko_ii _, _, rfl, iteT ?_⟩
      refine ⟨_, rfl, _, _, _, _, rfl, .int i, ko_ib _, _, rfl, _, rfl, iteT ?_⟩
      refine ⟨_, rfl, _, rfl, rfl, ?_⟩
      rw [decide_eq_true rfl]
      exact q H (Same.refl _)
    | str z =>
      refine ⟨_, rfl, rfl, _, rfl, iteF ?_⟩
      refine ⟨_, rfl, _, _, _, _, rfl, .str z, ko_sb _, _, rfl, iteF ?_⟩
      refine ⟨_, rfl, _, _, _, _, rfl, .str z, ko_st _, _, rfl, iteF ?_⟩
      refine ⟨_, rfl, _, _, _, _, rfl, .str z, ko_ss _, _, rfl, iteT ?_⟩
      refine ⟨_, rfl, _, _, _, _, rfl, .str z, ko_ss _, _, rfl, iteT ?_⟩
      refine ⟨_, rfl, _, rfl, rfl, ?_⟩
      rw [decide_eq_true rfl]
      exact q H (Same.refl _)
    | byt _ => cases hs
    | flt _ => cases hs
    | ref _ => cases hs
    | ty _ => cases hs
  · have hl : xs.length = ys.length := hp.length
    refine ⟨_, rfl, rfl, _, rfl, iteF ?_⟩
    refine ⟨_, rfl, _, _, _, _, rfl, .tup h2, ko_tb _, _, rfl, iteF ?_⟩
    refine ⟨_, rfl, _, _, _, _, rfl, .tup h2, ko_tt _, _, rfl, iteT ?_⟩
    refine ⟨_, rfl, _, _, _, _, rfl, .inr ⟨rfl, a, xs, rfl, h1.sq⟩, ko_tt _, _, rfl, iteF ?_⟩
    refine ⟨_, rfl, a, _, rfl, .inr (h1.sq), _, rfl, b, _, rfl, .inr (SqT.of h2), rfl, _, rfl, iteNS (by rw [hl]) ?_⟩
    refine ⟨_, rfl, _, rfl, a, b, rfl, ⟨_, h1.sq⟩, ⟨_, SqT.of h2⟩, ?_⟩
    refine ⟨fun i m acc σ' H' => m = xs.length - i ∧ i ≤ xs.length ∧ acc = List.replicate i (V.bl true) ∧ Same H H' ∧ σ'.length = 4, ⟨xs.length, rfl, Nat.zero_le _, rfl, Same.refl _, rfl⟩, ?_⟩
    rintro i m acc σ' H' ⟨rfl, hi, rfl, hs, hσ⟩
    by_cases hlt : i < xs.length
    · refine .inr ⟨⟨xs, ys, xs[i], ys[i], (h1.same hs).sq, SqT.of (hs _ _ h2), List.getElem?_eq_getElem hlt, List.getElem?_eq_getElem (by omega)⟩, ?_, fun acc' σ2 H2 => acc' = List.replicate (i + 1) (V.bl true) ∧ Same H H2 ∧ σ2.length = 4, ?_, ?_⟩
      · rw [List.length_replicate]; exact smallL (by omega)
      · rintro acc' σ2 H2 ⟨rfl, s2, l2⟩
        exact ⟨xs.length - (i + 1), by omega, rfl, hlt, rfl, s2, l2⟩
      · rintro v H2 ⟨p, u, v', fp, rfl, rfl, e1, e2⟩
        have u1 := e1 xs ((h1.same hs).sq)
        have u2 := e2 ys (SqT.of (hs _ _ h2))
        have s2 : Same H (upd H' p (.tup [u, v'])) := hs.trans (same_new fp _)
        obtain ⟨o1, o2, o3, o4, rfl⟩ : ∃ o1 o2 o3 o4, σ' = [o1, o2, o3, o4] := by
          match σ', hσ with
          | [o1, o2, o3, o4], _ => exact ⟨o1, o2, o3, o4, rfl⟩
        refine ⟨p, _, rfl, SqT.of upd_same, rfl, _, _, rfl, _, _, rfl, rfl, ?_⟩
        refine ⟨_, rfl, _, rfl, u, v', rfl, (paired_at hp u1 u2).same s2, fun H3 s3 => ⟨?_, s2.trans s3, rfl⟩⟩
        rw [List.replicate_succ']
    · have e : i = xs.length := by omega
      refine .inl ⟨⟨xs, ys, (h1.same hs).sq, SqT.of (hs _ _ h2), .inl (by omega)⟩, ?_, fun D fD => ?_⟩
      · rw [List.length_replicate]; exact small (by omega)
      · refine ⟨D, List.replicate i true, rfl, SqL.of (by rw [upd_same, List.map_replicate]), ?_⟩
        have e2 : (List.replicate i true).all id = true := by simp
        rw [e2]
        exact q _ (hs.trans (same_new fD _))
end
theorem ok__law_same0 {P : Program} {w : World} {K : PySem.W.Frag} {mg : Str → Option Value} {base : Heap} {f : Addr} {fd : FuncData} {ps : List Str} {sp : Sp} (no : ∀ vs H Q E, ¬ sp vs H Q E) : FnOk P w K mg base CX0 0 f fd ps sp :=
  ⟨fun vs H Q E h => absurd h (no vs H Q E), fun A outer s H args us vs Q E _ _ _ _ h => absurd h (no vs H Q E)⟩
theorem lo62 (n : Nat) : (-(2 ^ 62) : Int) ≤ (n : Int) := Int.le_trans (by decide) (Int.natCast_nonneg n)
theorem hi62 {n : Nat} (h : n ≤ 1000000) : (n : Int) < 2 ^ 62 := Int.lt_of_le_of_lt (Int.ofNat_le.mpr h) (by decide)
theorem nat_of {z : Int} (h : 0 ≤ z) : ∃ n : Nat, z = (n : Int) := ⟨z.toNat, by omega⟩
theorem twn_tup {H : Hp} {t b : Addr} {k : Nat} {xs : List V} (h : Twn H t k) (hb : H b = some (.tup xs)) : b ≠ t := fun e => by
  unfold Twn at h
  rw [e, h] at hb
  cases hb
theorem twn_new {H : Hp} {t p : Addr} {k : Nat} (h : Twn H t k) (hp : H p = none) : p ≠ t := fun y => by
  unfold Twn at h
  rw [← y, hp] at h
  cases h
inductive Pn where
  | num (n : Nat)
  | again
  | ask (l r : Pn)
noncomputable def Pn.dp : Pn → Nat
  | .num _ => 0
  | .again => 0
  | .ask l r => max l.dp r.dp + 1
noncomputable def tx (L : List Nat) : Str := ⟨L.toArray⟩
theorem tx_nil : tx [] = ("" : Str) := by decide +kernel
theorem tx_len (L : List Nat) : (tx L).length = L.length := by
  show L.toArray.size = _
  rw [List.size_toArray]
theorem tx_inj {L M : List Nat} (h : tx L = tx M) : L = M := by
  unfold tx at h
  injection h with h
  have := congrArg Array.toList h
  simpa using this
theorem tx_eq (L M : List Nat) : decide (V.str (tx L) = V.str (tx M)) = decide (L = M) := by
  rw [decide_eq_decide]
  exact ⟨fun h => tx_inj (by injection h), fun h => by rw [h]⟩
theorem tx_app (L M : List Nat) : tx L ++ tx M = tx (L ++ M) := by
  show (⟨L.toArray ++ M.toArray⟩ : Str) = ⟨(L ++ M).toArray⟩
  congr 1
  simp
theorem tx_get (L : List Nat) (i : Nat) : (tx L).cps[i]? = L[i]? := by
  show (L.toArray)[i]? = _
  rw [List.getElem?_toArray]
theorem tx_slice_range (L : List Nat) (a c : Nat) (h : a + c ≤ L.length) : ((List.range c).map fun (k : Nat) => ((a : Int) + 1 * (k : Int)).toNat).filterMap ((tx L).cps[·]?) = (L.drop a).take c := by
  rw [List.filterMap_map]
  have key : ∀ c, a + c ≤ L.length → (List.range c).filterMap ((fun x => (tx L).cps[x]?) ∘ fun (k : Nat) => ((a : Int) + 1 * (k : Int)).toNat) = (L.drop a).take c := by
    intro c
    induction c with
    | zero => intro _; rfl
    | succ c ih =>
      intro hc
      rw [List.range_succ, List.filterMap_append, ih (by omega), List.take_add_one]
      congr 1
      rw [List.filterMap_cons, List.filterMap_nil]
      have e0 : ((fun x => (tx L).cps[x]?) ∘ fun (k : Nat) => ((a : Int) + 1 * (k : Int)).toNat) c = L[a + c]? := by
        show (tx L).cps[((a : Int) + 1 * (c : Int)).toNat]? = _
        rw [show ((a : Int) + 1 * (c : Int)).toNat = a + c by omega, tx_get]
      rw [e0, List.getElem?_drop]
      cases e : L[a + c]? with
      | none => rfl
      | some x => rfl
  rw [key c h]
theorem tx_cut {L : List Nat} {lo hi : Option Int} {a c : Nat} (h : a + c ≤ L.length) (e : Builtin.Str.strSliceIndices lo hi 1 (tx L).length = (List.range c).map fun (k : Nat) => ((a : Int) + 1 * (k : Int)).toNat) : Txt.slice (tx L) lo hi = tx ((L.drop a).take c) := by
  unfold Txt.slice
  rw [e]
  by_cases hc : (((1 : Int) == 1) && (((List.range c).map fun (k : Nat) => ((a : Int) + 1 * (k : Int)).toNat).length == (tx L).length)) = true
  · rw [if_pos hc]
    rw [List.length_map, List.length_range, tx_len] at hc
    have hcl : c = L.length := by simpa using hc
    have ha : a = 0 := by omega
    subst ha
    rw [hcl, List.drop_zero, List.take_length]
  · rw [if_neg hc, tx_slice_range L a c h]
    rfl
theorem tx_upto (L : List Nat) (m : Nat) : Txt.slice (tx L) none (some (m : Int)) = tx (L.take m) := by
  have := tx_cut (L := L) (lo := none) (hi := some (m : Int)) (a := 0) (c := min m L.length) (by omega) (by
    unfold Builtin.Str.strSliceIndices sliceRange
    rw [tx_len]
    simp only [show ¬ (m : Int) < 0 by omega, show (1 : Int) > 0 by decide, if_true, if_false]
    refine congr (congrArg List.map ?_) (congrArg List.range ?_)
    · rfl
    · split <;> omega)
  rw [this, List.drop_zero]
  congr 1
  rcases Nat.le_total m L.length with c | c
  · rw [Nat.min_eq_left c]
  · rw [Nat.min_eq_right c, List.take_length, List.take_of_length_le c]
theorem tx_from (L : List Nat) (m : Nat) : Txt.slice (tx L) (some (m : Int)) none = tx (L.drop m) := by
  have := tx_cut (L := L) (lo := some (m : Int)) (hi := none) (a := min m L.length) (c := L.length - m) (by omega) (by
    unfold Builtin.Str.strSliceIndices sliceRange
    rw [tx_len]
    simp only [show ¬ (m : Int) < 0 by omega, show (1 : Int) > 0 by decide, if_true, if_false]
    have e1 : max 0 (min (m : Int) (L.length : Int)) = ((min m L.length : Nat) : Int) := by omega
    rw [e1]
    refine congr (congrArg List.map ?_) (congrArg List.range ?_)
    · rfl
    · split <;> omega)
  rw [this]
  congr 1
  rcases Nat.le_total m L.length with c | c
  · rw [Nat.min_eq_left c, List.take_of_length_le (by rw [List.length_drop]; exact Nat.le_refl _)]
  · rw [Nat.min_eq_right c, List.drop_length, List.drop_of_length_le c, List.take_nil]
theorem tx_mid (L : List Nat) (m k : Nat) : Txt.slice (tx L) (some (m : Int)) (some ((m + k : Nat) : Int)) = tx ((L.drop m).take k) := by
  have := tx_cut (L := L) (lo := some (m : Int)) (hi := some ((m + k : Nat) : Int)) (a := min m L.length) (c := min (m + k) L.length - min m L.length) (by omega) (by
    unfold Builtin.Str.strSliceIndices sliceRange
    rw [tx_len]
    simp only [show ¬ (m : Int) < 0 by omega, show ¬ ((m + k : Nat) : Int) < 0 by omega, show (1 : Int) > 0 by decide, if_true, if_false]
    have e1 : max 0 (min (m : Int) (L.length : Int)) = ((min m L.length : Nat) : Int) := by omega
    have e2 : max 0 (min ((m + k : Nat) : Int) (L.length : Int)) = ((min (m + k) L.length : Nat) : Int) := by omega
    rw [e1, e2]
    refine congr (congrArg List.map ?_) (congrArg List.range ?_)
    · rfl
    · split <;> omega)
  rw [this]
  congr 1
  rcases Nat.le_total m L.length with c | c
  · rw [Nat.min_eq_left c]
    rcases Nat.le_total (m + k) L.length with d | d
    · rw [Nat.min_eq_left d, Nat.add_sub_cancel_left]
    · rw [Nat.min_eq_right d, List.take_of_length_le (by rw [List.length_drop]; exact Nat.le_refl _), List.take_of_length_le (by rw [List.length_drop]; omega)]
  · rw [Nat.min_eq_right c, List.drop_length, List.drop_of_length_le c, List.take_nil, List.take_nil]
theorem tx_none (L : List Nat) (m : Nat) : Txt.slice (tx L) (some (m : Int)) (some 0) = tx [] := by
  have := tx_cut (L := L) (lo := some (m : Int)) (hi := some 0) (a := 0) (c := 0) (by omega) (by
    unfold Builtin.Str.strSliceIndices sliceRange
    rw [tx_len]
    simp only [show ¬ (m : Int) < 0 by omega, show ¬ (0 : Int) < 0 by decide, show (1 : Int) > 0 by decide, if_true, if_false]
    rw [List.range_zero, List.map_nil]
    have : (if max 0 (min (m : Int) (L.length : Int)) < max 0 (min 0 (L.length : Int)) then (max 0 (min 0 (L.length : Int)) - max 0 (min (m : Int) (L.length : Int)) + 1 - 1) / 1 else 0) = 0 := by split <;> omega
    rw [this]
    rfl)
  rw [this]
  rfl
noncomputable def dgs (n : Nat) : List Nat := if n < 10 then [48 + n] else [48 + n / 10, 48 + n % 10]
theorem dgs_str : ∀ n : Nat, n < 100 → (toString (n : Int) : Str) = tx (dgs n) := by
  have : ((List.range 100).all fun (n : Nat) => decide ((toString ((n : Nat) : Int) : Str) = tx (dgs n))) = true := by decide +kernel
  intro n hn
  exact of_decide_eq_true (List.all_eq_true.mp this n (List.mem_range.mpr hn))
noncomputable def wr : Pn → List Nat
  | .num n => dgs n ++ [46]
  | .again => [42]
  | .ask l r => 63 :: (wr l ++ wr r)
noncomputable def dig (a : Nat) : Bool := decide (48 ≤ a) && decide (a ≤ 57)
noncomputable def rdN : List Nat → Option (Nat × List Nat)
  | a :: 46 :: r => if dig a = true then some (a - 48, r) else none
  | a :: b :: 46 :: r => if (dig a && (dig b && decide (a ≠ 48))) = true then some (10 * (a - 48) + (b - 48), r) else none
  | _ => none
noncomputable def rd : Nat → List Nat → Option (Pn × List Nat)
  | 0, L => if L.head? = some 42 then some (.again, L.tail) else if L.head? = some 63 then none else (rdN L).map fun x => (.num x.1, x.2)
  | m + 1, L => if L.head? = some 42 then some (.again, L.tail) else if L.head? = some 63 then
      match rd m L.tail with
      | none => none
      | some (p, L1) => match rd m L1 with
        | none => none
        | some (q, L2) => some (.ask p q, L2)
    else (rdN L).map fun x => (.num x.1, x.2)
noncomputable def pt (M : List Nat) : List Nat := if 46 ∈ M then M.takeWhile (· != 46) ++ [46] else []
theorem rdN_some {M r : List Nat} {n : Nat} (h : rdN M = some (n, r)) : n < 100 ∧ M = dgs n ++ 46 :: r := by
  unfold rdN at h
  split at h
  · rename_i a r'
    split at h
    · rename_i hd
      unfold dig at hd
      rw [Bool.and_eq_true, decide_eq_true_eq, decide_eq_true_eq] at hd
      cases h
      refine ⟨by omega, ?_⟩
      unfold dgs
      rw [if_pos (by omega), show 48 + (a - 48) = a by omega]
      rfl
    · cases h
  · rename_i a b r' _
    split at h
    · rename_i hd
      unfold dig at hd
      rw [Bool.and_eq_true, Bool.and_eq_true, Bool.and_eq_true, Bool.and_eq_true, decide_eq_true_eq, decide_eq_true_eq, decide_eq_true_eq, decide_eq_true_eq, decide_eq_true_eq] at hd
      cases h
      refine ⟨by omega, ?_⟩
      unfold dgs
      rw [if_neg (by omega), show 48 + (10 * (a - 48) + (b - 48)) / 10 = a by omega, show 48 + (10 * (a - 48) + (b - 48)) % 10 = b by omega]
      rfl
    · cases h
  · cases h
theorem rdN_of {n : Nat} (h : n < 100) (r : List Nat) : rdN (dgs n ++ 46 :: r) = some (n, r) := by
  unfold dgs
  by_cases c : n < 10
  · rw [if_pos c]
    show rdN ((48 + n) :: 46 :: r) = _
    have : dig (48 + n) = true := by unfold dig; rw [decide_eq_true (by omega), decide_eq_true (by omega)]; rfl
    have e : rdN ((48 + n) :: 46 :: r) = if dig (48 + n) = true then some (48 + n - 48, r) else none := by unfold rdN; rfl
    rw [e, if_pos this, show 48 + n - 48 = n by omega]
  · rw [if_neg c]
    show rdN ((48 + n / 10) :: (48 + n % 10) :: 46 :: r) = _
    have hd : (dig (48 + n / 10) && (dig (48 + n % 10) && decide (48 + n / 10 ≠ 48))) = true := by
      unfold dig
      rw [decide_eq_true (by omega), decide_eq_true (by omega), decide_eq_true (by omega), decide_eq_true (by omega), decide_eq_true (by omega)]
      rfl
    unfold rdN
    split
    · rename_i e
      injection e with _ e
      injection e with e _
      omega
    · rename_i a b r' _ e
      injection e with e1 e
      injection e with e2 e
      injection e with e3 e4
      subst e1 e2 e4
      rw [if_pos hd, show 10 * (48 + n / 10 - 48) + (48 + n % 10 - 48) = n by omega]
    · rename_i h1 h2
      exact absurd rfl (h2 _ _ _)
theorem dgs_no {n : Nat} (h : n < 100) : 46 ∉ dgs n := by
  unfold dgs
  split
  · simp
    omega
  · simp
    omega
theorem tw_app {D r : List Nat} (h : 46 ∉ D) : (D ++ 46 :: r).takeWhile (· != 46) = D := by
  induction D with
  | nil => rfl
  | cons a D ih =>
    have ha : a ≠ 46 := fun e => h (by rw [e]; exact List.mem_cons_self)
    rw [List.cons_append, List.takeWhile_cons, if_pos (bne_iff_ne.mpr ha), ih fun z => h (List.mem_cons_of_mem _ z)]
theorem pt_of {n : Nat} (h : n < 100) (r : List Nat) : pt (dgs n ++ 46 :: r) = dgs n ++ [46] := by
  unfold pt
  rw [if_pos (List.mem_append_right _ List.mem_cons_self), tw_app (dgs_no h)]
theorem tw_split : ∀ {M : List Nat}, 46 ∈ M → M = M.takeWhile (· != 46) ++ 46 :: M.drop ((M.takeWhile (· != 46)).length + 1)
  | [], h => by cases h
  | a :: M, h => by
    by_cases c : a = 46
    · subst c
      rfl
    · have hM : 46 ∈ M := by
        rcases List.mem_cons.mp h with e | e
        · exact absurd e.symm c
        · exact e
      rw [List.takeWhile_cons, if_pos (bne_iff_ne.mpr c)]
      show a :: M = a :: (M.takeWhile (· != 46) ++ 46 :: M.drop ((M.takeWhile (· != 46)).length + 1))
      rw [← tw_split hM]
theorem pt_is {M : List Nat} {n : Nat} (h : n < 100) (e : pt M = dgs n ++ [46]) : M = dgs n ++ 46 :: M.drop (pt M).length := by
  unfold pt at e ⊢
  by_cases c : 46 ∈ M
  · rw [if_pos c] at e ⊢
    have e2 : M.takeWhile (· != 46) = dgs n := List.append_cancel_right e
    have := tw_split c
    rw [List.length_append]
    rw [e2] at this ⊢
    exact this
  · rw [if_neg c] at e
    have := congrArg List.length e
    rw [List.length_append] at this
    exact absurd this (by show ¬ 0 = _ + 1; omega)
theorem rdN_pt (M : List Nat) : (∃ n, n < 100 ∧ pt M = dgs n ++ [46] ∧ rdN M = some (n, M.drop (pt M).length)) ∨ ((∀ n, n < 100 → pt M ≠ dgs n ++ [46]) ∧ rdN M = none) := by
  cases e : rdN M with
  | some x =>
    obtain ⟨n, r⟩ := x
    obtain ⟨hn, hM⟩ := rdN_some e
    refine .inl ⟨n, hn, by rw [hM, pt_of hn], ?_⟩
    rw [hM, pt_of hn]
    rw [show dgs n ++ 46 :: r = (dgs n ++ [46]) ++ r by rw [List.append_assoc]; rfl, List.drop_left]
  | none =>
    refine .inr ⟨fun n hn z => ?_, rfl⟩
    have := pt_is hn z
    rw [this, rdN_of hn] at e
    cases e
theorem rd_suffix : ∀ (m : Nat) {M M' : List Nat} {p : Pn}, rd m M = some (p, M') → ∃ k, 0 < k ∧ k ≤ M.length ∧ M' = M.drop k
  | m, M, M', p, h => by
    have hN : ∀ {x : Pn × List Nat}, ((rdN M).map fun x => (Pn.num x.1, x.2)) = some x → ∃ k, 0 < k ∧ k ≤ M.length ∧ x.2 = M.drop k := fun {x} hx => by
      cases e : rdN M with
      | none => rw [e] at hx; cases hx
      | some y =>
        rw [e] at hx
        cases hx
        obtain ⟨n, r⟩ := y
        obtain ⟨_, hM⟩ := rdN_some e
        refine ⟨(dgs n ++ [46]).length, by rw [List.length_append]; show 0 < _ + 1; omega, ?_, ?_⟩
        · rw [hM, List.length_append, List.length_append]
          show _ + 1 ≤ _ + (r.length + 1)
          omega
        · rw [hM, show dgs n ++ 46 :: r = (dgs n ++ [46]) ++ r by rw [List.append_assoc]; rfl, List.drop_left]
    have hA : M.head? = some 42 → ∃ k, 0 < k ∧ k ≤ M.length ∧ M.tail = M.drop k := fun e => by
      cases M with
      | nil => cases e
      | cons a M => exact ⟨1, by decide, by show 1 ≤ M.length + 1; omega, rfl⟩
    cases m with
    | zero =>
      unfold rd at h
      split at h
      · rename_i e
        cases h
        exact hA e
      · split at h
        · cases h
        · exact hN h
    | succ m =>
      unfold rd at h
      split at h
      · rename_i e
        cases h
        exact hA e
      · split at h
        · rename_i e
          cases M with
          | nil => cases e
          | cons a M =>
            split at h
            · cases h
            · rename_i p1 L1 e1
              split at h
              · cases h
              · rename_i q1 L2 e2
                cases h
                obtain ⟨k1, a1, a2, rfl⟩ := rd_suffix m e1
                obtain ⟨k2, b1, b2, rfl⟩ := rd_suffix m e2
                rw [List.length_drop] at b2
                refine ⟨k1 + k2 + 1, by omega, ?_, ?_⟩
                · show _ ≤ M.length + 1
                  have a2' : k1 ≤ M.length := a2
                  have b2' : k2 ≤ M.length - k1 := b2
                  omega
                · rw [List.drop_succ_cons, List.drop_drop]
                  rfl
        · exact hN h
noncomputable def Pn.low : Pn → Prop
  | .num n => n < 100
  | .again => True
  | .ask l r => l.low ∧ r.low
theorem rd_wr : ∀ {p : Pn} {m : Nat} (r : List Nat), p.low → p.dp ≤ m → rd m (wr p ++ r) = some (p, r)
  | .num n, m, r, hl, _ => by
    have h1 : (wr (.num n) ++ r) = dgs n ++ 46 :: r := by
      show (dgs n ++ [46]) ++ r = _
      rw [List.append_assoc]
      rfl
    have hn : n < 100 := hl
    have hd : ∃ a D, dgs n = a :: D ∧ a ≠ 42 ∧ a ≠ 63 := by
      unfold dgs
      split
      · exact ⟨_, _, rfl, by omega, by omega⟩
      · exact ⟨_, _, rfl, by omega, by omega⟩
    obtain ⟨a, D, e, h42, h63⟩ := hd
    have hh : (dgs n ++ 46 :: r).head? = some a := by rw [e]; rfl
    rw [h1]
    cases m with
    | zero =>
      unfold rd
      rw [hh, if_neg (fun z => h42 (Option.some.inj z)), if_neg (fun z => h63 (Option.some.inj z)), rdN_of hn]
      rfl
    | succ m =>
      unfold rd
      rw [hh, if_neg (fun z => h42 (Option.some.inj z)), if_neg (fun z => h63 (Option.some.inj z)), rdN_of hn]
      rfl
  | .again, 0, r, _, _ => rfl
  | .again, m + 1, r, _, _ => rfl
  | .ask l q, 0, r, _, hd => by
    have hd' : max l.dp q.dp + 1 ≤ 0 := hd
    omega
  | .ask l q, m + 1, r, hl, hd => by
    have hd' : max l.dp q.dp + 1 ≤ m + 1 := hd
    have e : wr (.ask l q) ++ r = 63 :: (wr l ++ (wr q ++ r)) := by
      show 63 :: (wr l ++ wr q) ++ r = _
      rw [List.cons_append, List.append_assoc]
    rw [e]
    unfold rd
    rw [show (63 :: (wr l ++ (wr q ++ r))).head? = some 63 from rfl, if_neg (by decide), if_pos rfl]
    show (match rd m (wr l ++ (wr q ++ r)) with
      | none => none
      | some (p, L1) => match rd m L1 with
        | none => none
        | some (q, L2) => some (Pn.ask p q, L2)) = _
    rw [rd_wr (wr q ++ r) hl.1 (by omega)]
    show (match rd m (wr q ++ r) with
        | none => none
        | some (q, L2) => some (Pn.ask l q, L2)) = _
    rw [rd_wr r hl.2 (by omega)]
theorem rd_low : ∀ (m : Nat) {M M' : List Nat} {p : Pn}, rd m M = some (p, M') → p.dp ≤ m
  | 0, M, M', p, h => by
    unfold rd at h
    split at h
    · cases h; exact Nat.le_refl _
    · split at h
      · cases h
      · cases e : rdN M with
        | none => rw [e] at h; cases h
        | some y => rw [e] at h; cases h; exact Nat.le_refl _
  | m + 1, M, M', p, h => by
    unfold rd at h
    split at h
    · cases h; exact Nat.zero_le _
    · split at h
      · split at h
        · cases h
        · rename_i p1 L1 e1
          split at h
          · cases h
          · rename_i q1 L2 e2
            cases h
            have := rd_low m e1
            have := rd_low m e2
            show max p1.dp q1.dp + 1 ≤ m + 1
            omega
      · cases e : rdN M with
        | none => rw [e] at h; cases h
        | some y => rw [e] at h; cases h; exact Nat.zero_le _
theorem dgs_ascii {n : Nat} (h : n < 100) : ∀ c ∈ dgs n, c < 128 := by
  unfold dgs
  intro c hc
  split at hc
  · have : c = 48 + n := by simpa using hc
    omega
  · have : c = 48 + n / 10 ∨ c = 48 + n % 10 := by simpa using hc
    omega
theorem wr_ascii : ∀ {p : Pn}, p.low → ∀ c ∈ wr p, c < 128
  | .num n, h, c, hc => by
    rcases List.mem_append.mp hc with hc | hc
    · exact dgs_ascii h c hc
    · have : c = 46 := by simpa using hc
      omega
  | .again, _, c, hc => by
    have : c = 42 := by simpa [wr] using hc
    omega
  | .ask l r, h, c, hc => by
    rcases List.mem_cons.mp hc with rfl | hc
    · decide
    · rcases List.mem_append.mp hc with hc | hc
      · exact wr_ascii h.1 c hc
      · exact wr_ascii h.2 c hc
theorem dgs_len (n : Nat) : (dgs n).length ≤ 2 := by
  unfold dgs
  split
  · exact Nat.le_succ 1
  · exact Nat.le_refl 2
theorem wr_len : ∀ (p : Pn), (wr p).length + 1 ≤ 4 * 2 ^ p.dp
  | .num n => by
    show (dgs n ++ [46]).length + 1 ≤ 4 * 2 ^ 0
    rw [List.length_append]
    have := dgs_len n
    show _ + 1 + 1 ≤ 4
    omega
  | .again => by decide
  | .ask l r => by
    have h1 := wr_len l
    have h2 := wr_len r
    show (63 :: (wr l ++ wr r)).length + 1 ≤ 4 * 2 ^ (max l.dp r.dp + 1)
    rw [List.length_cons, List.length_append, Nat.pow_succ]
    have a1 : 2 ^ l.dp ≤ 2 ^ max l.dp r.dp := Nat.pow_le_pow_right (by decide) (Nat.le_max_left _ _)
    have a2 : 2 ^ r.dp ≤ 2 ^ max l.dp r.dp := Nat.pow_le_pow_right (by decide) (Nat.le_max_right _ _)
    omega
theorem find_pt (L : List Nat) (b : Nat) (hb : b ≤ L.length) : Txt.slice (tx L) (some (b : Int)) (some (Txt.find3 (tx L) "." (b : Int) + 1)) = tx (pt (L.drop b)) := by
  have e1 : ("." : Str) = ⟨#[46]⟩ := by decide +kernel
  have ef : fromIndex (tx L).length (b : Int) = b := by unfold fromIndex; rw [if_neg (by omega)]; omega
  have hAt : ∀ i, StrLaws.At (tx L) ⟨#[46]⟩ (tx L).length i ↔ L[i]? = some 46 := fun i => by
    have := StrLaws.subAt_one (tx L) 46 i
    rw [Array.getElem?_toList, tx_get] at this
    exact this
  unfold Txt.find3
  rw [ef, e1]
  rcases StrLaws.occ_head_from (tx L) ⟨#[46]⟩ b 1 (Nat.le_refl _) with ⟨e, hn⟩ | ⟨i, r, e, hbi, hi, hn⟩
  · rw [e]
    show Txt.slice (tx L) (some (b : Int)) (some (-1 + 1)) = _
    rw [show (-1 + 1 : Int) = 0 by decide, tx_none]
    have : 46 ∉ L.drop b := fun h => by
      obtain ⟨j, hj⟩ := List.mem_iff_getElem?.mp h
      rw [List.getElem?_drop] at hj
      exact hn (b + j) (by omega) ((hAt _).mpr hj)
    unfold pt
    rw [if_neg this]
  · rw [e]
    show Txt.slice (tx L) (some (b : Int)) (some ((i : Int) + 1)) = _
    obtain ⟨j, rfl⟩ : ∃ j, i = b + j := ⟨i - b, by omega⟩
    rw [show (((b + j : Nat) : Int) + 1) = ((b + (j + 1) : Nat) : Int) by omega, tx_mid]
    have hj : (L.drop b)[j]? = some 46 := by rw [List.getElem?_drop]; exact (hAt _).mp hi
    have hm : 46 ∈ L.drop b := List.mem_of_getElem? hj
    have hlt : ∀ k, k < j → (L.drop b)[k]? ≠ some 46 := fun k hk z => hn (b + k) (by omega) (by omega) ((hAt _).mpr (by rw [List.getElem?_drop] at z; exact z))
    unfold pt
    rw [if_pos hm]
    generalize L.drop b = M at hj hm hlt
    congr 1
    clear hn hi e hAt ef hbi hm
    induction M generalizing j with
    | nil => cases hj
    | cons a M ih =>
      cases j with
      | zero =>
        cases hj
        rfl
      | succ j =>
        have ha : a ≠ 46 := fun z => hlt 0 (by omega) (by rw [z]; rfl)
        rw [List.take_succ_cons, List.takeWhile_cons, if_pos (bne_iff_ne.mpr ha), List.cons_append]
        rw [ih j (by simpa using hj) fun k hk z => hlt (k + 1) (by omega) (by simpa using z)]
theorem wlen {p : Pn} (h : p.dp ≤ 14) : (wr p).length ≤ 65536 := by
  have := wr_len p
  have : 2 ^ p.dp ≤ 2 ^ 14 := Nat.pow_le_pow_right (by decide) h
  have e : (2 : Nat) ^ 14 = 16384 := by decide
  omega
theorem tx_dot : ("." : Str) = tx [46] := by decide +kernel
theorem tx_star : ("*" : Str) = tx [42] := by decide +kernel
theorem tx_quest : ("?" : Str) = tx [63] := by decide +kernel
theorem tx_zero : ("0" : Str) = tx [48] := by decide +kernel
theorem take1 (M : List Nat) (c : Nat) : decide (M.take 1 = [c]) = decide (M.head? = some c) := by
  rw [decide_eq_decide]
  cases M with
  | nil => exact ⟨(fun h => by cases h), (fun h => by cases h)⟩
  | cons a M => exact ⟨(fun h => by injection h with h; rw [h]; rfl), (fun h => by rw [show a = c from Option.some.inj h]; rfl)⟩
theorem rd_42 : ∀ (m : Nat) {M : List Nat}, M.head? = some 42 → rd m M = some (.again, M.tail)
  | 0, M, h => by unfold rd; rw [if_pos h]
  | m + 1, M, h => by unfold rd; rw [if_pos h]
theorem rd_num : ∀ (m : Nat) {M : List Nat}, M.head? ≠ some 42 → M.head? ≠ some 63 → rd m M = (rdN M).map fun x => (.num x.1, x.2)
  | 0, M, h, g => by unfold rd; rw [if_neg h, if_neg g]
  | m + 1, M, h, g => by unfold rd; rw [if_neg h, if_neg g]
theorem rd_0 {M : List Nat} (h : M.head? ≠ some 42) (g : M.head? = some 63) : rd 0 M = none := by unfold rd; rw [if_neg h, if_pos g]
theorem rd_s {m : Nat} {M : List Nat} (h : M.head? ≠ some 42) (g : M.head? = some 63) : rd (m + 1) M = match rd m M.tail with
      | none => none
      | some (p, L1) => match rd m L1 with
        | none => none
        | some (q, L2) => some (.ask p q, L2) := by
  conv => lhs; unfold rd
  rw [if_neg h, if_pos g]
theorem rd_s0 {m : Nat} {M : List Nat} (h : M.head? ≠ some 42) (g : M.head? = some 63) (e : rd m M.tail = none) : rd (m + 1) M = none := by rw [rd_s h g, e]
theorem rd_s1 {m : Nat} {M M1 : List Nat} {p : Pn} (h : M.head? ≠ some 42) (g : M.head? = some 63) (e : rd m M.tail = some (p, M1)) (e2 : rd m M1 = none) : rd (m + 1) M = none := by
  rw [rd_s h g, e]
  show (match rd m M1 with
    | none => none
    | some (q, L2) => some (Pn.ask p q, L2)) = none
  rw [e2]
theorem rd_s2 {m : Nat} {M M1 M2 : List Nat} {p q : Pn} (h : M.head? ≠ some 42) (g : M.head? = some 63) (e : rd m M.tail = some (p, M1)) (e2 : rd m M1 = some (q, M2)) : rd (m + 1) M = some (.ask p q, M2) := by
  rw [rd_s h g, e]
  show (match rd m M1 with
    | none => none
    | some (q, L2) => some (Pn.ask p q, L2)) = _
  rw [e2]
theorem low_log {n : Nat} (h : n < 100) : ((n : Int)).natAbs.log2 < 1920 := by
  rw [Int.natAbs_natCast]
  exact Nat.lt_of_le_of_lt (Nat.log2_le_self n) (by omega)
theorem txz {L : List Nat} (h : L.length ≤ 1000000) : (tx L).length ≤ sizeLine := by
  rw [tx_len]
  exact Nat.le_trans h (by decide)
theorem tw_all {p : Nat → Bool} : ∀ {l : List Nat}, (l.takeWhile p).length = l.length → ∀ c ∈ l, p c = true
  | [], _, c, hc => by cases hc
  | a :: l, h, c, hc => by
    rw [List.takeWhile_cons] at h
    by_cases ha : p a = true
    · rw [if_pos ha, List.length_cons, List.length_cons] at h
      rcases List.mem_cons.mp hc with rfl | hc
      · exact ha
      · exact tw_all (by omega) c hc
    · rw [if_neg ha] at h
      cases h
theorem tw_of {p : Nat → Bool} : ∀ {l : List Nat}, (∀ c ∈ l, p c = true) → l.takeWhile p = l
  | [], _ => rfl
  | a :: l, h => by rw [List.takeWhile_cons, if_pos (h a List.mem_cons_self), tw_of fun c hc => h c (List.mem_cons_of_mem _ hc)]
theorem tw_le {p : Nat → Bool} : ∀ (l : List Nat), (l.takeWhile p).length ≤ l.length
  | [] => Nat.le_refl _
  | a :: l => by
    rw [List.takeWhile_cons]
    split
    · rw [List.length_cons, List.length_cons]
      have := tw_le (p := p) l
      omega
    · exact Nat.zero_le _
theorem tw_next {p : Nat → Bool} : ∀ {l : List Nat}, (l.takeWhile p).length < l.length → ∃ c, l[(l.takeWhile p).length]? = some c ∧ p c = false
  | [], h => by cases h
  | a :: l, h => by
    rw [List.takeWhile_cons] at h ⊢
    by_cases ha : p a = true
    · rw [if_pos ha] at h ⊢
      obtain ⟨c, h1, h2⟩ := tw_next (p := p) (l := l) (by rw [List.length_cons, List.length_cons] at h; omega)
      exact ⟨c, by rw [List.length_cons, List.getElem?_cons_succ]; exact h1, h2⟩
    · rw [if_neg ha]
      exact ⟨a, rfl, Bool.eq_false_iff.mpr ha⟩
theorem strip_iff (M : List Nat) (y : Str) : Txt.stripChars (tx M) y = ("" : Str) ↔ ∀ c ∈ M, y.cps.contains c = true := by
  have hl : (tx M).cps.toList = M := rfl
  have hs : (tx M).cps.size = M.length := by show M.toArray.size = _; rw [List.size_toArray]
  have e0 : ("" : Str) = ⟨#[]⟩ := by decide +kernel
  have hlo : stripLo y.cps.contains true (tx M) = (M.takeWhile y.cps.contains).length := by unfold stripLo; rw [if_pos rfl, hl]
  constructor
  · intro h
    refine tw_all ?_
    have hle := tw_le (p := y.cps.contains) M
    rcases Nat.lt_or_ge (M.takeWhile y.cps.contains).length M.length with hlt | hge
    rotate_left
    · omega
    exfalso
    obtain ⟨c, hc, hpc⟩ := tw_next hlt
    have hhi : (M.takeWhile y.cps.contains).length < stripHi y.cps.contains true (tx M) (M.takeWhile y.cps.contains).length := by
      unfold stripHi
      rw [if_pos rfl, hl, tx_len]
      have h1 := tw_le (p := y.cps.contains) (M.drop (M.takeWhile y.cps.contains).length).reverse
      rw [List.length_reverse, List.length_drop] at h1
      rcases Nat.lt_or_ge ((M.drop (M.takeWhile y.cps.contains).length).reverse.takeWhile y.cps.contains).length (M.length - (M.takeWhile y.cps.contains).length) with h2 | h2
      · omega
      · exfalso
        have := tw_all (p := y.cps.contains) (l := (M.drop (M.takeWhile y.cps.contains).length).reverse) (by rw [List.length_reverse, List.length_drop]; omega) c (by
          rw [List.mem_reverse]
          refine List.mem_of_getElem? (i := 0) ?_
          rw [List.getElem?_drop, Nat.add_zero]
          exact hc)
        rw [hpc] at this
        cases this
    have hhi2 : stripHi y.cps.contains true (tx M) (M.takeWhile y.cps.contains).length ≤ M.length := by
      unfold stripHi
      rw [if_pos rfl, tx_len]
      exact Nat.sub_le _ _
    unfold Txt.stripChars Txt.stripBy at h
    split at h
    · rw [← tx_nil] at h
      have := tx_inj h
      rw [this] at hlt
      cases hlt
    · unfold stripped Builtin.Str.strSub at h
      rw [hlo, e0] at h
      injection h with h
      have := congrArg Array.size h
      rw [Array.size_extract, hs] at this
      have e00 : (#[] : Array Nat).size = 0 := rfl
      omega
  · intro h
    have htw := tw_of h
    unfold Txt.stripChars Txt.stripBy
    split
    · rename_i c
      unfold stripSame at c
      rw [Bool.and_eq_true, beq_iff_eq, hlo, htw] at c
      rw [List.eq_nil_of_length_eq_zero c.1]
      exact tx_nil
    · unfold stripped Builtin.Str.strSub
      rw [hlo, e0, htw]
      congr 1
      have hh : stripHi y.cps.contains true (tx M) M.length ≤ M.length := by
        unfold stripHi
        rw [if_pos rfl, tx_len]
        exact Nat.sub_le _ _
      exact Array.eq_empty_of_size_eq_zero (by rw [Array.size_extract, hs]; omega)
theorem dig_in (c : Nat) : ("0123456789" : Str).cps.contains c = dig c := by
  have e : ("0123456789" : Str).cps = #[48, 49, 50, 51, 52, 53, 54, 55, 56, 57] := by decide +kernel
  rw [e]
  unfold dig
  rw [Bool.eq_iff_iff]
  simp
  omega
theorem strip_dig (M : List Nat) : decide (V.str (Txt.stripChars (tx M) "0123456789") = V.str "") = M.all dig := by
  rw [Bool.eq_iff_iff, decide_eq_true_eq, List.all_eq_true]
  have := strip_iff M "0123456789"
  constructor
  · intro h c hc
    rw [← dig_in]
    exact this.mp (by injection h) c hc
  · intro h
    rw [this.mpr fun c hc => by rw [dig_in]; exact h c hc]
theorem dig_of {a : Nat} (h : dig a = true) : ∃ n, n < 10 ∧ a = 48 + n := by
  unfold dig at h
  rw [Bool.and_eq_true, decide_eq_true_eq, decide_eq_true_eq] at h
  exact ⟨a - 48, by omega, by omega⟩
theorem int1 {a : Nat} (h : dig a = true) : PySem.intText? (tx [a]) = some ((a - 48 : Nat) : Int) := by
  obtain ⟨n, hn, rfl⟩ := dig_of h
  have : ((List.range 10).all fun (n : Nat) => decide (PySem.intText? (tx [48 + n]) = some ((48 + n - 48 : Nat) : Int))) = true := by decide +kernel
  exact of_decide_eq_true (List.all_eq_true.mp this n (List.mem_range.mpr hn))
theorem int2 {a b : Nat} (h : dig a = true) (g : dig b = true) : PySem.intText? (tx [a, b]) = some ((10 * (a - 48) + (b - 48) : Nat) : Int) := by
  obtain ⟨n, hn, rfl⟩ := dig_of h
  obtain ⟨m, hm, rfl⟩ := dig_of g
  have : ((List.range 10).all fun (n : Nat) => (List.range 10).all fun (m : Nat) => decide (PySem.intText? (tx [48 + n, 48 + m]) = some ((10 * (48 + n - 48) + (48 + m - 48) : Nat) : Int))) = true := by decide +kernel
  exact of_decide_eq_true (List.all_eq_true.mp (List.all_eq_true.mp this n (List.mem_range.mpr hn)) m (List.mem_range.mpr hm))
noncomputable def cnd (n : Nat) (L : List Nat) : Bool := decide ((L.take n).length = n) && ((L.take n).all dig && decide ((L.drop n).take 1 = [46]))
theorem cnd_1 {L : List Nat} (h : cnd 1 L = true) : ∃ a r, L = a :: 46 :: r ∧ dig a = true := by
  unfold cnd at h
  rw [Bool.and_eq_true, Bool.and_eq_true, decide_eq_true_eq, decide_eq_true_eq] at h
  rcases L with _ | ⟨a, _ | ⟨b, r⟩⟩
  · cases h.1
  · cases h.2.2
  · have e : b = 46 := (List.cons.inj h.2.2).1
    subst e
    have := h.2.1
    exact ⟨a, r, rfl, by simpa using this⟩
theorem cnd_2 {L : List Nat} (h : cnd 2 L = true) : ∃ a b r, L = a :: b :: 46 :: r ∧ dig a = true ∧ dig b = true := by
  unfold cnd at h
  rw [Bool.and_eq_true, Bool.and_eq_true, decide_eq_true_eq, decide_eq_true_eq] at h
  rcases L with _ | ⟨a, _ | ⟨b, _ | ⟨c, r⟩⟩⟩
  · cases h.1
  · cases h.1
  · cases h.2.2
  · have e : c = 46 := (List.cons.inj h.2.2).1
    subst e
    have := h.2.1
    rw [List.all_eq_true] at this
    exact ⟨a, b, r, rfl, this a List.mem_cons_self, this b (List.mem_cons_of_mem _ List.mem_cons_self)⟩
theorem rdN_1 {a : Nat} {r : List Nat} (h : dig a = true) : rdN (a :: 46 :: r) = some (a - 48, r) := by
  have e : rdN (a :: 46 :: r) = if dig a = true then some (a - 48, r) else none := by unfold rdN; rfl
  rw [e, if_pos h]
theorem rdN_2 {a b : Nat} {r : List Nat} (h : dig a = true) (g : dig b = true) (h0 : a ≠ 48) : rdN (a :: b :: 46 :: r) = some (10 * (a - 48) + (b - 48), r) := by
  obtain ⟨n, hn, rfl⟩ := dig_of h
  obtain ⟨m, hm, rfl⟩ := dig_of g
  have := rdN_of (n := 10 * n + m) (by omega) r
  unfold dgs at this
  rw [if_neg (by omega), show (10 * n + m) / 10 = n by omega, show (10 * n + m) % 10 = m by omega] at this
  rw [show 10 * (48 + n - 48) + (48 + m - 48) = 10 * n + m by omega]
  exact this
theorem rdN_48 {b : Nat} {r : List Nat} (g : dig b = true) : rdN (48 :: b :: 46 :: r) = none := by
  cases e : rdN (48 :: b :: 46 :: r) with
  | none => rfl
  | some x =>
    obtain ⟨n, r'⟩ := x
    obtain ⟨hn, h⟩ := rdN_some e
    obtain ⟨m, hm, rfl⟩ := dig_of g
    unfold dgs at h
    split at h
    · have := (List.cons.inj (List.cons.inj h).2).1
      omega
    · have := (List.cons.inj h).1
      omega
theorem rdN_no {L : List Nat} (h1 : cnd 1 L = false) (h2 : cnd 2 L = false) : rdN L = none := by
  cases e : rdN L with
  | none => rfl
  | some x =>
    obtain ⟨n, r⟩ := x
    obtain ⟨hn, rfl⟩ := rdN_some e
    exfalso
    unfold dgs at h1 h2
    by_cases c : n < 10
    · rw [if_pos c] at h1
      have : cnd 1 ([48 + n] ++ 46 :: r) = true := by
        have hd : dig (48 + n) = true := by unfold dig; rw [decide_eq_true (by omega), decide_eq_true (by omega)]; rfl
        unfold cnd
        show (decide ([48 + n].length = 1) && ([48 + n].all dig && decide ([46] = [46]))) = true
        rw [List.all_cons, hd]
        rfl
      rw [this] at h1
      cases h1
    · rw [if_neg c] at h2
      have : cnd 2 ([48 + n / 10, 48 + n % 10] ++ 46 :: r) = true := by
        have hd : dig (48 + n / 10) = true := by unfold dig; rw [decide_eq_true (by omega), decide_eq_true (by omega)]; rfl
        have hd2 : dig (48 + n % 10) = true := by unfold dig; rw [decide_eq_true (by omega), decide_eq_true (by omega)]; rfl
        unfold cnd
        show (decide ([48 + n / 10, 48 + n % 10].length = 2) && ([48 + n / 10, 48 + n % 10].all dig && decide ([46] = [46]))) = true
        rw [List.all_cons, List.all_cons, hd, hd2]
        rfl
      rw [this] at h2
      cases h2
theorem rdN_63 {L : List Nat} (h : L.head? = some 63) : rdN L = none := by
  cases e : rdN L with
  | none => rfl
  | some x =>
    obtain ⟨n, r⟩ := x
    obtain ⟨hn, rfl⟩ := rdN_some e
    unfold dgs at h
    split at h
    · have := Option.some.inj h
      omega
    · have := Option.some.inj h
      omega
noncomputable def AgAt (K : PySem.W.Frag) (H : Hp) (p : Addr) : Prop := H p = some (.tup [.str "again"]) ∨ ∀ H', SqT K H' p [.str "again"]
theorem AgAt.sq {K : PySem.W.Frag} {H : Hp} {p : Addr} (h : AgAt K H p) : SqT K H p [.str "again"] := h.elim SqT.of fun z => z H
noncomputable def PnAt (K : PySem.W.Frag) (H : Hp) : Pn → V → Prop
  | .num n, v => ∃ p, v = .ref p ∧ H p = some (.tup [.str "is", .int (n : Int)])
  | .again, v => ∃ p, v = .ref p ∧ AgAt K H p
  | .ask l r, v => ∃ p y z, v = .ref p ∧ H p = some (.tup [.str "ask", y, z]) ∧ PnAt K H l y ∧ PnAt K H r z
theorem PnAt.keep {K : PySem.W.Frag} {H H' : Hp} (k : ∀ c xs, H c = some (.tup xs) → H' c = some (.tup xs)) : ∀ {p : Pn} {v : V}, PnAt K H p v → PnAt K H' p v
  | .num _, _, ⟨p, e, h⟩ => ⟨p, e, k _ _ h⟩
  | .again, _, ⟨p, e, h⟩ => ⟨p, e, h.imp (k _ _) id⟩
  | .ask _ _, _, ⟨p, y, z, e, h, h1, h2⟩ => ⟨p, y, z, e, k _ _ h, h1.keep k, h2.keep k⟩
theorem PnAt.same {K : PySem.W.Frag} {H H' : Hp} {p : Pn} {v : V} (h : PnAt K H p v) (s : Same H H') : PnAt K H' p v := h.keep fun _ _ e => s _ _ e
theorem PnAt.town {K : PySem.W.Frag} {H H' : Hp} {t : Addr} {k : Nat} {p : Pn} {v : V} (h : PnAt K H p v) (tw : Twn H t k) (g : Grow t H H') : PnAt K H' p v := h.keep fun _ _ e => g _ _ (twn_tup tw e) e
theorem tup_step {xs : List V} {H : Hp} {Q : VK} (hz : xs.length ≤ 1000) (q : ∀ p H', Same H H' → H' p = some (.tup xs) → Q (.ref p) H') : xs.length ≤ sizeLine ∧ ∀ p, H p = none → Q (.ref p) (upd H p (.tup xs)) :=
  ⟨Nat.le_trans hz (by decide), fun p fp => q p _ (same_new fp _) upd_same⟩
theorem agH {H : Hp} {p : Addr} (h : AgAt [] H p) : H p = some (.tup [.str "again"]) := by
  rcases h with h | h
  · exact h
  · rcases h (fun _ => none) with (z | ⟨_, z⟩) | ⟨o, its, n, z, _⟩
    · cases z
    · cases z
    · cases z
theorem PnAt.lift {K : PySem.W.Frag} {H : Hp} : ∀ {p : Pn} {v : V}, PnAt [] H p v → PnAt K H p v
  | .num _, _, ⟨p, e, h⟩ => ⟨p, e, h⟩
  | .again, _, ⟨p, e, h⟩ => ⟨p, e, .inl (agH h)⟩
  | .ask _ _, _, ⟨p, y, z, e, h, h1, h2⟩ => ⟨p, y, z, e, h, h1.lift, h2.lift⟩
theorem plan_eqv {K : PySem.W.Frag} {H : Hp} : ∀ {pl : Pn} {x y : V} {n : Nat}, PnAt K H pl x → PnAt [] H pl y → pl.dp + 2 ≤ n → EqvS K H n x y
  | .num m, _, _, n + 2, ⟨p, e, h⟩, ⟨p', e', h'⟩, _ => .inr ⟨p, p', _, _, e, e', .inl h, h', (by show 2 ≤ 1000000; decide), .cons (.inl ⟨rfl, rfl⟩) (.cons (.inl ⟨rfl, rfl⟩) .nil)⟩
  | .again, _, _, n + 2, ⟨p, e, h⟩, ⟨p', e', h'⟩, _ => .inr ⟨p, p', _, _, e, e', h, agH h', (by show 1 ≤ 1000000; decide), .cons (.inl ⟨rfl, rfl⟩) .nil⟩
  | .ask l r, _, _, n + 2, ⟨p, y, z, e, h, h1, h2⟩, ⟨p', y', z', e', h', h1', h2'⟩, hn => by
    have hn' : max l.dp r.dp + 1 + 2 ≤ n + 2 := hn
    exact .inr ⟨p, p', _, _, e, e', .inl h, h', (by show 3 ≤ 1000000; decide), .cons (.inl ⟨rfl, rfl⟩) (.cons (plan_eqv h1 h1' (by omega)) (.cons (plan_eqv h2 h2' (by omega)) .nil))⟩
  | _, _, _, 0, _, _, hn => by omega
  | _, _, _, 1, _, _, hn => by omega
noncomputable def spWr (K : PySem.W.Frag) (n : Nat) : Sp := fun vs H Q _ => ∃ (v : V) (p : Pn), vs = [v] ∧ PnAt K H p v ∧ p.low ∧ p.dp ≤ n ∧ n ≤ 14 ∧ Q (.str (tx (wr p))) H
noncomputable def spRN (K : PySem.W.Frag) (CT : Addr) : Sp := fun vs H Q E => ∃ (L : List Nat) (b : Nat), vs = [.str (tx L), .int (b : Int)] ∧ b ≤ L.length ∧ L.length ≤ 1000000 ∧
  (∀ n M H' p y, rdN (L.drop b) = some (n, M) → Same H H' → H' p = some (.tup [y, .int ((L.length - M.length : Nat) : Int)]) → PnAt K H' (.num n) y → Q (.ref p) H') ∧ (∀ H', rdN (L.drop b) = none → Same H H' → E (.ref CT) none H')
noncomputable def spRP (K : PySem.W.Frag) (CT : Addr) (m : Nat) : Sp := fun vs H Q E => ∃ (L : List Nat) (b : Nat), vs = [.str (tx L), .int (b : Int), .int (m : Int)] ∧ b ≤ L.length ∧ L.length ≤ 1000000 ∧ m ≤ 12 ∧
  (∀ pl M H' p y, rd m (L.drop b) = some (pl, M) → Same H H' → H' p = some (.tup [y, .int ((L.length - M.length : Nat) : Int)]) → PnAt K H' pl y → Q (.ref p) H') ∧ (∀ H', rd m (L.drop b) = none → Same H H' → E (.ref CT) none H')
noncomputable def full (L : List Nat) : Option Pn := match rd 12 L with
  | some (p, []) => some p
  | _ => none
noncomputable def spRead (K : PySem.W.Frag) (CT : Addr) : Sp := fun vs H Q E => ∃ (L : List Nat), vs = [.str (tx L)] ∧ L.length ≤ 1000000 ∧
  (∀ pl H' y, full L = some pl → Same H H' → PnAt K H' pl y → Q y H') ∧ (∀ H', full L = none → Same H H' → E (.ref CT) none H')
noncomputable def spTold38 (K : PySem.W.Frag) : Sp := fun vs H Q _ => ∃ (L : List Nat), vs = [.str (tx L)] ∧ L.length ≤ 1000000 ∧
  (∀ pl H' y, full L = some pl → Same H H' → PnAt K H' pl y → Q y H') ∧ (∀ H', full L = none → Same H H' → Q (.str "refused") H')
section
variable {P : Program} {w : World} {K : PySem.W.Frag} {mg : Str → Option Value} {base : Heap} {f CT : Addr} {fd : FuncData} {mT : List Value}
theorem ok_written {lv n : Nat} {spG : Sp} (F_written : Fun K "written" "written" s_written f fd) (B : Bl mg) (g_written : Fn P w K mg base "written" p_written lv spG) (hg : ∀ m vs H Q E, n = m + 1 → spWr K m vs H Q E → spG vs H Q E) : FnOk P w K mg base CX0 (lv + 1) f fd p_written (spWr K n) := by
  refine F_written.ok sc_written (fun vs H Q E h => ?_) (fun cdv A outer s H vs Q E hr h => ?_)
  · obtain ⟨v, p, rfl, _⟩ := h
    rfl
  obtain ⟨v, p, rfl, hP, hlow, hd, hn, q⟩ := h
  refine ⟨_, (pss_cons (ps_if (pt_cmpR op_eq (pe_ix ix_tup (pv 0) pe_int (fun _ _ => rfl)) pe_str (nomark _)) (pss_one (ps_ret (pe_op op_add_str (pe_callTy call_str_int rfl B.str_ L3.bt_str (pa_cons (pe_ix ix_tup (pv 0) pe_int (fun _ _ => rfl)) pa_nil)) pe_str))) pss_nil)
      (pss_cons (ps_if (pt_cmpR op_eq (pe_ix ix_tup (pv 0) pe_int (fun _ _ => rfl)) pe_str (nomark _)) (pss_one (ps_ret pe_str)) pss_nil)
      (pss_one (ps_ret (pe_op op_add_str (pe_op op_add_str pe_str (pe_fn g_written hr (pa_cons (pe_ix ix_tup (pv 0) pe_int (fun _ _ => rfl)) pa_nil))) (pe_fn g_written hr (pa_cons (pe_ix ix_tup (pv 0) pe_int (fun _ _ => rfl)) pa_nil))))))), ?_⟩
  have ln : ∀ {x y : List Nat}, x.length ≤ 200000 → y.length ≤ 200000 → (tx x).length + (tx y).length ≤ sizeLine := fun h1 h2 => by
    rw [tx_len, tx_len]
    exact Nat.le_trans (Nat.add_le_add h1 h2) (by decide)
  cases p with
  | num m =>
    obtain ⟨p, rfl, hp⟩ := id hP
    refine ⟨_, rfl, p, _, _, _, rfl, rfl, SqT.of hp, rfl, rfl, _, rfl, ite2 (fun _ => ?_) (fun c => absurd (by decide +kernel) c)⟩
    refine ⟨_, rfl, p, _, _, _, rfl, rfl, SqT.of hp, rfl, _, rfl, low_log hlow, _, _, rfl, rfl, ?_, ?_⟩
    · rw [dgs_str m hlow, tx_dot]
      exact ln (Nat.le_trans (dgs_len m) (by decide)) (by decide)
    · rw [dgs_str m hlow, tx_dot, tx_app]
      exact q
  | again =>
    obtain ⟨p, rfl, hp⟩ := id hP
    refine ⟨_, rfl, p, _, _, _, rfl, rfl, hp.sq, rfl, rfl, _, rfl, ite2 (fun c => absurd c (by decide +kernel)) (fun _ => ?_)⟩
    refine ⟨_, rfl, p, _, _, _, rfl, rfl, hp.sq, rfl, rfl, _, rfl, ite2 (fun _ => ?_) (fun c => absurd (by decide +kernel) c)⟩
    show Q (.str "*") H
    rw [tx_star]
    exact q
  | ask l r =>
    obtain ⟨p, y, z, rfl, hp, hy, hz⟩ := id hP
    have hd' : max l.dp r.dp + 1 ≤ n := hd
    obtain ⟨m, rfl⟩ : ∃ m, n = m + 1 := ⟨n - 1, by omega⟩
    have w1 := wlen (p := l) (by omega)
    have w2 := wlen (p := r) (by omega)
    refine ⟨_, rfl, p, _, _, _, rfl, rfl, SqT.of hp, rfl, rfl, _, rfl, ite2 (fun c => absurd c (by decide +kernel)) (fun _ => ?_)⟩
    refine ⟨_, rfl, p, _, _, _, rfl, rfl, SqT.of hp, rfl, rfl, _, rfl, ite2 (fun c => absurd c (by decide +kernel)) (fun _ => ?_)⟩
    refine ⟨_, rfl, p, _, _, _, rfl, rfl, SqT.of hp, rfl, hg m _ _ _ _ rfl ⟨y, l, rfl, hy, hlow.1, by omega, by omega, _, _, rfl, rfl, ?_, ?_⟩⟩
    · rw [tx_quest]
      exact ln (by decide) (by omega)
    rw [tx_quest, tx_app]
    refine ⟨_, rfl, p, _, _, _, rfl, rfl, SqT.of hp, rfl, hg m _ _ _ _ rfl ⟨z, r, rfl, hz, hlow.2, by omega, by omega, _, _, rfl, rfl, ?_, ?_⟩⟩
    · exact ln (by rw [List.length_append]; show 1 + _ ≤ _; omega) (by omega)
    rw [tx_app]
    exact q
theorem ok__law_say {lv n : Nat} {spG : Sp} (F__law_say : Fun K "_law_say" "_law_say" s__law_say f fd) (B : Bl mg) (g__law_say : Fn P w K mg base "_law_say" p__law_say lv spG) (hg : ∀ m vs H Q E, n = m + 1 → spWr K m vs H Q E → spG vs H Q E) : FnOk P w K mg base CX0 (lv + 1) f fd p__law_say (spWr K n) := by
  refine F__law_say.ok sc__law_say (fun vs H Q E h => ?_) (fun cdv A outer s H vs Q E hr h => ?_)
  · obtain ⟨v, p, rfl, _⟩ := h
    rfl
  obtain ⟨v, p, rfl, hP, hlow, hd, hn, q⟩ := h
  refine ⟨_, (pss_cons (ps_if (pt_cmpR op_eq (pe_ix ix_tup (pv 0) pe_int (fun _ _ => rfl)) pe_str (nomark _)) (pss_one (ps_ret (pe_op op_add_str (pe_callTy call_str_int rfl B.str_ L3.bt_str (pa_cons (pe_ix ix_tup (pv 0) pe_int (fun _ _ => rfl)) pa_nil)) pe_str))) pss_nil)
      (pss_one (ps_ret (pe_ifExp (pt_cmpR op_eq (pe_ix ix_tup (pv 0) pe_int (fun _ _ => rfl)) pe_str (nomark _)) pe_str (pe_op op_add_str (pe_op op_add_str pe_str (pe_fn g__law_say hr (pa_cons (pe_ix ix_tup (pv 0) pe_int (fun _ _ => rfl)) pa_nil))) (pe_fn g__law_say hr (pa_cons (pe_ix ix_tup (pv 0) pe_int (fun _ _ => rfl)) pa_nil))))))), ?_⟩
  have ln : ∀ {x y : List Nat}, x.length ≤ 200000 → y.length ≤ 200000 → (tx x).length + (tx y).length ≤ sizeLine := fun h1 h2 => by
    rw [tx_len, tx_len]
    exact Nat.le_trans (Nat.add_le_add h1 h2) (by decide)
  cases p with
  | num m =>
    obtain ⟨p, rfl, hp⟩ := id hP
    refine ⟨_, rfl, p, _, _, _, rfl, rfl, SqT.of hp, rfl, rfl, _, rfl, ite2 (fun _ => ?_) (fun c => absurd (by decide +kernel) c)⟩
    refine ⟨_, rfl, p, _, _, _, rfl, rfl, SqT.of hp, rfl, _, rfl, low_log hlow, _, _, rfl, rfl, ?_, ?_⟩
    · rw [dgs_str m hlow, tx_dot]
      exact ln (Nat.le_trans (dgs_len m) (by decide)) (by decide)
    · rw [dgs_str m hlow, tx_dot, tx_app]
      exact q
  | again =>
    obtain ⟨p, rfl, hp⟩ := id hP
    refine ⟨_, rfl, p, _, _, _, rfl, rfl, hp.sq, rfl, rfl, _, rfl, ite2 (fun c => absurd c (by decide +kernel)) (fun _ => ?_)⟩
    refine ⟨_, rfl, p, _, _, _, rfl, rfl, hp.sq, rfl, rfl, _, rfl, ite2 (fun _ => ?_) (fun c => absurd (by decide +kernel) c)⟩
    show Q (.str "*") H
    rw [tx_star]
    exact q
  | ask l r =>
    obtain ⟨p, y, z, rfl, hp, hy, hz⟩ := id hP
    have hd' : max l.dp r.dp + 1 ≤ n := hd
    obtain ⟨m, rfl⟩ : ∃ m, n = m + 1 := ⟨n - 1, by omega⟩
    have w1 := wlen (p := l) (by omega)
    have w2 := wlen (p := r) (by omega)
    refine ⟨_, rfl, p, _, _, _, rfl, rfl, SqT.of hp, rfl, rfl, _, rfl, ite2 (fun c => absurd c (by decide +kernel)) (fun _ => ?_)⟩
    refine ⟨_, rfl, p, _, _, _, rfl, rfl, SqT.of hp, rfl, rfl, _, rfl, ite2 (fun c => absurd c (by decide +kernel)) (fun _ => ?_)⟩
    refine ⟨_, rfl, p, _, _, _, rfl, rfl, SqT.of hp, rfl, hg m _ _ _ _ rfl ⟨y, l, rfl, hy, hlow.1, by omega, by omega, _, _, rfl, rfl, ?_, ?_⟩⟩
    · rw [tx_quest]
      exact ln (by decide) (by omega)
    rw [tx_quest, tx_app]
    refine ⟨_, rfl, p, _, _, _, rfl, rfl, SqT.of hp, rfl, hg m _ _ _ _ rfl ⟨z, r, rfl, hz, hlow.2, by omega, by omega, _, _, rfl, rfl, ?_, ?_⟩⟩
    · exact ln (by rw [List.length_append]; show 1 + _ ≤ _; omega) (by omega)
    rw [tx_app]
    exact q
theorem ok_read_number (F_read_number : Fun K "read_number" "read_number" s_read_number f fd) (B : Bl mg) (C' : Cn K mg) (X_NoText : Exc K mg "NoText" CT mT) (g_written : Fn P w K mg base "written" p_written 1 (spWr K 0)) : FnOk P w K mg base (CXR P w) 2 f fd p_read_number (spRN K CT) := by
  refine F_read_number.okX sc_read_number (fun vs H Q E h => ?_) (fun cdv A outer s H vs Q E hr h => ?_)
  · obtain ⟨L, b, rfl, _⟩ := h
    rfl
  obtain ⟨L, b, rfl, hb, hL, q, e⟩ := h
  obtain ⟨_, C_GREATEST_NUMBER⟩ := C'.GREATEST_NUMBER
  refine ⟨_, (pss_cons (ps_set (i := 2) sc_read_number.nd rfl (Or.inl rfl) (pe_slice sl_str (pv 0) (po_some (pv 1)) (po_some (pe_op op_add (pe_bm PySem.F.plainAttrs_str PySem.F.slot_str_find PySem.F.type_str_find mt_find3 (pv 0) (pa_cons pe_str (pa_cons (pv 1) pa_nil))) pe_int))))
      (pss_cons (ps_for (PassesOwn.leaving (M := model P w)) rfl (pi_range1 rfl B.range_ (pa_cons (pe_op op_add (pe_glob (v := .int 99) rfl C_GREATEST_NUMBER ⟨_, rfl⟩) pe_int) pa_nil)) (pg_name (i := 3) sc_read_number.nd rfl (Or.inl rfl)) (pss_one (ps_if (pt_cmpR op_eq (pv 2) (pe_fn g_written hr (pa_cons (pe_tup (pa_cons pe_str (pa_cons (pv 3) pa_nil))) pa_nil)) (nomark _)) (pss_one (ps_ret (pe_tup (pa_cons (pe_tup (pa_cons pe_str (pa_cons (pv 3) pa_nil))) (pa_cons (pe_op op_add (pv 1) (pe_callB call_len_str rfl B.len_ L3.bt_len (pa_cons (pv 2) pa_nil))) pa_nil))))) pss_nil)))
      (pss_one (ps_raise X_NoText (pa_cons pe_str pa_nil))))), ?_⟩
  have hz := txz hL
  refine ⟨_, rfl, _, rfl, _, rfl, _, rfl, rfl, _, rfl, _, _, _, rfl, rfl, _, _, rfl, rfl, _, rfl, _, rfl, hz, ?_⟩
  rw [find_pt L b hb]
  have hpl : (pt (L.drop b)).length ≤ (L.drop b).length := by
    unfold pt
    split
    · rename_i h
      have := congrArg List.length (tw_split h)
      rw [List.length_append, List.length_cons] at this
      rw [List.length_append]
      show _ + 1 ≤ _
      omega
    · exact Nat.zero_le _
  rw [List.length_drop] at hpl
  have q1 : ∀ j, j < 100 → pt (L.drop b) = dgs j ++ [46] → rdN (L.drop b) = some (j, (L.drop b).drop (pt (L.drop b)).length) := fun j hj h => by
    have := rdN_of hj ((L.drop b).drop (pt (L.drop b)).length)
    rw [← pt_is hj h] at this
    exact this
  have q2 : (∀ j, j < 100 → pt (L.drop b) ≠ dgs j ++ [46]) → rdN (L.drop b) = none := fun h => by
    rcases rdN_pt (L.drop b) with ⟨n, hn, e1, _⟩ | ⟨_, e1⟩
    · exact absurd e1 (h n hn)
    · exact e1
  have q3 : (L.drop b).drop (pt (L.drop b)).length = L.drop (b + (pt (L.drop b)).length) := List.drop_drop
  rw [q3] at q1
  generalize pt (L.drop b) = T at hpl q1 q2
  refine ⟨_, _, rfl, rfl, 100, rfl, by decide, by decide, for_range (lo := 0) (n := 100) (fun j σ' H' => ∃ (o3 : Option V), σ' = [some (.str (tx L)), some (.int (b : Int)), some (.str (tx T)), o3] ∧ Same H H' ∧ ∀ n, n < j → T ≠ dgs n ++ [46]) ⟨_, rfl, Same.refl _, fun n hn => absurd hn (Nat.not_lt_zero n)⟩ ?_ ?_⟩
  · rintro j σ' H1 hj ⟨o3, rfl, s1, hn⟩
    refine ⟨_, rfl, _, rfl, (by show 2 ≤ sizeLine; decide), fun p1 f1 => ⟨.ref p1, .num j, rfl, ⟨p1, rfl, by rw [upd_same, Int.zero_add]⟩, hj, Nat.zero_le _, by decide, rfl, _, rfl, ?_⟩⟩
    have s2 := s1.trans (same_new f1 (.tup [V.str "is", V.int (0 + (j : Int))]))
    generalize upd H1 p1 (.tup [V.str "is", V.int (0 + (j : Int))]) = H2 at s2 ⊢
    rw [tx_eq]
    refine ite2 (fun c => ?_) (fun c => ?_)
    · have c' : T = dgs j ++ [46] := of_decide_eq_true c
      have hrd := q1 j hj c'
      refine ⟨_, rfl, (by show 2 ≤ sizeLine; decide), fun p2 f2 => ?_⟩
      have y2 := same_new f2 (.tup [V.str "is", V.int (0 + (j : Int))])
      have w2 : (upd H2 p2 (.tup [V.str "is", V.int (0 + (j : Int))])) p2 = some (.tup [V.str "is", V.int (j : Int)]) := by rw [upd_same, Int.zero_add]
      generalize upd H2 p2 (.tup [V.str "is", V.int (0 + (j : Int))]) = H3 at y2 w2 ⊢
      refine ⟨_, rfl, _, rfl, _, rfl, txz (by omega), _, _, rfl, rfl, (by show 2 ≤ sizeLine; decide), fun p3 f3 => ?_⟩
      have y3 := same_new f3 (.tup [V.ref p2, V.int ((b : Int) + ((tx T).length : Int))])
      refine q j _ _ p3 (.ref p2) hrd (s2.trans (y2.trans y3)) ?_ ⟨p2, rfl, y3 _ _ w2⟩
      rw [upd_same, tx_len, List.length_drop, show (((L.length - (L.length - (b + T.length)) : Nat)) : Int) = (b : Int) + (T.length : Int) by omega]
    · have c' : T ≠ dgs j ++ [46] := of_decide_eq_false (Bool.eq_false_iff.mpr c)
      refine ⟨_, rfl, s2, fun n hn2 => ?_⟩
      rcases Nat.lt_or_ge n j with h | h
      · exact hn n h
      · rw [show n = j by omega]
        exact c'
  · rintro σ' H1 ⟨o3, rfl, s1, hn⟩
    exact ⟨(by show 1 ≤ sizeLine; decide), e H1 (q2 hn) s1⟩
theorem ok_read_part {lv m : Nat} {spG : Sp} {fN fR : Addr} {dN dR : FuncData} (F_read_part : Fun K "read_part" "read_part" s_read_part f fd) (C' : Cn K mg) (X_NoText : Exc K mg "NoText" CT mT) (g_read_number : FnX P w K mg base "read_number" fN dN p_read_number lv (spRN K CT)) (g_read_part : FnX P w K mg base "read_part" fR dR p_read_part lv spG) (hg : ∀ k vs H Q E, m = k + 1 → spRP K CT k vs H Q E → spG vs H Q E) : FnOk P w K mg base (CXR P w) (lv + 1) f fd p_read_part (spRP K CT m) := by
  refine F_read_part.okX sc_read_part (fun vs H Q E h => ?_) (fun cdv A outer s H vs Q E hr h => ?_)
  · obtain ⟨L, b, rfl, _⟩ := h
    rfl
  obtain ⟨L, b, rfl, hb, hL, hm, q, e⟩ := h
  obtain ⟨A_AGAIN, C_AGAIN, hAg⟩ := C'.AGAIN
  refine ⟨_, (pss_cons (ps_set (i := 3) sc_read_part.nd rfl (Or.inl rfl) (pe_slice sl_str (pv 0) (po_some (pv 1)) (po_some (pe_op op_add (pv 1) pe_int))))
      (pss_cons (ps_if (pt_cmpR op_eq (pv 3) pe_str (nomark _)) (pss_one (ps_ret (pe_tup (pa_cons (pe_glob (v := .ref A_AGAIN) rfl C_AGAIN rfl) (pa_cons (pe_op op_add (pv 1) pe_int) pa_nil))))) pss_nil)
      (pss_cons (ps_if (pt_cmpR op_ne (pv 3) pe_str (nomark _)) (pss_one (ps_ret (pe_fnX g_read_number hr (pa_cons (pv 0) (pa_cons (pv 1) pa_nil))))) pss_nil)
      (pss_cons (ps_if (pt_cmpR op_eq (pv 2) pe_int (nomark _)) (pss_one (ps_raise X_NoText (pa_cons pe_str pa_nil))) pss_nil)
      (pss_cons (ps_set (i := 4) sc_read_part.nd rfl (Or.inl rfl) (pe_fnX g_read_part hr (pa_cons (pv 0) (pa_cons (pe_op op_add (pv 1) pe_int) (pa_cons (pe_op op_sub (pv 2) pe_int) pa_nil)))))
      (pss_cons (ps_set (i := 5) sc_read_part.nd rfl (Or.inl rfl) (pe_fnX g_read_part hr (pa_cons (pv 0) (pa_cons (pe_ix ix_tup (pv 4) pe_int (fun _ _ => rfl)) (pa_cons (pe_op op_sub (pv 2) pe_int) pa_nil)))))
      (pss_one (ps_ret (pe_tup (pa_cons (pe_tup (pa_cons pe_str (pa_cons (pe_ix ix_tup (pv 4) pe_int (fun _ _ => rfl)) (pa_cons (pe_ix ix_tup (pv 5) pe_int (fun _ _ => rfl)) pa_nil)))) (pa_cons (pe_ix ix_tup (pv 5) pe_int (fun _ _ => rfl)) pa_nil))))))))))), ?_⟩
  have hz := txz hL
  refine ⟨_, rfl, _, rfl, _, rfl, _, rfl, _, _, rfl, rfl, _, rfl, _, rfl, hz, ?_⟩
  have es : Txt.slice (tx L) (some (b : Int)) (some ((b : Int) + 1)) = tx ((L.drop b).take 1) := by
    rw [show (b : Int) + 1 = ((b + 1 : Nat) : Int) by omega]
    exact tx_mid L b 1
  rw [es]
  have hLM : (L.drop b).length = L.length - b := List.length_drop
  have htl : (L.drop b).tail = L.drop (b + 1) := List.tail_drop
  refine ⟨_, rfl, rfl, _, rfl, ?_⟩
  rw [tx_star, tx_eq, take1]
  by_cases h42 : (L.drop b).head? = some 42
  · rw [decide_eq_true h42]
    have h1 : 0 < (L.drop b).length := by
      cases e0 : L.drop b with
      | nil => rw [e0] at h42; cases h42
      | cons a M => exact Nat.succ_pos _
    refine iteT ⟨_, rfl, _, _, rfl, rfl, (by show 2 ≤ sizeLine; decide), fun p f => ?_⟩
    refine q .again _ _ p (.ref A_AGAIN) (rd_42 m h42) (same_new f _) ?_ ⟨A_AGAIN, rfl, .inr hAg⟩
    rw [upd_same, htl, List.length_drop, show (((L.length - (L.length - (b + 1)) : Nat)) : Int) = (b : Int) + 1 by omega]
  rw [decide_eq_false h42]
  refine iteF ⟨_, rfl, rfl, _, rfl, ?_⟩
  rw [tx_quest, tx_eq, take1]
  by_cases h63 : (L.drop b).head? = some 63
  rotate_left
  · rw [decide_eq_false h63]
    refine iteT ⟨_, rfl, _, rfl, L, b, rfl, hb, hL, fun n M1 H' p y h1 s1 hp hy => q (.num n) M1 H' p y ?_ s1 hp hy, fun H' h1 s1 => e H' ?_ s1⟩
    · rw [rd_num m h42 h63, h1]
      rfl
    · rw [rd_num m h42 h63, h1]
      rfl
  rw [decide_eq_true h63]
  have h1 : 0 < (L.drop b).length := by
    cases e0 : L.drop b with
    | nil => rw [e0] at h63; cases h63
    | cons a M => exact Nat.succ_pos _
  refine iteF ⟨_, rfl, rfl, _, rfl, ?_⟩
  cases m with
  | zero => exact iteT ⟨(by show 1 ≤ sizeLine; decide), e H (rd_0 h42 h63) (Same.refl _)⟩
  | succ k =>
  rw [show decide (V.int ((k + 1 : Nat) : Int) = V.int 0) = false from decide_eq_false (fun z => by injection z with z; omega)]
  have em : (((k + 1 : Nat) : Int)) - 1 = (k : Int) := by omega
  have eb : ((b + 1 : Nat) : Int) = (b : Int) + 1 := by omega
  refine iteF ⟨_, rfl, _, rfl, _, _, rfl, rfl, _, rfl, _, _, rfl, rfl, hg k _ _ _ _ rfl ⟨L, b + 1, by rw [eb, ← em]; rfl, by omega, hL, by omega, fun pl1 M1 H1 p1 y1 r1 s1 hp1 hy1 => ?_, fun H1 r1 s1 => e H1 (rd_s0 h42 h63 (by rw [htl]; exact r1)) s1⟩⟩
  obtain ⟨k1, a1, a2, rfl⟩ := rd_suffix k r1
  rw [List.drop_drop] at r1 hp1
  rw [List.length_drop] at a2
  have eM : L.length - (L.drop (b + 1 + k1)).length = b + 1 + k1 := by rw [List.length_drop]; omega
  rw [eM] at hp1
  rw [← htl] at r1
  refine ⟨_, rfl, _, rfl, p1, _, _, _, rfl, rfl, SqT.of hp1, rfl, _, rfl, _, _, rfl, rfl, hg k _ _ _ _ rfl ⟨L, b + 1 + k1, by rw [← em]; rfl, by omega, hL, by omega, fun pl2 M2 H2 p2 y2 r2 s2 hp2 hy2 => ?_, fun H2 r2 s2 => e H2 (rd_s1 h42 h63 r1 r2) (s1.trans s2)⟩⟩
  refine ⟨_, rfl, p1, _, _, _, rfl, rfl, SqT.of (s2 _ _ hp1), rfl, _, rfl, p2, _, _, _, rfl, rfl, SqT.of hp2, rfl, (by show 3 ≤ sizeLine; decide), fun p3 f3 => ?_⟩
  have y3 := same_new f3 (.tup [V.str "ask", y1, y2])
  have w3 : (upd H2 p3 (.tup [V.str "ask", y1, y2])) p3 = some (.tup [V.str "ask", y1, y2]) := upd_same
  generalize upd H2 p3 (.tup [V.str "ask", y1, y2]) = H3 at y3 w3 ⊢
  refine ⟨_, rfl, p2, _, _, _, rfl, rfl, SqT.of (y3 _ _ hp2), rfl, (by show 2 ≤ sizeLine; decide), fun p4 f4 => ?_⟩
  have y4 := same_new f4 (.tup [V.ref p3, V.int ((L.length - M2.length : Nat) : Int)])
  exact q (.ask pl1 pl2) M2 _ p4 (.ref p3) (rd_s2 h42 h63 r1 r2) (s1.trans (s2.trans (y3.trans y4))) upd_same ⟨p3, y1, y2, rfl, y4 _ _ w3, hy1.same (s2.trans (y3.trans y4)), hy2.same (y3.trans y4)⟩
theorem ok_read (F_read : Fun K "read" "read" s_read f fd) (B : Bl mg) (C' : Cn K mg) (X_NoText : Exc K mg "NoText" CT mT) {fR : Addr} {dR : FuncData} (g_read_part : FnX P w K mg base "read_part" fR dR p_read_part 15 (spRP K CT 12)) : FnOk P w K mg base (CXR P w) 16 f fd p_read (spRead K CT) := by
  refine F_read.okX sc_read (fun vs H Q E h => ?_) (fun cdv A outer s H vs Q E hr h => ?_)
  · obtain ⟨L, rfl, _⟩ := h
    rfl
  obtain ⟨L, rfl, hL, q, e⟩ := h
  obtain ⟨_, C_MOST_ASKS⟩ := C'.MOST_ASKS
  refine ⟨_, (pss_cons (ps_set (i := 1) sc_read.nd rfl (Or.inl rfl) (pe_fnX g_read_part hr (pa_cons (pv 0) (pa_cons pe_int (pa_cons (pe_glob (v := .int 12) rfl C_MOST_ASKS ⟨_, rfl⟩) pa_nil)))))
      (pss_cons (ps_if (pt_cmpR op_lt (pe_ix ix_tup (pv 1) pe_int (fun _ _ => rfl)) (pe_callB call_len_str rfl B.len_ L3.bt_len (pa_cons (pv 0) pa_nil)) (nomark _)) (pss_one (ps_raise X_NoText (pa_cons pe_str pa_nil))) pss_nil)
      (pss_one (ps_ret (pe_ix ix_tup (pv 1) pe_int (fun _ _ => rfl)))))), ?_⟩
  have hz := txz hL
  refine ⟨_, rfl, L, 0, rfl, Nat.zero_le _, hL, by decide, fun pl M H1 p y h1 s1 hp hy => ?_, fun H1 h1 s1 => e H1 ?_ s1⟩
  rotate_left
  · unfold full
    rw [List.drop_zero] at h1
    rw [h1]
  rw [List.drop_zero] at h1
  obtain ⟨k, k1, k2, rfl⟩ := rd_suffix 12 h1
  refine ⟨_, rfl, p, _, _, _, rfl, rfl, SqT.of hp, rfl, _, rfl, _, rfl, hz, _, _, rfl, rfl, _, rfl, ite2 (fun c => ?_) (fun c => ?_)⟩
  · have c' := of_decide_eq_true c
    rw [tx_len, List.length_drop] at c'
    refine ⟨(by show 1 ≤ sizeLine; decide), e H1 ?_ s1⟩
    unfold full
    rw [h1]
    cases e0 : L.drop k with
    | nil =>
      have := congrArg List.length e0
      rw [List.length_drop, List.length_nil] at this
      omega
    | cons a M => rfl
  · have c' := of_decide_eq_false (Bool.eq_false_iff.mpr c)
    rw [tx_len, List.length_drop] at c'
    have e0 : L.drop k = [] := List.eq_nil_of_length_eq_zero (by rw [List.length_drop]; omega)
    refine ⟨_, rfl, p, _, _, _, rfl, rfl, SqT.of hp, rfl, q pl H1 y ?_ s1 hy⟩
    unfold full
    rw [h1, e0]
theorem ok__law_told (F__law_told : Fun K "_law_told" "_law_told" s__law_told f fd) (X_NoText : Exc K mg "NoText" CT mT) (hTT : mT.contains (.ref CT) = true) {fR : Addr} {dR : FuncData} (g_read : FnX P w K mg base "read" fR dR p_read 16 (spRead K CT)) : FnOk P w K mg base CX0 17 f fd p__law_told (spTold38 K) := by
  refine F__law_told.ok sc__law_told (fun vs H Q E h => ?_) (fun cdv A outer s H vs Q E hr h => ?_)
  · obtain ⟨L, rfl, _⟩ := h
    rfl
  obtain ⟨L, rfl, hL, q, e⟩ := h
  refine ⟨_, (pss_cons (ps_set (i := 1) sc__law_told.nd rfl (Or.inl rfl) pe_non)
      (pss_cons (ps_try (psx_set (i := 1) sc__law_told.nd rfl rfl (px_fn g_read hr (pa_cons (pv 0) pa_nil))) (Hs.cons X_NoText rfl (by decide) (fun y ps ok hd => (pss_one (ps_set (i := 1) sc__law_told.nd rfl (Or.inl rfl) pe_str))) .nil) rfl rfl (fun _ => PassesOwnAt.never))
      (pss_one (ps_ret (pv 1))))), ?_⟩
  refine ⟨_, rfl, L, rfl, hL, fun pl H' y h1 s1 hy => ⟨_, rfl, q pl H' y h1 s1 hy⟩, fun H' h1 s1 => ?_⟩
  exact ⟨"NoText", CT, mT, _, rfl, X_NoText, if_pos hTT, ⟨_, rfl, e H' h1 s1⟩⟩
end
noncomputable def spLR (m : Nat) : Sp := fun vs H Q _ => ∃ (L : List Nat), vs = [.str (tx L), .int (m : Int)] ∧ L.length ≤ 1000000 ∧ m ≤ 12 ∧ (∀ c ∈ L, c < 128) ∧
  (∀ pl M H' p y, rd m L = some (pl, M) → Same H H' → H' p = some (.tup [y, .str (tx M)]) → PnAt [] H' pl y → Q (.ref p) H') ∧ (∀ (M : List Nat) H' p, rd m L = none → M.length ≤ 1000000 → Same H H' → H' p = some (.tup [.non, .str (tx M)]) → Q (.ref p) H')
noncomputable def spDue38 : Sp := fun vs H Q _ => ∃ (L : List Nat), vs = [.str (tx L)] ∧ L.length ≤ 1000000 ∧ (∀ c ∈ L, c < 128) ∧
  (∀ pl H' y, full L = some pl → Same H H' → PnAt [] H' pl y → Q y H') ∧ (∀ H', full L = none → Same H H' → Q .non H')
noncomputable def spOr : Sp := fun vs H Q _ => ∃ (v : V), vs = [v] ∧ ((v = .non ∧ Q (.str "refused") H) ∨ (∃ p, v = .ref p ∧ Q v H))
noncomputable def spOneS38 (K : PySem.W.Frag) : Sp := fun vs H Q _ => ∃ (a t : Addr) (ns : List Int) (k : Nat), vs = [.ref a, .ref t, .str ("0123456789.?*.?* -+_,aZ~!" : Str)] ∧ Scr K H a ns ∧ ns.length ≤ 63 ∧ Twn H t k ∧ k ≤ 800000 ∧
  ∀ (c : Nat) H', c < 128 → Grow t H H' → Twn H' t (k + 1) → Q (.str (tx [c])) H'
noncomputable def spComb (K : PySem.W.Frag) : Sp := fun vs H Q _ => ∃ (a t : Addr) (ns : List Int) (k m : Nat), vs = [.ref a, .ref t, .int (m : Int)] ∧ Scr K H a ns ∧ ns.length ≤ 63 ∧ Twn H t k ∧ k ≤ 700000 ∧ m ≤ 14 ∧
  ∀ (pl : Pn) v H', Grow t H H' → Twn H' t (k + 1 + m) → PnAt [] H' pl v → pl.low → pl.dp ≤ m → Q v H'
noncomputable def spPlan38 (K : PySem.W.Frag) (n : Nat) : Sp := fun vs H Q _ => ∃ (a t : Addr) (ns : List Int) (k : Nat), vs = [.ref a, .ref t, .int (n : Int)] ∧ Scr K H a ns ∧ ns.length ≤ 63 ∧ Twn H t k ∧ n ≤ 6 ∧ k + 2 ^ (n + 2) ≤ 700000 ∧
  ∀ v pl k' H', Grow t H H' → Twn H' t k' → k' + 1 ≤ k + 2 ^ (n + 2) → PnAt [] H' pl v → pl.dp ≤ n → pl.low → Q v H'
theorem two_pos (n : Nat) : 4 ≤ 2 ^ (n + 2) := by
  have := Nat.pow_le_pow_right (show 0 < 2 by decide) (show 2 ≤ n + 2 by omega)
  exact this
theorem PnAt.ne {K : PySem.W.Frag} {H : Hp} : ∀ {p : Pn} {v : V}, PnAt K H p v → v ≠ .non
  | .num _, _, ⟨_, e, _⟩, z => by rw [e] at z; cases z
  | .again, _, ⟨_, e, _⟩, z => by rw [e] at z; cases z
  | .ask _ _, _, ⟨_, _, _, e, _⟩, z => by rw [e] at z; cases z
theorem PnAt.ref {K : PySem.W.Frag} {H : Hp} : ∀ {p : Pn} {v : V}, PnAt K H p v → ∃ a, v = .ref a
  | .num _, _, ⟨a, e, _⟩ => ⟨a, e⟩
  | .again, _, ⟨a, e, _⟩ => ⟨a, e⟩
  | .ask _ _, _, ⟨a, _, _, e, _⟩ => ⟨a, e⟩
theorem tx_up1 (L : List Nat) : Txt.slice (tx L) none (some 1) = tx (L.take 1) := tx_upto L 1
theorem tx_fr1 (L : List Nat) : Txt.slice (tx L) (some 1) none = tx L.tail := by
  rw [← List.drop_one]
  exact tx_from L 1
theorem rd_test {L : List Nat} {m : Nat} {σ : St} {H : Hp} {Q : Bool → Hp → Prop} (h0 : σ[0]? = some (some (.str (tx L)))) (h1 : σ[1]? = some (some (.int (m : Int)))) (hz : (tx L).length ≤ sizeLine) (q : Q (decide (L.head? = some 63 ∧ 0 < m)) H) :
    tAnd (tTest (tOp rEq (tSl rSlS (tVar 0) tNoPart (tPart (tC (V.int 1)))) (tC (V.str "?")))) (tTest (tOp (rI0 fun i j => V.bl (decide (j < i))) (tVar 1) (tC (V.int 0)))) σ H Q := by
  refine ⟨_, h0, _, rfl, _, rfl, hz, rfl, _, rfl, ?_⟩
  dsimp only
  rw [tx_up1, tx_quest, tx_eq, take1]
  by_cases c : L.head? = some 63
  · rw [decide_eq_true c]
    refine iteT ⟨_, h1, _, _, rfl, rfl, _, rfl, ?_⟩
    have : decide (L.head? = some 63 ∧ 0 < m) = decide ((0 : Int) < (m : Int)) := by
      rw [decide_eq_decide]
      exact ⟨fun h => by omega, fun h => ⟨c, by omega⟩⟩
    rw [← this]
    exact q
  · rw [decide_eq_false c]
    rw [decide_eq_false (fun h => c h.1)] at q
    exact iteF q
theorem dg_test {K : PySem.W.Frag} {L : List Nat} {n : Nat} {σ : St} {H : Hp} {Q : Bool → Hp → Prop} (h0 : σ[0]? = some (some (.str (tx L)))) (h5 : σ[5]? = some (some (.int (n : Int)))) (h6 : σ[6]? = some (some (.str (tx (L.take n))))) (hL : L.length ≤ 1000000) (q : Q (cnd n L) H) :
    tAnd (tTest (tOp rEq (tCB (fun xs H Q => ∃ z : Str, xs = [V.str z] ∧ z.length ≤ sizeLine ∧ Q (V.int (z.length : Int)) H) (tCons (tVar 6) tNil)) (tVar 5)))
      (tAnd (tTest (tOp rEq (tBM K "str" (fun x vs H Q => ∃ z y, x = V.str z ∧ vs = [V.str y] ∧ z.length ≤ sizeLine ∧ Q (V.str (Txt.stripChars z y)) H) (tVar 6) (tCons (tC (V.str "0123456789")) tNil)) (tC (V.str ""))))
        (tTest (tOp rEq (tSl rSlS (tVar 0) (tPart (tVar 5)) (tPart (tOp (rI0 fun i j => V.int (i + j)) (tVar 5) (tC (V.int 1))))) (tC (V.str "."))))) σ H Q := by
  have hzT : (tx (L.take n)).length ≤ sizeLine := txz (by rw [List.length_take]; omega)
  refine ⟨_, h6, _, rfl, hzT, _, h5, rfl, _, rfl, ?_⟩
  dsimp only
  rw [tx_len]
  have e1 : decide (V.int (((L.take n).length : Nat) : Int) = V.int (n : Int)) = decide ((L.take n).length = n) := by
    rw [decide_eq_decide]
    exact ⟨fun h => by injection h with h; omega, fun h => by rw [h]⟩
  rw [e1]
  unfold cnd at q
  by_cases c : (L.take n).length = n
  · rw [decide_eq_true c] at q ⊢
    rw [Bool.true_and] at q
    refine iteT ⟨_, h6, rfl, _, _, rfl, rfl, hzT, rfl, _, rfl, ?_⟩
    rw [strip_dig]
    cases d : (L.take n).all dig with
    | false =>
      rw [d, Bool.false_and] at q
      exact iteF q
    | true =>
      rw [d, Bool.true_and] at q
      refine iteT ⟨_, h0, _, h5, _, rfl, _, h5, _, _, rfl, rfl, _, rfl, _, rfl, txz hL, rfl, _, rfl, ?_⟩
      have es : Txt.slice (tx L) (some (n : Int)) (some ((n : Int) + 1)) = tx ((L.drop n).take 1) := by
        rw [show (n : Int) + 1 = ((n + 1 : Nat) : Int) by omega]
        exact tx_mid L n 1
      rw [es, tx_dot, tx_eq]
      exact q
  · rw [decide_eq_false c] at q ⊢
    rw [Bool.false_and] at q
    exact iteF q
section
variable {P : Program} {w : World} {K : PySem.W.Frag} {mg : Str → Option Value} {base : Heap} {f CT : Addr} {fd : FuncData} {mT : List Value}
theorem ok__law_read {lv m : Nat} {spG : Sp} (F__law_read : Fun K "_law_read" "_law_read" s__law_read f fd) (B : Bl mg) (g__law_read : Fn P w K mg base "_law_read" p__law_read lv spG) (hg : ∀ k vs H Q E, m = k + 1 → spLR k vs H Q E → spG vs H Q E) : FnOk P w K mg base CX0 (lv + 1) f fd p__law_read (spLR m) := by
  refine F__law_read.ok sc__law_read (fun vs H Q E h => ?_) (fun cdv A outer s H vs Q E hr h => ?_)
  · obtain ⟨L, rfl, _⟩ := h
    rfl
  obtain ⟨L, rfl, hL, hm, has, q, e⟩ := h
  refine ⟨_, (pss_cons (ps_if (pt_cmpR op_eq (pe_slice sl_str (pv 0) po_none (po_some pe_int)) pe_str (nomark _)) (pss_one (ps_ret (pe_tup (pa_cons (pe_tup (pa_cons pe_str pa_nil)) (pa_cons (pe_slice sl_str (pv 0) (po_some pe_int) po_none) pa_nil))))) pss_nil)
      (pss_cons (ps_if (PW.pt (pw_and (pt_cmpR op_eq (pe_slice sl_str (pv 0) po_none (po_some pe_int)) pe_str (nomark _)) (pw_and1 (pt_cmpR op_gt (pv 1) pe_int (nomark _))))) (pss_cons (ps_asg (pe_fn g__law_read hr (pa_cons (pe_slice sl_str (pv 0) (po_some pe_int) po_none) (pa_cons (pe_op op_sub (pv 1) pe_int) pa_nil))) (pg_tup rfl (pgs_cons (pg_name (i := 2) sc__law_read.nd rfl (Or.inl rfl)) (pgs_cons (pg_name (i := 3) sc__law_read.nd rfl (Or.inl rfl)) pgs_nil))))
      (pss_cons (ps_asg (pe_ifExp (pt_cmpR op_notN (pv 2) pe_non (nomark _)) (pe_fn g__law_read hr (pa_cons (pv 3) (pa_cons (pe_op op_sub (pv 1) pe_int) pa_nil))) (pe_tup (pa_cons pe_non (pa_cons pe_str pa_nil)))) (pg_tup rfl (pgs_cons (pg_name (i := 4) sc__law_read.nd rfl (Or.inl rfl)) (pgs_cons (pg_name (i := 3) sc__law_read.nd rfl (Or.inl rfl)) pgs_nil))))
      (pss_one (ps_ret (pe_tup (pa_cons (pe_ifExp (pt_cmpR op_notN (pv 4) pe_non (nomark _)) (pe_tup (pa_cons pe_str (pa_cons (pv 2) (pa_cons (pv 4) pa_nil)))) pe_non) (pa_cons (pv 3) pa_nil))))))) pss_nil)
      (pss_cons (ps_for PassesOwn.never rfl (pi_tup (pe_tup (pa_cons pe_int (pa_cons pe_int pa_nil)))) (pg_name (i := 5) sc__law_read.nd rfl (Or.inl rfl)) (pss_cons (ps_set (i := 6) sc__law_read.nd rfl (Or.inl rfl) (pe_slice sl_str (pv 0) po_none (po_some (pv 5))))
      (pss_one (ps_if (PW.pt (pw_and (pt_cmpR op_eq (pe_callB call_len_str rfl B.len_ L3.bt_len (pa_cons (pv 6) pa_nil)) (pv 5) (nomark _)) (pw_and (pt_cmpR op_eq (pe_bm PySem.F.plainAttrs_str PySem.F.slot_str_strip PySem.F.type_str_strip mt_strip (pv 6) (pa_cons pe_str pa_nil)) pe_str (nomark _)) (pw_and1 (pt_cmpR op_eq (pe_slice sl_str (pv 0) (po_some (pv 5)) (po_some (pe_op op_add (pv 5) pe_int))) pe_str (nomark _)))))) (pss_one (ps_ret (pe_tup (pa_cons (pe_ifExp (PW.pt (pw_or (pt_cmpR op_eq (pv 5) pe_int (nomark _)) (pw_or1 (pt_cmpR op_ne (pe_ix ix_str (pv 6) pe_int (fun _ _ => rfl)) pe_str (nomark _))))) (pe_tup (pa_cons pe_str (pa_cons (pe_callTy call_intS rfl B.int_ L3.bt_int (pa_cons (pv 6) pa_nil)) pa_nil))) pe_non) (pa_cons (pe_slice sl_str (pv 0) (po_some (pe_op op_add (pv 5) pe_int)) po_none) pa_nil))))) pss_nil))))
      (pss_one (ps_ret (pe_tup (pa_cons pe_non (pa_cons pe_str pa_nil)))))))), ?_⟩
  have hz := txz hL
  refine ⟨_, rfl, _, rfl, _, rfl, hz, rfl, _, rfl, ?_⟩
  rw [tx_up1, tx_star, tx_eq, take1]
  by_cases h42 : L.head? = some 42
  · rw [decide_eq_true h42]
    refine iteT ⟨(by show 1 ≤ sizeLine; decide), fun p1 f1 => ?_⟩
    have y1 := same_new f1 (.tup [V.str "again"])
    have w1 : (upd H p1 (.tup [V.str "again"])) p1 = some (.tup [V.str "again"]) := upd_same
    generalize upd H p1 (.tup [V.str "again"]) = H1 at y1 w1 ⊢
    refine ⟨_, rfl, _, rfl, _, rfl, hz, (by show 2 ≤ sizeLine; decide), fun p2 f2 => ?_⟩
    rw [tx_fr1]
    have y2 := same_new f2 (.tup [V.ref p1, V.str (tx L.tail)])
    exact q .again L.tail _ p2 (.ref p1) (rd_42 m h42) (y1.trans y2) upd_same ⟨p1, rfl, .inl (y2 _ _ w1)⟩
  rw [decide_eq_false h42]
  refine iteF (rd_test (L := L) (m := m) rfl rfl hz ?_)
  by_cases hc : L.head? = some 63 ∧ 0 < m
  · rw [decide_eq_true hc]
    obtain ⟨h63, hm0⟩ := hc
    obtain ⟨k, rfl⟩ : ∃ k, m = k + 1 := ⟨m - 1, by omega⟩
    have em : (((k + 1 : Nat) : Int)) - 1 = (k : Int) := by omega
    have htl : L.tail.length ≤ L.length := by rw [List.length_tail]; omega
    refine iteT ⟨_, rfl, _, rfl, _, rfl, hz, _, rfl, _, _, rfl, rfl, hg k _ _ _ _ rfl ⟨L.tail, by rw [tx_fr1, ← em]; rfl, by omega, by omega, fun c hc => has c (List.mem_of_mem_tail hc), fun pl1 M1 H1 p1 y1 r1 s1 hp1 hy1 => ?_, fun M H1 p1 r1 hM s1 hp1 => ?_⟩⟩
    · refine ⟨p1, _, rfl, SqT.of hp1, rfl, _, _, rfl, _, _, rfl, rfl, ?_⟩
      obtain ⟨kk, k1, k2, rfl⟩ := rd_suffix k r1
      refine ⟨_, rfl, rfl, _, rfl, ?_⟩
      rw [show (!decide (y1 = V.non)) = true by rw [decide_eq_false hy1.ne]; rfl]
      refine iteT ⟨_, rfl, _, rfl, _, _, rfl, rfl, hg k _ _ _ _ rfl ⟨L.tail.drop kk, by rw [← em]; rfl, by rw [List.length_drop]; omega, by omega, fun c hc => has c (List.mem_of_mem_tail (List.mem_of_mem_drop hc)), fun pl2 M2 H2 p2 y2 r2 s2 hp2 hy2 => ?_, fun M H2 p2 r2 hM s2 hp2 => ?_⟩⟩
      · refine ⟨p2, _, rfl, SqT.of hp2, rfl, _, _, rfl, _, _, rfl, rfl, ?_⟩
        refine ⟨_, rfl, rfl, _, rfl, ?_⟩
        rw [show (!decide (y2 = V.non)) = true by rw [decide_eq_false hy2.ne]; rfl]
        refine iteT ⟨_, rfl, _, rfl, (by show 3 ≤ sizeLine; decide), fun p3 f3 => ?_⟩
        have y3 := same_new f3 (.tup [V.str "ask", y1, y2])
        have w3 : (upd H2 p3 (.tup [V.str "ask", y1, y2])) p3 = some (.tup [V.str "ask", y1, y2]) := upd_same
        generalize upd H2 p3 (.tup [V.str "ask", y1, y2]) = H3 at y3 w3 ⊢
        refine ⟨_, rfl, (by show 2 ≤ sizeLine; decide), fun p4 f4 => ?_⟩
        have y4 := same_new f4 (.tup [V.ref p3, V.str (tx M2)])
        exact q (.ask pl1 pl2) M2 _ p4 (.ref p3) (rd_s2 h42 h63 r1 r2) (s1.trans (s2.trans (y3.trans y4))) upd_same ⟨p3, y1, y2, rfl, y4 _ _ w3, hy1.same (s2.trans (y3.trans y4)), hy2.same (y3.trans y4)⟩
      · refine ⟨p2, _, rfl, SqT.of hp2, rfl, _, _, rfl, _, _, rfl, rfl, ?_⟩
        refine ⟨_, rfl, rfl, _, rfl, iteF ⟨_, rfl, (by show 2 ≤ sizeLine; decide), fun p4 f4 => ?_⟩⟩
        exact e M _ p4 (rd_s1 h42 h63 r1 r2) hM (s1.trans (s2.trans (same_new f4 _))) upd_same
    · refine ⟨p1, _, rfl, SqT.of hp1, rfl, _, _, rfl, _, _, rfl, rfl, ?_⟩
      refine ⟨_, rfl, rfl, _, rfl, iteF ⟨(by show 2 ≤ sizeLine; decide), fun p2 f2 => ?_⟩⟩
      have y2 := same_new f2 (.tup [V.non, V.str ""])
      have w2 : (upd H1 p2 (.tup [V.non, V.str ""])) p2 = some (.tup [V.non, V.str ""]) := upd_same
      generalize upd H1 p2 (.tup [V.non, V.str ""]) = H2 at y2 w2 ⊢
      refine ⟨p2, _, rfl, SqT.of w2, rfl, _, _, rfl, _, _, rfl, rfl, ?_⟩
      refine ⟨_, rfl, rfl, _, rfl, iteF ⟨_, rfl, (by show 2 ≤ sizeLine; decide), fun p4 f4 => ?_⟩⟩
      exact e [] _ p4 (rd_s0 h42 h63 r1) (Nat.zero_le _) (s1.trans (y2.trans (same_new f4 _))) (by rw [upd_same, tx_nil])
  rw [decide_eq_false hc]
  have hN : rd m L = (rdN L).map fun x => (.num x.1, x.2) := by
    by_cases h63 : L.head? = some 63
    · have : m = 0 := by
        rcases Nat.eq_zero_or_pos m with h | h
        · exact h
        · exact absurd ⟨h63, h⟩ hc
      rw [this, rd_0 h42 h63, rdN_63 h63]
      rfl
    · exact rd_num m h42 h63
  refine iteF ⟨(by show 2 ≤ sizeLine; decide), fun pt1 f1 => ?_⟩
  have y1 := same_new f1 (.tup [V.int 1, V.int 2])
  have w1 : (upd H pt1 (.tup [V.int 1, V.int 2])) pt1 = some (.tup [V.int 1, V.int 2]) := upd_same
  generalize upd H pt1 (.tup [V.int 1, V.int 2]) = H1 at y1 w1 ⊢
  refine ⟨pt1, rfl, ⟨_, SqT.of w1⟩, for_tup (xs := [V.int 1, V.int 2]) (fun j σ' H' => ∃ (o5 o6 : Option V), σ' = [some (.str (tx L)), some (.int (m : Int)), none, none, none, o5, o6] ∧ Same H1 H' ∧ ∀ n, 0 < n → n ≤ j → cnd n L = false) ⟨_, _, rfl, Same.refl _, fun n h1 h2 => by omega⟩
    (fun j σ' H' _ h => by
      obtain ⟨_, _, _, y, _⟩ := h
      exact SqT.of (y _ _ w1)) ?_ ?_⟩
  · rintro j x σ' H2 hxj ⟨o5, o6, rfl, s2, hn⟩
    obtain ⟨n, rfl, hnj, hn2⟩ : ∃ n : Nat, x = .int (n : Int) ∧ n = j + 1 ∧ (n = 1 ∨ n = 2) := by
      match j, hxj with
      | 0, h => exact ⟨1, (Option.some.inj h).symm, rfl, .inl rfl⟩
      | 1, h => exact ⟨2, (Option.some.inj h).symm, rfl, .inr rfl⟩
    refine ⟨_, rfl, _, rfl, _, rfl, _, rfl, hz, ?_⟩
    rw [tx_upto]
    refine dg_test (L := L) (n := n) rfl rfl rfl hL ?_
    cases hcn : cnd n L with
    | false =>
      refine iteF ⟨_, _, rfl, s2, fun n' h1 h2 => ?_⟩
      rcases Nat.lt_or_ge j n' with h | h
      · rw [show n' = n by omega]
        exact hcn
      · exact hn n' h1 h
    | true =>
      have tail : ∀ (v : V) (H3 : Hp), Same H2 H3 → ((∃ z a, rdN L = some (z, a) ∧ PnAt [] H3 (.num z) v ∧ L.drop (n + 1) = a) ∨ (rdN L = none ∧ v = .non)) → ∀ p4, H3 p4 = none → Q (.ref p4) (upd H3 p4 (.tup [v, V.str (tx (L.drop (n + 1)))])) := fun v H3 s3 hv p4 f4 => by
        have y4 := same_new f4 (.tup [v, V.str (tx (L.drop (n + 1)))])
        rcases hv with ⟨z, a, e1, hP, rfl⟩ | ⟨e1, rfl⟩
        · exact q (.num z) _ _ p4 v (by rw [hN, e1]; rfl) (y1.trans (s2.trans (s3.trans y4))) upd_same (hP.same y4)
        · exact e _ _ p4 (by rw [hN, e1]; rfl) (by rw [List.length_drop]; omega) (y1.trans (s2.trans (s3.trans y4))) upd_same
      have ed : Txt.slice (tx L) (some ((n : Int) + 1)) none = tx (L.drop (n + 1)) := by
        rw [show (n : Int) + 1 = ((n + 1 : Nat) : Int) by omega]
        exact tx_from L (n + 1)
      rcases hn2 with rfl | rfl
      · obtain ⟨a, r, rfl, hda⟩ := cnd_1 hcn
        refine iteT ⟨_, rfl, rfl, _, rfl, iteT (iteT ⟨_, rfl, _, _, rfl, int1 hda, (by show 1 ≤ 640; decide), (by show 2 ≤ sizeLine; decide), fun p3 f3 => ?_⟩)⟩
        have y3 := same_new f3 (.tup [V.str "is", V.int ((a - 48 : Nat) : Int)])
        have w3 : (upd H2 p3 (.tup [V.str "is", V.int ((a - 48 : Nat) : Int)])) p3 = some (.tup [V.str "is", V.int ((a - 48 : Nat) : Int)]) := upd_same
        generalize upd H2 p3 (.tup [V.str "is", V.int ((a - 48 : Nat) : Int)]) = H3 at y3 w3 ⊢
        refine ⟨_, rfl, _, rfl, _, _, rfl, rfl, _, rfl, _, rfl, hz, (by show 2 ≤ sizeLine; decide), ?_⟩
        rw [ed]
        exact tail (.ref p3) H3 y3 (.inl ⟨_, _, rdN_1 hda, ⟨p3, rfl, w3⟩, rfl⟩)
      · obtain ⟨a, b, r, rfl, hda, hdb⟩ := cnd_2 hcn
        refine iteT ⟨_, rfl, rfl, _, rfl, iteF ⟨_, rfl, _, _, a, rfl, rfl, txz (by show 2 ≤ 1000000; decide), rfl, rfl, _, rfl, ?_⟩⟩
        have ec : (!decide (V.str (⟨#[a]⟩ : Str) = V.str "0")) = !decide (a = 48) := by
          rw [tx_zero]
          show (!decide (V.str (tx [a]) = V.str (tx [48]))) = _
          rw [tx_eq]
          congr 1
          rw [decide_eq_decide]
          exact ⟨fun h => (List.cons.inj h).1, fun h => by rw [h]⟩
        rw [ec]
        by_cases c48 : a = 48
        · rw [decide_eq_true c48]
          refine iteF ⟨_, rfl, _, rfl, _, _, rfl, rfl, _, rfl, _, rfl, hz, (by show 2 ≤ sizeLine; decide), ?_⟩
          rw [ed]
          exact tail .non H2 (Same.refl _) (.inr ⟨by rw [c48]; exact rdN_48 hdb, rfl⟩)
        · rw [decide_eq_false c48]
          refine iteT ⟨_, rfl, _, _, rfl, int2 hda hdb, (by show 2 ≤ 640; decide), (by show 2 ≤ sizeLine; decide), fun p3 f3 => ?_⟩
          have y3 := same_new f3 (.tup [V.str "is", V.int ((10 * (a - 48) + (b - 48) : Nat) : Int)])
          have w3 : (upd H2 p3 (.tup [V.str "is", V.int ((10 * (a - 48) + (b - 48) : Nat) : Int)])) p3 = some (.tup [V.str "is", V.int ((10 * (a - 48) + (b - 48) : Nat) : Int)]) := upd_same
          generalize upd H2 p3 (.tup [V.str "is", V.int ((10 * (a - 48) + (b - 48) : Nat) : Int)]) = H3 at y3 w3 ⊢
          refine ⟨_, rfl, _, rfl, _, _, rfl, rfl, _, rfl, _, rfl, hz, (by show 2 ≤ sizeLine; decide), ?_⟩
          rw [ed]
          exact tail (.ref p3) H3 y3 (.inl ⟨_, _, rdN_2 hda hdb c48, ⟨p3, rfl, w3⟩, rfl⟩)
  · rintro σ' H2 ⟨o5, o6, rfl, s2, hn⟩
    refine ⟨(by show 2 ≤ sizeLine; decide), fun p4 f4 => ?_⟩
    refine e [] _ p4 ?_ (Nat.zero_le _) (y1.trans (s2.trans (same_new f4 _))) (by rw [upd_same, tx_nil])
    rw [hN, rdN_no (hn 1 (by decide) (by show 1 ≤ 2; decide)) (hn 2 (by decide) (by show 2 ≤ 2; decide))]
    rfl
theorem ok__law_due (F__law_due : Fun K "_law_due" "_law_due" s__law_due f fd) (g__law_read : Fn P w K mg base "_law_read" p__law_read 17 (spLR 12)) : FnOk P w K mg base CX0 18 f fd p__law_due spDue38 := by
  refine F__law_due.ok sc__law_due (fun vs H Q E h => ?_) (fun cdv A outer s H vs Q E hr h => ?_)
  · obtain ⟨L, rfl, _⟩ := h
    rfl
  obtain ⟨L, rfl, hL, has, q, e⟩ := h
  refine ⟨_, (pss_cons (ps_asg (pe_fn g__law_read hr (pa_cons (pv 0) (pa_cons pe_int pa_nil))) (pg_tup rfl (pgs_cons (pg_name (i := 1) sc__law_due.nd rfl (Or.inl rfl)) (pgs_cons (pg_name (i := 2) sc__law_due.nd rfl (Or.inl rfl)) pgs_nil))))
      (pss_one (ps_ret (pe_ifExp (pt_cmpR op_eq (pv 2) pe_str (nomark _)) (pv 1) pe_non)))), ?_⟩
  refine ⟨_, rfl, L, rfl, hL, by decide, has, fun pl M H1 p y h1 s1 hp hy => ?_, fun M H1 p h1 hM s1 hp => ?_⟩
  · refine ⟨p, _, rfl, SqT.of hp, rfl, _, _, rfl, _, _, rfl, rfl, ?_⟩
    refine ⟨_, rfl, rfl, _, rfl, ?_⟩
    rw [← tx_nil, tx_eq]
    by_cases c : M = []
    · rw [decide_eq_true c]
      refine iteT ⟨_, rfl, q pl H1 y ?_ s1 hy⟩
      unfold full
      rw [h1, c]
    · rw [decide_eq_false c]
      refine iteF (e H1 ?_ s1)
      unfold full
      rw [h1]
      cases M with
      | nil => exact absurd rfl c
      | cons a M => rfl
  · refine ⟨p, _, rfl, SqT.of hp, rfl, _, _, rfl, _, _, rfl, rfl, ?_⟩
    have hf : full L = none := by unfold full; rw [h1]
    refine ⟨_, rfl, rfl, _, rfl, ite2 (fun _ => ⟨_, rfl, e H1 hf s1⟩) (fun _ => e H1 hf s1)⟩
theorem ok__law_or (F__law_or : Fun K "_law_or" "_law_or" s__law_or f fd) : FnOk P w K mg base CX0 1 f fd p__law_or spOr := by
  refine F__law_or.ok sc__law_or (fun vs H Q E h => ?_) (fun cdv A outer s H vs Q E hr h => ?_)
  · obtain ⟨v, rfl, _⟩ := h
    rfl
  obtain ⟨v, rfl, h⟩ := h
  refine ⟨_, (pss_cons (ps_if (pt_cmpR op_isN (pv 0) pe_non (nomark _)) (pss_one (ps_ret pe_str)) pss_nil)
      (pss_one (ps_ret (pv 0)))), ?_⟩
  rcases h with ⟨rfl, q⟩ | ⟨p, rfl, q⟩
  · exact ⟨_, rfl, rfl, _, rfl, iteT q⟩
  · exact ⟨_, rfl, rfl, _, rfl, iteF ⟨_, rfl, q⟩⟩
theorem ok__law_oneS (F__law_one : Fun K "_law_one" "_law_one" s__law_one f fd) (B : Bl mg) (g__law_draw : Fn P w K mg base "_law_draw" p__law_draw 1 (spDraw K)) : FnOk P w K mg base CX0 2 f fd p__law_one (spOneS38 K) := by
  refine F__law_one.ok sc__law_one (fun vs H Q E h => ?_) (fun cdv A outer s H vs Q E hr h => ?_)
  · obtain ⟨a, t, ns, k, rfl, _⟩ := h
    rfl
  obtain ⟨a, t, ns, k, rfl, hS, h63, hT, hk, q⟩ := h
  refine ⟨_, (pss_one (ps_ret (pe_ix ix_str (pv 2) (pe_fn g__law_draw hr (pa_cons (pv 0) (pa_cons (pv 1) (pa_cons (pe_callB call_len_str rfl B.len_ L3.bt_len (pa_cons (pv 2) pa_nil)) pa_nil)))) (fun _ _ => rfl)))), ?_⟩
  have sl : ("0123456789.?*.?* -+_,aZ~!" : Str).length = 25 := by decide +kernel
  have sa : ("0123456789.?*.?* -+_,aZ~!" : Str).cps.toList.all (fun c => decide (c < 128)) = true := by decide +kernel
  have sl2 : ("0123456789.?*.?* -+_,aZ~!" : Str).cps.toList.length = 25 := by decide +kernel
  refine ⟨_, rfl, _, rfl, _, rfl, _, rfl, _, rfl, by rw [sl]; decide, a, t, ns, k, 25, by rw [sl]; rfl, hS, h63, hT, by omega, by decide, fun H1 g1 t1 => ?_⟩
  have n0 := drw_nn ns (k + 1) (show (0 : Int) < 25 by decide)
  have n1 := drw_lt ns (k + 1) (show (0 : Int) < 25 by decide)
  generalize drw ns (k + 1) 25 = d at n0 n1
  obtain ⟨b, rfl⟩ := nat_of n0
  generalize ("0123456789.?*.?* -+_,aZ~!" : Str) = zz at *
  have hb : b < zz.cps.toList.length := by omega
  exact ⟨_, _, zz.cps.toList[b], rfl, rfl, by rw [sl]; decide, atI_nat (List.getElem?_eq_getElem hb), q _ H1 (of_decide_eq_true (List.all_eq_true.mp sa _ (List.getElem_mem hb))) g1 t1⟩
theorem ok__law_comb (F__law_comb : Fun K "_law_comb" "_law_comb" s__law_comb f fd) (B : Bl mg) (g__law_draw : Fn P w K mg base "_law_draw" p__law_draw 1 (spDraw K)) : FnOk P w K mg base CX0 2 f fd p__law_comb (spComb K) := by
  refine F__law_comb.ok sc__law_comb (fun vs H Q E h => ?_) (fun cdv A outer s H vs Q E hr h => ?_)
  · obtain ⟨a, t, ns, k, m, rfl, _⟩ := h
    rfl
  obtain ⟨a, t, ns, k, m, rfl, hS, h63, hT, hk, hm, q⟩ := h
  refine ⟨_, (pss_cons (ps_set (i := 3) sc__law_comb.nd rfl (Or.inl rfl) (pe_tup (pa_cons pe_str (pa_cons (pe_fn g__law_draw hr (pa_cons (pv 0) (pa_cons (pv 1) (pa_cons pe_int pa_nil)))) pa_nil))))
      (pss_cons (ps_for PassesOwn.never rfl (pi_range1 rfl B.range_ (pa_cons (pv 2) pa_nil)) (pg_name (i := 4) sc__law_comb.nd rfl (Or.inl rfl)) (pss_one (ps_set (i := 3) sc__law_comb.nd rfl (Or.inl rfl) (pe_ifExp (pt_cmpR op_eq (pe_fn g__law_draw hr (pa_cons (pv 0) (pa_cons (pv 1) (pa_cons pe_int pa_nil)))) pe_int (nomark _)) (pe_tup (pa_cons pe_str (pa_cons (pe_tup (pa_cons pe_str pa_nil)) (pa_cons (pv 3) pa_nil)))) (pe_tup (pa_cons pe_str (pa_cons (pv 3) (pa_cons (pe_tup (pa_cons pe_str (pa_cons (pv 4) pa_nil))) pa_nil))))))))
      (pss_one (ps_ret (pv 3))))), ?_⟩
  refine ⟨_, rfl, _, rfl, a, t, ns, k, 100, rfl, hS, h63, hT, by omega, by decide, fun H1 g1 t1 => ?_⟩
  have d0 := drw_nn ns (k + 1) (show (0 : Int) < 100 by decide)
  have d1 := drw_lt ns (k + 1) (show (0 : Int) < 100 by decide)
  generalize drw ns (k + 1) 100 = dd at d0 d1
  obtain ⟨nn, rfl⟩ := nat_of d0
  have hS1 := g1.scr hT hS
  refine ⟨(by show 2 ≤ sizeLine; decide), fun p0 f0 => ?_⟩
  have y0 := same_new f0 (.tup [V.str "is", V.int (nn : Int)])
  have w0 : (upd H1 p0 (.tup [V.str "is", V.int (nn : Int)])) p0 = some (.tup [V.str "is", V.int (nn : Int)]) := upd_same
  generalize upd H1 p0 (.tup [V.str "is", V.int (nn : Int)]) = H2 at y0 w0 ⊢
  refine ⟨_, rfl, m, rfl, lo62 _, hi62 (by omega), for_range (lo := 0) (n := m) (fun j σ' H' => ∃ (pl : Pn) (v : V) (o4 : Option V), σ' = [some (.ref a), some (.ref t), some (.int (m : Int)), some v, o4] ∧ Grow t H H' ∧ Scr K H' a ns ∧ Twn H' t (k + 1 + j) ∧ PnAt [] H' pl v ∧ pl.low ∧ pl.dp ≤ j)
    ⟨.num nn, .ref p0, _, rfl, g1.trans (.same y0), y0.scr hS1, y0.twn t1, ⟨p0, rfl, w0⟩, (by show nn < 100; omega), Nat.le_refl _⟩ ?_ ?_⟩
  · rintro j σ' H3 hj ⟨pl, v, o4, rfl, g3, hS3, t3, hP, hlow, hd⟩
    refine ⟨_, rfl, _, rfl, a, t, ns, k + 1 + j, 2, rfl, hS3, h63, t3, by omega, by decide, fun H4 g4 t4 => ?_⟩
    have hS4 := g4.scr t3 hS3
    have hP4 := hP.town t3 g4
    refine ⟨rfl, _, rfl, ite2 (fun _ => ?_) (fun _ => ?_)⟩
    · refine ⟨(by show 1 ≤ sizeLine; decide), fun p1 f1 => ?_⟩
      have y1 := same_new f1 (.tup [V.str "again"])
      have w1 : (upd H4 p1 (.tup [V.str "again"])) p1 = some (.tup [V.str "again"]) := upd_same
      generalize upd H4 p1 (.tup [V.str "again"]) = H5 at y1 w1 ⊢
      refine ⟨_, rfl, (by show 3 ≤ sizeLine; decide), fun p2 f2 => ?_⟩
      have y2 := same_new f2 (.tup [V.str "ask", V.ref p1, v])
      exact ⟨.ask .again pl, .ref p2, _, rfl, g3.trans (g4.trans (.same (y1.trans y2))), (y1.trans y2).scr hS4, (y1.trans y2).twn t4, ⟨p2, _, _, rfl, upd_same, ⟨p1, rfl, .inl (y2 _ _ w1)⟩, hP4.same (y1.trans y2)⟩, ⟨True.intro, hlow⟩, (by show max 0 pl.dp + 1 ≤ j + 1; omega)⟩
    · refine ⟨_, rfl, _, rfl, (by show 2 ≤ sizeLine; decide), fun p1 f1 => ?_⟩
      have y1 := same_new f1 (.tup [V.str "is", V.int (0 + (j : Int))])
      have w1 : (upd H4 p1 (.tup [V.str "is", V.int (0 + (j : Int))])) p1 = some (.tup [V.str "is", V.int (j : Int)]) := by rw [upd_same, Int.zero_add]
      generalize upd H4 p1 (.tup [V.str "is", V.int (0 + (j : Int))]) = H5 at y1 w1 ⊢
      refine ⟨(by show 3 ≤ sizeLine; decide), fun p2 f2 => ?_⟩
      have y2 := same_new f2 (.tup [V.str "ask", v, V.ref p1])
      exact ⟨.ask pl (.num j), .ref p2, _, rfl, g3.trans (g4.trans (.same (y1.trans y2))), (y1.trans y2).scr hS4, (y1.trans y2).twn t4, ⟨p2, _, _, rfl, upd_same, hP4.same (y1.trans y2), ⟨p1, rfl, y2 _ _ w1⟩⟩, ⟨hlow, (by show j < 100; omega)⟩, (by show max pl.dp 0 + 1 ≤ j + 1; omega)⟩
  · rintro σ' H3 ⟨pl, v, o4, rfl, g3, hS3, t3, hP, hlow, hd⟩
    exact ⟨_, rfl, q pl v H3 g3 t3 hP hlow hd⟩
theorem ok__law_plan {lv n : Nat} {spG : Sp} (F__law_plan : Fun K "_law_plan" "_law_plan" s__law_plan f fd) (B : Bl mg) (g__law_draw : Fn P w K mg base "_law_draw" p__law_draw lv (spDraw K)) (g__law_one : Fn P w K mg base "_law_one" p__law_one lv (spOne K)) (g__law_plan : Fn P w K mg base "_law_plan" p__law_plan lv spG)
    (hg : ∀ m vs H Q E, n = m + 1 → spPlan38 K m vs H Q E → spG vs H Q E) : FnOk P w K mg base CX0 (lv + 1) f fd p__law_plan (spPlan38 K n) := by
  refine F__law_plan.ok sc__law_plan (fun vs H Q E h => ?_) (fun cdv A outer s H vs Q E hr h => ?_)
  · obtain ⟨a, t, ns, k, rfl, _⟩ := h
    rfl
  obtain ⟨a, t, ns, k, rfl, hS, h63, hT, hn6, hk, q⟩ := h
  refine ⟨_, (pss_cons (ps_set (i := 3) sc__law_plan.nd rfl (Or.inl rfl) (pe_fn g__law_draw hr (pa_cons (pv 0) (pa_cons (pv 1) (pa_cons pe_int pa_nil)))))
      (pss_cons (ps_if (PW.pt (pw_or (pt_cmpR op_eq (pv 2) pe_int (nomark _)) (pw_or1 (pt_cmpR op_eq (pv 3) pe_int (nomark _))))) (pss_one (ps_ret (pe_tup (pa_cons pe_str (pa_cons (pe_fn g__law_draw hr (pa_cons (pv 0) (pa_cons (pv 1) (pa_cons (pe_fn g__law_one hr (pa_cons (pv 0) (pa_cons (pv 1) (pa_cons (pe_lst (pa_cons pe_int (pa_cons pe_int pa_nil))) pa_nil)))) pa_nil)))) pa_nil))))) pss_nil)
      (pss_cons (ps_if (pt_cmpR op_eq (pv 3) pe_int (nomark _)) (pss_one (ps_ret (pe_tup (pa_cons pe_str pa_nil)))) pss_nil)
      (pss_one (ps_ret (pe_tup (pa_cons pe_str (pa_cons (pe_fn g__law_plan hr (pa_cons (pv 0) (pa_cons (pv 1) (pa_cons (pe_op op_sub (pv 2) pe_int) pa_nil)))) (pa_cons (pe_fn g__law_plan hr (pa_cons (pv 0) (pa_cons (pv 1) (pa_cons (pe_op op_sub (pv 2) pe_int) pa_nil)))) pa_nil))))))))), ?_⟩
  have tp := two_pos n
  refine ⟨_, rfl, _, rfl, a, t, ns, k, 6, rfl, hS, h63, hT, by omega, by decide, fun H1 g1 t1 => ?_⟩
  have hS1 := g1.scr hT hS
  generalize drw ns (k + 1) 6 = kind
  refine ⟨_, rfl, rfl, _, rfl, ?_⟩
  by_cases hn : n = 0
  · rw [show decide (V.int (n : Int) = V.int 0) = true from decide_eq_true (by rw [hn]; rfl)]
    refine iteT (iteT ?_)
    refine ⟨_, rfl, _, rfl, _, rfl, _, rfl, (by show 2 ≤ sizeLine; decide), fun l fl => ?_⟩
    have yl := same_new fl (.lst [V.int 3, V.int 100])
    have wl : (upd H1 l (.lst [V.int 3, V.int 100])) l = some (.lst [V.int 3, V.int 100]) := upd_same
    generalize upd H1 l (.lst [V.int 3, V.int 100]) = H2 at yl wl ⊢
    have y2 := yl
    have w2 := wl
    have t2 := y2.twn t1
    have hS2 := y2.scr hS1
    refine ⟨a, t, l, ns, k + 1, _, rfl, hS2, h63, t2, by omega, w2, twn_new t1 fl, (by show 0 < 2; decide), (by show 2 ≤ 1000; decide), fun jj v H3 _ hv g3 t3 => ?_⟩
    obtain ⟨m0, rfl, hm0, hm1⟩ : ∃ m0 : Int, v = .int m0 ∧ 0 < m0 ∧ m0 ≤ 100 := by
      match jj, hv with
      | 0, hv => exact ⟨3, (Option.some.inj hv).symm, by decide, by decide⟩
      | 1, hv => exact ⟨100, (Option.some.inj hv).symm, by decide, by decide⟩
    have hS3 := g3.scr t2 hS2
    refine ⟨a, t, ns, k + 1 + 1, m0, rfl, hS3, h63, t3, by omega, hm0, fun H4 g4 t4 => ?_⟩
    have d0 := drw_nn ns (k + 1 + 1 + 1) hm0
    have d1 := drw_lt ns (k + 1 + 1 + 1) hm0
    generalize drw ns (k + 1 + 1 + 1) m0 = dd at d0 d1
    obtain ⟨nn, rfl⟩ := nat_of d0
    refine tup_step (by show 2 ≤ 1000; decide) fun p H5 y5 w5 => ?_
    have G := ((g1.trans (.same y2)).trans g3).trans (g4.trans (.same y5))
    exact q (.ref p) (.num nn) _ H5 G (y5.twn t4) (by have := two_pos n; omega) ⟨p, rfl, w5⟩ (Nat.zero_le _) (by show nn < 100; omega)
  rw [show decide (V.int (n : Int) = V.int 0) = false from decide_eq_false (fun e => hn (by injection e with e; omega))]
  refine iteF ⟨_, rfl, rfl, _, rfl, ite2 (fun _ => ?_) (fun _ => ?_)⟩
  · refine ⟨_, rfl, _, rfl, _, rfl, _, rfl, (by show 2 ≤ sizeLine; decide), fun l fl => ?_⟩
    have yl := same_new fl (.lst [V.int 3, V.int 100])
    have wl : (upd H1 l (.lst [V.int 3, V.int 100])) l = some (.lst [V.int 3, V.int 100]) := upd_same
    generalize upd H1 l (.lst [V.int 3, V.int 100]) = H2 at yl wl ⊢
    have y2 := yl
    have w2 := wl
    have t2 := y2.twn t1
    have hS2 := y2.scr hS1
    refine ⟨a, t, l, ns, k + 1, _, rfl, hS2, h63, t2, by omega, w2, twn_new t1 fl, (by show 0 < 2; decide), (by show 2 ≤ 1000; decide), fun jj v H3 _ hv g3 t3 => ?_⟩
    obtain ⟨m0, rfl, hm0, hm1⟩ : ∃ m0 : Int, v = .int m0 ∧ 0 < m0 ∧ m0 ≤ 100 := by
      match jj, hv with
      | 0, hv => exact ⟨3, (Option.some.inj hv).symm, by decide, by decide⟩
      | 1, hv => exact ⟨100, (Option.some.inj hv).symm, by decide, by decide⟩
    have hS3 := g3.scr t2 hS2
    refine ⟨a, t, ns, k + 1 + 1, m0, rfl, hS3, h63, t3, by omega, hm0, fun H4 g4 t4 => ?_⟩
    have d0 := drw_nn ns (k + 1 + 1 + 1) hm0
    have d1 := drw_lt ns (k + 1 + 1 + 1) hm0
    generalize drw ns (k + 1 + 1 + 1) m0 = dd at d0 d1
    obtain ⟨nn, rfl⟩ := nat_of d0
    refine tup_step (by show 2 ≤ 1000; decide) fun p H5 y5 w5 => ?_
    have G := ((g1.trans (.same y2)).trans g3).trans (g4.trans (.same y5))
    exact q (.ref p) (.num nn) _ H5 G (y5.twn t4) (by have := two_pos n; omega) ⟨p, rfl, w5⟩ (Nat.zero_le _) (by show nn < 100; omega)
  refine ⟨_, rfl, rfl, _, rfl, ite2 (fun _ => ?_) (fun _ => ?_)⟩
  · refine tup_step (by show 1 ≤ 1000; decide) fun p H5 y5 w5 => ?_
    exact q (.ref p) .again _ H5 (g1.trans (.same y5)) (y5.twn t1) (by omega) ⟨p, rfl, .inl w5⟩ (Nat.zero_le _) True.intro
  obtain ⟨m, rfl⟩ : ∃ m, n = m + 1 := ⟨n - 1, by omega⟩
  have em : (((m + 1 : Nat) : Int)) - 1 = (m : Int) := by omega
  have e2 : 2 ^ (m + 1 + 2) = 2 * 2 ^ (m + 2) := by rw [Nat.pow_succ 2 (m + 2), Nat.mul_comm]
  have tp2 := two_pos m
  refine ⟨_, rfl, _, rfl, _, rfl, _, _, rfl, rfl, hg m _ _ _ _ rfl ⟨a, t, ns, k + 1, by rw [← em]; rfl, hS1, h63, t1, by omega, by omega, fun v1 pl1 k1 H2 g2 t2 hk2 hv1 hd1 lw1 => ?_⟩⟩
  have hS2 := g2.scr t1 hS1
  refine ⟨_, rfl, _, rfl, _, rfl, _, _, rfl, rfl, hg m _ _ _ _ rfl ⟨a, t, ns, k1, by rw [← em]; rfl, hS2, h63, t2, by omega, by omega, fun v2 pl2 k2 H3 g3 t3 hk3 hv2 hd2 lw2 => ?_⟩⟩
  refine tup_step (by show 3 ≤ 1000; decide) fun p H5 y5 w5 => ?_
  exact q (.ref p) (.ask pl1 pl2) k2 H5 ((g1.trans g2).trans (g3.trans (.same y5))) (y5.twn t3) (by omega) ⟨p, v1, v2, rfl, w5, (hv1.town t2 g3).same y5, hv2.same y5⟩ (by show max pl1.dp pl2.dp + 1 ≤ m + 1; omega) ⟨lw1, lw2⟩
end
noncomputable def Tx (n : Nat) (z : Str) : Prop := asciiS z ∧ z.length ≤ n
theorem Tx.up {n m : Nat} {z : Str} (h : Tx n z) (l : n ≤ m) : Tx m z := ⟨h.1, Nat.le_trans h.2 l⟩
theorem Tx.app {n m : Nat} {x y : Str} (h : Tx n x) (g : Tx m y) : Tx (n + m) (x ++ y) := by
  have h1 := h.1
  have g1 := g.1
  unfold asciiS at h1 g1
  refine ⟨?_, ?_⟩
  · unfold asciiS
    show (x.cps ++ y.cps).all (· < 128) = true
    rw [Array.all_append, h1, g1]
    rfl
  · show (x.cps ++ y.cps).size ≤ _
    rw [Array.size_append]
    exact Nat.add_le_add h.2 g.2
theorem Tx.sl {n : Nat} {x : Str} (h : Tx n x) (lo hi : Option Int) : Tx n (Txt.slice x lo hi) := by
  refine ⟨?_, Nat.le_trans (Txt.slice_le x _ _) h.2⟩
  have h1 := h.1
  unfold asciiS at h1 ⊢
  unfold Txt.slice
  split
  · exact h1
  · rw [Array.all_eq_true_iff_forall_mem] at h1 ⊢
    intro c hc
    have hc' : c ∈ (Builtin.Str.strSliceIndices lo hi 1 x.length).filterMap (x.cps[·]?) := by simpa using hc
    obtain ⟨i, _, hi⟩ := List.mem_filterMap.mp hc'
    exact h1 c (Array.mem_of_getElem? hi)
theorem Tx.one {c : Nat} (h : c < 128) : Tx 1 ⟨#[c]⟩ := by
  refine ⟨?_, Nat.le_refl _⟩
  unfold asciiS
  show (#[c] : Array Nat).all (· < 128) = true
  rw [Array.all_eq_true_iff_forall_mem]
  intro x hx
  have : x = c := by simpa using hx
  rw [this]
  exact decide_eq_true h
theorem Tx.sz {n : Nat} {z : Str} (h : Tx n z) (l : n ≤ 100000) : z.length ≤ sizeLine := Nat.le_trans h.2 (Nat.le_trans l (by decide))
theorem Tx.back {n : Nat} {z : Str} (h : Tx n z) : Tx n (backS z) := by
  refine ⟨?_, Nat.le_trans (backS_le z) h.2⟩
  have h1 := h.1
  unfold asciiS at h1 ⊢
  unfold backS
  rw [Array.all_eq_true_iff_forall_mem] at h1 ⊢
  intro c hc
  have hc' : c ∈ (Builtin.Str.strSliceIndices none none (-1) z.length).filterMap (z.cps[·]?) := by simpa using hc
  obtain ⟨i, _, hi⟩ := List.mem_filterMap.mp hc'
  exact h1 c (Array.mem_of_getElem? hi)
theorem Tx.tx {L : List Nat} {n : Nat} (h : ∀ c ∈ L, c < 128) (hl : L.length ≤ n) : Tx n (tx L) := by
  refine ⟨?_, by rw [tx_len]; exact hl⟩
  unfold asciiS
  rw [Array.all_eq_true_iff_forall_mem]
  intro c hc
  exact decide_eq_true (h c (by simpa [Lw.tx] using hc))
theorem Tx.list {n : Nat} {z : Str} (h : Tx n z) : ∃ L, z = Lw.tx L ∧ (∀ c ∈ L, c < 128) ∧ L.length ≤ n := by
  refine ⟨z.cps.toList, by unfold Lw.tx; rw [Array.toArray_toList], fun c hc => ?_, by rw [Array.length_toList]; exact h.2⟩
  have h1 := h.1
  unfold asciiS at h1
  rw [Array.all_eq_true_iff_forall_mem] at h1
  exact of_decide_eq_true (h1 c (by simpa using hc))
theorem np {σ : St} {H : Hp} {Q : Option Int → Hp → Prop} (h : Q none H) : tNoPart σ H Q := h
theorem lb5 {n m : Nat} {a b : Str} (h1 : Tx n a) (h2 : Tx m b) (h3 : n + m ≤ 1000000) : a.length + b.length ≤ sizeLine := by
  have := h1.2
  have := h2.2
  exact Nat.le_trans (show _ ≤ 1000000 by omega) (by decide)
noncomputable def SX (xs : List V) : Prop := ∀ x ∈ xs, ∃ z, x = .str z ∧ Tx 500000 z
theorem SX.nil : SX [] := fun x hx => by cases hx
theorem SX.cons {z : Str} {xs : List V} {n : Nat} (h : Tx n z) (l : n ≤ 500000) (t : SX xs) : SX (.str z :: xs) := fun x hx => by
  rcases List.mem_cons.mp hx with rfl | hx
  · exact ⟨z, rfl, h.up l⟩
  · exact t x hx
theorem SX.app {xs ys : List V} (h : SX xs) (t : SX ys) : SX (xs ++ ys) := fun x hx => by
  rcases List.mem_append.mp hx with hx | hx
  · exact h x hx
  · exact t x hx
theorem full_rd {L : List Nat} {pl : Pn} (h : full L = some pl) : rd 12 L = some (pl, []) := by
  unfold full at h
  split at h
  · rename_i p e
    cases h
    exact e
  · cases h
theorem full_wr {pl : Pn} (h : pl.low) (hd : pl.dp ≤ 12) : full (wr pl) = some pl := by
  have := rd_wr (p := pl) (m := 12) [] h hd
  rw [List.append_nil] at this
  unfold full
  rw [this]
section
variable {P : Program} {w : World} {K : PySem.W.Frag} {mg : Str → Option Value} {base : Heap} {f CT : Addr} {fd : FuncData} {mT : List Value}
theorem ok_law (F_law : Fun K "law" "law" s_law f fd) (B : Bl mg) (g__law_draw : Fn P w K mg base "_law_draw" p__law_draw 19 (spDraw K)) (g__law_one : Fn P w K mg base "_law_one" p__law_one 19 (spOneS38 K)) (g__law_plan : Fn P w K mg base "_law_plan" p__law_plan 19 (spPlan38 K 6)) (g__law_comb : Fn P w K mg base "_law_comb" p__law_comb 19 (spComb K)) (g__law_say : Fn P w K mg base "_law_say" p__law_say 19 (spWr K 14)) (g_written : Fn P w K mg base "written" p_written 19 (spWr K 14))
    (g__law_told : Fn P w K mg base "_law_told" p__law_told 19 (spTold38 K)) (g__law_due : Fn P w K mg base "_law_due" p__law_due 19 spDue38) (g__law_or : Fn P w K mg base "_law_or" p__law_or 19 spOr) (g__law_same : Fn P w K mg base "_law_same" p__law_same 19 (spSameS K 16)) : FnOk P w K mg base CX0 20 f fd p_law (spLaw K) := by
  refine F_law.ok sc_law (fun vs H Q E h => ?_) (fun cdv A outer s H vs Q E hr h => ?_)
  · obtain ⟨a, ns, rfl, _⟩ := h
    rfl
  obtain ⟨a, ns, rfl, hS, h63, q⟩ := h
  refine ⟨_, (pss_cons (ps_set (i := 1) sc_law.nd rfl (Or.inr rfl) (pe_lst pa_nil))
      (pss_cons (ps_for PassesOwn.never rfl (pi_range1 rfl B.range_ (pa_cons pe_int pa_nil)) (pg_name (i := 2) sc_law.nd rfl (Or.inl rfl)) (pss_cons (ps_join (ps_set (i := 3) sc_law.nd rfl (Or.inl rfl) (pe_ifExp (pt_cmpR op_eq (pv 2) pe_int (nomark _)) (pe_fn g__law_comb hr (pa_cons (pv 0) (pa_cons (pv 1) (pa_cons pe_int pa_nil)))) (pe_fn g__law_plan hr (pa_cons (pv 0) (pa_cons (pv 1) (pa_cons pe_int pa_nil)))))))
      (pss_cons (ps_set (i := 4) sc_law.nd rfl (Or.inl rfl) (pe_fn g__law_say hr (pa_cons (pv 3) pa_nil)))
      (pss_cons (ps_if (PW.pt (pw_or (pt_not (pt_truth (pe_fn g__law_same hr (pa_cons (pe_fn g_written hr (pa_cons (pv 3) pa_nil)) (pa_cons (pv 4) pa_nil))) (fun _ => rfl))) (pw_or1 (pt_not (pt_truth (pe_fn g__law_same hr (pa_cons (pe_fn g__law_told hr (pa_cons (pv 4) pa_nil)) (pa_cons (pv 3) pa_nil))) (fun _ => rfl)))))) (pss_one (ps_ret pe_bl)) pss_nil)
      (pss_cons (ps_set (i := 5) sc_law.nd rfl (Or.inl rfl) (pe_lst (PB.go (pb_cons (pe_op op_add_str (pv 4) (pv 4)) (pb_cons (pe_op op_add_str pe_str (pv 4)) (pb_cons (pe_op op_add_str (pv 4) pe_str) (pb_cons (pe_sliceS3 (pv 4) po_none po_none (po_some (pe_un un_neg pe_int))) (pb_cons pe_str (pb_cons pe_str (pb_cons pe_str (pb_cons pe_str (pb_cons pe_str pb_nil se_Constant) se_Constant) se_Constant) se_Constant) se_Constant) se_Subscript) se_BinOp) se_BinOp) se_BinOp))))
      (pss_cons (ps_set (i := 5) sc_law.nd rfl (Or.inl rfl) (pe_op op_cat (pv 5) (pe_lst (pa_cons pe_str (pa_cons pe_str (pa_cons pe_str (pa_cons pe_str pa_nil)))))))
      (pss_cons (ps_set (i := 5) sc_law.nd rfl (Or.inl rfl) (pe_op op_cat (pv 5) (pe_comp [] ["_law_script", "_law_town", "_law_k", "_law_made", "_law_text", "_law_texts", "_law_j", "_law_at", "_law_sign", "_law_thing", "_law_many"] 1 rfl (pi_tup (pe_tup (pa_cons pe_int (pa_cons pe_int (pa_cons pe_int pa_nil))))) (fun _ _ _ _ _ => (pg_name (i := 10) nd_2 rfl (Or.inl rfl) (Or.inr rfl))) (fun _ _ _ _ _ => pif_nil) (fun _ _ _ _ _ => (pe_fn g__law_say hr (pa_cons (pe_fn g__law_comb hr (pa_cons (pv 0) (pa_cons (pv 1) (pa_cons (pv 10) pa_nil)))) pa_nil))))))
      (pss_cons (ps_for PassesOwn.never rfl (pi_range1 rfl B.range_ (pa_cons pe_int pa_nil)) (pg_name (i := 6) sc_law.nd rfl (Or.inl rfl)) (pss_cons (ps_set (i := 7) sc_law.nd rfl (Or.inl rfl) (pe_fn g__law_draw hr (pa_cons (pv 0) (pa_cons (pv 1) (pa_cons (pe_op op_add (pe_callB call_len_str rfl B.len_ L3.bt_len (pa_cons (pv 4) pa_nil)) pe_int) pa_nil)))))
      (pss_cons (ps_set (i := 8) sc_law.nd rfl (Or.inl rfl) (pe_fn g__law_one hr (pa_cons (pv 0) (pa_cons (pv 1) (pa_cons pe_str pa_nil)))))
      (pss_cons (ps_set (i := 5) sc_law.nd rfl (Or.inl rfl) (pe_op op_cat (pv 5) (pe_lst (pa_cons (pe_op op_add_str (pe_op op_add_str (pe_slice sl_str (pv 4) po_none (po_some (pv 7))) (pv 8)) (pe_slice sl_str (pv 4) (po_some (pv 7)) po_none)) (pa_cons (pe_op op_add_str (pe_slice sl_str (pv 4) po_none (po_some (pv 7))) (pe_slice sl_str (pv 4) (po_some (pe_op op_add (pv 7) pe_int)) po_none)) (pa_cons (pe_op op_add_str (pe_op op_add_str (pe_slice sl_str (pv 4) po_none (po_some (pv 7))) (pv 8)) (pe_slice sl_str (pv 4) (po_some (pe_op op_add (pv 7) pe_int)) po_none)) pa_nil))))))
      (pss_one (ps_expr (pe_bm PySem.F.plainAttrs_list PySem.F.slot_list_append PySem.F.type_list_append mt_append (pv 5) (pa_cons (pe_op op_add_str (pe_op op_add_str (pe_slice sl_str (pv 4) po_none (po_some (pv 7))) (pe_sliceS3 (pe_slice sl_str (pv 4) (po_some (pv 7)) (po_some (pe_op op_add (pv 7) pe_int))) po_none po_none (po_some (pe_un un_neg pe_int)))) (pe_slice sl_str (pv 4) (po_some (pe_op op_add (pv 7) pe_int)) po_none)) pa_nil))))))))
      (pss_one (ps_for PassesOwn.never rfl (pi_list (pv 5)) (pg_name (i := 9) sc_law.nd rfl (Or.inl rfl)) (pss_one (ps_if (pt_not (pt_truth (pe_fn g__law_same hr (pa_cons (pe_fn g__law_told hr (pa_cons (pv 9) pa_nil)) (pa_cons (pe_fn g__law_or hr (pa_cons (pe_fn g__law_due hr (pa_cons (pv 9) pa_nil)) pa_nil)) pa_nil))) (fun _ => rfl))) (pss_one (ps_ret pe_bl)) pss_nil))))))))))))
      (pss_one (ps_ret pe_bl)))), ?_⟩
  refine ⟨(by show 0 ≤ sizeLine; decide), fun t ft => ?_⟩
  have sT := same_new ft (.lst ([] : List V))
  have hT : Twn (upd H t (.lst [])) t 0 := upd_same
  replace hS := sT.scr hS
  generalize upd H t (.lst []) = H0 at hS hT
  refine ⟨6, rfl, by decide, by decide, for_range (lo := 0) (n := 6) (fun i σ' H' => ∃ (k : Nat) (o2 o3 o4 o5 o6 o7 o8 o9 : Option V), σ' = [some (.ref a), some (.ref t), o2, o3, o4, o5, o6, o7, o8, o9] ∧ Scr K H' a ns ∧ Twn H' t k ∧ k ≤ 400 * i)
    ⟨0, _, _, _, _, _, _, _, _, rfl, hS, hT, by omega⟩ ?_ ?_⟩
  rotate_left
  · rintro σ H1 ⟨k, o2, o3, o4, o5, o6, o7, o8, o9, rfl, hS1, hT1, hk1⟩
    exact q H1
  rintro i σ H1 hi ⟨k, o2, o3, o4, o5, o6, o7, o8, o9, rfl, hS1, hT1, hk1⟩
  have p8 : (2 : Nat) ^ (6 + 2) = 256 := by decide
  -- a plan
  refine ⟨fun σ' H' => ∃ (v : V) (pl : Pn) (k' : Nat), σ' = [some (.ref a), some (.ref t), some (.int (0 + (i : Int))), some v, o4, o5, o6, o7, o8, o9] ∧ Scr K H' a ns ∧ Twn H' t k' ∧ k' ≤ k + 256 ∧ PnAt [] H' pl v ∧ pl.low ∧ pl.dp ≤ 12, ?_, ?_⟩
  rotate_left
  · refine ⟨_, rfl, rfl, _, rfl, ite2 (fun _ => ?_) (fun _ => ?_)⟩
    · refine ⟨_, rfl, _, rfl, a, t, ns, k, 12, rfl, hS1, h63, hT1, by omega, by decide, fun pl v H2 g2 t2 hP hlow hd => ?_⟩
      exact ⟨v, pl, _, rfl, g2.scr hT1 hS1, t2, by omega, hP, hlow, hd⟩
    · refine ⟨_, rfl, _, rfl, a, t, ns, k, rfl, hS1, h63, hT1, by decide, by omega, fun v pl k' H2 g2 t2 hk2 hP hd hlow => ?_⟩
      exact ⟨v, pl, k', rfl, g2.scr hT1 hS1, t2, by omega, hP, hlow, by omega⟩
  rintro σ' H2 ⟨v, pl, k2, rfl, hS2, t2, hk2, hP, hlow, hd⟩
  clear hS1 hT1
  -- its text
  refine ⟨_, rfl, v, pl, rfl, hP.lift, hlow, by omega, by decide, ?_⟩
  have hfull := full_wr hlow hd
  have xZ : Tx 65536 (tx (wr pl)) := Tx.tx (wr_ascii hlow) (wlen (by omega))
  have hLn := wlen (p := pl) (by omega)
  refine ⟨_, rfl, v, pl, rfl, hP.lift, hlow, by omega, by decide, _, rfl, _, _, rfl, .inl ⟨rfl, rfl⟩, fun H3 s3 => ⟨_, rfl, iteF ?_⟩⟩
  refine ⟨_, rfl, wr pl, rfl, by omega, fun pl' H4 y h1 s4 hy => ?_, fun H4 h1 => by rw [hfull] at h1; cases h1⟩
  rw [hfull] at h1
  obtain rfl := Option.some.inj h1
  refine ⟨_, rfl, _, _, rfl, plan_eqv hy (hP.same (s3.trans s4)) (by omega), fun H5 s5 => ⟨_, rfl, iteF ?_⟩⟩
  have s25 := (s3.trans s4).trans s5
  have hS5 := s25.scr hS2
  have t5 := s25.twn t2
  clear s3 s4 s5 hy s25 hS2 t2 hP h1
  generalize tx (wr pl) = Z at *
  have zZ := xZ.sz (by decide)
  have xB : Tx 1 (" " : Str) := ⟨by unfold asciiS; decide +kernel, by decide +kernel⟩
  have xE : Tx 5 ("" : Str) := ⟨by unfold asciiS; decide +kernel, by decide +kernel⟩
  have xq : Tx 5 ("?" : Str) := ⟨by unfold asciiS; decide +kernel, by decide +kernel⟩
  have xs_ : Tx 5 ("*" : Str) := ⟨by unfold asciiS; decide +kernel, by decide +kernel⟩
  have xss : Tx 5 ("**" : Str) := ⟨by unfold asciiS; decide +kernel, by decide +kernel⟩
  have xqs : Tx 5 ("?**" : Str) := ⟨by unfold asciiS; decide +kernel, by decide +kernel⟩
  have x5 : Tx 5 ("??***" : Str) := ⟨by unfold asciiS; decide +kernel, by decide +kernel⟩
  have x6 : Tx 5 ("100." : Str) := ⟨by unfold asciiS; decide +kernel, by decide +kernel⟩
  have x7 : Tx 5 ("007." : Str) := ⟨by unfold asciiS; decide +kernel, by decide +kernel⟩
  have x8 : Tx 5 ("00." : Str) := ⟨by unfold asciiS; decide +kernel, by decide +kernel⟩
  -- texts
  refine ⟨_, rfl, _, rfl, _, _, rfl, rfl, lb5 xZ xZ (by decide), _, rfl, _, _, rfl, rfl, lb5 xB xZ (by decide), _, rfl, _, _, rfl, rfl, lb5 xZ xB (by decide), _, rfl, np (np ⟨1, rfl, -1, rfl, Z, rfl, zZ, rfl, rfl, rfl, (by show 9 ≤ sizeLine; decide), fun L1 f1 => ?_⟩)⟩
  have sx1 : SX [V.str (Z ++ Z), V.str (" " ++ Z), V.str (Z ++ " "), V.str (backS Z), V.str "", V.str "?", V.str "*", V.str "**", V.str "?**"] := .cons (xZ.app xZ) (by decide) (.cons (xB.app xZ) (by decide) (.cons (xZ.app xB) (by decide) (.cons xZ.back (by decide) (.cons xE (by decide) (.cons xq (by decide) (.cons xs_ (by decide) (.cons xss (by decide) (.cons xqs (by decide) .nil))))))))
  have ln1 : [V.str (Z ++ Z), V.str (" " ++ Z), V.str (Z ++ " "), V.str (backS Z), V.str "", V.str "?", V.str "*", V.str "**", V.str "?**"].length = 9 := rfl
  have y1 := same_new f1 (.lst [V.str (Z ++ Z), V.str (" " ++ Z), V.str (Z ++ " "), V.str (backS Z), V.str "", V.str "?", V.str "*", V.str "**", V.str "?**"])
  have w1 : (upd H5 L1 (.lst [V.str (Z ++ Z), V.str (" " ++ Z), V.str (Z ++ " "), V.str (backS Z), V.str "", V.str "?", V.str "*", V.str "**", V.str "?**"])) L1 = some (.lst [V.str (Z ++ Z), V.str (" " ++ Z), V.str (Z ++ " "), V.str (backS Z), V.str "", V.str "?", V.str "*", V.str "**", V.str "?**"]) := upd_same
  generalize [V.str (Z ++ Z), V.str (" " ++ Z), V.str (Z ++ " "), V.str (backS Z), V.str "", V.str "?", V.str "*", V.str "**", V.str "?**"] = xs1 at sx1 ln1 y1 w1 ⊢
  generalize upd H5 L1 (.lst xs1) = H6 at y1 w1 ⊢
  have t6 := y1.twn t5
  refine ⟨_, rfl, (by show 4 ≤ sizeLine; decide), fun L2 f2 => ?_⟩
  have sx2 : SX [V.str "??***", V.str "100.", V.str "007.", V.str "00."] := .cons x5 (by decide) (.cons x6 (by decide) (.cons x7 (by decide) (.cons x8 (by decide) .nil)))
  have ln2 : [V.str "??***", V.str "100.", V.str "007.", V.str "00."].length = 4 := rfl
  have y2 := same_new f2 (.lst [V.str "??***", V.str "100.", V.str "007.", V.str "00."])
  have w2 : (upd H6 L2 (.lst [V.str "??***", V.str "100.", V.str "007.", V.str "00."])) L2 = some (.lst [V.str "??***", V.str "100.", V.str "007.", V.str "00."]) := upd_same
  generalize [V.str "??***", V.str "100.", V.str "007.", V.str "00."] = xs2 at sx2 ln2 y2 w2 ⊢
  generalize upd H6 L2 (.lst xs2) = H7 at y2 w2 ⊢
  have t7 := y2.twn t6
  refine ⟨L1, L2, xs1, xs2, rfl, rfl, y2 _ _ w1, w2, by rw [ln1, ln2]; decide, fun L3 f3 => ?_⟩
  have y3 := same_new f3 (.lst (xs1 ++ xs2))
  have w3 : (upd H7 L3 (.lst (xs1 ++ xs2))) L3 = some (.lst (xs1 ++ xs2)) := upd_same
  have n3 := twn_new t7 f3
  have sx3 := sx1.app sx2
  have ln3 : (xs1 ++ xs2).length = 13 := by rw [List.length_append, ln1, ln2]
  generalize xs1 ++ xs2 = xs3 at sx3 ln3 y3 w3 ⊢
  generalize upd H7 L3 (.lst xs3) = H8 at y3 w3 ⊢
  have t8 := y3.twn t7
  have hS8 := ((y1.trans y2).trans y3).scr hS5
  clear y1 y2 y3 t7 t6 t5 hS5 w1 w2
  -- combs
  refine ⟨_, rfl, (by show 3 ≤ sizeLine; decide), fun pc fc => ?_⟩
  have yc := same_new fc (.tup [V.int 11, V.int 13, V.int 14])
  have wc : (upd H8 pc (.tup [V.int 11, V.int 13, V.int 14])) pc = some (.tup [V.int 11, V.int 13, V.int 14]) := upd_same
  generalize upd H8 pc (.tup [V.int 11, V.int 13, V.int 14]) = H9 at yc wc ⊢
  have t9 := yc.twn t8
  have hS9 := yc.scr hS8
  have w39 := yc _ _ w3
  have npc := twn_tup t9 wc
  refine ⟨pc, rfl, ⟨_, SqT.of wc⟩, comp_tup (xs := [V.int 11, V.int 13, V.int 14]) (fun j acc σ' H' => ∃ (o10 : Option V) (kk : Nat), SX acc ∧ acc.length = j ∧ σ' = [some (.ref a), some (.ref t), some (.int (0 + (i : Int))), some v, some (.str Z), some (.ref L3), o6, o7, o8, o9, o10] ∧ Grow t H9 H' ∧ Scr K H' a ns ∧ Twn H' t kk ∧ kk ≤ k2 + 15 * j) ⟨_, k2, .nil, rfl, rfl, Grow.refl _ _, hS9, t9, by omega⟩
    (fun j acc σ' H' hj h => by
      obtain ⟨_, _, _, e', _⟩ := h
      have : ([V.int 11, V.int 13, V.int 14] : List V).length = 3 := rfl
      omega) (fun j acc σ' H' _ h => by
      obtain ⟨_, _, _, _, _, y, _⟩ := h
      exact SqT.of (y _ _ npc wc)) ?_ ?_⟩
  · rintro j x acc σ' J1 hxj ⟨o10, kk, sxa, hla, rfl, gJ, hSJ, tJ, hkk⟩
    obtain ⟨m, rfl, hm⟩ : ∃ m : Nat, x = .int (m : Int) ∧ m ≤ 14 := by
      match j, hxj with
      | 0, h => exact ⟨11, (Option.some.inj h).symm, by decide⟩
      | 1, h => exact ⟨13, (Option.some.inj h).symm, by decide⟩
      | 2, h => exact ⟨14, (Option.some.inj h).symm, by decide⟩
    have hj3 : j < 3 := (List.getElem?_eq_some_iff.mp hxj).1
    refine ⟨_, rfl, _, rfl, _, rfl, a, t, ns, kk, m, rfl, hSJ, h63, tJ, by omega, hm, fun pl2 v2 J2 g2 tJ2 hP2 hlow2 hd2 => ?_⟩
    refine ⟨v2, pl2, rfl, hP2.lift, hlow2, by omega, by decide, _, _, sxa.app (.cons (Tx.tx (wr_ascii hlow2) (wlen (by omega))) (by decide) .nil), by rw [List.length_append, hla]; rfl, rfl, gJ.trans g2, g2.scr tJ hSJ, tJ2, by omega⟩
  rintro acc σ' J1 D ⟨o10, kk, sxa, hla, rfl, gJ, hSJ, tJ, hkk⟩ fD
  have hla3 : acc.length = 3 := hla
  have yD := same_new fD (.lst acc)
  have wD : (upd J1 D (.lst acc)) D = some (.lst acc) := upd_same
  generalize upd J1 D (.lst acc) = J2 at yD wD ⊢
  have tJ2 := yD.twn tJ
  refine ⟨L3, D, xs3, acc, rfl, rfl, yD _ _ (gJ _ _ n3 w39), wD, by rw [ln3, hla3]; decide, fun L4 f4 => ?_⟩
  have y4 := same_new f4 (.lst (xs3 ++ acc))
  have w4 : (upd J2 L4 (.lst (xs3 ++ acc))) L4 = some (.lst (xs3 ++ acc)) := upd_same
  have n4 := twn_new tJ2 f4
  have sx4 := sx3.app sxa
  have ln4 : (xs3 ++ acc).length ≤ 16 := by rw [List.length_append, ln3, hla3]; exact Nat.le_refl _
  generalize xs3 ++ acc = xs4 at sx4 ln4 y4 w4 ⊢
  generalize upd J2 L4 (.lst xs4) = J3 at y4 w4 ⊢
  have hS3 := (yD.trans y4).scr hSJ
  have t3 := y4.twn tJ2
  have hkk3 : kk ≤ k2 + 45 := hkk
  clear yD y4 tJ2 tJ hSJ gJ w39 t9 hS9 yc wc t8 hS8
  -- bent ones
  refine ⟨8, rfl, by decide, by decide, for_range (lo := 0) (n := 8) (fun j σ' H' => ∃ (LT : Addr) (ys : List V) (k' : Nat) (o6' o7' o8' : Option V), σ' = [some (.ref a), some (.ref t), some (.int (0 + (i : Int))), some v, some (.str Z), some (.ref LT), o6', o7', o8', o9] ∧ Scr K H' a ns ∧ Twn H' t k' ∧ k' ≤ kk + 2 * j ∧ H' LT = some (.lst ys) ∧ LT ≠ t ∧ ys.length ≤ 16 + 4 * j ∧ SX ys)
    ⟨L4, xs4, kk, _, _, _, rfl, hS3, t3, by omega, w4, n4, ln4, sx4⟩ ?_ ?_⟩
  · rintro j σ' J4 hj ⟨LT, ys, k', o6', o7', o8', rfl, hS4, t4, hk', hLT, nLT, hyl, sxy⟩
    refine ⟨_, rfl, _, rfl, _, rfl, Z, rfl, zZ, _, _, rfl, rfl, a, t, ns, k', ((Z.length : Int) + 1), rfl, hS4, h63, t4, by omega, by omega, fun J5 g5 t5 => ?_⟩
    generalize drw ns (k' + 1) ((Z.length : Int) + 1) = dd
    have hS5 := g5.scr t4 hS4
    refine ⟨_, rfl, _, rfl, a, t, ns, k' + 1, rfl, hS5, h63, t5, by omega, fun c J6 hc g6 t6 => ?_⟩
    have hS6 := g6.scr t5 hS5
    have hLT6 := g6 _ _ nLT (g5 _ _ nLT hLT)
    have hc1 : Tx 1 (tx [c]) := Tx.one hc
    generalize tx [c] = W at hc1 ⊢
    have u1 := xZ.sl none (some dd)
    have u2 := xZ.sl (some dd) none
    have u3 := xZ.sl (some (dd + 1)) none
    have u4 := xZ.sl (some dd) (some (dd + 2))
    have u5 := xZ.sl (some (dd + 2)) none
    have v1 := u1.app hc1
    have v2 := v1.app u2
    have v3 := u1.app u3
    have v4 := v1.app u3
    have v5 := (u1.app u4.back).app u5
    refine ⟨_, rfl, _, rfl, _, rfl, _, rfl, _, rfl, zZ, _, rfl, _, _, rfl, rfl, lb5 u1 hc1 (by decide), _, rfl, _, rfl, _, rfl, _, rfl, zZ, _, _, rfl, rfl, lb5 v1 u2 (by decide), ?_⟩
    refine ⟨_, rfl, _, rfl, _, rfl, _, rfl, zZ, _, rfl, _, rfl, _, _, rfl, rfl, _, rfl, _, rfl, zZ, _, _, rfl, rfl, lb5 u1 u3 (by decide), ?_⟩
    refine ⟨_, rfl, _, rfl, _, rfl, _, rfl, zZ, _, rfl, _, _, rfl, rfl, lb5 u1 hc1 (by decide), _, rfl, _, rfl, _, _, rfl, rfl, _, rfl, _, rfl, zZ, _, _, rfl, rfl, lb5 v1 u3 (by decide), (by show 3 ≤ sizeLine; decide), fun lx fl => ?_⟩
    have sx5 : SX [V.str (Txt.slice Z none (some dd) ++ W ++ Txt.slice Z (some dd) none), V.str (Txt.slice Z none (some dd) ++ Txt.slice Z (some (dd + 1)) none), V.str (Txt.slice Z none (some dd) ++ W ++ Txt.slice Z (some (dd + 1)) none)] := .cons v2 (by decide) (.cons v3 (by decide) (.cons v4 (by decide) .nil))
    have ln5 : [V.str (Txt.slice Z none (some dd) ++ W ++ Txt.slice Z (some dd) none), V.str (Txt.slice Z none (some dd) ++ Txt.slice Z (some (dd + 1)) none), V.str (Txt.slice Z none (some dd) ++ W ++ Txt.slice Z (some (dd + 1)) none)].length = 3 := rfl
    have yl := same_new fl (.lst [V.str (Txt.slice Z none (some dd) ++ W ++ Txt.slice Z (some dd) none), V.str (Txt.slice Z none (some dd) ++ Txt.slice Z (some (dd + 1)) none), V.str (Txt.slice Z none (some dd) ++ W ++ Txt.slice Z (some (dd + 1)) none)])
    have wl : (upd J6 lx (.lst [V.str (Txt.slice Z none (some dd) ++ W ++ Txt.slice Z (some dd) none), V.str (Txt.slice Z none (some dd) ++ Txt.slice Z (some (dd + 1)) none), V.str (Txt.slice Z none (some dd) ++ W ++ Txt.slice Z (some (dd + 1)) none)])) lx = some (.lst [V.str (Txt.slice Z none (some dd) ++ W ++ Txt.slice Z (some dd) none), V.str (Txt.slice Z none (some dd) ++ Txt.slice Z (some (dd + 1)) none), V.str (Txt.slice Z none (some dd) ++ W ++ Txt.slice Z (some (dd + 1)) none)]) := upd_same
    generalize [V.str (Txt.slice Z none (some dd) ++ W ++ Txt.slice Z (some dd) none), V.str (Txt.slice Z none (some dd) ++ Txt.slice Z (some (dd + 1)) none), V.str (Txt.slice Z none (some dd) ++ W ++ Txt.slice Z (some (dd + 1)) none)] = xs5 at sx5 ln5 yl wl ⊢
    generalize upd J6 lx (.lst xs5) = J7 at yl wl ⊢
    have t7 := yl.twn t6
    refine ⟨LT, lx, ys, xs5, rfl, rfl, yl _ _ hLT6, wl, Nat.le_trans (show ys.length + xs5.length ≤ 1000 by omega) (by decide), fun L6 f6 => ?_⟩
    have y6 := same_new f6 (.lst (ys ++ xs5))
    have w6 : (upd J7 L6 (.lst (ys ++ xs5))) L6 = some (.lst (ys ++ xs5)) := upd_same
    have n6 := twn_new t7 f6
    have sx6 := sxy.app sx5
    have ln6 : (ys ++ xs5).length ≤ 19 + 4 * j := by rw [List.length_append, ln5]; omega
    generalize ys ++ xs5 = xs6 at sx6 ln6 y6 w6 ⊢
    generalize upd J7 L6 (.lst xs6) = J8 at y6 w6 ⊢
    have t8 := y6.twn t7
    have hS8 := (yl.trans y6).scr hS6
    refine ⟨_, rfl, .inl ⟨rfl, _, SqL.of w6⟩, _, rfl, _, rfl, _, rfl, _, rfl, zZ, _, rfl, _, rfl, _, rfl, _, rfl, _, _, rfl, rfl, _, rfl, _, rfl, zZ, np (np ⟨1, rfl, -1, rfl, _, rfl, u4.sz (by decide), rfl, rfl, rfl, _, _, rfl, rfl, lb5 u1 u4.back (by decide), _, rfl, _, rfl, _, _, rfl, rfl, _, rfl, _, rfl, zZ, _, _, rfl, rfl, lb5 (u1.app u4.back) u5 (by decide), L6, _, _, rfl, rfl, w6, smallL (by omega), ?_⟩)⟩
    have s78 : ∀ o, Same J7 (upd J8 L6 o) := fun o c x e => by
      rw [upd_ne (ne_of_none e f6)]
      exact y6 _ _ e
    exact ⟨L6, _, k' + 1 + 1, _, _, _, rfl, (yl.trans (s78 _)).scr hS6, (s78 _).twn t7, by omega, upd_same, n6, by rw [List.length_append]; show xs6.length + 1 ≤ _; omega, sx6.app (.cons v5 (by decide) .nil)⟩
  rintro σ' J4 ⟨LT, ys, k', o6', o7', o8', rfl, hS4, t4, hk', hLT, nLT, hyl, sxy⟩
  -- all of them
  refine ⟨_, rfl, LT, rfl, ⟨_, SqL.of hLT⟩, for_list (xs := ys) (fun j σ' H' => ∃ (o9' : Option V), σ' = [some (.ref a), some (.ref t), some (.int (0 + (i : Int))), some v, some (.str Z), some (.ref LT), o6', o7', o8', o9'] ∧ Same J4 H') ⟨_, rfl, Same.refl _⟩
    (fun j σ' H' _ h => by
      obtain ⟨_, _, y⟩ := h
      exact SqL.of (y _ _ hLT)) ?_ ?_⟩
  · rintro j x σ' J5 hxj ⟨o9', rfl, sJ⟩
    obtain ⟨z, rfl, hz⟩ := sxy x (List.mem_of_getElem? hxj)
    obtain ⟨L, rfl, has, hL⟩ := hz.list
    have hL2 : L.length ≤ 1000000 := by omega
    cases hf : full L with
    | none =>
      refine ⟨_, rfl, L, rfl, hL2, (fun pl H' y h1 => by rw [hf] at h1; cases h1), fun J6 _ s6 => ?_⟩
      refine ⟨_, rfl, L, rfl, hL2, has, (fun pl H' y h1 => by rw [hf] at h1; cases h1), fun J7 _ s7 => ?_⟩
      refine ⟨.non, rfl, .inl ⟨rfl, ?_⟩⟩
      exact ⟨_, _, rfl, .inl ⟨rfl, rfl⟩, fun J8 s8 => ⟨_, rfl, iteF ⟨_, rfl, ((sJ.trans s6).trans s7).trans s8⟩⟩⟩
    | some pl =>
      have hdp := rd_low 12 (full_rd hf)
      refine ⟨_, rfl, L, rfl, hL2, fun pl1 J6 y1 h1 s6 hy1 => ?_, fun J6 h1 => by rw [hf] at h1; cases h1⟩
      rw [hf] at h1
      obtain rfl := Option.some.inj h1
      refine ⟨_, rfl, L, rfl, hL2, has, fun pl2 J7 y2 h2 s7 hy2 => ?_, fun J7 h2 => by rw [hf] at h2; cases h2⟩
      rw [hf] at h2
      obtain rfl := Option.some.inj h2
      obtain ⟨p2, e2⟩ := hy2.ref
      refine ⟨y2, rfl, .inr ⟨p2, e2, ?_⟩⟩
      exact ⟨_, _, rfl, plan_eqv (hy1.same s7) hy2 (by omega), fun J8 s8 => ⟨_, rfl, iteF ⟨_, rfl, ((sJ.trans s6).trans s7).trans s8⟩⟩⟩
  · rintro σ' J5 ⟨o9', rfl, sJ⟩
    exact ⟨k', _, _, _, _, _, _, _, _, rfl, sJ.scr hS4, sJ.twn t4, by omega⟩
end
section
variable {P : Program} {w : World} {K : PySem.W.Frag} {mg : Str → Option Value} {base : Heap} {f CT : Addr} {fd : FuncData} {mT : List Value}
theorem same_all (F : Fun K "_law_same" "_law_same" s__law_same f fd) (B : Bl mg) (mo : ∀ {k : Nat} {sp : Sp}, FnOk P w K mg base CX0 k f fd p__law_same sp → Fn P w K mg base "_law_same" p__law_same k sp) : ∀ n : Nat, FnOk P w K mg base CX0 n f fd p__law_same (spSameS K n)
  | 0 => ok__law_same0 (sp := spSameS K 0) (fun _ _ _ _ ⟨_, _, _, h, _⟩ => h)
  | n + 1 => ok__law_same1 F B (mo (same_all F B mo n))
theorem plan_all (F : Fun K "_law_plan" "_law_plan" s__law_plan f fd) (B : Bl mg) (gd : ∀ k, 2 ≤ k → Fn P w K mg base "_law_draw" p__law_draw k (spDraw K)) (go : ∀ k, 2 ≤ k → Fn P w K mg base "_law_one" p__law_one k (spOne K)) (mo : ∀ {k : Nat} {sp : Sp}, FnOk P w K mg base CX0 k f fd p__law_plan sp → Fn P w K mg base "_law_plan" p__law_plan k sp) : ∀ n : Nat, FnOk P w K mg base CX0 (n + 3) f fd p__law_plan (spPlan38 K n)
  | 0 => ok__law_plan (lv := 2) (n := 0) F B (gd 2 (by decide)) (go 2 (by decide)) (mo ((ok__law_same0 (sp := fun _ _ _ _ => False) (fun _ _ _ _ h => h)).mono (show 0 ≤ 2 by decide))) (fun m vs H Q E e => by cases e)
  | n + 1 => ok__law_plan (lv := n + 3) (n := n + 1) F B (gd _ (by omega)) (go _ (by omega)) (mo (plan_all F B gd go mo n)) (fun m vs H Q E e h => by cases e; exact h)
theorem wr_all (F : Fun K "written" "written" s_written f fd) (B : Bl mg) (mo : ∀ {k : Nat} {sp : Sp}, FnOk P w K mg base CX0 k f fd p_written sp → Fn P w K mg base "written" p_written k sp) : ∀ n : Nat, FnOk P w K mg base CX0 (n + 1) f fd p_written (spWr K n)
  | 0 => ok_written (lv := 0) (n := 0) F B (mo (ok__law_same0 (sp := fun _ _ _ _ => False) (fun _ _ _ _ h => h))) (fun m vs H Q E e => by cases e)
  | n + 1 => ok_written (lv := n + 1) (n := n + 1) F B (mo (wr_all F B mo n)) (fun m vs H Q E e h => by cases e; exact h)
theorem say_all (F : Fun K "_law_say" "_law_say" s__law_say f fd) (B : Bl mg) (mo : ∀ {k : Nat} {sp : Sp}, FnOk P w K mg base CX0 k f fd p__law_say sp → Fn P w K mg base "_law_say" p__law_say k sp) : ∀ n : Nat, FnOk P w K mg base CX0 (n + 1) f fd p__law_say (spWr K n)
  | 0 => ok__law_say (lv := 0) (n := 0) F B (mo (ok__law_same0 (sp := fun _ _ _ _ => False) (fun _ _ _ _ h => h))) (fun m vs H Q E e => by cases e)
  | n + 1 => ok__law_say (lv := n + 1) (n := n + 1) F B (mo (say_all F B mo n)) (fun m vs H Q E e h => by cases e; exact h)
theorem lr_all (F : Fun K "_law_read" "_law_read" s__law_read f fd) (B : Bl mg) (mo : ∀ {k : Nat} {sp : Sp}, FnOk P w K mg base CX0 k f fd p__law_read sp → Fn P w K mg base "_law_read" p__law_read k sp) : ∀ n : Nat, FnOk P w K mg base CX0 (n + 1) f fd p__law_read (spLR n)
  | 0 => ok__law_read (lv := 0) (m := 0) F B (mo (ok__law_same0 (sp := fun _ _ _ _ => False) (fun _ _ _ _ h => h))) (fun m vs H Q E e => by cases e)
  | n + 1 => ok__law_read (lv := n + 1) (m := n + 1) F B (mo (lr_all F B mo n)) (fun m vs H Q E e h => by cases e; exact h)
theorem rp_all {fN : Addr} {dN : FuncData} (F : Fun K "read_part" "read_part" s_read_part f fd) (C' : Cn K mg) (X : Exc K mg "NoText" CT mT) (rn : ∀ k, 2 ≤ k → FnX P w K mg base "read_number" fN dN p_read_number k (spRN K CT)) (mo : ∀ {k : Nat} {sp : Sp}, FnOk P w K mg base (CXR P w) k f fd p_read_part sp → FnX P w K mg base "read_part" f fd p_read_part k sp) : ∀ n : Nat, FnOk P w K mg base (CXR P w) (n + 3) f fd p_read_part (spRP K CT n)
  | 0 => ok_read_part (lv := 2) (m := 0) F C' X (rn 2 (by decide)) (mo (⟨fun _ _ _ _ h => h.elim, fun _ _ _ _ _ _ _ _ _ _ _ _ _ h => h.elim⟩ : FnOk P w K mg base (CXR P w) 2 f fd p_read_part (fun _ _ _ _ => False))) (fun m vs H Q E e => by cases e)
  | n + 1 => ok_read_part (lv := n + 3) (m := n + 1) F C' X (rn _ (by omega)) (mo (rp_all F C' X rn mo n)) (fun m vs H Q E e h => by cases e; exact h)
end
theorem lenS {us : List Value} {n : Nat} (h : us.length = n + 1) : ∃ a t, us = a :: t ∧ t.length = n := by
  cases us with
  | nil => cases h
  | cons a t => exact ⟨a, t, rfl, Nat.succ.inj h⟩
theorem lenU0 {us : List Value} (h : us.length = 0) : us = [] := List.eq_nil_of_length_eq_zero h
theorem lenU1 {us : List Value} (h : us.length = 1) : ∃ a0, us = [a0] := by
  obtain ⟨a0, t, rfl, h2⟩ := lenS h
  obtain ⟨rfl⟩ := lenU0 h2
  exact ⟨a0, rfl⟩
theorem lenU2 {us : List Value} (h : us.length = 2) : ∃ a0 a1, us = [a0, a1] := by
  obtain ⟨a0, t, rfl, h2⟩ := lenS h
  obtain ⟨a1, rfl⟩ := lenU1 h2
  exact ⟨a0, a1, rfl⟩
theorem lenU3 {us : List Value} (h : us.length = 3) : ∃ a0 a1 a2, us = [a0, a1, a2] := by
  obtain ⟨a0, t, rfl, h2⟩ := lenS h
  obtain ⟨a1, a2, rfl⟩ := lenU2 h2
  exact ⟨a0, a1, a2, rfl⟩
theorem all_mk {l : PySem.W.OpenLaw} {w : World} {K : PySem.W.Frag} {h : Heap} {mg : Str → Option Value} {fa f1 f2 f3 f4 f5 f6 f7 f8 f9 f10 f11 f12 f13 f14 f15 gt3 e_NoText : Addr} (X : K.In h) (G : h.Ns mainGlobals mg) (hfa : mg "law" = some (.ref fa))
    {od1 an1 od2 an2 od3 an3 od4 an4 od5 an5 od6 an6 od7 an7 od8 an8 od9 an9 od10 an10 od11 an11 od12 an12 od13 an13 od14 an14 od15 an15 gd3 xo_NoText : Option Addr} {sl1 sl2 sl3 sl4 sl5 sl6 sl7 sl8 sl9 sl10 sl11 sl12 sl13 sl14 sl15 gs3 xs_NoText : Array (Option Value)} {oc1 kV1 dc1 pm1 cd1 ct1 oc2 kV2 dc2 pm2 cd2 ct2 oc3 kV3 dc3 pm3 cd3 ct3 oc4 kV4 dc4 pm4 cd4 ct4 oc5 kV5 dc5 pm5 cd5 ct5 oc6 kV6 dc6 pm6 cd6 ct6 oc7 kV7 dc7 pm7 cd7 ct7 oc8 kV8 dc8 pm8 cd8 ct8 oc9 kV9 dc9 pm9 cd9 ct9 oc10 kV10 dc10 pm10 cd10 ct10 oc11 kV11 dc11 pm11 cd11 ct11 oc12 kV12 dc12 pm12 cd12 ct12 oc13 kV13 dc13 pm13 cd13 ct13 oc14 kV14 dc14 pm14 cd14 ct14 oc15 kV15 dc15 pm15 cd15 ct15 xc_NoText : Value} {ed_NoText : ClassData} {w1 w2 tk3_0 : Tok} {gn3 : Nat}
    (a1 : PySem.W.nsIn K mainGlobals "written" = some (some (.ref f1))) (l1 : K.lookup f1 = some ⟨oc1, od1, .func (PySem.W.fnOf "written" "written" (defArgs s_written) (defBody s_written) (defScope s_written) .none kV1 dc1 pm1 an1 cd1 ct1), sl1⟩) (c1 : PySem.W.codeIn K cd1 "written" = true) (k1 : PySem.W.keepIn K (.ref f1) = true)
    (a2 : PySem.W.nsIn K mainGlobals "read" = some (some (.ref f2))) (l2 : K.lookup f2 = some ⟨oc2, od2, .func (PySem.W.fnOf "read" "read" (defArgs s_read) (defBody s_read) (defScope s_read) .none kV2 dc2 pm2 an2 cd2 ct2), sl2⟩) (c2 : PySem.W.codeIn K cd2 "read" = true) (k2 : PySem.W.keepIn K (.ref f2) = true)
    (a3 : PySem.W.nsIn K mainGlobals "read_part" = some (some (.ref f3))) (l3 : K.lookup f3 = some ⟨oc3, od3, .func (PySem.W.fnOf "read_part" "read_part" (defArgs s_read_part) (defBody s_read_part) (defScope s_read_part) .none kV3 dc3 pm3 an3 cd3 ct3), sl3⟩) (c3 : PySem.W.codeIn K cd3 "read_part" = true) (k3 : PySem.W.keepIn K (.ref f3) = true)
    (a4 : PySem.W.nsIn K mainGlobals "read_number" = some (some (.ref f4))) (l4 : K.lookup f4 = some ⟨oc4, od4, .func (PySem.W.fnOf "read_number" "read_number" (defArgs s_read_number) (defBody s_read_number) (defScope s_read_number) .none kV4 dc4 pm4 an4 cd4 ct4), sl4⟩) (c4 : PySem.W.codeIn K cd4 "read_number" = true) (k4 : PySem.W.keepIn K (.ref f4) = true)
    (a5 : PySem.W.nsIn K mainGlobals "_law_same" = some (some (.ref f5))) (l5 : K.lookup f5 = some ⟨oc5, od5, .func (PySem.W.fnOf "_law_same" "_law_same" (defArgs s__law_same) (defBody s__law_same) (defScope s__law_same) .none kV5 dc5 pm5 an5 cd5 ct5), sl5⟩) (c5 : PySem.W.codeIn K cd5 "_law_same" = true) (k5 : PySem.W.keepIn K (.ref f5) = true)
    (a6 : PySem.W.nsIn K mainGlobals "_law_or" = some (some (.ref f6))) (l6 : K.lookup f6 = some ⟨oc6, od6, .func (PySem.W.fnOf "_law_or" "_law_or" (defArgs s__law_or) (defBody s__law_or) (defScope s__law_or) .none kV6 dc6 pm6 an6 cd6 ct6), sl6⟩) (c6 : PySem.W.codeIn K cd6 "_law_or" = true) (k6 : PySem.W.keepIn K (.ref f6) = true)
    (a7 : PySem.W.nsIn K mainGlobals "_law_draw" = some (some (.ref f7))) (l7 : K.lookup f7 = some ⟨oc7, od7, .func (PySem.W.fnOf "_law_draw" "_law_draw" (defArgs s__law_draw) (defBody s__law_draw) (defScope s__law_draw) .none kV7 dc7 pm7 an7 cd7 ct7), sl7⟩) (c7 : PySem.W.codeIn K cd7 "_law_draw" = true) (k7 : PySem.W.keepIn K (.ref f7) = true)
    (a8 : PySem.W.nsIn K mainGlobals "_law_one" = some (some (.ref f8))) (l8 : K.lookup f8 = some ⟨oc8, od8, .func (PySem.W.fnOf "_law_one" "_law_one" (defArgs s__law_one) (defBody s__law_one) (defScope s__law_one) .none kV8 dc8 pm8 an8 cd8 ct8), sl8⟩) (c8 : PySem.W.codeIn K cd8 "_law_one" = true) (k8 : PySem.W.keepIn K (.ref f8) = true)
    (a9 : PySem.W.nsIn K mainGlobals "_law_plan" = some (some (.ref f9))) (l9 : K.lookup f9 = some ⟨oc9, od9, .func (PySem.W.fnOf "_law_plan" "_law_plan" (defArgs s__law_plan) (defBody s__law_plan) (defScope s__law_plan) .none kV9 dc9 pm9 an9 cd9 ct9), sl9⟩) (c9 : PySem.W.codeIn K cd9 "_law_plan" = true) (k9 : PySem.W.keepIn K (.ref f9) = true)
    (a10 : PySem.W.nsIn K mainGlobals "_law_told" = some (some (.ref f10))) (l10 : K.lookup f10 = some ⟨oc10, od10, .func (PySem.W.fnOf "_law_told" "_law_told" (defArgs s__law_told) (defBody s__law_told) (defScope s__law_told) .none kV10 dc10 pm10 an10 cd10 ct10), sl10⟩) (c10 : PySem.W.codeIn K cd10 "_law_told" = true) (k10 : PySem.W.keepIn K (.ref f10) = true)
    (a11 : PySem.W.nsIn K mainGlobals "_law_say" = some (some (.ref f11))) (l11 : K.lookup f11 = some ⟨oc11, od11, .func (PySem.W.fnOf "_law_say" "_law_say" (defArgs s__law_say) (defBody s__law_say) (defScope s__law_say) .none kV11 dc11 pm11 an11 cd11 ct11), sl11⟩) (c11 : PySem.W.codeIn K cd11 "_law_say" = true) (k11 : PySem.W.keepIn K (.ref f11) = true)
    (a12 : PySem.W.nsIn K mainGlobals "_law_read" = some (some (.ref f12))) (l12 : K.lookup f12 = some ⟨oc12, od12, .func (PySem.W.fnOf "_law_read" "_law_read" (defArgs s__law_read) (defBody s__law_read) (defScope s__law_read) .none kV12 dc12 pm12 an12 cd12 ct12), sl12⟩) (c12 : PySem.W.codeIn K cd12 "_law_read" = true) (k12 : PySem.W.keepIn K (.ref f12) = true)
    (a13 : PySem.W.nsIn K mainGlobals "_law_due" = some (some (.ref f13))) (l13 : K.lookup f13 = some ⟨oc13, od13, .func (PySem.W.fnOf "_law_due" "_law_due" (defArgs s__law_due) (defBody s__law_due) (defScope s__law_due) .none kV13 dc13 pm13 an13 cd13 ct13), sl13⟩) (c13 : PySem.W.codeIn K cd13 "_law_due" = true) (k13 : PySem.W.keepIn K (.ref f13) = true)
    (a14 : PySem.W.nsIn K mainGlobals "_law_comb" = some (some (.ref f14))) (l14 : K.lookup f14 = some ⟨oc14, od14, .func (PySem.W.fnOf "_law_comb" "_law_comb" (defArgs s__law_comb) (defBody s__law_comb) (defScope s__law_comb) .none kV14 dc14 pm14 an14 cd14 ct14), sl14⟩) (c14 : PySem.W.codeIn K cd14 "_law_comb" = true) (k14 : PySem.W.keepIn K (.ref f14) = true)
    (a15 : PySem.W.nsIn K mainGlobals "law" = some (some (.ref f15))) (l15 : K.lookup f15 = some ⟨oc15, od15, .func (PySem.W.fnOf "law" "law" (defArgs s_law) (defBody s_law) (defScope s_law) .none kV15 dc15 pm15 an15 cd15 ct15), sl15⟩) (c15 : PySem.W.codeIn K cd15 "law" = true) (k15 : PySem.W.keepIn K (.ref f15) = true)
    (z1 : PySem.W.nsIn K mainGlobals "all" = some none)
    (z2 : PySem.W.nsIn K mainGlobals "bool" = some none)
    (z3 : PySem.W.nsIn K mainGlobals "int" = some none)
    (z4 : PySem.W.nsIn K mainGlobals "isinstance" = some none)
    (z5 : PySem.W.nsIn K mainGlobals "len" = some none)
    (z6 : PySem.W.nsIn K mainGlobals "range" = some none)
    (z7 : PySem.W.nsIn K mainGlobals "str" = some none)
    (z8 : PySem.W.nsIn K mainGlobals "tuple" = some none)
    (z9 : PySem.W.nsIn K mainGlobals "zip" = some none)
    (v1 : PySem.W.nsIn K mainGlobals "GREATEST_NUMBER" = some (some (.int 99 w1)))
    (v2 : PySem.W.nsIn K mainGlobals "MOST_ASKS" = some (some (.int 12 w2)))
    (v3 : PySem.W.nsIn K mainGlobals "AGAIN" = some (some (.ref gt3))) (u3 : K.lookup gt3 = some ⟨.type "tuple", gd3, .seq #[.str "again" tk3_0] gn3, gs3⟩)
    (xa_NoText : PySem.W.nsIn K mainGlobals "NoText" = some (some (.ref e_NoText))) (xl_NoText : K.lookup e_NoText = some ⟨xc_NoText, xo_NoText, .cls ed_NoText, xs_NoText⟩) (xi_NoText : PySem.W.excIn K e_NoText [.type "ValueError", .type "Exception", .type "BaseException", .type "object"] "ValueError.__new__" = true)
    (xm_NoText_NoText : ed_NoText.mro.contains (.ref e_NoText) = true) :
    ∃ fd : FuncData, (∀ (s : Shared) (v : Value), BindsTo s fd ⟨[v], []⟩ [("_law_script", v)]) ∧ ∀ base : Heap, K.In base → base.Ns mainGlobals mg → FnOk l.prog w K mg base CX0 20 fa fd ["_law_script"] (spLaw K) := by
  have e := hfa.symm.trans (PySem.W.mg_of X G a15)
  cases e
  have B : Bl mg := ⟨PySem.W.mg_none_of X G z1, PySem.W.mg_none_of X G z2, PySem.W.mg_none_of X G z3, PySem.W.mg_none_of X G z4, PySem.W.mg_none_of X G z5, PySem.W.mg_none_of X G z6, PySem.W.mg_none_of X G z7, PySem.W.mg_none_of X G z8, PySem.W.mg_none_of X G z9⟩
  have C : Cn K mg := ⟨⟨_, PySem.W.mg_of X G v1⟩, ⟨_, PySem.W.mg_of X G v2⟩, ⟨_, PySem.W.mg_of X G v3, fun _ => .inr ⟨_, _, _, u3, rfl, rfl, by show 1 ≤ sizeLine; decide, .cons ⟨_, rfl⟩ (.nil)⟩⟩⟩
  have F_written := fun_mk (st := s_written) l1 c1 k1
  have F_read := fun_mk (st := s_read) l2 c2 k2
  have F_read_part := fun_mk (st := s_read_part) l3 c3 k3
  have F_read_number := fun_mk (st := s_read_number) l4 c4 k4
  have F__law_same := fun_mk (st := s__law_same) l5 c5 k5
  have F__law_or := fun_mk (st := s__law_or) l6 c6 k6
  have F__law_draw := fun_mk (st := s__law_draw) l7 c7 k7
  have F__law_one := fun_mk (st := s__law_one) l8 c8 k8
  have F__law_plan := fun_mk (st := s__law_plan) l9 c9 k9
  have F__law_told := fun_mk (st := s__law_told) l10 c10 k10
  have F__law_say := fun_mk (st := s__law_say) l11 c11 k11
  have F__law_read := fun_mk (st := s__law_read) l12 c12 k12
  have F__law_due := fun_mk (st := s__law_due) l13 c13 k13
  have F__law_comb := fun_mk (st := s__law_comb) l14 c14 k14
  have F_law := fun_mk (st := s_law) l15 c15 k15
  have X_NoText : Exc K mg "NoText" e_NoText ed_NoText.mro := ⟨PySem.W.mg_of X G xa_NoText, xi_NoText, _, _, _, _, xl_NoText, rfl⟩
  have b_written := F_written.binds (ps := p_written) fun _ _ _ _ _ _ us hl => (by obtain ⟨_, rfl⟩ := lenU1 hl; rfl)
  have b_read := F_read.binds (ps := p_read) fun _ _ _ _ _ _ us hl => (by obtain ⟨_, rfl⟩ := lenU1 hl; rfl)
  have b_read_part := F_read_part.binds (ps := p_read_part) fun _ _ _ _ _ _ us hl => (by obtain ⟨_, _, _, rfl⟩ := lenU3 hl; rfl)
  have b_read_number := F_read_number.binds (ps := p_read_number) fun _ _ _ _ _ _ us hl => (by obtain ⟨_, _, rfl⟩ := lenU2 hl; rfl)
  have b__law_same := F__law_same.binds (ps := p__law_same) fun _ _ _ _ _ _ us hl => (by obtain ⟨_, _, rfl⟩ := lenU2 hl; rfl)
  have b__law_or := F__law_or.binds (ps := p__law_or) fun _ _ _ _ _ _ us hl => (by obtain ⟨_, rfl⟩ := lenU1 hl; rfl)
  have b__law_draw := F__law_draw.binds (ps := p__law_draw) fun _ _ _ _ _ _ us hl => (by obtain ⟨_, _, _, rfl⟩ := lenU3 hl; rfl)
  have b__law_one := F__law_one.binds (ps := p__law_one) fun _ _ _ _ _ _ us hl => (by obtain ⟨_, _, _, rfl⟩ := lenU3 hl; rfl)
  have b__law_plan := F__law_plan.binds (ps := p__law_plan) fun _ _ _ _ _ _ us hl => (by obtain ⟨_, _, _, rfl⟩ := lenU3 hl; rfl)
  have b__law_told := F__law_told.binds (ps := p__law_told) fun _ _ _ _ _ _ us hl => (by obtain ⟨_, rfl⟩ := lenU1 hl; rfl)
  have b__law_say := F__law_say.binds (ps := p__law_say) fun _ _ _ _ _ _ us hl => (by obtain ⟨_, rfl⟩ := lenU1 hl; rfl)
  have b__law_read := F__law_read.binds (ps := p__law_read) fun _ _ _ _ _ _ us hl => (by obtain ⟨_, _, rfl⟩ := lenU2 hl; rfl)
  have b__law_due := F__law_due.binds (ps := p__law_due) fun _ _ _ _ _ _ us hl => (by obtain ⟨_, rfl⟩ := lenU1 hl; rfl)
  have b__law_comb := F__law_comb.binds (ps := p__law_comb) fun _ _ _ _ _ _ us hl => (by obtain ⟨_, _, _, rfl⟩ := lenU3 hl; rfl)
  have b_law := F_law.binds (ps := p_law) fun _ _ _ _ _ _ us hl => (by obtain ⟨_, rfl⟩ := lenU1 hl; rfl)
  refine ⟨PySem.W.fnOf "law" "law" (defArgs s_law) (defBody s_law) (defScope s_law) .none kV15 dc15 pm15 an15 cd15 ct15, fun s v => .of_eq rfl, fun base _ _ => ?_⟩
  have m_written := fun {sp : Sp} {j : Nat} (O : FnOk l.prog w K mg base CX0 j f1 _ p_written sp) => Fn.of (x := "written") O (PySem.W.mg_of X G a1) k1 b_written
  have m_read := fun {sp : Sp} {j : Nat} (O : FnOk l.prog w K mg base (CXR l.prog w) j f2 _ p_read sp) => FnX.mk (x := "read") O (PySem.W.mg_of X G a2) k2 b_read
  have m_read_part := fun {sp : Sp} {j : Nat} (O : FnOk l.prog w K mg base (CXR l.prog w) j f3 _ p_read_part sp) => FnX.mk (x := "read_part") O (PySem.W.mg_of X G a3) k3 b_read_part
  have m_read_number := fun {sp : Sp} {j : Nat} (O : FnOk l.prog w K mg base (CXR l.prog w) j f4 _ p_read_number sp) => FnX.mk (x := "read_number") O (PySem.W.mg_of X G a4) k4 b_read_number
  have m__law_same := fun {sp : Sp} {j : Nat} (O : FnOk l.prog w K mg base CX0 j f5 _ p__law_same sp) => Fn.of (x := "_law_same") O (PySem.W.mg_of X G a5) k5 b__law_same
  have m__law_or := fun {sp : Sp} {j : Nat} (O : FnOk l.prog w K mg base CX0 j f6 _ p__law_or sp) => Fn.of (x := "_law_or") O (PySem.W.mg_of X G a6) k6 b__law_or
  have m__law_draw := fun {sp : Sp} {j : Nat} (O : FnOk l.prog w K mg base CX0 j f7 _ p__law_draw sp) => Fn.of (x := "_law_draw") O (PySem.W.mg_of X G a7) k7 b__law_draw
  have m__law_one := fun {sp : Sp} {j : Nat} (O : FnOk l.prog w K mg base CX0 j f8 _ p__law_one sp) => Fn.of (x := "_law_one") O (PySem.W.mg_of X G a8) k8 b__law_one
  have m__law_plan := fun {sp : Sp} {j : Nat} (O : FnOk l.prog w K mg base CX0 j f9 _ p__law_plan sp) => Fn.of (x := "_law_plan") O (PySem.W.mg_of X G a9) k9 b__law_plan
  have m__law_told := fun {sp : Sp} {j : Nat} (O : FnOk l.prog w K mg base CX0 j f10 _ p__law_told sp) => Fn.of (x := "_law_told") O (PySem.W.mg_of X G a10) k10 b__law_told
  have m__law_say := fun {sp : Sp} {j : Nat} (O : FnOk l.prog w K mg base CX0 j f11 _ p__law_say sp) => Fn.of (x := "_law_say") O (PySem.W.mg_of X G a11) k11 b__law_say
  have m__law_read := fun {sp : Sp} {j : Nat} (O : FnOk l.prog w K mg base CX0 j f12 _ p__law_read sp) => Fn.of (x := "_law_read") O (PySem.W.mg_of X G a12) k12 b__law_read
  have m__law_due := fun {sp : Sp} {j : Nat} (O : FnOk l.prog w K mg base CX0 j f13 _ p__law_due sp) => Fn.of (x := "_law_due") O (PySem.W.mg_of X G a13) k13 b__law_due
  have m__law_comb := fun {sp : Sp} {j : Nat} (O : FnOk l.prog w K mg base CX0 j f14 _ p__law_comb sp) => Fn.of (x := "_law_comb") O (PySem.W.mg_of X G a14) k14 b__law_comb
  have q_draw := m__law_draw (ok__law_draw F__law_draw B)
  have o_one := ok__law_one (P := l.prog) (w := w) (base := base) F__law_one B q_draw
  have dr := fun (j : Nat) (h : 2 ≤ j) => m__law_draw ((ok__law_draw (P := l.prog) (w := w) (base := base) F__law_draw B).mono (show 1 ≤ j by omega))
  have on := fun (j : Nat) (h : 2 ≤ j) => m__law_one (o_one.mono h)
  have q_oneS := m__law_one ((ok__law_oneS (P := l.prog) (w := w) (base := base) F__law_one B q_draw).mono (show 2 ≤ 19 by decide))
  have q_s := m__law_same ((same_all (P := l.prog) (w := w) (base := base) F__law_same B m__law_same 16).mono (show 16 ≤ 19 by decide))
  have o_p := plan_all (P := l.prog) (w := w) (base := base) F__law_plan B dr on m__law_plan
  have q_pl := m__law_plan ((o_p 6).mono (show 9 ≤ 19 by decide))
  have q_cm := m__law_comb ((ok__law_comb (P := l.prog) (w := w) (base := base) F__law_comb B q_draw).mono (show 2 ≤ 19 by decide))
  have o_w := wr_all (P := l.prog) (w := w) (base := base) F_written B m_written
  have o_y := say_all (P := l.prog) (w := w) (base := base) F__law_say B m__law_say
  have q_w := m_written ((o_w 14).mono (show 15 ≤ 19 by decide))
  have q_y := m__law_say ((o_y 14).mono (show 15 ≤ 19 by decide))
  have o_rn := ok_read_number (P := l.prog) (w := w) (base := base) F_read_number B C X_NoText (m_written (o_w 0))
  have rn := fun (j : Nat) (h : 2 ≤ j) => m_read_number (o_rn.mono h)
  have o_rp := rp_all (P := l.prog) (w := w) (base := base) F_read_part C X_NoText rn m_read_part
  have q_rd := m_read (ok_read F_read B C X_NoText (m_read_part (o_rp 12)))
  have q_to := m__law_told ((ok__law_told F__law_told X_NoText xm_NoText_NoText q_rd).mono (show 17 ≤ 19 by decide))
  have o_lr := lr_all (P := l.prog) (w := w) (base := base) F__law_read B m__law_read
  have q_du := m__law_due ((ok__law_due F__law_due (m__law_read ((o_lr 12).mono (show 13 ≤ 17 by decide)))).mono (show 18 ≤ 19 by decide))
  have q_or := m__law_or ((ok__law_or (P := l.prog) (w := w) (base := base) F__law_or).mono (show 1 ≤ 19 by decide))
  exact ok_law F_law B (dr 19 (by decide)) q_oneS q_pl q_cm q_y q_w q_to q_du q_or q_s
theorem walk {l : PySem.W.OpenLaw} {q : Program} {loose : List Str} {XP : (Str → Option Value) → Heap → Prop} {YP : World → Heap → Prop} {d : DefRec} {K : Params → PySem.W.Frag} (hn : l.most = some 63) (hdf : d.params.defaults = [])
    (hY : ∀ (w : World) (h : Heap), YP w h → (K w.params).In h)
    (F : ∀ (w : World) (mg : Str → Option Value) (fa : Addr) (h : Heap), (K w.params).In h → h.Ns mainGlobals mg → mg d.name = some (.ref fa) →
      ∃ fd : FuncData, (∀ (s : Shared) (u : Value), BindsTo s fd ⟨[u], []⟩ [("_law_script", u)]) ∧ ∀ base : Heap, (K w.params).In base → base.Ns mainGlobals mg → FnOk l.prog w (K w.params) mg base CX0 20 fa fd ["_law_script"] (spLaw (K w.params))) :
    PySem.W.WalkO q loose XP YP l.row.toRowW d [] (fun f vs => PySem.call f vs) :=
  L2.walk_of (n := 63) (k := 20) (x := "_law_script") (CX := fun _ => CX0) (sp := fun w => spLaw (K w.params)) hn (by decide) hdf ⟨rfl, by decide, by decide⟩ hY F (fun _ _ a ns hl hO hS => ⟨a, ns, rfl, Scr.of hS hO, hl, fun _ => rfl⟩) fun _ _ _ _ _ z => z
end Lw
open PySem PySem.W PyProof.Rows
set_option maxRecDepth 100000 in
set_option maxHeartbeats 0 in
theorem PySem.Challenge.cw_bitdraws_k38_whole_plans_as_texts_holds : PySem.Challenge.rw_bitdraws_k38_whole_plans_as_texts.Holds := by
  w_on; o_law; k_head; (case hw => w_witness2)
  k_fill
  refine Lw.walk (l := PySem.Challenge.rw_bitdraws_k38_whole_plans_as_texts) rfl rfl (fun w h Y => PySem.W.kIn_of Y) ?F
  case F =>
    intro w mg fa h KX G hmg
    refine' Lw.all_mk KX G hmg ?a1 ?l1 ?c1 ?k1 ?a2 ?l2 ?c2 ?k2 ?a3 ?l3 ?c3 ?k3 ?a4 ?l4 ?c4 ?k4 ?a5 ?l5 ?c5 ?k5 ?a6 ?l6 ?c6 ?k6 ?a7 ?l7 ?c7 ?k7 ?a8 ?l8 ?c8 ?k8 ?a9 ?l9 ?c9 ?k9 ?a10 ?l10 ?c10 ?k10 ?a11 ?l11 ?c11 ?k11 ?a12 ?l12 ?c12 ?k12 ?a13 ?l13 ?c13 ?k13 ?a14 ?l14 ?c14 ?k14 ?a15 ?l15 ?c15 ?k15 ?z1 ?z2 ?z3 ?z4 ?z5 ?z6 ?z7 ?z8 ?z9 ?v1 ?v2 ?v3 ?u3 ?xa_NoText ?xl_NoText ?xi_NoText ?xm_NoText_NoText
    (case a1 => k_is)
    (case l1 => k_is)
    (case c1 => k_is)
    (case k1 => k_is)
    (case a2 => k_is)
    (case l2 => k_is)
    (case c2 => k_is)
    (case k2 => k_is)
    (case a3 => k_is)
    (case l3 => k_is)
    (case c3 => k_is)
    (case k3 => k_is)
    (case a4 => k_is)
    (case l4 => k_is)
    (case c4 => k_is)
    (case k4 => k_is)
    (case a5 => k_is)
    (case l5 => k_is)
    (case c5 => k_is)
    (case k5 => k_is)
    (case a6 => k_is)
    (case l6 => k_is)
    (case c6 => k_is)
    (case k6 => k_is)
    (case a7 => k_is)
    (case l7 => k_is)
    (case c7 => k_is)
    (case k7 => k_is)
    (case a8 => k_is)
    (case l8 => k_is)
    (case c8 => k_is)
    (case k8 => k_is)
    (case a9 => k_is)
    (case l9 => k_is)
    (case c9 => k_is)
    (case k9 => k_is)
    (case a10 => k_is)
    (case l10 => k_is)
    (case c10 => k_is)
    (case k10 => k_is)
    (case a11 => k_is)
    (case l11 => k_is)
    (case c11 => k_is)
    (case k11 => k_is)
    (case a12 => k_is)
    (case l12 => k_is)
    (case c12 => k_is)
    (case k12 => k_is)
    (case a13 => k_is)
    (case l13 => k_is)
    (case c13 => k_is)
    (case k13 => k_is)
    (case a14 => k_is)
    (case l14 => k_is)
    (case c14 => k_is)
    (case k14 => k_is)
    (case a15 => k_is)
    (case l15 => k_is)
    (case c15 => k_is)
    (case k15 => k_is)
    (case z1 => k_is)
    (case z2 => k_is)
    (case z3 => k_is)
    (case z4 => k_is)
    (case z5 => k_is)
    (case z6 => k_is)
    (case z7 => k_is)
    (case z8 => k_is)
    (case z9 => k_is)
    (case v1 => k_is)
    (case v2 => k_is)
    (case v3 => k_is)
    (case u3 => k_is)
    (case xa_NoText => k_is)
    (case xl_NoText => k_is)
    (case xi_NoText => first | kernel_rfl | rfl | decide +kernel | k_is)
    (case xm_NoText_NoText => first | kernel_rfl | rfl | decide +kernel | k_is)
