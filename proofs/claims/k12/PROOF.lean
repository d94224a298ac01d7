import PyProof.Rows.All
import Wide.All
import OpenK.AllK
import Wide.FinOn
import Lean
import PyProof.EqAt
import PyProof.EqKinds
import PyProof.TupleCall
import PyProof.EnumMake
import PyProof.ZipIter
import PyProof.NeKinds
import PyProof.Rows.SortWalk
import PyProof.AttrMiss
import PyProof.IsiH_list
import KE.KDictOf
import PyProof.Draws
import PyProof.StrCalls
import PyProof.StrCalls2
import PyProof.FString5
import PyProof.DictWalks
import PyProof.MeetsDict
import PyProof.EqAt
import PyProof.Rows.RuleM_int
import KE.KEqDict
import KE.KDictSum
import PyProof.WalkInts
import PyProof.FactsAll.dict_4
import PyProof.StrBlockI
import PyProof.StrBlock2
import PyProof.StrCalls3
import KE.KIntText
import PyProof.ListStr
import PyProof.Rows.StrNews2
import PyProof.SliceStr2
import PyProof.StrLawsFrom
import PyProof.StrLawsIn
import KE.KSortTup
import PySem.Challenge.RW_bitdraws_k12_whole_means_of_numbers
set_option Elab.async false
set_option linter.all false
set_option maxRecDepth 100000
namespace L2
open PySem PySem.Spec PyProof.Rows
noncomputable abbrev Key := Sum Int Str
noncomputable def keyIs : Key → Value → Bool
  | .inl k, v => Value.isInt k v
  | .inr x, v => Value.isStrOf x v
noncomputable def keyH (w : World) : Key → Int
  | .inl k => hashInt k
  | .inr x => hashStr w x
theorem keyIs_shape : ∀ {k : Key} {v : Value}, keyIs k v = true → (∃ i t, k = Sum.inl i ∧ v = Value.int i t) ∨ (∃ x t, k = Sum.inr x ∧ v = Value.str x t)
  | .inl i, v, h => by
    obtain ⟨t, e⟩ := Value.isInt_shape (k := i) (v := v) h
    exact .inl ⟨i, t, rfl, e⟩
  | .inr x, v, h => by
    obtain ⟨t, e⟩ := Value.isStrOf_shape (x := x) (v := v) h
    exact .inr ⟨x, t, rfl, e⟩
theorem keyIs_int (i : Int) (t : Tok) : keyIs (.inl i) (.int i t) = true := by simp [keyIs, Value.isInt]
theorem keyIs_str (x : Str) (t : Tok) : keyIs (.inr x) (.str x t) = true := by simp [keyIs, Value.isStrOf]
theorem key_ll (a b : Int) : decide ((Sum.inl a : Key) = Sum.inl b) = (a == b) := by
  by_cases e : a = b
  · subst e; simp
  · have h : ¬ (Sum.inl a : Key) = Sum.inl b := fun q => e (Sum.inl.inj q)
    rw [decide_eq_false h]
    exact (beq_eq_false_iff_ne.mpr e).symm
theorem key_rr (a b : Str) : decide ((Sum.inr a : Key) = Sum.inr b) = decide (a = b) := by
  by_cases e : a = b
  · subst e; simp
  · have h : ¬ (Sum.inr a : Key) = Sum.inr b := fun q => e (Sum.inr.inj q)
    rw [decide_eq_false h, decide_eq_false e]
theorem key_lr (a : Int) (b : Str) : decide ((Sum.inl a : Key) = Sum.inr b) = false := decide_eq_false (fun q => nomatch q)
theorem key_rl (a : Str) (b : Int) : decide ((Sum.inr a : Key) = Sum.inl b) = false := decide_eq_false (fun q => nomatch q)
noncomputable def mixKind (prog : Program) (w : World) : PySem.KeyKind prog w Key where
  is := keyIs
  hash := keyH w
  inj := fun v a b ha hb => by
    rcases keyIs_shape ha with ⟨i, t, rfl, rfl⟩ | ⟨x, t, rfl, rfl⟩
    · rcases keyIs_shape hb with ⟨j, u, rfl, e⟩ | ⟨y, u, rfl, e⟩
      · injection e with e1 _; rw [e1]
      · exact nomatch e
    · rcases keyIs_shape hb with ⟨j, u, rfl, e⟩ | ⟨y, u, rfl, e⟩
      · exact nomatch e
      · injection e with e1 _; rw [e1]
  byValue := fun k v h => by
    rcases keyIs_shape h with ⟨i, t, rfl, rfl⟩ | ⟨x, t, rfl, rfl⟩ <;> rfl
  pyHash := fun hv h => by
    rcases keyIs_shape hv with ⟨i, t, rfl, rfl⟩ | ⟨x, t, rfl, rfl⟩
    · exact wpAny_pyHash_int h
    · exact wpAny_pyHash_str h
  eqBool := fun hu hv h => by
    rcases keyIs_shape hu with ⟨i, t, rfl, rfl⟩ | ⟨x, t, rfl, rfl⟩
    · rcases keyIs_shape hv with ⟨j, u, rfl, rfl⟩ | ⟨y, u, rfl, rfl⟩
      · rw [key_ll] at h; exact wpAny_eqBool_int h
      · rw [key_lr] at h; exact SeqAt.EqAt.int_str i t y u _ _ _ _ h
    · rcases keyIs_shape hv with ⟨j, u, rfl, rfl⟩ | ⟨y, u, rfl, rfl⟩
      · rw [key_rl] at h; exact SeqAt.EqAt.str_int x t j u _ _ _ _ h
      · rw [key_rr] at h; exact wpAny_eqBool_str h
  «strs» := fun k x t v h => by
    rcases keyIs_shape h with ⟨i, u, rfl, e⟩ | ⟨y, u, rfl, e⟩
    · exact nomatch e
    · injection e with e1 _
      subst e1
      cases v <;> rfl
theorem mixKind_int (prog : Program) (w : World) (i : Int) (t : Tok) : (mixKind prog w).is (.inl i) (.int i t) = true := keyIs_int i t
theorem mixKind_str (prog : Program) (w : World) (x : Str) (t : Tok) : (mixKind prog w).is (.inr x) (.str x t) = true := keyIs_str x t
end L2
namespace L2
open PySem PySem.Spec PyProof.Rows
inductive V where
  | non | bl (b : Bool) | int (i : Int) | str (x : Str) | byt (b : Array UInt8) | flt (b : UInt64) | ref (a : Addr) | ty (n : String)
  deriving DecidableEq
noncomputable def RelV : V → Value → Prop
  | .non, u => u = Value.none
  | .bl b, u => u = Value.bool b
  | .int i, u => ∃ t, u = Value.int i t
  | .str x, u => ∃ t, u = Value.str x t
  | .byt b, u => ∃ t, u = Value.bytes b t
  | .flt b, u => ∃ t, u = Value.float b t
  | .ref a, u => u = Value.ref a
  | .ty n, u => u = Value.type n
noncomputable abbrev Vals : List V → List Value → Prop := Paired RelV
theorem Vals.length {xs : List V} {us : List Value} (r : Vals xs us) : xs.length = us.length := Paired.length r
theorem Vals.get : ∀ {xs : List V} {us : List Value} {i : Nat} {x : V}, Vals xs us → xs[i]? = some x → ∃ u, us[i]? = some u ∧ RelV x u
  | _, _, _, _, .nil, e => by simp at e
  | _, _, 0, _, .cons r _, e => by simp at e; subst e; exact ⟨_, rfl, r⟩
  | _, _, i + 1, x, .cons _ t, e => by
    obtain ⟨u, h1, h2⟩ := Vals.get (i := i) (x := x) t (by simpa using e)
    exact ⟨u, by simpa using h1, h2⟩
theorem Vals.set {x : V} {u : Value} (r : RelV x u) : ∀ {xs : List V} {us : List Value} (i : Nat), Vals xs us → Vals (xs.set i x) (us.set i u)
  | _, _, _, .nil => .nil
  | _, _, 0, .cons _ t => .cons r t
  | _, _, i + 1, .cons q t => .cons q (Vals.set r i t)
theorem Vals.append : ∀ {xs ys : List V} {us ws : List Value}, Vals xs us → Vals ys ws → Vals (xs ++ ys) (us ++ ws)
  | _, _, _, _, .nil, s => s
  | _, _, _, _, .cons r t, s => .cons r (Vals.append t s)
theorem Vals.take : ∀ {xs : List V} {us : List Value} (n : Nat), Vals xs us → Vals (xs.take n) (us.take n)
  | _, _, 0, _ => .nil
  | _, _, _ + 1, .nil => .nil
  | _, _, n + 1, .cons r t => .cons r (Vals.take n t)
theorem Vals.drop : ∀ {xs : List V} {us : List Value} (n : Nat), Vals xs us → Vals (xs.drop n) (us.drop n)
  | _, _, 0, r => r
  | _, _, _ + 1, .nil => .nil
  | _, _, n + 1, .cons _ t => Vals.drop n t
noncomputable def RelO : Option V → Option Value → Prop
  | some v, some u => RelV v u
  | none, none => True
  | _, _ => False
noncomputable def KV {κ : Type} : List (κ × V) → List (κ × Value) → Prop := Paired fun (p : κ × V) (q : κ × Value) => p.1 = q.1 ∧ RelV p.2 q.2
noncomputable def kV : Key → V
  | .inl i => .int i
  | .inr x => .str x
inductive HO where
  /-- a list -/
  | lst (xs : List V)
  /-- a tuple (never changes) -/
  | tup (xs : List V)
  /-- a dict whose keys are ints and texts; one whose keys are tuples of ints and texts (the empty one is both) -/
  | dK (kvs : List (Key × V)) | dT (kvs : List (List Key × V))
  /-- a set of ints: its members, its size -/
  | set (S : Int → Bool) (n : Nat)
  /-- an instance of the class at C, its dict at dx, its attributes -/
  | ins (C dx : Addr) (fs : List (Str × V))
  /-- the dict of the instance at x -/
  | own (x : Addr)
  /-- the dict of an exception -/
  | xd (fs : List (Str × V))
  /-- a bound method, f of x -/
  | met (f x : Addr)
  /-- a range object lo, lo + 1, .. below hi -/
  | rng (lo hi : Int)
  /-- a thing that is known to the object (the script; a dict while a loop walks it): read, never written while it is so -/
  | frz (o : Obj) (u : HO)
  /-- a code object's table -/
  | tbl (ps : Array Value)
  /-- any other thing, by what is true of its one object (a def of one's own: SetO a S n := HO.ext fun h => ..) -/
  | ext (φ : Heap → Prop)
noncomputable abbrev Hp := Addr → Option HO
noncomputable def upd (H : Hp) (a : Addr) (o : HO) : Hp := fun b => if b = a then some o else H b
theorem upd_same {H : Hp} {a : Addr} {o : HO} : upd H a o a = some o := by unfold upd; rw [if_pos rfl]
theorem upd_ne {H : Hp} {a b : Addr} {o : HO} (h : b ≠ a) : upd H a o b = H b := by unfold upd; rw [if_neg h]
theorem ne_of {H : Hp} {a b : Addr} {o u : HO} (h : H a = some o) (h' : H b = some u) (d : o ≠ u) : a ≠ b := by
  intro e; subst e; rw [h] at h'; exact d (Option.some.inj h')
theorem ne_of_none {H : Hp} {a b : Addr} {o : HO} (h : H a = some o) (h' : H b = none) : a ≠ b := by
  intro e; subst e; rw [h] at h'; cases h'
section
variable (P : Program) (w : World)
noncomputable def ObjOk (H : Hp) (h : Heap) (a : Addr) : HO → Prop
  | .lst xs => xs.length ≤ sizeLine ∧ ∃ (its : List Value) (n : Nat), Vals xs its ∧ h.get? a = some { cls := .type "list", data := .seq its.toArray n }
  | .tup xs => xs.length ≤ sizeLine ∧ ∃ its : List Value, Vals xs its ∧ IsTup h a its.toArray ∧ ∃ ob, h.get? a = some ob ∧ ob.dict = none
  | .dK kvs => kvs.length ≤ sizeLine ∧ (a == sysModules) = false ∧ ∃ vs, KV kvs vs ∧ h.DictOf (mixKind P w) a vs
  | .dT kvs => kvs.length ≤ sizeLine ∧ (a == sysModules) = false ∧ ∃ xs : List (List Key × Addr × Value),
      Paired (fun (p : List Key × V) (q : List Key × Addr × Value) => p.1 = q.1 ∧ H q.2.1 = some (.tup (p.1.map kV)) ∧ RelV p.2 q.2.2) kvs xs ∧
      ∃ o es ep, h.get? a = some o ∧ o.ExactDict ∧ o.data = .dict es ep ∧ es.toList = xs.map (entryOfKey (tupleKind (mixKind P w))) ∧ (xs.map (·.1)).Nodup
  | .set S n => h.SetOf (intKind P w) a S n
  | .ins C dx fs => H dx = some (.own a) ∧ fs.length ≤ 1000 ∧ dx ≠ a ∧ h.get? a = some (PySem.W.instObj C dx) ∧
      ∃ mA, h.Ns1 dx mA ∧ (∀ f, RelO (fs.lookup f) (mA f)) ∧ PySem.Within mA (fs.map (·.1))
  | .own _ => ∃ o, h.get? a = some o
  | .xd fs => ∃ mA, h.Ns1 a mA ∧ ∀ f, RelO (fs.lookup f) (mA f)
  | .rng lo hi => ∃ t u v, h.get? a = some { cls := .type "range", data := .fields #[.int lo t, .int hi u, .int 1 v] }
  | .frz o u => h.get? a = some o ∧ ObjOk H h a u
  | .tbl ps => h.get? a = some { cls := .none, data := .fields ps }
  | .met f x => h.get? a = some (PySem.W.methodObj (.ref f) (.ref x))
  | .ext φ => φ h ∧ (∃ o, h.get? a = some o) ∧ ∀ h1 h2 : Heap, φ h1 → (∀ o, h1.get? a = some o → h2.get? a = some o) → φ h2
noncomputable def HOk (H : Hp) (h : Heap) : Prop := ∀ a o, H a = some o → ObjOk P w H h a o
end
section
variable {P : Program} {w : World} {H H' : Hp} {h h' : Heap} {a : Addr} {o : HO}
theorem ObjOk.lt (x : ObjOk P w H h a o) : a < h.objs.size := by
  cases o with
  | lst xs => obtain ⟨_, _, _, _, e⟩ := x; exact Heap.lt_size e
  | tup xs => obtain ⟨_, _, _, p, _⟩ := x; exact p.lt
  | dK kvs => obtain ⟨_, _, _, _, o, _, _, e, _⟩ := x; exact Heap.lt_size e
  | dT kvs => obtain ⟨_, _, _, _, o, _, _, e, _⟩ := x; exact Heap.lt_size e
  | set S n => obtain ⟨o, _, _, _, e, _⟩ := x; exact Heap.lt_size e
  | ins C dx fs => obtain ⟨_, _, _, e, _⟩ := x; exact Heap.lt_size e
  | own y => obtain ⟨_, e⟩ := x; exact Heap.lt_size e
  | xd fs => obtain ⟨_, ⟨_, _, _, e, _⟩, _⟩ := x; exact Heap.lt_size e
  | rng lo hi => obtain ⟨_, _, _, e⟩ := x; exact Heap.lt_size e
  | frz ob u => obtain ⟨e, _⟩ := x; exact Heap.lt_size e
  | tbl ps => exact Heap.lt_size (show h.get? a = some _ from x)
  | met f y => exact Heap.lt_size (show h.get? a = some _ from x)
  | ext φ => obtain ⟨_, ⟨_, e⟩, _⟩ := x; exact Heap.lt_size e
theorem Paired.mapP {α β : Type} {F G : α → β → Prop} : ∀ {l₁ : List α} {l₂ : List β}, Paired F l₁ l₂ → (∀ a b, F a b → G a b) → Paired G l₁ l₂
  | _, _, .nil, _ => .nil
  | _, _, .cons r t, f => .cons (f _ _ r) (Paired.mapP t f)
theorem ObjOk.stay (x : ObjOk P w H h a o) (k : ∀ b u, (b = a ∨ H b = some (.own a)) → h.get? b = some u → h'.get? b = some u)
    (ho : ∀ b, H b = some (.own a) → H' b = some (.own a)) (ht : ∀ b xs, H b = some (.tup xs) → H' b = some (.tup xs)) : ObjOk P w H' h' a o := by
  induction o with
  | lst xs => obtain ⟨z, its, n, r, e⟩ := x; exact ⟨z, its, n, r, k _ _ (.inl rfl) e⟩
  | tup xs => obtain ⟨z, its, r, ⟨ob, e, c⟩, od, ed, dd⟩ := x; exact ⟨z, its, r, ⟨ob, k _ _ (.inl rfl) e, c⟩, od, k _ _ (.inl rfl) ed, dd⟩
  | dK kvs => obtain ⟨z, y, vs, r, ob, es, ep, e, c⟩ := x; exact ⟨z, y, vs, r, ob, es, ep, k _ _ (.inl rfl) e, c⟩
  | dT kvs =>
    obtain ⟨z, y, xs, r, ob, es, ep, e, c⟩ := x
    exact ⟨z, y, xs, Paired.mapP r fun p q z => ⟨z.1, ht _ _ z.2.1, z.2.2⟩, ob, es, ep, k _ _ (.inl rfl) e, c⟩
  | set S n => obtain ⟨ob, es, ep, t, e, c⟩ := x; exact ⟨ob, es, ep, t, k _ _ (.inl rfl) e, c⟩
  | ins C dx fs =>
    obtain ⟨d, z, ne, e, mA, ⟨od, es, ep, e2, c⟩, r⟩ := x
    exact ⟨ho _ d, z, ne, k _ _ (.inl rfl) e, mA, ⟨od, es, ep, k _ _ (.inr d) e2, c⟩, r⟩
  | own y => obtain ⟨ob, e⟩ := x; exact ⟨ob, k _ _ (.inl rfl) e⟩
  | xd fs => obtain ⟨mA, ⟨od, es, ep, e, c⟩, r⟩ := x; exact ⟨mA, ⟨od, es, ep, k _ _ (.inl rfl) e, c⟩, r⟩
  | rng lo hi => obtain ⟨t, u, v, e⟩ := x; exact ⟨t, u, v, k _ _ (.inl rfl) e⟩
  | frz ob u ih => obtain ⟨e, q⟩ := x; exact ⟨k _ _ (.inl rfl) e, ih q⟩
  | tbl ps =>
    have e : h.get? a = some { cls := .none, data := .fields ps } := x
    show h'.get? a = some { cls := .none, data := .fields ps }
    exact k a _ (.inl rfl) e
  | met f y =>
    have e : h.get? a = some (PySem.W.methodObj (.ref f) (.ref y)) := x
    show h'.get? a = some (PySem.W.methodObj (.ref f) (.ref y))
    exact k a _ (.inl rfl) e
  | ext φ => obtain ⟨p, ⟨o, e⟩, st⟩ := x; exact ⟨st _ _ p fun o q => k _ _ (.inl rfl) q, ⟨o, k _ _ (.inl rfl) e⟩, st⟩
theorem HOk.lt (x : HOk P w H h) (e : H a = some o) : a < h.objs.size := (x a o e).lt
theorem HOk.fresh (x : HOk P w H h) (e : h.objs.size ≤ a) : H a = none := by
  cases q : H a with
  | none => rfl
  | some u => exact absurd (Nat.lt_of_lt_of_le (x.lt q) e) (Nat.lt_irrefl _)
theorem HOk.kept (x : HOk P w H h) (k : ∀ b u, h.get? b = some u → h'.get? b = some u) : HOk P w H h' := fun a o e =>
  (x a o e).stay (fun b u _ q => k b u q) (fun _ q => q) fun _ _ q => q
theorem HOk.laid (x : HOk P w H h) (k : ∀ b u, h.get? b = some u → h'.get? b = some u) (hp : h.objs.size ≤ a) (new : ObjOk P w (upd H a o) h' a o) : HOk P w (upd H a o) h' := fun b u e => by
  have hn := x.fresh hp
  by_cases hb : b = a
  · subst hb; rw [upd_same] at e; cases e; exact new
  · rw [upd_ne hb] at e
    exact (x b u e).stay (fun c v _ q => k c v q) (fun c q => by rw [upd_ne (ne_of_none q hn)]; exact q) fun c xs q => by rw [upd_ne (ne_of_none q hn)]; exact q
end
noncomputable def Rd (H : Hp) (a : Addr) (u : HO) : Prop := H a = some u ∨ ∃ o, H a = some (.frz o u)
theorem Rd.of {H : Hp} {a : Addr} {u : HO} (h : H a = some u) : Rd H a u := .inl h
theorem Rd.ok {P : Program} {w : World} {H : Hp} {h : Heap} {a : Addr} {u : HO} (r : Rd H a u) (x : HOk P w H h) : ObjOk P w H h a u := by
  rcases r with r | ⟨o, r⟩
  · exact x a u r
  · obtain ⟨_, q⟩ := x a _ r
    exact q
noncomputable def Mut : Option HO → Prop
  | some (.lst _) => True
  | some (.dK _) => True
  | some (.dT _) => True
  | some (.set _ _) => True
  | some (.ins _ _ _) => True
  | some (.ext _) => True
  | _ => False
section
variable {P : Program} {w : World} {H : Hp} {h h' : Heap} {x e : Addr} {o' : HO}
theorem HOk.write (ok : HOk P w H h) (mu : Mut (H x)) (he : e = x ∨ H e = some (.own x)) (k : ∀ b u, b ≠ e → h.get? b = some u → h'.get? b = some u) (heo : ∃ u, h'.get? e = some u)
    (new : ObjOk P w (upd H x o') h' x o') : HOk P w (upd H x o') h' := fun b u q => by
  have nown : ∀ c y, H c = some (.own y) → c ≠ x := fun c y r z => by subst z; rw [r] at mu; exact mu
  have ntup : ∀ c xs, H c = some (.tup xs) → c ≠ x := fun c xs r z => by subst z; rw [r] at mu; exact mu
  by_cases hb : b = x
  · subst hb; rw [upd_same] at q; cases q; exact new
  · rw [upd_ne hb] at q
    by_cases hbe : b = e
    · have q' : H b = some (.own x) := by
        rcases he with z | z
        · exact absurd (hbe.trans z) hb
        · rw [hbe]; exact z
      rw [q] at q'; cases q'
      obtain ⟨v, hv⟩ := heo
      exact ⟨v, by rw [hbe]; exact hv⟩
    · refine (ok b u q).stay (fun c v hc r => k c v ?_ r) (fun c r => by rw [upd_ne (nown c b r)]; exact r) fun c xs r => by rw [upd_ne (ntup c xs r)]; exact r
      rcases hc with rfl | hc
      · exact hbe
      · rintro rfl
        rcases he with z | z
        · exact nown c b hc z
        · rw [hc] at z; cases z; exact hb rfl
end
structure Un (fs ex : List Addr) (H H' : Hp) (h h' : Heap) : Prop where
  keep : ∀ b o, h.get? b = some o → H b = none → b ∉ fs → b ∉ ex → h'.get? b = some o
  slot : ∀ b o, h.get? b = some o → H b = none → b ∈ fs → b ∉ ex → ∃ sl, h'.get? b = some { o with slots := sl }
  free : ∀ b o, h.get? b = some o → H b = none → b ∉ ex → H' b = none
  there : ∀ b o, h.get? b = some o → b ∉ ex → ∃ o', h'.get? b = some o'
  tups : ∀ b xs, H b = some (.tup xs) → H' b = some (.tup xs)
  frzs : ∀ b o u, H b = some (.frz o u) → H' b = some (.frz o u)
  tbls : ∀ b ps, H b = some (.tbl ps) → ∃ more, H' b = some (.tbl (ps ++ more))
section
variable {fs fs' ex ex' : List Addr} {H H1 H2 : Hp} {h h1 h2 h' : Heap} {a x e : Addr} {o : HO}
theorem Un.any (u : Un fs ex H H1 h h1) {b : Addr} {ob : Obj} (q : h.get? b = some ob) (n : H b = none) (hx : b ∉ ex) : ∃ sl, h1.get? b = some { ob with slots := sl } := by
  by_cases hb : b ∈ fs
  · exact u.slot b ob q n hb hx
  · exact ⟨ob.slots, u.keep b ob q n hb hx⟩
theorem Un.trans (a : Un fs ex H H1 h h1) (b : Un fs ex H1 H2 h1 h2) : Un fs ex H H2 h h2 where
  keep := fun c ob q n hc hx => b.keep c ob (a.keep c ob q n hc hx) (a.free c ob q n hx) hc hx
  slot := fun c ob q n hc hx => by
    obtain ⟨sl, e1⟩ := a.slot c ob q n hc hx
    obtain ⟨sl', e2⟩ := b.slot c _ e1 (a.free c ob q n hx) hc hx
    exact ⟨sl', e2⟩
  free := fun c ob q n hx => by
    obtain ⟨o', e1⟩ := a.there c ob q hx
    exact b.free c o' e1 (a.free c ob q n hx) hx
  there := fun c ob q hx => by
    obtain ⟨o', e1⟩ := a.there c ob q hx
    exact b.there c o' e1 hx
  tups := fun c xs q => b.tups c xs (a.tups c xs q)
  frzs := fun c ob xs q => b.frzs c ob xs (a.frzs c ob xs q)
  tbls := fun c ps q => by
    obtain ⟨m1, e1⟩ := a.tbls c ps q
    obtain ⟨m2, e2⟩ := b.tbls c _ e1
    exact ⟨m1 ++ m2, by rw [e2, Array.append_assoc]⟩
theorem Un.kept (k : ∀ b u, h.get? b = some u → h'.get? b = some u) : Un fs ex H H h h' :=
  ⟨fun b ob q _ _ _ => k b ob q, fun b ob q _ _ _ => ⟨ob.slots, k b ob q⟩, fun _ _ _ n _ => n, fun b ob q _ => ⟨ob, k b ob q⟩, fun _ _ q => q, fun _ _ _ q => q, fun _ ps q => ⟨#[], by rw [q]; simp⟩⟩
theorem Un.refl : Un fs ex H H h h := Un.kept fun _ _ q => q
theorem Un.laid (k : ∀ b u, h.get? b = some u → h'.get? b = some u) (hp : h.objs.size ≤ a) (hn : H a = none) : Un fs ex H (upd H a o) h h' where
  keep := fun b u q _ _ _ => k b u q
  slot := fun b u q _ _ _ => ⟨u.slots, k b u q⟩
  free := fun b u q n _ => by rw [upd_ne (Nat.ne_of_lt (Nat.lt_of_lt_of_le (Heap.lt_size q) hp))]; exact n
  there := fun b u q _ => ⟨u, k b u q⟩
  tups := fun b xs q => by rw [upd_ne (ne_of_none q hn)]; exact q
  frzs := fun b u xs q => by rw [upd_ne (ne_of_none q hn)]; exact q
  tbls := fun b ps q => ⟨#[], by rw [upd_ne (ne_of_none q hn), q]; simp⟩
theorem Un.write (mu : Mut (H x)) (he : e = x ∨ H e = some (.own x)) (k : ∀ b u, b ≠ e → h.get? b = some u → h'.get? b = some u) (heo : ∃ u, h'.get? e = some u) : Un fs ex H (upd H x o) h h' := by
  have hx : ∀ b, H b = none → b ≠ x := fun b n z => by subst z; rw [n] at mu; exact mu
  have hb : ∀ b, H b = none → b ≠ e := fun b n z => by
    subst z
    rcases he with r | r
    · exact hx b n r
    · rw [n] at r; cases r
  have hm : ∀ b u, H b = some u → ¬ Mut (some u) → b ≠ x := fun b u q nm z => by subst z; rw [q] at mu; exact nm mu
  refine ⟨fun b u q n _ _ => k b u (hb b n) q, fun b u q n _ _ => ⟨u.slots, k b u (hb b n) q⟩, fun b u q n _ => by rw [upd_ne (hx b n)]; exact n, fun b u q _ => ?_,
    fun b xs q => by rw [upd_ne (hm b _ q fun z => z)]; exact q, fun b u xs q => by rw [upd_ne (hm b _ q fun z => z)]; exact q, fun b ps q => ⟨#[], by rw [upd_ne (hm b _ q fun z => z), q]; simp⟩⟩
  by_cases hbe : b = e
  · subst hbe; exact heo
  · exact ⟨u, k b u hbe q⟩
theorem Un.mono (u : Un fs ex H H1 h h1) (hs : ∀ b ∈ fs, b ∈ fs') (hx : ∀ b ∈ ex, b ∈ ex') : Un fs' ex' H H1 h h1 :=
  ⟨fun b ob q n hb he => u.keep b ob q n (fun z => hb (hs b z)) fun z => he (hx b z), fun _ _ q n _ he => u.any q n fun z => he (hx _ z), fun b ob q n he => u.free b ob q n fun z => he (hx b z), fun b ob q he => u.there b ob q fun z => he (hx b z), u.tups, u.frzs, u.tbls⟩
end
noncomputable def trk (h : Heap) (H : Hp) : List Addr := (List.range h.objs.size).filter fun a => (H a).isSome
noncomputable def hidT (h : Heap) (H : Hp) : Heap := PySem.W.hideAll h (trk h H)
theorem hidT_size (h : Heap) (H : Hp) : (hidT h H).objs.size = h.objs.size := PySem.W.hideAll_size _ _
theorem hidT_get {h : Heap} {H : Hp} {b : Addr} {o : Obj} (e : h.get? b = some o) (n : H b = none) : (hidT h H).get? b = some o :=
  PySem.W.hideAll_get _ e fun hm => by
    have q : (H b).isSome = true := (List.mem_filter.mp hm).2
    rw [n] at q; simp at q
theorem of_hidT {h : Heap} {H : Hp} {b : Addr} {o : Obj} (e : (hidT h H).get? b = some o) : h.get? b = some o ∧ H b = none := by
  have e' : h.get? b = some o := PySem.W.of_hideAll (trk h H) e
  refine ⟨e', ?_⟩
  cases q : H b with
  | none => rfl
  | some x =>
    have hm : b ∈ trk h H := List.mem_filter.mpr ⟨List.mem_range.mpr (Heap.lt_size e'), by simp [q]⟩
    have z : (hidT h H).get? b = none := PySem.W.hideAll_none (trk h H) hm
    rw [z] at e; cases e
noncomputable def allNews (g h : Heap) (L : Addr) : List (Addr × Obj) := (List.range h.objs.size).filterMap fun a => if a = L ∨ (g.get? a).isSome = true then none else (h.get? a).map fun o => (a, o)
noncomputable def rest (g h : Heap) (L d : Addr) : List (Addr × Obj) := (allNews g h L).filter fun p => decide (p.1 ≠ d)
end L2
namespace L2
open PySem PySem.Spec PyProof.Rows
structure Mod (K : PySem.W.Frag) (mg : Str → Option Value) (base : Heap) : Prop where
  kin : K.In base
  glob : base.Ns mainGlobals mg
  blt : ∃ mb, base.Ns builtinsNs mb ∧ ∀ x : Str, x ≠ "__name__" → mb x = bootBuiltins x
  nolimit : base.NoLimit
structure Cx where
  prog : Program
  w : World
  K : PySem.W.Frag
  mg : Str → Option Value
  base : Heap
  A : Around
  N : List Str
  s₀ : Shared
  H₀ : Hp
  env : Env
  outer : List Env
  stack : List Env
  ex : List Addr
  fn : Str → Bool
  calm : Bool
  pn : List (Addr × Obj)
  xe : Value → Shared → Prop
noncomputable def frs (l : List Env) : List Addr := l.filterMap (·.frame)
noncomputable abbrev Cx.fs (X : Cx) : List Addr := frs X.outer
noncomputable def Vis (sc : Scope) (x : Str) : Prop := sc.names.lookup x = some .local ∨ sc.names.lookup x = some .cell ∨ sc.names.lookup x = some .free
noncomputable def Loc (sc : Scope) (x : Str) : Prop := sc.names.lookup x = some .local ∨ sc.names.lookup x = some .cell
noncomputable def Look (env : Env) (h : Heap) (m : Str → Option Value) (x : Str) (u : Value) : Prop :=
  (env.kindOf x = some .local ∧ m x = some u) ∨ ((env.kindOf x = some .cell ∨ env.kindOf x = some .free) ∧ ∃ c, env.cells.lookup x = some c ∧ h.IsCell c (some u))
structure Cx.Ok (X : Cx) : Prop where
  mod : Mod X.K X.mg X.base
  kind : X.env.scope.kind = .function
  glob : X.env.globals = mainGlobals
  blt : X.env.builtins = builtinsNs
  above : X.s₀.heap.objs.size ≤ X.env.locals
  inj : ∀ x y c, X.env.cells.lookup x = some c → X.env.cells.lookup y = some c → x = y
  has : ∀ x, (X.env.kindOf x = some .cell ∨ X.env.kindOf x = some .free) → ∃ c, X.env.cells.lookup x = some c
  cab : ∀ x c, X.fn x = true → X.env.cells.lookup x = some c → X.s₀.heap.objs.size ≤ c
  hd : X.calm = true → X.A.handled = none
  frames : X.A.frames = some X.stack
  stk : X.stack = X.outer ∨ (X.stack = X.env :: X.outer ∧ X.env.frame = some X.env.locals)
  exf : ∀ b ∈ X.ex, b ≠ X.env.locals ∧ ∀ x c, X.env.cells.lookup x = some c → c ≠ b
  bs : ∀ b o, X.base.get? b = some o → X.s₀.heap.get? b = some o ∧ X.H₀ b = none
  bsz : X.base.objs.size ≤ X.s₀.heap.objs.size
  noex : ∀ b o, X.base.get? b = some o → b ∉ X.ex
  exfs : ∀ b ∈ X.ex, b ∉ X.fs
  funs : X.s₀.heap.FunFrames X.base X.outer
  frf : ∀ b ∈ X.fs, X.H₀ b = none
structure Inv (X : Cx) (pins : List (Addr × Obj)) (σ : List (Option V)) (H : Hp) (s : Shared) : Prop where
  ok : X.Ok
  os : s.os = X.s₀.os
  bare : AllBare s.gens
  base : Un X.fs X.ex X.H₀ H X.s₀.heap s.heap
  loc : ∃ m, s.heap.Ns X.env.locals m ∧ ∀ (i : Nat) (x : Str) (v : V), X.N[i]? = some x → σ[i]? = some (some v) → Vis X.env.scope x → ∃ u, RelV v u ∧ Look X.env s.heap m x u
  cell : ∀ x c, X.env.cells.lookup x = some c → ∃ v, s.heap.IsCell c v
  free : H X.env.locals = none
  freeC : ∀ x c, X.env.cells.lookup x = some c → H c = none
  pin : ∀ p ∈ X.pn ++ pins, s.heap.get? p.1 = some p.2 ∧ H p.1 = none ∧ p.1 ≠ X.env.locals ∧ p.1 ∉ X.fs ∧ ∀ v, p.2.data ≠ .cell v
  hok : HOk X.prog X.w H s.heap
  len : σ.length = X.N.length
section
variable {X : Cx} {pins : List (Addr × Obj)} {σ : List (Option V)} {H H' : Hp} {s : Shared} {h' : Heap}
theorem Cx.Ok.nofr (ok : X.Ok) {b : Addr} {o : Obj} (e : X.base.get? b = some o) : b ∉ X.fs := fun hb => by
  have := (ok.funs.mem hb).1
  rw [e] at this; cases this
theorem Inv.bs (I : Inv X pins σ H s) : ∀ b o, X.base.get? b = some o → s.heap.get? b = some o ∧ H b = none := fun b o e =>
  ⟨I.base.keep b o (I.ok.bs b o e).1 (I.ok.bs b o e).2 (I.ok.nofr e) (I.ok.noex b o e), I.base.free b o (I.ok.bs b o e).1 (I.ok.bs b o e).2 (I.ok.noex b o e)⟩
theorem Inv.bk (I : Inv X pins σ H s) : ∀ b o, X.base.get? b = some o → s.heap.get? b = some o := fun b o e => (I.bs b o e).1
theorem Inv.mod (I : Inv X pins σ H s) : Mod X.K X.mg X.base := I.ok.mod
theorem Inv.kIn (I : Inv X pins σ H s) : X.K.In s.heap := I.ok.mod.kin.keeps I.bk
theorem Inv.nolimit (I : Inv X pins σ H s) : s.heap.NoLimit := I.ok.mod.nolimit.keeps I.bk
theorem Inv.fr (I : Inv X pins σ H s) : ∃ m, Fr X.base X.env.locals s.heap m :=
  let ⟨m, hn, _⟩ := I.loc
  ⟨m, hn, I.bk, Nat.le_trans I.ok.bsz I.ok.above⟩
theorem Inv.lt (I : Inv X pins σ H s) : X.env.locals < s.heap.objs.size := let ⟨_, hn, _⟩ := I.loc; hn.lt
theorem Inv.sz (I : Inv X pins σ H s) : X.s₀.heap.objs.size ≤ s.heap.objs.size := Nat.le_trans I.ok.above (Nat.le_of_lt I.lt)
theorem Inv.nofs (I : Inv X pins σ H s) {a : Addr} (h : s.heap.objs.size ≤ a) : a ∉ X.fs := fun hb => by
  obtain ⟨_, o, ho, _⟩ := I.ok.funs.mem hb
  exact absurd (Nat.lt_of_lt_of_le (Heap.lt_size ho) (Nat.le_trans I.sz h)) (Nat.lt_irrefl _)
theorem Inv.cne (I : Inv X pins σ H s) : ∀ x c, X.env.cells.lookup x = some c → c ≠ X.env.locals := fun x c e z => by
  obtain ⟨v, o, ho, hd⟩ := I.cell x c e
  obtain ⟨m, ⟨o', es, ep, ho', hd', _⟩, _⟩ := I.loc
  rw [z, ho'] at ho; cases ho; rw [hd'] at hd; cases hd
theorem Inv.funs (I : Inv X pins σ H s) : s.heap.FunFrames X.base X.outer := by
  have all : ∀ (l : List Env), (∀ b ∈ frs l, b ∈ X.fs) → X.s₀.heap.FunFrames X.base l → s.heap.FunFrames X.base l := by
    intro l
    induction l with
    | nil => intro _ _; trivial
    | cons env r ih =>
      intro hs hl
      obtain ⟨hk, ⟨L, o, hf, hn, ho, hd⟩, hr⟩ := hl
      have hL : L ∈ X.fs := hs L (by unfold frs; rw [List.filterMap_cons, hf]; exact List.mem_cons_self)
      obtain ⟨sl, e⟩ := I.base.slot L o ho (I.ok.frf L hL) hL fun z => I.ok.exfs L z hL
      exact ⟨hk, ⟨L, _, hf, hn, e, hd⟩, ih (fun b hb => hs b (by unfold frs; rw [List.filterMap_cons, hf]; exact List.mem_cons_of_mem _ hb)) hr⟩
  exact all X.outer (fun _ hb => hb) I.ok.funs
theorem Inv.stack (I : Inv X pins σ H s) : s.heap.FunFrames X.base X.stack := by
  rcases I.ok.stk with e | ⟨e, hf⟩
  · rw [e]; exact I.funs
  · rw [e]
    obtain ⟨m, hn, _⟩ := I.loc
    refine .cons (by rw [I.ok.kind]; decide) hf hn ?_ I.funs
    exact Heap.get?_none_of_le (Nat.le_trans I.ok.bsz I.ok.above)
theorem Inv.stkSub (I : Inv X pins σ H s) : ∀ b ∈ frs X.stack, b ∈ X.env.locals :: X.fs := fun b hb => by
  rcases I.ok.stk with e | ⟨e, hf⟩
  · rw [e] at hb; exact List.mem_cons_of_mem _ hb
  · rw [e] at hb
    unfold frs at hb
    rw [List.filterMap_cons, hf] at hb
    exact hb
theorem Inv.stkFree (I : Inv X pins σ H s) : ∀ b ∈ frs X.stack, H b = none := fun b hb => by
  rcases List.mem_cons.mp (I.stkSub b hb) with e | hb
  · rw [e]; exact I.free
  · obtain ⟨_, o, ho, _⟩ := I.ok.funs.mem hb
    exact I.base.free b o ho (I.ok.frf b hb) fun z => I.ok.exfs b z hb
theorem Inv.step {g' : Array GenState} {t' : Nat} {d' : Drawn} {ch : List Addr} (I : Inv X pins σ H s)
    (hch : ∀ b ∈ ch, (b ∈ X.ex ∨ X.s₀.heap.objs.size ≤ b) ∧ b ≠ X.env.locals ∧ (∀ x c, X.env.cells.lookup x = some c → c ≠ b) ∧ ∀ p ∈ X.pn ++ pins, p.1 ≠ b)
    (keep : ∀ b o, b ≠ X.env.locals → b ∉ X.fs → b ∉ ch → s.heap.get? b = some o → H b = none → h'.get? b = some o)
    (slot : ∀ b o, b ≠ X.env.locals → b ∈ X.fs → b ∉ ch → s.heap.get? b = some o → H b = none → ∃ sl, h'.get? b = some { o with slots := sl }) (free : ∀ b o, b ∉ ch → s.heap.get? b = some o → H b = none → H' b = none)
    (there : ∀ b o, b ∉ ch → s.heap.get? b = some o → ∃ o', h'.get? b = some o')
    (tups : ∀ b xs, H b = some (.tup xs) → H' b = some (.tup xs)) (frzs : ∀ b o u, H b = some (.frz o u) → H' b = some (.frz o u)) (tbls : ∀ b ps, H b = some (.tbl ps) → ∃ more, H' b = some (.tbl (ps ++ more)))
    (ns : ∀ m, s.heap.Ns X.env.locals m → h'.Ns X.env.locals m) (hok : HOk X.prog X.w H' h') (hg : AllBare g') :
    Inv X pins σ H' { s with heap := h', gens := g', drawn := d', toks := t' } := by
  have neL : ∀ b o, X.s₀.heap.get? b = some o → b ≠ X.env.locals := fun b o e => Nat.ne_of_lt (Nat.lt_of_lt_of_le (Heap.lt_size e) I.ok.above)
  have neC : ∀ b o, X.s₀.heap.get? b = some o → b ∉ X.ex → b ∉ ch := fun b o e hx hb => by
    rcases (hch b hb).1 with z | z
    · exact hx z
    · exact absurd (Nat.lt_of_lt_of_le (Heap.lt_size e) z) (Nat.lt_irrefl _)
  have cellK : ∀ x c, X.env.cells.lookup x = some c → ∀ v, s.heap.IsCell c v → h'.IsCell c v := fun x c e v ⟨o, ho, hd⟩ => by
    have nch : c ∉ ch := fun z => (hch c z).2.2.1 x c e rfl
    by_cases hc : c ∈ X.fs
    · obtain ⟨sl, q⟩ := slot c o (I.cne x c e) hc nch ho (I.freeC x c e)
      exact ⟨_, q, hd⟩
    · exact ⟨o, keep c o (I.cne x c e) hc nch ho (I.freeC x c e), hd⟩
  refine ⟨I.ok, I.os, hg, ⟨fun b o e n hb hx => ?_, fun b o e n hb hx => ?_, fun b o e n hx => ?_, fun b o e hx => ?_, fun b xs e => tups b xs (I.base.tups b xs e), fun b o xs e => frzs b o xs (I.base.frzs b o xs e), fun b ps e => ?_⟩, ?_, fun x c e => ?_, ?_, fun x c e => ?_, fun p hp => ?_, hok, I.len⟩
  · exact keep b o (neL b o e) hb (neC b o e hx) (I.base.keep b o e n hb hx) (I.base.free b o e n hx)
  · obtain ⟨sl, e1⟩ := I.base.slot b o e n hb hx
    obtain ⟨sl', e2⟩ := slot b _ (neL b o e) hb (neC b o e hx) e1 (I.base.free b o e n hx)
    exact ⟨sl', e2⟩
  · obtain ⟨o', e1⟩ := I.base.there b o e hx
    exact free b o' (neC b o e hx) e1 (I.base.free b o e n hx)
  · obtain ⟨o', e1⟩ := I.base.there b o e hx
    exact there b o' (neC b o e hx) e1
  · obtain ⟨m1, e1⟩ := I.base.tbls b ps e
    obtain ⟨m2, e2⟩ := tbls b _ e1
    exact ⟨m1 ++ m2, by rw [e2, Array.append_assoc]⟩
  · obtain ⟨m, hn, hl⟩ := I.loc
    refine ⟨m, ns m hn, fun i x v e1 e2 e3 => ?_⟩
    obtain ⟨u, r, l⟩ := hl i x v e1 e2 e3
    refine ⟨u, r, ?_⟩
    rcases l with l | ⟨k, c, e, z⟩
    · exact .inl l
    · exact .inr ⟨k, c, e, cellK x c e _ z⟩
  · obtain ⟨v, z⟩ := I.cell x c e
    exact ⟨v, cellK x c e v z⟩
  · obtain ⟨m, ⟨o, _, _, ho, _⟩, _⟩ := I.loc
    exact free _ o (fun z => (hch _ z).2.1 rfl) ho I.free
  · obtain ⟨v, o, ho, hd⟩ := I.cell x c e
    exact free c o (fun z => (hch c z).2.2.1 x c e rfl) ho (I.freeC x c e)
  · obtain ⟨e, n, ne, nf, d⟩ := I.pin p hp
    have nch : p.1 ∉ ch := fun z => (hch p.1 z).2.2.2 p hp rfl
    exact ⟨keep p.1 p.2 ne nf nch e n, free p.1 p.2 nch e n, ne, nf, d⟩
theorem Inv.un {t' : Nat} (I : Inv X pins σ H s) (u : Un X.fs [] H H' s.heap h') (hok : HOk X.prog X.w H' h') : Inv X pins σ H' { s with heap := h', toks := t' } := by
  obtain ⟨m, ⟨o, es, ep, ho, r⟩, _⟩ := id I.loc
  obtain ⟨sl, hL⟩ := u.any ho I.free (by simp)
  exact I.step (g' := s.gens) (d' := s.drawn) (ch := []) (fun _ z => nomatch z) (fun b o _ hb _ e n => u.keep b o e n hb (by simp)) (fun b o _ hb _ e n => u.slot b o e n hb (by simp)) (fun b o _ e n => u.free b o e n (by simp)) (fun b o _ e => u.there b o e (by simp)) u.tups u.frzs u.tbls (fun m' hm => by
    obtain ⟨o', es', ep', ho', r'⟩ := hm
    rw [ho] at ho'; cases ho'
    exact ⟨_, es', ep', hL, r'⟩) hok I.bare
theorem Inv.call {g' : Array GenState} {t' : Nat} {d' : Drawn} {ch : List Addr} (I : Inv X pins σ H s) (u : Un (frs X.stack) ch H H' s.heap h') (hok : HOk X.prog X.w H' h') (hg : AllBare g')
    (hch : ∀ b ∈ ch, (b ∈ X.ex ∨ X.s₀.heap.objs.size ≤ b) ∧ b ≠ X.env.locals ∧ (∀ x c, X.env.cells.lookup x = some c → c ≠ b) ∧ ∀ p ∈ X.pn ++ pins, p.1 ≠ b) :
    Inv X pins σ H' { s with heap := h', gens := g', drawn := d', toks := t' } := by
  obtain ⟨m, ⟨o, es, ep, ho, r⟩, _⟩ := id I.loc
  obtain ⟨sl, hL⟩ := u.any ho I.free fun z => (hch _ z).2.1 rfl
  exact I.step (ch := ch) hch (fun b o hL hb hc e n => u.keep b o e n (fun z => (List.mem_cons.mp (I.stkSub b z)).elim hL hb) hc) (fun b o _ _ hc e n => u.any e n hc) (fun b o hc e n => u.free b o e n hc) (fun b o hc e => u.there b o e hc) u.tups u.frzs u.tbls (fun m' hm => by
    obtain ⟨o', es', ep', ho', r'⟩ := hm
    rw [ho] at ho'; cases ho'
    exact ⟨_, es', ep', hL, r'⟩) hok hg
theorem Inv.turned {t' : Nat} {it : Addr} (I : Inv X pins σ H s) (k : ∀ b o, b ≠ it → s.heap.get? b = some o → h'.get? b = some o) (hn : H it = none) (hL : it ≠ X.env.locals)
    (h1 : it ∈ X.ex ∨ X.s₀.heap.objs.size ≤ it) (h2 : ∀ x c, X.env.cells.lookup x = some c → c ≠ it) (h3 : ∀ p ∈ X.pn ++ pins, p.1 ≠ it) : Inv X pins σ H { s with heap := h', toks := t' } := by
  have nit : ∀ b u, H b = some u → b ≠ it := fun b u e z => by rw [z, hn] at e; cases e
  refine I.step (g' := s.gens) (d' := s.drawn) (ch := [it]) (fun b hb => ?_) (fun b o _ _ hc e _ => k b o (fun z => hc (by simp [z])) e) (fun b o _ _ hc e _ => ⟨o.slots, k b o (fun z => hc (by simp [z])) e⟩) (fun _ _ _ _ n => n)
    (fun b o hc e => ⟨o, k b o (fun z => hc (by simp [z])) e⟩) (fun _ _ e => e) (fun _ _ _ e => e) (fun b ps e => ⟨#[], by rw [e]; simp⟩) (fun m hm => ?_) (fun b u e => ?_) I.bare
  · have e : b = it := by simpa using hb
    subst e
    exact ⟨h1, hL, h2, h3⟩
  · obtain ⟨o, es, ep, ho, r⟩ := hm
    exact ⟨o, es, ep, k _ o (Ne.symm hL) ho, r⟩
  · refine (I.hok b u e).stay (fun c v hc q => k c v ?_ q) (fun _ q => q) fun _ _ q => q
    rcases hc with z | z
    · rw [z]; exact nit b u e
    · exact nit c _ z
theorem Inv.tok (I : Inv X pins σ H s) (t : Nat) : Inv X pins σ H { s with toks := t } := I.un (h' := s.heap) (t' := t) Un.refl I.hok
theorem Inv.kept {t' : Nat} (I : Inv X pins σ H s) (k : ∀ b u, s.heap.get? b = some u → h'.get? b = some u) : Inv X pins σ H { s with heap := h', toks := t' } := I.un (Un.kept k) (I.hok.kept k)
theorem Inv.laid {a : Addr} {o : HO} {t' : Nat} (I : Inv X pins σ H s) (k : ∀ b u, s.heap.get? b = some u → h'.get? b = some u) (hp : s.heap.objs.size ≤ a) (new : ObjOk X.prog X.w (upd H a o) h' a o) :
    Inv X pins σ (upd H a o) { s with heap := h', toks := t' } := I.un (Un.laid k hp (I.hok.fresh hp)) (I.hok.laid k hp new)
theorem Inv.write {x e : Addr} {o : HO} {t' : Nat} (I : Inv X pins σ H s) (mu : Mut (H x)) (he : e = x ∨ H e = some (.own x)) (k : ∀ b u, b ≠ e → s.heap.get? b = some u → h'.get? b = some u) (heo : ∃ u, h'.get? e = some u)
    (new : ObjOk X.prog X.w (upd H x o) h' x o) : Inv X pins σ (upd H x o) { s with heap := h', toks := t' } := I.un (Un.write mu he k heo) (I.hok.write mu he k heo new)
theorem Inv.pins_of {pins' : List (Addr × Obj)} (I : Inv X pins σ H s) (h : ∀ p ∈ pins', s.heap.get? p.1 = some p.2 ∧ H p.1 = none ∧ p.1 ≠ X.env.locals ∧ p.1 ∉ X.fs ∧ ∀ v, p.2.data ≠ .cell v) : Inv X pins' σ H s :=
  ⟨I.ok, I.os, I.bare, I.base, I.loc, I.cell, I.free, I.freeC, fun p hp => (List.mem_append.mp hp).elim (fun z => I.pin p (List.mem_append_left _ z)) (h p), I.hok, I.len⟩
theorem nodup_ix {N : List Str} (hN : N.Nodup) {i j : Nat} {x : Str} (a : N[i]? = some x) (b : N[j]? = some x) : i = j := by
  obtain ⟨h1, e1⟩ := List.getElem?_eq_some_iff.mp a
  obtain ⟨h2, e2⟩ := List.getElem?_eq_some_iff.mp b
  exact (List.getElem_inj hN).mp (e1.trans e2.symm)
theorem store_ok2 {M : Model} {A : Around} {E : Value → Shared → Prop} {i : Nat} {x : Str} {v : V} {u : Value} {Q : Unit → Shared → Prop} (I : Inv X pins σ H s) (hN : X.N.Nodup) (hi : X.N[i]? = some x) (hx : Loc X.env.scope x) (r : RelV v u)
    (h : ∀ s', Inv X pins (σ.set i (some v)) H s' → (∃ a, Heap.SameBut a s.heap s'.heap ∧ (a = X.env.locals ∨ X.env.cells.lookup x = some a)) → Q () s') (hf : X.fn x = true ∨ X.env.scope.names.lookup x = some .local := by first | exact .inl rfl | exact .inr rfl | assumption) : wpAny M A (storeName X.env x u) Q E s := by
  obtain ⟨m, hn, hl⟩ := id I.loc
  have hcls : (X.env.scope.kind == .class || (X.env.scope.kind == .module && X.env.locals != X.env.globals)) = false := by rw [I.ok.kind]; rfl
  have hiσ : i < σ.length := by rw [I.len]; exact (List.getElem?_eq_some_iff.mp hi).1
  have cne := I.cne
  have tracked : ∀ {a : Addr} {h' : Heap}, (∃ o, s.heap.get? a = some o ∧ H a = none) → Heap.SameBut a s.heap h' → HOk X.prog X.w H h' := fun {a h'} ha hs b ob e => by
    obtain ⟨_, _, hfree⟩ := ha
    refine (I.hok b ob e).stay (fun c w' hc q => (hs.2 c ?_).trans q) (fun _ q => q) fun _ _ q => q
    rintro rfl
    rcases hc with rfl | hc
    · rw [hfree] at e; cases e
    · rw [hfree] at hc; cases hc
  rcases hx with hk | hk
  · refine wpAny_storeName_local hk hn (fun h' hn' hs => ?_) hcls
    obtain ⟨oL, _, _, hoL, _⟩ := id hn
    refine h _ ⟨I.ok, I.os, I.bare, ⟨fun b o e n hb hx => ?_, fun b o e n hb hx => ?_, I.base.free, fun b o e hx => ?_, I.base.tups, I.base.frzs, I.base.tbls⟩, ⟨_, hn', fun j y v' e1 e2 e3 => ?_⟩, fun y c e => ?_, I.free, I.freeC, fun p hp => ?_, tracked ⟨oL, hoL, I.free⟩ hs, by simpa using I.len⟩ ⟨_, hs, .inl rfl⟩
    · exact (hs.2 b (Nat.ne_of_lt (Nat.lt_of_lt_of_le (Heap.lt_size e) I.ok.above))).trans (I.base.keep b o e n hb hx)
    · obtain ⟨sl, e1⟩ := I.base.slot b o e n hb hx
      exact ⟨sl, (hs.2 b (Nat.ne_of_lt (Nat.lt_of_lt_of_le (Heap.lt_size e) I.ok.above))).trans e1⟩
    · obtain ⟨o', e1⟩ := I.base.there b o e hx
      exact ⟨o', (hs.2 b (Nat.ne_of_lt (Nat.lt_of_lt_of_le (Heap.lt_size e) I.ok.above))).trans e1⟩
    · by_cases hj : j = i
      · subst hj
        rw [hi] at e1; cases e1
        rw [List.getElem?_set_self hiσ] at e2
        cases e2
        exact ⟨u, r, .inl ⟨hk, by simp⟩⟩
      · rw [List.getElem?_set_ne (Ne.symm hj)] at e2
        obtain ⟨u', r', q⟩ := hl j y v' e1 e2 e3
        refine ⟨u', r', ?_⟩
        rcases q with ⟨k, e⟩ | ⟨k, c, e, z⟩
        · refine .inl ⟨k, ?_⟩
          have : y ≠ x := fun e => hj (nodup_ix hN e1 (e ▸ hi))
          simp [this, e]
        · exact .inr ⟨k, c, e, z.sameBut hs (cne y c e)⟩
    · obtain ⟨w', z⟩ := I.cell y c e
      exact ⟨w', z.sameBut hs (cne y c e)⟩
    · obtain ⟨e, n, ne, nf, d⟩ := I.pin p hp
      exact ⟨(hs.2 p.1 ne).trans e, n, ne, nf, d⟩
  · have hfn : X.fn x = true := by
      rcases hf with z | z
      · exact z
      · rw [z] at hk; cases hk
    obtain ⟨c, hc⟩ := I.ok.has x (.inl hk)
    obtain ⟨w', z⟩ := I.cell x c hc
    refine wpAny_storeName_cell I.ok.kind hk hc z (fun h' hc' hs => ?_)
    obtain ⟨oc, hoc, hocd⟩ := id z
    refine h { s with heap := h' } ⟨I.ok, I.os, I.bare, ⟨fun b o e n hb hx => ?_, fun b o e n hb hx => ?_, I.base.free, fun b o e hx => ?_, I.base.tups, I.base.frzs, I.base.tbls⟩, ⟨m, hn.sameBut hs (Ne.symm (cne x c hc)), fun j y v' e1 e2 e3 => ?_⟩, fun y c' e => ?_, I.free, I.freeC, fun p hp => ?_, tracked ⟨oc, hoc, I.freeC x c hc⟩ hs, by simpa using I.len⟩ ⟨c, hs, .inr hc⟩
    · exact (hs.2 b (Nat.ne_of_lt (Nat.lt_of_lt_of_le (Heap.lt_size e) (I.ok.cab x c hfn hc)))).trans (I.base.keep b o e n hb hx)
    · obtain ⟨sl, e1⟩ := I.base.slot b o e n hb hx
      exact ⟨sl, (hs.2 b (Nat.ne_of_lt (Nat.lt_of_lt_of_le (Heap.lt_size e) (I.ok.cab x c hfn hc)))).trans e1⟩
    · obtain ⟨o', e1⟩ := I.base.there b o e hx
      exact ⟨o', (hs.2 b (Nat.ne_of_lt (Nat.lt_of_lt_of_le (Heap.lt_size e) (I.ok.cab x c hfn hc)))).trans e1⟩
    · by_cases hj : j = i
      · subst hj
        rw [hi] at e1; cases e1
        rw [List.getElem?_set_self hiσ] at e2
        cases e2
        exact ⟨u, r, .inr ⟨.inl hk, c, hc, hc'⟩⟩
      · rw [List.getElem?_set_ne (Ne.symm hj)] at e2
        obtain ⟨u', r', q⟩ := hl j y v' e1 e2 e3
        refine ⟨u', r', ?_⟩
        rcases q with q | ⟨k, c', e, z'⟩
        · exact .inl q
        · refine .inr ⟨k, c', e, z'.sameBut hs ?_⟩
          rintro rfl
          exact hj (nodup_ix hN e1 (I.ok.inj _ _ _ e hc ▸ hi))
    · by_cases hcc : c' = c
      · subst hcc; exact ⟨_, hc'⟩
      · obtain ⟨w2, z2⟩ := I.cell y c' e
        exact ⟨w2, z2.sameBut hs hcc⟩
    · obtain ⟨e, n, ne, nf, d⟩ := I.pin p hp
      refine ⟨(hs.2 p.1 ?_).trans e, n, ne, nf, d⟩
      intro q
      rw [q, hoc] at e
      have q' : oc = p.2 := Option.some.inj e
      exact d w' (by rw [← q']; exact hocd)
theorem store_ok {M : Model} {A : Around} {E : Value → Shared → Prop} {i : Nat} {x : Str} {v : V} {u : Value} {Q : Unit → Shared → Prop} (I : Inv X pins σ H s) (hN : X.N.Nodup) (hi : X.N[i]? = some x) (hx : Loc X.env.scope x) (r : RelV v u)
    (h : ∀ s', Inv X pins (σ.set i (some v)) H s' → Q () s') (hf : X.fn x = true ∨ X.env.scope.names.lookup x = some .local := by first | exact .inl rfl | exact .inr rfl | assumption) : wpAny M A (storeName X.env x u) Q E s :=
  store_ok2 I hN hi hx r (fun s' I' _ => h s' I') hf
theorem Inv.call' {s' : Shared} {ch : List Addr} (I : Inv X pins σ H s) (ho : s'.os = s.os) (u : Un (frs X.stack) ch H H' s.heap s'.heap) (hok : HOk X.prog X.w H' s'.heap) (hg : AllBare s'.gens)
    (hch : ∀ b ∈ ch, (b ∈ X.ex ∨ X.s₀.heap.objs.size ≤ b) ∧ b ≠ X.env.locals ∧ (∀ x c, X.env.cells.lookup x = some c → c ≠ b) ∧ ∀ p ∈ X.pn ++ pins, p.1 ≠ b) : Inv X pins σ H' s' := by
  obtain ⟨h', g', d', t', o'⟩ := s'
  have e : o' = s.os := ho
  subst e
  exact I.call (g' := g') (t' := t') (d' := d') u hok hg hch
end
noncomputable abbrev XK := Value → Option Addr → Hp → Prop
noncomputable abbrev St := List (Option V)
noncomputable abbrev VK := V → Hp → Prop
noncomputable abbrev TE := St → Hp → VK → Prop
noncomputable abbrev TT := St → Hp → (Bool → Hp → Prop) → Prop
noncomputable abbrev TA := St → Hp → (List V → Hp → Prop) → Prop
structure Ends where
  nx : St → Hp → Prop
  rt : VK
  bk : St → Hp → Prop := fun _ _ => False
  ct : St → Hp → Prop := fun _ _ => False
noncomputable abbrev TS := Ends → St → Hp → Prop
noncomputable def EP (X : Cx) (pins : List (Addr × Obj)) (σ : St) (Q : VK) (u : Value) (s' : Shared) : Prop := ∃ v H', Inv X pins σ H' s' ∧ RelV v u ∧ Q v H'
noncomputable def TP (X : Cx) (pins : List (Addr × Obj)) (σ : St) (Q : Bool → Hp → Prop) (b : Bool) (s' : Shared) : Prop := ∃ H', Inv X pins σ H' s' ∧ Q b H'
noncomputable def AP (X : Cx) (pins : List (Addr × Obj)) (σ : St) (Q : List V → Hp → Prop) (us : List Value) (s' : Shared) : Prop := ∃ vs H', Inv X pins σ H' s' ∧ Vals vs us ∧ Q vs H'
noncomputable def SP (X : Cx) (pins : List (Addr × Obj)) (D : Ends) (f : Flow) (s' : Shared) : Prop :=
  match f with
  | .next => ∃ σ' H', Inv X pins σ' H' s' ∧ D.nx σ' H'
  | .brk => ∃ σ' H', Inv X pins σ' H' s' ∧ D.bk σ' H'
  | .cont => ∃ σ' H', Inv X pins σ' H' s' ∧ D.ct σ' H'
  | .ret u => ∃ v σ' H', Inv X pins σ' H' s' ∧ RelV v u ∧ D.rt v H'
noncomputable def PE (X : Cx) (e : Expr) (t : TE) : Prop :=
  ∀ (pins : List (Addr × Obj)) (s : Shared) (σ : St) (H : Hp) (Q : VK), Inv X pins σ H s → t σ H Q → wpAny (model X.prog X.w) X.A (eval e X.env) (EP X pins σ Q) X.xe s
noncomputable def PT (X : Cx) (e : Expr) (t : TT) : Prop :=
  ∀ (pins : List (Addr × Obj)) (s : Shared) (σ : St) (H : Hp) (Q : Bool → Hp → Prop), Inv X pins σ H s → t σ H Q → wpAny (model X.prog X.w) X.A (isTrue e X.env (eval e X.env)) (TP X pins σ Q) X.xe s
noncomputable def PW (X : Cx) (e : Expr) (t : TT) : Prop :=
  ∀ (whole : Sem Value) (pins : List (Addr × Obj)) (s : Shared) (σ : St) (H : Hp) (Q : Bool → Hp → Prop), Inv X pins σ H s → t σ H Q → wpAny (model X.prog X.w) X.A (isTrue e X.env whole) (TP X pins σ Q) X.xe s
theorem PW.pt {X : Cx} {e : Expr} {t : TT} (h : PW X e t) : PT X e t := h _
noncomputable def PA (X : Cx) (es : List Expr) (t : TA) : Prop :=
  ∀ (pos : Pos) (pins : List (Addr × Obj)) (s : Shared) (σ : St) (H : Hp) (Q : List V → Hp → Prop), Inv X pins σ H s → t σ H Q → wpAny (model X.prog X.w) X.A (spliced (backTo pos (starEach es X.env))) (AP X pins σ Q) X.xe s
noncomputable def PS (X : Cx) (st : Stmt) (t : TS) : Prop :=
  ∀ (pins : List (Addr × Obj)) (s : Shared) (σ : St) (H : Hp) (D : Ends), Inv X pins σ H s → t D σ H → wpAny (model X.prog X.w) X.A (exec st X.env) (SP X pins D) X.xe s
noncomputable def PSs (X : Cx) (st : List Stmt) (t : TS) : Prop :=
  ∀ (pins : List (Addr × Obj)) (s : Shared) (σ : St) (H : Hp) (D : Ends), Inv X pins σ H s → t D σ H → wpAny (model X.prog X.w) X.A (execs st X.env) (SP X pins D) X.xe s
theorem thn {α : Type} {t : Sem α} {Q Q' : α → Shared → Prop} {M : Model} {A : Around} {E : Value → Shared → Prop} {s : Shared} (h : wpAny M A t Q E s) (hQ : ∀ a s, Q a s → Q' a s) : wpAny M A t Q' E s := wpAny_mono h hQ fun _ _ x => x
end L2
namespace L2
open PySem PySem.Spec PyProof.Rows
section
variable {X : Cx}
noncomputable def tVar (i : Nat) : TE := fun σ H Q => ∃ v, σ[i]? = some (some v) ∧ Q v H
noncomputable def tC (v : V) : TE := fun _ H Q => Q v H
theorem pe_var {i : Nat} {x : Str} {pos : Pos} (hN : X.N[i]? = some x) (hv : Vis X.env.scope x) (hd : (x == ("__debug__" : Str)) = false := by decide) (hcd : (x == ("__classdict__" : Str)) = false := by decide) : PE X (.Name x pos) (tVar i) := by
  intro pins s σ H Q I h
  obtain ⟨v, e, h⟩ := h
  obtain ⟨m, hn, hl⟩ := I.loc
  obtain ⟨u, r, l⟩ := hl i x v hN e hv
  have fin : EP X pins σ Q u s := ⟨v, H, I, r, h⟩
  rcases l with ⟨hk, hm⟩ | ⟨hk, c, hc, hcell⟩
  · exact wpAny_Name (wpAny_loadName_local I.ok.kind hk hn hm fin) hd
  · rcases hk with hk | hk
    · exact wpAny_Name (wpAny_loadName_cell I.ok.kind hk hc hcell fin) hd
    · exact wpAny_Name (wpAny_loadName_free I.ok.kind hk hc hcell fin hcd) hd
theorem pe_int {i j pos} : PE X (.Constant (.int i) j pos) (tC (.int i)) := fun _ _ _ H _ I h => wpAny_Constant_int ⟨.int i, H, I.tok _, ⟨_, rfl⟩, h⟩
theorem pe_bl {b j pos} : PE X (.Constant (.bool b) j pos) (tC (.bl b)) := fun _ _ _ H _ I h => Constant_bool ⟨.bl b, H, I, rfl, h⟩
theorem pe_non {j pos} : PE X (.Constant .none j pos) (tC .non) := fun _ _ _ H _ I h => Constant_none ⟨.non, H, I, rfl, h⟩
theorem pe_str {x j pos} : PE X (.Constant (.str x) j pos) (tC (.str x)) := fun _ _ _ H _ I h => Calls.Constant_str ⟨.str x, H, I.tok _, ⟨_, rfl⟩, h⟩
noncomputable def Gl (X : Cx) (x : Str) : Prop := X.env.kindOf x = some .globalImplicit
theorem ld_glob {E : Value → Shared → Prop} {pins : List (Addr × Obj)} {s : Shared} {σ : St} {H : Hp} {x : Str} {u : Value} {pos : Pos} {Q : Value → Shared → Prop} (I : Inv X pins σ H s) (hg : Gl X x) (hm : X.mg x = some u) (h : Q u s)
    (hd : (x == ("__debug__" : Str)) = false := by decide) : wpAny (model X.prog X.w) X.A (eval (.Name x pos) X.env) Q E s :=
  Calls.Name_function_global I.ok.kind hg (Calls.loadGlobal_global (by rw [I.ok.glob]; exact I.mod.glob.keeps I.bk) hm h) hd
theorem ld_blt {E : Value → Shared → Prop} {pins : List (Addr × Obj)} {s : Shared} {σ : St} {H : Hp} {x : Str} {u : Value} {pos : Pos} {Q : Value → Shared → Prop} (I : Inv X pins σ H s) (hg : Gl X x) (hm : X.mg x = none) (hv : bootBuiltins x = some u) (h : Q u s)
    (hn : x ≠ "__name__" := by decide) (hd : (x == ("__debug__" : Str)) = false := by decide) : wpAny (model X.prog X.w) X.A (eval (.Name x pos) X.env) Q E s := by
  obtain ⟨mb, h1, h2⟩ := I.mod.blt
  exact Calls.Name_function_global I.ok.kind hg (Calls.loadGlobal_builtin (by rw [I.ok.glob]; exact I.mod.glob.keeps I.bk) hm (by rw [I.ok.blt]; exact h1.keeps I.bk) ((h2 x hn).trans hv) h) hd
theorem pe_glob {x : Str} {v : V} {u : Value} {pos : Pos} (hg : Gl X x) (hm : X.mg x = some u) (r : RelV v u) (hd : (x == ("__debug__" : Str)) = false := by decide) : PE X (.Name x pos) (tC v) :=
  fun _ _ _ H _ I h => ld_glob I hg hm ⟨v, H, I, r, h⟩ hd
theorem pe_bltn {x : Str} {v : V} {u : Value} {pos : Pos} (hg : Gl X x) (hm : X.mg x = none) (hv : bootBuiltins x = some u) (r : RelV v u) (hn : x ≠ "__name__" := by decide) (hd : (x == ("__debug__" : Str)) = false := by decide) : PE X (.Name x pos) (tC v) :=
  fun _ _ _ H _ I h => ld_blt I hg hm hv ⟨v, H, I, r, h⟩ hn hd
variable {a b : Expr} {ta tb : TE} {pos : Pos}
noncomputable def tB (t : TE) : TT := fun σ H Q => t σ H fun x H1 => ∃ c, x = .bl c ∧ Q c H1
variable {tA tB' : TT} {rest : List Expr}
noncomputable def tAnd (t u : TT) : TT := fun σ H Q => t σ H fun c H1 => if c = true then u σ H1 Q else Q false H1
noncomputable def tOr (t u : TT) : TT := fun σ H Q => t σ H fun c H1 => if c = true then Q true H1 else u σ H1 Q
noncomputable def tNot (t : TT) : TT := fun σ H Q => t σ H fun c H1 => Q (!c) H1
theorem pw_and1 (ha : PT X a tA) : PW X (.BoolOp .And [a] pos) tA := by
  intro wh pins s σ H Q I h
  refine isTrue_and (thn (ha pins s σ H Q I h) fun c s1 e => ?_)
  cases c with
  | true => exact isTrue_and_nil e
  | false => exact e
theorem pw_or1 (ha : PT X a tA) : PW X (.BoolOp .Or [a] pos) tA := by
  intro wh pins s σ H Q I h
  refine isTrue_or (thn (ha pins s σ H Q I h) fun c s1 e => ?_)
  cases c with
  | false => exact isTrue_or_nil e
  | true => exact e
theorem pw_and (ha : PT X a tA) (hb : PW X (.BoolOp .And (b :: rest) pos) tB') : PW X (.BoolOp .And (a :: b :: rest) pos) (tAnd tA tB') := by
  intro wh pins s σ H Q I h
  refine isTrue_and (thn (ha pins s σ H _ I h) fun c s1 ⟨H1, I1, q1⟩ => ?_)
  cases c with
  | true => exact hb wh pins s1 σ H1 Q I1 q1
  | false => exact ⟨H1, I1, q1⟩
theorem pw_or (ha : PT X a tA) (hb : PW X (.BoolOp .Or (b :: rest) pos) tB') : PW X (.BoolOp .Or (a :: b :: rest) pos) (tOr tA tB') := by
  intro wh pins s σ H Q I h
  refine isTrue_or (thn (ha pins s σ H _ I h) fun c s1 ⟨H1, I1, q1⟩ => ?_)
  cases c with
  | true => exact ⟨H1, I1, q1⟩
  | false => exact hb wh pins s1 σ H1 Q I1 q1
theorem pt_not (ha : PT X a tA) : PT X (.UnaryOp .Not a pos) (tNot tA) := by
  intro pins s σ H Q I h
  exact isTrue_not (ha pins s σ H (fun c H1 => Q (!c) H1) I h)
noncomputable def tAndV (ta tb : TE) : TE := fun σ H Q => ta σ H fun x H1 => ∃ c, x = .bl c ∧ if c = true then tb σ H1 Q else Q (.bl false) H1
noncomputable def tNotV (ta : TE) : TE := fun σ H Q => ta σ H fun x H1 => ∃ c, x = .bl c ∧ Q (.bl (!c)) H1
theorem pe_one {op} {t : TE} (h : PE X a t) : PE X (.BoolOp op [a] pos) t := fun pins s σ H Q I hw => BoolOp_one (h pins s σ H Q I hw)
theorem pe_and (ha : PE X a ta) (hb : PE X (.BoolOp .And (b :: rest) pos) tb) : PE X (.BoolOp .And (a :: b :: rest) pos) (tAndV ta tb) := by
  intro pins s σ H Q I h
  refine BoolOp_and (thn (ha pins s σ H _ I h) fun v s1 ⟨x, H1, I1, r1, q1⟩ => ?_)
  obtain ⟨c, rfl, q1⟩ := q1
  cases r1
  refine wpAny_truthy_bool ?_
  cases c with
  | true => exact hb pins s1 σ H1 Q I1 q1
  | false => exact ⟨.bl false, H1, I1, rfl, q1⟩
theorem pe_not (ha : PE X a ta) : PE X (.UnaryOp .Not a pos) (tNotV ta) := by
  intro pins s σ H Q I h
  refine UnaryOp_ (thn (ha pins s σ H _ I h) fun v s1 ⟨x, H1, I1, r1, q1⟩ => ?_)
  obtain ⟨c, rfl, q1⟩ := q1
  cases r1
  exact not_of (wpAny_truthy_bool ⟨.bl (!c), H1, I1, rfl, q1⟩)
noncomputable def tIf (t : TT) (ta tb : TE) : TE := fun σ H Q => t σ H fun c H1 => if c = true then ta σ H1 Q else tb σ H1 Q
theorem pe_ifExp {c : Expr} (hc : PT X c tA) (ha : PE X a ta) (hb : PE X b tb) : PE X (.IfExp c a b pos) (tIf tA ta tb) := by
  intro pins s σ H Q I h
  refine wpAny_IfExp (thn (hc pins s σ H _ I h) fun d s1 ⟨H1, I1, q1⟩ => ?_)
  cases d with
  | true => exact ha pins s1 σ H1 Q I1 q1
  | false => exact hb pins s1 σ H1 Q I1 q1
end
end L2
namespace L2
open PySem PySem.Spec PyProof.Rows
noncomputable def SqL (K : PySem.W.Frag) (H : Hp) (a : Addr) (xs : List V) : Prop :=
  Rd H a (.lst xs) ∨
    ∃ (o : Obj) (its : Array Value) (n : Nat), K.lookup a = some o ∧ o.cls = .type "list" ∧ o.dict = none ∧ o.data = .seq its n ∧ its.size ≤ sizeLine ∧ Vals xs its.toList
noncomputable def SqT (K : PySem.W.Frag) (H : Hp) (a : Addr) (xs : List V) : Prop :=
  Rd H a (.tup xs) ∨
    ∃ (o : Obj) (its : Array Value) (n : Nat), K.lookup a = some o ∧ o.cls = .type "tuple" ∧ o.data = .seq its n ∧ its.size ≤ sizeLine ∧ Vals xs its.toList
noncomputable def absV : Value → Option V
  | .none => some .non
  | .bool b => some (.bl b)
  | .int i _ => some (.int i)
  | .str x _ => some (.str x)
  | .bytes b _ => some (.byt b)
  | .float b _ => some (.flt b)
  | .ref a => some (.ref a)
  | .type n => some (.ty n)
  | _ => none
theorem RelV.abs {x : V} {u : Value} (r : RelV x u) : absV u = some x := by
  cases x with
  | non => cases r; rfl
  | bl _ => cases r; rfl
  | int _ => obtain ⟨t, rfl⟩ := r; rfl
  | str _ => obtain ⟨t, rfl⟩ := r; rfl
  | byt _ => obtain ⟨t, rfl⟩ := r; rfl
  | flt _ => obtain ⟨t, rfl⟩ := r; rfl
  | ref _ => cases r; rfl
  | ty _ => cases r; rfl
theorem RelV.inj {x y : V} {u : Value} (r : RelV x u) (q : RelV y u) : x = y := Option.some.inj (r.abs.symm.trans q.abs)
theorem Vals.inj : ∀ {xs ys : List V} {us : List Value}, Vals xs us → Vals ys us → xs = ys
  | _, _, _, .nil, .nil => rfl
  | _, _, _, .cons r t, .cons r' t' => by rw [r.inj r', Vals.inj t t']
section
variable {X : Cx} {pins : List (Addr × Obj)} {σ : St} {H : Hp} {s : Shared} {a : Addr} {xs ys : List V}
theorem SqL.of {K : PySem.W.Frag} (h : H a = some (.lst xs)) : SqL K H a xs := .inl (.inl h)
theorem SqT.of {K : PySem.W.Frag} (h : H a = some (.tup xs)) : SqT K H a xs := .inl (.inl h)
theorem Inv.list (I : Inv X pins σ H s) (h : SqL X.K H a xs) : ∃ its : List Value, Vals xs its ∧ PlainL s.heap a its.toArray ∧ xs.length ≤ sizeLine := by
  rcases h with h | ⟨o, its, n, hk, hc, hd, hs, hz, r⟩
  · obtain ⟨z, its, n, r, e⟩ := h.ok I.hok
    exact ⟨its, r, ⟨_, n, e, rfl, rfl, rfl⟩, z⟩
  · refine ⟨its.toList, r, ⟨o, n, I.kIn a o hk, hc, hd, by simpa using hs⟩, ?_⟩
    have e := r.length
    simp only [Array.length_toList] at e
    omega
theorem Inv.tuple (I : Inv X pins σ H s) (h : SqT X.K H a xs) : ∃ its : List Value, Vals xs its ∧ IsTup s.heap a its.toArray ∧ xs.length ≤ sizeLine := by
  rcases h with h | ⟨o, its, n, hk, hc, hs, hz, r⟩
  · obtain ⟨z, its, r, p, _⟩ := h.ok I.hok
    exact ⟨its, r, p, z⟩
  · refine ⟨its.toList, r, ⟨o, I.kIn a o hk, hc, n, by simpa using hs⟩, ?_⟩
    have e := r.length
    simp only [Array.length_toList] at e
    omega
theorem Inv.list_inj (I : Inv X pins σ H s) (h : SqL X.K H a xs) (h' : SqL X.K H a ys) : xs = ys := by
  obtain ⟨its, r, ⟨o, n, e, _, _, d⟩, _⟩ := I.list h
  obtain ⟨its', r', ⟨o', n', e', _, _, d'⟩, _⟩ := I.list h'
  rw [e] at e'; cases e'
  rw [d] at d'
  injection d' with d1 _
  have : its = its' := by simpa using congrArg Array.toList d1
  subst this
  exact r.inj r'
theorem Inv.tuple_inj (I : Inv X pins σ H s) (h : SqT X.K H a xs) (h' : SqT X.K H a ys) : xs = ys := by
  obtain ⟨its, r, ⟨o, e, _, n, d⟩, _⟩ := I.tuple h
  obtain ⟨its', r', ⟨o', e', _, n', d'⟩, _⟩ := I.tuple h'
  rw [e] at e'; cases e'
  rw [d] at d'
  injection d' with d1 _
  have : its = its' := by simpa using congrArg Array.toList d1
  subst this
  exact r.inj r'
end
noncomputable abbrev Cx.wish (X : Cx) (E : Value → Shared → Prop) : Cx := { X with xe := E }
noncomputable abbrev Cx.nox (X : Cx) : Cx := X.wish fun _ _ => False
theorem Cx.Ok.wish {X : Cx} (ok : X.Ok) (E : Value → Shared → Prop) : (X.wish E).Ok :=
  ⟨ok.mod, ok.kind, ok.glob, ok.blt, ok.above, ok.inj, ok.has, ok.cab, ok.hd, ok.frames, ok.stk, ok.exf, ok.bs, ok.bsz, ok.noex, ok.exfs, ok.funs, ok.frf⟩
theorem Cx.Ok.unwish {X : Cx} {E : Value → Shared → Prop} (ok : (X.wish E).Ok) : X.Ok :=
  ⟨ok.mod, ok.kind, ok.glob, ok.blt, ok.above, ok.inj, ok.has, ok.cab, ok.hd, ok.frames, ok.stk, ok.exf, ok.bs, ok.bsz, ok.noex, ok.exfs, ok.funs, ok.frf⟩
section
variable {X : Cx} {pins : List (Addr × Obj)} {σ : St} {H : Hp} {s : Shared} {E : Value → Shared → Prop}
theorem Inv.wish (I : Inv X pins σ H s) (E : Value → Shared → Prop) : Inv (X.wish E) pins σ H s := ⟨I.ok.wish E, I.os, I.bare, I.base, I.loc, I.cell, I.free, I.freeC, I.pin, I.hok, I.len⟩
theorem Inv.unwish (I : Inv (X.wish E) pins σ H s) : Inv X pins σ H s := ⟨I.ok.unwish, I.os, I.bare, I.base, I.loc, I.cell, I.free, I.freeC, I.pin, I.hok, I.len⟩
theorem SP.unwish {D : Ends} {f : Flow} {s' : Shared} (h : SP (X.wish E) pins D f s') : SP X pins D f s' := by
  cases f with
  | next => obtain ⟨σ', H', I, q⟩ := h; exact ⟨σ', H', I.unwish, q⟩
  | brk => obtain ⟨σ', H', I, q⟩ := h; exact ⟨σ', H', I.unwish, q⟩
  | cont => obtain ⟨σ', H', I, q⟩ := h; exact ⟨σ', H', I.unwish, q⟩
  | ret u => obtain ⟨v, σ', H', I, r, q⟩ := h; exact ⟨v, σ', H', I.unwish, r, q⟩
theorem PE.nox {e : Expr} {t : TE} (h : PE X.nox e t) : PE X e t := fun pins s σ H Q I hw =>
  wpAny_mono (h pins s σ H Q (I.wish _) hw) (fun _ _ ⟨v, H', I', r, q⟩ => ⟨v, H', I'.unwish, r, q⟩) fun _ _ z => False.elim z
theorem PT.nox {e : Expr} {t : TT} (h : PT X.nox e t) : PT X e t := fun pins s σ H Q I hw =>
  wpAny_mono (h pins s σ H Q (I.wish _) hw) (fun _ _ ⟨H', I', q⟩ => ⟨H', I'.unwish, q⟩) fun _ _ z => False.elim z
theorem PSs.nox {st : List Stmt} {t : TS} (h : PSs X.nox st t) : PSs X st t := fun pins s σ H D I hw =>
  wpAny_mono (h pins s σ H D (I.wish _) hw) (fun _ _ q => q.unwish) fun _ _ z => False.elim z
end
section
variable {X : Cx} {st : Stmt} {rest : List Stmt} {t u : TS} {e : Expr} {te : TE} {pos : Pos}
noncomputable def tNext : TS := fun D σ H => D.nx σ H
noncomputable def tSeq (t u : TS) : TS := fun D σ H => t { D with nx := u D } σ H
theorem pss_nil : PSs X [] tNext := fun _ _ σ H _ I h => wpAny_execs_nil ⟨σ, H, I, h⟩
theorem pss_cons (h1 : PS X st t) (h2 : PSs X rest u) : PSs X (st :: rest) (tSeq t u) := by
  intro pins s σ H D I h
  refine wpAny_execs_cons (thn (h1 pins s σ H { D with nx := u D } I h) fun f s1 q => ?_)
  cases f with
  | next =>
    obtain ⟨σ', H', I', q⟩ := q
    exact h2 pins s1 σ' H' D I' q
  | ret v => exact q
  | brk => exact q
  | cont => exact q
theorem pss_one (h1 : PS X st t) : PSs X [st] t := by
  intro pins s σ H D I h
  refine wpAny_execs_cons (thn (h1 pins s σ H D I h) fun f s1 q => ?_)
  cases f with
  | next => exact wpAny_execs_nil q
  | ret v => exact q
  | brk => exact q
  | cont => exact q
theorem Inv.quiet {pins : List (Addr × Obj)} {σ : St} {H : Hp} {s : Shared} (I : Inv X pins σ H s) : interactive X.env = false := by simp [interactive, I.ok.kind]
noncomputable def tDrop (te : TE) : TS := fun D σ H => te σ H fun _ H1 => D.nx σ H1
theorem ps_expr (he : PE X e te) (hs : swapsWith e none pos.line X.env = pure false := by rfl) : PS X (.Expr e pos) (tDrop te) := by
  intro pins s σ H D I h
  exact wpAny_Expr_any (thn (he pins s σ H _ I h) fun v s1 ⟨x, H1, I1, r1, q1⟩ => ⟨σ, H1, I1, q1⟩) I.quiet hs
noncomputable def tRet (te : TE) : TS := fun D σ H => te σ H D.rt
theorem ps_ret (he : PE X e te) : PS X (.Return (some e) pos) (tRet te) := by
  intro pins s σ H D I h
  exact wpAny_Return_some (thn (he pins s σ H _ I h) fun v s1 ⟨x, H1, I1, r1, q1⟩ => ⟨x, σ, H1, I1, r1, q1⟩)
noncomputable def tIfS (c : TT) (t u : TS) : TS := fun D σ H => c σ H fun b H1 => if b = true then t D σ H1 else u D σ H1
theorem ps_if {c : Expr} {a b : List Stmt} {tc : TT} (hc : PT X c tc) (ha : PSs X a t) (hb : PSs X b u) : PS X (.If c a b pos) (tIfS tc t u) := by
  intro pins s σ H D I h
  refine wpAny_If (thn (hc pins s σ H _ I h) fun d s1 ⟨H1, I1, q1⟩ => ?_)
  cases d with
  | true => exact ha pins s1 σ H1 D I1 q1
  | false => exact hb pins s1 σ H1 D I1 q1
noncomputable def tNever : TS := fun _ _ _ => False
theorem ps_never : PS X st tNever := fun _ _ _ _ _ _ h => h.elim
end
noncomputable abbrev TG := V → St → Hp → (St → Hp → Prop) → Prop
noncomputable abbrev TGs := List V → St → Hp → (St → Hp → Prop) → Prop
noncomputable def PG (X : Cx) (target : Expr) (t : TG) : Prop :=
  ∀ (pins : List (Addr × Obj)) (s : Shared) (σ : St) (H : Hp) (v : V) (u : Value) (Q : St → Hp → Prop), Inv X pins σ H s → RelV v u → t v σ H Q →
    wpAny (model X.prog X.w) X.A (assign target X.env u) (fun _ s' => ∃ σ' H', Inv X pins σ' H' s' ∧ Q σ' H') X.xe s
noncomputable def PGs (X : Cx) (ts : List Expr) (t : TGs) : Prop :=
  ∀ (pins : List (Addr × Obj)) (s : Shared) (σ : St) (H : Hp) (vs : List V) (us : List Value) (Q : St → Hp → Prop), Inv X pins σ H s → Vals vs us → t vs σ H Q →
    wpAny (model X.prog X.w) X.A (assignInOrder ((assignEach ts X.env).map (·.2)) us) (fun _ s' => ∃ σ' H', Inv X pins σ' H' s' ∧ Q σ' H') X.xe s
noncomputable abbrev TSet := V → V → V → Hp → (Hp → Prop) → Prop
noncomputable def PSet (X : Cx) (t : TSet) : Prop :=
  ∀ (pins : List (Addr × Obj)) (s : Shared) (σ : St) (H : Hp) (o i v : V) (ov iv u : Value) (Q : Hp → Prop), Inv X pins σ H s → RelV o ov → RelV i iv → RelV v u → t o i v H Q →
    wpAny (model X.prog X.w) X.A (setItem ov iv u) (fun _ s' => ∃ H', Inv X pins σ H' s' ∧ Q H') X.xe s
section
variable {X : Cx} {pos : Pos}
noncomputable def gName (i : Nat) : TG := fun v σ H Q => Q (σ.set i (some v)) H
theorem pg_name {i : Nat} {x : Str} (hN : X.N.Nodup) (hi : X.N[i]? = some x) (hx : Loc X.env.scope x) (hf : X.fn x = true ∨ X.env.scope.names.lookup x = some .local := by first | exact .inl rfl | exact .inr rfl | assumption) : PG X (.Name x pos) (gName i) := by
  intro pins s σ H v u Q I r h
  exact wpAny_assign_Name (store_ok I hN hi hx r (fun s' I' => ⟨_, H, I', h⟩) hf)
noncomputable def gNil : TGs := fun vs σ H Q => vs = [] ∧ Q σ H
noncomputable def gCons (t : TG) (u : TGs) : TGs := fun vs σ H Q => ∃ v r, vs = v :: r ∧ t v σ H fun σ' H' => u r σ' H' Q
theorem pgs_nil : PGs X [] gNil := by
  intro pins s σ H vs us Q I r h
  obtain ⟨e, h⟩ := h
  subst e
  cases r
  exact assignInOrder_nil ⟨σ, H, I, h⟩
theorem pgs_cons {e : Expr} {es : List Expr} {t : TG} {u : TGs} (h1 : PG X e t) (h2 : PGs X es u)
    (hs : (assignEach (e :: es) X.env).map (·.2) = assign e X.env :: (assignEach es X.env).map (·.2) := by rfl) : PGs X (e :: es) (gCons t u) := by
  intro pins s σ H vs us Q I r h
  obtain ⟨v, vr, e1, h⟩ := h
  subst e1
  cases r with
  | cons r rr =>
    rw [hs]
    refine assignInOrder_cons (thn (h1 pins s σ H _ _ _ I r h) fun _ s1 ⟨σ1, H1, I1, q1⟩ => ?_)
    exact h2 pins s1 σ1 H1 _ _ Q I1 rr q1
noncomputable def gTup (K : PySem.W.Frag) (n : Nat) (t : TGs) : TG := fun v σ H Q => ∃ a xs, v = .ref a ∧ SqT K H a xs ∧ xs.length = n ∧ t xs σ H Q
theorem pg_tup {es : List Expr} {k : Nat} {t : TGs} {n : Nat} (hc : X.calm = true) (h : PGs X es t)
    (hn : (assignEach es X.env).length = n := by rfl) (hst : (assignEach es X.env).findIdx? (·.1) = none := by rfl) : PG X (.Tuple es k pos) (gTup X.K n t) := by
  intro pins s σ H v u Q I r hw
  obtain ⟨a, xs, e1, hq, hl, hw⟩ := hw
  subst e1
  cases r
  obtain ⟨its, rv, ht, hz⟩ := I.tuple hq
  refine assign_Tuple_tuple (I.ok.hd hc) ht (by simp [hn, ← hl, rv.length]) hst fun h' hx => ?_
  have I1 : Inv X pins σ H { s with heap := h' } := I.kept (t' := s.toks) fun b o e => hx b o (Nat.ne_of_lt (Heap.lt_size e)) e
  exact h pins _ σ H xs _ Q I1 (by simpa using rv) hw
noncomputable def gSub (to ti : TE) (t : TSet) : TG := fun v σ H Q => to σ H fun o H1 => ti σ H1 fun i H2 => t o i v H2 fun H3 => Q σ H3
theorem pg_sub {o i : Expr} {to ti : TE} {t : TSet} (ho : PE X o to) (hi : PE X i ti) (hs : PSet X t)
    (ha : ∀ v, assign (.Subscript o i pos) X.env v = (do
      let ov ← holding [v] (eval o X.env)
      let iv ← holding [v, ov] (eval i X.env)
      standAt pos
      holding [v, ov, iv] (setItem ov iv v)
      release [v, ov, iv] []) := by intro _; rfl) : PG X (.Subscript o i pos) (gSub to ti t) := by
  intro pins s σ H v u Q I r h
  rw [ha]
  refine wpAny_bind (wpAny_holding (thn (ho pins s σ H _ I h) fun ov s1 ⟨x, H1, I1, r1, q1⟩ => ?_))
  refine wpAny_bind (wpAny_holding (thn (hi pins s1 σ H1 _ I1 q1) fun iv s2 ⟨y, H2, I2, r2, q2⟩ => ?_))
  refine wpAny_bind (wpAny_standAt (wpAny_bind (wpAny_holding (thn (hs pins s2 σ H2 x y v ov iv u _ I2 r1 r2 r q2) fun _ s3 ⟨H3, I3, q3⟩ => ?_))))
  exact wpAny_release ⟨σ, H3, I3, q3⟩
noncomputable def tAsg (te : TE) (g : TG) : TS := fun D σ H => te σ H fun x H1 => g x σ H1 D.nx
theorem ps_asg {tg e : Expr} {te : TE} {g : TG} (he : PE X e te) (hg : PG X tg g) (hs : swapsWithSole [tg] e pos.line X.env = pure false := by rfl) (hw : swappedStores [tg] e X.env = pure none := by rfl)
    (h1 : (assignEach [tg] X.env).map (·.2) = [assign tg X.env] := by rfl) : PS X (.Assign [tg] e pos) (tAsg te g) := by
  intro pins s σ H D I h
  refine wpAny_Assign_stores (thn (he pins s σ H _ I h) fun v s1 ⟨x, H1, I1, r1, q1⟩ => ?_) hs hw
  rw [h1]
  exact thn (hg pins s1 σ H1 x v _ I1 r1 q1) fun _ s2 q => q
theorem ps_set {i : Nat} {x : Str} {e : Expr} {te : TE} {pos' : Pos} (hN : X.N.Nodup) (hi : X.N[i]? = some x) (hx : Loc X.env.scope x) (he : PE X e te) (hs : swapsWith e (some (.Name x pos')) pos.line X.env = pure false := by rfl) (hf : X.fn x = true ∨ X.env.scope.names.lookup x = some .local := by first | exact .inl rfl | exact .inr rfl | assumption) :
    PS X (.Assign [.Name x pos'] e pos) (tAsg te (gName i)) := by
  intro pins s σ H D I h
  refine wpAny_Assign_Name (thn (he pins s σ H _ I h) fun v s1 ⟨y, H1, I1, r1, q1⟩ => ?_) hs
  exact store_ok I1 hN hi hx r1 (fun s2 I2 => ⟨_, H1, I2, q1⟩) hf
noncomputable def tPar (i j : Nat) (ta : TA) : TS := fun D σ H => ta σ H fun vs H1 => ∃ v w, vs = [v, w] ∧ D.nx ((σ.set i (some v)).set j (some w)) H1
theorem ps_par {i j : Nat} {x y : Str} {a b : Expr} {ta : TA} {px py pt : Pos} {kt k2 pt2} (hc : X.calm = true) (hN : X.N.Nodup) (hi : X.N[i]? = some x) (hj : X.N[j]? = some y) (hij : i ≠ j)
    (hx : X.env.scope.names.lookup x = some .local) (hy : X.env.scope.names.lookup y = some .local) (ha : PA X [a, b] ta)
    (hw : swappedStores [.Tuple [.Name x px, .Name y py] kt pt] (.Tuple [a, b] k2 pt2) X.env = pure (some [x, y]))
    (hs : swapsWithSole [.Tuple [.Name x px, .Name y py] kt pt] (.Tuple [a, b] k2 pt2) pos.line X.env = pure false := by rfl) :
    PS X (.Assign [.Tuple [.Name x px, .Name y py] kt pt] (.Tuple [a, b] k2 pt2) pos) (tPar i j ta) := by
  intro pins s σ H D I h
  rw [exec_Assign_arm]
  refine wpAny_bind (wpAny_standAt ?_)
  rw [hs]
  refine wpAny_bind (wpAny_pure ?_)
  rw [if_neg (by decide)]
  refine wpAny_bind (Tuple_ (thn (ha _ pins s σ H _ I h) fun us s1 ⟨vs, H1, I1, r1, q1⟩ => ?_))
  obtain ⟨v, w, e1, q1⟩ := q1
  subst e1
  obtain ⟨u1, u2, rfl, rv, rw'⟩ : ∃ u1 u2, us = [u1, u2] ∧ RelV v u1 ∧ RelV w u2 := by
    cases r1 with
    | cons p q =>
      cases q with
      | cons p' q' =>
        cases q'
        exact ⟨_, _, rfl, p, p'⟩
  refine wpAny_newObj_type ?_ (by show 2 ≤ sizeLine; decide)
  have I2 : Inv X pins σ H1 { s1 with heap := s1.heap.push { cls := .type "tuple", data := .seq [u1, u2].toArray } } := I1.kept (t' := s1.toks) fun b o e => Heap.get?_push_of_some _ e
  rw [hw]
  refine wpAny_bind (wpAny_pure ?_)
  show wpAny (model X.prog X.w) X.A (do rule "assign.swapped-stores"; let items ← unpackItems (.ref s1.heap.objs.size) 2 none; assignInOrder [fun v => bindName X.env y v, fun v => bindName X.env x v] items.reverse; pure Flow.next) _ _ _
  refine wpAny_bind (wpAny_rule (wpAny_bind (unpackItems_tuple (items := #[u1, u2]) (I.ok.hd hc) (IsTup.new s1.heap _) fun h' hx' => ?_)))
  have I3 := I2.kept (h' := h') (t' := s1.toks) fun b o e => hx' b o (Nat.ne_of_lt (Heap.lt_size e)) e
  show wpAny _ _ (assignInOrder [fun v => bindName X.env y v, fun v => bindName X.env x v] [u2, u1] >>= fun _ => pure Flow.next) _ _ _
  refine wpAny_bind (assignInOrder_cons (wpAny_bindName (store_ok I3 hN hj (.inl hy) rw' (fun s2 I4 => ?_) (.inr hy))))
  refine assignInOrder_cons (wpAny_bindName (store_ok I4 hN hi (.inl hx) rv (fun s3 I5 => assignInOrder_nil (wpAny_pure ?_)) (.inr hx)))
  rw [List.set_comm _ _ (Ne.symm hij)] at I5
  exact ⟨_, H1, I5, q1⟩
end
section
variable {X : Cx} {pos : Pos}
noncomputable def tWhile (c : TT) (tb : TS) : TS := fun D σ H => ∃ W : Nat → St → Hp → Prop, (∃ m, W m σ H) ∧ ∀ m σ H, W m σ H →
  c σ H fun b H1 => if b = true then ∃ N : St → Hp → Prop, (∀ σ' H', N σ' H' → ∃ m', m' < m ∧ W m' σ' H') ∧ tb { D with nx := N, ct := N, bk := D.nx } σ H1 else D.nx σ H1
theorem ps_while {c : Expr} {body : List Stmt} {tc : TT} {tb : TS} (hp : PassesOwn (model X.prog X.w) X.A X.env X.xe) (hc : PT X c tc) (hb : PSs X body tb) : PS X (.While c body [] pos) (tWhile tc tb) := by
  intro pins s σ H D I h
  obtain ⟨W, ⟨m0, w0⟩, turn⟩ := h
  refine wpAny_While (codeAny_whileLoop (fun n s' => ∃ σ' H', Inv X pins σ' H' s' ∧ W n σ' H') ?_ m0 ⟨σ, H, I, w0⟩)
  rintro n s1 ⟨σ1, H1, I1, w1⟩
  refine wpAny_passesOwn hp (thn (hc pins s1 σ1 H1 _ I1 (turn n σ1 H1 w1)) fun b s2 ⟨H2, I2, q2⟩ => ?_)
  cases b with
  | true =>
    obtain ⟨N, hN, q2⟩ := q2
    rw [if_pos rfl]
    refine wpAny_passesOwn hp (thn (hb pins s2 σ1 H2 _ I2 q2) fun f s3 q3 => ?_)
    cases f with
    | next =>
      obtain ⟨σ3, H3, I3, n3⟩ := q3
      obtain ⟨m', hm, w3⟩ := hN σ3 H3 n3
      exact ⟨m', hm, σ3, H3, I3, w3⟩
    | cont =>
      obtain ⟨σ3, H3, I3, n3⟩ := q3
      obtain ⟨m', hm, w3⟩ := hN σ3 H3 n3
      exact ⟨m', hm, σ3, H3, I3, w3⟩
    | brk => exact q3
    | ret v => exact q3
  | false =>
    rw [if_neg Bool.false_ne_true]
    exact wpAny_execs_nil ⟨σ1, H2, I2, q2⟩
end
structure It where
  go : Nat → Hp → Prop
  yld : Nat → Hp → V → Hp → Prop
  stop : Nat → Hp → Prop
noncomputable def FpOk (X : Cx) (pins : List (Addr × Obj)) (H : Hp) (b : Addr) : Prop :=
  H b = none ∧ b ≠ X.env.locals ∧ b ∉ X.fs ∧ (b ∈ X.ex ∨ X.s₀.heap.objs.size ≤ b) ∧ (∀ x c, X.env.cells.lookup x = some c → c ≠ b) ∧ ∀ p ∈ X.pn ++ pins, p.1 ≠ b
theorem Inv.fpOk {X : Cx} {pins : List (Addr × Obj)} {σ : St} {H H' : Hp} {s : Shared} {b : Addr} (I : Inv X pins σ H s) (hb : s.heap.objs.size ≤ b) (hn : H' b = none) : FpOk X pins H' b := by
  refine ⟨hn, Nat.ne_of_gt (Nat.lt_of_lt_of_le I.lt hb), I.nofs hb, .inr (Nat.le_trans I.sz hb), fun x c e z => ?_, fun p hp z => ?_⟩
  · obtain ⟨v, q⟩ := I.cell x c e
    exact absurd (Nat.lt_of_lt_of_le q.lt (by rw [z]; exact hb)) (Nat.lt_irrefl _)
  · exact absurd (Nat.lt_of_lt_of_le (Heap.lt_size (I.pin p hp).1) (by rw [z]; exact hb)) (Nat.lt_irrefl _)
structure Turn (P : Program) (w : World) (K : PySem.W.Frag) (tg : Expr) (J : It) (fp : List Addr) (it : Addr) (tn : Nat → Heap → Prop) : Prop where
  mem : it ∈ fp
  obj : ∀ i h, tn i h → ∀ b ∈ fp, ∃ o, h.get? b = some o ∧ ∀ v, o.data ≠ .cell v
  keep : ∀ i h h', tn i h → (∀ b ∈ fp, ∀ o, h.get? b = some o → h'.get? b = some o) → tn i h'
  item : ∀ (X : Cx), X.prog = P → X.w = w → X.K = K → X.calm = true → ∀ (i : Nat) (pins : List (Addr × Obj)) (s : Shared) (σ : St) (H : Hp) (E : Value → Shared → Prop), Inv X pins σ H s → (∀ b ∈ fp, FpOk X pins H b) → tn i s.heap → J.go i H →
    wpAny (model P w) X.A (pyNext (.ref it)) (fun r s1 => ∃ u, r = some u ∧
      wpAny (model P w) X.A (letOwnedTupleGo tg (.ref it) u) (fun _ s2 => ∃ x H', Inv X pins σ H' s2 ∧ RelV x u ∧ J.yld i H x H' ∧ tn (i + 1) s2.heap ∧ ∀ b ∈ fp, H' b = none) E s1) E s
  done : ∀ (X : Cx), X.prog = P → X.w = w → X.K = K → X.calm = true → ∀ (i : Nat) (pins : List (Addr × Obj)) (s : Shared) (σ : St) (H : Hp) (E : Value → Shared → Prop), Inv X pins σ H s → (∀ b ∈ fp, FpOk X pins H b) → tn i s.heap → J.stop i H →
    wpAny (model P w) X.A (pyNext (.ref it)) (fun r s1 => r = none ∧ Inv X pins σ H s1) E s
  self : ∀ (A : Around) (i : Nat) (s : Shared) (Q : Value → Shared → Prop) (E : Value → Shared → Prop), tn i s.heap → Q (.ref it) s → wpAny (model P w) A (pyIter (.ref it)) Q E s
noncomputable abbrev TI := St → Hp → (It → Hp → Prop) → Prop
noncomputable def PIE (X : Cx) (pins : List (Addr × Obj)) (σ : St) (tg : Expr) (R : It → Hp → Prop) (itv : Value) (s2 : Shared) : Prop :=
  ∃ (it : Addr) (fp : List Addr) (tn : Nat → Heap → Prop) (J : It) (H' : Hp), itv = .ref it ∧ Inv X pins σ H' s2 ∧ Turn X.prog X.w X.K tg J fp it tn ∧ tn 0 s2.heap ∧ (∀ b ∈ fp, FpOk X pins H' b) ∧ R J H'
noncomputable def PI (X : Cx) (tg iter : Expr) (wi : TI) : Prop :=
  ∀ (pins : List (Addr × Obj)) (s : Shared) (σ : St) (H : Hp) (R : It → Hp → Prop), Inv X pins σ H s → wi σ H R →
    wpAny (model X.prog X.w) X.A (eval iter X.env) (fun v s1 => wpAny (model X.prog X.w) X.A (pyIter v) (PIE X pins σ tg R) X.xe s1) X.xe s
theorem go_of {M : Model} {A : Around} {E : Value → Shared → Prop} {s : Shared} {tg : Expr} {it : Addr} {u : Value} {o : Obj} {n : String} {vs : Array Value} {Q : Unit → Shared → Prop} (ho : s.heap.get? it = some o) (hc : o.cls = .type n) (hd : o.data = .fields vs)
    (hn : ["enumerate", "zip", "dict_itemiterator", "dict_reverseitemiterator", "odict_iterator", "itertools.zip_longest", "itertools.pairwise"].contains n = false) (hQ : Q () s) : wpAny M A (letOwnedTupleGo tg (.ref it) u) Q E s := by
  unfold letOwnedTupleGo
  cases tg <;> first
    | exact wpAny_pure hQ
    | (cases u <;> first
        | exact wpAny_pure hQ
        | (refine wpAny_bind (wpAny_load ho ?_)
           rw [hc, hd]
           show wpAny M A (if (["enumerate", "zip", "dict_itemiterator", "dict_reverseitemiterator", "odict_iterator", "itertools.zip_longest", "itertools.pairwise"].contains n && vs[0]? == some (rawInt _)) = true then _ else _) Q E s
           rw [if_neg (by intro h; rw [hn, Bool.false_and] at h; cases h)]
           exact wpAny_pure hQ))
noncomputable def Itl (K : PySem.W.Frag) (a : Addr) : It :=
  ⟨fun i H => ∃ xs x, SqL K H a xs ∧ xs[i]? = some x, fun i H x H' => H' = H ∧ ∀ xs, SqL K H a xs → xs[i]? = some x, fun i H => ∃ xs, SqL K H a xs ∧ xs.length ≤ i⟩
noncomputable def Itt (K : PySem.W.Frag) (a : Addr) : It :=
  ⟨fun i H => ∃ xs x, SqT K H a xs ∧ xs[i]? = some x, fun i H x H' => H' = H ∧ ∀ xs, SqT K H a xs → xs[i]? = some x, fun i H => ∃ xs, SqT K H a xs ∧ xs.length ≤ i⟩
noncomputable def Itr (lo : Int) (n : Nat) : It := ⟨fun i _ => i < n, fun i H x H' => H' = H ∧ x = .int (lo + i), fun i _ => n ≤ i⟩
theorem turn_list {P : Program} {w : World} {K : PySem.W.Frag} {tg : Expr} (a it : Addr) : Turn P w K tg (Itl K a) [it] it (fun i h => h.IsListIter it a i) where
  mem := by simp
  obj := fun i h st b hb => by
    have e : b = it := by simpa using hb
    subst e
    obtain ⟨o, e, c, d⟩ := st
    exact ⟨o, e, fun v z => by rw [d] at z; cases z⟩
  keep := fun i h h' st k => st.at fun o e => k it (by simp) o e
  item := by
    intro X hP hw hK hc i pins s σ H E I hf st hg
    subst hP hw hK
    obtain ⟨xs, x, hq, hx⟩ := hg
    obtain ⟨its, rv, p, hz⟩ := I.list hq
    obtain ⟨u, hu, ru⟩ := rv.get hx
    obtain ⟨f0, f1, f2, f3, f4, f5⟩ := hf it (by simp)
    refine wpAny_pyNext_list_item st p.isList (x := u) (by simpa using hu) fun h' st' sb => ?_
    have I1 : Inv X pins σ H { s with heap := h' } := I.turned (t' := s.toks) (fun b o hb e => (sb.2 b hb).trans e) f0 f1 f3 f4 f5
    obtain ⟨o, e, c, d⟩ := id st'
    exact ⟨u, rfl, go_of (s := { s with heap := h' }) e c d (by decide) ⟨x, H, I1, ru, ⟨rfl, fun ys hy => by rw [I.list_inj hy hq]; exact hx⟩, st', fun b hb => (hf b hb).1⟩⟩
  done := by
    intro X hP hw hK hc i pins s σ H E I hf st hg
    subst hP hw hK
    obtain ⟨xs, hq, hx⟩ := hg
    obtain ⟨its, rv, p, hz⟩ := I.list hq
    obtain ⟨f0, f1, f2, f3, f4, f5⟩ := hf it (by simp)
    have hl := rv.length
    exact wpAny_pyNext_list_end (I.ok.hd hc) st p.isList (by simp; omega) fun h' eb => ⟨rfl, I.turned (t' := s.toks) (fun b o hb e => eb b o hb e) f0 f1 f3 f4 f5⟩
  self := fun _ _ _ _ _ st h => wpAny_pyIter_listiter st h
theorem turn_tuple {P : Program} {w : World} {K : PySem.W.Frag} {tg : Expr} (a it : Addr) : Turn P w K tg (Itt K a) [it] it (fun i h => h.IsTupleIter it a i) where
  mem := by simp
  obj := fun i h st b hb => by
    have e : b = it := by simpa using hb
    subst e
    obtain ⟨o, e, c, d⟩ := st
    exact ⟨o, e, fun v z => by rw [d] at z; cases z⟩
  keep := fun i h h' st k => st.at fun o e => k it (by simp) o e
  item := by
    intro X hP hw hK hc i pins s σ H E I hf st hg
    subst hP hw hK
    obtain ⟨xs, x, hq, hx⟩ := hg
    obtain ⟨its, rv, p, hz⟩ := I.tuple hq
    obtain ⟨u, hu, ru⟩ := rv.get hx
    obtain ⟨f0, f1, f2, f3, f4, f5⟩ := hf it (by simp)
    refine wpAny_pyNext_tuple_item st (show s.heap.IsTuple a its.toArray from p) (x := u) (by simpa using hu) fun h' st' sb => ?_
    have I1 : Inv X pins σ H { s with heap := h' } := I.turned (t' := s.toks) (fun b o hb e => (sb.2 b hb).trans e) f0 f1 f3 f4 f5
    obtain ⟨o, e, c, d⟩ := id st'
    exact ⟨u, rfl, go_of (s := { s with heap := h' }) e c d (by decide) ⟨x, H, I1, ru, ⟨rfl, fun ys hy => by rw [I.tuple_inj hy hq]; exact hx⟩, st', fun b hb => (hf b hb).1⟩⟩
  done := by
    intro X hP hw hK hc i pins s σ H E I hf st hg
    subst hP hw hK
    obtain ⟨xs, hq, hx⟩ := hg
    obtain ⟨its, rv, p, hz⟩ := I.tuple hq
    obtain ⟨f0, f1, f2, f3, f4, f5⟩ := hf it (by simp)
    have hl := rv.length
    exact wpAny_pyNext_tuple_end (I.ok.hd hc) st (show s.heap.IsTuple a its.toArray from p) (by simp; omega) fun h' eb => ⟨rfl, I.turned (t' := s.toks) (fun b o hb e => eb b o hb e) f0 f1 f3 f4 f5⟩
  self := fun _ _ _ _ _ st h => wpAny_pyIter_tupleiter st h
theorem turn_range {P : Program} {w : World} {K : PySem.W.Frag} {tg : Expr} (it : Addr) (lo : Int) (n : Nat) : Turn P w K tg (Itr lo n) [it] it (fun i h => IsRangeIter h it (lo + (i : Nat) * 1) ((n : Int) - (i : Nat)) 1) where
  mem := by simp
  obj := fun i h st b hb => by
    have e : b = it := by simpa using hb
    subst e
    exact ⟨_, st, fun v z => by
      have z' : Data.fields _ = Data.cell v := z
      cases z'⟩
  keep := fun i h h' st k => k it (by simp) _ st
  item := by
    intro X hP hw hK hc i pins s σ H E I hf st hg
    subst hP hw hK
    obtain ⟨f0, f1, f2, f3, f4, f5⟩ := hf it (by simp)
    have W := Walks.range (prog := X.prog) (w := X.w) (I.ok.hd hc) it lo 1 n
    refine W.item i s _ _ hg st fun v h' tk hv st' kk => ?_
    obtain ⟨t, rfl⟩ := hv
    have I1 : Inv X pins σ H { s with heap := h', toks := tk } := I.turned (fun b o hb e => kk b o (by simpa using hb) e) f0 f1 f3 f4 f5
    refine ⟨_, rfl, go_of (s := { s with heap := h', toks := tk }) (n := "range_iterator") st' rfl rfl (by decide) ⟨.int (lo + i), H, I1, ⟨t, ?_⟩, ⟨rfl, rfl⟩, st', fun b hb => (hf b hb).1⟩⟩
    rw [Int.mul_one]
  done := by
    intro X hP hw hK hc i pins s σ H E I hf st hg
    subst hP hw hK
    obtain ⟨f0, f1, f2, f3, f4, f5⟩ := hf it (by simp)
    exact wpAny_pyNext_range_end (I.ok.hd hc) st (by have : n ≤ i := hg; omega) fun h' eb => ⟨rfl, I.turned (t' := s.toks) (fun b o hb e => eb b o hb e) f0 f1 f3 f4 f5⟩
  self := fun _ _ _ _ _ st h => wpAny_pyIter_rangeiter st h
end L2
namespace L2
open PySem PySem.Spec PyProof.Rows
section
variable {X : Cx} {tg : Expr}
noncomputable def iList (K : PySem.W.Frag) (tl : TE) : TI := fun σ H R => tl σ H fun x H1 => ∃ a, x = .ref a ∧ (∃ xs, SqL K H1 a xs) ∧ R (Itl K a) H1
noncomputable def iTup (K : PySem.W.Frag) (tl : TE) : TI := fun σ H R => tl σ H fun x H1 => ∃ a, x = .ref a ∧ (∃ xs, SqT K H1 a xs) ∧ R (Itt K a) H1
theorem pi_list {l : Expr} {tl : TE} (hl : PE X l tl) : PI X tg l (iList X.K tl) := by
  intro pins s σ H R I h
  refine thn (hl pins s σ H _ I h) fun v s1 ⟨x, H1, I1, r1, q1⟩ => ?_
  obtain ⟨a, e, ⟨xs, hq⟩, q⟩ := q1
  subst e
  cases r1
  obtain ⟨its, rv, p, hz⟩ := I1.list hq
  refine wpAny_pyIter_list p.isList ?_
  refine ⟨s1.heap.objs.size, [s1.heap.objs.size], _, _, H1, rfl, I1.kept (t' := s1.toks) fun b o e => Heap.get?_push_of_some _ e, turn_list a _, ⟨_, Heap.get?_push_size _ rfl, rfl, rfl⟩, fun b hb => ?_, q⟩
  have e : b = s1.heap.objs.size := by simpa using hb
  subst e
  exact I1.fpOk (Nat.le_refl _) (I1.hok.fresh (Nat.le_refl _))
theorem pi_tup {l : Expr} {tl : TE} (hl : PE X l tl) : PI X tg l (iTup X.K tl) := by
  intro pins s σ H R I h
  refine thn (hl pins s σ H _ I h) fun v s1 ⟨x, H1, I1, r1, q1⟩ => ?_
  obtain ⟨a, e, ⟨xs, hq⟩, q⟩ := q1
  subst e
  cases r1
  obtain ⟨its, rv, p, hz⟩ := I1.tuple hq
  refine wpAny_pyIter_tuple (show s1.heap.IsTuple a its.toArray from p) ?_
  refine ⟨s1.heap.objs.size, [s1.heap.objs.size], _, _, H1, rfl, I1.kept (t' := s1.toks) fun b o e => Heap.get?_push_of_some _ e, turn_tuple a _, ⟨_, Heap.get?_push_size _ rfl, rfl, rfl⟩, fun b hb => ?_, q⟩
  have e : b = s1.heap.objs.size := by simpa using hb
  subst e
  exact I1.fpOk (Nat.le_refl _) (I1.hok.fresh (Nat.le_refl _))
theorem range_it {pins : List (Addr × Obj)} {σ : St} {H : Hp} {s : Shared} {R : It → Hp → Prop} {E : Value → Shared → Prop} {lo hi : Int} {t u v : Tok} {tk : Nat} (I : Inv X pins σ H s) (h1 : -(2 ^ 62) ≤ lo) (h2 : lo < 2 ^ 62) (h3 : -(2 ^ 62) ≤ hi) (h4 : hi < 2 ^ 62)
    (q : R (Itr lo (hi - lo).toNat) H) : wpAny (model X.prog X.w) X.A (pyIter (.ref s.heap.objs.size)) (PIE X pins σ tg R) E { s with heap := s.heap.push { cls := .type "range", data := .fields #[.int lo t, .int hi u, .int 1 v] }, toks := tk } := by
  refine wpAny_pyIter_range (IsRange.new ..) (small_one h1 h2 h3 h4) ?_
  have I1 : Inv X pins σ H { s with heap := s.heap.push { cls := .type "range", data := .fields #[.int lo t, .int hi u, .int 1 v] }, toks := tk } := I.kept fun b o e => Heap.get?_push_of_some _ e
  refine ⟨(s.heap.push { cls := .type "range", data := .fields #[.int lo t, .int hi u, .int 1 v] }).objs.size, [(s.heap.push { cls := .type "range", data := .fields #[.int lo t, .int hi u, .int 1 v] }).objs.size], _, _, H, rfl,
    I1.kept (t' := tk) fun b o e => Heap.get?_push_of_some _ e, turn_range _ lo (hi - lo).toNat, ?_, fun b hb => ?_, q⟩
  · have e1 : lo + ((0 : Nat) : Int) * 1 = lo := by simp
    have e2 : (((hi - lo).toNat : Nat) : Int) - ((0 : Nat) : Int) = Builtin.Range.rangeSize lo hi 1 := by rw [rangeSize_one]; split <;> omega
    show IsRangeIter _ _ (lo + ((0 : Nat) : Int) * 1) ((((hi - lo).toNat : Nat) : Int) - ((0 : Nat) : Int)) 1
    rw [e1, e2]
    exact Heap.get?_push_size _ rfl
  · have e : b = (s.heap.push { cls := .type "range", data := .fields #[.int lo t, .int hi u, .int 1 v] }).objs.size := by simpa using hb
    subst e
    exact I1.fpOk (Nat.le_refl _) (I1.hok.fresh (Nat.le_refl _))
noncomputable def iRng1 (ta : TA) : TI := fun σ H R => ta σ H fun vs H1 => ∃ j : Int, vs = [.int j] ∧ -(2 ^ 62) ≤ j ∧ j < 2 ^ 62 ∧ R (Itr 0 j.toNat) H1
theorem pi_range1 {a : Expr} {ta : TA} {p pos : Pos} (hg : Gl X "range") (hm : X.mg "range" = none) (ha : PA X [a] ta) (hs : starEach [a] X.env = [(false, eval a X.env)] := by rfl) : PI X tg (.Call (.Name "range" p) [a] [] pos) (iRng1 ta) := by
  intro pins s σ H R I h
  refine Call_ (ld_blt I hg hm boot_range (PyProof.Rows.callWith_type1 (thn (ha pos pins s σ H _ I h) fun us s1 ⟨vs, H1, I1, r1, q1⟩ => ?_) hs rfl))
  obtain ⟨j, e, q1, q2, q⟩ := q1
  subst e
  cases r1 with
  | cons r rr =>
    cases rr
    obtain ⟨t, rfl⟩ := r
    exact call_range_1 (range_it I1 (by omega) (by omega) q1 q2 (by simpa using q))
noncomputable def tFor (wi : TI) (g : TG) (tb : TS) : TS := fun D σ H => wi σ H fun J H1 => ∃ W : Nat → Nat → St → Hp → Prop, (∃ m, W 0 m σ H1) ∧ ∀ i m σ H, W i m σ H →
  (J.stop i H ∧ D.nx σ H) ∨ (J.go i H ∧ ∃ N : St → Hp → Prop, (∀ σ' H', N σ' H' → ∃ m', m' < m ∧ W (i + 1) m' σ' H') ∧ ∀ x H', J.yld i H x H' → g x σ H' fun σ2 H2 => tb { D with nx := N, ct := N, bk := D.nx } σ2 H2)
noncomputable def pinsAt (fp : List Addr) (h : Heap) : List (Addr × Obj) := fp.filterMap fun b => (h.get? b).map fun o => (b, o)
theorem mem_pinsAt {fp : List Addr} {h : Heap} {b : Addr} {o : Obj} (hb : b ∈ fp) (e : h.get? b = some o) : (b, o) ∈ pinsAt fp h := List.mem_filterMap.mpr ⟨b, hb, by rw [e]; rfl⟩
theorem of_pinsAt {fp : List Addr} {h : Heap} {p : Addr × Obj} (hp : p ∈ pinsAt fp h) : p.1 ∈ fp ∧ h.get? p.1 = some p.2 := by
  obtain ⟨b, hb, e⟩ := List.mem_filterMap.mp hp
  cases q : h.get? b with
  | none => rw [q] at e; cases e
  | some o =>
    rw [q] at e
    have e' : (b, o) = p := Option.some.inj e
    subst e'
    exact ⟨hb, q⟩
theorem Inv.pinned {pins : List (Addr × Obj)} {σ : St} {H : Hp} {s : Shared} {fp : List Addr} (I : Inv X pins σ H s) (hf : ∀ b ∈ fp, FpOk X pins H b) (ho : ∀ b ∈ fp, ∃ o, s.heap.get? b = some o ∧ ∀ v, o.data ≠ .cell v) : Inv X (pins ++ pinsAt fp s.heap) σ H s :=
  I.pins_of fun p hp => (List.mem_append.mp hp).elim (fun z => I.pin p (List.mem_append_right _ z)) fun z => by
    obtain ⟨hb, e⟩ := of_pinsAt z
    obtain ⟨f0, f1, f2, _⟩ := hf p.1 hb
    obtain ⟨o, e', d⟩ := ho p.1 hb
    rw [e] at e'; cases e'
    exact ⟨e, f0, f1, f2, d⟩
theorem Inv.unpinned {pins pl : List (Addr × Obj)} {σ : St} {H : Hp} {s : Shared} (I : Inv X (pins ++ pl) σ H s) : Inv X pins σ H s := I.pins_of fun p hp => I.pin p (List.mem_append_right _ (List.mem_append_left _ hp))
theorem ps_for {iter : Expr} {body : List Stmt} {wi : TI} {g : TG} {tb : TS} {pos : Pos} (hp : PassesOwn (model X.prog X.w) X.A X.env X.xe) (hc : X.calm = true) (hi : PI X tg iter wi) (hg : PG X tg g) (hb : PSs X body tb)
    (hs : ∀ x, foldedSetIterable iter X.env x = pure x := by intro _; rfl) : PS X (.For tg iter body [] pos) (tFor wi g tb) := by
  intro pins s σ H D I h
  refine wpAny_For (thn (hi pins s σ H _ I h) fun v s1 h1 => thn h1 fun itv s2 h2 => ?_) hs
  obtain ⟨it, fp, tn, J, H2, e, I2, T, st2, f2, W, ⟨m0, w0⟩, turn⟩ := h2
  subst e
  -- what stays true of the iterator's objects through the loop
  have stat : ∀ {H' : Hp}, (∀ b ∈ fp, H' b = none) → ∀ b ∈ fp, FpOk X pins H' b := fun hn b hb => ⟨hn b hb, (f2 b hb).2⟩
  refine codeAny_forLoop_any (fun n s' => ∃ i σ' H', Inv X pins σ' H' s' ∧ tn i s'.heap ∧ (∀ b ∈ fp, H' b = none) ∧ W i n σ' H') ?_ m0 ⟨0, σ, H2, I2, st2, fun b hb => (f2 b hb).1, w0⟩
  rintro n s3 ⟨i, σ3, H3, I3, st3, fr3, w3⟩
  rcases turn i n σ3 H3 w3 with ⟨stop, qn⟩ | ⟨go, N, hN, step⟩
  · refine wpAny_passesOwn hp (thn (T.done X rfl rfl rfl hc i pins s3 σ3 H3 X.xe I3 (stat fr3) st3 stop) fun r s4 ⟨hr, I4⟩ => ?_)
    subst hr
    exact wpAny_execs_nil ⟨σ3, H3, I4, qn⟩
  · refine wpAny_passesOwn hp (thn (T.item X rfl rfl rfl hc i pins s3 σ3 H3 X.xe I3 (stat fr3) st3 go) fun r s4 ⟨u, hr, h4⟩ => ?_)
    subst hr
    refine wpAny_passesOwn hp (thn h4 fun _ s5 ⟨x, H5, I5, r5, y5, st5, fr5⟩ => ?_)
    have I5' := I5.pinned (stat fr5) (T.obj _ _ st5)
    refine wpAny_passesOwn hp (thn (hg _ s5 σ3 H5 x u _ I5' r5 (step x H5 y5)) fun _ s6 ⟨σ6, H6, I6, q6⟩ => ?_)
    refine wpAny_passesOwn hp (thn (hb _ s6 σ6 H6 _ I6 q6) fun f s7 q7 => ?_)
    have again : ∀ {σ7 : St} {H7 : Hp}, Inv X (pins ++ pinsAt fp s5.heap) σ7 H7 s7 → N σ7 H7 → ∃ m, m < n ∧ ∃ i σ' H', Inv X pins σ' H' s7 ∧ tn i s7.heap ∧ (∀ b ∈ fp, H' b = none) ∧ W i m σ' H' := fun {σ7 H7} I7 n7 => by
      obtain ⟨m', hm, w7⟩ := hN σ7 H7 n7
      refine ⟨m', hm, i + 1, σ7, H7, I7.unpinned, T.keep _ _ _ st5 fun b hb o e => (I7.pin (b, o) (List.mem_append_right _ (List.mem_append_right _ (mem_pinsAt hb e)))).1, fun b hb => ?_, w7⟩
      obtain ⟨o, e, d⟩ := T.obj _ _ st5 b hb
      exact (I7.pin (b, o) (List.mem_append_right _ (List.mem_append_right _ (mem_pinsAt hb e)))).2.1
    cases f with
    | next => obtain ⟨σ7, H7, I7, n7⟩ := q7; exact again I7 n7
    | cont => obtain ⟨σ7, H7, I7, n7⟩ := q7; exact again I7 n7
    | brk => obtain ⟨σ7, H7, I7, q7⟩ := q7; exact ⟨σ7, H7, I7.unpinned, q7⟩
    | ret v => obtain ⟨x7, σ7, H7, I7, r7, q7⟩ := q7; exact ⟨x7, σ7, H7, I7.unpinned, r7, q7⟩
end
theorem for_list {K : PySem.W.Frag} {a : Addr} {xs : List V} {g : TG} {tb : TS} {D : Ends} {σ : St} {H : Hp} (Pv : Nat → St → Hp → Prop) (h0 : Pv 0 σ H) (hl : ∀ i σ H, i ≤ xs.length → Pv i σ H → SqL K H a xs)
    (hs : ∀ i x σ H, xs[i]? = some x → Pv i σ H → g x σ H fun σ2 H2 => tb { D with nx := Pv (i + 1), ct := Pv (i + 1), bk := D.nx } σ2 H2) (hd : ∀ σ H, Pv xs.length σ H → D.nx σ H) :
    ∃ W : Nat → Nat → St → Hp → Prop, (∃ m, W 0 m σ H) ∧ ∀ i m σ H, W i m σ H →
      ((Itl K a).stop i H ∧ D.nx σ H) ∨ ((Itl K a).go i H ∧ ∃ N : St → Hp → Prop, (∀ σ' H', N σ' H' → ∃ m', m' < m ∧ W (i + 1) m' σ' H') ∧ ∀ x H', (Itl K a).yld i H x H' → g x σ H' fun σ2 H2 => tb { D with nx := N, ct := N, bk := D.nx } σ2 H2) := by
  refine ⟨fun i m σ H => m = xs.length - i ∧ i ≤ xs.length ∧ Pv i σ H, ⟨xs.length, by simp, Nat.zero_le _, h0⟩, ?_⟩
  rintro i m σ H ⟨rfl, hi, p⟩
  have q := hl i σ H hi p
  by_cases hlt : i < xs.length
  · refine .inr ⟨⟨xs, xs[i], q, by simp [hlt]⟩, Pv (i + 1), fun σ' H' p' => ⟨xs.length - (i + 1), by omega, rfl, hlt, p'⟩, fun x H' y => ?_⟩
    obtain ⟨e, y⟩ := y
    subst e
    exact hs i x σ _ (y xs q) p
  · have e : i = xs.length := by omega
    subst e
    exact .inl ⟨⟨xs, q, Nat.le_refl _⟩, hd σ H p⟩
theorem for_tup {K : PySem.W.Frag} {a : Addr} {xs : List V} {g : TG} {tb : TS} {D : Ends} {σ : St} {H : Hp} (Pv : Nat → St → Hp → Prop) (h0 : Pv 0 σ H) (hl : ∀ i σ H, i ≤ xs.length → Pv i σ H → SqT K H a xs)
    (hs : ∀ i x σ H, xs[i]? = some x → Pv i σ H → g x σ H fun σ2 H2 => tb { D with nx := Pv (i + 1), ct := Pv (i + 1), bk := D.nx } σ2 H2) (hd : ∀ σ H, Pv xs.length σ H → D.nx σ H) :
    ∃ W : Nat → Nat → St → Hp → Prop, (∃ m, W 0 m σ H) ∧ ∀ i m σ H, W i m σ H →
      ((Itt K a).stop i H ∧ D.nx σ H) ∨ ((Itt K a).go i H ∧ ∃ N : St → Hp → Prop, (∀ σ' H', N σ' H' → ∃ m', m' < m ∧ W (i + 1) m' σ' H') ∧ ∀ x H', (Itt K a).yld i H x H' → g x σ H' fun σ2 H2 => tb { D with nx := N, ct := N, bk := D.nx } σ2 H2) := by
  refine ⟨fun i m σ H => m = xs.length - i ∧ i ≤ xs.length ∧ Pv i σ H, ⟨xs.length, by simp, Nat.zero_le _, h0⟩, ?_⟩
  rintro i m σ H ⟨rfl, hi, p⟩
  have q := hl i σ H hi p
  by_cases hlt : i < xs.length
  · refine .inr ⟨⟨xs, xs[i], q, by simp [hlt]⟩, Pv (i + 1), fun σ' H' p' => ⟨xs.length - (i + 1), by omega, rfl, hlt, p'⟩, fun x H' y => ?_⟩
    obtain ⟨e, y⟩ := y
    subst e
    exact hs i x σ _ (y xs q) p
  · have e : i = xs.length := by omega
    subst e
    exact .inl ⟨⟨xs, q, Nat.le_refl _⟩, hd σ H p⟩
theorem for_range {lo : Int} {n : Nat} {g : TG} {tb : TS} {D : Ends} {σ : St} {H : Hp} (Pv : Nat → St → Hp → Prop) (h0 : Pv 0 σ H)
    (hs : ∀ i σ H, i < n → Pv i σ H → g (.int (lo + i)) σ H fun σ2 H2 => tb { D with nx := Pv (i + 1), ct := Pv (i + 1), bk := D.nx } σ2 H2) (hd : ∀ σ H, Pv n σ H → D.nx σ H) :
    ∃ W : Nat → Nat → St → Hp → Prop, (∃ m, W 0 m σ H) ∧ ∀ i m σ H, W i m σ H →
      ((Itr lo n).stop i H ∧ D.nx σ H) ∨ ((Itr lo n).go i H ∧ ∃ N : St → Hp → Prop, (∀ σ' H', N σ' H' → ∃ m', m' < m ∧ W (i + 1) m' σ' H') ∧ ∀ x H', (Itr lo n).yld i H x H' → g x σ H' fun σ2 H2 => tb { D with nx := N, ct := N, bk := D.nx } σ2 H2) := by
  refine ⟨fun i m σ H => m = n - i ∧ i ≤ n ∧ Pv i σ H, ⟨n, by simp, Nat.zero_le _, h0⟩, ?_⟩
  rintro i m σ H ⟨rfl, hi, p⟩
  by_cases hlt : i < n
  · refine .inr ⟨hlt, Pv (i + 1), fun σ' H' p' => ⟨n - (i + 1), by omega, rfl, hlt, p'⟩, fun x H' y => ?_⟩
    obtain ⟨e, y⟩ := y
    subst e y
    exact hs i σ _ hlt p
  · have e : i = n := by omega
    subst e
    exact .inl ⟨Nat.le_refl _, hd σ H p⟩
end L2
namespace L2
open PySem PySem.Spec PyProof.Rows
noncomputable abbrev R2 := V → V → Hp → VK → Prop
noncomputable def OpR (X : Cx) (f : Value → Value → Sem Value) (r : R2) : Prop :=
  ∀ (pins : List (Addr × Obj)) (s : Shared) (σ : St) (H : Hp) (x y : V) (v u : Value) (Q : VK), Inv X pins σ H s → RelV x v → RelV y u → r x y H Q →
    wpAny (model X.prog X.w) X.A (f v u) (EP X pins σ Q) X.xe s
noncomputable def UnR (X : Cx) (f : Value → Sem Value) (r : V → Hp → VK → Prop) : Prop :=
  ∀ (pins : List (Addr × Obj)) (s : Shared) (σ : St) (H : Hp) (x : V) (v : Value) (Q : VK), Inv X pins σ H s → RelV x v → r x H Q →
    wpAny (model X.prog X.w) X.A (f v) (EP X pins σ Q) X.xe s
noncomputable def CallR (X : Cx) (f : Value) (r : List V → Hp → VK → Prop) : Prop :=
  ∀ (pins : List (Addr × Obj)) (s : Shared) (σ : St) (H : Hp) (xs : List V) (us : List Value) (Q : VK), Inv X pins σ H s → Vals xs us → r xs H Q →
    wpAny (model X.prog X.w) X.A (call f us) (EP X pins σ Q) X.xe s
noncomputable def TruR (X : Cx) (r : V → Hp → (Bool → Hp → Prop) → Prop) : Prop :=
  ∀ (pins : List (Addr × Obj)) (s : Shared) (σ : St) (H : Hp) (x : V) (v : Value) (Q : Bool → Hp → Prop), Inv X pins σ H s → RelV x v → r x H Q →
    wpAny (model X.prog X.w) X.A (truthy v) (TP X pins σ Q) X.xe s
noncomputable def tOp (r : R2) (ta tb : TE) : TE := fun σ H Q => ta σ H fun x H1 => tb σ H1 fun y H2 => r x y H2 Q
noncomputable def tUn (r : V → Hp → VK → Prop) (ta : TE) : TE := fun σ H Q => ta σ H fun x H1 => r x H1 Q
noncomputable def rI (C : Int → Int → Prop) (g : Int → Int → V) : R2 := fun x y H Q => ∃ i j, x = .int i ∧ y = .int j ∧ C i j ∧ Q (g i j) H
noncomputable def rI0 (g : Int → Int → V) : R2 := fun x y H Q => ∃ i j, x = .int i ∧ y = .int j ∧ Q (g i j) H
noncomputable def rU (g : Int → V) : V → Hp → VK → Prop := fun x H Q => ∃ i, x = .int i ∧ Q (g i) H
section
variable {X : Cx} {a b c : Expr} {ta tb tc : TE} {pos : Pos}
theorem binT (ha : PE X a ta) (hb : PE X b tb) {pins : List (Addr × Obj)} {s : Shared} {σ : St} {H : Hp} {R : V → V → Hp → Prop} (I : Inv X pins σ H s)
    (h : ta σ H fun x H1 => tb σ H1 fun y H2 => R x y H2) {Q : Value → Shared → Prop} {f : Value → Value → Sem Value}
    (hf : ∀ v u s2 x y H2, Inv X pins σ H2 s2 → RelV x v → RelV y u → R x y H2 → wpAny (model X.prog X.w) X.A (f v u) Q X.xe s2) :
    wpAny (model X.prog X.w) X.A (eval a X.env) (fun v s₁ => wpAny (model X.prog X.w) X.A (eval b X.env) (fun u s₂ => wpAny (model X.prog X.w) X.A (f v u) Q X.xe s₂) X.xe s₁) X.xe s := by
  refine thn (ha pins s σ H _ I h) fun v s1 ⟨x, H1, I1, r1, q1⟩ => ?_
  refine thn (hb pins s1 σ H1 _ I1 q1) fun u s2 ⟨y, H2, I2, r2, q2⟩ => ?_
  exact hf v u s2 x y H2 I2 r1 r2 q2
theorem pe_op {op : Operator} {r : R2} (ho : OpR X (binaryOp op) r) (ha : PE X a ta) (hb : PE X b tb) : PE X (.BinOp a op b pos) (tOp r ta tb) := by
  intro pins s σ H Q I h
  exact wpAny_BinOp (binT ha hb I h fun v u s2 x y H2 I2 rx ry q => ho pins s2 σ H2 x y v u Q I2 rx ry q)
theorem pe_un {op : UnaryOp} {r : V → Hp → VK → Prop} (ho : UnR X (unaryOp op) r) (ha : PE X a ta) : PE X (.UnaryOp op a pos) (tUn r ta) := by
  intro pins s σ H Q I h
  exact UnaryOp_ (thn (ha pins s σ H _ I h) fun v s1 ⟨x, H1, I1, r1, q1⟩ => ho pins s1 σ H1 x v Q I1 r1 q1)
theorem opI {f : Value → Value → Sem Value} {C : Int → Int → Prop} {g : Int → Int → Int}
    (rule : ∀ (i j : Int) (t u : Tok) (s : Shared) (Q : Value → Shared → Prop) (E : Value → Shared → Prop), C i j → Q (.int (g i j) s.toks) { s with toks := s.toks + 1 } → wpAny (model X.prog X.w) X.A (f (.int i t) (.int j u)) Q E s) :
    OpR X f (rI C fun i j => .int (g i j)) := by
  intro pins s σ H x y v u Q I rx ry h
  obtain ⟨i, j, rfl, rfl, hc, q⟩ := h
  obtain ⟨t, rfl⟩ := rx
  obtain ⟨t', rfl⟩ := ry
  exact rule i j t t' s _ _ hc ⟨.int (g i j), H, I.tok _, ⟨_, rfl⟩, q⟩
theorem opI0 {f : Value → Value → Sem Value} {g : Int → Int → Int}
    (rule : ∀ (i j : Int) (t u : Tok) (s : Shared) (Q : Value → Shared → Prop) (E : Value → Shared → Prop), Q (.int (g i j) s.toks) { s with toks := s.toks + 1 } → wpAny (model X.prog X.w) X.A (f (.int i t) (.int j u)) Q E s) :
    OpR X f (rI0 fun i j => .int (g i j)) := by
  intro pins s σ H x y v u Q I rx ry h
  obtain ⟨i, j, rfl, rfl, q⟩ := h
  obtain ⟨t, rfl⟩ := rx
  obtain ⟨t', rfl⟩ := ry
  exact rule i j t t' s _ _ ⟨.int (g i j), H, I.tok _, ⟨_, rfl⟩, q⟩
theorem opB0 {f : Value → Value → Sem Value} {g : Int → Int → Bool}
    (rule : ∀ (i j : Int) (t u : Tok) (s : Shared) (Q : Value → Shared → Prop) (E : Value → Shared → Prop), Q (.bool (g i j)) s → wpAny (model X.prog X.w) X.A (f (.int i t) (.int j u)) Q E s) :
    OpR X f (rI0 fun i j => .bl (g i j)) := by
  intro pins s σ H x y v u Q I rx ry h
  obtain ⟨i, j, rfl, rfl, q⟩ := h
  obtain ⟨t, rfl⟩ := rx
  obtain ⟨t', rfl⟩ := ry
  exact rule i j t t' s _ _ ⟨.bl (g i j), H, I, rfl, q⟩
noncomputable def CDiv (i j : Int) : Prop := 0 < j ∧ j < 1073741824
noncomputable def CPow (i j : Int) : Prop := 0 ≤ j ∧ j ≤ 1000000 ∧ i.natAbs < 2 ^ 64
noncomputable def CMul (i j : Int) : Prop := (-(2 ^ 64) < i ∧ i < 2 ^ 64) ∨ (-(2 ^ 64) < j ∧ j < 2 ^ 64)
theorem CMul.ok {i j : Int} (h : CMul i j) : IntMulOk i j := by
  rcases h with ⟨h1, h2⟩ | ⟨h1, h2⟩
  · exact .of_left (intBits_le_64 h1 h2)
  · exact .of_right (intBits_le_64 h1 h2)
theorem two_pow_nn (k : Nat) : (0 : Int) ≤ 2 ^ k := by
  rw [two_pow_cast]
  exact Int.natCast_nonneg _
theorem op_add : OpR X (binaryOp .Add) (rI0 fun i j => .int (i + j)) := opI0 fun _ _ _ _ _ _ _ q => add_int q
theorem op_sub : OpR X (binaryOp .Sub) (rI0 fun i j => .int (i - j)) := opI0 fun _ _ _ _ _ _ _ q => sub_int q
theorem op_mul : OpR X (binaryOp .Mult) (rI CMul fun i j => .int (i * j)) := opI fun _ _ _ _ _ _ _ hc q => mul_int q hc.ok
theorem op_fdiv : OpR X (binaryOp .FloorDiv) (rI CDiv fun i j => .int (i / j)) := opI fun i j _ _ _ _ _ hc q => by
  have h1 : (0 : Int) < j := hc.1
  have h2 : j < 1073741824 := hc.2
  exact floordiv_int (by omega) (by rw [Int.fdiv_eq_ediv_of_nonneg i (by omega)]; exact q) (.inl (PyProof.noPylong_small (by omega)))
theorem op_mod : OpR X (binaryOp .Mod) (rI (fun _ j => 0 < j) fun i j => .int (i % j)) := opI fun i j _ _ _ _ _ hc q => by
  have h1 : (0 : Int) < j := hc
  exact mod_int' (by omega) (by rw [Int.fmod_eq_emod_of_nonneg i (by omega)]; exact q)
theorem op_shl : OpR X (binaryOp .LShift) (rI CPow fun i j => .int (i * 2 ^ j.toNat)) := opI fun _ _ _ _ _ _ _ hc q => lshift_int_small hc.1 hc.2.1 hc.2.2 q
theorem op_shr : OpR X (binaryOp .RShift) (rI (fun _ j => 0 ≤ j) fun i j => .int (i / 2 ^ j.toNat)) := opI fun i j _ _ _ _ _ hc q =>
  rshift_int hc (by rw [Int.fdiv_eq_ediv_of_nonneg i (two_pow_nn _)]; exact q)
theorem op_or : OpR X (binaryOp .BitOr) (rI0 fun i j => .int (Builtin.bitOr i j)) := opI0 fun _ _ _ _ _ _ _ q => or_int q
theorem unI {f : Value → Sem Value} {g : Int → Int}
    (rule : ∀ (i : Int) (t : Tok) (s : Shared) (Q : Value → Shared → Prop) (E : Value → Shared → Prop), Q (.int (g i) s.toks) { s with toks := s.toks + 1 } → wpAny (model X.prog X.w) X.A (f (.int i t)) Q E s) :
    UnR X f (rU fun i => .int (g i)) := by
  intro pins s σ H x v Q I rx h
  obtain ⟨i, rfl, q⟩ := h
  obtain ⟨t, rfl⟩ := rx
  exact rule i t s _ _ ⟨.int (g i), H, I.tok _, ⟨_, rfl⟩, q⟩
theorem un_neg : UnR X (unaryOp .USub) (rU fun i => .int (-i)) := unI fun _ _ _ _ _ q => neg_int q
end
noncomputable def scal : V → V → Bool
  | .non, .non => true | .non, .int _ => true | .int _, .non => true | .non, .bl _ => true | .bl _, .non => true | .non, .str _ => true | .str _, .non => true
  | .int _, .int _ => true | .bl _, .bl _ => true | .str _, .str _ => true | .byt _, .byt _ => true
  | .int _, .str _ => true | .str _, .int _ => true | .bl _, .str _ => true | .str _, .bl _ => true
  | _, _ => false
noncomputable def rEq : R2 := fun x y H Q => scal x y = true ∧ Q (.bl (decide (x = y))) H
noncomputable def rNe : R2 := fun x y H Q => scal x y = true ∧ Q (.bl (!decide (x = y))) H
theorem dec_int {i j : Int} : decide (V.int i = V.int j) = (i == j) := by
  rw [Bool.eq_iff_iff]
  simp
theorem dec_bl {i j : Bool} : decide (V.bl i = V.bl j) = (i == j) := by
  rw [Bool.eq_iff_iff]
  simp
theorem dec_str {i j : Str} : decide (V.str i = V.str j) = (i == j) := by
  rw [Bool.eq_iff_iff]
  simp
theorem dec_byt {i j : Array UInt8} : decide (V.byt i = V.byt j) = (i.toList == j.toList) := by
  rw [Bool.eq_iff_iff]
  cases i
  cases j
  simp
section
variable {X : Cx} {a b c : Expr} {ta tb tc : TE} {pos : Pos}
theorem fin_bl {pins : List (Addr × Obj)} {σ : St} {H : Hp} {s : Shared} {Q : VK} {k k' : Bool} (I : Inv X pins σ H s) (q : Q (.bl k) H) (e : k = k') : EP X pins σ Q (.bool k') s := by
  subst e
  exact ⟨.bl k, H, I, rfl, q⟩
theorem op_eq : OpR X (compareOp .Eq) rEq := by
  intro pins s σ H x y v u Q I rx ry h
  obtain ⟨hs, q⟩ := h
  cases x with
  | non =>
    cases rx
    cases y with
    | non => cases ry; exact PySem.EqNone.eq_none_none (fin_bl I q (by simp))
    | bl j => cases ry; exact PySem.EqNone.eq_none_bool (fin_bl I q (by simp))
    | int j => obtain ⟨t', rfl⟩ := ry; exact PySem.EqNone.eq_none_int (fin_bl I q (by simp))
    | str j => obtain ⟨t', rfl⟩ := ry; exact PySem.EqNone.eq_none_str (fin_bl I q (by simp))
    | _ => exact absurd (show false = true from hs) Bool.false_ne_true
  | bl i =>
    cases rx
    cases y with
    | non => cases ry; exact PySem.EqNone.eq_bool_none (fin_bl I q (by simp))
    | bl j => cases ry; exact eq_bool (fin_bl I q dec_bl)
    | str j => obtain ⟨t', rfl⟩ := ry; exact PySem.EqMixed.eq_bool_str (fin_bl I q (by simp))
    | _ => exact absurd (show false = true from hs) Bool.false_ne_true
  | int i =>
    obtain ⟨t, rfl⟩ := rx
    cases y with
    | non => cases ry; exact PySem.EqNone.eq_int_none (fin_bl I q (by simp))
    | int j => obtain ⟨t', rfl⟩ := ry; exact eq_int (fin_bl I q dec_int)
    | str j => obtain ⟨t', rfl⟩ := ry; exact PySem.EqMixed.eq_int_str (fin_bl I q (by simp))
    | _ => exact absurd (show false = true from hs) Bool.false_ne_true
  | str i =>
    obtain ⟨t, rfl⟩ := rx
    cases y with
    | non => cases ry; exact PySem.EqNone.eq_str_none (fin_bl I q (by simp))
    | bl j => cases ry; exact PySem.EqMixed.eq_str_bool (fin_bl I q (by simp))
    | int j => obtain ⟨t', rfl⟩ := ry; exact PySem.EqMixed.eq_str_int (fin_bl I q (by simp))
    | str j => obtain ⟨t', rfl⟩ := ry; exact eq_str (fin_bl I q dec_str)
    | _ => exact absurd (show false = true from hs) Bool.false_ne_true
  | byt i =>
    obtain ⟨t, rfl⟩ := rx
    cases y with
    | byt j => obtain ⟨t', rfl⟩ := ry; exact PySem.W.eq_bytes (fin_bl I q dec_byt)
    | _ => exact absurd (show false = true from hs) Bool.false_ne_true
  | _ => cases y <;> exact absurd (show false = true from hs) Bool.false_ne_true
theorem op_ne : OpR X (compareOp .NotEq) rNe := by
  intro pins s σ H x y v u Q I rx ry h
  obtain ⟨hs, q⟩ := h
  cases x with
  | non =>
    cases rx
    cases y with
    | non => cases ry; exact PySem.EqNone.ne_none_none (fin_bl I q (by simp))
    | bl j => cases ry; exact PySem.EqNone.ne_none_bool (fin_bl I q (by simp))
    | int j => obtain ⟨t', rfl⟩ := ry; exact PySem.EqNone.ne_none_int (fin_bl I q (by simp))
    | str j => obtain ⟨t', rfl⟩ := ry; exact PySem.EqNone.ne_none_str (fin_bl I q (by simp))
    | _ => exact absurd (show false = true from hs) Bool.false_ne_true
  | bl i =>
    cases rx
    cases y with
    | non => cases ry; exact PySem.EqNone.ne_bool_none (fin_bl I q (by simp))
    | bl j => cases ry; exact ne_bool (fin_bl I q (congrArg not dec_bl))
    | str j => obtain ⟨t', rfl⟩ := ry; exact PySem.EqMixed.ne_bool_str (fin_bl I q (by simp))
    | _ => exact absurd (show false = true from hs) Bool.false_ne_true
  | int i =>
    obtain ⟨t, rfl⟩ := rx
    cases y with
    | non => cases ry; exact PySem.EqNone.ne_int_none (fin_bl I q (by simp))
    | int j => obtain ⟨t', rfl⟩ := ry; exact ne_int (fin_bl I q (congrArg not dec_int))
    | str j => obtain ⟨t', rfl⟩ := ry; exact PySem.EqMixed.ne_int_str (fin_bl I q (by simp))
    | _ => exact absurd (show false = true from hs) Bool.false_ne_true
  | str i =>
    obtain ⟨t, rfl⟩ := rx
    cases y with
    | non => cases ry; exact PySem.EqNone.ne_str_none (fin_bl I q (by simp))
    | bl j => cases ry; exact PySem.EqMixed.ne_str_bool (fin_bl I q (by simp))
    | int j => obtain ⟨t', rfl⟩ := ry; exact PySem.EqMixed.ne_str_int (fin_bl I q (by simp))
    | str j => obtain ⟨t', rfl⟩ := ry; exact ne_str (fin_bl I q (congrArg not dec_str))
    | _ => exact absurd (show false = true from hs) Bool.false_ne_true
  | byt i =>
    obtain ⟨t, rfl⟩ := rx
    cases y with
    | byt j => obtain ⟨t', rfl⟩ := ry; exact PySem.W.ne_bytes (fin_bl I q (congrArg not dec_byt))
    | _ => exact absurd (show false = true from hs) Bool.false_ne_true
  | _ => cases y <;> exact absurd (show false = true from hs) Bool.false_ne_true
theorem op_lt : OpR X (compareOp .Lt) (rI0 fun i j => .bl (decide (i < j))) := opB0 fun _ _ _ _ _ _ _ q => lt_int q
theorem op_le : OpR X (compareOp .LtE) (rI0 fun i j => .bl (decide (i ≤ j))) := opB0 fun _ _ _ _ _ _ _ q => le_int q
theorem op_gt : OpR X (compareOp .Gt) (rI0 fun i j => .bl (decide (j < i))) := opB0 fun _ _ _ _ _ _ _ q => gt_int q
theorem op_isN : OpR X (compareOp .Is) (fun x y H Q => y = .non ∧ Q (.bl (decide (x = .non))) H) := by
  intro pins s σ H x y v u Q I rx ry h
  obtain ⟨rfl, q⟩ := h
  cases ry
  refine is_none_gen (fin_bl I q ?_)
  cases x <;> first
    | (cases rx; rfl)
    | (obtain ⟨t, rfl⟩ := rx; rfl)
theorem op_notN : OpR X (compareOp .IsNot) (fun x y H Q => y = .non ∧ Q (.bl (!decide (x = .non))) H) := by
  intro pins s σ H x y v u Q I rx ry h
  obtain ⟨rfl, q⟩ := h
  cases ry
  refine isnot_none_gen (fin_bl I q ?_)
  cases x <;> first
    | (cases rx; rfl)
    | (obtain ⟨t, rfl⟩ := rx; rfl)
theorem nomark (b : Expr) {op : CmpOp} (h : op ≠ .In := by decide) (h2 : op ≠ .NotIn := by decide) : behindInMarks op b = false := by
  have e1 : (op == CmpOp.In) = false := by cases op <;> first | rfl | exact absurd rfl h
  have e2 : (op == CmpOp.NotIn) = false := by cases op <;> first | rfl | exact absurd rfl h2
  cases b <;> simp [behindInMarks, e1, e2]
theorem pe_cmpR {op : CmpOp} {r : R2} (ho : OpR X (compareOp op) r) (ha : PE X a ta) (hb : PE X b tb) (hm : behindInMarks op b = false) : PE X (.Compare a [op] [b] pos) (tOp r ta tb) := by
  intro pins s σ H Q I h
  exact wpAny_Compare1 (binT ha hb I h fun v u s2 x y H2 I2 rx ry q => ho pins s2 σ H2 x y v u Q I2 rx ry q) hm
noncomputable def tTest (t : TE) : TT := fun σ H Q => t σ H fun x H' => ∃ k, x = .bl k ∧ Q k H'
theorem pt_cmpR {op : CmpOp} {r : R2} (ho : OpR X (compareOp op) r) (ha : PE X a ta) (hb : PE X b tb) (hm : behindInMarks op b = false) : PT X (.Compare a [op] [b] pos) (tTest (tOp r ta tb)) := by
  intro pins s σ H Q I h
  refine wpAny_isTrue_Compare1 (thn (ha pins s σ H _ I h) fun v s1 ⟨x, H1, I1, r1, q1⟩ => thn (hb pins s1 σ H1 _ I1 q1) fun u s2 ⟨y, H2, I2, r2, q2⟩ =>
    thn (ho pins s2 σ H2 x y v u _ I2 r1 r2 q2) fun c s3 ⟨z, H3, I3, r3, k, e, q3⟩ => ?_) hm
  subst e
  cases r3
  exact wpAny_truthy_bool ⟨H3, I3, q3⟩
noncomputable def TruV (K : PySem.W.Frag) (x : V) (H : Hp) (k : Bool) : Prop :=
  match x with
  | .non => k = false
  | .bl b => k = b
  | .int i => k = (i != 0)
  | .str y => y.length ≤ sizeLine ∧ k = ((y.length : Int) != 0)
  | .byt y => y.size ≤ sizeLine ∧ k = ((y.size : Int) != 0)
  | .ref p => (∃ xs, SqL K H p xs ∧ k = !xs.isEmpty) ∨ (∃ xs, SqT K H p xs ∧ k = !xs.isEmpty) ∨ ∃ kvs, H p = some (.dK kvs) ∧ k = !kvs.isEmpty
  | _ => False
theorem isEmpty_kv {κ : Type} {kvs : List (κ × V)} {vs : List (κ × Value)} (r : KV kvs vs) : (!vs.isEmpty) = !kvs.isEmpty := by
  cases r <;> rfl
theorem isEmpty_of {xs : List V} {its : List Value} (r : Vals xs its) : (!its.toArray.isEmpty) = !xs.isEmpty := by
  cases r <;> simp
theorem line63 : (sizeLine : Nat) < 2 ^ 63 := by rw [sizeLine_eq]; decide
theorem tru_ok : TruR X (fun x H Q => ∃ k, TruV X.K x H k ∧ Q k H) := by
  intro pins s σ H x v Q I rx h
  obtain ⟨k, e, q⟩ := h
  have hl := line63
  have hs : sizeLine = 16777216 := sizeLine_eq
  cases x with
  | non =>
    cases rx
    have e' : k = false := e
    subst e'
    exact truthy_none ⟨H, I, q⟩
  | bl b =>
    cases rx
    have e' : k = b := e
    subst e'
    exact wpAny_truthy_bool ⟨H, I, q⟩
  | int i =>
    obtain ⟨t, rfl⟩ := rx
    have e' : k = (i != 0) := e
    subst e'
    exact PySem.P.truthy_int ⟨H, I, q⟩
  | str y =>
    obtain ⟨t, rfl⟩ := rx
    obtain ⟨hy, e'⟩ : y.length ≤ sizeLine ∧ k = ((y.length : Int) != 0) := e
    subst e'
    exact PySem.P.truthy_str (by omega) ⟨H, I.tok _, q⟩
  | byt y =>
    obtain ⟨t, rfl⟩ := rx
    obtain ⟨hy, e'⟩ : y.size ≤ sizeLine ∧ k = ((y.size : Int) != 0) := e
    subst e'
    exact PySem.W.truthy_bytes (by omega) ⟨H, I.tok _, q⟩
  | ref p =>
    cases rx
    have e' : (∃ xs, SqL X.K H p xs ∧ k = !xs.isEmpty) ∨ (∃ xs, SqT X.K H p xs ∧ k = !xs.isEmpty) ∨ ∃ kvs, H p = some (.dK kvs) ∧ k = !kvs.isEmpty := e
    rcases e' with ⟨xs, hx, e'⟩ | ⟨xs, hx, e'⟩ | ⟨kvs, hx, e'⟩
    · subst e'
      obtain ⟨its, r, pl, hz⟩ := I.list hx
      have hlen := r.length
      exact wpAny_truthy_list pl.isList (by simp only [List.size_toArray]; omega) ⟨H, I.tok _, by rw [isEmpty_of r]; exact q⟩
    · subst e'
      obtain ⟨its, r, pl, hz⟩ := I.tuple hx
      have hlen := r.length
      exact truthy_tuple pl (by simp only [List.size_toArray]; omega) ⟨H, I.tok _, by rw [isEmpty_of r]; exact q⟩
    · subst e'
      obtain ⟨hz, hS, vs, r, m⟩ : kvs.length ≤ sizeLine ∧ (p == sysModules) = false ∧ ∃ vs, KV kvs vs ∧ s.heap.DictOf (mixKind X.prog X.w) p vs := I.hok p _ hx
      have hlen : kvs.length = vs.length := Paired.length r
      exact wpAny_truthy_dict hS m (by omega) ⟨H, I.tok _, by rw [isEmpty_kv r]; exact q⟩
  | _ => exact (show False from e).elim
theorem pt_truth (ha : PE X a ta) (he : ∀ whole, isTrue a X.env whole = (do let v ← whole; standAt a.pos; holding [v] (truthy v))) :
    PT X a (fun σ H Q => ta σ H fun x H' => ∃ k, TruV X.K x H' k ∧ Q k H') := by
  intro pins s σ H Q I h
  exact isTrue_plain (thn (ha pins s σ H _ I h) fun v s1 ⟨x, H1, I1, r1, q1⟩ => tru_ok pins s1 σ H1 x v Q I1 r1 q1) (he _)
theorem vals1 {x : V} {us : List Value} (r : Vals [x] us) : ∃ u, us = [u] ∧ RelV x u := by
  cases r with
  | cons r1 r2 => cases r2; exact ⟨_, rfl, r1⟩
theorem vals2 {x y : V} {us : List Value} (r : Vals [x, y] us) : ∃ u w', us = [u, w'] ∧ RelV x u ∧ RelV y w' := by
  cases r with
  | cons r1 r2 =>
    cases r2 with
    | cons r3 r4 => cases r4; exact ⟨_, _, rfl, r1, r3⟩
theorem call_abs : CallR X (.builtin "abs") (fun xs H Q => ∃ i, xs = [.int i] ∧ Q (.int (if i < 0 then -i else i)) H) := by
  intro pins s σ H xs us Q I r h
  obtain ⟨i, rfl, q⟩ := h
  obtain ⟨u, rfl, t, rfl⟩ := vals1 r
  exact call_abs_int fun u tk => ⟨.int (if i < 0 then -i else i), H, I.tok _, ⟨_, rfl⟩, q⟩
theorem call_int1 : CallR X (.type "int") (fun xs H Q => (∃ i, xs = [.int i] ∧ Q (.int i) H) ∨ ∃ k, xs = [.bl k] ∧ Q (.int (if k then 1 else 0)) H) := by
  intro pins s σ H xs us Q I r h
  rcases h with ⟨i, rfl, q⟩ | ⟨k, rfl, q⟩
  · obtain ⟨u, rfl, t, rfl⟩ := vals1 r
    exact call_int_int ⟨.int i, H, I, ⟨_, rfl⟩, q⟩
  · obtain ⟨u, rfl, r1⟩ := vals1 r
    cases r1
    exact call_int_bool ⟨.int (if k then 1 else 0), H, I.tok _, ⟨_, rfl⟩, q⟩
end
end L2
namespace L2
open PySem PySem.Spec PyProof.Rows
structure ObjM (h : Heap) (x dx C : Addr) (mA : Str → Option Value) : Prop where
  obj : h.get? x = some (PySem.W.instObj C dx)
  ns : h.Ns1 dx mA
  ne : dx ≠ x
theorem lookIn_ns {h : Heap} {dx : Addr} {mA : Str → Option Value} (n : h.Ns1 dx mA) : ∃ od, h.get? dx = some od ∧ ∀ name, PySem.W.lookIn name od = some (mA name) := by
  obtain ⟨o, es, ep, ho, hd, hk, _, hm⟩ := n
  refine ⟨o, ho, fun name => ?_⟩
  have e := hm name
  unfold nsFind findBy at e
  rw [← Array.find?_toList] at e
  unfold PySem.W.lookIn
  rw [hd]
  dsimp only
  split
  · rename_i y q
    rw [q] at e
    exact congrArg some e
  · rename_i q
    rw [q] at e
    have a : es.toList.any (·.refKey) = false := by
      rw [List.any_eq_false]
      intro y hy
      obtain ⟨z, t, hkey⟩ := hk y (Array.mem_toList_iff.mp hy)
      simp [DictEntry.refKey, hkey]
    have a' : ¬ es.toList.any (·.refKey) = true := by rw [a]; exact Bool.false_ne_true
    rw [if_neg a']
    exact congrArg some e
theorem ObjM.look {h : Heap} {x dx C : Addr} {mA : Str → Option Value} (I : ObjM h x dx C mA) : ∃ od, PySem.W.InstAt h x (PySem.W.instObj C dx) C (some od) ∧ ∀ name, PySem.W.lookIn name od = some (mA name) :=
  let ⟨od, ho, hl⟩ := lookIn_ns I.ns
  ⟨od, ⟨I.obj, rfl, rfl, ho⟩, hl⟩
section
variable {prog : Program} {w : World} {A : Around} {E : Value → Shared → Prop} {s : Shared} {K : PySem.W.Frag} {x dx C f : Addr} {mA : Str → Option Value} {name : Str} {v : Value}
end
theorem RelO.some_of {v : V} {o : Option Value} (r : RelO (some v) o) : ∃ u, o = some u ∧ RelV v u := by
  cases o with
  | none => exact (show False from r).elim
  | some u => exact ⟨u, rfl, r⟩
section
variable {P : Program} {w : World} {H H' : Hp} {h h' : Heap} {a C dx : Addr} {fs fs' : List (Str × V)}
theorem ins_get (hok : HOk P w H h) (e : H a = some (.ins C dx fs)) : ∃ mA, ObjM h a dx C mA ∧ (∀ f, RelO (fs.lookup f) (mA f)) ∧ PySem.Within mA (fs.map (·.1)) ∧ fs.length ≤ 1000 ∧ H dx = some (.own a) := by
  obtain ⟨d, z, ne, ob, mA, n, r, q⟩ := (show ObjOk P w H h a (.ins C dx fs) from hok a _ e)
  exact ⟨mA, ⟨ob, n, ne⟩, r, q, z, d⟩
end
structure Cls (K : PySem.W.Frag) (C : Addr) : Prop where
  pg : PySem.W.plainGet K C Str.empty = true
  hd : PySem.W.hasDictIn K C = true
  po : PySem.W.plainOver K C = true
  sa : PySem.W.findIn K (.ref C) "__setattr__" = some (some (.builtin "object.__setattr__"))
theorem Cls.get {K : PySem.W.Frag} {C : Addr} (c : Cls K C) (f : Str) : PySem.W.plainGet K C f = true := c.pg
structure Con (K : PySem.W.Frag) (C : Addr) (f : Str) (v : V) (u : Value) : Prop where
  at_ : PySem.W.findIn K (.ref C) f = some (some u)
  rel : RelV v u
  get : PySem.W.specialIn K u "__get__" = some none
  cp : PySem.W.copiedNames.contains f = false
structure Meth (K : PySem.W.Frag) (C : Addr) (m : Str) (f : Addr) : Prop where
  at_ : PySem.W.findIn K (.ref C) m = some (some (.ref f))
  fn : PySem.W.isFn K (.ref f) = true
  kp : PySem.W.keepIn K (.ref f) = true
section
variable {X : Cx} {pins : List (Addr × Obj)} {σ : St} {H : Hp} {s : Shared} {a C dx : Addr} {fs : List (Str × V)} {f : Str} {v : V} {A : Around} {E : Value → Shared → Prop}
theorem Inv.made (I : Inv X pins σ H s) : Inv X pins σ (upd (upd H s.heap.objs.size (.own (s.heap.objs.size + 1))) (s.heap.objs.size + 1) (.ins C s.heap.objs.size []))
    { s with heap := (s.heap.push PySem.W.emptyDict).push (PySem.W.instObj C s.heap.objs.size) } := by
  have e1 : (s.heap.push PySem.W.emptyDict).get? s.heap.objs.size = some PySem.W.emptyDict := Heap.get?_push_size s.heap rfl
  have e2 : ((s.heap.push PySem.W.emptyDict).push (PySem.W.instObj C s.heap.objs.size)).get? (s.heap.objs.size + 1) = some (PySem.W.instObj C s.heap.objs.size) := by
    have := Heap.get?_push_size (s.heap.push PySem.W.emptyDict) (o := PySem.W.instObj C s.heap.objs.size) rfl
    rwa [Heap.size_push] at this
  have e3 : (s.heap.push PySem.W.emptyDict).Ns s.heap.objs.size (fun _ => none) := ⟨PySem.W.emptyDict, #[], _, e1, rfl, (fun e he => absurd he (by simp)), fun _ => rfl⟩
  have I1 := I.laid (a := s.heap.objs.size) (o := .own (s.heap.objs.size + 1)) (h' := s.heap.push PySem.W.emptyDict) (t' := s.toks) (fun b u q => Heap.get?_push_of_some _ q) (Nat.le_refl _) ⟨_, e1⟩
  refine I1.laid (a := s.heap.objs.size + 1) (o := .ins C s.heap.objs.size []) (t' := s.toks) (fun b u q => Heap.get?_push_of_some _ q) (Nat.le_of_eq (Heap.size_push _ _)) ?_
  have ne : s.heap.objs.size ≠ s.heap.objs.size + 1 := Nat.ne_of_lt (Nat.lt_succ_self _)
  refine ⟨by rw [upd_ne ne, upd_same], Nat.zero_le _, ne, e2, fun _ => none, (Heap.Ns1.of_empty e3).at fun o q => Heap.get?_push_of_some _ q, fun _ => True.intro, fun y hy => absurd rfl hy⟩
end
section
variable {X : Cx} {o e value : Expr} {f : Str} {pos pos' tpos : Pos} {ta tv : TE}
end
section
variable {X : Cx} {pins : List (Addr × Obj)} {σ : St} {H : Hp} {s : Shared} {A : Around} {E : Value → Shared → Prop} {Q : Value → Shared → Prop} {c : Value} {b : Bool}
inductive TyOf (K : PySem.W.Frag) (H : Hp) : V → Value → Prop where
  | non : TyOf K H .non (.type "NoneType")
  | bl (x : Bool) : TyOf K H (.bl x) (.type "bool")
  | int (i : Int) : TyOf K H (.int i) (.type "int")
  | str (x : Str) : TyOf K H (.str x) (.type "str")
  | flt (x : UInt64) : TyOf K H (.flt x) (.type "float")
  | lst {a : Addr} {xs : List V} (e : H a = some (.lst xs)) : TyOf K H (.ref a) (.type "list")
  | frz {a : Addr} {o : Obj} {xs : List V} (e : H a = some (.frz o (.lst xs))) : TyOf K H (.ref a) (.type "list")
  | tup {a : Addr} {xs : List V} (e : H a = some (.tup xs)) : TyOf K H (.ref a) (.type "tuple")
  | dK {a : Addr} {kvs : List (Key × V)} (e : H a = some (.dK kvs)) : TyOf K H (.ref a) (.type "dict")
  | dT {a : Addr} {kvs : List (List Key × V)} (e : H a = some (.dT kvs)) : TyOf K H (.ref a) (.type "dict")
  | ins {a C dx : Addr} {fs : List (Str × V)} (e : H a = some (.ins C dx fs)) (cl : Cls K C) (ha : PySem.W.findIn K (.ref C) "__class__" = some (some (.builtin "object.__class__")))
      (hn : PySem.W.specialIn K (.builtin "object.__class__") "__get__" = some (some (.builtin "getset_descriptor.__get__"))) (htk : PySem.W.takesIn K (.builtin "object.__class__") = some true)
      (hm : PySem.W.mroIn K C (.type "object") = some true) : TyOf K H (.ref a) (.ref C)
theorem isinst_ok {x : V} {u t : Value} (I : Inv X pins σ H s) (rx : RelV x u) (ty : TyOf X.K H x t) (e : PySem.W.kitOne X.K t c = some b) (h : ∀ tk, Q (.bool b) { s with toks := tk }) :
    wpAny (model X.prog X.w) A (call (.builtin "isinstance") [u, c]) Q E s := by
  cases ty with
  | non => cases (show u = Value.none from rx); exact PySem.W.kia_one PySem.W.kitx_none I.kIn True.intro e (fun z => nomatch z) h
  | bl y => cases (show u = Value.bool y from rx); exact PySem.W.kia_one PySem.W.kitx_bool I.kIn True.intro e (fun z => nomatch z) h
  | int i => obtain ⟨t, q⟩ := (show ∃ t, u = Value.int i t from rx); cases q; exact PySem.W.kia_one PySem.W.kitx_int I.kIn True.intro e (fun z => nomatch z) h
  | str y => obtain ⟨t, q⟩ := (show ∃ t, u = Value.str y t from rx); cases q; exact PySem.W.kia_one PySem.W.kitx_str I.kIn True.intro e (fun z => nomatch z) h
  | flt y => obtain ⟨t, q⟩ := (show ∃ t, u = Value.float y t from rx); cases q; exact PySem.W.kia_one PySem.W.kitx_float I.kIn True.intro e (fun z => nomatch z) h
  | @lst a xs ea =>
    cases (show u = Value.ref a from rx)
    obtain ⟨_, _, n, _, h1⟩ := (show ObjOk X.prog X.w H s.heap a (.lst xs) from I.hok a _ ea)
    exact PySem.W.kia_one PySem.W.kitx_list I.kIn ⟨_, h1, rfl⟩ e (fun z => nomatch z) h
  | @frz a ob xs ea =>
    cases (show u = Value.ref a from rx)
    obtain ⟨_, _, _, n, _, h1⟩ := (show ObjOk X.prog X.w H s.heap a (.frz ob (.lst xs)) from I.hok a _ ea)
    exact PySem.W.kia_one PySem.W.kitx_list I.kIn ⟨_, h1, rfl⟩ e (fun z => nomatch z) h
  | @tup a xs ea =>
    cases (show u = Value.ref a from rx)
    obtain ⟨_, _, _, p, _⟩ := (show ObjOk X.prog X.w H s.heap a (.tup xs) from I.hok a _ ea)
    obtain ⟨o, h1, h2, _⟩ := p
    exact PySem.W.kia_one PySem.W.kitx_tuple I.kIn ⟨o, h1, h2⟩ e (fun z => nomatch z) h
  | @dK a kvs ea =>
    cases (show u = Value.ref a from rx)
    obtain ⟨_, _, vs, _, p⟩ := (show ObjOk X.prog X.w H s.heap a (.dK kvs) from I.hok a _ ea)
    obtain ⟨o, es, ep, h1, h2, _⟩ := p
    exact PySem.W.kia_one PySem.W.kitx_dict I.kIn ⟨o, h1, h2.1⟩ e (fun z => nomatch z) h
  | @dT a kvs ea =>
    cases (show u = Value.ref a from rx)
    obtain ⟨_, _, xs, _, o, es, ep, h1, h2, _⟩ := (show ObjOk X.prog X.w H s.heap a (.dT kvs) from I.hok a _ ea)
    exact PySem.W.kia_one PySem.W.kitx_dict I.kIn ⟨o, h1, h2.1⟩ e (fun z => nomatch z) h
  | @ins a C dx fs ea cl ha hn htk hm =>
    cases (show u = Value.ref a from rx)
    obtain ⟨mA, O, _⟩ := ins_get I.hok ea
    obtain ⟨od, J, _⟩ := O.look
    exact PySem.W.kia_one (PySem.W.kitx_own (cl.get _) cl.hd ha hn htk hm) I.kIn J e (fun z => nomatch z) h
end
end L2
namespace L2
open PySem PySem.Spec PyProof.Rows
structure Room (k : Nat) (A : Around) : Prop where
  hd : A.handled = none
  dp : A.depth + 3 * k + 5 < recursionLimit
  un : A.units + 16 * k + 200 < cLine
theorem Room.mono {j k : Nat} {A : Around} (r : Room k A) (h : j ≤ k) : Room j A := ⟨r.hd, by have := r.dp; omega, by have := r.un; omega⟩
theorem Room.deeper {k : Nat} {A : Around} (r : Room (k + 1) A) (env : Env) : Room k (A.deeper env) :=
  ⟨r.hd, by have := r.dp; show A.depth + 1 + 3 * k + 5 < _; omega, by have := r.un; show A.units + 3 + 16 * k + 200 < _; omega⟩
theorem Room.in1 {k : Nat} {A : Around} (r : Room (k + 1) A) : Room k A.in1 :=
  ⟨r.hd, by have := r.dp; show A.depth + 3 * k + 5 < _; omega, by have := r.un; show A.units + 1 + 16 * k + 200 < _; omega⟩
theorem Room.depth {k : Nat} {A : Around} (r : Room k A) : A.depth < recursionLimit := by have := r.dp; omega
theorem Room.units {k : Nat} {A : Around} (r : Room k A) : A.units + 64 < cLine := by have := r.un; omega
theorem Room.units0 {k : Nat} {A : Around} (r : Room k A) : A.units < cLine := by have := r.un; omega
noncomputable def tNil : TA := fun _ H Q => Q [] H
noncomputable def tCons (ta : TE) (tr : TA) : TA := fun σ H Q => ta σ H fun x H1 => tr σ H1 fun xs H2 => Q (x :: xs) H2
section
variable {X : Cx} {e : Expr} {es : List Expr} {te : TE} {t : TA} {pos : Pos}
theorem pa_nil : PA X [] tNil := fun _ _ _ _ H Q I h => Calls.spliced_nil ⟨[], H, I, .nil, h⟩
theorem pa_cons (ha : PE X e te) (hr : PA X es t) (hs : starEach (e :: es) X.env = (false, eval e X.env) :: starEach es X.env := by rfl) : PA X (e :: es) (tCons te t) := by
  intro pos pins s σ H Q I h
  rw [hs]
  show wpAny _ _ (spliced ((false, eval e X.env) :: backTo pos (starEach es X.env))) _ _ s
  refine Calls.spliced_cons (thn (ha pins s σ H _ I h) fun u s1 ⟨x, H1, I1, r1, q1⟩ => ?_)
  exact thn (hr pos pins s1 σ H1 _ I1 q1) fun us s2 ⟨xs, H2, I2, r2, q2⟩ => ⟨x :: xs, H2, I2, .cons r1 r2, q2⟩
noncomputable def tTup (t : TA) : TE := fun σ H Q => t σ H fun xs H1 => xs.length ≤ sizeLine ∧ ∀ p, H1 p = none → Q (.ref p) (upd H1 p (.tup xs))
noncomputable def tLst (t : TA) : TE := fun σ H Q => t σ H fun xs H1 => xs.length ≤ sizeLine ∧ ∀ p, H1 p = none → Q (.ref p) (upd H1 p (.lst xs))
theorem pe_tup {x1} (h : PA X es t) : PE X (.Tuple es x1 pos) (tTup t) := by
  intro pins s σ H Q I hq
  refine wpAny_Tuple_spliced (thn (h pos pins s σ H _ I hq) fun us s1 ⟨xs, H1, I1, r, z, q⟩ => ⟨by rw [← r.length]; exact z, ?_⟩)
  have hf : H1 s1.heap.objs.size = none := I1.hok.fresh (Nat.le_refl _)
  refine ⟨.ref s1.heap.objs.size, upd H1 s1.heap.objs.size (.tup xs), I1.laid (t' := s1.toks) (fun b u e => Heap.get?_push_of_some _ e) (Nat.le_refl _) ?_, rfl, q _ hf⟩
  exact ⟨z, us, r, ⟨_, Heap.get?_push_size _ rfl, rfl, _, rfl⟩, _, Heap.get?_push_size _ rfl, rfl⟩
theorem pe_lst (h : PA X es t) : PE X (.List es pos) (tLst t) := by
  intro pins s σ H Q I hq
  refine wpAny_List_spliced (thn (h pos pins s σ H _ I hq) fun us s1 ⟨xs, H1, I1, r, z, q⟩ => ⟨by rw [← r.length]; exact z, ?_⟩)
  have hf : H1 s1.heap.objs.size = none := I1.hok.fresh (Nat.le_refl _)
  refine ⟨.ref s1.heap.objs.size, upd H1 s1.heap.objs.size (.lst xs), I1.laid (t' := s1.toks) (fun b u e => Heap.get?_push_of_some _ e) (Nat.le_refl _) ?_, rfl, q _ hf⟩
  exact ⟨z, us, 0, r, Heap.get?_push_size _ rfl⟩
end
noncomputable abbrev Sp := List V → Hp → VK → XK → Prop
noncomputable abbrev CXT := List Env → Hp → Shared → XK → Value → Shared → Prop
structure Env0 (P : Program) (w : World) (K : PySem.W.Frag) (mg : Str → Option Value) (base : Heap) (A : Around) (outer : List Env) (s : Shared) (H : Hp) : Prop where
  frames : A.frames = some outer
  mod : Mod K mg base
  bs : ∀ b o, base.get? b = some o → s.heap.get? b = some o ∧ H b = none
  bsz : base.objs.size ≤ s.heap.objs.size
  funs : s.heap.FunFrames base outer
  frf : ∀ b ∈ frs outer, H b = none
  hok : HOk P w H s.heap
  bare : AllBare s.gens
noncomputable def CE (outer : List Env) (P : Program) (w : World) (H : Hp) (s : Shared) (Q : VK) (u : Value) (s' : Shared) : Prop :=
  ∃ v H', s'.os = s.os ∧ AllBare s'.gens ∧ Un (frs outer) [] H H' s.heap s'.heap ∧ HOk P w H' s'.heap ∧ RelV v u ∧ Q v H'
noncomputable def CR (CX : CXT) (outer : List Env) (P : Program) (w : World) (H : Hp) (s : Shared) (Q : VK) (E : XK) (r : Result) (s' : Shared) : Prop :=
  match r with
  | .ok (.ret u) => CE outer P w H s Q u s'
  | .ok _ => False
  | .error e => CX outer H s E e s'
structure FnOk (P : Program) (w : World) (K : PySem.W.Frag) (mg : Str → Option Value) (base : Heap) (CX : CXT) (k : Nat) (f : Addr) (fd : FuncData) (ps : List Str) (sp : Sp) : Prop where
  len : ∀ vs H Q E, sp vs H Q E → vs.length = ps.length
  run : ∀ (A : Around) (outer : List Env) (s : Shared) (H : Hp) (args : Args) (us : List Value) (vs : List V) (Q : VK) (E : XK), Room k A → Env0 P w K mg base A outer s H → BindsTo s fd args (ps.zip us) → Vals vs us → sp vs H Q E →
    codeAny (model P w) A (.call (.ref f) args) (CR CX outer P w H s Q E) s
theorem FnOk.mono {P : Program} {w : World} {K : PySem.W.Frag} {mg : Str → Option Value} {base : Heap} {CX : CXT} {j k : Nat} {f : Addr} {fd : FuncData} {ps : List Str} {sp : Sp} (F : FnOk P w K mg base CX j f fd ps sp) (h : j ≤ k) :
    FnOk P w K mg base CX k f fd ps sp := ⟨F.len, fun A outer s H args us vs Q E hr => F.run A outer s H args us vs Q E (hr.mono h)⟩
theorem FnOk.imp {P : Program} {w : World} {K : PySem.W.Frag} {mg : Str → Option Value} {base : Heap} {CX : CXT} {k : Nat} {f : Addr} {fd : FuncData} {ps : List Str} {sp sp' : Sp} (F : FnOk P w K mg base CX k f fd ps sp)
    (h : ∀ vs H Q E, sp' vs H Q E → sp vs H Q E) : FnOk P w K mg base CX k f fd ps sp' :=
  ⟨fun vs H Q E q => F.len vs H Q E (h _ _ _ _ q), fun A outer s H args us vs Q E hr he hb hv hs => F.run A outer s H args us vs Q E hr he hb hv (h _ _ _ _ hs)⟩
theorem Env0.in1 {P : Program} {w : World} {K : PySem.W.Frag} {mg : Str → Option Value} {base : Heap} {A : Around} {outer : List Env} {s : Shared} {H : Hp} (e : Env0 P w K mg base A outer s H) :
    Env0 P w K mg base A.in1 outer s H := ⟨e.frames, e.mod, e.bs, e.bsz, e.funs, e.frf, e.hok, e.bare⟩
section
variable {X : Cx} {pins : List (Addr × Obj)} {σ : St} {H : Hp} {s s' : Shared}
theorem Inv.env0 (I : Inv X pins σ H s) : Env0 X.prog X.w X.K X.mg X.base X.A X.stack s H :=
  ⟨I.ok.frames, I.ok.mod, I.bs, Nat.le_trans I.ok.bsz I.sz, I.stack, I.stkFree, I.hok, I.bare⟩
theorem Inv.after {Q : VK} {u : Value} (I : Inv X pins σ H s) (h : CE X.stack X.prog X.w H s Q u s') : EP X pins σ Q u s' := by
  obtain ⟨v, H', os, bare, un, hok, r, q⟩ := h
  obtain ⟨hh, g, d, t, os'⟩ := s'
  obtain rfl : os' = s.os := os
  exact ⟨v, H', I.call (h' := hh) (g' := g) (d' := d) (t' := t) (ch := []) un hok bare (fun b z => absurd z (by simp)), r, q⟩
end
noncomputable def tCall (sp : Sp) (dvs : List V) (E : XK) (t : TA) : TE := fun σ H Q => t σ H fun vs H1 => sp (vs ++ dvs) H1 Q E
noncomputable def Binds (K : PySem.W.Frag) (fd : FuncData) (ps : List Str) (ds : List Value) : Prop :=
  ∀ (s : Shared) (us : List Value), K.In s.heap → (us ++ ds).length = ps.length → BindsTo s fd ⟨us, []⟩ (ps.zip (us ++ ds))
theorem Binds.all {K : PySem.W.Frag} {fd : FuncData} {ps : List Str} (h : ∀ us : List Value, us.length = ps.length → bindArgs fd ⟨us, []⟩ = pure (ps.zip us)) : Binds K fd ps [] := fun s us _ hl => by
  rw [List.append_nil] at hl ⊢
  exact .of_eq (h us hl)
noncomputable def Passes (CX : CXT) (X : Cx) (E : XK) : Prop := ∀ (pins : List (Addr × Obj)) (σ : St) (H : Hp) (s : Shared) (e : Value) (s' : Shared), Inv X pins σ H s → CX X.stack H s E e s' → X.xe e s'
section
variable {X : Cx} {CX : CXT} {k : Nat} {f C : Addr} {fd : FuncData} {ps : List Str} {sp : Sp} {dvs : List V} {ds : List Value} {E : XK} {x m : Str} {p pos apos : Pos} {e o : Expr} {es : List Expr} {ta : TE} {t : TA}
theorem run_fn {pins : List (Addr × Obj)} {σ : St} {H : Hp} {s : Shared} {Q : VK} {us : List Value} {vs : List V} (F : FnOk X.prog X.w X.K X.mg X.base CX k f fd ps sp) (hr : Room k X.A) (hb : Binds X.K fd ps ds) (hd : Vals dvs ds) (hx : Passes CX X E)
    (I : Inv X pins σ H s) (r : Vals vs us) (h : sp (vs ++ dvs) H Q E) : wpAny (model X.prog X.w) X.A (call (.ref f) us) (EP X pins σ Q) X.xe s := by
  have r2 : Vals (vs ++ dvs) (us ++ ds) := r.append hd
  have hl : (us ++ ds).length = ps.length := by rw [← r2.length]; exact F.len _ _ _ _ h
  refine wpAny_call (codeAny_mono (F.run X.A X.stack s H ⟨us, []⟩ (us ++ ds) (vs ++ dvs) Q E hr I.env0 (hb s us I.kIn hl) r2 h) fun r s' hq => ?_)
  cases r with
  | error e => exact hx pins σ H s e s' I hq
  | ok fl =>
    cases fl with
    | ret u => exact I.after hq
    | next => exact False.elim hq
    | brk => exact False.elim hq
    | cont => exact False.elim hq
theorem pe_call (F : FnOk X.prog X.w X.K X.mg X.base CX k f fd ps sp) (hr : Room k X.A) (hg : Gl X x) (hm : X.mg x = some (.ref f)) (hk : PySem.W.keepIn X.K (.ref f) = true) (hb : Binds X.K fd ps ds) (hd : Vals dvs ds) (hx : Passes CX X E)
    (ha : PA X (e :: es) t) (hdb : (x == ("__debug__" : Str)) = false := by decide) (he : starEach (e :: es) X.env = (false, eval e X.env) :: starEach es X.env := by rfl) (hpl : (backTo pos (starEach es X.env)).any (·.1) = false := by rfl) :
    PE X (.Call (.Name x p) (e :: es) [] pos) (tCall sp dvs E t) := by
  intro pins s σ H Q I h
  refine wpAny_Call_Name_kw (ld_glob I hg hm ?_ hdb)
  refine PySem.W.callWith_K (h₀ := X.base) I.ok.mod.kin hk (thn (ha pos pins s σ H _ I h) fun us s1 ⟨vs, H1, I1, r, q⟩ => ⟨I1.kIn, ?_⟩) he hpl
  exact run_fn F hr hb hd hx I1 r q
structure Mk (K : PySem.W.Frag) (C f : Addr) : Prop where
  makes : PySem.W.makesIn K C = true
  init : PySem.W.findIn K (.ref C) "__init__" = some (some (.ref f))
  fn : PySem.W.isFn K (.ref f) = true
  kp : PySem.W.keepIn K (.ref C) = true
end
section
variable {X : Cx} {CX : CXT} {k : Nat} {f C : Addr} {fd : FuncData} {ps ks : List Str} {sp : Sp} {E : XK} {x m : Str} {p pos apos kpos : Pos} {e o : Expr} {es : List Expr} {kws : List Keyword} {te ta : TE} {t tk : TA} {nm : Option Str}
structure KBinds (K : PySem.W.Frag) (fd : FuncData) (ps ks : List Str) (g : List Value → List Value → List Value) (gV : List V → List V → List V) : Prop where
  to : ∀ (s : Shared) (us ws : List Value), K.In s.heap → (g us ws).length = ps.length → BindsTo s fd ⟨us, ks.zip ws⟩ (ps.zip (g us ws))
  rel : ∀ {vs : List V} {us : List Value} {zs : List V} {ws : List Value}, Vals vs us → Vals zs ws → Vals (gV vs zs) (g us ws)
variable {g : List Value → List Value → List Value} {gV : List V → List V → List V}
end
structure FnScope (N P : List Str) (sc : Scope) : Prop where
  kind : sc.kind = .function
  co : sc.isCoroutine = false
  gen : sc.isGenerator = false
  nd : N.Nodup
  pre : N.take P.length = P
  par : ∀ x ∈ P, sc.names.lookup x = some .local ∨ sc.names.lookup x = some .cell
  nofree : ∀ y ∈ sc.names, y.2 ≠ .free
theorem bindL_out {kindOf : Str → Option NameKind} {x : Str} : ∀ {binds : List (Str × Value)} {m : Str → Option Value}, (∀ v, (x, v) ∉ binds) → bindL kindOf binds m x = m x
  | [], _, _ => rfl
  | (n, v) :: r, m, h => by
    unfold bindL
    rw [bindL_out fun w hw => h w (List.mem_cons_of_mem _ hw)]
    split
    · have : x ≠ n := by rintro rfl; exact h v List.mem_cons_self
      simp [this]
    · rfl
theorem bindC_out {kindOf : Str → Option NameKind} {x : Str} : ∀ {binds : List (Str × Value)} {m : Str → Option Value}, (∀ v, (x, v) ∉ binds) → bindC kindOf binds m x = m x
  | [], _, _ => rfl
  | (n, v) :: r, m, h => by
    unfold bindC
    rw [bindC_out fun w hw => h w (List.mem_cons_of_mem _ hw)]
    split
    · rfl
    · have : x ≠ n := by rintro rfl; exact h v List.mem_cons_self
      simp [this]
theorem bindL_get {kindOf : Str → Option NameKind} {x : Str} {v : Value} : ∀ {P : List Str} {vs : List Value} {i : Nat} {m : Str → Option Value}, P.Nodup → P[i]? = some x → vs[i]? = some v → kindOf x = some .local →
    bindL kindOf (P.zip vs) m x = some v
  | [], _, _, _, _, h, _, _ => by simp at h
  | _ :: _, [], _, _, _, _, h, _ => by simp at h
  | p :: P, w :: vs, 0, m, nd, h1, h2, hk => by
    simp at h1 h2; subst h1; subst h2
    show bindL kindOf ((p, w) :: P.zip vs) m p = _
    unfold bindL
    rw [bindL_out fun v hv => (List.nodup_cons.mp nd).1 (List.of_mem_zip hv).1, if_pos hk]
    simp
  | p :: P, w :: vs, i + 1, m, nd, h1, h2, hk => by
    show bindL kindOf ((p, w) :: P.zip vs) m x = _
    unfold bindL
    exact bindL_get (i := i) (List.nodup_cons.mp nd).2 (by simpa using h1) (by simpa using h2) hk
theorem bindC_get {kindOf : Str → Option NameKind} {x : Str} {v : Value} : ∀ {P : List Str} {vs : List Value} {i : Nat} {m : Str → Option Value}, P.Nodup → P[i]? = some x → vs[i]? = some v → kindOf x ≠ some .local →
    bindC kindOf (P.zip vs) m x = some v
  | [], _, _, _, _, h, _, _ => by simp at h
  | _ :: _, [], _, _, _, _, h, _ => by simp at h
  | p :: P, w :: vs, 0, m, nd, h1, h2, hk => by
    simp at h1 h2; subst h1; subst h2
    show bindC kindOf ((p, w) :: P.zip vs) m p = _
    unfold bindC
    rw [bindC_out fun v hv => (List.nodup_cons.mp nd).1 (List.of_mem_zip hv).1, if_neg hk]
    simp
  | p :: P, w :: vs, i + 1, m, nd, h1, h2, hk => by
    show bindC kindOf ((p, w) :: P.zip vs) m x = _
    unfold bindC
    exact bindC_get (i := i) (List.nodup_cons.mp nd).2 (by simpa using h1) (by simpa using h2) hk
noncomputable def start (N : List Str) (vs : List V) : St := vs.map some ++ List.replicate (N.length - vs.length) none
noncomputable def cxOf (CX : CXT) (P : Program) (w : World) (K : PySem.W.Frag) (mg : Str → Option Value) (base : Heap) (N : List Str) (qual : Str) (scope : Scope) (f : Addr) (cd : Value) (A : Around) (outer : List Env) (s : Shared) (H : Hp) (E : XK) : Cx where
  prog := P
  w := w
  K := K
  mg := mg
  base := base
  A := A.deeper (envOfC qual scope s.heap.objs.size f cd)
  N := N
  s₀ := s
  H₀ := H
  env := envOfC qual scope s.heap.objs.size f cd
  outer := outer
  stack := envOfC qual scope s.heap.objs.size f cd :: outer
  ex := []
  calm := true
  fn := fun _ => true
  pn := []
  xe := fun e s' => wpAny (model P w) (A.deeper (envOfC qual scope s.heap.objs.size f cd)) (leaving (envOfC qual scope s.heap.objs.size f cd) e) (fun _ s'' => CX outer H s E e s'') (fun e' s'' => CX outer H s E e' s'') s'
theorem cell_has {sc : Scope} {n : Nat} {x : Str} (h : sc.names.lookup x = some .cell) : ∃ c, (cellsFrom n sc.names []).lookup x = some c := by
  have q := PySem.W.cellsFrom_some sc.names n [] (.inl h)
  exact Option.isSome_iff_exists.mp q
theorem inv_start {CX : CXT} {P : Program} {w : World} {K : PySem.W.Frag} {mg : Str → Option Value} {base : Heap} {N ps : List Str} {qual : Str} {scope : Scope} {f : Addr} {cd : Value} {A : Around} {outer : List Env} {s s1 : Shared} {H : Hp} {E : XK} {us : List Value} {vs : List V}
    (S : FnScope N ps scope) (hd : A.handled = none) (e0 : Env0 P w K mg base A outer s H) (hl : vs.length = ps.length) (r : Vals vs us)
    (x : InCallC s s.heap.objs.size (bindL (envOfC qual scope s.heap.objs.size f cd).kindOf (ps.zip us) fun _ => none) (cellsFrom (s.heap.objs.size + 1) scope.names []) (bindC (envOfC qual scope s.heap.objs.size f cd).kindOf (ps.zip us) fun _ => none) s1) :
    Inv (cxOf CX P w K mg base N qual scope f cd A outer s H E) [] (start N vs) H s1 := by
  have hpl : ps.length ≤ N.length := by have := congrArg List.length S.pre; rw [List.length_take] at this; omega
  obtain ⟨h1, tk, rfl, hk⟩ := x.done
  have noA : ∀ b : Addr, b ∉ (cxOf CX P w K mg base N qual scope f cd A outer s H E).ex := fun b z => absurd (show b ∈ ([] : List Addr) from z) (by simp)
  refine ⟨⟨e0.mod, S.kind, rfl, rfl, Nat.le_refl _, fun y z c h1 h2 => ?_, fun y hy => ?_, fun y c _ h => ?_, fun _ => hd, Around.frames_deeper e0.frames, .inr ⟨rfl, rfl⟩, fun b z => absurd z (noA b), e0.bs, e0.bsz, fun b _ _ => noA b, fun b z => absurd z (noA b), e0.funs, e0.frf⟩,
    rfl, e0.bare, Un.kept hk, ⟨_, x.toInCall.ns, fun i y v h1 h2 h3 => ?_⟩, fun y c h => ⟨_, x.cell y c h⟩, e0.hok.fresh (Nat.le_refl _), fun y c h => ?_, fun p hp => absurd (show p ∈ ([] : List (Addr × Obj)) from hp) (by simp), e0.hok.kept hk, ?_⟩
  · exact name_of_addr x.apart (PySem.mem_of_lookup h1) (PySem.mem_of_lookup h2)
  · have hy : scope.names.lookup y = some .cell ∨ scope.names.lookup y = some .free := hy
    rcases hy with hy | hy
    · exact cell_has hy
    · exact absurd rfl (S.nofree _ (PySem.mem_of_lookup hy))
  · exact Nat.le_of_lt (x.above y c (PySem.mem_of_lookup h))
  · have hi : i < vs.length := by
      unfold start at h2
      by_cases hi : i < vs.length
      · exact hi
      · rw [List.getElem?_append_right (by simpa using hi)] at h2
        rw [List.getElem?_replicate] at h2
        split at h2 <;> cases h2
    have ha : vs[i]? = some v := by
      unfold start at h2
      rw [List.getElem?_append_left (by simpa using hi), List.getElem?_map] at h2
      cases e : vs[i]? with
      | none => rw [e] at h2; cases h2
      | some a => rw [e] at h2; cases h2; rfl
    obtain ⟨u, hu, rv⟩ := r.get ha
    have hp : ps[i]? = some y := by
      rw [← S.pre, List.getElem?_take_of_lt (by omega)]; exact h1
    have ndP : ps.Nodup := by rw [← S.pre]; exact S.nd.sublist (List.take_sublist _ _)
    refine ⟨u, rv, ?_⟩
    rcases S.par y (List.mem_of_getElem? hp) with k | k
    · exact .inl ⟨k, bindL_get ndP hp hu k⟩
    · obtain ⟨c, e⟩ := cell_has (n := s.heap.objs.size + 1) k
      refine .inr ⟨.inl k, c, e, ?_⟩
      have q := x.cell y c e
      rw [bindC_get ndP hp hu (by show scope.names.lookup y ≠ _; rw [k]; decide)] at q
      exact q
  · exact e0.hok.fresh (Nat.le_of_lt (x.above y c (PySem.mem_of_lookup h)))
  · unfold start
    show _ = N.length
    rw [List.length_append, List.length_map, List.length_replicate]
    omega
theorem fn_of {CX : CXT} {P : Program} {w : World} {K : PySem.W.Frag} {mg : Str → Option Value} {base : Heap} {k : Nat} {f : Addr} {name qual : Str} {params : Arguments} {body : List Stmt} {scope : Scope} {dV kV doc pm cdv ct oc : Value} {an od : Option Addr}
    {osl : Array (Option Value)} {N ps : List Str} {sp : Sp} (lk : K.lookup f = some ⟨oc, od, .func (PySem.W.fnOf name qual params body scope dV kV doc pm an cdv ct), osl⟩) (hcd : PySem.W.codeIn K cdv qual = true) (S : FnScope N ps scope)
    (len : ∀ vs H Q E, sp vs H Q E → vs.length = ps.length)
    (hbody : ∀ (A : Around) (outer : List Env) (s : Shared) (H : Hp) (vs : List V) (Q : VK) (E : XK), Room k (A.deeper (envOfC qual scope s.heap.objs.size f cdv)) → sp vs H Q E →
      ∃ t, PSs (cxOf CX P w K mg base N qual scope f cdv A outer s H E) body t ∧ t { nx := fun _ H' => Q .non H', rt := Q } (start N vs) H) :
    FnOk P w K mg base CX (k + 1) f (PySem.W.fnOf name qual params body scope dV kV doc pm an cdv ct) ps sp := by
  refine ⟨len, fun A outer s H args us vs Q E hr e0 hb r hsp => ?_⟩
  have hl := len _ _ _ _ hsp
  have KX : K.In s.heap := e0.mod.kin.keeps fun b o e => (e0.bs b o e).1
  have lim : s.heap.NoLimit := e0.mod.nolimit.keeps fun b o e => (e0.bs b o e).1
  have hkind : ∀ y ∈ ps.zip us, scope.names.lookup y.1 = some .local ∨ (scope.names.lookup y.1 = some .cell ∧ ((cellsFrom (s.heap.objs.size + 1) scope.names []).lookup y.1).isSome = true) := fun ⟨n, v⟩ hy => by
    rcases S.par n (List.of_mem_zip hy).1 with q | q
    · exact .inl q
    · exact .inr ⟨q, PySem.W.cellsFrom_some _ _ _ (.inl q)⟩
  refine codeAny_call_function hr.depth (KX _ _ lk) rfl S.co S.gen rfl (PySem.W.codeRec_of KX hcd) (hb _ _ _ _ ?_)
  refine wpAny_newFunctionEnv_cells S.kind hkind fun env he s1 x => ?_
  subst he
  refine ⟨lim.keeps x.toInCall.keep, codeAny_func ?_⟩
  obtain ⟨t, ht, hq⟩ := hbody A outer s H vs Q E (hr.deeper _) hsp
  have I : Inv (cxOf CX P w K mg base N qual scope f cdv A outer s H E) [] (start N vs) H s1 := inv_start S hr.hd e0 hl r x
  refine wpAny_mono (ht [] s1 (start N vs) H _ I hq) (fun fl s' hs => ?_) fun e s' hs => hs
  have fin : ∀ {σ' : St} {H' : Hp} {v : V} {u : Value}, Inv (cxOf CX P w K mg base N qual scope f cdv A outer s H E) [] σ' H' s' → RelV v u → Q v H' → CE outer P w H s Q u s' :=
    fun {σ' H' v u} J rv q => ⟨v, H', J.os, J.bare, J.base, J.hok, rv, q⟩
  cases fl with
  | ret u =>
    obtain ⟨v, σ', H', J, rv, q⟩ := hs
    exact fin J rv q
  | next =>
    obtain ⟨σ', H', J, q⟩ := hs
    exact fin (v := V.non) (u := Value.none) J rfl q
  | brk =>
    obtain ⟨_, _, _, q⟩ := hs
    exact False.elim q
  | cont =>
    obtain ⟨_, _, _, q⟩ := hs
    exact False.elim q
end L2
namespace L2
open PySem PySem.Spec PyProof.Rows
section
variable {X : Cx} {x : Str} {p pos : Pos} {e : Expr} {es : List Expr} {t : TA} {id T : String} {r : List V → Hp → VK → Prop}
noncomputable def tCB (r : List V → Hp → VK → Prop) (t : TA) : TE := fun σ H Q => t σ H fun vs H1 => r vs H1 Q
theorem pe_callB (hc : CallR X (.builtin id) r) (hg : Gl X x) (hm : X.mg x = none) (hv : bootBuiltins x = some (.builtin id)) (ha : PA X (e :: es) t) (hn : x ≠ "__name__" := by decide) (hdb : (x == ("__debug__" : Str)) = false := by decide)
    (he : starEach (e :: es) X.env = (false, eval e X.env) :: starEach es X.env := by rfl) (hpl : (backTo pos (starEach es X.env)).any (·.1) = false := by rfl) : PE X (.Call (.Name x p) (e :: es) [] pos) (tCB r t) := by
  intro pins s σ H Q I h
  refine wpAny_Call_Name_kw (ld_blt I hg hm hv ?_ hn hdb)
  exact PyProof.Rows.callWith_builtin1 (thn (ha pos pins s σ H _ I h) fun us s1 ⟨vs, H1, I1, r1, q1⟩ => hc pins s1 σ H1 vs us Q I1 r1 q1) he hpl
theorem pe_callTy (hc : CallR X (.type T) r) (hg : Gl X x) (hm : X.mg x = none) (hv : bootBuiltins x = some (.type T)) (ha : PA X (e :: es) t) (hn : x ≠ "__name__" := by decide) (hdb : (x == ("__debug__" : Str)) = false := by decide)
    (he : starEach (e :: es) X.env = (false, eval e X.env) :: starEach es X.env := by rfl) (hpl : (backTo pos (starEach es X.env)).any (·.1) = false := by rfl) : PE X (.Call (.Name x p) (e :: es) [] pos) (tCB r t) := by
  intro pins s σ H Q I h
  refine wpAny_Call_Name_kw (ld_blt I hg hm hv ?_ hn hdb)
  exact PyProof.Rows.callWith_type1 (thn (ha pos pins s σ H _ I h) fun us s1 ⟨vs, H1, I1, r1, q1⟩ => hc pins s1 σ H1 vs us Q I1 r1 q1) he hpl
end
end L2
namespace HT
open PySem PyProof.Rows
section
open PySem.SeqAt
open PySem.AutoSeq1 (wpAny_loadPart')
open PySem.MeetsSeq PySem.MeetsSeq2 PySem.MeetsSeq3
end
section
variable {prog : Program} {w : World} {A : Around} {E : Value → Shared → Prop} {s : Shared}
theorem cat_tup {t b : Addr} {vs ws : List Value} {Q : Value → Shared → Prop} (ht : IsTup s.heap t vs.toArray) (hb : IsTup s.heap b ws.toArray) (hv : vs ≠ [])
    (h1 : ws = [] → Q (.ref t) s) (h2 : ws ≠ [] → Q (.ref s.heap.objs.size) { s with heap := s.heap.push { cls := .type "tuple", data := .seq (vs ++ ws).toArray } })
    (hsz : vs.length + ws.length ≤ sizeLine) : wpAny (model prog w) A (binaryOp .Add (.ref t) (.ref b)) Q E s := by
  obtain ⟨⟨cls, dd, data, sl⟩, ho, hc, n, hd⟩ := id ht
  obtain ⟨⟨cls2, dd2, data2, sl2⟩, ho2, hc2, n2, hd2⟩ := id hb
  simp only at hc hd hc2 hd2
  subst hc hd hc2 hd2
  have e : vs.toArray ++ ws.toArray = (vs ++ ws).toArray := by simp
  by_cases hw : ws = []
  · exact concat_meets ⟨_, ho, rfl⟩ ⟨_, ho2, rfl⟩ noFill_tuple_add seq_tuple_add PySem.F.slot_tuple_add PySem.F.entry_tuple_add (PySem.F.args_tuple_add_2 _ _)
      (tuple_addW1 t b vs.toArray ws.toArray n n2 dd dd2 sl sl2 (by simpa using hv) (by simp [hw])) ⟨ho, ho2, h1 hw⟩
  · refine concat_meets ⟨_, ho, rfl⟩ ⟨_, ho2, rfl⟩ noFill_tuple_add seq_tuple_add PySem.F.slot_tuple_add PySem.F.entry_tuple_add (PySem.F.args_tuple_add_2 _ _)
      (tuple_addW2 t b vs.toArray ws.toArray n n2 dd dd2 sl sl2 (by simpa using hv) (by simpa using hw) (by rw [List.size_toArray, List.size_toArray]; exact hsz)) ⟨ho, ho2, ?_⟩
    rw [e]
    exact h2 hw
end
end HT
namespace L2
open PySem PySem.Spec PyProof.Rows
noncomputable abbrev TO := St → Hp → (Option Int → Hp → Prop) → Prop
noncomputable def PO (X : Cx) (e : Option Expr) (t : TO) : Prop :=
  ∀ (pins : List (Addr × Obj)) (s : Shared) (σ : St) (H : Hp) (Q : Option Int → Hp → Prop), Inv X pins σ H s → t σ H Q →
    wpAny (model X.prog X.w) X.A (evalPart e X.env) (fun u s' => ∃ o H', Inv X pins σ H' s' ∧ IsPart u o ∧ Q o H') X.xe s
noncomputable def tNoPart : TO := fun _ H Q => Q none H
noncomputable def tPart (t : TE) : TO := fun σ H Q => t σ H fun x H1 => ∃ i, x = .int i ∧ Q (some i) H1
theorem intsAre_of {ns : List Int} : ∀ {us : List Value}, Vals (ns.map V.int) us → IntsAre us ns := by
  induction ns with
  | nil => intro us r; rw [List.map_nil] at r; cases r; exact .nil
  | cons n ns ih =>
    intro us r
    rw [List.map_cons] at r
    cases r with
    | cons r1 r2 =>
      obtain ⟨t, e⟩ := r1
      subst e
      exact .cons n t (ih r2)
section
variable {X : Cx} {e : Expr} {te : TE} {lo hi : Option Expr} {tl th : TO} {pos p2 : Pos}
theorem po_none : PO X none tNoPart := by
  intro pins s σ H Q I h
  rw [evalPart_none]
  exact wpAny_pure ⟨none, H, I, .none, h⟩
theorem po_some (h : PE X e te) : PO X (some e) (tPart te) := by
  intro pins s σ H Q I hw
  rw [evalPart_some]
  refine thn (h pins s σ H _ I hw) fun u s1 ⟨x, H1, I1, r1, q1⟩ => ?_
  obtain ⟨i, rfl, q⟩ := q1
  obtain ⟨t, rfl⟩ := r1
  exact ⟨some i, H1, I1, .int i t, q⟩
noncomputable def rCatT (K : PySem.W.Frag) : R2 := fun x y H Q => ∃ a b xs ys, x = .ref a ∧ y = .ref b ∧ SqT K H a xs ∧ SqT K H b ys ∧ xs ≠ [] ∧ xs.length + ys.length ≤ sizeLine ∧
  (ys = [] → Q (.ref a) H) ∧ (ys ≠ [] → ∀ p, H p = none → Q (.ref p) (upd H p (.tup (xs ++ ys))))
theorem Vals.nil_iff {xs : List V} {us : List Value} (r : Vals xs us) : us = [] ↔ xs = [] := by
  cases r with
  | nil => simp
  | cons _ _ => simp
theorem op_catT : OpR X (binaryOp .Add) (rCatT X.K) := by
  intro pins s σ H x y v u Q I rx ry h
  obtain ⟨a, b, xs, ys, rfl, rfl, ha, hb, hx, hz, q1, q2⟩ := h
  cases rx
  cases ry
  obtain ⟨its, r1, p1, _⟩ := I.tuple ha
  obtain ⟨its2, r2, p2, _⟩ := I.tuple hb
  refine HT.cat_tup p1 p2 (fun z => hx (r1.nil_iff.mp z)) (fun z => ⟨.ref a, H, I, rfl, q1 (r2.nil_iff.mp z)⟩) (fun z => ?_) (by rw [← r1.length, ← r2.length]; exact hz)
  refine ⟨.ref s.heap.objs.size, _, I.laid (t' := s.toks) (o := .tup (xs ++ ys)) (fun b ob q => Heap.get?_push_of_some _ q) (Nat.le_refl _) ?_, rfl, q2 (fun w => z (r2.nil_iff.mpr w)) _ (I.hok.fresh (Nat.le_refl _))⟩
  exact ⟨by rw [List.length_append]; exact hz, _, r1.append r2, IsTup.new _ _, _, Heap.get?_push_size _ rfl, rfl⟩
end
end L2
namespace L2
open PySem PySem.Spec PyProof.Rows
noncomputable def ixN (n : Nat) (i : Int) : Option Nat := if 0 ≤ i then (if i < n then some i.toNat else none) else if -(n : Int) ≤ i then some (i + n).toNat else none
noncomputable def atI {α : Type} (xs : List α) (i : Int) : Option α := (ixN xs.length i).bind fun j => xs[j]?
theorem ixN_seq {n : Nat} {i : Int} {j : Nat} (h : ixN n i = some j) : seqIndex? i n = some j ∧ j < n ∧ -(n : Int) ≤ i ∧ i < n := by
  unfold ixN at h
  by_cases h0 : 0 ≤ i
  · rw [if_pos h0] at h
    by_cases h1 : i < n
    · rw [if_pos h1] at h
      have e : i.toNat = j := Option.some.inj h
      exact ⟨by rw [seqIndex_of h0 h1, e], by omega, by omega, h1⟩
    · rw [if_neg h1] at h; cases h
  · rw [if_neg h0] at h
    by_cases h1 : -(n : Int) ≤ i
    · rw [if_pos h1] at h
      have e : (i + n).toNat = j := Option.some.inj h
      exact ⟨by rw [seqIndex_neg (by omega) h1, e], by omega, h1, by omega⟩
    · rw [if_neg h1] at h; cases h
theorem atI_get {α : Type} {xs : List α} {i : Int} {v : α} (h : atI xs i = some v) : ∃ j, seqIndex? i xs.length = some j ∧ xs[j]? = some v ∧ j < xs.length ∧ -(xs.length : Int) ≤ i ∧ i < xs.length := by
  unfold atI at h
  cases e : ixN xs.length i with
  | none => rw [e] at h; cases h
  | some j =>
    rw [e] at h
    obtain ⟨h1, h2, h3, h4⟩ := ixN_seq e
    exact ⟨j, h1, h, h2, h3, h4⟩
theorem atI_nat {α : Type} {xs : List α} {j : Nat} {v : α} (h : xs[j]? = some v) : atI xs (j : Int) = some v := by
  have hj : j < xs.length := (List.getElem?_eq_some_iff.mp h).1
  have e : ixN xs.length (j : Int) = some j := by
    unfold ixN
    rw [if_pos (by omega), if_pos (by omega)]; simp
  unfold atI; rw [e]; exact h
noncomputable def PlainIx (b : Expr) : Prop := ∀ o i, subscripted b false o i = operate [o, i] (getItem o i)
noncomputable def IxR (X : Cx) (r : R2) : Prop :=
  ∀ (value slice : Expr) (pins : List (Addr × Obj)) (s : Shared) (σ : St) (H : Hp) (x y : V) (v u : Value) (Q : VK), Inv X pins σ H s → RelV x v → RelV y u → r x y H Q →
    subscripted slice false v u = operate [v, u] (getItem v u) → wpAny (model X.prog X.w) X.A (subscriptTail value slice v u) (EP X pins σ Q) X.xe s
noncomputable def MtR (X : Cx) (id : String) (r : V → List V → Hp → VK → Prop) : Prop :=
  ∀ (pins : List (Addr × Obj)) (s : Shared) (σ : St) (H : Hp) (x : V) (xs : List V) (v : Value) (us : List Value) (Q : VK), Inv X pins σ H s → RelV x v → Vals xs us → r x xs H Q →
    wpAny (model X.prog X.w) X.A (call (.builtin id) (v :: us)) (EP X pins σ Q) X.xe s
section
variable {X : Cx} {a b : Expr} {ta tb : TE} {pos : Pos}
theorem pe_ix {r : R2} (hr : IxR X r) (ha : PE X a ta) (hb : PE X b tb) (hs : PlainIx b) : PE X (.Subscript a b pos) (tOp r ta tb) := by
  intro pins s σ H Q I h
  exact Subscript_ (binT ha hb I h fun v u s2 x y H2 I2 rx ry q => hr a b pins s2 σ H2 x y v u Q I2 rx ry q (hs _ _))
noncomputable def rIxL (K : PySem.W.Frag) : R2 := fun x y H Q => ∃ p xs i v, x = .ref p ∧ y = .int i ∧ SqL K H p xs ∧ atI xs i = some v ∧ Q v H
noncomputable def rIxT (K : PySem.W.Frag) : R2 := fun x y H Q => ∃ p xs i v, x = .ref p ∧ y = .int i ∧ SqT K H p xs ∧ atI xs i = some v ∧ Q v H
theorem ix_list : IxR X (rIxL X.K) := by
  intro value slice pins s σ H x y v u Q I rx ry h hs
  obtain ⟨p, xs, i, z, rfl, rfl, hq, he, q⟩ := h
  cases rx
  obtain ⟨t, rfl⟩ := ry
  obtain ⟨its, r, pl, hz⟩ := I.list hq
  obtain ⟨j, h1, h2, h3, h4, h5⟩ := atI_get he
  obtain ⟨w, ew, rw'⟩ := r.get h2
  have hl := r.length
  have hn := line63
  have fin : EP X pins σ Q w s := ⟨z, H, I, rw', q⟩
  by_cases h0 : 0 ≤ i
  · have hj : i.toNat = j := by
      rw [seqIndex_of h0 h5] at h1
      exact Option.some.inj h1
    exact item_listR pl.isList h0 (by omega) (by rw [hj]; simpa using ew) fin hs
  · have hj : (i + (its.toArray.size : Int)).toNat = j := by
      rw [seqIndex_neg (by omega) h4] at h1
      rw [List.size_toArray, ← hl]
      exact Option.some.inj h1
    exact subscriptTail_builtinR (x := w) pl.isList.typeIs slot_list_getitem.lookup
      (wpAny_getItem_list_neg (Q := fun r s' => r = w ∧ EP X pins σ Q r s') pl.isList (by omega) (by rw [List.size_toArray] <;> omega) (by omega) (by rw [hj]; simpa using ew) ⟨rfl, fin⟩) hs
theorem ix_tup : IxR X (rIxT X.K) := by
  intro value slice pins s σ H x y v u Q I rx ry h hs
  obtain ⟨p, xs, i, z, rfl, rfl, hq, he, q⟩ := h
  cases rx
  obtain ⟨t, rfl⟩ := ry
  obtain ⟨its, r, pl, hz⟩ := I.tuple hq
  obtain ⟨j, h1, h2, h3, h4, h5⟩ := atI_get he
  obtain ⟨w, ew, rw'⟩ := r.get h2
  have hl := r.length
  have hn := line63
  have fin : EP X pins σ Q w s := ⟨z, H, I, rw', q⟩
  exact subscriptTail_builtinR (x := w) pl.typeIs slot_tuple_getitem.lookup
    (getItem_tuple (j := j) (Q := fun r s' => r = w ∧ EP X pins σ Q r s') pl (by omega) (by omega) (by rw [List.size_toArray, ← hl]; exact h1) (by simpa using ew) ⟨rfl, fin⟩) hs
theorem mapSeq_set (its : List Value) (n j : Nat) (u : Value) : Obj.mapSeq (·.setIfInBounds j u) { cls := .type "list", data := .seq its.toArray n } = { cls := .type "list", data := .seq (its.set j u).toArray n } := by
  simp [Obj.mapSeq]
theorem Inv.lst {pins : List (Addr × Obj)} {σ : St} {H : Hp} {s : Shared} {p : Addr} {xs : List V} (I : Inv X pins σ H s) (h : H p = some (.lst xs)) :
    ∃ (its : List Value) (n : Nat), Vals xs its ∧ s.heap.get? p = some { cls := .type "list", data := .seq its.toArray n } ∧ xs.length ≤ sizeLine := by
  obtain ⟨z, its, n, r, e⟩ := I.hok p _ h
  exact ⟨its, n, r, e, z⟩
theorem Inv.lstUpd {pins : List (Addr × Obj)} {σ : St} {H : Hp} {s : Shared} {p : Addr} {xs ys : List V} {its its' : List Value} {n n' : Nat} {f : Obj → Obj} (I : Inv X pins σ H s) (h : H p = some (.lst xs))
    (ho : s.heap.get? p = some { cls := .type "list", data := .seq its.toArray n }) (hf : f { cls := .type "list", data := .seq its.toArray n } = { cls := .type "list", data := .seq its'.toArray n' }) (r : Vals ys its') (hz : ys.length ≤ sizeLine) (t : Nat) :
    Inv X pins σ (upd H p (.lst ys)) { s with heap := s.heap.update p f, toks := t } := by
  have e : (s.heap.update p f).get? p = some { cls := .type "list", data := .seq its'.toArray n' } := by
    rw [Heap.get?_update_self f ho (by rw [hf] <;> rfl), hf]
  refine I.write (x := p) (e := p) (by rw [h]; trivial) (.inl rfl) (fun b u hb q => (Heap.get?_update_other _ _ (Ne.symm hb)).trans q) ⟨_, e⟩ ?_
  exact ⟨hz, its', n', r, e⟩
noncomputable def rSetL : V → V → V → Hp → (Hp → Prop) → Prop := fun o i v H Q => ∃ p xs k j, o = .ref p ∧ i = .int k ∧ H p = some (.lst xs) ∧ ixN xs.length k = some j ∧ Q (upd H p (.lst (xs.set j v)))
theorem set_list : PSet X rSetL := by
  intro pins s σ H o i v ov iv u Q I ro ri rv h
  obtain ⟨p, xs, k, j, rfl, rfl, hp, hj, q⟩ := h
  cases ro
  obtain ⟨t, rfl⟩ := ri
  obtain ⟨its, n, r, ho, hz⟩ := I.lst hp
  obtain ⟨h1, h2, h3, h4⟩ := ixN_seq hj
  have hl := r.length
  have hn := line63
  have I' : Inv X pins σ (upd H p (.lst (xs.set j v))) { s with heap := s.heap.update p (Obj.mapSeq (·.setIfInBounds j u)) } :=
    I.lstUpd hp ho (mapSeq_set its n j u) (r.set rv j) (by rw [List.length_set]; exact hz) s.toks
  by_cases h0 : 0 ≤ k
  · have hk : k.toNat = j := by
      rw [seqIndex_of h0 h4] at h1
      exact Option.some.inj h1
    exact PySem.W.ki_setAt ho h0 (by omega) (by rw [List.size_toArray, ← hl]; exact h4) (by rw [hk]; exact ⟨_, I', q⟩)
  · have hk : (k + (its.toArray.size : Int)).toNat = j := by
      rw [seqIndex_neg (by omega) h3] at h1
      rw [List.size_toArray, ← hl]
      exact Option.some.inj h1
    exact PySem.W.ki_setBack ho (by omega) (by rw [List.size_toArray, ← hl]; exact h3) (by omega) (by rw [hk]; exact ⟨_, I', q⟩)
noncomputable def flatV : V → Bool
  | .non => true
  | .bl _ => true
  | .int _ => true
  | .str _ => true
  | _ => false
noncomputable def eqV : V → V → Bool
  | .non, .non => true
  | .bl a, .bl b => a == b
  | .bl a, .int b => (if a then 1 else 0) == b
  | .int a, .bl b => a == (if b then 1 else 0)
  | .int a, .int b => a == b
  | .str a, .str b => a == b
  | _, _ => false
theorem eqAt_V {A : Around} {s : Shared} {y x : V} {u v : Value} (ry : RelV y u) (rx : RelV x v) (fy : flatV y = true) (fx : flatV x = true) : SeqAt.EqAt A s u v (eqV y x) := by
  cases y with
  | non =>
    cases ry
    cases x with
    | non => cases rx; exact SeqAt.EqAt.same _
    | bl b => cases rx; exact SeqAt.EqAt.none_bool b
    | int b => obtain ⟨t, rfl⟩ := rx; exact SeqAt.EqAt.none_int b t
    | str b => obtain ⟨t, rfl⟩ := rx; exact SeqAt.EqAt.none_str b t
    | _ => exact absurd (show false = true from fx) Bool.false_ne_true
  | bl a =>
    cases ry
    cases x with
    | non => cases rx; exact SeqAt.EqAt.bool_none a
    | bl b => cases rx; exact SeqAt.EqAt.bool_bool a b
    | int b => obtain ⟨t, rfl⟩ := rx; exact SeqAt.EqAt.bool_int a b t
    | str b => obtain ⟨t, rfl⟩ := rx; exact SeqAt.EqAt.bool_str a b t
    | _ => exact absurd (show false = true from fx) Bool.false_ne_true
  | int a =>
    obtain ⟨t', rfl⟩ := ry
    cases x with
    | non => cases rx; exact SeqAt.EqAt.int_none a t'
    | bl b => cases rx; exact SeqAt.EqAt.int_bool a t' b
    | int b => obtain ⟨t, rfl⟩ := rx; exact SeqAt.EqAt.int_int a t' b t
    | str b => obtain ⟨t, rfl⟩ := rx; exact SeqAt.EqAt.int_str a t' b t
    | _ => exact absurd (show false = true from fx) Bool.false_ne_true
  | str a =>
    obtain ⟨t', rfl⟩ := ry
    cases x with
    | non => cases rx; exact SeqAt.EqAt.str_none a t'
    | bl b => cases rx; exact SeqAt.EqAt.str_bool a t' b
    | int b => obtain ⟨t, rfl⟩ := rx; exact SeqAt.EqAt.str_int a t' b t
    | str b => obtain ⟨t, rfl⟩ := rx; exact SeqAt.EqAt.str_str a t' b t
    | _ => exact absurd (show false = true from fx) Bool.false_ne_true
  | _ => exact absurd (show false = true from fy) Bool.false_ne_true
noncomputable def eqU (x : V) (u : Value) : Bool := match u with
  | .none => eqV .non x
  | .bool b => eqV (.bl b) x
  | .int i _ => eqV (.int i) x
  | .str z _ => eqV (.str z) x
  | _ => false
theorem eqU_of {x y : V} {u : Value} (r : RelV y u) (f : flatV y = true) : eqU x u = eqV y x := by
  cases y with
  | non => cases r; rfl
  | bl b => cases r; rfl
  | int i => obtain ⟨t, rfl⟩ := r; rfl
  | str z => obtain ⟨t, rfl⟩ := r; rfl
  | _ => exact absurd (show false = true from f) Bool.false_ne_true
theorem any_eqU {x : V} : ∀ {xs : List V} {us : List Value}, Vals xs us → xs.all flatV = true → us.any (eqU x) = xs.any fun y => eqV y x
  | _, _, .nil, _ => rfl
  | y :: xs, u :: us, .cons r t, f => by
    rw [List.all_cons, Bool.and_eq_true] at f
    rw [List.any_cons, List.any_cons, eqU_of r f.1, any_eqU t f.2]
theorem mem_eqAt {A : Around} {s : Shared} {x : V} {v : Value} (rx : RelV x v) (fx : flatV x = true) : ∀ {xs : List V} {us : List Value}, Vals xs us → xs.all flatV = true → ∀ u ∈ us, SeqAt.EqAt A s u v (eqU x u)
  | _, _, .nil, _ => fun u hu => by cases hu
  | y :: xs, u :: us, .cons r t, f => fun u' hu => by
    rw [List.all_cons, Bool.and_eq_true] at f
    rcases List.mem_cons.mp hu with rfl | hu
    · rw [eqU_of r f.1]; exact eqAt_V r rx f.1 fx
    · exact mem_eqAt rx fx t f.2 u' hu
noncomputable def inV (x : V) (xs : List V) : Bool := xs.any fun y => eqV y x
noncomputable def rIn (K : PySem.W.Frag) (neg : Bool) : R2 := fun x y H Q => ∃ p xs, y = .ref p ∧ (SqL K H p xs ∨ SqT K H p xs) ∧ flatV x = true ∧ xs.all flatV = true ∧ Q (.bl (if neg then !inV x xs else inV x xs)) H
theorem op_in_seq : OpR X (compareOp .In) (rIn X.K false) := by
  intro pins s σ H x y v u Q I rx ry h
  obtain ⟨p, xs, rfl, hq, fx, fs, q⟩ := h
  cases ry
  rcases hq with hq | hq
  · obtain ⟨its, r, pl, hz⟩ := I.list hq
    refine SeqAt.in_listAt (eqU x) pl.isList (fun w hw => mem_eqAt rx fx r fs w (by simpa using hw)) ⟨.bl _, H, I, rfl, ?_⟩
    rw [show its.toArray.any (eqU x) = its.any (eqU x) by simp, any_eqU r fs]
    exact q
  · obtain ⟨its, r, pl, hz⟩ := I.tuple hq
    refine SeqAt.in_tupleAt (eqU x) pl (fun w hw => mem_eqAt rx fx r fs w (by simpa using hw)) ⟨.bl _, H, I, rfl, ?_⟩
    rw [show its.toArray.any (eqU x) = its.any (eqU x) by simp, any_eqU r fs]
    exact q
theorem call_len_seq : CallR X (.builtin "len") (fun xs H Q => ∃ p ys, xs = [.ref p] ∧ (SqL X.K H p ys ∨ SqT X.K H p ys) ∧ Q (.int ys.length) H) := by
  intro pins s σ H xs us Q I r h
  obtain ⟨p, ys, rfl, hq, q⟩ := h
  obtain ⟨u, rfl, rx⟩ := vals1 r
  cases rx
  have hn := line63
  rcases hq with hq | hq
  · obtain ⟨its, r', pl, hz⟩ := I.list hq
    have hlen := r'.length
    exact Calls.call_len_list pl.isList (by simp only [List.size_toArray] <;> omega) ⟨.int ys.length, H, I.tok _, ⟨s.toks + 1, by rw [List.size_toArray, hlen]⟩, q⟩
  · obtain ⟨its, r', pl, hz⟩ := I.tuple hq
    have hlen := r'.length
    exact len_tuple pl (by simp only [List.size_toArray] <;> omega) ⟨.int ys.length, H, I.tok _, ⟨s.toks + 1, by rw [List.size_toArray, hlen]⟩, q⟩
theorem call_tuple_of : CallR X (.type "tuple") (fun xs H Q => ∃ p ys, xs = [.ref p] ∧ ((SqL X.K H p ys ∧ ∀ l, H l = none → Q (.ref l) (upd H l (.tup ys))) ∨ (SqT X.K H p ys ∧ Q (.ref p) H))) := by
  intro pins s σ H xs us Q I r h
  obtain ⟨p, ys, rfl, h⟩ := h
  obtain ⟨u, rfl, rx⟩ := vals1 r
  cases rx
  rcases h with ⟨hq, q⟩ | ⟨hq, q⟩
  · obtain ⟨its, r', pl, hz⟩ := I.list hq
    have hlen := r'.length
    refine call_tuple_list pl.isList (fun h' kp => ?_) (by simp only [List.size_toArray] <;> omega)
    have I1 : Inv X pins σ H { s with heap := h' } := I.kept (t' := s.toks) kp
    have I2 : Inv X pins σ (upd H h'.objs.size (.tup ys)) { s with heap := h'.push { cls := .type "tuple", data := .seq its.toArray } } :=
      I1.laid (t' := s.toks) (fun b o e => Heap.get?_push_of_some _ e) (Nat.le_refl _) (show ObjOk X.prog X.w _ _ _ (.tup ys) from ⟨hz, its, r', IsTup.new _ _, _, Heap.get?_push_size _ rfl, rfl⟩)
    exact ⟨.ref h'.objs.size, _, I2, rfl, q _ (I1.hok.fresh (Nat.le_refl _))⟩
  · obtain ⟨its, r', pl, hz⟩ := I.tuple hq
    exact call_tuple_same pl ⟨.ref p, H, I, rfl, q⟩
noncomputable def tyV (K : PySem.W.Frag) (T : String) (x : V) (H : Hp) : Prop := match x with
  | .str _ => T = "str"
  | .int _ => T = "int"
  | .ref p => (T = "list" ∧ ∃ xs, SqL K H p xs) ∨ (T = "tuple" ∧ ∃ o, K.lookup p = some o ∧ o.cls = .type "tuple" ∧ o.dict = none) ∨
      (T = "dict" ∧ ((∃ kvs, H p = some (.dK kvs)) ∨ ∃ kvs, H p = some (.dT kvs))) ∨ (T = "set" ∧ ∃ S n, H p = some (.set S n))
  | _ => False
theorem tyV_is {pins : List (Addr × Obj)} {σ : St} {H : Hp} {s : Shared} {T : String} {x : V} {v : Value} (I : Inv X pins σ H s) (r : RelV x v) (ty : tyV X.K T x H) :
    s.TypeIs v T ∧ ∀ a, v = .ref a → ∃ ob, s.heap.get? a = some ob ∧ ob.dict = none := by
  cases x with
  | str z =>
    obtain ⟨t, rfl⟩ := r
    cases (show T = "str" from ty)
    exact ⟨typeIs_str s z t, fun _ e => nomatch e⟩
  | int i =>
    obtain ⟨t, rfl⟩ := r
    cases (show T = "int" from ty)
    exact ⟨typeIs_int s i t, fun _ e => nomatch e⟩
  | ref p =>
    cases r
    rcases ty with ⟨rfl, xs, hq⟩ | ⟨rfl, o, hk, hc, hd⟩ | ⟨rfl, hk⟩ | ⟨rfl, S, n, hk⟩
    · obtain ⟨its, _, pl, _⟩ := I.list hq
      refine ⟨pl.isList.typeIs, fun a e => ?_⟩
      cases e
      obtain ⟨o, n, e, c, hd, _⟩ := pl
      exact ⟨o, e, hd⟩
    · refine ⟨⟨o, I.kIn p o hk, hc⟩, fun a e => ?_⟩
      cases e
      exact ⟨o, I.kIn _ o hk, hd⟩
    · have z : ∃ o, s.heap.get? p = some o ∧ o.ExactDict := by
        rcases hk with ⟨kvs, hk⟩ | ⟨kvs, hk⟩
        · obtain ⟨_, _, _, _, o, _, _, e, ex, _⟩ := I.hok p _ hk
          exact ⟨o, e, ex⟩
        · obtain ⟨_, _, _, _, o, _, _, e, ex, _⟩ := I.hok p _ hk
          exact ⟨o, e, ex⟩
      obtain ⟨o, e, ex⟩ := z
      refine ⟨⟨o, e, ex.1⟩, fun a e2 => ?_⟩
      cases e2
      exact ⟨o, e, ex.2.1⟩
    · obtain ⟨o, _, _, _, e, ex, _⟩ := I.hok p _ hk
      refine ⟨⟨o, e, ex.1⟩, fun a e2 => ?_⟩
      cases e2
      exact ⟨o, e, ex.2.1⟩
  | _ => exact False.elim ty
noncomputable def tBM (K : PySem.W.Frag) (T : String) (r : V → List V → Hp → VK → Prop) (to : TE) (t : TA) : TE := fun σ H Q => to σ H fun x H1 => tyV K T x H1 ∧ t σ H1 fun xs H2 => r x xs H2 Q
variable {o e : Expr} {es : List Expr} {to : TE} {t : TA} {name : Str} {apos cpos : Pos} {T id : String} {r : V → List V → Hp → VK → Prop}
theorem pe_bm (pa : PlainAttrs T) (slot : Slot T name id) (hty : typeOf (.builtin id) = pure (.type "method_descriptor")) (hm : MtR X id r) (ho : PE X o to) (ha : PA X (e :: es) t)
    (hbase : attributeBase o name X.env (eval o X.env) = eval o X.env := by rfl)
    (hfew : ((backTo cpos (starEach (e :: es) X.env)).all (fun x => !x.1) && (backToKw cpos (keywordEach [] X.env)).all (fun x => x.1.isSome)
      && decide ((e :: es).length + ([] : List Keyword).length + (if ([] : List Keyword).isEmpty then 0 else 1) < 30)) = true := by rfl)
    (hline : (apos.endLine == cpos.line) = true := by rfl) (hs : starEach (e :: es) X.env = (false, eval e X.env) :: starEach es X.env := by rfl) (hplain : (backTo cpos (starEach es X.env)).any (·.1) = false := by rfl) :
    PE X (.Call (.Attribute o name apos) (e :: es) [] cpos) (tBM X.K T r to t) := by
  intro pins s σ H Q I h
  refine wpAny_Call_method_late hbase hfew hline rfl (thn (ho pins s σ H _ I h) fun v s1 ⟨x, H1, I1, r1, ty, q1⟩ => ?_)
  obtain ⟨h1, h2⟩ := tyV_is I1 r1 ty
  refine ⟨T, id, pa, slot, hty, h1, h2, ?_⟩
  have hA := ha cpos pins s1 σ H1 _ I1 q1
  rw [hs] at hA ⊢
  refine Calls.callWith_builtin (by show (false || (backTo cpos (starEach es X.env)).any (·.1)) = false; rw [hplain] <;> rfl) (Calls.evalArgs_plain ?_)
  exact thn hA fun us s2 ⟨vs, H2, I2, r2, q2⟩ => hm pins s2 σ H2 x vs v us Q I2 r1 r2 q2
end
end L2
namespace L2
open PySem PySem.Spec PyProof.Rows
noncomputable def MtM (X : Cx) (id : String) (r : V → List V → Hp → VK → Prop) : Prop :=
  ∀ (pins : List (Addr × Obj)) (s : Shared) (σ : St) (H : Hp) (x : V) (xs : List V) (v : Value) (us : List Value) (Q : VK), Inv X pins σ H s → RelV x v → Vals xs us → r x xs H Q →
    wpAny (model X.prog X.w) X.A (call (.builtin id) (v :: us)) (EP X pins σ Q) X.xe s
theorem Vals.one : ∀ {x : V} {us : List Value}, Vals [x] us → ∃ u, us = [u] ∧ RelV x u
  | _, _, .cons r .nil => ⟨_, rfl, r⟩
theorem Vals.two : ∀ {x y : V} {us : List Value}, Vals [x, y] us → ∃ u v, us = [u, v] ∧ RelV x u ∧ RelV y v
  | _, _, _, .cons r (.cons q .nil) => ⟨_, _, rfl, r, q⟩
theorem Vals.zero : ∀ {us : List Value}, Vals [] us → us = []
  | _, .nil => rfl
theorem Vals.reverse {xs : List V} {us : List Value} (h : Vals xs us) : Vals xs.reverse us.reverse := by
  induction h with
  | nil => exact .nil
  | cons r t ih => rw [List.reverse_cons, List.reverse_cons]; exact Vals.append ih (.cons r .nil)
theorem Vals.rep {xs : List V} {us : List Value} (h : Vals xs us) : ∀ k : Nat, Vals (List.replicate k xs).flatten (List.replicate k us).flatten
  | 0 => .nil
  | k + 1 => by
    rw [List.replicate_succ, List.replicate_succ, List.flatten_cons, List.flatten_cons]
    exact Vals.append h (Vals.rep h k)
theorem foldl_rep (its : List Value) : ∀ (k : Nat) (acc : List Value),
    List.foldl (fun x1 x2 => x1 ++ x2) acc.toArray (List.replicate k its.toArray) = (acc ++ (List.replicate k its).flatten).toArray
  | 0, acc => by simp
  | k + 1, acc => by
    have e : acc.toArray ++ its.toArray = (acc ++ its).toArray := by simp
    have e2 : (acc ++ its) ++ (List.replicate k its).flatten = acc ++ (List.replicate (k + 1) its).flatten := by
      rw [List.replicate_succ, List.flatten_cons, List.append_assoc]
    rw [← e2, ← foldl_rep its k (acc ++ its), ← e, List.replicate_succ, List.foldl_cons]
section
variable {X : Cx} {pins : List (Addr × Obj)} {σ : St} {H : Hp} {s : Shared} {l b : Addr} {xs ys zs : List V}
theorem Inv.lset {its its' : List Value} {n : Nat} {f : Array Value → Array Value} {t' : Nat} (I : Inv X pins σ H s) (hH : H l = some (.lst xs))
    (e : s.heap.get? l = some { cls := .type "list", data := .seq its.toArray n }) (hf : f its.toArray = its'.toArray) (hv : Vals ys its') (hz : ys.length ≤ sizeLine) :
    Inv X pins σ (upd H l (.lst ys)) { s with heap := s.heap.update l (Obj.mapSeq f), toks := t' } := by
  have q := PySem.IsL.update e f
  rw [hf] at q
  refine I.write (x := l) (e := l) (by rw [hH]; exact trivial) (.inl rfl) (fun b' u hb hu => (Heap.get?_update_other s.heap (Obj.mapSeq f) (Ne.symm hb)).trans hu) ⟨_, q⟩ ?_
  exact ⟨hz, its', _, hv, q⟩
theorem Inv.lnew {its : List Value} {t' : Nat} (I : Inv X pins σ H s) (hv : Vals ys its) (hz : ys.length ≤ sizeLine) :
    Inv X pins σ (upd H s.heap.objs.size (.lst ys)) { s with heap := s.heap.push { cls := .type "list", data := .seq its.toArray }, toks := t' } :=
  I.laid (fun _ _ q => Heap.get?_push_of_some _ q) (Nat.le_refl _) ⟨hz, its, 0, hv, Heap.get?_push_size _ rfl⟩
theorem Inv.fresh (I : Inv X pins σ H s) : H s.heap.objs.size = none := I.hok.fresh (Nat.le_refl _)
theorem Inv.lstM (I : Inv X pins σ H s) (hH : H l = some (.lst xs)) : xs.length ≤ sizeLine ∧ ∃ (its : List Value) (n : Nat), Vals xs its ∧ xs.length = its.length ∧ s.heap.get? l = some { cls := .type "list", data := .seq its.toArray n } := by
  obtain ⟨z, its, n, r, e⟩ := I.hok l _ hH
  exact ⟨z, its, n, r, r.length, e⟩
end
section
variable {X : Cx}
noncomputable def rAppend : V → List V → Hp → VK → Prop := fun x vs H Q => ∃ l xs y, x = .ref l ∧ vs = [y] ∧ H l = some (.lst xs) ∧ xs.length < sizeLine ∧ Q .non (upd H l (.lst (xs ++ [y])))
theorem mt_append : MtM X "list.append" rAppend := by
  intro pins s σ H x vs v us Q I rx rv h
  obtain ⟨l, xs, y, rfl, rfl, hH, hz, q⟩ := h
  cases rx
  obtain ⟨u, rfl, ru⟩ := rv.one
  obtain ⟨z, its, n, r, hl, e⟩ := I.lstM hH
  refine call_meets F.slot_list_append ⟨_, e, rfl⟩ F.entry_list_append (F.args_list_append_2 _ _) (PySem.list_append l its.toArray n u (by rw [List.size_toArray]; omega)) ⟨e, ?_⟩
  refine ⟨.non, _, I.lset (its' := its ++ [u]) hH e (by simp) (r.append (.cons ru .nil)) ?_, rfl, q⟩
  rw [List.length_append, List.length_singleton]
  omega
noncomputable def rCat : R2 := fun x y H Q => ∃ l b xs zs, x = .ref l ∧ y = .ref b ∧ H l = some (.lst xs) ∧ H b = some (.lst zs) ∧ xs.length + zs.length ≤ sizeLine ∧ ∀ p, H p = none → Q (.ref p) (upd H p (.lst (xs ++ zs)))
theorem op_cat : OpR X (binaryOp .Add) rCat := by
  intro pins s σ H x y v u Q I rx ry h
  obtain ⟨l, b, xs, zs, rfl, rfl, hH, hB, hz, q⟩ := h
  cases rx
  cases ry
  obtain ⟨z, its, n, r, hl, e⟩ := I.lstM hH
  obtain ⟨z2, its2, n2, r2, hl2, e2⟩ := I.lstM hB
  refine PySem.P.add_list e e2 ?_ (by rw [List.size_toArray, List.size_toArray]; omega)
  have ea : its.toArray ++ its2.toArray = (its ++ its2).toArray := by simp
  rw [ea]
  exact ⟨.ref _, _, I.lnew (t' := s.toks) (r.append r2) (by rw [List.length_append]; omega), rfl, q _ I.fresh⟩
theorem len_rep {α : Type} (xs : List α) (k : Nat) : (List.replicate k xs).flatten.length = k * xs.length := by
  induction k with
  | zero => simp
  | succ k ih => rw [List.replicate_succ, List.flatten_cons, List.length_append, ih, Nat.succ_mul, Nat.add_comm]
end
section
variable {prog : Program} {w : World} {A : Around} {E : Value → Shared → Prop} {s : Shared}
end
section
variable {X : Cx}
end
end L2
namespace Att
open PySem PySem.W PySem.Calls PyProof.Rows
theorem ints_of_wellAll {P : Params} {h : Heap} : ∀ (ns : List Int) (vs : List Value), WellAll P h vs (ns.map WData.int) → IntsAre vs ns := by
  intro ns
  induction ns with
  | nil =>
    intro vs w
    rw [List.map_nil] at w
    cases w
    exact .nil
  | cons n ns ih =>
    intro vs w
    rw [List.map_cons] at w
    cases w with
    | cons a b =>
      cases a
      exact .cons _ _ (ih _ b)
theorem script_of {l : OpenLaw} {n : Nat} (hn : l.most = some n) {P : Params} {h : Heap} {args : List WData} {vals : List Value}
    (hpre : l.row.toRowW.claim.pre args = true) (hwl : WellAll P h vals args) :
    ∃ a vs ns, vals = [Value.ref a] ∧ args = [WData.list (ns.map WData.int)] ∧ h.get? a = some { cls := .type "list", data := .seq vs.toArray } ∧ IntsAre vs ns ∧ ns.length ≤ n := by
  have hsh : WShape.hasAll [] args [.list .int] = true := (pre_splitW hpre).1
  have hc : l.pre.holds [] { args := args } = true := (pre_splitW hpre).2
  obtain ⟨d, r, rfl, h1, h2⟩ := hasAllW_cons hsh
  obtain rfl := hasAllW_nil h2
  obtain ⟨xs, rfl, h3⟩ := hasW_list h1
  obtain ⟨ns, rfl⟩ := items_int h3
  have hlen : ns.length ≤ n := by
    unfold OpenLaw.pre at hc
    have h4 : (WTm.not (.lt (.lit (.int (n : Int))) (.len (.arg 0)))).holds [] { args := [.list (ns.map .int)] } = true := by
      have h4 := (holds_andW hc).1
      rw [hn] at h4
      exact h4
    have h5 := condW_of h4 (w_not (w_lt w_lit (w_len_list (w_arg rfl))))
    rw [List.length_map] at h5
    refine Nat.le_of_not_lt fun q => ?_
    have q' : (n : Int) < ((ns.length : Nat) : Int) := by omega
    first
      | (rw [decide_eq_true q'] at h5; exact absurd h5 (by decide))
      | (simp at h5; omega)
  cases hwl with
  | cons w1 w2 =>
    cases w2
    cases w1 with
    | list ho hall => exact ⟨_, _, ns, rfl, rfl, ho, ints_of_wellAll ns _ hall, hlen⟩
theorem post_true (l : OpenLaw) (args : List WData) : l.row.toRowW.claim.post args (.bool true) args = true :=
  postW_of (r := l.row.toRowW) (X := (true == true))
    (show WShape.has [] (.bool true) .bool = true by first | rfl | decide | simp [WShape.has, WShape.arms, WShape.armsAll])
    (show (WTm.eq .res (.lit (.bool true))).value [] { args := args, res := some (.bool true), after := args } = some (.bool (true == true)) from w_eq_bool (w_res rfl) w_lit) rfl
theorem attach_call {l : OpenLaw} {n : Nat} {q : Program} {loose : List Str} {XP : (Str → Option Value) → Heap → Prop} {YP : World → Heap → Prop} {d : DefRec}
    (hn : l.most = some n) (hdf : d.params.defaults = [])
    (call : ∀ (w : World) (s₀ s₁ : Shared) (mg mb : Str → Option Value) (fa : Addr) (o : Obj) (pm cd doc : Value) (a : Addr) (vs : List Value) (ns : List Int),
      Ground q loose [] XP w s₀ mg mb s₁.heap → YP w s₁.heap →
      s₁.heap.get? fa = some o → o.data = .func (docDef d.name d.params d.body d.scope pm cd doc) → s₁.heap.CodeRec cd d.name → mg d.name = some (.ref fa) →
      s₁.heap.get? a = some { cls := .type "list", data := .seq vs.toArray } → IntsAre vs ns → ns.length ≤ n → s₁.gens = #[] →
      codeAny (model l.prog w) callerA (.call (.ref fa) ⟨[.ref a], []⟩) (fun r s' => r = .ok (.ret (.bool true)) ∧ OldK s₁.heap s'.heap ∧ s'.os = s₁.os ∧ AllBare s'.gens) s₁) :
    WalkO q loose XP YP l.row.toRowW d [] (fun f vs => PySem.call f vs) := by
  intro w s₀ s₁ mg mb G Y fa o pm cd doc dV kV ho hd hcd hD hmg hg args vals as hpre hlay hrd hwl hlo
  obtain rfl : dV = .none := Dflts.none hD hdf
  obtain rfl : kV = .none := Dflts.noKw hD
  obtain ⟨a, vs, ns, rfl, rfl, hobj, hints, hlen⟩ := script_of hn hpre hwl
  refine enter_call (codeAny_mono (call w s₀ s₁ mg mb fa o pm cd doc a vs ns G Y ho (fd_plain hd) hcd hmg hobj hints hlen hg) fun r s' hq => ?_)
  obtain ⟨rfl, h2, h3, h4⟩ := hq
  exact ⟨.inl ⟨.bool true, .bool true, [], rfl, fun _ => rfl, .bool true, post_true l _, fun _ => ⟨List.Pairwise.nil, fun _ hm => (nomatch hm)⟩⟩, h2, h3, h4⟩
section
variable {prog : Program} {w : World} {A : Around} {E : Value → Shared → Prop} {s : Shared} {K : Frag}
end
end Att
namespace L2
open PySem PySem.Spec PyProof.Rows
theorem vals_ints : ∀ {vs : List Value} {ns : List Int}, IntsAre vs ns → Vals (ns.map V.int) vs
  | _, _, .nil => .nil
  | _, _, .cons n t h => .cons ⟨t, rfl⟩ (vals_ints h)
noncomputable def Only (H : Hp) : Prop := ∀ b, H b = none ∨ ∃ o xs, H b = some (.frz o (.lst xs))
theorem law_call {P : Program} {w : World} {K : PySem.W.Frag} {mg mb : Str → Option Value} {CX : CXT} {k : Nat} {fa a : Addr} {fd : FuncData} {x : Str} {sp : Sp} {s₁ : Shared} {vs : List Value} {ns : List Int}
    (KX : K.In s₁.heap) (hns : s₁.heap.Ns mainGlobals mg) (hb : s₁.heap.Ns builtinsNs mb) (hbb : ∀ x : Str, x ≠ "__name__" → mb x = bootBuiltins x) (hlim : s₁.heap.NoLimit) (hg : s₁.gens = #[])
    (ha : s₁.heap.get? a = some { cls := .type "list", data := .seq vs.toArray }) (hi : IntsAre vs ns) (hl : ns.length ≤ sizeLine) (hr : Room k callerA)
    (F : ∀ base : Heap, K.In base → base.Ns mainGlobals mg → FnOk P w K mg base CX k fa fd [x] sp) (hbind : ∀ (s : Shared) (u : Value), BindsTo s fd ⟨[u], []⟩ [(x, u)])
    (hsp : ∀ H : Hp, Only H → SqL K H a (ns.map V.int) → sp [.ref a] H (fun v _ => v = .bl true) fun _ _ _ => False)
    (hCX : ∀ H e s', CX [] H s₁ (fun _ _ _ => False) e s' → False) :
    codeAny (model P w) callerA (.call (.ref fa) ⟨[.ref a], []⟩) (fun r s' => r = .ok (.ret (.bool true)) ∧ OldK s₁.heap s'.heap ∧ s'.os = s₁.os ∧ AllBare s'.gens) s₁ := by
  have rv := vals_ints hi
  have lenV := hi.length
  -- from an abstract heap in which nothing but the script may be tracked
  have core : ∀ H : Hp, Only H → SqL K H a (ns.map V.int) → HOk P w H s₁.heap → (∀ b, H b ≠ none → b = a) → (H a ≠ none → K.lookup a = none) →
      codeAny (model P w) callerA (.call (.ref fa) ⟨[.ref a], []⟩) (fun r s' => r = .ok (.ret (.bool true)) ∧ OldK s₁.heap s'.heap ∧ s'.os = s₁.os ∧ AllBare s'.gens) s₁ := by
    intro H hO hS hok hA hK
    have base_of : ∀ {b : Addr} {o : Obj}, s₁.heap.get? b = some o → H b = none → (hidT s₁.heap H).get? b = some o := fun e n => hidT_get e n
    have noA : ∀ {b : Addr} {o : Obj} {es : Array DictEntry} {ep : Nat}, s₁.heap.get? b = some o → o.data = .dict es ep → H b = none := fun {b o es ep} e d => by
      cases q : H b with
      | none => rfl
      | some u =>
        have e' : b = a := hA b (by rw [q]; simp)
        subst e'
        rw [ha] at e; cases e
        have d' : Data.seq vs.toArray _ = Data.dict es ep := d
        cases d'
    have nsK : ∀ {b : Addr} {m : Str → Option Value}, s₁.heap.Ns b m → (hidT s₁.heap H).Ns b m := fun {b m} ⟨o, es, ep, e, d, r⟩ => ⟨o, es, ep, base_of e (noA e d), d, r⟩
    have hKb : K.In (hidT s₁.heap H) := fun b o e => base_of (KX b o e) (by
      cases q : H b with
      | none => rfl
      | some u =>
        have e' : b = a := hA b (by rw [q]; simp)
        subst e'
        rw [hK (by rw [q]; simp)] at e; cases e)
    have hM : Mod K mg (hidT s₁.heap H) := ⟨hKb, nsK hns, ⟨mb, nsK hb, hbb⟩, let ⟨mc, h1, h2⟩ := hlim; ⟨mc, nsK h1, h2⟩⟩
    have e0 : Env0 P w K mg (hidT s₁.heap H) callerA [] s₁ H := ⟨rfl, hM, fun b o e => of_hidT e, Nat.le_of_eq (hidT_size _ _), trivial, fun b hb => absurd (show b ∈ ([] : List Addr) from hb) (by simp), hok, .of_eq hg⟩
    refine codeAny_mono ((F _ hKb (nsK hns)).run callerA [] s₁ H ⟨[.ref a], []⟩ [.ref a] [.ref a] _ _ hr e0 (hbind s₁ (.ref a)) (.cons rfl .nil) (hsp H hO hS)) fun r s' h => ?_
    cases r with
    | error e => exact (hCX H e s' h).elim
    | ok fl =>
      cases fl with
      | next => exact False.elim h
      | brk => exact False.elim h
      | cont => exact False.elim h
      | ret u =>
        obtain ⟨v, H', os, bare, un, hok', r', q⟩ := h
        have q' : v = .bl true := q
        subst q'
        obtain rfl : u = Value.bool true := r'
        refine ⟨rfl, OldK.of_keep fun b o e => ?_, os, bare⟩
        cases q : H b with
        | none => exact un.keep b o e q (by intro z; exact absurd (show b ∈ ([] : List Addr) from z) (by simp)) (by simp)
        | some u =>
          rcases hO b with z | ⟨ob, xs, z⟩
          · rw [q] at z; cases z
          · have z2 := un.frzs b ob _ z
            obtain ⟨e1, _⟩ := hok b _ z
            obtain ⟨e2, _⟩ := hok' b _ z2
            rw [e] at e1; cases e1
            exact e2
  cases hk : K.lookup a with
  | some o =>
    -- the script is one of the module's own objects
    have e := KX a o hk
    rw [ha] at e
    cases e
    refine core (fun _ => none) (fun _ => .inl rfl) (.inr ⟨_, vs.toArray, _, hk, rfl, rfl, rfl, by rw [List.size_toArray, lenV]; exact hl, by simpa using rv⟩) (fun b u z => by have z' : (none : Option HO) = some u := z; cases z') (fun b z => absurd rfl z) fun z => absurd rfl z
  | none =>
    refine core (fun b => if b = a then some (.frz { cls := .type "list", data := .seq vs.toArray } (.lst (ns.map V.int))) else none) (fun b => ?_) (.inl (.inr ⟨{ cls := .type "list", data := .seq vs.toArray }, if_pos rfl⟩)) (fun b u z => ?_) (fun b z => ?_) fun _ => hk
    · by_cases hb : b = a
      · exact .inr ⟨_, _, if_pos hb⟩
      · exact .inl (if_neg hb)
    · by_cases hb : b = a
      · have z' := (if_pos hb).symm.trans z
        cases z'
        subst hb
        exact ⟨ha, by rw [List.length_map]; exact hl, vs, _, rv, ha⟩
      · have z' := (if_neg hb).symm.trans z
        cases z'
    · by_cases hb : b = a
      · exact hb
      · exact absurd (if_neg hb) z
end L2
namespace L2
open PySem PySem.Spec PyProof.Rows
theorem walk_of {l : PySem.W.OpenLaw} {n k : Nat} {q : Program} {loose : List Str} {XP : (Str → Option Value) → Heap → Prop} {YP : World → Heap → Prop} {d : DefRec} {K : Params → PySem.W.Frag} {CX : World → CXT} {sp : World → Sp} {x : Str}
    (hn : l.most = some n) (hn2 : n ≤ sizeLine) (hdf : d.params.defaults = []) (hr : Room k callerA)
    (hY : ∀ (w : World) (h : Heap), YP w h → (K w.params).In h)
    (F : ∀ (w : World) (mg : Str → Option Value) (fa : Addr) (h : Heap), (K w.params).In h → h.Ns mainGlobals mg → mg d.name = some (.ref fa) →
      ∃ fd : FuncData, (∀ (s : Shared) (u : Value), BindsTo s fd ⟨[u], []⟩ [(x, u)]) ∧
        ∀ base : Heap, (K w.params).In base → base.Ns mainGlobals mg → FnOk l.prog w (K w.params) mg base (CX w) k fa fd [x] (sp w))
    (hsp : ∀ (w : World) (H : Hp) (a : Addr) (ns : List Int), ns.length ≤ n → Only H → SqL (K w.params) H a (ns.map V.int) → sp w [.ref a] H (fun v _ => v = .bl true) fun _ _ _ => False)
    (hCX : ∀ (w : World) (H : Hp) (s : Shared) (e : Value) (s' : Shared), CX w [] H s (fun _ _ _ => False) e s' → False) :
    PySem.W.WalkO q loose XP YP l.row.toRowW d [] (fun f vs => PySem.call f vs) := by
  refine Att.attach_call hn hdf fun w s₀ s₁ mg mb fa o pm cd doc a vs ns G Y ho hd hcd hmg hobj hints hlen hg => ?_
  have KX := hY w _ Y
  obtain ⟨fd, hb, hF⟩ := F w mg fa _ KX G.T.g hmg
  exact law_call KX G.T.g G.T.b G.T.builtins G.T.nolimit hg hobj hints (Nat.le_trans hlen hn2) hr hF hb (fun H hO hS => hsp w H a ns hlen hO hS) fun H e s' => hCX w H s₁ e s'
end L2
namespace L2
open PySem PySem.Spec PyProof.Rows
noncomputable def defArgs (s : Stmt) : Arguments := match s with
  | .FunctionDef _ a _ _ _ _ _ _ _ _ => a
  | _ => { posonlyargs := [], args := [], vararg := none, kwonlyargs := [], kw_defaults := [], kwarg := none, defaults := [] }
noncomputable def defBody (s : Stmt) : List Stmt := match s with
  | .FunctionDef _ _ b _ _ _ _ _ _ _ => b
  | _ => []
noncomputable def defScope (s : Stmt) : Scope := match s with
  | .FunctionDef _ _ _ _ _ _ sc _ _ _ => sc
  | _ => { kind := .function, names := [], isGenerator := false, isCoroutine := false }
noncomputable abbrev CX0 : CXT := fun _ _ _ _ _ _ => False
noncomputable abbrev E0 : XK := fun _ _ _ => False
theorem pass0 {X : Cx} : Passes CX0 X E0 := fun _ _ _ _ _ _ _ h => h.elim
structure Fun (K : PySem.W.Frag) (x qual : Str) (st : Stmt) (f : Addr) (fd : FuncData) : Prop where
  ex : ∃ (oc : Value) (od : Option Addr) (kV doc pm : Value) (an : Option Addr) (cdv ct : Value) (osl : Array (Option Value)),
    fd = PySem.W.fnOf x qual (defArgs st) (defBody st) (defScope st) .none kV doc pm an cdv ct ∧ K.lookup f = some ⟨oc, od, .func fd, osl⟩ ∧ PySem.W.codeIn K cdv qual = true
  kp : PySem.W.keepIn K (.ref f) = true
section
variable {P : Program} {w : World} {K : PySem.W.Frag} {mg : Str → Option Value} {base : Heap}
theorem Fun.ok {x qual : Str} {st : Stmt} {f : Addr} {fd : FuncData} {N ps : List Str} {k : Nat} {sp : Sp} (F : Fun K x qual st f fd) (S : FnScope N ps (defScope st)) (len : ∀ vs H Q E, sp vs H Q E → vs.length = ps.length)
    (hbody : ∀ (cdv : Value) (A : Around) (outer : List Env) (s : Shared) (H : Hp) (vs : List V) (Q : VK) (E : XK), Room k (A.deeper (envOfC qual (defScope st) s.heap.objs.size f cdv)) → sp vs H Q E →
      ∃ t, PSs (cxOf CX0 P w K mg base N qual (defScope st) f cdv A outer s H E).nox (defBody st) t ∧ t { nx := fun _ H' => Q .non H', rt := Q } (start N vs) H) : FnOk P w K mg base CX0 (k + 1) f fd ps sp := by
  obtain ⟨oc, od, kV, doc, pm, an, cdv, ct, osl, rfl, lk, hcd⟩ := F.ex
  refine fn_of lk hcd S len fun A outer s H vs Q E hr hsp => ?_
  obtain ⟨t, h, q⟩ := hbody cdv A outer s H vs Q E hr hsp
  exact ⟨t, h.nox, q⟩
theorem Fun.binds {x qual : Str} {st : Stmt} {f : Addr} {fd : FuncData} {ps : List Str} (F : Fun K x qual st f fd)
    (h : ∀ (kV doc pm : Value) (an : Option Addr) (cdv ct : Value) (us : List Value), us.length = ps.length → bindArgs (PySem.W.fnOf x qual (defArgs st) (defBody st) (defScope st) .none kV doc pm an cdv ct) ⟨us, []⟩ = pure (ps.zip us)) : Binds K fd ps [] := by
  obtain ⟨oc, od, kV, doc, pm, an, cdv, ct, osl, rfl, lk, hcd⟩ := F.ex
  exact .all (h kV doc pm an cdv ct)
theorem fun_mk {x qual : Str} {st : Stmt} {f : Addr} {oc : Value} {od an : Option Addr} {osl : Array (Option Value)} {kV doc pm cdv ct : Value} (l : K.lookup f = some ⟨oc, od, .func (PySem.W.fnOf x qual (defArgs st) (defBody st) (defScope st) .none kV doc pm an cdv ct), osl⟩)
    (c : PySem.W.codeIn K cdv qual = true) (k : PySem.W.keepIn K (.ref f) = true) : Fun K x qual st f (PySem.W.fnOf x qual (defArgs st) (defBody st) (defScope st) .none kV doc pm an cdv ct) := ⟨⟨oc, od, kV, doc, pm, an, cdv, ct, osl, rfl, l, c⟩, k⟩
end
section
variable {X : Cx}
theorem pv (i : Nat) {x : Str} {pos : Pos} (hN : X.N[i]? = some x := by rfl) (hv : Vis X.env.scope x := by first | exact Or.inl rfl | exact Or.inr (Or.inl rfl) | exact Or.inr (Or.inr rfl)) (hd : (x == ("__debug__" : Str)) = false := by decide)
    (hcd : (x == ("__classdict__" : Str)) = false := by decide) : PE X (.Name x pos) (tVar i) := pe_var hN hv hd hcd
end
theorem iteF {A B : Prop} (h : B) : if false = true then A else B := by
  rw [if_neg Bool.false_ne_true]
  exact h
theorem iteT {A B : Prop} (h : A) : if true = true then A else B := by
  rw [if_pos rfl]
  exact h
theorem ite2 {c A B : Prop} [Decidable c] (h1 : c → A) (h2 : ¬ c → B) : if c then A else B := by
  by_cases h : c
  · rw [if_pos h]
    exact h1 h
  · rw [if_neg h]
    exact h2 h
theorem iteNS {c A B : Prop} [Decidable c] (hc : c) (h : B) : if (!decide c) = true then A else B := by
  rw [decide_eq_true hc]
  exact iteF h
noncomputable def Same (H H' : Hp) : Prop := ∀ b o, H b = some o → H' b = some o
theorem Same.refl (H : Hp) : Same H H := fun _ _ h => h
theorem Same.trans {H H1 H2 : Hp} (a : Same H H1) (b : Same H1 H2) : Same H H2 := fun c o h => b c o (a c o h)
theorem Same.free {H H' : Hp} (e : Same H H') {l : Addr} (h : H' l = Option.none) : H l = Option.none := by
  cases q : H l with
  | none => rfl
  | some o =>
    rw [e l o q] at h
    cases h
theorem Same.seq {K : PySem.W.Frag} {H H' : Hp} {a : Addr} {xs : List V} (e : Same H H') (h : SqL K H a xs) : SqL K H' a xs := by
  rcases h with (h | ⟨o, h⟩) | h
  · exact .inl (.inl (e _ _ h))
  · exact .inl (.inr ⟨o, e _ _ h⟩)
  · exact .inr h
end L2
set_option maxRecDepth 100000
namespace L3
open PySem
noncomputable def closL (cells : List (Str × Addr)) : List (Str × NameKind) → List (Str × Addr) → List (Str × Addr)
  | [], cs => cs
  | (n, k) :: r, cs => closL cells r (if k == .free then (match cells.lookup n with | some c => (n, c) :: cs | none => cs) else cs)
theorem closureFor_eq {scope : Scope} {env : Env} (h : ∀ x ∈ scope.names, x.2 = .free → (env.cells.lookup x.1).isSome = true) : closureFor scope env = pure (closL env.cells scope.names []) := by
  unfold closureFor
  dsimp only
  generalize scope.names = names at h ⊢
  generalize ([] : List (Str × Addr)) = cs
  induction names generalizing cs with
  | nil => rfl
  | cons x r ih =>
    obtain ⟨n, k⟩ := x
    have ih' := fun cs => ih (fun y hy => h y (List.mem_cons_of_mem _ hy)) cs
    rw [List.forIn_cons]
    by_cases hk : (k == NameKind.free) = true
    · have hs := h (n, k) List.mem_cons_self (by simpa using hk)
      obtain ⟨c, hc⟩ := Option.isSome_iff_exists.mp hs
      have hc' : env.cells.lookup n = some c := hc
      have e1 : cellOf env n = pure c := by unfold cellOf; rw [hc']
      simp only [hk, if_true, e1, closL, hc']
      exact ih' _
    · have hk' : (k == NameKind.free) = false := by simpa using hk
      simp only [hk', Bool.false_eq_true, if_false, closL]
      exact ih' _
theorem closL_lookup {cells : List (Str × Addr)} {x : Str} {c : Addr} : ∀ {names : List (Str × NameKind)} {cs : List (Str × Addr)}, (∀ c, cs.lookup x = some c → cells.lookup x = some c) → (closL cells names cs).lookup x = some c → cells.lookup x = some c
  | [], _, h, e => h c e
  | (n, k) :: r, cs, h, e => by
    unfold closL at e
    refine closL_lookup (names := r) (fun c' e' => ?_) e
    by_cases hk : (k == NameKind.free) = true
    · rw [if_pos hk] at e'
      cases hc : cells.lookup n with
      | none => rw [hc] at e'; exact h c' e'
      | some d =>
        rw [hc] at e'
        by_cases hx : (x == n) = true
        · have : x = n := by simpa using hx
          subst this
          simp only [List.lookup_cons, beq_self_eq_true] at e'
          cases e'
          exact hc
        · have hx' : (x == n) = false := by simpa using hx
          simp only [List.lookup_cons, hx'] at e'
          exact h c' e'
    · rw [if_neg hk] at e'
      exact h c' e'
theorem closL_keep {cells : List (Str × Addr)} {x : Str} : ∀ {names : List (Str × NameKind)} {cs : List (Str × Addr)}, (∃ c, cs.lookup x = some c) → ∃ c, (closL cells names cs).lookup x = some c
  | [], _, h => h
  | (n, k) :: r, cs, h => by
    unfold closL
    refine closL_keep (names := r) ?_
    by_cases hk : (k == NameKind.free) = true
    · rw [if_pos hk]
      cases hc : cells.lookup n with
      | none => exact h
      | some d =>
        by_cases hx : (x == n) = true
        · exact ⟨d, by simp only [List.lookup_cons, hx]⟩
        · have hx' : (x == n) = false := by simpa using hx
          simp only [List.lookup_cons, hx']
          exact h
    · rw [if_neg hk]; exact h
theorem closL_has {cells : List (Str × Addr)} {x : Str} {d : Addr} (hd : cells.lookup x = some d) : ∀ {names : List (Str × NameKind)} {cs : List (Str × Addr)}, (x, NameKind.free) ∈ names → ∃ c, (closL cells names cs).lookup x = some c
  | [], _, h => nomatch h
  | (n, k) :: r, cs, h => by
    unfold closL
    rcases List.mem_cons.mp h with e | e
    · cases e
      refine closL_keep (names := r) ⟨d, ?_⟩
      rw [if_pos (by rfl), hd]
      simp only [List.lookup_cons, beq_self_eq_true]
    · exact closL_has hd e
end L3
namespace L3
open PySem
open Sem (wp)
section
variable {prog : Program} {w : World} {A : Around} {R : Result → Shared → Prop} {s : Shared}
noncomputable abbrev testsOf (ifs : List Expr) (env : Env) : Sem Bool := forIn ifs true fun c r => if r = true then do let ok ← isTrue c env (eval c env); pure (ForInStep.yield ok) else pure (ForInStep.yield r)
theorem comp_loop {elt tg iter : Expr} {ifs : List Expr} {scope : Scope} {pos : Pos} {it acc : Value} {env : Env} (I : Nat → Shared → Prop)
    (turn : ∀ n s, I n s → wpAny (model prog w) A (pyNext it) (fun r s1 => match r with
      | none => R (.ok .next) s1
      | some v => wpAny (model prog w) A (letOwnedTupleGo tg it v) (fun _ s2 => wpAny (model prog w) A (assign tg env v) (fun _ s3 => wpAny (model prog w) A (testsOf ifs env) (fun ok s4 =>
          if ok = true then wpAny (model prog w) A (eval elt env) (fun x s5 => wpAny (model prog w) A (call (.builtin "list.append") [acc, x]) (fun _ s6 => ∃ m, m < n ∧ I m s6) (fun _ _ => False) s5) (fun _ _ => False) s4
          else ∃ m, m < n ∧ I m s4) (fun _ _ => False) s3) (fun _ _ => False) s2) (fun _ _ => False) s1) (fun _ _ => False) s)
    (n : Nat) (h : I n s) : codeAny (model prog w) A (.compLoop (.ListComp elt [⟨tg, iter, ifs, 0⟩] scope pos) 0 it acc env) R s := by
  refine codeAny_loop rfl I (fun n s hI => ?_) n h
  show wpAny _ A ((compTurn (.ListComp elt [⟨tg, iter, ifs, 0⟩] scope pos) 0 it acc env).onRaise (fun x => do noteFrame x env; theTreesLotGoes x)) _ _ s
  refine wpAny_noted ?_
  rw [compTurn_list]
  refine wpAny_bind (wpAny_standAt (wpAny_bind (wpAny_mono (turn n s hI) (fun r s1 h1 => ?_) fun _ _ z => z.elim)))
  cases r with
  | none => exact wpAny_pure h1
  | some v =>
    refine wpAny_bind (wpAny_mono h1 (fun _ s2 h2 => ?_) fun _ _ z => z.elim)
    refine wpAny_bind (wpAny_mono h2 (fun _ s3 h3 => wpAny_bind (wpAny_mono h3 (fun ok s4 h4 => ?_) fun _ _ z => z.elim)) fun _ _ z => z.elim)
    cases ok with
    | false => exact wpAny_pure ⟨rfl, h4⟩
    | true =>
      refine wpAny_bind (wpAny_bind (wpAny_mono h4 (fun x s5 h5 => wpAny_bind (wpAny_mono h5 (fun _ s6 h6 => wpAny_pure (wpAny_pure ⟨rfl, h6⟩)) fun _ _ z => z.elim)) fun _ _ z => z.elim))
end
end L3
namespace L3
open PySem
noncomputable def compOk (sc0 scope : Scope) (N N' : List Str) (sh : List Nat) : Bool :=
  (scope.kind == .function) && (scope.names.all fun y => y.2 != .cell && ((y.2 != .local || scope.names.lookup y.1 == some .local) && (y.2 != .free || sc0.names.lookup y.1 == some .cell))) &&
    ((N'.take N.length == N) && N.zipIdx.all fun p => scope.names.lookup p.1 != some .local || sh.contains p.2)
structure CompParts (sc0 scope : Scope) (N N' : List Str) (sh : List Nat) : Prop where
  kind : scope.kind = .function
  cell : ∀ y ∈ scope.names, y.2 ≠ .cell
  loc : ∀ y ∈ scope.names, y.2 = .local → scope.names.lookup y.1 = some .local
  free : ∀ y ∈ scope.names, y.2 = .free → sc0.names.lookup y.1 = some .cell
  pre : N'.take N.length = N
  shad : ∀ (i : Nat) (x : Str), N[i]? = some x → scope.names.lookup x = some .local → i ∈ sh
theorem compOk_parts {sc0 scope : Scope} {N N' : List Str} {sh : List Nat} (h : compOk sc0 scope N N' sh = true) : CompParts sc0 scope N N' sh := by
  unfold compOk at h
  rw [Bool.and_eq_true, Bool.and_eq_true, Bool.and_eq_true] at h
  obtain ⟨⟨h1, h2⟩, h3, h4⟩ := h
  rw [List.all_eq_true] at h2 h4
  have q : ∀ y ∈ scope.names, y.2 ≠ .cell ∧ (y.2 = .local → scope.names.lookup y.1 = some .local) ∧ (y.2 = .free → sc0.names.lookup y.1 = some .cell) := fun y hy => by
    have := h2 y hy
    rw [Bool.and_eq_true, Bool.and_eq_true] at this
    obtain ⟨a, b, c⟩ := this
    refine ⟨by simpa using a, fun e => ?_, fun e => ?_⟩
    · rw [e] at b; simpa using b
    · rw [e] at c; simpa using c
  refine ⟨by simpa using h1, fun y hy => (q y hy).1, fun y hy => (q y hy).2.1, fun y hy => (q y hy).2.2, by simpa using h3, fun i x e l => ?_⟩
  have := h4 (x, i) (by rw [List.mem_zipIdx_iff_getElem?]; simpa using e)
  simp only [l] at this
  simpa using this
theorem relab_inv {env : Env} {x : Str} {k : NameKind} : ∀ {names : List (Str × NameKind)}, (names.map fun (n, k) => if (k == NameKind.free && env.scope.kind == .function && env.kindOf n == some .cell) then (n, NameKind.cell) else (n, k)).lookup x = some k →
    ∃ k0, names.lookup x = some k0 ∧ (k = k0 ∨ (k0 = .free ∧ k = .cell))
  | [], h => by simp at h
  | (n, k1) :: r, h => by
    have ih := @relab_inv env x k r
    rw [List.map_cons] at h
    dsimp only at h
    by_cases hx : (x == n) = true
    · refine ⟨k1, by simp only [List.lookup_cons, hx], ?_⟩
      by_cases hc : (k1 == NameKind.free && env.scope.kind == .function && env.kindOf n == some .cell) = true
      · rw [if_pos hc] at h
        simp only [List.lookup_cons, hx] at h
        have : k1 = .free := by
          rw [Bool.and_eq_true, Bool.and_eq_true] at hc
          simpa using hc.1.1
        exact .inr ⟨this, (Option.some.inj h).symm⟩
      · rw [if_neg hc] at h
        simp only [List.lookup_cons, hx] at h
        exact .inl (Option.some.inj h).symm
    · have hx' : (x == n) = false := by simpa using hx
      by_cases hc : (k1 == NameKind.free && env.scope.kind == .function && env.kindOf n == some .cell) = true
      · rw [if_pos hc] at h
        simp only [List.lookup_cons, hx'] at h ⊢
        exact ih h
      · rw [if_neg hc] at h
        simp only [List.lookup_cons, hx'] at h ⊢
        exact ih h
theorem mem_of_look {x : Str} {k : NameKind} : ∀ {names : List (Str × NameKind)}, names.lookup x = some k → (x, k) ∈ names
  | [], h => by simp at h
  | (n, k1) :: r, h => by
    by_cases hx : (x == n) = true
    · have e : x = n := by simpa using hx
      subst e
      simp only [List.lookup_cons, beq_self_eq_true] at h
      cases h
      exact List.mem_cons_self
    · have hx' : (x == n) = false := by simpa using hx
      simp only [List.lookup_cons, hx'] at h
      exact List.mem_cons_of_mem _ (mem_of_look h)
noncomputable def blank {α : Type} (sh : List Nat) (σ : List (Option α)) : List (Option α) := sh.foldl (fun σ i => σ.set i none) σ
theorem blank_length {α : Type} : ∀ (sh : List Nat) (σ : List (Option α)), (blank sh σ).length = σ.length
  | [], _ => rfl
  | j :: sh, σ => by
    show (blank sh (σ.set j none)).length = _
    rw [blank_length sh, List.length_set]
theorem blank_get {α : Type} {i : Nat} {v : α} : ∀ {sh : List Nat} {σ : List (Option α)}, (blank sh σ)[i]? = some (some v) → i ∉ sh ∧ σ[i]? = some (some v)
  | [], σ, h => ⟨by simp, h⟩
  | j :: sh, σ, h => by
    have h' : (blank sh (σ.set j none))[i]? = some (some v) := h
    obtain ⟨h1, h2⟩ := blank_get h'
    by_cases e : j = i
    · subst e
      rw [List.getElem?_set] at h2
      simp at h2
    · rw [List.getElem?_set_ne e] at h2
      exact ⟨fun z => (List.mem_cons.mp z).elim (fun q => e q.symm) h1, h2⟩
end L3
namespace L3
open PySem
open Sem (wp)
section
variable {prog : Program} {w : World} {A : Around} {E : Value → Shared → Prop} {s : Shared}
structure AtT (it t : Addr) (xs : Array Value) (i : Nat) (h : Heap) : Prop where
  iter : h.IsTupleIter it t i
  tup : h.IsTuple t xs
theorem AtT.move {it t b : Addr} {xs : Array Value} {i : Nat} {h h' : Heap} (a : AtT it t xs i h) (k : Heap.ExtBut b h h') (h1 : it ≠ b) (h2 : t ≠ b) : AtT it t xs i h' := ⟨a.iter.extBut k h1, a.tup.extBut k h2⟩
theorem AtT.keeps {it t : Addr} {xs : Array Value} {i : Nat} {h h' : Heap} (a : AtT it t xs i h) (k1 : ∀ o, h.get? it = some o → h'.get? it = some o) (k2 : ∀ o, h.get? t = some o → h'.get? t = some o) : AtT it t xs i h' :=
  ⟨a.iter.at k1, let ⟨o, ho, r⟩ := a.tup; ⟨o, k2 o ho, r⟩⟩
theorem tnext_item {it t : Addr} {i : Nat} {xs : Array Value} {x : Value} {Q : Value → Shared → Prop} (a : AtT it t xs i s.heap) (hne : t ≠ it) (hx : xs[i]? = some x)
    (hQ : ∀ h', AtT it t xs (i + 1) h' → Heap.SameBut it s.heap h' → Q x { s with heap := h' }) : wpAny (model prog w) A (Builtin.SmallTypes.nextOf (.ref it)) Q E s := by
  obtain ⟨hit, ht⟩ := a
  have ht0 := ht
  obtain ⟨o, ho, hc, hd⟩ := id hit
  obtain ⟨ol, hol, _, nl, hdl⟩ := ht
  unfold Builtin.SmallTypes.nextOf
  refine wpAny_bind (wpAny_callSpecial?_slot (name := Str.ofString "__next__") hit.typeIs F.slot_tuple_iterator_next (wpAny_call_entry F.slot_tuple_iterator_next hit.typeIs F.entry_tuple_iterator_next ?_ (F.args_tuple_iterator_next_1 _)))
  show wpAny _ _ (field (.ref it) 0 >>= _) _ _ s
  refine wpAny_bind (wpAny_field ho hd (x := .ref t) rfl ?_)
  show wpAny _ _ (if (Value.ref t == Value.none) = true then _ else _) _ _ s
  rw [if_neg (show ¬ ((Value.ref t == Value.none) = true) from Bool.false_ne_true)]
  show wpAny _ _ (field (.ref it) 1 >>= _) _ _ s
  refine wpAny_bind (wpAny_field ho hd (x := .int i 0) rfl ?_)
  show wpAny _ _ (seqItems? (.ref t) >>= _) _ _ s
  refine wpAny_bind (wpAny_seqItems hol hdl ?_)
  simp only [Int.toNat_natCast, hx]
  refine wpAny_bind (wpAny_setField ho hd (by simp) (wpAny_pure ⟨x, rfl, wpAny_pure (hQ _ ⟨?_, ht0.extBut (Heap.SameBut.update ..).extBut hne⟩ (Heap.SameBut.update ..))⟩))
  refine ⟨_, Heap.get?_update_self _ ho (Obj.isFreed_of_fields (Obj.data_mapFields hd _)), (Obj.cls_mapFields ..).trans hc, ?_⟩
  rw [Obj.data_mapFields hd]; simp [rawInt]
theorem tnext_end {it t : Addr} {i : Nat} {xs : Array Value} {Q : Value → Shared → Prop} (hh : A.handled = none) (a : AtT it t xs i s.heap) (hx : xs[i]? = none)
    (hE : ∀ h' e, Heap.ExtBut it s.heap h' → (∃ o, h'.get? e = some o ∧ o.cls = .type "StopIteration") → E (.ref e) { s with heap := h' }) : wpAny (model prog w) A (Builtin.SmallTypes.nextOf (.ref it)) Q E s := by
  obtain ⟨hit, ht⟩ := a
  obtain ⟨o, ho, hc, hd⟩ := id hit
  obtain ⟨ol, hol, _, nl, hdl⟩ := ht
  unfold Builtin.SmallTypes.nextOf
  refine wpAny_bind (wpAny_callSpecial?_slot (name := Str.ofString "__next__") hit.typeIs F.slot_tuple_iterator_next (wpAny_call_entry F.slot_tuple_iterator_next hit.typeIs F.entry_tuple_iterator_next ?_ (F.args_tuple_iterator_next_1 _)))
  show wpAny _ _ (field (.ref it) 0 >>= _) _ _ s
  refine wpAny_bind (wpAny_field ho hd (x := .ref t) rfl ?_)
  show wpAny _ _ (if (Value.ref t == Value.none) = true then _ else _) _ _ s
  rw [if_neg (show ¬ ((Value.ref t == Value.none) = true) from Bool.false_ne_true)]
  show wpAny _ _ (field (.ref it) 1 >>= _) _ _ s
  refine wpAny_bind (wpAny_field ho hd (x := .int i 0) rfl ?_)
  show wpAny _ _ (seqItems? (.ref t) >>= _) _ _ s
  refine wpAny_bind (wpAny_seqItems hol hdl ?_)
  simp only [Int.toNat_natCast, hx]
  refine wpAny_bind (wpAny_rule (wpAny_bind (wpAny_setField ho hd (by simp) ?_)))
  show wpAny _ _ (newExc (.type "StopIteration") [] >>= _) _ _ _
  refine wpAny_bind ?_
  simp only [newExc, newTuple]
  refine wpAny_bind (wpAny_newObj_type ?_ (by size_fits))
  refine wpAny_bind (m := firstArgMember _ _) (wpAny_of_eq (a := Value.none) (by first | rfl | (simp only [firstArgMember]; rfl)) ?_)
  refine wpAny_newObj_type ?_ (by size_fits)
  simp only [raiseNew]
  refine wpAny_bind (wpAny_handled ?_)
  first | rw [show A.in1.handled = none from hh] | rw [hh]
  refine wpAny_bind (wpAny_pure (wpAny_throw ?_))
  exact hE _ _ (((Heap.SameBut.update ..).extBut.push _).push _) ⟨_, Heap.get?_push_size _ rfl, rfl⟩
theorem enumT_next {e it t : Addr} {i : Nat} {xs : Array Value} {x old : Value} {Q : Value → Shared → Prop} (he : IsEnum s.heap e it i old) (a : AtT it t xs i s.heap) (hx : xs[i]? = some x) (hne : e ≠ it) (hte : t ≠ e) (hti : t ≠ it)
    (hQ : ∀ h', IsEnumOut h' e it ((i : Int) + 1) x s.heap.objs.size → AtT it t xs (i + 1) h' → h'.get? s.heap.objs.size = some { cls := .type "tuple", data := .seq #[.int i s.toks, x] } → h'.objs.size = s.heap.objs.size + 1 →
      (∀ b o, b ≠ e → b ≠ it → s.heap.get? b = some o → h'.get? b = some o) → Q (.ref s.heap.objs.size) { s with heap := h', toks := s.toks + 1 }) :
    wpAny (model prog w) A (Builtin.«enumerate.__next__» ⟨[.ref e], []⟩) (fun fin s' => ∃ v, fin = .done (.ret v) ∧ Q v s') E s := by
  obtain ⟨hp, g, d, tk, os⟩ := s
  show wpAny _ _ (field (.ref e) 2 >>= _) _ _ _
  refine wpAny_bind (wpAny_field he rfl (x := .ref it) rfl ?_)
  refine wpAny_bind (tnext_item a hti hx fun h1 a1 k1 => ?_)
  replace k1 : Heap.SameBut it hp h1 := k1
  have e1 : IsEnum h1 e it i old := (k1.2 e hne).trans he
  show wpAny _ _ (field (.ref e) 3 >>= _) _ _ ⟨h1, g, d, tk, os⟩
  refine wpAny_bind (wpAny_field e1 rfl (x := rawInt i) rfl ?_)
  show wpAny _ _ (field (.ref e) 4 >>= _) _ _ ⟨h1, g, d, tk, os⟩
  refine wpAny_bind (wpAny_field e1 rfl (x := .none) rfl ?_)
  show wpAny _ _ (mkInt i >>= _) _ _ ⟨h1, g, d, tk, os⟩
  refine wpAny_bind (wpAny_mkInt ?_)
  show wpAny _ _ (setField (.ref e) 3 (rawInt ((i : Int) + 1)) >>= _) _ _ ⟨h1, g, d, tk + 1, os⟩
  refine wpAny_bind (wpAny_setField_rec e1 (by simp) fun h2 e2 k2 => ?_)
  replace k2 : Heap.SameBut e h1 h2 := k2
  replace e2 : IsEnum h2 e it ((i : Int) + 1) old := e2
  show wpAny _ _ (setField (.ref e) 4 .none >>= _) _ _ ⟨h2, g, d, tk + 1, os⟩
  refine wpAny_bind (wpAny_setField_rec e2 (by simp) fun h3 e3 k3 => ?_)
  replace k3 : Heap.SameBut e h2 h3 := k3
  replace e3 : IsEnum h3 e it ((i : Int) + 1) old := e3
  show wpAny _ _ (newTuple [.int i tk, x] >>= _) _ _ ⟨h3, g, d, tk + 1, os⟩
  refine wpAny_bind (wpAny_newTuple ?_)
  have e4 : IsEnum (h3.push { cls := .type "tuple", data := .seq #[.int i tk, x] }) e it ((i : Int) + 1) old := Heap.get?_push_of_some _ e3
  generalize q4 : h3.push { cls := .type "tuple", data := .seq #[.int i tk, x] } = h4 at e4
  have sz : h3.objs.size = hp.objs.size := by rw [k3.1, k2.1, k1.1]
  have el : e < hp.objs.size := Heap.lt_size he
  have t4 : h4.get? hp.objs.size = some { cls := .type "tuple", data := .seq #[.int i tk, x] } := by rw [← q4, ← sz]; exact Heap.get?_push_size _ rfl
  have z4 : h4.objs.size = hp.objs.size + 1 := by rw [← q4, Heap.size_push, sz]
  have k4 : ∀ b o, b ≠ e → b ≠ it → hp.get? b = some o → h4.get? b = some o := fun b o n1 n2 hb => by
    rw [← q4]; exact Heap.get?_push_of_some _ (k3.extBut b o n1 (k2.extBut b o n1 (k1.extBut b o n2 hb)))
  have a4 : AtT it t xs (i + 1) h4 := by
    rw [← q4]
    exact ((a1.move k2.extBut hne.symm hte).move k3.extBut hne.symm hte).keeps (fun o ho => Heap.get?_push_of_some _ ho) fun o ho => Heap.get?_push_of_some _ ho
  show wpAny _ _ (Builtin.SmallTypes.ownedTupleIsFree (.ref e) >>= _) _ _ ⟨h4, g, d, tk + 1, os⟩
  rw [sz]
  clear q4 e3 k3 e2 k2 e1 k1 a1 sz h3 h2 h1
  refine wpAny_bind ?_
  unfold Builtin.SmallTypes.ownedTupleIsFree
  refine wpAny_bind (wpAny_field e4 rfl (x := .none) rfl (wpAny_pure ?_))
  simp only [if_true]
  refine wpAny_bind (wpAny_rule ?_)
  refine wpAny_bind (wpAny_field e4 rfl (x := old) rfl ?_)
  refine wpAny_bind (wpAny_setField_rec e4 (by simp) fun h5 e5 k5 => ?_)
  replace k5 : Heap.SameBut e h4 h5 := k5
  replace e5 : IsEnum h5 e it ((i : Int) + 1) x := e5
  show wpAny _ _ (Builtin.SmallTypes.ownedTupleHandOut (.ref e) (.ref hp.objs.size) >>= _) _ _ ⟨h5, g, d, tk + 1, os⟩
  refine wpAny_bind ?_
  unfold Builtin.SmallTypes.ownedTupleHandOut
  refine wpAny_bind (wpAny_setField_rec e5 (by simp) fun h6 e6 k6 => ?_)
  replace k6 : Heap.SameBut e h5 h6 := k6
  replace e6 : IsEnumOut h6 e it ((i : Int) + 1) x hp.objs.size := e6
  refine wpAny_setField_rec e6 (by simp) fun h7 e7 k7 => ?_
  replace k7 : Heap.SameBut e h6 h7 := k7
  replace e7 : IsEnumOut h7 e it ((i : Int) + 1) x hp.objs.size := e7
  have up : ∀ b o, b ≠ e → h4.get? b = some o → h7.get? b = some o := fun b o n q => k7.extBut b o n (k6.extBut b o n (k5.extBut b o n q))
  refine wpAny_bind (wpAny_letGo (wpAny_pure ⟨_, rfl, hQ h7 e7 (a4.keeps (fun o q => up _ o hne.symm q) fun o q => up _ o hte q) (up _ _ (Nat.ne_of_gt el) t4) ?_ fun b o n1 n2 q => up b o n1 (k4 b o n1 n2 q)⟩))
  rw [k7.1, k6.1, k5.1, z4]
theorem enumT_pyNext {e it t : Addr} {i : Nat} {xs : Array Value} {x old : Value} {Q : Option Value → Shared → Prop} (he : IsEnum s.heap e it i old) (a : AtT it t xs i s.heap) (hx : xs[i]? = some x) (hne : e ≠ it) (hte : t ≠ e) (hti : t ≠ it)
    (hQ : ∀ h', IsEnumOut h' e it ((i : Int) + 1) x s.heap.objs.size → AtT it t xs (i + 1) h' → h'.get? s.heap.objs.size = some { cls := .type "tuple", data := .seq #[.int i s.toks, x] } → h'.objs.size = s.heap.objs.size + 1 →
      (∀ b o, b ≠ e → b ≠ it → s.heap.get? b = some o → h'.get? b = some o) → Q (some (.ref s.heap.objs.size)) { s with heap := h', toks := s.toks + 1 }) :
    wpAny (model prog w) A (pyNext (.ref e)) Q E s := by
  have hT : s.TypeIs (.ref e) "enumerate" := ⟨_, he, rfl⟩
  unfold pyNext
  exact wpAny_bind (wpAny_attempt (wpAny_callSpecial?_slot (name := Str.ofString "__next__") hT F.slot_enumerate_next (wpAny_call_entry F.slot_enumerate_next hT F.entry_enumerate_next
    (enumT_next he a hx hne hte hti fun h' p1 p2 p3 p4 p5 => wpAny_pure (hQ h' p1 p2 p3 p4 p5)) (F.args_enumerate_next_1 _))))
theorem enumT_pyEnd {e it t : Addr} {i : Nat} {xs : Array Value} {old : Value} {Q : Option Value → Shared → Prop} (hh : A.handled = none) (he : IsEnum s.heap e it i old) (a : AtT it t xs i s.heap) (hx : xs[i]? = none)
    (hQ : ∀ h', Heap.ExtBut it s.heap h' → Q none { s with heap := h' }) : wpAny (model prog w) A (pyNext (.ref e)) Q E s := by
  have hT : s.TypeIs (.ref e) "enumerate" := ⟨_, he, rfl⟩
  unfold pyNext
  refine wpAny_bind (wpAny_attempt (wpAny_callSpecial?_slot (name := Str.ofString "__next__") hT F.slot_enumerate_next (wpAny_call_entry F.slot_enumerate_next hT F.entry_enumerate_next ?_ (F.args_enumerate_next_1 _))))
  show wpAny _ _ (field (.ref e) 2 >>= _) _ _ _
  refine wpAny_bind (wpAny_field he rfl (x := .ref it) rfl ?_)
  refine wpAny_bind (tnext_end hh a hx fun h' x he' hx' => ?_)
  obtain ⟨o, ho, hc⟩ := hx'
  exact wpAny_bind (wpAny_isInstance (T := "StopIteration") (b := true) ⟨o, ho, hc⟩ isSubtype_stop (wpAny_pure (hQ _ he')))
end
end L3
namespace L3
open PySem
open Sem (wp)
open AutoSeq1 (wpAny_loadPart')
set_option maxRecDepth 100000
noncomputable abbrev tupIt (t : Addr) : Obj := { cls := .type "tuple_iterator", data := .fields #[.ref t, .int 0 0] }
theorem enumT_new (t : Addr) (xs : Array Value) (n : Nat) (dct : Option Addr) (sl : Array (Option Value)) :
    Meets (Builtin.«enumerate.__new__» ⟨[.type "enumerate", .ref t], []⟩) (fun _ R s => s.heap.get? t = some { cls := .type "tuple", dict := dct, data := .seq xs n, slots := sl } ∧
      R (.ok (.ret (.ref (s.heap.push (tupIt t)).objs.size))) { s with heap := (s.heap.push (tupIt t)).push { cls := .type "enumerate", data := .fields #[.none, .bool false, .ref s.heap.objs.size, rawInt 0, .none, .none] } }) :=
  .of_wp fun prog w A R s h => by
    obtain ⟨hp, g, d, tk, os⟩ := s; obtain ⟨ht, h⟩ := h
    have hsub := sub_enumerate
    have hT : Heap.IsTuple (Shared.heap ⟨hp, g, d, tk, os⟩) t xs := ⟨_, ht, rfl, n, rfl⟩
    wp_walk using wpAny_loadPart' ht
    refine wpAny_stack_any fun st => wpAny_pure ?_
    split
    · rename_i c _ _ _ _ _
      cases (c == Value.type "enumerate")
      · wp_walk using wpAny_loadPart' ht, wpAny_pyIter_tuple hT
        exact ⟨_, rfl, h⟩
      · wp_walk using wpAny_loadPart' ht, wpAny_pyIter_tuple hT
        exact ⟨_, rfl, h⟩
    · wp_walk using wpAny_loadPart' ht, wpAny_pyIter_tuple hT
      exact ⟨_, rfl, h⟩
section
variable {prog : Program} {w : World} {A : Around} {E : Value → Shared → Prop} {s : Shared}
theorem call_enumT {t : Addr} {xs : Array Value} {Q : Value → Shared → Prop} (hT : s.heap.IsTuple t xs)
    (h : ∀ h', IsEnum h' (s.heap.objs.size + 1) s.heap.objs.size 0 .none → AtT s.heap.objs.size t xs 0 h' → h'.objs.size = s.heap.objs.size + 2 → (∀ b o, s.heap.get? b = some o → h'.get? b = some o) →
      Q (.ref (s.heap.objs.size + 1)) { s with heap := h' }) : wpAny (model prog w) A (call (.type "enumerate") [.ref t]) Q E s := by
  have hT0 := hT
  obtain ⟨⟨c, dct, dt, sl⟩, hl, hc, n, hd⟩ := hT
  replace hc : c = .type "tuple" := hc
  replace hd : dt = .seq xs n := hd
  subst hc hd
  refine callType_new F.called_enumerate (by decide) (F.typeCall_enumerate_1 _) (F.newCall_enumerate_1 _) (fun obj => F.args_object_init_2 obj _) F.entry_enumerate_new (enumT_new t xs n dct sl) ⟨hl, ?_⟩
  have hz : (s.heap.push (tupIt t)).objs.size = s.heap.objs.size + 1 := Heap.size_push ..
  show _ ∧ _
  rw [hz]
  have he : IsEnum ((s.heap.push (tupIt t)).push { cls := .type "enumerate", data := .fields #[.none, .bool false, .ref s.heap.objs.size, rawInt 0, .none, .none] }) (s.heap.objs.size + 1) s.heap.objs.size 0 .none := by
    have q := Heap.get?_push_size (s.heap.push (tupIt t)) (o := { cls := .type "enumerate", data := .fields #[.none, .bool false, .ref s.heap.objs.size, rawInt 0, .none, .none] }) rfl
    rw [hz] at q; exact q
  exact ⟨⟨_, he, rfl⟩, h _ he ⟨⟨_, Heap.get?_push_of_some _ (Heap.get?_push_size _ rfl), rfl, rfl⟩, (hT0.push _).push _⟩ (by rw [Heap.size_push, hz]) fun b o x => Heap.get?_push_of_some _ (Heap.get?_push_of_some _ x)⟩
structure ZipAt (z TI TO i1 i2 t1 t2 : Addr) (xs ys : Array Value) (i : Nat) (f0 : Value) (h : Heap) : Prop where
  z : IsZip h z TI TO f0
  TI : IsPair h TI (.ref i1) (.ref i2)
  TO : ∃ a b, IsPair h TO a b
  one : AtT i1 t1 xs i h
  two : AtT i2 t2 ys i h
theorem ZipAt.keeps {z TI TO i1 i2 t1 t2 : Addr} {xs ys : Array Value} {i : Nat} {f0 : Value} {h h' : Heap} (Z : ZipAt z TI TO i1 i2 t1 t2 xs ys i f0 h) (k : ∀ b ∈ [z, TI, TO, i1, i2], ∀ o, h.get? b = some o → h'.get? b = some o)
    (k1 : ∀ o, h.get? t1 = some o → h'.get? t1 = some o) (k2 : ∀ o, h.get? t2 = some o → h'.get? t2 = some o) : ZipAt z TI TO i1 i2 t1 t2 xs ys i f0 h' :=
  ⟨k z (by simp) _ Z.z, k TI (by simp) _ Z.TI, let ⟨a, b, q⟩ := Z.TO; ⟨a, b, k TO (by simp) _ q⟩, Z.one.keeps (k i1 (by simp)) k1, Z.two.keeps (k i2 (by simp)) k2⟩
theorem zipT_next {z TI TO i1 i2 t1 t2 : Addr} {xs ys : Array Value} {i : Nat} {x y : Value} {Q : Value → Shared → Prop} (D : ZipApart z TI TO i1 i2 t1 t2) (Z : ZipAt z TI TO i1 i2 t1 t2 xs ys i .none s.heap) (hx : xs[i]? = some x) (hy : ys[i]? = some y)
    (hQ : ∀ h', ZipAt z TI TO i1 i2 t1 t2 xs ys (i + 1) (rawInt s.heap.objs.size) h' → IsPair h' s.heap.objs.size x y → h'.objs.size = s.heap.objs.size + 1 →
      (∀ c o, c ≠ z → c ≠ TO → c ≠ i1 → c ≠ i2 → s.heap.get? c = some o → h'.get? c = some o) → Q (.ref s.heap.objs.size) { s with heap := h' }) :
    wpAny (model prog w) A (Builtin.«zip.__next__» ⟨[.ref z], []⟩) (fun fin s' => ∃ v, fin = .done (.ret v) ∧ Q v s') E s := by
  obtain ⟨hz, hTI, ⟨a, b, hTO⟩, h1, h2⟩ := Z
  show wpAny _ _ (field (.ref z) 2 >>= _) _ _ _
  refine wpAny_bind (wpAny_field hz rfl (x := .bool false) rfl ?_)
  show wpAny _ _ (field (.ref z) 3 >>= _) _ _ _
  refine wpAny_bind (wpAny_field hz rfl (x := .ref TI) rfl ?_)
  refine wpAny_bind (wpAny_seqItems hTI rfl ?_)
  show wpAny _ _ (Builtin.SmallTypes.ownedTupleIsFree (.ref z) >>= _) _ _ _
  refine wpAny_bind ?_
  unfold Builtin.SmallTypes.ownedTupleIsFree
  refine wpAny_bind (wpAny_field hz rfl (x := .none) rfl (wpAny_pure ?_))
  simp only [if_true]
  refine wpAny_bind (wpAny_rule (wpAny_bind (wpAny_field hz rfl (x := .ref TO) rfl (wpAny_bind (wpAny_setField_rec hz (by simp) fun g1 z1 k1 => ?_)))))
  replace z1 : IsZip g1 z TI TO .ellipsis := z1
  refine wpAny_bind ?_
  simp only [List.forIn_cons, List.forIn_nil, List.zipIdx_cons, List.zipIdx_nil]
  refine wpAny_bind (wpAny_bind (wpAny_onRaise ?_))
  show wpAny _ _ (Builtin.SmallTypes.nextOf (.ref i1) >>= _) _ _ _
  refine wpAny_bind (tnext_item (h1.move k1.extBut D.i1z D.l1z) D.l1i1 hx fun g2 p2 k2 => wpAny_pure ?_)
  have O2 : IsPair g2 TO a b := k2.extBut _ _ D.TOi1 (k1.extBut _ _ D.TOz hTO)
  refine wpAny_bind (wpAny_seqItems O2 rfl (wpAny_bind (wpAny_updateSeq_pair O2 fun g3 O3 k3 => ?_)))
  replace O3 : IsPair g3 TO x b := O3
  refine wpAny_bind (wpAny_letGo (wpAny_pure (wpAny_bind (wpAny_bind (wpAny_onRaise ?_)))))
  show wpAny _ _ (Builtin.SmallTypes.nextOf (.ref i2) >>= _) _ _ _
  refine wpAny_bind (tnext_item (((h2.move k1.extBut D.i2z D.l2z).move k2.extBut D.i12.symm D.l2i1).move k3.extBut D.TOi2.symm D.l2TO) D.l2i2 hy fun g4 p4 k4 => wpAny_pure ?_)
  have O4 : IsPair g4 TO x b := k4.extBut _ _ D.TOi2 O3
  refine wpAny_bind (wpAny_seqItems O4 rfl (wpAny_bind (wpAny_updateSeq_pair O4 fun g5 O5 k5 => ?_)))
  replace O5 : IsPair g5 TO x y := O5
  refine wpAny_bind (wpAny_letGo (wpAny_pure (wpAny_pure (wpAny_bind (wpAny_seqItems O5 rfl (wpAny_bind (wpAny_newTuple ?_)))))))
  have sz : g5.objs.size = s.heap.objs.size := by rw [k5.1, k4.1, k3.1, k2.1, k1.1]
  have z5 : IsZip g5 z TI TO .ellipsis := k5.extBut _ _ D.TOz.symm (k4.extBut _ _ D.i2z.symm (k3.extBut _ _ D.TOz.symm (k2.extBut _ _ D.i1z.symm z1)))
  have kp5 : ∀ c o, c ≠ z → c ≠ TO → c ≠ i1 → c ≠ i2 → s.heap.get? c = some o → g5.get? c = some o := fun c o c1 c2 c3 c4 e => k5.extBut _ _ c2 (k4.extBut _ _ c4 (k3.extBut _ _ c2 (k2.extBut _ _ c3 (k1.extBut _ _ c1 e))))
  have a5 : AtT i1 t1 xs (i + 1) g5 := ((p2.move k3.extBut D.TOi1.symm D.l1TO).move k4.extBut D.i12 D.l1i2).move k5.extBut D.TOi1.symm D.l1TO
  have b5 : AtT i2 t2 ys (i + 1) g5 := p4.move k5.extBut D.TOi2.symm D.l2TO
  have zlt : z < g5.objs.size := Heap.lt_size z5
  show wpAny _ _ (Builtin.SmallTypes.ownedTupleHandOut (.ref z) (.ref g5.objs.size) >>= _) _ _ _
  refine wpAny_bind ?_
  unfold Builtin.SmallTypes.ownedTupleHandOut
  have z6 : IsZip (g5.push { cls := .type "tuple", data := .seq #[x, y] }) z TI TO .ellipsis := Heap.get?_push_of_some _ z5
  refine wpAny_bind (wpAny_setField_rec z6 (by simp) fun g7 z7 k7 => ?_)
  replace z7 : IsZip g7 z TI TO (rawInt g5.objs.size) := z7
  refine wpAny_setField_rec z7 (by simp) fun g8 z8 k8 => ?_
  replace z8 : IsZip g8 z TI TO (rawInt g5.objs.size) := z8
  have up : ∀ c o, c ≠ z → g5.get? c = some o → g8.get? c = some o := fun c o c1 e => k8.extBut _ _ c1 (k7.extBut _ _ c1 (Heap.get?_push_of_some _ e))
  have T8 : IsPair g8 g5.objs.size x y := k8.extBut _ _ (Nat.ne_of_gt zlt) (k7.extBut _ _ (Nat.ne_of_gt zlt) (Heap.get?_push_size _ rfl))
  have s8 : g8.objs.size = g5.objs.size + 1 := by rw [k8.1, k7.1, Heap.size_push]
  rw [sz] at z8 T8 s8
  refine wpAny_pure ⟨_, rfl, ?_⟩
  show Q (.ref g5.objs.size) _
  rw [sz]
  exact hQ g8 ⟨z8, up _ _ D.TIz (kp5 _ _ D.TIz D.TITO D.TIi1 D.TIi2 hTI), ⟨x, y, up _ _ D.TOz O5⟩, a5.keeps (fun o q => up _ o D.i1z q) (fun o q => up _ o D.l1z q), b5.keeps (fun o q => up _ o D.i2z q) fun o q => up _ o D.l2z q⟩ T8 s8
    fun c o c1 c2 c3 c4 e => up c o c1 (kp5 c o c1 c2 c3 c4 e)
theorem zipT_stop {z TI TO i1 i2 t1 t2 : Addr} {xs ys : Array Value} {i : Nat} {Q : Fin → Shared → Prop} (hh : A.handled = none) (D : ZipApart z TI TO i1 i2 t1 t2) (Z : ZipAt z TI TO i1 i2 t1 t2 xs ys i .none s.heap) (hend : xs[i]? = none ∨ ys[i]? = none)
    (hE : ∀ h' e, (∀ c o, c ≠ z → c ≠ TO → c ≠ i1 → c ≠ i2 → s.heap.get? c = some o → h'.get? c = some o) → (∃ o, h'.get? e = some o ∧ o.cls = .type "StopIteration") → E (.ref e) { s with heap := h' }) :
    wpAny (model prog w) A (Builtin.«zip.__next__» ⟨[.ref z], []⟩) Q E s := by
  obtain ⟨hz, hTI, ⟨a, b, hTO⟩, h1, h2⟩ := Z
  show wpAny _ _ (field (.ref z) 2 >>= _) _ _ _
  refine wpAny_bind (wpAny_field hz rfl (x := .bool false) rfl ?_)
  show wpAny _ _ (field (.ref z) 3 >>= _) _ _ _
  refine wpAny_bind (wpAny_field hz rfl (x := .ref TI) rfl ?_)
  refine wpAny_bind (wpAny_seqItems hTI rfl ?_)
  show wpAny _ _ (Builtin.SmallTypes.ownedTupleIsFree (.ref z) >>= _) _ _ _
  refine wpAny_bind ?_
  unfold Builtin.SmallTypes.ownedTupleIsFree
  refine wpAny_bind (wpAny_field hz rfl (x := .none) rfl (wpAny_pure ?_))
  simp only [if_true]
  refine wpAny_bind (wpAny_rule (wpAny_bind (wpAny_field hz rfl (x := .ref TO) rfl (wpAny_bind (wpAny_setField_rec hz (by simp) fun g1 z1 k1 => ?_)))))
  replace z1 : IsZip g1 z TI TO .ellipsis := z1
  refine wpAny_bind ?_
  simp only [List.forIn_cons, List.forIn_nil, List.zipIdx_cons, List.zipIdx_nil]
  refine wpAny_bind (wpAny_bind (wpAny_onRaise ?_))
  show wpAny _ _ (Builtin.SmallTypes.nextOf (.ref i1) >>= _) _ _ _
  cases hx : xs[i]? with
  | none =>
    refine wpAny_bind (tnext_end hh (h1.move k1.extBut D.i1z D.l1z) hx fun g2 e k2 he => ?_)
    obtain ⟨oe, hoe, hce⟩ := he
    have z2 : IsZip g2 z TI TO .ellipsis := k2 _ _ D.i1z.symm z1
    have hez : e ≠ z := fun q => by subst q; rw [z2] at hoe; cases hoe; simp at hce
    exact wpAny_setField_rec z2 (by simp) fun g3 _ k3 => hE g3 e (fun c o c1 _ c3 _ q => k3.extBut _ _ c1 (k2 _ _ c3 (k1.extBut _ _ c1 q))) ⟨oe, k3.extBut _ _ hez hoe, hce⟩
  | some x =>
    have hy : ys[i]? = none := by rcases hend with q | q; rw [hx] at q; cases q; exact q
    refine wpAny_bind (tnext_item (h1.move k1.extBut D.i1z D.l1z) D.l1i1 hx fun g2 p2 k2 => wpAny_pure ?_)
    have O2 : IsPair g2 TO a b := k2.extBut _ _ D.TOi1 (k1.extBut _ _ D.TOz hTO)
    refine wpAny_bind (wpAny_seqItems O2 rfl (wpAny_bind (wpAny_updateSeq_pair O2 fun g3 O3 k3 => ?_)))
    refine wpAny_bind (wpAny_letGo (wpAny_pure (wpAny_bind (wpAny_bind (wpAny_onRaise ?_)))))
    show wpAny _ _ (Builtin.SmallTypes.nextOf (.ref i2) >>= _) _ _ _
    refine wpAny_bind (tnext_end hh (((h2.move k1.extBut D.i2z D.l2z).move k2.extBut D.i12.symm D.l2i1).move k3.extBut D.TOi2.symm D.l2TO) hy fun g4 e k4 he => ?_)
    obtain ⟨oe, hoe, hce⟩ := he
    have z4 : IsZip g4 z TI TO .ellipsis := k4 _ _ D.i2z.symm (k3.extBut _ _ D.TOz.symm (k2.extBut _ _ D.i1z.symm z1))
    have hez : e ≠ z := fun q => by subst q; rw [z4] at hoe; cases hoe; simp at hce
    exact wpAny_setField_rec z4 (by simp) fun g5 _ k5 => hE g5 e (fun c o c1 c2 c3 c4 q => k5.extBut _ _ c1 (k4 _ _ c4 (k3.extBut _ _ c2 (k2.extBut _ _ c3 (k1.extBut _ _ c1 q))))) ⟨oe, k5.extBut _ _ hez hoe, hce⟩
theorem zipT_pyNext {z TI TO i1 i2 t1 t2 : Addr} {xs ys : Array Value} {i : Nat} {x y : Value} {Q : Option Value → Shared → Prop} (D : ZipApart z TI TO i1 i2 t1 t2) (Z : ZipAt z TI TO i1 i2 t1 t2 xs ys i .none s.heap) (hx : xs[i]? = some x) (hy : ys[i]? = some y)
    (hQ : ∀ h', ZipAt z TI TO i1 i2 t1 t2 xs ys (i + 1) (rawInt s.heap.objs.size) h' → IsPair h' s.heap.objs.size x y → h'.objs.size = s.heap.objs.size + 1 →
      (∀ c o, c ≠ z → c ≠ TO → c ≠ i1 → c ≠ i2 → s.heap.get? c = some o → h'.get? c = some o) → Q (some (.ref s.heap.objs.size)) { s with heap := h' }) : wpAny (model prog w) A (pyNext (.ref z)) Q E s := by
  have hT : s.TypeIs (.ref z) "zip" := ⟨_, Z.z, rfl⟩
  unfold pyNext
  exact wpAny_bind (wpAny_attempt (wpAny_callSpecial?_slot (name := Str.ofString "__next__") hT F.slot_zip_next (wpAny_call_entry F.slot_zip_next hT F.entry_zip_next
    (zipT_next D Z hx hy fun h' p1 p2 p3 p4 => wpAny_pure (hQ h' p1 p2 p3 p4)) (F.args_zip_next_1 _))))
theorem zipT_pyEnd {z TI TO i1 i2 t1 t2 : Addr} {xs ys : Array Value} {i : Nat} {Q : Option Value → Shared → Prop} (hh : A.handled = none) (D : ZipApart z TI TO i1 i2 t1 t2) (Z : ZipAt z TI TO i1 i2 t1 t2 xs ys i .none s.heap) (hend : xs[i]? = none ∨ ys[i]? = none)
    (hQ : ∀ h', (∀ c o, c ≠ z → c ≠ TO → c ≠ i1 → c ≠ i2 → s.heap.get? c = some o → h'.get? c = some o) → Q none { s with heap := h' }) : wpAny (model prog w) A (pyNext (.ref z)) Q E s := by
  have hT : s.TypeIs (.ref z) "zip" := ⟨_, Z.z, rfl⟩
  unfold pyNext
  refine wpAny_bind (wpAny_attempt (wpAny_callSpecial?_slot (name := Str.ofString "__next__") hT F.slot_zip_next (wpAny_call_entry F.slot_zip_next hT F.entry_zip_next
    (zipT_stop hh D Z hend fun h' e hk he => ?_) (F.args_zip_next_1 _))))
  obtain ⟨o, ho, hc⟩ := he
  exact wpAny_bind (wpAny_isInstance (T := "StopIteration") (b := true) ⟨o, ho, hc⟩ isSubtype_stop (wpAny_pure (hQ _ hk)))
noncomputable abbrev zh1 (h : Heap) (t1 : Addr) : Heap := h.push (tupIt t1)
noncomputable abbrev zh2 (h : Heap) (t1 t2 : Addr) : Heap := (zh1 h t1).push (tupIt t2)
noncomputable abbrev zh3 (h : Heap) (t1 t2 : Addr) : Heap := (zh2 h t1 t2).push { cls := .type "tuple", data := .seq #[.ref h.objs.size, .ref (zh1 h t1).objs.size] }
noncomputable abbrev zh4 (h : Heap) (t1 t2 : Addr) : Heap := (zh3 h t1 t2).push { cls := .type "tuple", data := .seq #[.none, .none] }
noncomputable abbrev zh5 (h : Heap) (t1 t2 : Addr) : Heap := (zh4 h t1 t2).push { cls := .type "zip", data := .fields #[.none, .bool false, .bool false, .ref (zh2 h t1 t2).objs.size, .ref (zh3 h t1 t2).objs.size] }
theorem zipT_new (t1 t2 : Addr) (xs ys : Array Value) :
    Meets (Builtin.«zip.__new__» ⟨[.type "zip", .ref t1, .ref t2], []⟩) (fun _ R s => s.heap.IsTuple t1 xs ∧ s.heap.IsTuple t2 ys ∧ R (.ok (.ret (.ref (zh4 s.heap t1 t2).objs.size))) { s with heap := zh5 s.heap t1 t2 }) :=
  .of_wp fun prog w A R s h => by
    obtain ⟨hp, g, d, tk, os⟩ := s; obtain ⟨ht1, ht2, h⟩ := h
    have hsub := sub_zip
    have T1 : Heap.IsTuple (Shared.heap ⟨hp, g, d, tk, os⟩) t1 xs := ht1
    have T2 : Heap.IsTuple (Shared.heap ⟨hp.push { cls := .type "tuple_iterator", data := .fields #[.ref t1, .int 0 0] }, g, d, tk, os⟩) t2 ys := Heap.IsTuple.push ht2 _
    wp_walk using wpAny_pyIter_tuple T1, wpAny_pyIter_tuple T2
    exact ⟨_, rfl, h⟩
theorem call_zipT {t1 t2 : Addr} {xs ys : Array Value} {Q : Value → Shared → Prop} (ht1 : s.heap.IsTuple t1 xs) (ht2 : s.heap.IsTuple t2 ys)
    (h : ∀ h', ZipAt (s.heap.objs.size + 4) (s.heap.objs.size + 2) (s.heap.objs.size + 3) s.heap.objs.size (s.heap.objs.size + 1) t1 t2 xs ys 0 .none h' → h'.objs.size = s.heap.objs.size + 5 →
      (∀ c o, s.heap.get? c = some o → h'.get? c = some o) → Q (.ref (s.heap.objs.size + 4)) { s with heap := h' }) : wpAny (model prog w) A (call (.type "zip") [.ref t1, .ref t2]) Q E s := by
  refine callType_new F.called_zip (by decide) (F.typeCall_zip_2 _ _) (F.newCall_zip_2 _ _) (fun obj => F.args_object_init_3 obj _ _) F.entry_zip_new (zipT_new t1 t2 xs ys) ⟨ht1, ht2, ?_⟩
  have z1 : (zh1 s.heap t1).objs.size = s.heap.objs.size + 1 := Heap.size_push ..
  have z2 : (zh2 s.heap t1 t2).objs.size = s.heap.objs.size + 2 := by rw [Heap.size_push, z1]
  have z3 : (zh3 s.heap t1 t2).objs.size = s.heap.objs.size + 3 := by rw [Heap.size_push, z2]
  have z4 : (zh4 s.heap t1 t2).objs.size = s.heap.objs.size + 4 := by rw [Heap.size_push, z3]
  have z5 : (zh5 s.heap t1 t2).objs.size = s.heap.objs.size + 5 := by rw [Heap.size_push, z4]
  have up : ∀ c o, s.heap.get? c = some o → (zh5 s.heap t1 t2).get? c = some o := fun c o q => Heap.get?_push_of_some _ (Heap.get?_push_of_some _ (Heap.get?_push_of_some _ (Heap.get?_push_of_some _ (Heap.get?_push_of_some _ q))))
  have g5 : (zh5 s.heap t1 t2).get? (zh4 s.heap t1 t2).objs.size = some _ := Heap.get?_push_size _ rfl
  have g4 : (zh5 s.heap t1 t2).get? (zh3 s.heap t1 t2).objs.size = some _ := Heap.get?_push_of_some _ (Heap.get?_push_size _ rfl)
  have g3 : (zh5 s.heap t1 t2).get? (zh2 s.heap t1 t2).objs.size = some _ := Heap.get?_push_of_some _ (Heap.get?_push_of_some _ (Heap.get?_push_size _ rfl))
  have g2 : (zh5 s.heap t1 t2).get? (zh1 s.heap t1).objs.size = some _ := Heap.get?_push_of_some _ (Heap.get?_push_of_some _ (Heap.get?_push_of_some _ (Heap.get?_push_size _ rfl)))
  have g1 : (zh5 s.heap t1 t2).get? s.heap.objs.size = some _ := Heap.get?_push_of_some _ (Heap.get?_push_of_some _ (Heap.get?_push_of_some _ (Heap.get?_push_of_some _ (Heap.get?_push_size _ rfl))))
  show _ ∧ _
  rw [z2, z3, z4] at g5
  rw [z1, z2] at g3
  rw [z3] at g4
  rw [z1] at g2
  rw [z4]
  have T1 : (zh5 s.heap t1 t2).IsTuple t1 xs := let ⟨o, ho, r⟩ := ht1; ⟨o, up _ _ ho, r⟩
  have T2 : (zh5 s.heap t1 t2).IsTuple t2 ys := let ⟨o, ho, r⟩ := ht2; ⟨o, up _ _ ho, r⟩
  exact ⟨⟨_, g5, rfl⟩, h _ ⟨g5, g3, ⟨_, _, g4⟩, ⟨⟨_, g1, rfl, rfl⟩, T1⟩, ⟨⟨_, g2, rfl, rfl⟩, T2⟩⟩ z5 up⟩
end
end L3
namespace L3
open PySem PyProof.Rows
section
variable {prog : Program} {w : World} {A : Around} {E : Value → Shared → Prop} {s : Shared}
noncomputable def cutAt (n : Nat) (lo hi st : Option Int) : Int × Int × Nat :=
  ((Builtin.Slice.sliceAdjust lo hi (st.getD 1) (n : Int)).1, st.getD 1, Builtin.Slice.slicePlaces (Builtin.Slice.sliceAdjust lo hi (st.getD 1) (n : Int)).1 (Builtin.Slice.sliceAdjust lo hi (st.getD 1) (n : Int)).2 (st.getD 1))
noncomputable def pickAt {α : Type} (xs : List α) (c : Int × Int × Nat) : List α := (List.range c.2.2).filterMap fun (k : Nat) => xs[(c.1 + (k : Int) * c.2.1).toNat]?
noncomputable def wholeAt (n : Nat) (c : Int × Int × Nat) : Bool := c.1 == 0 && c.2.1 == 1 && c.2.2 == n
theorem slicePartAny {v : Value} {o : Option Int} {Q : Option Int → Shared → Prop} (p : IsPart v o) (h : Q o s) : wpAny (model prog w) A (Builtin.Slice.slicePartIndex v) Q E s := by
  cases p with
  | none => exact slicePart_none h
  | int i t => exact slicePart_int h
theorem sliceAny {sl : Addr} {vl vu vs : Value} {lo hi st : Option Int} {n : Nat} {Q : Int × Int × Nat → Shared → Prop} (hs : s.heap.IsSliceOf sl vl vu vs) (pl : IsPart vl lo) (pu : IsPart vu hi) (ps : IsPart vs st) (h0 : st.getD 1 ≠ 0)
    (h : Q (cutAt n lo hi st) s) : wpAny (model prog w) A (Builtin.Slice.sliceApplied (.ref sl) (pure (n : Int))) Q E s := by
  obtain ⟨os, hos, hcs, hds⟩ := id hs
  unfold Builtin.Slice.sliceApplied Builtin.Slice.sliceFields
  refine wpAny_bind (wpAny_bind (wpAny_field hos hds (x := vl) rfl (wpAny_bind (wpAny_field hos hds (x := vu) rfl (wpAny_bind (wpAny_field hos hds (x := vs) rfl (wpAny_pure ?_)))))))
  refine wpAny_bind (slicePartAny ps ?_)
  show wpAny _ _ (if (st.getD 1 == 0) = true then _ else _) _ _ s
  rw [if_neg (by simpa using h0)]
  exact wpAny_bind (slicePartAny pl (wpAny_bind (slicePartAny pu (wpAny_bind (wpAny_pure (wpAny_pure h))))))
theorem tupleCut {t sl : Addr} {items : Array Value} {vl vu vs : Value} {lo hi st : Option Int} {Q : Value → Shared → Prop} (ht : IsTup s.heap t items) (hs : s.heap.IsSliceOf sl vl vu vs) (pl : IsPart vl lo) (pu : IsPart vu hi) (ps : IsPart vs st) (h0 : st.getD 1 ≠ 0)
    (h1 : wholeAt items.size (cutAt items.size lo hi st) = true → Q (.ref t) s)
    (h2 : wholeAt items.size (cutAt items.size lo hi st) = false → Q (.ref s.heap.objs.size) { s with heap := s.heap.push { cls := .type "tuple", data := .seq (pickAt items.toList (cutAt items.size lo hi st)).toArray } })
    (hsz : (cutAt items.size lo hi st).2.2 ≤ sizeLine) : wpAny (model prog w) A (getItem (.ref t) (.ref sl)) Q E s := by
  have htake : sizeOk (.seq (pickAt items.toList (cutAt items.size lo hi st)).toArray) := by
    show (pickAt items.toList (cutAt items.size lo hi st)).toArray.size ≤ sizeLine
    rw [List.size_toArray]
    refine Nat.le_trans (List.length_filterMap_le _ _) ?_
    rw [List.length_range]
    exact hsz
  obtain ⟨os, hos, hcs, hds⟩ := id hs
  have hTs : s.TypeIs (.ref sl) "slice" := ⟨os, hos, hcs⟩
  unfold getItem
  try with_reducible refine wpAny_holding ?_
  first | refine wpAny_bind (wpAny_pure ?_) | skip
  refine wpAny_bind (wpAny_sequenceKey ht.typeIs (by decide) ?_)
  refine wpAny_bind (wpAny_callSpecial?_slot (name := Str.ofString "__getitem__") ht.typeIs PyProof.Rows.slot_tuple_getitem (wpAny_call_entry PyProof.Rows.slot_tuple_getitem ht.typeIs entry_tuple_getitem ?_ (args_tuple_getitem _ _)))
  show wpAny _ _ (Builtin.Tuple.tupleItemsOf (.ref t) >>= _) _ _ s
  refine wpAny_bind (tupleItemsOf_ ht ?_)
  refine wpAny_bind (wpAny_typeOf hTs ?_)
  rw [if_pos (by decide)]
  refine wpAny_bind (sliceAny hs pl pu ps h0 ?_)
  generalize cutAt items.size lo hi st = c at h1 h2 htake
  obtain ⟨a, b, n⟩ := c
  have e : (List.filterMap (fun (k : Nat) => items[(a + (k : Int) * b).toNat]?) (List.range n)) = pickAt items.toList (a, b, n) := by
    unfold pickAt
    congr 1
    funext k
    rw [Array.getElem?_toList]
  show wpAny _ _ (if (a == 0 && b == 1 && n == items.size) = true then _ else _) _ _ s
  cases hw : wholeAt items.size (a, b, n) with
  | true =>
    have hw' : (a == 0 && b == 1 && n == items.size) = true := hw
    rw [if_pos hw']
    obtain ⟨o, ho, hc, nn, hd⟩ := id ht
    have q := h1 hw
    first
      | (refine wpAny_bind (m := Builtin.Tuple.tupleIsExact _) ?_; unfold Builtin.Tuple.tupleIsExact; refine wpAny_bind (wpAny_typeOf ht.typeIs (wpAny_pure ?_)); rw [if_pos (by decide)]; exact wpAny_bind (wpAny_rule (wpAny_pure ⟨_, rfl, wpAny_pure q⟩)))
      | trace_state
  | false =>
    have hw' : ¬ ((a == 0 && b == 1 && n == items.size) = true) := by
      intro z
      have : wholeAt items.size (a, b, n) = true := z
      rw [hw] at this; cases this
    rw [if_neg hw', e]
    have q := h2 hw
    first
      | exact wpAny_bind (m := Builtin.Tuple.tupleExact _) (wpAny_newObj_type (wpAny_pure ⟨_, rfl, wpAny_pure q⟩) htake)
      | exact wpAny_bind (m := Builtin.Tuple.tupleExact _) (wpAny_newObj_type (wpAny_bind (wpAny_pure (wpAny_pure ⟨_, rfl, wpAny_pure q⟩))) htake)
      | exact wpAny_bind (wpAny_bind (m := Builtin.Tuple.tupleExact _) (wpAny_newObj_type (wpAny_pure (wpAny_pure ⟨_, rfl, wpAny_pure q⟩)) htake))
      | exact wpAny_bind (wpAny_bind (m := Builtin.Tuple.tupleExact _) (wpAny_newObj_type (wpAny_pure ⟨_, rfl, wpAny_pure q⟩) htake))
end
end L3
namespace L3
open PySem
theorem bt_len : bootBuiltins "len" = some (.builtin "len") := by decide +kernel
theorem bt_tuple : bootBuiltins "tuple" = some (.type "tuple") := by decide +kernel
theorem bt_all : bootBuiltins "all" = some (.builtin "all") := by decide +kernel
theorem bt_isinstance : bootBuiltins "isinstance" = some (.builtin "isinstance") := by decide +kernel
theorem bt_max : bootBuiltins "max" = some (.builtin "max") := by decide +kernel
theorem bt_bool : bootBuiltins "bool" = some (.type "bool") := by decide +kernel
theorem bt_str : bootBuiltins "str" = some (.type "str") := by decide +kernel
theorem bt_int : bootBuiltins "int" = some (.type "int") := by decide +kernel
theorem bt_abs : bootBuiltins "abs" = some (.builtin "abs") := by decide +kernel
theorem bt_sum : bootBuiltins "sum" = some (.builtin "sum") := by decide +kernel
theorem bt_sorted : bootBuiltins "sorted" = some (.builtin "sorted") := by decide +kernel
end L3
set_option maxRecDepth 100000
namespace L2
open PySem PySem.Spec PyProof.Rows
section
variable {X : Cx} {pins : List (Addr × Obj)} {σ : St} {H : Hp} {s : Shared} {h' : Heap}
theorem Inv.turnLay {a : Addr} {o : HO} {t' : Nat} {ch : List Addr} (I : Inv X pins σ H s) (hf : ∀ b ∈ ch, FpOk X pins H b) (k : ∀ b u, b ∉ ch → s.heap.get? b = some u → h'.get? b = some u) (hp : s.heap.objs.size ≤ a)
    (new : ObjOk X.prog X.w (upd H a o) h' a o) : Inv X pins σ (upd H a o) { s with heap := h', toks := t' } := by
  have fa : H a = none := I.hok.fresh hp
  have nch : ∀ b u, H b = some u → b ∉ ch := fun b u e z => by rw [(hf b z).1] at e; cases e
  refine I.step (g' := s.gens) (d' := s.drawn) (ch := ch) (fun b hb => ?_) (fun b u _ _ hc e _ => k b u hc e) (fun b u _ _ hc e _ => ⟨u.slots, k b u hc e⟩) (fun b u hc e n => ?_) (fun b u hc e => ⟨u, k b u hc e⟩)
    (fun b xs e => ?_) (fun b ob u e => ?_) (fun b ps e => ?_) (fun m hm => ?_) (fun b u e => ?_) I.bare
  · obtain ⟨_, f1, _, f3, f4, f5⟩ := hf b hb
    exact ⟨f3, f1, f4, f5⟩
  · rw [upd_ne (Nat.ne_of_lt (Nat.lt_of_lt_of_le (Heap.lt_size e) hp))]; exact n
  · rw [upd_ne (ne_of_none e fa)]; exact e
  · rw [upd_ne (ne_of_none e fa)]; exact e
  · exact ⟨#[], by rw [upd_ne (ne_of_none e fa), e]; simp⟩
  · obtain ⟨ob, es, ep, ho, r⟩ := hm
    exact ⟨ob, es, ep, k _ ob (fun z => (hf _ z).2.1 rfl) ho, r⟩
  · by_cases hb : b = a
    · subst hb; rw [upd_same] at e; cases e; exact new
    · rw [upd_ne hb] at e
      refine (I.hok b u e).stay (fun c v hc q => k c v ?_ q) (fun c q => by rw [upd_ne (ne_of_none q fa)]; exact q) fun c xs q => by rw [upd_ne (ne_of_none q fa)]; exact q
      rcases hc with z | z
      · rw [z]; exact nch b u e
      · exact nch c _ z
theorem Inv.turnMany {t' : Nat} {ch : List Addr} (I : Inv X pins σ H s) (hf : ∀ b ∈ ch, FpOk X pins H b) (k : ∀ b u, b ∉ ch → s.heap.get? b = some u → h'.get? b = some u) : Inv X pins σ H { s with heap := h', toks := t' } := by
  have nch : ∀ b u, H b = some u → b ∉ ch := fun b u e z => by rw [(hf b z).1] at e; cases e
  refine I.step (g' := s.gens) (d' := s.drawn) (ch := ch) (fun b hb => ?_) (fun b u _ _ hc e _ => k b u hc e) (fun b u _ _ hc e _ => ⟨u.slots, k b u hc e⟩) (fun b u hc e n => n) (fun b u hc e => ⟨u, k b u hc e⟩)
    (fun b xs e => e) (fun b ob u e => e) (fun b ps e => ⟨#[], by rw [e]; simp⟩) (fun m hm => ?_) (fun b u e => ?_) I.bare
  · obtain ⟨_, f1, _, f3, f4, f5⟩ := hf b hb
    exact ⟨f3, f1, f4, f5⟩
  · obtain ⟨ob, es, ep, ho, r⟩ := hm
    exact ⟨ob, es, ep, k _ ob (fun z => (hf _ z).2.1 rfl) ho, r⟩
  · refine (I.hok b u e).stay (fun c v hc q => k c v ?_ q) (fun _ q => q) fun _ _ q => q
    rcases hc with z | z
    · rw [z]; exact nch b u e
    · exact nch c _ z
end
noncomputable def Ite (K : PySem.W.Frag) (a : Addr) : It :=
  ⟨fun i H => ∃ xs x, SqT K H a xs ∧ xs[i]? = some x, fun i H v H' => ∃ p x, H p = none ∧ v = .ref p ∧ H' = upd H p (.tup [.int i, x]) ∧ ∀ xs, SqT K H a xs → xs[i]? = some x, fun i H => ∃ xs, SqT K H a xs ∧ xs.length ≤ i⟩
noncomputable def Itz (K : PySem.W.Frag) (a b : Addr) : It :=
  ⟨fun i H => ∃ xs ys x y, SqT K H a xs ∧ SqT K H b ys ∧ xs[i]? = some x ∧ ys[i]? = some y,
   fun i H v H' => ∃ p x y, H p = none ∧ v = .ref p ∧ H' = upd H p (.tup [x, y]) ∧ (∀ xs, SqT K H a xs → xs[i]? = some x) ∧ ∀ ys, SqT K H b ys → ys[i]? = some y,
   fun i H => ∃ xs ys, SqT K H a xs ∧ SqT K H b ys ∧ (xs.length ≤ i ∨ ys.length ≤ i)⟩
theorem turn_enumT {P : Program} {w : World} {K : PySem.W.Frag} {elts : List Expr} {x1} {tp : Pos} {e it a : Addr} (hne : e ≠ it) (hae : a ≠ e) (hai : a ≠ it) :
    Turn P w K (.Tuple elts x1 tp) (Ite K a) [e, it] e (fun i h => (∃ old, IsEnum h e it i old) ∧ h.IsTupleIter it a i) where
  mem := by simp
  obj := fun i h st b hb => by
    obtain ⟨⟨old, q⟩, ⟨o, e1, c, d⟩⟩ := st
    rcases List.mem_cons.mp hb with z | z
    · subst z; exact ⟨_, q, fun v z => by have z' : Data.fields _ = Data.cell v := z; cases z'⟩
    · have z : b = it := by simpa using z
      subst z; exact ⟨o, e1, fun v z => by rw [d] at z; cases z⟩
  keep := fun i h h' ⟨⟨old, q⟩, r⟩ k => ⟨⟨old, k e (by simp) _ q⟩, r.at fun o z => k it (by simp) o z⟩
  item := by
    intro X hP hw hK hc i pins s σ H E I hf st hg
    subst hP hw hK
    obtain ⟨⟨old, he⟩, hit⟩ := st
    obtain ⟨xs, x, hq, hx⟩ := hg
    obtain ⟨its, rv, p, hz⟩ := I.tuple hq
    obtain ⟨u, hu, ru⟩ := rv.get hx
    refine L3.enumT_pyNext he ⟨hit, p⟩ (x := u) (by simpa using hu) hne hae hai fun h' o1 a1 tp1 sz k1 => ⟨_, rfl, ?_⟩
    refine wpAny_letOwnedTupleGo_enum o1 fun h2 e2 k2 => ?_
    have hT : s.heap.objs.size ≠ e := Nat.ne_of_gt (Heap.lt_size he)
    have kk : ∀ b v, b ∉ [e, it] → s.heap.get? b = some v → h2.get? b = some v := fun b v hb q => by
      have n1 : b ≠ e := fun z => hb (by simp [z])
      have n2 : b ≠ it := fun z => hb (by simp [z])
      exact (k2.2 b n1).trans (k1 b v n1 n2 q)
    have new : ObjOk X.prog X.w (upd H s.heap.objs.size (.tup [.int i, x])) h2 s.heap.objs.size (.tup [.int i, x]) :=
      ⟨by show 2 ≤ sizeLine; decide, [.int i s.toks, u], .cons ⟨_, rfl⟩ (.cons ru .nil), ⟨_, (k2.2 _ hT).trans tp1, rfl, _, rfl⟩, _, (k2.2 _ hT).trans tp1, rfl⟩
    have IL : Inv X pins σ (upd H s.heap.objs.size (.tup [.int i, x])) { s with heap := h2, toks := s.toks + 1 } := I.turnLay (t' := s.toks + 1) (ch := [e, it]) hf kk (Nat.le_refl _) new
    refine ⟨.ref s.heap.objs.size, _, IL, rfl, ⟨_, x, I.hok.fresh (Nat.le_refl _), rfl, rfl, fun ys hy => by rw [I.tuple_inj hy hq]; exact hx⟩, ⟨⟨u, ?_⟩, a1.iter.at fun o z => (k2.2 it hne.symm).trans z⟩, fun b hb => ?_⟩
    · have e3 : IsEnum h2 e it ((i : Int) + 1) u := e2
      rw [show (((i + 1 : Nat) : Int)) = (i : Int) + 1 by omega]
      exact e3
    · rw [upd_ne (Nat.ne_of_lt ?_)]
      · exact (hf b hb).1
      · rcases List.mem_cons.mp hb with z | z
        · rw [z]; exact Heap.lt_size he
        · have z : b = it := by simpa using z
          obtain ⟨o, q, _⟩ := hit
          rw [z]; exact Heap.lt_size q
  done := by
    intro X hP hw hK hc i pins s σ H E I hf st hg
    subst hP hw hK
    obtain ⟨⟨old, he⟩, hit⟩ := st
    obtain ⟨xs, hq, hx⟩ := hg
    obtain ⟨its, rv, p, hz⟩ := I.tuple hq
    have hl := rv.length
    refine L3.enumT_pyEnd (I.ok.hd hc) he ⟨hit, p⟩ (by simp; omega) fun h' k => ⟨rfl, I.turnMany (t' := s.toks) (ch := [e, it]) hf fun b v hb q => k b v (fun z => hb (by simp [z])) q⟩
  self := fun _ _ _ _ _ ⟨⟨_, q⟩, _⟩ h => wpAny_pyIter_enum q h
theorem turn_zipT {P : Program} {w : World} {K : PySem.W.Frag} {elts : List Expr} {x1} {tp : Pos} {z TI TO i1 i2 a b : Addr} (D : ZipApart z TI TO i1 i2 a b) :
    Turn P w K (.Tuple elts x1 tp) (Itz K a b) [z, TI, TO, i1, i2] z (fun i h => IsZip h z TI TO .none ∧ IsPair h TI (.ref i1) (.ref i2) ∧ (∃ u v, IsPair h TO u v) ∧ h.IsTupleIter i1 a i ∧ h.IsTupleIter i2 b i) where
  mem := by simp
  obj := fun i h st c hc => by
    obtain ⟨q1, q2, ⟨u, v, q3⟩, ⟨o4, e4, c4, d4⟩, ⟨o5, e5, c5, d5⟩⟩ := st
    simp only [List.mem_cons, List.not_mem_nil, or_false] at hc
    rcases hc with rfl | rfl | rfl | rfl | rfl
    · exact ⟨_, q1, fun v z => by have z' : Data.fields _ = Data.cell v := z; cases z'⟩
    · exact ⟨_, q2, fun v z => by have z' : Data.seq _ _ = Data.cell v := z; cases z'⟩
    · exact ⟨_, q3, fun v z => by have z' : Data.seq _ _ = Data.cell v := z; cases z'⟩
    · exact ⟨o4, e4, fun v z => by rw [d4] at z; cases z⟩
    · exact ⟨o5, e5, fun v z => by rw [d5] at z; cases z⟩
  keep := fun i h h' ⟨q1, q2, ⟨u, v, q3⟩, r4, r5⟩ k => ⟨k _ (by simp) _ q1, k _ (by simp) _ q2, ⟨u, v, k _ (by simp) _ q3⟩, r4.at fun o q => k _ (by simp) o q, r5.at fun o q => k _ (by simp) o q⟩
  item := by
    intro X hP hw hK hc i pins s σ H E I hf st hg
    subst hP hw hK
    have st0 := st
    obtain ⟨q1, q2, q3, r4, r5⟩ := st
    obtain ⟨xs, ys, x, y, hq, hq', hx, hy⟩ := hg
    obtain ⟨its, rv, p, _⟩ := I.tuple hq
    obtain ⟨its', rv', p', _⟩ := I.tuple hq'
    obtain ⟨u, hu, ru⟩ := rv.get hx
    obtain ⟨v, hv, rw'⟩ := rv'.get hy
    refine L3.zipT_pyNext D ⟨q1, q2, q3, ⟨r4, p⟩, ⟨r5, p'⟩⟩ (x := u) (y := v) (by simpa using hu) (by simpa using hv) fun h' Z tp1 sz k1 => ⟨_, rfl, ?_⟩
    refine wpAny_letOwnedTupleGo_zip Z.z fun h2 z2 k2 => ?_
    have lt : ∀ c ∈ [z, TI, TO, i1, i2], c < s.heap.objs.size := fun c hc => by
      obtain ⟨w1, w2, ⟨_, _, w3⟩, ⟨_, w4, _⟩, ⟨_, w5, _⟩⟩ := st0
      simp only [List.mem_cons, List.not_mem_nil, or_false] at hc
      rcases hc with rfl | rfl | rfl | rfl | rfl
      · exact Heap.lt_size w1
      · exact Heap.lt_size w2
      · exact Heap.lt_size w3
      · exact Heap.lt_size w4
      · exact Heap.lt_size w5
    have hT : s.heap.objs.size ≠ z := Nat.ne_of_gt (lt z (by simp))
    have kk : ∀ c w', c ∉ [z, TI, TO, i1, i2] → s.heap.get? c = some w' → h2.get? c = some w' := fun c w' hc q => by
      have n1 : c ≠ z := fun e => hc (by simp [e])
      exact (k2.2 c n1).trans (k1 c w' n1 (fun e => hc (by simp [e])) (fun e => hc (by simp [e])) (fun e => hc (by simp [e])) q)
    have new : ObjOk X.prog X.w (upd H s.heap.objs.size (.tup [x, y])) h2 s.heap.objs.size (.tup [x, y]) :=
      ⟨by show 2 ≤ sizeLine; decide, [u, v], .cons ru (.cons rw' .nil), ⟨_, (k2.2 _ hT).trans tp1, rfl, _, rfl⟩, _, (k2.2 _ hT).trans tp1, rfl⟩
    have IL : Inv X pins σ (upd H s.heap.objs.size (.tup [x, y])) { s with heap := h2, toks := s.toks } := I.turnLay (t' := s.toks) (ch := [z, TI, TO, i1, i2]) hf kk (Nat.le_refl _) new
    refine ⟨.ref s.heap.objs.size, _, IL, rfl,
      ⟨_, x, y, I.hok.fresh (Nat.le_refl _), rfl, rfl, fun ys hy' => by rw [I.tuple_inj hy' hq]; exact hx, fun ys hy' => by rw [I.tuple_inj hy' hq']; exact hy⟩,
      ⟨z2, (k2.2 _ D.TIz).trans Z.TI, ?_, Z.one.iter.at fun o q => (k2.2 _ D.i1z).trans q, Z.two.iter.at fun o q => (k2.2 _ D.i2z).trans q⟩, fun c hc => ?_⟩
    · obtain ⟨a', b', q⟩ := Z.TO
      exact ⟨a', b', (k2.2 _ D.TOz).trans q⟩
    · rw [upd_ne (Nat.ne_of_lt (lt c hc))]; exact (hf c hc).1
  done := by
    intro X hP hw hK hc i pins s σ H E I hf st hg
    subst hP hw hK
    obtain ⟨q1, q2, q3, r4, r5⟩ := st
    obtain ⟨xs, ys, hq, hq', hx⟩ := hg
    obtain ⟨its, rv, p, _⟩ := I.tuple hq
    obtain ⟨its', rv', p', _⟩ := I.tuple hq'
    have hl := rv.length
    have hl' := rv'.length
    refine L3.zipT_pyEnd (I.ok.hd hc) D ⟨q1, q2, q3, ⟨r4, p⟩, ⟨r5, p'⟩⟩ ?_ fun h' k => ⟨rfl, I.turnMany (t' := s.toks) (ch := [z, TI, TO, i1, i2]) hf fun c v hc q =>
      k c v (fun e => hc (by simp [e])) (fun e => hc (by simp [e])) (fun e => hc (by simp [e])) (fun e => hc (by simp [e])) q⟩
    rcases hx with hx | hx
    · exact .inl (by simp; omega)
    · exact .inr (by simp; omega)
  self := fun _ _ _ _ _ ⟨q, _⟩ h => wpAny_pyIter_zip q h
section
variable {X : Cx}
noncomputable def iEnumT (K : PySem.W.Frag) (ta : TA) : TI := fun σ H R => ta σ H fun vs H1 => ∃ a, vs = [.ref a] ∧ (∃ xs, SqT K H1 a xs) ∧ R (Ite K a) H1
noncomputable def iZipT (K : PySem.W.Frag) (ta : TA) : TI := fun σ H R => ta σ H fun vs H1 => ∃ a b, vs = [.ref a, .ref b] ∧ (∃ xs, SqT K H1 a xs) ∧ (∃ ys, SqT K H1 b ys) ∧ R (Itz K a b) H1
theorem pi_enumT {a : Expr} {ta : TA} {p pos tp : Pos} {elts : List Expr} {x1} (hg : Gl X "enumerate") (hm : X.mg "enumerate" = none) (ha : PA X [a] ta) (hs : starEach [a] X.env = [(false, eval a X.env)] := by rfl) :
    PI X (.Tuple elts x1 tp) (.Call (.Name "enumerate" p) [a] [] pos) (iEnumT X.K ta) := by
  intro pins s σ H R I h
  refine Call_ (ld_blt I hg hm boot_enumerate (PyProof.Rows.callWith_type1 (thn (ha pos pins s σ H _ I h) fun us s1 ⟨vs, H1, I1, r1, q1⟩ => ?_) hs rfl))
  obtain ⟨t, e, ⟨xs, hq⟩, q⟩ := q1
  subst e
  cases r1 with
  | cons r rr =>
    cases rr
    cases r
    obtain ⟨its, rv, pt, hz⟩ := I1.tuple hq
    have pt' : s1.heap.IsTuple t its.toArray := pt
    have tlt : t < s1.heap.objs.size := by obtain ⟨o, ho, _⟩ := pt'; exact Heap.lt_size ho
    refine L3.call_enumT pt' fun h' he a0 sz k => ?_
    have I2 : Inv X pins σ H1 { s1 with heap := h' } := I1.kept (t' := s1.toks) k
    refine wpAny_pyIter_enum (it := s1.heap.objs.size) (i := 0) (old := .none) he ⟨_, [s1.heap.objs.size + 1, s1.heap.objs.size], _, _, H1, rfl, I2, turn_enumT (a := t) (Nat.ne_of_gt (Nat.lt_succ_self _)) (Nat.ne_of_lt (Nat.lt_succ_of_lt tlt)) (Nat.ne_of_lt tlt), ⟨⟨_, he⟩, a0.iter⟩, fun b hb => ?_, q⟩
    have hb' : s1.heap.objs.size ≤ b := by
      simp only [List.mem_cons, List.not_mem_nil, or_false] at hb
      rcases hb with rfl | rfl
      · exact Nat.le_succ _
      · exact Nat.le_refl _
    exact I1.fpOk hb' (I1.hok.fresh hb')
theorem pi_zipT {a b : Expr} {ta : TA} {p pos tp : Pos} {elts : List Expr} {x1} (hg : Gl X "zip") (hm : X.mg "zip" = none) (ha : PA X [a, b] ta)
    (hs : starEach [a, b] X.env = [(false, eval a X.env), (false, eval b X.env)] := by rfl) (hs2 : starEach [b] X.env = [(false, eval b X.env)] := by rfl) : PI X (.Tuple elts x1 tp) (.Call (.Name "zip" p) [a, b] [] pos) (iZipT X.K ta) := by
  intro pins s σ H R I h
  refine Call_ (ld_blt I hg hm boot_zip (PyProof.Rows.callWith_type1 (thn (ha pos pins s σ H _ I h) fun us s1 ⟨vs, H1, I1, r1, q1⟩ => ?_) (by rw [hs, hs2]) (by rw [hs2]; rfl)))
  obtain ⟨t, t2, e, ⟨xs, hq⟩, ⟨ys, hq'⟩, q⟩ := q1
  subst e
  cases r1 with
  | cons r rr =>
    cases rr with
    | cons r' rr =>
      cases rr
      cases r
      cases r'
      obtain ⟨its, rv, pt, hz⟩ := I1.tuple hq
      obtain ⟨its', rv', pt', hz'⟩ := I1.tuple hq'
      have T1 : s1.heap.IsTuple t its.toArray := pt
      have T2 : s1.heap.IsTuple t2 its'.toArray := pt'
      have l1 : t < s1.heap.objs.size := by obtain ⟨o, ho, _⟩ := T1; exact Heap.lt_size ho
      have l2 : t2 < s1.heap.objs.size := by obtain ⟨o, ho, _⟩ := T2; exact Heap.lt_size ho
      refine L3.call_zipT T1 T2 fun h' Z sz k => ?_
      have I2 : Inv X pins σ H1 { s1 with heap := h' } := I1.kept (t' := s1.toks) k
      have D : ZipApart (s1.heap.objs.size + 4) (s1.heap.objs.size + 2) (s1.heap.objs.size + 3) s1.heap.objs.size (s1.heap.objs.size + 1) t t2 := PyProof.Rows.zipApart_new l1 l2
      refine wpAny_pyIter_zip Z.z ⟨_, [s1.heap.objs.size + 4, s1.heap.objs.size + 2, s1.heap.objs.size + 3, s1.heap.objs.size, s1.heap.objs.size + 1], _, _, H1, rfl, I2, turn_zipT D, ⟨Z.z, Z.TI, Z.TO, Z.one.iter, Z.two.iter⟩, fun c hc => ?_, q⟩
      have hc' : s1.heap.objs.size ≤ c := by
        simp only [List.mem_cons, List.not_mem_nil, or_false] at hc
        rcases hc with rfl | rfl | rfl | rfl | rfl <;> first | exact Nat.le_refl _ | exact Nat.le_add_right _ _
      exact I1.fpOk hc' (I1.hok.fresh hc')
end
section
variable {X : Cx}
noncomputable def Cx.comp (X : Cx) (scope : Scope) (N' : List Str) (C : Addr) (fp : List Addr) (pins : List (Addr × Obj)) (s₂ : Shared) (H₂ : Hp) : Cx :=
  { X with N := N', s₀ := s₂, H₀ := H₂, env := compEnvC scope (L3.closL X.env.cells scope.names []) C X.env, outer := X.stack, ex := fp, fn := fun _ => false, pn := X.pn ++ pins, xe := fun _ _ => False }
theorem comp_look {scope : Scope} {x : Str} {c : Addr} (h : (L3.closL X.env.cells scope.names []).lookup x = some c) : X.env.cells.lookup x = some c :=
  L3.closL_lookup (cs := []) (fun _ e => by simp at e) h
variable {scope : Scope} {N' : List Str} {sh : List Nat} {pins : List (Addr × Obj)} {σ : St} {H : Hp} {s : Shared} {C : Addr} {fp : List Addr}
theorem comp_free (cp : L3.CompParts X.env.scope scope X.N N' sh) {x : Str} (h : (relabel scope X.env).names.lookup x = some .cell ∨ (relabel scope X.env).names.lookup x = some .free) : (x, NameKind.free) ∈ scope.names ∧ X.env.kindOf x = some .cell := by
  have q : (x, NameKind.free) ∈ scope.names := by
    rcases h with h | h
    · obtain ⟨k0, h0, h1⟩ := L3.relab_inv h
      rcases h1 with h1 | ⟨h1, _⟩
      · subst h1; exact absurd rfl (cp.cell _ (L3.mem_of_look h0))
      · subst h1; exact L3.mem_of_look h0
    · obtain ⟨k0, h0, h1⟩ := L3.relab_inv h
      rcases h1 with h1 | ⟨_, h1⟩
      · subst h1; exact L3.mem_of_look h0
      · cases h1
  exact ⟨q, cp.free _ q rfl⟩
theorem comp_ok (I : Inv X pins σ H s) (cp : L3.CompParts X.env.scope scope X.N N' sh) (hC : s.heap.objs.size ≤ C) (hf : ∀ b ∈ fp, FpOk X pins H b) (hlt : ∀ b ∈ fp, b < s.heap.objs.size) : (X.comp scope N' C fp pins s H).Ok := by
  refine ⟨I.ok.mod, cp.kind, I.ok.glob, I.ok.blt, hC, fun x y c h1 h2 => I.ok.inj x y c (comp_look h1) (comp_look h2), fun x hx => ?_, fun x c z _ => ?_, I.ok.hd, I.ok.frames, .inl rfl, fun b hb => ⟨?_, fun x c e => ?_⟩, I.bs, Nat.le_trans I.ok.bsz I.sz, fun b o e hb => ?_, fun b hb z => ?_, I.stack, I.stkFree⟩
  · obtain ⟨q, kq⟩ := comp_free cp hx
    obtain ⟨d, hd⟩ := I.ok.has x (.inl kq)
    exact L3.closL_has hd q
  · exact absurd (show false = true from z) Bool.false_ne_true
  · exact Nat.ne_of_lt (Nat.lt_of_lt_of_le (hlt b hb) hC)
  · exact (hf b hb).2.2.2.2.1 x c (comp_look e)
  · rcases (hf b hb).2.2.2.1 with z | z
    · exact I.ok.noex b o e z
    · exact absurd (Nat.lt_of_lt_of_le (Heap.lt_size e) (Nat.le_trans I.ok.bsz z)) (Nat.lt_irrefl _)
  · rcases List.mem_cons.mp (I.stkSub b z) with e | e
    · exact (hf b hb).2.1 e
    · exact (hf b hb).2.2.1 e
theorem comp_in (I : Inv X pins σ H s) (cp : L3.CompParts X.env.scope scope X.N N' sh) {more : Nat} (hm : N'.length = X.N.length + more) (hC : s.heap.objs.size ≤ C) (hf : ∀ b ∈ fp, FpOk X pins H b) (hlt : ∀ b ∈ fp, b < s.heap.objs.size)
    {h1 : Heap} {t : Nat} {m : Str → Option Value} (k : ∀ b o, s.heap.get? b = some o → h1.get? b = some o) (hn : h1.Ns C m) : Inv (X.comp scope N' C fp pins s H) [] (L3.blank sh σ ++ List.replicate more none) H { s with heap := h1, toks := t } := by
  have neC : ∀ b o, s.heap.get? b = some o → b ≠ C := fun b o e => Nat.ne_of_lt (Nat.lt_of_lt_of_le (Heap.lt_size e) hC)
  have lenσ : σ.length = X.N.length := I.len
  refine ⟨comp_ok I cp hC hf hlt, rfl, I.bare, Un.kept k, ⟨m, hn, fun i x v e1 e2 e3 => ?_⟩, fun x c e => ?_, I.hok.fresh hC, fun x c e => I.freeC x c (comp_look e), fun p hp => ?_, I.hok.kept k, ?_⟩
  · have hi : i < (L3.blank sh σ).length := by
      by_cases hi : i < (L3.blank sh σ).length
      · exact hi
      · rw [List.getElem?_append_right (Nat.le_of_not_lt hi), List.getElem?_replicate] at e2
        split at e2 <;> cases e2
    rw [List.getElem?_append_left hi] at e2
    obtain ⟨h1', h2'⟩ := L3.blank_get e2
    rw [L3.blank_length, lenσ] at hi
    have eN : X.N[i]? = some x := by
      have q : (N'.take X.N.length)[i]? = some x := by rw [List.getElem?_take_of_lt hi]; exact e1
      rw [cp.pre] at q; exact q
    have e3' : (relabel scope X.env).names.lookup x = some .local ∨ (relabel scope X.env).names.lookup x = some .cell ∨ (relabel scope X.env).names.lookup x = some .free := e3
    rcases e3' with z | z
    · obtain ⟨k0, h0, hk⟩ := L3.relab_inv z
      have : k0 = .local := by
        rcases hk with q | ⟨_, q⟩
        · exact q.symm
        · cases q
      subst this
      exact absurd (cp.shad i x eN h0) h1'
    · obtain ⟨q, kq⟩ := comp_free cp z
      obtain ⟨m0, _, hl⟩ := I.loc
      obtain ⟨u, ru, lu⟩ := hl i x v eN h2' (.inr (.inl kq))
      rcases lu with ⟨kl, _⟩ | ⟨_, c, hc, ic⟩
      · rw [kq] at kl; cases kl
      · obtain ⟨c', hc'⟩ := L3.closL_has (cs := []) hc q
        have := comp_look (X := X) hc'
        rw [hc] at this; cases this
        exact ⟨u, ru, .inr ⟨z, c, hc', ic.keeps k⟩⟩
  · obtain ⟨v, z⟩ := I.cell x c (comp_look e)
    exact ⟨v, z.keeps k⟩
  · have hp' : p ∈ X.pn ++ pins := by simpa [Cx.comp] using hp
    obtain ⟨e, n, ne, nf, d⟩ := I.pin p hp'
    refine ⟨k _ _ e, n, neC _ _ e, fun z => ?_, d⟩
    rcases List.mem_cons.mp (I.stkSub p.1 z) with q | q
    · exact ne q
    · exact nf q
  · show (L3.blank sh σ ++ List.replicate more none).length = N'.length
    rw [List.length_append, L3.blank_length, List.length_replicate, lenσ, hm]
theorem comp_out {D : Addr} {n : Nat} {acc : List V} {ys : Array Value} {pl : List (Addr × Obj)} {σ4 : St} {H4 : Hp} {s4 : Shared} {h' : Heap} (I : Inv X pins σ H s) (hC : s.heap.objs.size ≤ C) (hf : ∀ b ∈ fp, FpOk X pins H b)
    (I4 : Inv (X.comp scope N' C fp pins s H) pl σ4 H4 s4) (hD : s.heap.objs.size ≤ D) (hDC : D ≠ C) (gD : s4.heap.get? D = some { cls := .type "list", data := .seq ys n }) (va : Vals acc ys.toList) (fD : H4 D = none) (hl : acc.length ≤ sizeLine)
    (sb : Heap.SameBut C s4.heap h') : Inv X pins σ (upd H4 D (.lst acc)) { s4 with heap := h' } := by
  have B : Un (frs X.stack) fp H H4 s.heap s4.heap := I4.base
  have fC : H4 C = none := I4.free
  have lo : ∀ b o, s.heap.get? b = some o → b ≠ C ∧ b ≠ D := fun b o e => ⟨Nat.ne_of_lt (Nat.lt_of_lt_of_le (Heap.lt_size e) hC), Nat.ne_of_lt (Nat.lt_of_lt_of_le (Heap.lt_size e) hD)⟩
  have u : Un (frs X.stack) fp H (upd H4 D (.lst acc)) s.heap h' := by
    refine ⟨fun b o e n hb hx => (sb.2 b (lo b o e).1).trans (B.keep b o e n hb hx), fun b o e n hb hx => ?_, fun b o e n hx => by rw [upd_ne (lo b o e).2]; exact B.free b o e n hx, fun b o e hx => ?_,
      fun b xs e => ?_, fun b o v e => ?_, fun b ps e => ?_⟩
    · obtain ⟨sl, q⟩ := B.slot b o e n hb hx
      exact ⟨sl, (sb.2 b (lo b o e).1).trans q⟩
    · obtain ⟨o', q⟩ := B.there b o e hx
      exact ⟨o', (sb.2 b (lo b o e).1).trans q⟩
    · have q := B.tups b xs e
      rw [upd_ne (ne_of_none q fD)]; exact q
    · have q := B.frzs b o v e
      rw [upd_ne (ne_of_none q fD)]; exact q
    · obtain ⟨more, q⟩ := B.tbls b ps e
      exact ⟨more, by rw [upd_ne (ne_of_none q fD)]; exact q⟩
  have hok : HOk X.prog X.w (upd H4 D (.lst acc)) h' := fun b v e => by
    by_cases hb : b = D
    · subst hb
      rw [upd_same] at e; cases e
      exact ⟨hl, ys.toList, n, va, by rw [sb.2 _ hDC, gD]⟩
    · rw [upd_ne hb] at e
      refine (show ObjOk X.prog X.w H4 s4.heap b v from I4.hok b v e).stay (fun c w' hc q => (sb.2 c ?_).trans q) (fun c q => by rw [upd_ne (ne_of_none q fD)]; exact q) fun c xs q => by rw [upd_ne (ne_of_none q fD)]; exact q
      rcases hc with z | z
      · rw [z]; exact ne_of_none e fC
      · exact ne_of_none z fC
  exact I.call' (s' := { s4 with heap := h' }) (ch := fp) (show s4.os = s.os from I4.os) u hok I4.bare fun b hb => ⟨(hf b hb).2.2.2.1, (hf b hb).2.1, (hf b hb).2.2.2.2.1, (hf b hb).2.2.2.2.2⟩
end
noncomputable def PIf (X : Cx) (ifs : List Expr) (tt : TT) : Prop :=
  ∀ (pins : List (Addr × Obj)) (s : Shared) (σ : St) (H : Hp) (Q : Bool → Hp → Prop), Inv X pins σ H s → tt σ H Q → wpAny (model X.prog X.w) X.A (L3.testsOf ifs X.env) (TP X pins σ Q) X.xe s
theorem pif_nil {X : Cx} : PIf X [] (fun _ H Q => Q true H) := fun _ _ _ H _ I h => wpAny_tests_nil ⟨H, I, h⟩
theorem pif_one {X : Cx} {c : Expr} {t : TT} (h : PT X c t) : PIf X [c] t := fun pins s σ H Q I q => wpAny_tests_one (h pins s σ H Q I q)
noncomputable def compW (J : It) (g : TG) (tt : TT) (te : TE) (σ : St) (H : Hp) (Q : VK) : Prop := ∃ W : Nat → Nat → List V → St → Hp → Prop, (∃ m, W 0 m [] σ H) ∧ ∀ i m acc σ' H', W i m acc σ' H' →
  (J.stop i H' ∧ acc.length ≤ sizeLine ∧ ∀ D, H' D = none → Q (.ref D) (upd H' D (.lst acc))) ∨
  (J.go i H' ∧ acc.length < sizeLine ∧ ∃ N : List V → St → Hp → Prop, (∀ acc' σ2 H2, N acc' σ2 H2 → ∃ m', m' < m ∧ W (i + 1) m' acc' σ2 H2) ∧
    ∀ x H2, J.yld i H' x H2 → g x σ' H2 fun σ2 H3 => tt σ2 H3 fun b H4 => if b = true then te σ2 H4 fun y H5 => N (acc ++ [y]) σ2 H5 else N acc σ2 H4)
noncomputable def tComp (wi : TI) (g : TG) (tt : TT) (te : TE) (sh : List Nat) (more : Nat) : TE := fun σ H Q => wi σ H fun J H1 => compW J g tt te (L3.blank sh σ ++ List.replicate more none) H1 Q
theorem comp_any {X : Cx} {elt tg iter : Expr} {ifs : List Expr} {scope : Scope} {pos pos' : Pos} {wi : TI} {g : TG} {tt : TT} {te : TE} {sh : List Nat} {N' : List Str} {more : Nat} (hcalm : X.calm = true) (hi : PI X tg iter wi)
    (hg : ∀ C fp pins s H, PG (X.comp scope N' C fp pins s H) tg g) (ht : ∀ C fp pins s H, PIf (X.comp scope N' C fp pins s H) ifs tt) (he : ∀ C fp pins s H, PE (X.comp scope N' C fp pins s H) elt te)
    (hc : L3.compOk X.env.scope scope X.N N' sh = true) (hm : N'.length = X.N.length + more) (hs : ∀ x, foldedSetIterable iter X.env x = pure x) {use : Option (Value → Sem Unit)} {Qv : Value → Shared → Prop}
    {pins : List (Addr × Obj)} {s : Shared} {σ : St} {H : Hp} {Q : VK} (I : Inv X pins σ H s) (h : tComp wi g tt te sh more σ H Q)
    (fin : ∀ (D C : Addr) (s2 : Shared) (H2 : Hp) (fp : List Addr) (pl : List (Addr × Obj)) (σ4 : St) (H4 : Hp) (s4 : Shared) (n : Nat) (ys : Array Value) (acc : List V), Inv X pins σ H2 s2 → (∀ b ∈ fp, FpOk X pins H2 b) → s2.heap.objs.size ≤ C → s2.heap.objs.size ≤ D → D ≠ C →
      Inv (X.comp scope N' C fp pins s2 H2) pl σ4 H4 s4 → s4.heap.get? D = some { cls := .type "list", data := .seq ys n } → Vals acc ys.toList → H4 D = none → acc.length ≤ sizeLine → Q (.ref D) (upd H4 D (.lst acc)) → compPost (model X.prog X.w) X.A X.xe use Qv (.ref D) C (.ok .next) s4) :
    wpAny (model X.prog X.w) X.A (comprehension (.ListComp elt [⟨tg, iter, ifs, 0⟩] scope pos) scope X.env pos' (newList []) false (eval iter X.env) use) Qv X.xe s := by
  have cp := L3.compOk_parts hc
  refine wpAny_comprehension_free (cl := L3.closL X.env.cells scope.names []) rfl hs (L3.closureFor_eq fun x hx hk => ?_) cp.kind cp.loc ?_
  · obtain ⟨c, q⟩ := I.ok.has x.1 (.inl (cp.free x hx hk))
    rw [q]; rfl
  show wpAny _ X.A (eval iter X.env) _ _ s
  refine thn (hi pins s σ H _ I h) fun v s1 h1 => thn h1 fun itv s2 h2 => ?_
  obtain ⟨it, fp, tn, J, H2, e, I2, T, st2, f2, W, ⟨m0, w0⟩, turn⟩ := h2
  subst e
  have hlt : ∀ b ∈ fp, b < s2.heap.objs.size := fun b hb => by
    obtain ⟨o, q, _⟩ := T.obj 0 _ st2 b hb
    exact Heap.lt_size q
  refine wpAny_newObj_type (wpAny_newFunctionEnv cp.cell (by intro y hy; simp at hy) (fun h₁ hns hsb => ?_) cp.kind)
  dsimp only at hns hsb ⊢
  generalize hG : s2.heap.push { cls := .type "list", dict := none, data := .seq ([] : List Value).toArray } = G at hns hsb ⊢
  have hz : G.objs.size = s2.heap.objs.size + 1 := by rw [← hG, Heap.size_push]
  have hC : s2.heap.objs.size ≤ G.objs.size := by omega
  have hDC : s2.heap.objs.size ≠ G.objs.size := by omega
  have old : ∀ b o, s2.heap.get? b = some o → h₁.get? b = some o := fun b o q => by
    have hb := Heap.lt_size q
    exact hsb.extBut b o (Nat.ne_of_lt (Nat.lt_of_lt_of_le hb hC)) (Heap.get?_push_of_some _ (hG ▸ Heap.get?_push_of_some _ q))
  have acc0 : h₁.PlainList s2.heap.objs.size #[] := ⟨_, hsb.extBut _ _ hDC (Heap.get?_push_of_some _ (hG ▸ Heap.get?_push_size _ rfl))⟩
  have nfD : s2.heap.objs.size ∉ frs X.stack := fun z => by
    obtain ⟨_, o, ho, _⟩ := I2.stack.mem z
    exact absurd (Heap.lt_size ho) (Nat.lt_irrefl _)
  have fpD : ∀ b ∈ fp, s2.heap.objs.size ≠ b := fun b hb => Nat.ne_of_gt (hlt b hb)
  have cD : ∀ x c, (L3.closL X.env.cells scope.names []).lookup x = some c → c ≠ s2.heap.objs.size := fun x c q z => by
    obtain ⟨w', z'⟩ := I2.cell x c (comp_look q)
    rw [z] at z'
    exact absurd z'.lt (Nat.lt_irrefl _)
  have pnD : ∀ p ∈ X.pn ++ pins, p.1 ≠ s2.heap.objs.size := fun p hp z => by
    have q := (I2.pin p hp).1
    rw [z] at q
    exact absurd (Heap.lt_size q) (Nat.lt_irrefl _)
  have okX : (X.comp scope N' G.objs.size fp pins s2 H2).Ok := comp_ok I2 cp hC f2 hlt
  -- the iterator's records, seen from the block
  have stat : ∀ {o : Obj} {H' : Hp}, (∀ b ∈ fp, H' b = none) → ∀ b ∈ fp, FpOk (X.comp scope N' G.objs.size fp pins s2 H2) [(s2.heap.objs.size, o)] H' b := fun {o H'} hn b hb => by
    refine ⟨hn b hb, (okX.exf b hb).1, okX.exfs b hb, .inl hb, (okX.exf b hb).2, fun p hp => ?_⟩
    rcases List.mem_append.mp hp with z | z
    · exact (f2 b hb).2.2.2.2.2 p z
    · have : p = (s2.heap.objs.size, o) := by simpa using z
      rw [this]; exact fpD b hb
  -- the list so far, held as it is
  have hold : ∀ {σ' : St} {H' : Hp} {s' : Shared} {o : Obj}, Inv (X.comp scope N' G.objs.size fp pins s2 H2) [] σ' H' s' → s'.heap.get? s2.heap.objs.size = some o → H' s2.heap.objs.size = none → (∀ v, o.data ≠ .cell v) →
      Inv (X.comp scope N' G.objs.size fp pins s2 H2) [(s2.heap.objs.size, o)] σ' H' s' := fun {σ' H' s' o} I' q n d => I'.pins_of fun p hp => by
    have : p = (s2.heap.objs.size, o) := by simpa using hp
    subst this
    exact ⟨q, n, hDC, nfD, d⟩
  have loop : ∀ s₃ : Shared, s₃ = { s2 with heap := h₁, toks := s2.toks + ([] : List (Str × Value)).length } →
      codeAny (model X.prog X.w) X.A (.compLoop (.ListComp elt [⟨tg, iter, ifs, 0⟩] scope pos) 0 (.ref it) (.ref s2.heap.objs.size) (compEnvC scope (L3.closL X.env.cells scope.names []) G.objs.size X.env))
        (compPost (model X.prog X.w) X.A X.xe use Qv (.ref s2.heap.objs.size) G.objs.size) s₃ := by
    rintro s₃ rfl
    refine L3.comp_loop (fun n s' => ∃ i acc ys σ' H', Inv (X.comp scope N' G.objs.size fp pins s2 H2) [] σ' H' s' ∧ tn i s'.heap ∧ (∀ b ∈ fp, H' b = none) ∧ s'.heap.PlainList s2.heap.objs.size ys ∧ Vals acc ys.toList ∧ H' s2.heap.objs.size = none ∧ W i n acc σ' H') ?_ m0
      ⟨0, [], #[], _, H2, comp_in I2 cp hm hC f2 hlt old hns, T.keep _ _ _ st2 (fun b _ o q => old b o q), fun b hb => (f2 b hb).1, acc0, .nil, I2.hok.fresh (Nat.le_refl _), w0⟩
    rintro n s3 ⟨i, acc, ys, σ3, H3, I3, st3, fr3, ⟨nn, gD⟩, va, fD, w3⟩
    have dD : ∀ v, ({ cls := .type "list", data := .seq ys nn } : Obj).data ≠ .cell v := fun v z => by
      have z' : Data.seq ys nn = Data.cell v := z
      cases z'
    have I3' := hold I3 gD fD dD
    rcases turn i n acc σ3 H3 w3 with ⟨stop, hl, q⟩ | ⟨go, hl, N, hN, step⟩
    · refine thn (T.done (X.comp scope N' G.objs.size fp pins s2 H2) rfl rfl rfl hcalm i _ s3 σ3 H3 (fun _ _ => False) I3' (stat fr3) st3 stop) fun r s4 ⟨hr, I4⟩ => ?_
      subst hr
      have g4 := (I4.pin (s2.heap.objs.size, _) (List.mem_append_right _ List.mem_cons_self)).1
      exact fin _ _ s2 H2 fp _ _ _ s4 _ _ acc I2 f2 hC (Nat.le_refl _) hDC I4 g4 va fD hl (q _ fD)
    · refine thn (T.item (X.comp scope N' G.objs.size fp pins s2 H2) rfl rfl rfl hcalm i _ s3 σ3 H3 (fun _ _ => False) I3' (stat fr3) st3 go) fun r s4 ⟨u, hr, h4⟩ => ?_
      subst hr
      refine thn h4 fun _ s5 ⟨x, H5, I5, r5, y5, st5, fr5⟩ => ?_
      have I5' := I5.pinned (stat fr5) (T.obj _ _ st5)
      refine thn (hg _ _ _ _ _ _ s5 σ3 H5 x u _ I5' r5 (step x H5 y5)) fun _ s6 ⟨σ6, H6, I6, q6⟩ => ?_
      refine thn (ht _ _ _ _ _ _ s6 σ6 H6 _ I6 q6) fun b s7 ⟨H7, I7, q7⟩ => ?_
      have inD : ∀ {o : Obj}, (s2.heap.objs.size, o) ∈ [(s2.heap.objs.size, o)] ++ pinsAt fp s5.heap := List.mem_append_left _ List.mem_cons_self
      have turned : ∀ {σ' : St} {H' : Hp} {s' : Shared}, Inv (X.comp scope N' G.objs.size fp pins s2 H2) ([(s2.heap.objs.size, ({ cls := .type "list", data := .seq ys nn } : Obj))] ++ pinsAt fp s5.heap) σ' H' s' →
          (∀ b ∈ fp, ∀ o, s5.heap.get? b = some o → s'.heap.get? b = some o) ∧ ∀ b ∈ fp, H' b = none := fun I' => by
        refine ⟨fun b hb o q => (I'.pin (b, o) (List.mem_append_right _ (List.mem_append_right _ (mem_pinsAt hb q)))).1, fun b hb => ?_⟩
        obtain ⟨o, q, _⟩ := T.obj _ _ st5 b hb
        exact (I'.pin (b, o) (List.mem_append_right _ (List.mem_append_right _ (mem_pinsAt hb q)))).2.1
      cases b with
      | false =>
        rw [if_neg Bool.false_ne_true] at q7 ⊢
        obtain ⟨m', hm', w7⟩ := hN _ _ _ q7
        have p7 := I7.pin (s2.heap.objs.size, _) (List.mem_append_right _ inD)
        exact ⟨m', hm', i + 1, acc, ys, σ6, H7, I7.pins_of (fun p hp => absurd hp (by simp)), T.keep _ _ _ st5 (turned I7).1, (turned I7).2, ⟨nn, p7.1⟩, va, p7.2.1, w7⟩
      | true =>
        rw [if_pos rfl] at q7 ⊢
        refine thn (he _ _ _ _ _ _ s7 σ6 H7 _ I7 q7) fun yv s8 ⟨y, H8, I8, r8, q8⟩ => ?_
        obtain ⟨m', hm', w8⟩ := hN _ _ _ q8
        have p8 := I8.pin (s2.heap.objs.size, _) (List.mem_append_right _ inD)
        have lenv := va.length
        refine wpAny_list_append_plain (hsz := by rw [← Array.length_toList, ← lenv]; exact Nat.le_of_lt hl) ⟨nn, p8.1⟩ fun h9 pl9 sb9 => ?_
        have J8 : Inv (X.comp scope N' G.objs.size fp pins s2 H2) [] σ6 H8 s8 := I8.pins_of fun p hp => absurd hp (by simp)
        refine ⟨m', hm', i + 1, acc ++ [y], ys.push yv, σ6, H8, J8.turned (t' := s8.toks) (fun b o hb q => (sb9.2 b hb).trans q) p8.2.1 hDC (.inr (Nat.le_refl _)) cD (fun p hp => pnD p (by simpa [Cx.comp] using hp)), ?_, (turned I8).2, pl9, ?_, p8.2.1, w8⟩
        · exact T.keep _ _ _ st5 fun b hb o q => (sb9.2 b (fpD b hb).symm).trans ((turned I8).1 b hb o q)
        · rw [Array.toList_push]
          exact va.append (.cons r8 .nil)
  exact codeAny_compStart_list (loop _ rfl) (T.self _ 0 _ _ _ (T.keep _ _ _ st2 fun b _ o q => old b o q) (loop _ rfl))
theorem pe_comp {X : Cx} {elt tg iter : Expr} {ifs : List Expr} {scope : Scope} {pos : Pos} {wi : TI} {g : TG} {tt : TT} {te : TE} (sh : List Nat) (N' : List Str) (more : Nat) (hcalm : X.calm = true) (hi : PI X tg iter wi)
    (hg : ∀ C fp pins s H, PG (X.comp scope N' C fp pins s H) tg g) (ht : ∀ C fp pins s H, PIf (X.comp scope N' C fp pins s H) ifs tt) (he : ∀ C fp pins s H, PE (X.comp scope N' C fp pins s H) elt te)
    (hc : L3.compOk X.env.scope scope X.N N' sh = true := by rfl) (hm : N'.length = X.N.length + more := by rfl) (hs : ∀ x, foldedSetIterable iter X.env x = pure x := by intro _; rfl) :
    PE X (.ListComp elt [⟨tg, iter, ifs, 0⟩] scope pos) (tComp wi g tt te sh more) := by
  intro pins s σ H Q I h
  rw [eval_ListComp]
  refine comp_any hcalm hi hg ht he hc hm hs (use := none) I h fun D C s2 H2 fp pl σ4 H4 s4 n ys acc I2 f2 hC hD hDC I4 g4 va fD hl q => ?_
  obtain ⟨m4, hn4, _⟩ := I4.loc
  exact ⟨m4, hn4, fun h' sb => ⟨.ref D, _, comp_out I2 hC f2 I4 hD hDC g4 va fD hl sb, rfl, q⟩⟩
theorem ps_comp {X : Cx} {elt tg iter : Expr} {ifs : List Expr} {scope : Scope} {pos py spos : Pos} {y : Str} {wi : TI} {g : TG} {tt : TT} {te : TE} (i : Nat) (sh : List Nat) (N' : List Str) (more : Nat) (hcalm : X.calm = true) (hN : X.N.Nodup) (hiy : X.N[i]? = some y) (hy : X.env.scope.names.lookup y = some .local) (hi : PI X tg iter wi)
    (hg : ∀ C fp pins s H, PG (X.comp scope N' C fp pins s H) tg g) (ht : ∀ C fp pins s H, PIf (X.comp scope N' C fp pins s H) ifs tt) (he : ∀ C fp pins s H, PE (X.comp scope N' C fp pins s H) elt te)
    (hc : L3.compOk X.env.scope scope X.N N' sh = true := by rfl) (hm : N'.length = X.N.length + more := by rfl) (hs : ∀ x, foldedSetIterable iter X.env x = pure x := by intro _; rfl)
    (hsw : swapsWith (.ListComp elt [⟨tg, iter, ifs, 0⟩] scope pos) (some (.Name y py)) spos.line X.env = pure true := by rfl) :
    PS X (.Assign [.Name y py] (.ListComp elt [⟨tg, iter, ifs, 0⟩] scope pos) spos) (tAsg (tComp wi g tt te sh more) (gName i)) := by
  intro pins s σ H D' I h
  rw [exec_Assign_Name_used _ _ _ _ hsw]
  refine wpAny_bind (wpAny_standAt (wpAny_bind ?_))
  show wpAny _ X.A (do let _ ← comprehension (.ListComp elt [⟨tg, iter, ifs, 0⟩] scope pos) scope X.env _ (newList []) false (eval iter X.env) (some (assign (.Name y py) X.env))) _ _ s
  refine wpAny_bind (wpAny_mono (comp_any hcalm hi hg ht he hc hm hs (use := some (assign (.Name y py) X.env)) (Qv := fun _ s' => SP X pins D' .next s') I h fun D C s2 H2 fp pl σ4 H4 s4 n ys acc I2 f2 hC hD hDC I4 g4 va fD hl q => ?_) (fun _ s' hq => wpAny_pure (wpAny_pure hq)) fun _ _ e => e)
  obtain ⟨m4, hn4, _⟩ := I4.loc
  have Io : Inv X pins σ (upd H4 D (.lst acc)) s4 := comp_out I2 hC f2 I4 hD hDC g4 va fD hl (Heap.SameBut.refl ..)
  have lL : X.env.locals < C := Nat.lt_of_lt_of_le I2.lt hC
  show wpAny _ X.A (assign (.Name y py) X.env (.ref D)) _ _ s4
  refine wpAny_assign_Name (store_ok2 Io hN hiy (.inl hy) (v := .ref D) rfl (fun s5 I5 ⟨a, sb5, ha⟩ => ?_) (.inr hy))
  have cC : ∀ x c, X.env.cells.lookup x = some c → c ≠ C := fun x c z zz => by
    obtain ⟨v, z'⟩ := I2.cell x c z
    rw [zz] at z'
    exact absurd (Nat.lt_of_lt_of_le z'.lt hC) (Nat.lt_irrefl _)
  have aC : C ≠ a := fun z => by
    rcases ha with y' | y'
    · rw [← z] at y'; rw [y'] at lL; exact absurd lL (Nat.lt_irrefl _)
    · exact cC _ _ y' z.symm
  refine ⟨m4, Heap.Ns.sameBut hn4 sb5 aC, fun h' sb => ⟨_, _, I5.turned (t' := s5.toks) (it := C) (fun b o hb z => (sb.2 b hb).trans z) ?_ (Nat.ne_of_gt lL) (.inr (Nat.le_trans I2.sz hC)) cC (fun p hp z => ?_), q⟩⟩
  · rw [upd_ne hDC.symm]
    exact I4.free
  · have q' := (I2.pin p hp).1
    rw [z] at q'
    exact absurd (Nat.lt_of_lt_of_le (Heap.lt_size q') hC) (Nat.lt_irrefl _)
theorem range_all : ∀ (bs : List Bool), ((List.range bs.length).all fun i => bs.getD i true) = bs.all id := by
  intro bs
  rw [Bool.eq_iff_iff, List.all_eq_true, List.all_eq_true]
  constructor
  · intro h b hb
    obtain ⟨i, hi, e⟩ := List.mem_iff_getElem.mp hb
    have q := h i (List.mem_range.mpr hi)
    rw [List.getD_eq_getElem?_getD, List.getElem?_eq_getElem hi] at q
    rw [← e]; exact q
  · intro h i hi
    have hi := List.mem_range.mp hi
    rw [List.getD_eq_getElem?_getD, List.getElem?_eq_getElem hi]
    exact h _ (List.getElem_mem hi)
section
variable {X : Cx}
theorem call_allL (hc : X.calm = true) : CallR X (.builtin "all") (fun xs H Q => ∃ (p : Addr) (bs : List Bool), xs = [.ref p] ∧ SqL X.K H p (bs.map V.bl) ∧ Q (.bl (bs.all id)) H) := by
  intro pins s σ H xs us Q I r h
  obtain ⟨p, bs, rfl, hq, q⟩ := h
  obtain ⟨u, rfl, rx⟩ := vals1 r
  cases rx
  obtain ⟨its, rv, pl, hz⟩ := I.list hq
  have hlen : its.length = bs.length := by rw [← rv.length, List.length_map]
  have plt : p < s.heap.objs.size := by
    obtain ⟨o, ho, _⟩ := pl.isList
    exact Heap.lt_size ho
  have hh : X.A.in1.handled = none := I.ok.hd hc
  refine call_all_walk (wpAny_pyIter_list pl.isList ⟨s.heap.objs.size, _, _, _, _, _, fun i => bs.getD i true, rfl, Walks.list hh s.heap.objs.size p (Nat.ne_of_lt plt) its.toArray, ⟨⟨_, Heap.get?_push_size _ rfl, rfl, rfl⟩, pl.isList.push _⟩, fun i v s' Q' E' hv hQ => ?_, fun h' tk k => ?_⟩)
  · have hv' : its[i]? = some v := by simpa using hv
    have hi : i < bs.length := by
      rw [← hlen]; exact (List.getElem?_eq_some_iff.mp hv').1
    obtain ⟨u, hu, ru⟩ := rv.get (i := i) (x := .bl bs[i]) (by rw [List.getElem?_map, List.getElem?_eq_getElem hi]; rfl)
    rw [hv'] at hu; cases hu
    cases ru
    have e : bs.getD i true = bs[i] := by rw [List.getD_eq_getElem?_getD, List.getElem?_eq_getElem hi]; rfl
    have hQ' : Q' (bs.getD i true) s' := hQ
    rw [e] at hQ'
    exact wpAny_truthy_bool hQ'
  · have e : its.toArray.size = bs.length := by rw [List.size_toArray, hlen]
    rw [e, range_all]
    refine ⟨.bl (bs.all id), H, ?_, rfl, q⟩
    have I1 : Inv X pins σ H { s with heap := s.heap.push { cls := .type "list_iterator", data := .fields #[.ref p, .int 0 0] } } := I.kept (t' := s.toks) fun b o z => Heap.get?_push_of_some _ z
    refine I1.turnMany (t' := tk) (ch := [s.heap.objs.size]) (fun b hb => ?_) fun b o hb z => k b o (by simpa using hb) z
    have : b = s.heap.objs.size := by simpa using hb
    subst this
    exact I.fpOk (Nat.le_refl _) (I.hok.fresh (Nat.le_refl _))
theorem call_isi : CallR X (.builtin "isinstance") (fun xs H Q => ∃ x c t b, xs = [x, .ty c] ∧ TyOf X.K H x t ∧ PySem.W.kitOne X.K t (.type c) = some b ∧ Q (.bl b) H) := by
  intro pins s σ H xs us Q I r h
  obtain ⟨x, c, t, b, rfl, ty, e, q⟩ := h
  obtain ⟨u, v, rfl, rx, rc⟩ := vals2 r
  cases (show v = Value.type c from rc)
  exact isinst_ok I rx ty e fun tk => ⟨.bl b, H, I.tok _, rfl, q⟩
noncomputable def rSl3 (K : PySem.W.Frag) : V → Option Int → Option Int → Option Int → Hp → VK → Prop := fun x lo hi st H Q => ∃ a xs, x = .ref a ∧ SqT K H a xs ∧ st.getD 1 ≠ 0 ∧ (L3.cutAt xs.length lo hi st).2.2 ≤ sizeLine ∧
  (L3.wholeAt xs.length (L3.cutAt xs.length lo hi st) = true → Q (.ref a) H) ∧ (L3.wholeAt xs.length (L3.cutAt xs.length lo hi st) = false → ∀ p, H p = none → Q (.ref p) (upd H p (.tup (L3.pickAt xs (L3.cutAt xs.length lo hi st)))))
theorem vals_pick {xs : List V} {us : List Value} (r : Vals xs us) (f : Nat → Nat) : ∀ l : List Nat, Vals (l.filterMap fun k => xs[f k]?) (l.filterMap fun k => us[f k]?)
  | [] => .nil
  | k :: l => by
    have ih := vals_pick r f l
    rw [List.filterMap_cons, List.filterMap_cons]
    cases e : xs[f k]? with
    | none =>
      have e2 : us[f k]? = none := by
        rw [List.getElem?_eq_none_iff] at e ⊢
        rw [← r.length]; exact e
      rw [e2]; exact ih
    | some x =>
      obtain ⟨u, hu, ru⟩ := r.get e
      rw [hu]; exact .cons ru ih
noncomputable def tSl3 (r : V → Option Int → Option Int → Option Int → Hp → VK → Prop) (te : TE) (tl th ts : TO) : TE := fun σ H Q => te σ H fun x H1 => tl σ H1 fun l H2 => th σ H2 fun u H3 => ts σ H3 fun st H4 => r x l u st H4 Q
theorem pe_slice3 {e : Expr} {te : TE} {lo hi st : Option Expr} {tl th ts : TO} {pos p2 : Pos} (he : PE X e te) (hl : PO X lo tl) (hu : PO X hi th) (hst : PO X st ts) : PE X (.Subscript e (.Slice lo hi st p2) pos) (tSl3 (rSl3 X.K) te tl th ts) := by
  intro pins s σ H Q I h
  refine Subscript_ (thn (he pins s σ H _ I h) fun v s1 ⟨x, H1, I1, r1, q1⟩ => ?_)
  refine wpAny_Slice (thn (hl pins s1 σ H1 _ I1 q1) fun vl s2 ⟨l, H2, I2, pl, q2⟩ => thn (hu pins s2 σ H2 _ I2 q2) fun vu s3 ⟨u, H3, I3, pu, q3⟩ => thn (hst pins s3 σ H3 _ I3 q3) fun vs s4 ⟨k, H4, I4, ps, q4⟩ => ?_)
  obtain ⟨a, xs, rfl, hx, h0, hz2, q5, q6⟩ := q4
  cases r1
  have I5 : Inv X pins σ H4 { s4 with heap := s4.heap.push { cls := .type "slice", data := .fields #[vl, vu, vs] } } := I4.kept (t' := s4.toks) fun b ob q => Heap.get?_push_of_some _ q
  obtain ⟨its, r, ht, hz⟩ := I5.tuple hx
  have hlen : its.toArray.size = xs.length := by rw [List.size_toArray]; exact r.length.symm
  have hg : wpAny (model X.prog X.w) X.A (getItem (.ref a) (.ref s4.heap.objs.size)) (EP X pins σ Q) X.xe { s4 with heap := s4.heap.push { cls := .type "slice", data := .fields #[vl, vu, vs] } } := by
    refine L3.tupleCut ht (Heap.IsSliceOf.new ..) pl pu ps h0 (fun w => ?_) (fun w => ?_) (by rw [hlen]; exact hz2)
    · rw [hlen] at w
      exact ⟨.ref a, H4, I5, rfl, q5 w⟩
    · rw [hlen] at w ⊢
      refine ⟨.ref _, _, I5.laid (t' := s4.toks) (o := .tup (L3.pickAt xs (L3.cutAt xs.length l u k))) (fun b ob q => Heap.get?_push_of_some _ q) (Nat.le_refl _) ?_, rfl, q6 w _ (I5.hok.fresh (Nat.le_refl _))⟩
      refine ⟨?_, _, vals_pick r _ _, IsTup.new _ _, _, Heap.get?_push_size _ rfl, rfl⟩
      exact Nat.le_trans (List.length_filterMap_le _ _) (by rw [List.length_range]; exact hz2)
  show wpAny (model X.prog X.w) X.A (subscriptTail e (.Slice lo hi st p2) (.ref a) (.ref s4.heap.objs.size)) (EP X pins σ Q) X.xe { s4 with heap := s4.heap.push { cls := .type "slice", data := .fields #[vl, vu, vs] } }
  cases st with
  | none => exact tail_any (ops := [.ref s4.heap.objs.size, .ref a]) ht.typeIs PyProof.Rows.slot_tuple_getitem.lookup hg (by with_unfolding_all rfl)
  | some st => exact tail_any (ops := [.ref a, .ref s4.heap.objs.size]) ht.typeIs PyProof.Rows.slot_tuple_getitem.lookup hg (by with_unfolding_all rfl)
noncomputable def rCat0 (K : PySem.W.Frag) : R2 := fun x y H Q => ∃ a b xs ys, x = .ref a ∧ y = .ref b ∧ SqT K H a xs ∧ SqT K H b ys ∧ xs.length + ys.length ≤ sizeLine ∧
  (xs = [] → Q (.ref b) H) ∧ (xs ≠ [] → ys = [] → Q (.ref a) H) ∧ (xs ≠ [] → ys ≠ [] → ∀ p, H p = none → Q (.ref p) (upd H p (.tup (xs ++ ys))))
theorem op_cat0 : OpR X (binaryOp .Add) (rCat0 X.K) := by
  intro pins s σ H x y v u Q I rx ry h
  obtain ⟨a, b, xs, ys, rfl, rfl, ha, hb, hz, q0, q1, q2⟩ := h
  by_cases hx : xs = []
  · cases rx
    cases ry
    obtain ⟨its, r1, p1, _⟩ := I.tuple ha
    obtain ⟨its2, r2, p2, _⟩ := I.tuple hb
    have e1 : its = [] := r1.nil_iff.mpr hx
    obtain ⟨⟨cls, dd, data, sl⟩, ho, hc, n, hd⟩ := id p1
    obtain ⟨⟨cls2, dd2, data2, sl2⟩, ho2, hc2, n2, hd2⟩ := id p2
    simp only at hc hd hc2 hd2
    subst hc hd hc2 hd2
    exact concat_meets ⟨_, ho, rfl⟩ ⟨_, ho2, rfl⟩ noFill_tuple_add seq_tuple_add PySem.F.slot_tuple_add PySem.F.entry_tuple_add (PySem.F.args_tuple_add_2 _ _)
      (tuple_addW0 a b its.toArray its2.toArray n n2 dd dd2 sl sl2 (by simp [e1])) ⟨ho, ho2, ⟨.ref b, H, I, rfl, q0 hx⟩⟩
  · exact op_catT pins s σ H _ _ v u Q I rx ry ⟨a, b, xs, ys, rfl, rfl, ha, hb, hx, hz, fun z => q1 hx z, fun z => q2 hx z⟩
end
end L2
namespace L2
open PySem PySem.Spec PyProof.Rows
structure Fn (P : Program) (w : World) (K : PySem.W.Frag) (mg : Str → Option Value) (base : Heap) (x : Str) (ps : List Str) (k : Nat) (sp : Sp) : Prop where
  ex : ∃ f fd, FnOk P w K mg base CX0 k f fd ps sp ∧ mg x = some (.ref f) ∧ PySem.W.keepIn K (.ref f) = true ∧ Binds K fd ps []
theorem Fn.of {P : Program} {w : World} {K : PySem.W.Frag} {mg : Str → Option Value} {base : Heap} {x : Str} {ps : List Str} {k : Nat} {sp : Sp} {f : Addr} {fd : FuncData} (O : FnOk P w K mg base CX0 k f fd ps sp) (m : mg x = some (.ref f)) (kp : PySem.W.keepIn K (.ref f) = true) (b : Binds K fd ps []) :
    Fn P w K mg base x ps k sp := ⟨f, fd, O, m, kp, b⟩
section
variable {X : Cx} {x : Str} {ps : List Str} {k k' : Nat} {sp : Sp} {e : Expr} {es : List Expr} {t : TA} {p pos : Pos}
theorem pe_fn (F : Fn X.prog X.w X.K X.mg X.base x ps k sp) (hr : Room k' X.A) (ha : PA X (e :: es) t) (hk : k ≤ k' := by first | decide | exact Nat.le_refl _) (hg : Gl X x := by rfl) (hdb : (x == ("__debug__" : Str)) = false := by decide)
    (he : starEach (e :: es) X.env = (false, eval e X.env) :: starEach es X.env := by rfl) (hpl : (backTo pos (starEach es X.env)).any (·.1) = false := by rfl) : PE X (.Call (.Name x p) (e :: es) [] pos) (tCall sp [] E0 t) := by
  obtain ⟨f, fd, O, m, kp, b⟩ := F.ex
  exact pe_call O (hr.mono hk) hg m kp b .nil pass0 ha hdb he hpl
theorem ps_join {st : Stmt} {t : TS} (h : PS X st t) : PS X st (fun D σ H => ∃ J : St → Hp → Prop, (∀ σ' H', J σ' H' → D.nx σ' H') ∧ t { D with nx := J } σ H) := by
  intro pins s σ H D I q
  obtain ⟨J, hJ, q⟩ := q
  refine thn (h pins s σ H _ I q) fun f s1 r => ?_
  cases f with
  | next =>
    obtain ⟨σ', H', I', r⟩ := r
    exact ⟨σ', H', I', hJ _ _ r⟩
  | ret v => exact r
  | brk => exact r
  | cont => exact r
end
section
variable {X : Cx}
theorem pg_tupK (K : PySem.W.Frag) (n : Nat) {es : List Expr} {k : Nat} {t : TGs} {pos : Pos} (hc : X.calm = true) (h : PGs X es t) (hK : X.K = K) (hn : (assignEach es X.env).length = n) (hst : (assignEach es X.env).findIdx? (·.1) = none) : PG X (.Tuple es k pos) (gTup K n t) := by
  subst hK
  exact pg_tup hc h hn hst
theorem ix_tupK (K : PySem.W.Frag) (hK : X.K = K) : IxR X (rIxT K) := by
  subst hK
  exact ix_tup
theorem ix_listK (K : PySem.W.Frag) (hK : X.K = K) : IxR X (rIxL K) := by
  subst hK
  exact ix_list
end
theorem same_new {H : Hp} {p : Addr} (h : H p = none) (o : HO) : Same H (upd H p o) := fun b u q => by rw [upd_ne (ne_of_none q h)]; exact q
theorem small {n : Nat} (h : n ≤ 1000000) : n ≤ sizeLine := Nat.le_trans h (by rw [sizeLine_eq]; decide)
theorem smallL {n : Nat} (h : n ≤ 1000000) : n < sizeLine := Nat.lt_of_le_of_lt h (by rw [sizeLine_eq]; decide)
noncomputable def Scr (K : PySem.W.Frag) (H : Hp) (a : Addr) (ns : List Int) : Prop := (∃ o, H a = some (.frz o (.lst (ns.map V.int)))) ∨
  ∃ (o : Obj) (its : Array Value) (n : Nat), K.lookup a = some o ∧ o.cls = .type "list" ∧ o.dict = none ∧ o.data = .seq its n ∧ its.size ≤ sizeLine ∧ Vals (ns.map V.int) its.toList
theorem Scr.seq {K : PySem.W.Frag} {H : Hp} {a : Addr} {ns : List Int} (h : Scr K H a ns) : SqL K H a (ns.map V.int) := by
  rcases h with ⟨o, h⟩ | h
  · exact .inl (.inr ⟨o, h⟩)
  · exact .inr h
theorem Scr.of {K : PySem.W.Frag} {H : Hp} {a : Addr} {ns : List Int} (h : SqL K H a (ns.map V.int)) (o : Only H) : Scr K H a ns := by
  rcases h with (h | ⟨ob, h⟩) | h
  · rcases o a with z | ⟨ob, xs, z⟩
    · rw [z] at h; cases h
    · rw [z] at h; cases h
  · exact .inl ⟨ob, h⟩
  · exact .inr h
noncomputable abbrev zeros (k : Nat) : List V := List.replicate k (V.int 0)
noncomputable def Twn (H : Hp) (t : Addr) (k : Nat) : Prop := H t = some (.lst (zeros k))
noncomputable def Grow (t : Addr) (H H' : Hp) : Prop := ∀ b o, b ≠ t → H b = some o → H' b = some o
theorem Grow.refl (t : Addr) (H : Hp) : Grow t H H := fun _ _ _ h => h
theorem Grow.trans {t : Addr} {H H1 H2 : Hp} (a : Grow t H H1) (b : Grow t H1 H2) : Grow t H H2 := fun c o n h => b c o n (a c o n h)
theorem Grow.same {t : Addr} {H H1 : Hp} (a : Same H H1) : Grow t H H1 := fun c o _ h => a c o h
theorem Grow.upd {t : Addr} {H : Hp} (o : HO) : Grow t H (upd H t o) := fun c u n h => by rw [upd_ne n]; exact h
theorem Grow.scr {K : PySem.W.Frag} {t a : Addr} {H H' : Hp} {ns : List Int} {k : Nat} (g : Grow t H H') (tw : Twn H t k) (s : Scr K H a ns) : Scr K H' a ns := by
  rcases s with ⟨o, h⟩ | h
  · exact .inl ⟨o, g _ _ (fun z => by subst z; unfold Twn at tw; rw [tw] at h; cases h) h⟩
  · exact .inr h
theorem Grow.tup {t a : Addr} {H H' : Hp} {xs : List V} {k : Nat} (g : Grow t H H') (tw : Twn H t k) (h : H a = some (.tup xs)) : H' a = some (.tup xs) :=
  g _ _ (fun z => by subst z; unfold Twn at tw; rw [tw] at h; cases h) h
theorem Same.scr {K : PySem.W.Frag} {a : Addr} {H H' : Hp} {ns : List Int} (g : Same H H') (s : Scr K H a ns) : Scr K H' a ns := by
  rcases s with ⟨o, h⟩ | h
  · exact .inl ⟨o, g _ _ h⟩
  · exact .inr h
theorem Same.twn {t : Addr} {H H' : Hp} {k : Nat} (g : Same H H') (s : Twn H t k) : Twn H' t k := g _ _ s
noncomputable def scl : V → Bool
  | .non => true | .bl _ => true | .int _ => true | .str _ => true | _ => false
noncomputable def Eqv (H : Hp) : Nat → V → V → Prop
  | 0, _, _ => False
  | n + 1, x, y => (x = y ∧ scl x = true) ∨ ∃ a b xs ys, x = .ref a ∧ y = .ref b ∧ H a = some (.tup xs) ∧ H b = some (.tup ys) ∧ xs.length ≤ 1000000 ∧ Paired (Eqv H n) xs ys
theorem Eqv.same {H H' : Hp} (g : Same H H') : ∀ {n : Nat} {x y : V}, Eqv H n x y → Eqv H' n x y
  | 0, _, _, h => h
  | n + 1, x, y, h => by
    rcases h with h | ⟨a, b, xs, ys, e1, e2, h1, h2, hz, p⟩
    · exact .inl h
    · exact .inr ⟨a, b, xs, ys, e1, e2, g _ _ h1, g _ _ h2, hz, Paired.mapP p fun _ _ q => Eqv.same g q⟩
theorem Eqv.int {H : Hp} {n : Nat} (i : Int) : Eqv H (n + 1) (.int i) (.int i) := .inl ⟨rfl, rfl⟩
theorem eqv_ints {H : Hp} {n : Nat} : ∀ (l : List Int), Paired (Eqv H (n + 1)) (l.map V.int) (l.map V.int)
  | [] => .nil
  | i :: l => .cons (Eqv.int i) (eqv_ints l)
theorem Eqv.ints {H : Hp} {n : Nat} {a b : Addr} {l : List Int} (h1 : H a = some (.tup (l.map V.int))) (h2 : H b = some (.tup (l.map V.int))) (hz : l.length ≤ 1000000) : Eqv H (n + 2) (.ref a) (.ref b) :=
  .inr ⟨a, b, _, _, rfl, rfl, h1, h2, by rw [List.length_map]; exact hz, eqv_ints l⟩
noncomputable def spSame (n : Nat) : Sp := fun vs H Q _ => ∃ x y, vs = [x, y] ∧ Eqv H n x y ∧ ∀ H', Same H H' → Q (.bl true) H'
noncomputable def lcell (ns : List Int) (k : Nat) : Int := if ns = [] then 0 else ns.getD (k % ns.length) 0
noncomputable def drw1 (ns : List Int) (k : Nat) : Int := (lcell ns k + 104729 * (k : Int)) % 4294967291
noncomputable def drw2 (ns : List Int) (k : Nat) : Int := drw1 ns k * drw1 ns k % 4294967279 * 48271 % 4294967291
noncomputable def drw3 (ns : List Int) (k : Nat) : Int := drw2 ns k * drw2 ns k % 4294967279 * 69621 % 4294967291
noncomputable def drw (ns : List Int) (k : Nat) (m : Int) : Int := (drw2 ns k / 64 * 67108864 + drw3 ns k / 64) % m
theorem drw_nn (ns : List Int) (k : Nat) {m : Int} (h : 0 < m) : 0 ≤ drw ns k m := Int.emod_nonneg _ (by omega)
theorem drw_lt (ns : List Int) (k : Nat) {m : Int} (h : 0 < m) : drw ns k m < m := Int.emod_lt_of_pos _ h
noncomputable def spDraw (K : PySem.W.Frag) : Sp := fun vs H Q _ => ∃ (a t : Addr) (ns : List Int) (k : Nat) (m : Int), vs = [.ref a, .ref t, .int m] ∧ Scr K H a ns ∧ ns.length ≤ 63 ∧ Twn H t k ∧ k ≤ 900000 ∧ 0 < m ∧
  ∀ H', Grow t H H' → Twn H' t (k + 1) → Q (.int (drw ns (k + 1) m)) H'
noncomputable def spLaw (K : PySem.W.Frag) : Sp := fun vs H Q _ => ∃ (a : Addr) (ns : List Int), vs = [.ref a] ∧ Scr K H a ns ∧ ns.length ≤ 63 ∧ ∀ H', Q (.bl true) H'
end L2
set_option maxRecDepth 100000
namespace L2
open PySem
noncomputable def Tr (B h : Heap) (e : Addr) (cls c fl : Value) : Prop :=
  ∃ oe vs T oT ts, h.get? e = some oe ∧ oe.cls = cls ∧ oe.data = .fields vs ∧ vs[2]? = some c ∧ vs[1]? = some (.ref T) ∧ B.get? T = none ∧ T ≠ e ∧ h.get? T = some oT ∧ oT.data = .fields ts ∧ ts[3]? = some fl
noncomputable def Fl (B : Heap) (l : List Env) (e : Addr) (cls c fl : Value) (h : Heap) : Prop :=
  B.StaysIn h ∧ B.get? e = none ∧ h.FunFrames B l ∧ Tr B h e cls c fl
theorem Fl.rest {B h : Heap} {env : Env} {outer : List Env} {e : Addr} {cls c fl : Value} (x : Fl B (env :: outer) e cls c fl h) : Fl B outer e cls c fl h := by
  obtain ⟨x1, x2, ⟨_, _, x3⟩, x4⟩ := x
  exact ⟨x1, x2, x3, x4⟩
section
variable {M : Model} {A : Around} {E : Value → Shared → Prop} {s : Shared} {B : Heap} {env : Env} {outer : List Env} {L e : Addr} {oe : Obj} {vs : Array Value} {cls c : Value} {Q : Unit → Shared → Prop}
theorem fl_entry {head : Value} {nx : Bool} (fA : A.frames = some (env :: outer)) (fF : s.heap.FunFrames B (env :: outer)) (fL : env.frame = some L) (e1 : s.heap.get? e = some oe) (sB : B.StaysIn s.heap) (eB : B.get? e = none) (ed : oe.data = .fields vs) (ec : vs[2]? = some c)
    (q : ∀ g, Fl B (env :: outer) e oe.cls c (rawInt L) g → s.heap.UpToSlots g → Q () { s with heap := g }) :
    wpAny M A (do let a ← frameOf env; let pl ← entryPlaceOf L nx; let b ← EntryCells.newEntry head a .none (rawInt L) .none pl; setField (.ref e) 1 b) Q E s := by
  have ez : 2 < vs.size := (Array.getElem?_eq_some_iff.mp ec).1
  have notF : ∀ b o ws, s.heap.get? b = some o → o.data = .fields ws → b ∉ (env :: outer).filterMap (·.frame) := fun b o ws e2 e3 y => by
    obtain ⟨_, o', e4, n4⟩ := fF.mem y
    rw [e2] at e4; cases e4; exact n4 ws e3
  refine wpAny_bind (wpAny_frameOf_fun fA fF fL fun g1 sl => wpAny_bind (wpAny_entryPlaceOf fun pl hpl => ?_))
  unfold EntryCells.newEntry newFields
  refine wpAny_bind (wpAny_newObj_type ?_ (hpl.sizeOk5 _ _ _ _ _))
  have tb : ∃ ts, (.fields ([head, .ref L, .none, rawInt L, .none] ++ (if pl.isEmpty then List.replicate 6 Value.none else pl)).toArray : Data) = .fields ts ∧ ts[3]? = some (rawInt L) := ⟨_, rfl, by simp⟩
  generalize (Data.fields ([head, .ref L, .none, rawInt L, .none] ++ (if pl.isEmpty then List.replicate 6 Value.none else pl)).toArray) = da at tb ⊢
  obtain ⟨ts, rfl, t3⟩ := tb
  have g1e : g1.get? e = some oe := (sl.2.1 e (notF e oe vs e1 ed)).trans e1
  have ob := Heap.get?_push_of_some (h := g1) { cls := .type "traceback", dict := none, data := .fields ts } g1e
  have ob2 := Heap.get?_push_size g1 (o := { cls := .type "traceback", dict := none, data := .fields ts }) rfl
  refine wpAny_setField ob ed (by omega) (q _ ?_ ?_)
  all_goals
    have far : g1.objs.size ≠ e := Nat.ne_of_gt (Heap.lt_size g1e)
    have kp : ∀ b o, b ≠ e → g1.get? b = some o → ((g1.push { cls := .type "traceback", dict := none, data := .fields ts }).update e (Obj.mapFields (·.setIfInBounds 1 (Value.ref g1.objs.size)))).get? b = some o := fun b o n y =>
      (Heap.get?_update_other _ _ (Ne.symm n)).trans (Heap.get?_push_of_some _ y)
    have rec0 : ∀ b o, s.heap.get? b = some o → (∀ ws, o.data ≠ .fields ws) → b ≠ e := fun b o y n z => by
      subst z; rw [e1] at y; cases y; exact n vs ed
  · have inB : ∀ b o, B.get? b = some o → g1.get? b = some o := fun b o y => (sl.2.1 b fun z => by rw [(fF.mem z).1] at y; cases y).trans (sB b o y)
    have ed2 := Obj.data_mapFields ed (·.setIfInBounds 1 (Value.ref g1.objs.size))
    refine ⟨fun b o y => kp b o (fun z => by subst z; rw [eB] at y; cases y) (inB b o y), eB, fF.of_keeps fun b o y n => ?_, _, _, g1.objs.size, _, ts, Heap.get?_update_self _ ob (Obj.isFreed_of_fields ed2), Obj.cls_mapFields _ _, ed2, ?_, ?_, ?_, far, (Heap.get?_update_other _ _ (Ne.symm far)).trans ob2, rfl, t3⟩
    · obtain ⟨sl2, y2⟩ := sl.2.2 b o y
      exact ⟨_, kp b _ (rec0 b o y n) y2, rfl⟩
    · rw [Array.getElem?_setIfInBounds_ne (by decide)]; exact ec
    · simp [show 1 < vs.size by omega]
    · cases y : B.get? g1.objs.size with
      | none => rfl
      | some o => exact absurd (Heap.lt_size (inB _ _ y)) (Nat.lt_irrefl _)
  · intro b o y n
    obtain ⟨sl2, y2⟩ := sl.2.2 b o y
    exact ⟨sl2, kp b _ (rec0 b o y n) y2⟩
theorem fl_new (fA : A.frames = some (env :: outer)) (fF : s.heap.FunFrames B (env :: outer)) (fL : env.frame = some L) (e1 : s.heap.get? e = some oe) (sB : B.StaysIn s.heap) (eB : B.get? e = none) (ed : oe.data = .fields vs) (ec : vs[2]? = some c) (et : vs[1]? = some .none)
    (q : ∀ g, Fl B (env :: outer) e oe.cls c (rawInt L) g → s.heap.UpToSlots g → Q () { s with heap := g }) : wpAny M A (noteFrame (.ref e) env) Q E s := by
  unfold noteFrame
  simp only [fL]
  refine wpAny_bind (wpAny_field e1 ed et ?_)
  rw [if_neg (by decide)]
  exact fl_entry fA fF fL e1 sB eB ed ec q
theorem fl_note (fA : A.frames = some (env :: outer)) (fL : env.frame = some L) (x : Fl B (env :: outer) e cls c .none s.heap)
    (q : ∀ g, Fl B (env :: outer) e cls c (rawInt L) g → s.heap.UpToSlots g → Q () { s with heap := g }) : wpAny M A (noteFrame (.ref e) env) Q E s := by
  obtain ⟨sB, eB, fF, oe, vs, T, oT, ts, e1, rfl, ed, ec, et, tB, tn, t1, td, t3⟩ := x
  unfold noteFrame
  simp only [fL]
  refine wpAny_bind (wpAny_field e1 ed et ?_)
  rw [if_pos (show (Value.ref T != Value.none) = true by simp)]
  refine wpAny_bind (wpAny_field t1 td t3 ?_)
  rw [if_neg (show ¬ ((Value.none == rawInt L) = true) by simp [rawInt])]
  refine wpAny_bind (wpAny_setField t1 td (Array.getElem?_eq_some_iff.mp t3).1 ?_)
  have oth : ∀ b, b ≠ T → (s.heap.update T (Obj.mapFields (·.setIfInBounds 3 Value.none))).get? b = s.heap.get? b := fun b n => Heap.get?_update_other _ _ (Ne.symm n)
  have rec0 : ∀ b o, s.heap.get? b = some o → (∀ ws, o.data ≠ .fields ws) → b ≠ T := fun b o y n z => by
    subst z; rw [t1] at y; cases y; exact n ts td
  refine fl_entry (s := { s with heap := s.heap.update T (Obj.mapFields (·.setIfInBounds 3 Value.none)) }) fA (fF.of_keeps fun b o y n => ⟨o, (oth b (rec0 b o y n)).trans y, rfl⟩) fL ((oth e (Ne.symm tn)).trans e1) (fun b o y => (oth b fun z => by subst z; rw [tB] at y; cases y).trans (sB b o y)) eB ed ec
    fun g y1 y2 => q g y1 fun b o z n => y2 b o ((oth b (rec0 b o z n)).trans z) n
theorem fl_land {l : List Env} {fl : Value} (x : Fl B l e cls c fl s.heap) (q : ∀ g, Fl B l e cls c .none g → s.heap.UpToSlots g → Q () { s with heap := g }) : wpAny M A (setFlight (.ref e) none) Q E s := by
  obtain ⟨sB, eB, fF, oe, vs, T, oT, ts, e1, ek, ed, ec, et, tB, tn, t1, td, t3⟩ := x
  have z3 : 3 < ts.size := (Array.getElem?_eq_some_iff.mp t3).1
  have oth : ∀ b, b ≠ T → (s.heap.update T (Obj.mapFields (·.setIfInBounds 3 ((none : Option Addr).elim Value.none fun f => rawInt f)))).get? b = s.heap.get? b := fun b n => Heap.get?_update_other _ _ (Ne.symm n)
  have rec0 : ∀ b o, s.heap.get? b = some o → (∀ ws, o.data ≠ .fields ws) → b ≠ T := fun b o y n z => by
    subst z; rw [t1] at y; cases y; exact n ts td
  unfold setFlight
  refine wpAny_bind (wpAny_field e1 ed et ?_)
  rw [if_pos (show (Value.ref T != Value.none) = true by simp)]
  refine wpAny_setField t1 td z3 (q _ ⟨fun b o y => (oth b fun z => by subst z; rw [tB] at y; cases y).trans (sB b o y), eB, fF.of_keeps fun b o y n => ⟨o, (oth b (rec0 b o y n)).trans y, rfl⟩, oe, vs, T, _, _, (oth e (Ne.symm tn)).trans e1, ek, ed, ec, et, tB, tn, Heap.get?_update_self _ t1 (Obj.isFreed_of_fields (Obj.data_mapFields td _)), Obj.data_mapFields td _, ?_⟩ fun b o y n => ⟨o.slots, (oth b (rec0 b o y n)).trans y⟩)
  simp [z3]
theorem fl_leave (fA : A.frames = some (env :: outer)) (fL : env.frame = some L) (x : Fl B (env :: outer) e cls c .none s.heap)
    (q : ∀ g, Fl B outer e cls c .none g → s.heap.UpToSlots g → Q () { s with heap := g }) : wpAny M A (leaving env (.ref e)) Q E s := by
  unfold leaving
  exact wpAny_bind (fl_note fA fL x fun g1 y1 u1 => fl_land (s := { s with heap := g1 }) y1 fun g2 y2 u2 => q g2 y2.rest (u1.trans u2))
theorem fl_leaveNew (fA : A.frames = some (env :: outer)) (fF : s.heap.FunFrames B (env :: outer)) (fL : env.frame = some L) (e1 : s.heap.get? e = some oe) (sB : B.StaysIn s.heap) (eB : B.get? e = none) (ed : oe.data = .fields vs) (ec : vs[2]? = some c) (et : vs[1]? = some .none)
    (q : ∀ g, Fl B outer e oe.cls c .none g → s.heap.UpToSlots g → Q () { s with heap := g }) : wpAny M A (leaving env (.ref e)) Q E s := by
  unfold leaving
  exact wpAny_bind (fl_new fA fF fL e1 sB eB ed ec et fun g1 y1 u1 => fl_land (s := { s with heap := g1 }) y1 fun g2 y2 u2 => q g2 y2.rest (u1.trans u2))
end
end L2
namespace L2
open PySem
inductive Reach (h : Heap) : Value → Value → Prop
  | refl (v : Value) : Reach h v v
  | step {a : Addr} {o : Obj} {vs : Array Value} {v u : Value} : h.get? a = some o → o.data = .fields vs → vs[2]? = some v → Reach h v u → Reach h (.ref a) u
theorem Reach.snoc {h : Heap} {u : Value} {b : Addr} {o : Obj} {vs : Array Value} {v : Value} (x : Reach h u (.ref b)) (e1 : h.get? b = some o) (e2 : o.data = .fields vs) (e3 : vs[2]? = some v) : Reach h u v := by
  generalize hz : Value.ref b = z at x
  induction x with
  | refl y => subst hz; exact .step e1 e2 e3 (.refl _)
  | step a1 a2 a3 _ ih => exact .step a1 a2 a3 (ih hz)
noncomputable def Chain (h : Heap) (F : Addr → Prop) : Nat → Value → Prop
  | 0, v => v = .none
  | n + 1, v => v = .none ∨ ∃ a o vs c, v = .ref a ∧ h.get? a = some o ∧ F a ∧ o.data = .fields vs ∧ vs[2]? = some c ∧ Chain h F n c
theorem Chain.imp {h g : Heap} {F G : Addr → Prop} (k : ∀ a o vs, F a → h.get? a = some o → o.data = .fields vs → g.get? a = some o ∧ G a) : ∀ {n : Nat} {v : Value}, Chain h F n v → Chain g G n v
  | 0, _, x => x
  | n + 1, _, x => by
    rcases x with x | ⟨a, o, vs, c, e1, e2, e3, e4, e5, r⟩
    · exact .inl x
    · exact .inr ⟨a, o, vs, c, e1, (k a o vs e3 e2 e4).1, (k a o vs e3 e2 e4).2, e4, e5, Chain.imp k r⟩
noncomputable def ChainP (ps : List (Addr × Obj)) : Nat → Value → Prop
  | 0, v => v = .none
  | n + 1, v => v = .none ∨ ∃ a o vs c, v = .ref a ∧ (a, o) ∈ ps ∧ o.data = .fields vs ∧ vs[2]? = some c ∧ ChainP ps n c
theorem ChainP.more {ps qs : List (Addr × Obj)} (k : ∀ p ∈ ps, p ∈ qs) : ∀ {n : Nat} {v : Value}, ChainP ps n v → ChainP qs n v
  | 0, _, x => x
  | n + 1, _, x => by
    rcases x with x | ⟨a, o, vs, c, e1, e2, e4, e5, r⟩
    · exact .inl x
    · exact .inr ⟨a, o, vs, c, e1, k _ e2, e4, e5, ChainP.more k r⟩
theorem Chain.pins {h : Heap} {F : Addr → Prop} : ∀ {n : Nat} {v : Value}, Chain h F n v → ∃ ps : List (Addr × Obj), (∀ p ∈ ps, h.get? p.1 = some p.2 ∧ F p.1 ∧ ∃ vs, p.2.data = .fields vs) ∧ ChainP ps n v
  | 0, _, x => ⟨[], fun _ y => absurd y (by simp), x⟩
  | n + 1, _, x => by
    rcases x with x | ⟨a, o, vs, c, e1, e2, e3, e4, e5, r⟩
    · exact ⟨[], fun _ y => absurd y (by simp), .inl x⟩
    · obtain ⟨ps, k, r⟩ := Chain.pins r
      refine ⟨(a, o) :: ps, fun p y => ?_, .inr ⟨a, o, vs, c, e1, List.mem_cons_self, e4, e5, r.more fun p y => List.mem_cons_of_mem _ y⟩⟩
      rcases List.mem_cons.mp y with rfl | y
      · exact ⟨e2, e3, vs, e4⟩
      · exact k p y
section
variable {prog : Program} {w : World}
end
end L2
namespace L2
open PySem
section
variable {prog : Program} {w : World} {A : Around} {E : Value → Shared → Prop} {env : Env}
variable {nm q : Str} {C N : Addr} {bs bm bmB : List Value} {hdct : Bool} {sn : List Str} {sub : List Value} {ab : Bool} {col : Option Bool} {dd : Option Addr} {k0 k1 k2 k3 k5 : Option Value} {newId : String}
end
end L2
namespace L2
open PySem
section
variable {prog : Program} {w : World} {A : Around} {E : Value → Shared → Prop} {s : Shared} {env : Env}
variable {nm q : Str} {C N : Addr} {bs bm bmB : List Value} {hdct : Bool} {sn : List Str} {sub : List Value} {ab : Bool} {col : Option Bool} {dd : Option Addr} {k0 k1 k2 k3 k5 : Option Value} {T newId initId : String}
end
end L2
namespace L2
open PySem PySem.Spec PyProof.Rows
theorem hok_none {P : Program} {w : World} {H : Hp} {h : Heap} {a : Addr} (x : HOk P w H h) (e : h.get? a = none) : H a = none := by
  cases q : H a with
  | none => rfl
  | some o =>
    have y := x a o q
    have : ∃ ob, h.get? a = some ob := by
      cases o with
      | lst xs => obtain ⟨_, _, _, _, e⟩ := y; exact ⟨_, e⟩
      | tup xs => obtain ⟨_, _, _, ⟨_, e, _⟩, _⟩ := y; exact ⟨_, e⟩
      | dK kvs => obtain ⟨_, _, _, _, o, _, _, e, _⟩ := y; exact ⟨_, e⟩
      | dT kvs => obtain ⟨_, _, _, _, o, _, _, e, _⟩ := y; exact ⟨_, e⟩
      | set S n => obtain ⟨o, _, _, _, e, _⟩ := y; exact ⟨_, e⟩
      | ins C dx fs => obtain ⟨_, _, _, e, _⟩ := y; exact ⟨_, e⟩
      | own y => obtain ⟨_, e⟩ := y; exact ⟨_, e⟩
      | xd fs => obtain ⟨_, ⟨_, _, _, e, _⟩, _⟩ := y; exact ⟨_, e⟩
      | rng lo hi => obtain ⟨_, _, _, e⟩ := y; exact ⟨_, e⟩
      | frz ob u => obtain ⟨e, _⟩ := y; exact ⟨_, e⟩
      | tbl ps => exact ⟨_, show h.get? a = some _ from y⟩
      | met f z => exact ⟨_, show h.get? a = some _ from y⟩
      | ext φ => obtain ⟨_, ⟨_, e⟩, _⟩ := y; exact ⟨_, e⟩
    obtain ⟨ob, z⟩ := this
    rw [e] at z; cases z
structure Flown (P : Program) (w : World) (outer : List Env) (H : Hp) (s : Shared) (x C : Addr) (c : Value) (B : Heap) (H' : Hp) (s' : Shared) : Prop where
  fly : Fl B outer x (.ref C) c .none s'.heap
  os : s'.os = s.os
  bare : AllBare s'.gens
  k1 : ∀ b o, s.heap.get? b = some o → H b = none → b ∉ frs outer → B.get? b = some o
  k2 : ∀ b o, s.heap.get? b = some o → H b = none → b ∈ frs outer → ∃ sl, s'.heap.get? b = some { o with slots := sl }
  k3 : ∀ b o, s.heap.get? b = some o → b ∉ frs outer → ∃ o', B.get? b = some o'
  free : ∀ b o, s.heap.get? b = some o → H b = none → H' b = none
  tups : ∀ b xs, H b = some (.tup xs) → H' b = some (.tup xs)
  frzs : ∀ b o u, H b = some (.frz o u) → H' b = some (.frz o u)
  tbls : ∀ b ps, H b = some (.tbl ps) → ∃ more, H' b = some (.tbl (ps ++ more))
  hok : HOk P w H' B
  new : H' x = none
  ch : ∃ n, Chain B (fun a => H' a = none) n c
noncomputable def CXR (P : Program) (w : World) : CXT := fun outer H s E e s' => ∃ (x C : Addr) (c : Value) (B : Heap) (H' : Hp), e = .ref x ∧ Flown P w outer H s x C c B H' s' ∧ E (.ref C) none H'
theorem Flown.un {P : Program} {w : World} {outer : List Env} {H : Hp} {s : Shared} {x C : Addr} {c : Value} {B : Heap} {H' : Hp} {s' : Shared} (F : Flown P w outer H s x C c B H' s') {h : Heap} (st : B.StaysIn h) (up : s'.heap.UpToSlots h) : Un (frs outer) [] H H' s.heap h := by
  have nf : ∀ b ∈ frs outer, ∀ o, s'.heap.get? b = some o → ∀ vs, o.data ≠ .fields vs := fun b hb o e => by
    obtain ⟨_, o', ho', n'⟩ := F.fly.2.2.1.mem hb
    rw [e] at ho'; cases ho'; exact n'
  refine ⟨fun b o e n hb _ => st b o (F.k1 b o e n hb), fun b o e n hb _ => ?_, fun b o e n _ => F.free b o e n, fun b o e _ => ?_, F.tups, F.frzs, F.tbls⟩
  · obtain ⟨sl, q⟩ := F.k2 b o e n hb
    obtain ⟨sl', q'⟩ := up b _ q (nf b hb _ q)
    exact ⟨sl', q'⟩
  · by_cases hb : b ∈ frs outer
    · obtain ⟨_, o', ho', n'⟩ := F.fly.2.2.1.mem hb
      obtain ⟨sl', q'⟩ := up b _ ho' n'
      exact ⟨_, q'⟩
    · obtain ⟨o', q⟩ := F.k3 b o e hb
      exact ⟨o', st b o' q⟩
section
variable {P : Program} {w : World} {K : PySem.W.Frag} {mg : Str → Option Value} {base : Heap} {N : List Str} {qual : Str} {scope : Scope} {f : Addr} {cd : Value} {A : Around} {outer : List Env} {s : Shared} {H : Hp} {E : XK}
theorem frs_cons {env : Env} {l : List Env} {b : Addr} (h : b ∈ frs l) : b ∈ frs (env :: l) := by
  unfold frs at h ⊢
  obtain ⟨e, he, hf⟩ := List.mem_filterMap.mp h
  exact List.mem_filterMap.mpr ⟨e, List.mem_cons_of_mem _ he, hf⟩
theorem cx_raise {pins : List (Addr × Obj)} {σ : St} {H1 : Hp} {s1 : Shared} {g : Heap} {x C : Addr} {oe : Obj} {vs : Array Value} {c : Value} (I : Inv (cxOf (CXR P w) P w K mg base N qual scope f cd A outer s H E) pins σ H1 s1)
    (kp : ∀ b o, s1.heap.get? b = some o → g.get? b = some o) (xn : s1.heap.get? x = none) (xg : g.get? x = some oe) (xk : oe.cls = .ref C) (xd : oe.data = .fields vs) (x1 : vs[1]? = some .none) (x2 : vs[2]? = some c) (xh : ∃ n, Chain s1.heap (fun a => H1 a = none) n c)
    (q : E (.ref C) none H1) : (cxOf (CXR P w) P w K mg base N qual scope f cd A outer s H E).xe (.ref x) { s1 with heap := g } := by
  have notF : ∀ b o, s.heap.get? b = some o → b ∉ frs outer → b ∉ frs (envOfC qual scope s.heap.objs.size f cd :: outer) := fun b o e hb z => by
    rcases List.mem_cons.mp (I.stkSub b z) with y | y
    · exact absurd (Heap.lt_size e) (by rw [y]; exact Nat.lt_irrefl _)
    · exact hb y
  have noex : ∀ b : Addr, b ∉ (cxOf (CXR P w) P w K mg base N qual scope f cd A outer s H E).ex := fun b z => absurd (show b ∈ ([] : List Addr) from z) (by simp)
  have fF : s1.heap.FunFrames (PySem.W.hideAll s1.heap (frs (envOfC qual scope s.heap.objs.size f cd :: outer))) (envOfC qual scope s.heap.objs.size f cd :: outer) :=
    PySem.W.funFrames_hide I.stack fun env he a ha => List.mem_filterMap.mpr ⟨env, he, ha⟩
  have notR : ∀ b o ws, s1.heap.get? b = some o → o.data = .fields ws → b ∉ frs (envOfC qual scope s.heap.objs.size f cd :: outer) := fun b o ws e2 e3 y => by
    obtain ⟨_, o', e4, n4⟩ := fF.mem y
    rw [e2] at e4; cases e4; exact n4 ws e3
  have nB : (PySem.W.hideAll s1.heap (frs (envOfC qual scope s.heap.objs.size f cd :: outer))).get? x = none := by
    cases z : (PySem.W.hideAll s1.heap (frs (envOfC qual scope s.heap.objs.size f cd :: outer))).get? x with
    | none => rfl
    | some o =>
      have z2 := PySem.W.of_hideAll _ z
      rw [xn] at z2; cases z2
  obtain ⟨n, xh⟩ := xh
  refine fl_leaveNew (s := { s1 with heap := g }) (B := PySem.W.hideAll s1.heap (frs (envOfC qual scope s.heap.objs.size f cd :: outer))) (outer := outer) (L := s.heap.objs.size) I.ok.frames (fF.of_keeps fun b o y _ => ⟨o, kp b o y, rfl⟩) rfl xg (fun b o z => kp b o (PySem.W.of_hideAll _ z)) nB xd x2 x1
    fun g2 fl up => ⟨x, C, c, _, H1, rfl, ⟨xk ▸ fl, I.os, I.bare, fun b o e n hb => ?_, fun b o e n hb => ?_, fun b o e hb => ?_, fun b o e n => I.base.free b o e n (noex b), I.base.tups, I.base.frzs, I.base.tbls, fun b u e => ?_, hok_none I.hok xn, n, xh.imp fun a o ws na ea da => ⟨PySem.W.hideAll_get _ ea (notR a o ws ea da), na⟩⟩, q⟩
  · exact PySem.W.hideAll_get _ (I.base.keep b o e n hb (noex b)) (notF b o e hb)
  · obtain ⟨sl, z⟩ := I.base.slot b o e n hb (noex b)
    obtain ⟨_, o', ho', nf⟩ := I.funs.mem hb
    rw [z] at ho'; cases ho'
    obtain ⟨sl', z'⟩ := up b _ (kp _ _ z) nf
    exact ⟨sl', z'⟩
  · obtain ⟨o', z⟩ := I.base.there b o e (noex b)
    exact ⟨o', PySem.W.hideAll_get _ z (notF b o e hb)⟩
  · have nfr : ∀ c v, H1 c = some v → c ∉ frs (envOfC qual scope s.heap.objs.size f cd :: outer) := fun c v e z => by
      rw [I.stkFree c z] at e; cases e
    refine (show ObjOk P w H1 s1.heap b u from I.hok b u e).stay (fun c v hc z => PySem.W.hideAll_get _ z ?_) (fun _ z => z) fun _ _ z => z
    rcases hc with y | y
    · rw [y]; exact nfr b u e
    · exact nfr c _ y
theorem cx_pass : Passes (CXR P w) (cxOf (CXR P w) P w K mg base N qual scope f cd A outer s H E) E := by
  intro pins σ H1 s1 e s' I h
  obtain ⟨x, C, c, B, H', rfl, F, q⟩ := h
  have noex : ∀ b : Addr, b ∉ (cxOf (CXR P w) P w K mg base N qual scope f cd A outer s H E).ex := fun b z => absurd (show b ∈ ([] : List Addr) from z) (by simp)
  have notF : ∀ b o, s.heap.get? b = some o → b ∉ frs outer → b ∉ frs (envOfC qual scope s.heap.objs.size f cd :: outer) := fun b o e hb z => by
    rcases List.mem_cons.mp (I.stkSub b z) with y | y
    · exact absurd (Heap.lt_size e) (by rw [y]; exact Nat.lt_irrefl _)
    · exact hb y
  refine fl_leave (outer := outer) (L := s.heap.objs.size) I.ok.frames rfl F.fly fun h'' fl up => ⟨x, C, c, B, H', rfl, ⟨fl, F.os.trans I.os, F.bare, fun b o e n hb => ?_, fun b o e n hb => ?_, fun b o e hb => ?_, fun b o e n => ?_, fun b xs e => F.tups b xs (I.base.tups b xs e), fun b o u e => F.frzs b o u (I.base.frzs b o u e), fun b ps e => ?_, F.hok, F.new, F.ch⟩, q⟩
  · exact F.k1 b o (I.base.keep b o e n hb (noex b)) (I.base.free b o e n (noex b)) (notF b o e hb)
  · obtain ⟨sl, z⟩ := I.base.slot b o e n hb (noex b)
    obtain ⟨sl', z'⟩ := F.k2 b _ z (I.base.free b o e n (noex b)) (frs_cons hb)
    have hb' : b ∈ frs (envOfC qual scope s.heap.objs.size f cd :: outer) := frs_cons hb
    obtain ⟨_, o2, ho2, nf2⟩ := F.fly.2.2.1.mem hb'
    rw [z'] at ho2; cases ho2
    obtain ⟨sl2, z2⟩ := up b _ z' nf2
    exact ⟨sl2, z2⟩
  · obtain ⟨o', z⟩ := I.base.there b o e (noex b)
    exact F.k3 b o' z (notF b o e hb)
  · obtain ⟨o', z⟩ := I.base.there b o e (noex b)
    exact F.free b o' z (I.base.free b o e n (noex b))
  · obtain ⟨m1, e1⟩ := I.base.tbls b ps e
    obtain ⟨m2, e2⟩ := F.tbls b _ e1
    exact ⟨m1 ++ m2, by rw [e2, Array.append_assoc]⟩
theorem Fun.okX {x qual : Str} {st : Stmt} {f : Addr} {fd : FuncData} {N ps : List Str} {k : Nat} {sp : Sp} (F : Fun K x qual st f fd) (S : FnScope N ps (defScope st)) (len : ∀ vs H Q E, sp vs H Q E → vs.length = ps.length)
    (hbody : ∀ (cdv : Value) (A : Around) (outer : List Env) (s : Shared) (H : Hp) (vs : List V) (Q : VK) (E : XK), Room k (A.deeper (envOfC qual (defScope st) s.heap.objs.size f cdv)) → sp vs H Q E →
      ∃ t, PSs (cxOf (CXR P w) P w K mg base N qual (defScope st) f cdv A outer s H E) (defBody st) t ∧ t { nx := fun _ H' => Q .non H', rt := Q } (start N vs) H) : FnOk P w K mg base (CXR P w) (k + 1) f fd ps sp := by
  obtain ⟨oc, od, kV, doc, pm, an, cdv, ct, osl, rfl, lk, hcd⟩ := F.ex
  exact fn_of lk hcd S len fun A outer s H vs Q E hr hsp => hbody cdv A outer s H vs Q E hr hsp
end
theorem FnOk.calm {P : Program} {w : World} {K : PySem.W.Frag} {mg : Str → Option Value} {base : Heap} {CX : CXT} {k : Nat} {f : Addr} {fd : FuncData} {ps : List Str} {sp : Sp} (F : FnOk P w K mg base CX0 k f fd ps sp) : FnOk P w K mg base CX k f fd ps sp :=
  ⟨F.len, fun A outer s H args us vs Q E hr he hb hv hs => codeAny_mono (F.run A outer s H args us vs Q E hr he hb hv hs) fun r s' h => by
    cases r with
    | error e => exact False.elim h
    | ok fl => cases fl <;> exact h⟩
structure FnX (P : Program) (w : World) (K : PySem.W.Frag) (mg : Str → Option Value) (base : Heap) (x : Str) (f : Addr) (fd : FuncData) (ps : List Str) (k : Nat) (sp : Sp) : Prop where
  ok : FnOk P w K mg base (CXR P w) k f fd ps sp
  mg : mg x = some (.ref f)
  kp : PySem.W.keepIn K (.ref f) = true
  bd : Binds K fd ps []
end L2
namespace L2
open PySem PySem.Spec PyProof.Rows
structure Exc (K : PySem.W.Frag) (mg : Str → Option Value) (x : Str) (C : Addr) (mro : List Value) : Prop where
  bound : mg x = some (.ref C)
  isin : PySem.W.excIn K C [.type "ValueError", .type "Exception", .type "BaseException", .type "object"] "ValueError.__new__" = true
  mro : ∃ c d cd sl, K.lookup C = some ⟨c, d, .cls cd, sl⟩ ∧ cd.mro = mro
theorem Exc.obj {K : PySem.W.Frag} {mg : Str → Option Value} {x : Str} {C : Addr} {mro : List Value} (O : Exc K mg x C mro) {h : Heap} (X : K.In h) :
    ∃ bm N nm q bs hdct sn sub ab col dd k0 k1 k2 k3 k5 mN, h.get? C = some (excClassObj nm q C N bs bm hdct sn sub ab col dd k0 k1 k2 k3 k5 "ValueError.__new__") ∧ h.Ns N mN ∧ mN "__init__" = none ∧
      OwnTail h [.type "ValueError", .type "Exception", .type "BaseException", .type "object"] bm ∧ mro = .ref C :: bm := by
  obtain ⟨_, q, c0, d0, cd0, sl0, lk, em⟩ := O
  unfold PySem.W.excIn at q
  rw [lk] at q
  split at q
  · rename_i dd cd sl ho
    cases ho
    split at q
    · rename_i C' bm k0 k1 k2 k3 n k5 hm hs
      simp only [Bool.and_eq_true, beq_iff_eq, Bool.not_eq_true'] at q
      obtain ⟨⟨⟨⟨⟨rfl, rfl⟩, hdel⟩, ht⟩, hok⟩, hni⟩ := q
      obtain ⟨nm, bs, mr, ns, qn, hd, sn, sub, ab, col, del⟩ := cd0
      dsimp only at hm hdel hok hni em
      subst hm hdel
      have hsl : sl0 = #[k0, k1, k2, k3, some (.builtin "ValueError.__new__"), k5] := by
        obtain ⟨l⟩ := sl0
        simp only at hs
        rw [hs]
      subst hsl
      exact ⟨bm, ns, nm, qn, bs, hd, sn, sub, ab, col, d0, k0, k1, k2, k3, k5, _, X _ _ lk, .of_isNs (PySem.W.isNs_of_in X hok), PySem.W.nsMap_none_of_in X hok hni, PySem.W.tail_of_in X ht, em.symm⟩
    · cases q
  · cases q
noncomputable def tRaise (C : Addr) (E : XK) (ta : TA) : TS := fun _ σ H => ta σ H fun vs H1 => vs.length ≤ sizeLine ∧ E (.ref C) none H1
theorem ps_raise {P : Program} {w : World} {K : PySem.W.Frag} {mg : Str → Option Value} {base : Heap} {N : List Str} {qual : Str} {scope : Scope} {f : Addr} {cd : Value} {A : Around} {outer : List Env} {s₀ : Shared} {H₀ : Hp} {E : XK}
    {x : Str} {C : Addr} {mro : List Value} {e : Expr} {es : List Expr} {ta : TA} {np cpos pos : Pos} (O : Exc K mg x C mro) (ha : PA (cxOf (CXR P w) P w K mg base N qual scope f cd A outer s₀ H₀ E) (e :: es) ta)
    (hg : Gl (cxOf (CXR P w) P w K mg base N qual scope f cd A outer s₀ H₀ E) x := by rfl) (hdb : (x == ("__debug__" : Str)) = false := by decide)
    (he : starEach (e :: es) (envOfC qual scope s₀.heap.objs.size f cd) = (false, eval e (envOfC qual scope s₀.heap.objs.size f cd)) :: starEach es (envOfC qual scope s₀.heap.objs.size f cd) := by rfl)
    (hpl : (backTo cpos (starEach es (envOfC qual scope s₀.heap.objs.size f cd))).any (·.1) = false := by rfl) :
    PS (cxOf (CXR P w) P w K mg base N qual scope f cd A outer s₀ H₀ E) (.Raise (some (.Call (.Name x np) (e :: es) [] cpos)) none pos) (tRaise C E ta) := by
  intro pins s σ H D I h
  obtain ⟨bm, N', nm, q, bs, hdct, sn, sub, ab, col, dd, k0, k1, k2, k3, k5, mN, hC, hN, hni, T, _⟩ := O.obj I.ok.mod.kin
  refine wpAny_Raise_call_subT (C := C) (nm := nm) (q := q) (N := N') (bs := bs) (bm := bm) (hdct := hdct) (sn := sn) (sub := sub) (ab := ab) (col := col) (dd := dd) (k0 := k0) (k1 := k1) (k2 := k2) (k3 := k3) (k5 := k5) (mN := mN)
    PySem.F.excBase_ValueError (T.hasType PySem.F.excBase_ValueError.hasBase) (I.ok.hd rfl) ?_ hni (ld_glob I hg O.bound ⟨rfl, ?_⟩ hdb)
  · show (backTo cpos (starEach (e :: es) (envOfC qual scope s₀.heap.objs.size f cd))).any (·.1) = false
    rw [he]
    show (false || (backTo cpos (starEach es (envOfC qual scope s₀.heap.objs.size f cd))).any (·.1)) = false
    rw [hpl]; rfl
  have hA := ha cpos pins s σ H _ I h
  show wpAny _ _ (evalArgs (.ref C) true (backTo cpos (starEach (e :: es) (envOfC qual scope s₀.heap.objs.size f cd))) []) _ _ s
  have hA' : wpAny (model P w) (cxOf (CXR P w) P w K mg base N qual scope f cd A outer s₀ H₀ E).A (spliced (backTo cpos (starEach (e :: es) (envOfC qual scope s₀.heap.objs.size f cd)))) _ _ s := hA
  rw [he] at hA' ⊢
  refine Calls.evalArgs_plain (thn hA' fun us s1 ⟨vs, H1, I1, r, hz, q1⟩ => ⟨rfl, by rw [← r.length]; exact hz, I1.bk _ _ hC, hN.keeps I1.bk, T.keeps I1.bk, fun h' x' hm => (let ⟨t, e1, _, _⟩ := hm.there; cx_raise I1 hm.keeps hm.new e1 rfl rfl rfl rfl ⟨0, rfl⟩ q1)⟩)
noncomputable def XP (X : Cx) (pins : List (Addr × Obj)) (σ : St) (Ex : XK) (e : Value) (s' : Shared) : Prop := ∃ H1 s1, Inv X pins σ H1 s1 ∧ CXR X.prog X.w X.stack H1 s1 Ex e s'
noncomputable abbrev TX := St → Hp → VK → XK → Prop
noncomputable def PEx (X : Cx) (e : Expr) (t : TX) : Prop :=
  ∀ (pins : List (Addr × Obj)) (s : Shared) (σ : St) (H : Hp) (Q : VK) (Ex : XK), Inv X pins σ H s → t σ H Q Ex → wpAny (model X.prog X.w) X.A (eval e X.env) (EP X pins σ Q) (XP X pins σ Ex) s
section
variable {X : Cx} {e : Expr} {es : List Expr} {pos : Pos}
theorem noxe {α : Type} {t : Sem α} {Q : α → Shared → Prop} {M : Model} {A : Around} {E : Value → Shared → Prop} {s : Shared} (h : wpAny M A t Q X.nox.xe s) : wpAny M A t Q E s := wpAny_mono h (fun _ _ z => z) fun _ _ z => False.elim z
variable {k : Nat} {f C : Addr} {fd : FuncData} {ps : List Str} {sp : Sp} {m x : Str} {p apos : Pos} {o : Expr} {ta : TE} {t : TA}
theorem run_fnx {pins : List (Addr × Obj)} {σ : St} {H : Hp} {s : Shared} {Q : VK} {Ex : XK} {us : List Value} {vs : List V} (F : FnOk X.prog X.w X.K X.mg X.base (CXR X.prog X.w) k f fd ps sp) (hr : Room k X.A) (hb : Binds X.K fd ps [])
    (I : Inv X pins σ H s) (r : Vals vs us) (h : sp vs H Q Ex) : wpAny (model X.prog X.w) X.A (call (.ref f) us) (EP X pins σ Q) (XP X pins σ Ex) s := by
  have hl : (us ++ []).length = ps.length := by rw [List.append_nil, ← r.length]; exact F.len _ _ _ _ h
  have hb' := hb s us I.kIn hl
  rw [List.append_nil] at hb'
  refine wpAny_call (codeAny_mono (F.run X.A X.stack s H ⟨us, []⟩ us vs Q Ex hr I.env0 hb' r h) fun r s' hq => ?_)
  cases r with
  | error e => exact ⟨H, s, I, hq⟩
  | ok fl =>
    cases fl with
    | ret u => exact I.after hq
    | next => exact False.elim hq
    | brk => exact False.elim hq
    | cont => exact False.elim hq
theorem px_call (F : FnOk X.prog X.w X.K X.mg X.base (CXR X.prog X.w) k f fd ps sp) (hr : Room k X.A) (hg : Gl X x) (hm : X.mg x = some (.ref f)) (hk : PySem.W.keepIn X.K (.ref f) = true) (hb : Binds X.K fd ps []) (ha : PA X.nox (e :: es) t)
    (hdb : (x == ("__debug__" : Str)) = false := by decide) (he : starEach (e :: es) X.env = (false, eval e X.env) :: starEach es X.env := by rfl) (hpl : (backTo pos (starEach es X.env)).any (·.1) = false := by rfl) :
    PEx X.nox (.Call (.Name x p) (e :: es) [] pos) (fun σ H Q Ex => t σ H fun vs H1 => sp vs H1 Q Ex) := by
  intro pins s σ H Q Ex I h
  refine wpAny_Call_Name_kw (ld_glob I hg hm ?_ hdb)
  refine PySem.W.callWith_K (h₀ := X.base) I.ok.mod.kin hk (thn (noxe (ha pos pins s σ H _ I h)) fun us s1 ⟨vs, H1, I1, r, q⟩ => ⟨I1.kIn, ?_⟩) he hpl
  exact run_fnx (X := X.nox) F hr hb I1 r q
end
noncomputable abbrev Cx.caught (X : Cx) (x : Addr) (ps : List (Addr × Obj)) : Cx := { X with A := X.A.mark (some (.ref x)), calm := false, pn := ps ++ X.pn }
theorem caught_ok {X : Cx} {e : Addr} {ps : List (Addr × Obj)} (ok : X.Ok) : (X.caught e ps).Ok :=
  ⟨ok.mod, ok.kind, ok.glob, ok.blt, ok.above, ok.inj, ok.has, ok.cab, fun z => absurd (show false = true from z) Bool.false_ne_true, ok.frames, ok.stk, ok.exf, ok.bs, ok.bsz, ok.noex, ok.exfs, ok.funs, ok.frf⟩
theorem Inv.caught {X : Cx} {e : Addr} {ps pins : List (Addr × Obj)} {σ : St} {H : Hp} {s : Shared} (I : Inv X pins σ H s) (hp : ∀ p ∈ ps, s.heap.get? p.1 = some p.2 ∧ H p.1 = none ∧ p.1 ≠ X.env.locals ∧ p.1 ∉ X.fs ∧ ∀ v, p.2.data ≠ .cell v) : Inv (X.caught e ps) pins σ H s :=
  ⟨caught_ok I.ok, I.os, I.bare, I.base, I.loc, I.cell, I.free, I.freeC, fun p z => by
    rcases List.mem_append.mp z with z | z
    · rcases List.mem_append.mp z with z | z
      · exact hp p z
      · exact I.pin p (List.mem_append_left _ z)
    · exact I.pin p (List.mem_append_right _ z), I.hok, I.len⟩
noncomputable def HeadP (ps : List (Addr × Obj)) (x : Addr) : Prop := ∃ n, ChainP ps (n + 1) (.ref x)
inductive Hs (X : Cx) : List ExceptHandler → List (Addr × TS) → Prop where
  | nil : Hs X [] []
  | cons {x : Str} {C : Addr} {mro : List Value} {b₀ : Stmt} {suite : List Stmt} {pos np : Pos} {rest : List ExceptHandler} {ts : TS} {l : List (Addr × TS)} (O : Exc X.K X.mg x C mro) (hg : Gl X x) (hdb : (x == ("__debug__" : Str)) = false)
      (hs : ∀ e ps, X.Ok → HeadP ps e → PSs (X.caught e ps) (b₀ :: suite) ts) (r : Hs X rest l) : Hs X (.ExceptHandler (some (.Name x np)) none (b₀ :: suite) pos :: rest) ((C, ts) :: l)
structure RoomH (k : Nat) (A : Around) : Prop where
  dp : A.depth + 3 * k + 5 < recursionLimit
  un : A.units + 16 * k + 200 < cLine
theorem Room.h {k : Nat} {A : Around} (r : Room k A) (v : Option Value) : RoomH k (A.mark v) := ⟨r.dp, r.un⟩
structure FnOkH (P : Program) (w : World) (K : PySem.W.Frag) (mg : Str → Option Value) (base : Heap) (k : Nat) (f : Addr) (fd : FuncData) (ps : List Str) (sp : Sp) : Prop where
  len : ∀ vs H Q E, sp vs H Q E → vs.length = ps.length
  run : ∀ (A : Around) (outer : List Env) (s : Shared) (H : Hp) (args : Args) (us : List Value) (vs : List V) (Q : VK) (E : XK), RoomH k A → Env0 P w K mg base A outer s H → BindsTo s fd args (ps.zip us) → Vals vs us → sp vs H Q E →
    codeAny (model P w) A (.call (.ref f) args) (CR CX0 outer P w H s Q E) s
section
variable {P : Program} {w : World} {K : PySem.W.Frag} {mg : Str → Option Value} {base : Heap}
end
section
variable {X : Cx} {k : Nat} {f C : Addr} {fd : FuncData} {ps : List Str} {sp : Sp} {m : Str} {pos apos : Pos} {e o : Expr} {es : List Expr} {ta : TE} {t : TA}
end
section
variable {P : Program} {w : World} {K : PySem.W.Frag} {mg : Str → Option Value} {base : Heap} {N : List Str} {qual : Str} {scope : Scope} {f' : Addr} {cd : Value} {A : Around} {outer : List Env} {s₀ : Shared} {H₀ : Hp} {E : XK}
  {x : Str} {f : Addr} {fd : FuncData} {ps : List Str} {k k' : Nat} {sp : Sp} {e : Expr} {es : List Expr} {t : TA} {p pos : Pos}
theorem pe_fnX (F : FnX P w K mg base x f fd ps k sp) (hr : Room k' (cxOf (CXR P w) P w K mg base N qual scope f' cd A outer s₀ H₀ E).A) (ha : PA (cxOf (CXR P w) P w K mg base N qual scope f' cd A outer s₀ H₀ E) (e :: es) t) (hk : k ≤ k' := by first | decide | exact Nat.le_refl _) (hg : Gl (cxOf (CXR P w) P w K mg base N qual scope f' cd A outer s₀ H₀ E) x := by rfl) (hdb : (x == ("__debug__" : Str)) = false := by decide)
    (he : starEach (e :: es) (envOfC qual scope s₀.heap.objs.size f' cd) = (false, eval e (envOfC qual scope s₀.heap.objs.size f' cd)) :: starEach es (envOfC qual scope s₀.heap.objs.size f' cd) := by rfl) (hpl : (backTo pos (starEach es (envOfC qual scope s₀.heap.objs.size f' cd))).any (·.1) = false := by rfl) :
    PE (cxOf (CXR P w) P w K mg base N qual scope f' cd A outer s₀ H₀ E) (.Call (.Name x p) (e :: es) [] pos) (tCall sp [] E t) :=
  pe_call F.ok (hr.mono hk) hg F.mg F.kp F.bd .nil cx_pass ha hdb he hpl
end
section
variable {X : Cx} {x : Str} {f : Addr} {fd : FuncData} {ps : List Str} {k k' : Nat} {sp : Sp} {e : Expr} {es : List Expr} {t : TA} {p pos : Pos}
theorem px_fn (F : FnX X.prog X.w X.K X.mg X.base x f fd ps k sp) (hr : Room k' X.A) (ha : PA X.nox (e :: es) t) (hk : k ≤ k' := by first | decide | exact Nat.le_refl _) (hg : Gl X x := by rfl) (hdb : (x == ("__debug__" : Str)) = false := by decide)
    (he : starEach (e :: es) X.env = (false, eval e X.env) :: starEach es X.env := by rfl) (hpl : (backTo pos (starEach es X.env)).any (·.1) = false := by rfl) :
    PEx X.nox (.Call (.Name x p) (e :: es) [] pos) (fun σ H Q Ex => t σ H fun vs H1 => sp vs H1 Q Ex) :=
  px_call F.ok (hr.mono hk) hg F.mg F.kp F.bd ha hdb he hpl
end
end L2
namespace L2
open PySem PySem.Spec PyProof.Rows
section
variable {X : Cx} {pos : Pos}
end
end L2
namespace L2
open PySem PySem.Spec PyProof.Rows
section
variable {X : Cx}
theorem call_sumL (hc : X.calm = true) : CallR X (.builtin "sum") (fun xs H Q => ∃ (p : Addr) (ns : List Int), xs = [.ref p] ∧ SqL X.K H p (ns.map V.int) ∧ Q (.int ns.sum) H) := by
  intro pins s σ H xs us Q I r h
  obtain ⟨p, ns, rfl, hq, q⟩ := h
  obtain ⟨u, rfl, rx⟩ := vals1 r
  cases rx
  obtain ⟨its, rv, pl, hz⟩ := I.list hq
  have hlen : its.length = ns.length := by rw [← rv.length, List.length_map]
  have plt : p < s.heap.objs.size := by
    obtain ⟨o, ho, _⟩ := pl.isList
    exact Heap.lt_size ho
  have hh : X.A.in1.handled = none := I.ok.hd hc
  refine call_sum_walkG (wpAny_pyIter_list pl.isList ⟨s.heap.objs.size, _, _, _, _, _, fun i => ns.getD i 0, rfl, Walks.list hh s.heap.objs.size p (Nat.ne_of_lt plt) its.toArray, ⟨⟨_, Heap.get?_push_size _ rfl, rfl, rfl⟩, pl.isList.push _⟩, fun b hb => ?_, fun i v hv => ?_, fun h' tk t' k => ?_⟩)
  · show b < (s.heap.push _).objs.size
    rw [Heap.size_push]
    have : b = s.heap.objs.size ∨ b = p := by simpa using hb
    rcases this with rfl | rfl
    · exact Nat.lt_succ_self _
    · exact Nat.lt_succ_of_lt plt
  · have hv' : its[i]? = some v := by simpa using hv
    have hi : i < ns.length := by rw [← hlen]; exact (List.getElem?_eq_some_iff.mp hv').1
    obtain ⟨u, hu, ru⟩ := rv.get (i := i) (x := .int ns[i]) (by rw [List.getElem?_map, List.getElem?_eq_getElem hi]; rfl)
    rw [hv'] at hu; cases hu
    obtain ⟨t, rfl⟩ := ru
    refine ⟨t, ?_⟩
    show Value.int ns[i] t = Value.int (ns.getD i 0) t
    rw [List.getD_eq_getElem?_getD, List.getElem?_eq_getElem hi]
    rfl
  · have e : its.toArray.size = ns.length := by rw [List.size_toArray, hlen]
    rw [e, preSum_getD, List.take_length]
    refine ⟨.int ns.sum, H, ?_, ⟨_, rfl⟩, q⟩
    have I1 : Inv X pins σ H { s with heap := s.heap.push { cls := .type "list_iterator", data := .fields #[.ref p, .int 0 0] } } := I.kept (t' := s.toks) fun b o z => Heap.get?_push_of_some _ z
    refine I1.turnMany (t' := tk) (ch := [s.heap.objs.size]) (fun b hb => ?_) fun b o hb z => k b o (by simpa using hb) z
    have : b = s.heap.objs.size := by simpa using hb
    subst this
    exact I.fpOk (Nat.le_refl _) (I.hok.fresh (Nat.le_refl _))
end
end L2
set_option maxRecDepth 100000
namespace L2
open PySem PySem.Spec PyProof.Rows
section
variable {X : Cx}
theorem call_sumT (hc : X.calm = true) : CallR X (.builtin "sum") (fun xs H Q => ∃ (p : Addr) (ns : List Int), xs = [.ref p] ∧ SqT X.K H p (ns.map V.int) ∧ Q (.int ns.sum) H) := by
  intro pins s σ H xs us Q I r h
  obtain ⟨p, ns, rfl, hq, q⟩ := h
  obtain ⟨u, rfl, rx⟩ := vals1 r
  cases rx
  obtain ⟨its, rv, pl, hz⟩ := I.tuple hq
  have pl' : s.heap.IsTuple p its.toArray := pl
  have hlen : its.length = ns.length := by rw [← rv.length, List.length_map]
  have plt : p < s.heap.objs.size := by
    obtain ⟨o, ho, _⟩ := pl'
    exact Heap.lt_size ho
  have hh : X.A.in1.handled = none := I.ok.hd hc
  refine call_sum_walkG (wpAny_pyIter_tuple pl' ⟨s.heap.objs.size, _, _, _, _, _, fun i => ns.getD i 0, rfl, Walks.tuple hh s.heap.objs.size p (Nat.ne_of_lt plt) its.toArray, ⟨⟨_, Heap.get?_push_size _ rfl, rfl, rfl⟩, pl'.push _⟩, fun b hb => ?_, fun i v hv => ?_, fun h' tk t' k => ?_⟩)
  · show b < (s.heap.push _).objs.size
    rw [Heap.size_push]
    have : b = s.heap.objs.size ∨ b = p := by simpa using hb
    rcases this with rfl | rfl
    · exact Nat.lt_succ_self _
    · exact Nat.lt_succ_of_lt plt
  · have hv' : its[i]? = some v := by simpa using hv
    have hi : i < ns.length := by rw [← hlen]; exact (List.getElem?_eq_some_iff.mp hv').1
    obtain ⟨u, hu, ru⟩ := rv.get (i := i) (x := .int ns[i]) (by rw [List.getElem?_map, List.getElem?_eq_getElem hi]; rfl)
    rw [hv'] at hu; cases hu
    obtain ⟨t, rfl⟩ := ru
    refine ⟨t, ?_⟩
    show Value.int ns[i] t = Value.int (ns.getD i 0) t
    rw [List.getD_eq_getElem?_getD, List.getElem?_eq_getElem hi]
    rfl
  · have e : its.toArray.size = ns.length := by rw [List.size_toArray, hlen]
    rw [e, preSum_getD, List.take_length]
    refine ⟨.int ns.sum, H, ?_, ⟨_, rfl⟩, q⟩
    have I1 : Inv X pins σ H { s with heap := s.heap.push { cls := .type "tuple_iterator", data := .fields #[.ref p, .int 0 0] } } := I.kept (t' := s.toks) fun b o z => Heap.get?_push_of_some _ z
    refine I1.turnMany (t' := tk) (ch := [s.heap.objs.size]) (fun b hb => ?_) fun b o hb z => k b o (by simpa using hb) z
    have : b = s.heap.objs.size := by simpa using hb
    subst this
    exact I.fpOk (Nat.le_refl _) (I.hok.fresh (Nat.le_refl _))
end
section
variable {prog : Program} {w : World} {A : Around} {E : Value → Shared → Prop} {s : Shared}
end
section
variable {X : Cx}
variable {o e : Expr} {es : List Expr} {to : TE} {t : TA} {name : Str} {apos cpos : Pos} {id : String} {r : V → List V → Hp → VK → Prop}
end
end L2
namespace L2
open PySem PySem.Spec PyProof.Rows
section
variable {X : Cx}
end
end L2
namespace L2
open PySem PySem.Spec PyProof.Rows
section
variable {X : Cx}
end
end L2
set_option maxRecDepth 100000
namespace PySem
namespace R4
end R4
open PyProof.Rows
section
variable {prog : Program} {w : World} {A : Around} {E : Value → Shared → Prop} {s : Shared}
noncomputable def Heap.IsRevT (h : Heap) (a t : Addr) (i : Int) : Prop := ∃ o, h.get? a = some o ∧ o.cls = .type "reversed" ∧ o.data = .fields #[.ref t, rawInt i]
theorem Heap.IsRevT.typeIs {a t : Addr} {i : Int} (x : s.heap.IsRevT a t i) : s.TypeIs (.ref a) "reversed" := let ⟨o, ho, hc, _⟩ := x; ⟨o, ho, hc⟩
theorem Heap.IsRevT.at {h h' : Heap} {a t : Addr} {i : Int} (x : h.IsRevT a t i) (e : ∀ o, h.get? a = some o → h'.get? a = some o) : h'.IsRevT a t i := let ⟨o, ho, r⟩ := x; ⟨o, e _ ho, r⟩
end
section
variable {prog : Program} {w : World} {A : Around} {E : Value → Shared → Prop} {s : Shared} {I : Addr} {fp wr : List Addr} {G : Array GenState → Array GenState → Prop} {n : Nat} {P : Nat → Value → Prop} {St : Nat → Shared → Prop}
end
end PySem
namespace L2
open PySem PySem.Spec PyProof.Rows
section
variable {X : Cx}
end
end L2
namespace HT
open PySem PyProof.Rows
section
open PySem.SeqAt
open PySem.AutoSeq1 (wpAny_loadPart')
open PySem.MeetsSeq PySem.MeetsSeq2 PySem.MeetsSeq3
end
section
variable {prog : Program} {w : World} {A : Around} {E : Value → Shared → Prop} {s : Shared}
end
end HT
namespace L2
open PySem PySem.Spec PyProof.Rows
section
variable {X : Cx}
end
noncomputable def ItrS (lo st : Int) (n : Nat) : It := ⟨fun i _ => i < n, fun i H x H' => H' = H ∧ x = .int (lo + i * st), fun i _ => n ≤ i⟩
theorem turn_rangeS {P : Program} {w : World} {K : PySem.W.Frag} {tg : Expr} (it : Addr) (lo st : Int) (n : Nat) : Turn P w K tg (ItrS lo st n) [it] it (fun i h => IsRangeIter h it (lo + (i : Nat) * st) ((n : Int) - (i : Nat)) st) where
  mem := by simp
  obj := fun i h st b hb => by
    have e : b = it := by simpa using hb
    subst e
    exact ⟨_, st, fun v z => by
      have z' : Data.fields _ = Data.cell v := z
      cases z'⟩
  keep := fun i h h' st k => k it (by simp) _ st
  item := by
    intro X hP hw hK hc i pins s σ H E I hf sti hg
    subst hP hw hK
    obtain ⟨f0, f1, f2, f3, f4, f5⟩ := hf it (by simp)
    have W := Walks.range (prog := X.prog) (w := X.w) (I.ok.hd hc) it lo st n
    refine W.item i s _ _ hg sti fun v h' tk hv st' kk => ?_
    obtain ⟨t, rfl⟩ := hv
    have I1 : Inv X pins σ H { s with heap := h', toks := tk } := I.turned (fun b o hb e => kk b o (by simpa using hb) e) f0 f1 f3 f4 f5
    exact ⟨_, rfl, go_of (s := { s with heap := h', toks := tk }) (n := "range_iterator") st' rfl rfl (by decide) ⟨.int (lo + i * st), H, I1, ⟨t, rfl⟩, ⟨rfl, rfl⟩, st', fun b hb => (hf b hb).1⟩⟩
  done := by
    intro X hP hw hK hc i pins s σ H E I hf st hg
    subst hP hw hK
    obtain ⟨f0, f1, f2, f3, f4, f5⟩ := hf it (by simp)
    exact wpAny_pyNext_range_end (I.ok.hd hc) st (by have : n ≤ i := hg; omega) fun h' eb => ⟨rfl, I.turned (t' := s.toks) (fun b o hb e => eb b o hb e) f0 f1 f3 f4 f5⟩
  self := fun _ _ _ _ _ st h => wpAny_pyIter_rangeiter st h
section
variable {X : Cx} {tg : Expr}
end
end L2
namespace L2
open PySem PySem.Spec PyProof.Rows
theorem pe_calm {X : Cx} {e : Expr} {t : TX} (h : PEx X.nox e t) : PE X.nox e (fun σ H Q => t σ H Q fun _ _ _ => False) := by
  intro pins s σ H Q I q
  refine wpAny_mono (h pins s σ H Q _ I q) (fun _ _ z => z) fun v s' z => ?_
  obtain ⟨H1, s1, _, x, C, c, B, H', _, _, f⟩ := z
  exact f.elim
end L2
set_option maxRecDepth 100000
set_option maxHeartbeats 2000000
namespace L2
open PySem PySem.Spec PyProof.Rows
section
variable {κ : Type} [DecidableEq κ]
noncomputable def valV (kvs : List (κ × V)) (k : κ) : Option V := (kvs.find? fun kv => decide (kv.1 = k)).map (·.2)
noncomputable def putK (kvs : List (κ × V)) (k : κ) (v : V) : List (κ × V) :=
  if (kvs.any fun kv => decide (kv.1 = k)) = true then kvs.map (fun kv => if kv.1 = k then (kv.1, v) else kv) else kvs ++ [(k, v)]
noncomputable def dropK (kvs : List (κ × V)) (k : κ) : List (κ × V) := kvs.filter fun kv => decide (kv.1 ≠ k)
theorem valV_pos {p : κ × V} {r : List (κ × V)} {k : κ} (e : p.1 = k) : valV (p :: r) k = some p.2 := by simp [valV, List.find?_cons, e]
theorem valV_neg {p : κ × V} {r : List (κ × V)} {k : κ} (e : ¬ p.1 = k) : valV (p :: r) k = valV r k := by simp [valV, List.find?_cons, e]
theorem valV_any (k : κ) : ∀ kvs : List (κ × V), (kvs.any fun kv => decide (kv.1 = k)) = (valV kvs k).isSome
  | [] => rfl
  | p :: r => by
    rw [List.any_cons]
    by_cases e : p.1 = k
    · simp only [valV_pos e, decide_eq_true e, Bool.true_or, Option.isSome_some]
    · rw [valV_neg e, decide_eq_false e, Bool.false_or]; exact valV_any k r
theorem valV_snoc (k j : κ) (y : V) : ∀ kvs : List (κ × V), valV kvs k = none → valV (kvs ++ [(k, y)]) j = if j = k then some y else valV kvs j
  | [], _ => by
    by_cases e : k = j
    · rw [if_pos e.symm]; exact valV_pos (p := (k, y)) e
    · rw [if_neg (fun z => e z.symm)]; exact valV_neg (p := (k, y)) e
  | p :: r, hn => by
    rw [List.cons_append]
    have hk : ¬ p.1 = k := fun z => by rw [valV_pos z] at hn; cases hn
    rw [valV_neg hk] at hn
    have ih := valV_snoc k j y r hn
    by_cases e : p.1 = j
    · rw [valV_pos e, valV_pos e, if_neg (fun z => hk (e.trans z))]
    · rw [valV_neg e, valV_neg e, ih]
theorem length_putK (kvs : List (κ × V)) (k : κ) (v : V) : (putK kvs k v).length ≤ kvs.length + 1 := by
  unfold putK
  split
  · rw [List.length_map]; omega
  · rw [List.length_append, List.length_cons, List.length_nil]; omega
theorem putK_new {kvs : List (κ × V)} {k : κ} (v : V) (h : valV kvs k = none) : putK kvs k v = kvs ++ [(k, v)] := by
  unfold putK
  rw [valV_any, h]
  exact if_neg (by decide)
theorem RelO.isSome_eq {o : Option V} {u : Option Value} (r : RelO o u) : o.isSome = u.isSome := by
  cases o with
  | none => cases u with
    | none => rfl
    | some _ => exact (show False from r).elim
  | some _ => cases u with
    | none => exact (show False from r).elim
    | some _ => rfl
theorem RelO.getD {o : Option V} {u : Option Value} {d : V} {d' : Value} (r : RelO o u) (rd : RelV d d') : RelV (o.getD d) (u.getD d') := by
  cases o with
  | none => cases u with
    | none => exact rd
    | some _ => exact (show False from r).elim
  | some _ => cases u with
    | none => exact (show False from r).elim
    | some _ => exact r
theorem KV.val {kvs : List (κ × V)} {vs : List (κ × Value)} (r : KV kvs vs) (k : κ) : RelO (valV kvs k) (valueAt vs k) := by
  unfold KV at r
  induction r with
  | nil => exact True.intro
  | @cons p q ps qs h t ih =>
    obtain ⟨h1, h2⟩ := h
    by_cases e : p.1 = k
    · have e' : q.1 = k := h1.symm.trans e
      have b : valueAt (q :: qs) k = some q.2 := by simp [valueAt, List.find?_cons, e']
      rw [valV_pos e, b]; exact h2
    · have e' : ¬ q.1 = k := fun z => e (h1.trans z)
      have b : valueAt (q :: qs) k = valueAt qs k := by simp [valueAt, List.find?_cons, e']
      rw [valV_neg e, b]; exact ih
theorem KV.any {kvs : List (κ × V)} {vs : List (κ × Value)} (r : KV kvs vs) (k : κ) : (kvs.any fun kv => decide (kv.1 = k)) = vs.any fun kv => decide (kv.1 = k) := by
  unfold KV at r
  induction r with
  | nil => rfl
  | cons h t ih => rw [List.any_cons, List.any_cons, ih, h.1]
theorem KV.repl {kvs : List (κ × V)} {vs : List (κ × Value)} (r : KV kvs vs) (k : κ) {y : V} {u : Value} (ry : RelV y u) :
    KV (kvs.map fun kv => if kv.1 = k then (kv.1, y) else kv) (vs.map fun kv => if kv.1 = k then (kv.1, u) else kv) := by
  unfold KV at r ⊢
  induction r with
  | nil => exact .nil
  | @cons p q ps qs h t ih =>
    rw [List.map_cons, List.map_cons]
    refine .cons ?_ ih
    obtain ⟨h1, h2⟩ := h
    by_cases e : p.1 = k
    · rw [if_pos e, if_pos (h1.symm.trans e)]; exact ⟨h1, ry⟩
    · rw [if_neg e, if_neg (fun z => e (h1.trans z))]; exact ⟨h1, h2⟩
theorem KV.put {kvs : List (κ × V)} {vs : List (κ × Value)} (r : KV kvs vs) (k : κ) {y : V} {u : Value} (ry : RelV y u) : KV (putK kvs k y) (stored vs k u) := by
  unfold putK stored
  rw [r.any k]
  by_cases e : (vs.any fun kv => decide (kv.1 = k)) = true
  · rw [if_pos e, if_pos e]; exact r.repl k ry
  · rw [if_neg e, if_neg e]; exact Paired.snoc r ⟨rfl, ry⟩
theorem KV.drop {kvs : List (κ × V)} {vs : List (κ × Value)} (r : KV kvs vs) (k : κ) : KV (dropK kvs k) (without vs k) := by
  unfold KV at r ⊢
  unfold dropK without
  induction r with
  | nil => exact .nil
  | @cons p q ps qs h t ih =>
    obtain ⟨h1, h2⟩ := h
    rw [List.filter_cons, List.filter_cons]
    by_cases e : p.1 = k
    · have a : ¬ decide (p.1 ≠ k) = true := by simp [e]
      have b : ¬ decide (q.1 ≠ k) = true := by simp [h1.symm.trans e]
      rw [if_neg a, if_neg b]; exact ih
    · have e' : ¬ q.1 = k := fun z => e (h1.trans z)
      have a : decide (p.1 ≠ k) = true := by simp [e]
      have b : decide (q.1 ≠ k) = true := by simp [e']
      rw [if_pos a, if_pos b]; exact .cons ⟨h1, h2⟩ ih
theorem KV.keys {kvs : List (κ × V)} {vs : List (κ × Value)} (r : KV kvs vs) : kvs.map (·.1) = vs.map (·.1) := by
  unfold KV at r
  induction r with
  | nil => rfl
  | cons h t ih => rw [List.map_cons, List.map_cons, ih, h.1]
theorem KV.length {kvs : List (κ × V)} {vs : List (κ × Value)} (r : KV kvs vs) : kvs.length = vs.length := Paired.length r
end
theorem kV_is {P : Program} {w : World} {k : Key} {u : Value} (r : RelV (kV k) u) : (mixKind P w).is k u = true := by
  cases k with
  | inl i => obtain ⟨t, e⟩ := (show ∃ t, u = Value.int i t from r); subst e; exact mixKind_int P w i t
  | inr x => obtain ⟨t, e⟩ := (show ∃ t, u = Value.str x t from r); subst e; exact mixKind_str P w x t
theorem items_are {P : Program} {w : World} : ∀ {ks : List Key} {us : List Value}, Vals (ks.map kV) us → ItemsAre (mixKind P w) ks us
  | [], _, r => by rw [List.map_nil] at r; cases r; exact .nil
  | k :: ks, _, r => by
    rw [List.map_cons] at r
    cases r with
    | cons h t => exact .cons (kV_is h) (items_are t)
noncomputable abbrev KT (H : Hp) : List (List Key × V) → List (List Key × Addr × Value) → Prop := Paired fun p q => p.1 = q.1 ∧ H q.2.1 = some (.tup (p.1.map kV)) ∧ RelV p.2 q.2.2
theorem KT.val {H : Hp} {kvs : List (List Key × V)} {xs : List (List Key × Addr × Value)} (r : KT H kvs xs) (k : List Key) : RelO (valV kvs k) ((atKey xs k).map (·.2)) := by
  induction r with
  | nil => exact True.intro
  | @cons p q ps qs h t ih =>
    obtain ⟨h1, _, h2⟩ := h
    by_cases e : p.1 = k
    · have e' : q.1 = k := h1.symm.trans e
      have b : atKey (q :: qs) k = some q.2 := by simp [atKey, List.find?_cons, e']
      rw [valV_pos e, b]; exact h2
    · have e' : ¬ q.1 = k := fun z => e (h1.trans z)
      have b : atKey (q :: qs) k = atKey qs k := by simp [atKey, List.find?_cons, e']
      rw [valV_neg e, b]; exact ih
theorem KT.repl {H : Hp} {kvs : List (List Key × V)} {xs : List (List Key × Addr × Value)} (r : KT H kvs xs) (k : List Key) {y : V} {u : Value} (ry : RelV y u) :
    KT H (kvs.map fun kv => if kv.1 = k then (kv.1, y) else kv) (xs.map (putAt k u)) := by
  induction r with
  | nil => exact .nil
  | @cons p q ps qs h t ih =>
    rw [List.map_cons, List.map_cons]
    refine .cons ?_ ih
    obtain ⟨h1, h2, h3⟩ := h
    unfold putAt
    by_cases e : p.1 = k
    · rw [if_pos e, if_pos (h1.symm.trans e)]; exact ⟨h1, h2, ry⟩
    · rw [if_neg e, if_neg (fun z => e (h1.trans z))]; exact ⟨h1, h2, h3⟩
theorem KT.put {H : Hp} {kvs : List (List Key × V)} {xs : List (List Key × Addr × Value)} (r : KT H kvs xs) (k : List Key) {b : Addr} {y : V} {u : Value} (hb : H b = some (.tup (k.map kV))) (ry : RelV y u) :
    KT H (putK kvs k y) (storedH xs k b u) := by
  have e : (kvs.any fun kv => decide (kv.1 = k)) = (atKey xs k).isSome := by
    rw [valV_any, (r.val k).isSome_eq, Option.isSome_map]
  unfold putK storedH
  rw [e]
  by_cases q : (atKey xs k).isSome = true
  · rw [if_pos q, if_pos q]; exact r.repl k ry
  · rw [if_neg q, if_neg q]; exact Paired.snoc r ⟨rfl, hb, ry⟩
theorem KT.keeps {H H' : Hp} {kvs : List (List Key × V)} {xs : List (List Key × Addr × Value)} (r : KT H kvs xs) (ht : ∀ b ys, H b = some (.tup ys) → H' b = some (.tup ys)) : KT H' kvs xs :=
  Paired.mapP r fun _ _ z => ⟨z.1, ht _ _ z.2.1, z.2.2⟩
section
variable {P : Program} {w : World} {H : Hp} {h : Heap} {a : Addr}
theorem rd_of {u : HO} (ok : HOk P w H h) (e : Rd H a u) : ObjOk P w H h a u := e.ok ok
theorem dk_rd {kvs : List (Key × V)} (ok : HOk P w H h) (e : Rd H a (.dK kvs)) : kvs.length ≤ sizeLine ∧ (a == sysModules) = false ∧ ∃ vs, KV kvs vs ∧ h.DictOf (mixKind P w) a vs :=
  show ObjOk P w H h a (.dK kvs) from rd_of ok e
theorem dk_of {kvs : List (Key × V)} (ok : HOk P w H h) (e : H a = some (.dK kvs)) : kvs.length ≤ sizeLine ∧ (a == sysModules) = false ∧ ∃ vs, KV kvs vs ∧ h.DictOf (mixKind P w) a vs := dk_rd ok (.inl e)
theorem key_of {ks : List Key} (ok : HOk P w H h) (e : H a = some (.tup (ks.map kV))) : (tupleKind (mixKind P w)).is h ks a := by
  obtain ⟨_, its, r, ⟨o, h1, h2, n, h3⟩, _⟩ := (show ObjOk P w H h a (.tup (ks.map kV)) from ok a _ e)
  exact ⟨o, its.toArray, n, h1, h2, h3, by simpa using items_are r⟩
theorem dt_rd {kvs : List (List Key × V)} (ok : HOk P w H h) (e : Rd H a (.dT kvs)) : kvs.length ≤ sizeLine ∧ (a == sysModules) = false ∧
    ∃ xs, KT H kvs xs ∧ h.DictOfH (tupleKind (mixKind P w)) a xs := by
  obtain ⟨z, y, xs, r, o, es, ep, h1, h2, h3, h4, h5⟩ := (show ObjOk P w H h a (.dT kvs) from rd_of ok e)
  refine ⟨z, y, xs, r, o, es, ep, h1, h2, h3, h4, fun x hx => ?_, h5⟩
  have all : ∀ {l : List (List Key × V)} {m : List (List Key × Addr × Value)}, KT H l m → ∀ x ∈ m, (tupleKind (mixKind P w)).is h x.1 x.2.1 := by
    intro l m q
    induction q with
    | nil => intro x hx; exact nomatch hx
    | @cons p q ps qs hq t ih =>
      intro x hx
      rcases List.mem_cons.mp hx with e | hx
      · subst e
        exact key_of ok (by rw [← hq.1]; exact hq.2.1)
      · exact ih x hx
  exact all r x hx
theorem dt_of {kvs : List (List Key × V)} (ok : HOk P w H h) (e : H a = some (.dT kvs)) : kvs.length ≤ sizeLine ∧ (a == sysModules) = false ∧
    ∃ xs, KT H kvs xs ∧ h.DictOfH (tupleKind (mixKind P w)) a xs := dt_rd ok (.inl e)
end
noncomputable def DGet (H : Hp) (a : Addr) (y : V) (r : Option V) : Prop :=
  (∃ kvs k, Rd H a (.dK kvs) ∧ y = kV k ∧ r = valV kvs k) ∨ ∃ kvs k b, Rd H a (.dT kvs) ∧ y = .ref b ∧ H b = some (.tup (k.map kV)) ∧ r = valV kvs k
noncomputable def DPut (H : Hp) (a : Addr) (y v : V) (H' : Hp) : Prop :=
  (∃ kvs k, H a = some (.dK kvs) ∧ y = kV k ∧ kvs.length < sizeLine ∧ H' = upd H a (.dK (putK kvs k v))) ∨
  ∃ kvs k b, H a = some (.dT kvs) ∧ y = .ref b ∧ H b = some (.tup (k.map kV)) ∧ kvs.length < sizeLine ∧ H' = upd H a (.dT (putK kvs k v))
theorem DGet.k {H : Hp} {a : Addr} {kvs : List (Key × V)} {k : Key} (e : H a = some (.dK kvs)) : DGet H a (kV k) (valV kvs k) := .inl ⟨kvs, k, .inl e, rfl, rfl⟩
theorem DGet.t {H : Hp} {a b : Addr} {kvs : List (List Key × V)} {k : List Key} (e : H a = some (.dT kvs)) (eb : H b = some (.tup (k.map kV))) : DGet H a (.ref b) (valV kvs k) := .inr ⟨kvs, k, b, .inl e, rfl, eb, rfl⟩
theorem DPut.k {H : Hp} {a : Addr} {kvs : List (Key × V)} {k : Key} {v : V} (e : H a = some (.dK kvs)) (hl : kvs.length < sizeLine) : DPut H a (kV k) v (upd H a (.dK (putK kvs k v))) := .inl ⟨kvs, k, e, rfl, hl, rfl⟩
theorem DPut.t {H : Hp} {a b : Addr} {kvs : List (List Key × V)} {k : List Key} {v : V} (e : H a = some (.dT kvs)) (eb : H b = some (.tup (k.map kV))) (hl : kvs.length < sizeLine) :
    DPut H a (.ref b) v (upd H a (.dT (putK kvs k v))) := .inr ⟨kvs, k, b, e, rfl, eb, hl, rfl⟩
section
variable {X : Cx} {pins : List (Addr × Obj)} {σ : St} {H : Hp} {s : Shared} {a : Addr} {y v : V} {u r : Value} {o : Option V} {A : Around} {E : Value → Shared → Prop}
theorem Inv.big (I : Inv X pins σ H s) : sysModules < s.heap.objs.size := by
  have h : mainGlobals < s.heap.objs.size := (I.mod.glob.keeps I.bk).lt
  exact Nat.lt_trans (by decide) h
theorem d_getItem {Q : Value → Shared → Prop} (hu : A.units + 1 < cLine) (I : Inv X pins σ H s) (g : DGet H a y (some v)) (ry : RelV y u) (h : ∀ w' s', Inv X pins σ H s' → RelV v w' → Q w' s') :
    wpAny (model X.prog X.w) A (getItem (.ref a) u) Q E s := by
  rcases g with ⟨kvs, k, e, ey, l⟩ | ⟨kvs, k, b, e, ey, eb, l⟩
  · subst ey
    obtain ⟨z, hd, vs, rel, dd⟩ := dk_rd I.hok e
    obtain ⟨w', hw, rw'⟩ := RelO.some_of (v := v) (o := valueAt vs k) (by rw [l]; exact rel.val k)
    exact wpAny_getItem_of (kV_is ry) dd.mapOf hw (h w' _ (I.tok _) rw')
  · subst ey
    cases (show u = Value.ref b from ry)
    obtain ⟨z, hd, xs, rel, dd⟩ := dt_rd I.hok e
    obtain ⟨w', hw, rw'⟩ := RelO.some_of (v := v) (o := (atKey xs k).map (·.2)) (by rw [l]; exact rel.val k)
    obtain ⟨p, hp, hp2⟩ := Option.map_eq_some_iff.mp hw
    refine wpAny_getItem_heap (tupleKind_room_in1 hu) (key_of I.hok eb) dd hp ?_
    rw [hp2]
    exact h w' _ (I.tok _) rw'
theorem d_notIn {Q : Value → Shared → Prop} (hu : A.units + 1 < cLine) (I : Inv X pins σ H s) (g : DGet H a y o) (ry : RelV y u) (h : ∀ s', Inv X pins σ H s' → Q (.bool (!o.isSome)) s') :
    wpAny (model X.prog X.w) A (compareOp .NotIn u (.ref a)) Q E s := by
  rcases g with ⟨kvs, k, e, ey, l⟩ | ⟨kvs, k, b, e, ey, eb, l⟩
  · subst ey
    obtain ⟨z, hd, vs, rel, dd⟩ := dk_rd I.hok e
    refine wpAny_notIn_of (kV_is ry) hd dd.mapOf ?_
    rw [← (rel.val k).isSome_eq, ← l]
    exact h _ (I.tok _)
  · subst ey
    cases (show u = Value.ref b from ry)
    obtain ⟨z, hd, xs, rel, dd⟩ := dt_rd I.hok e
    refine wpAny_notIn_heap (tupleKind_room_in1 hu) (key_of I.hok eb) hd dd ?_
    have q := (rel.val k).isSome_eq
    rw [Option.isSome_map] at q
    rw [← q, ← l]
    exact h _ (I.tok _)
theorem d_write {h' : Heap} {t' : Nat} {ob : HO} (I : Inv X pins σ H s) (mu : Mut (H a)) (hs : Heap.SameBut a s.heap h') (he : ∃ q, h'.get? a = some q) (new : ObjOk X.prog X.w (upd H a ob) h' a ob) :
    Inv X pins σ (upd H a ob) { s with heap := h', toks := t' } :=
  I.write (x := a) (e := a) mu (.inl rfl) (fun b q hb z => (hs.2 b hb).trans z) he new
theorem dk_new {P : Program} {w : World} {H' : Hp} {h' : Heap} {kvs : List (Key × V)} {vs : List (Key × Value)} (z : kvs.length ≤ sizeLine) (hd : (a == sysModules) = false) (rel : KV kvs vs) (dd : h'.DictOf (mixKind P w) a vs) :
    ObjOk P w H' h' a (.dK kvs) := ⟨z, hd, vs, rel, dd⟩
theorem d_setItem {H' : Hp} {Q : Unit → Shared → Prop} (hu : A.units + 1 < cLine) (I : Inv X pins σ H s) (g : DPut H a y v H') (ry : RelV y u) (rv : RelV v r) (h : ∀ s', Inv X pins σ H' s' → Q () s') :
    wpAny (model X.prog X.w) A (setItem (.ref a) u r) Q E s := by
  rcases g with ⟨kvs, k, e, ey, l, eH⟩ | ⟨kvs, k, b, e, ey, eb, l, eH⟩
  · subst ey eH
    obtain ⟨z, hd, vs, rel, dd⟩ := dk_of I.hok e
    have hz : vs.length ≤ sizeLine := by rw [← rel.length]; exact z
    have hl : (putK kvs k v).length ≤ sizeLine := by have := length_putK kvs k v; omega
    refine wpAny_setItem_pairs (hsz := hz) (kV_is ry) dd fun h' dd' hs => h _ ?_
    have he : ∃ q, h'.get? a = some q := let ⟨q, _, _, hq, _⟩ := dd'; ⟨q, hq⟩
    exact d_write I (by rw [e]; exact True.intro) hs he (dk_new hl hd (rel.put k rv) dd')
  · subst ey eH
    cases (show u = Value.ref b from ry)
    obtain ⟨z, hd, xs, rel, dd⟩ := dt_of I.hok e
    have hz : xs.length ≤ sizeLine := by rw [← Paired.length rel]; exact z
    have hl : (putK kvs k v).length ≤ sizeLine := by have := length_putK kvs k v; omega
    refine wpAny_setItem_heap (hsz := hz) (tupleKind_room_in1 hu) (key_of I.hok eb) dd fun h' dd' hs => h _ ?_
    obtain ⟨q, es, ep, hq, h2, h3, h4, _, h5⟩ := dd'
    refine d_write I (by rw [e]; exact True.intro) hs ⟨q, hq⟩ ⟨hl, hd, _, (rel.put k eb rv).keeps fun c ys ec => ?_, q, es, ep, hq, h2, h3, h4, h5⟩
    rw [upd_ne (ne_of ec e (fun z => nomatch z))]
    exact ec
end
section
variable {X : Cx} {pins : List (Addr × Obj)} {σ : St} {H : Hp} {s : Shared} {a : Addr} {kvs : List (Key × V)} {k : Key} {u : Value} {A : Around} {E : Value → Shared → Prop}
theorem d_len {Q : Value → Shared → Prop} (I : Inv X pins σ H s) (e : Rd H a (.dK kvs)) (h : ∀ t s', Inv X pins σ H s' → Q (.int kvs.length t) s') : wpAny (model X.prog X.w) A (call (.builtin "len") [.ref a]) Q E s := by
  obtain ⟨z, hd, vs, rel, dd⟩ := dk_rd I.hok e
  refine call_len_dict hd dd (by rw [← rel.length]; rw [sizeLine_eq] at z; omega) ?_
  rw [← rel.length]
  exact h _ _ (I.tok _)
end
noncomputable def NoSl (i : Expr) : Prop := ∀ ov iv, subscripted i false ov iv = operate [ov, iv] (getItem ov iv)
theorem subD_of {prog : Program} {w : World} {A : Around} {E : Value → Shared → Prop} {s : Shared} {env : Env} {value slice : Expr} {pos : Pos} {T id : String} {Q : Value → Shared → Prop}
    (hl : typeLookup (.type T) "__getitem__" = pure (some (.builtin id))) (hs : NoSl slice)
    (h : wpAny (model prog w) A (eval value env) (fun o s₁ => wpAny (model prog w) A (eval slice env) (fun i s₂ => s₂.TypeIs o T ∧ wpAny (model prog w) A (getItem o i) Q E s₂) E s₁) E s) :
    wpAny (model prog w) A (eval (.Subscript value slice pos) env) Q E s := by
  refine Subscript_ (wpAny_mono h (fun o s₁ h₁ => wpAny_mono h₁ (fun i s₂ h₂ => ?_) fun _ _ x => x) fun _ _ x => x)
  obtain ⟨hT, h₂⟩ := h₂
  unfold subscriptTail
  refine wpAny_bind ?_
  rw [getitemInPython_of_ne hT.not_modules]
  refine wpAny_bind (wpAny_specialOf hT hl ?_)
  have fin : wpAny (model prog w) A (subscripted slice false o i) (fun r s₃ => wpAny (model prog w) A (letTemporaryGo value o r >>= fun _ => pure r) Q E s₃) E s₂ := by
    rw [hs o i]
    exact wpAny_operating (wpAny_mono h₂ (fun r s₃ h₃ => wpAny_bind (wpAny_letTemporaryGo (wpAny_pure h₃))) fun _ _ x => x)
  first
    | exact wpAny_pure (wpAny_bind fin)
    | exact wpAny_bind (wpAny_pure (wpAny_bind fin))
    | exact wpAny_bind fin
theorem dict_typeIs {X : Cx} {pins : List (Addr × Obj)} {σ : St} {H : Hp} {s : Shared} {a : Addr} {y : V} {o : Option V} (I : Inv X pins σ H s) (g : DGet H a y o) : s.TypeIs (.ref a) "dict" := by
  rcases g with ⟨kvs, k, e, _, _⟩ | ⟨kvs, k, b, e, _, _, _⟩
  · obtain ⟨_, _, vs, _, dd⟩ := dk_rd I.hok e
    exact dd.typeIs
  · obtain ⟨_, _, xs, _, dd⟩ := dt_rd I.hok e
    exact dd.typeIs
noncomputable def tDGet (td ty : TE) : TE := fun σ H Q => td σ H fun x H1 => ty σ H1 fun y H2 => ∃ a v, x = .ref a ∧ DGet H2 a y (some v) ∧ Q v H2
noncomputable def sDPut (td ty tv : TE) : TS := fun D σ H => tv σ H fun v H1 => td σ H1 fun x H2 => ty σ H2 fun y H3 => ∃ a H4, x = .ref a ∧ DPut H3 a y v H4 ∧ D.nx σ H4
section
variable {X : Cx} {o i e value : Expr} {pos pos' tpos : Pos} {td ty tv : TE}
theorem pe_dget (hu : X.A.units + 1 < cLine) (ho : PE X o td) (hi : PE X i ty) (hs : NoSl i) : PE X (.Subscript o i pos) (tDGet td ty) := by
  intro pins s σ H Q I h
  refine subD_of PySem.F.slot_dict_getitem.lookup hs (thn (ho pins s σ H _ I h) fun u s1 ⟨x, H1, I1, rx, q1⟩ => thn (hi pins s1 σ H1 _ I1 q1) fun iv s2 ⟨y, H2, I2, ry, a, v, ex, g, q2⟩ => ?_)
  subst ex
  obtain rfl : u = Value.ref a := rx
  exact ⟨dict_typeIs I2 g, d_getItem hu I2 g ry fun w' s3 I3 rw' => ⟨v, H2, I3, rw', q2⟩⟩
theorem ps_dput (hu : X.A.units + 1 < cLine) (ho : PE X o td) (hi : PE X i ty) (hv : PE X value tv) (hs : swapsWith value (some (.Subscript o i pos')) pos.line X.env = pure false) :
    PS X (.Assign [.Subscript o i pos'] value pos) (sDPut td ty tv) := by
  intro pins s σ H D I h
  refine wpAny_Assign_Subscript (thn (hv pins s σ H _ I h) fun r s1 ⟨v, H1, I1, rv, q1⟩ => thn (ho pins s1 σ H1 _ I1 q1) fun u s2 ⟨x, H2, I2, rx, q2⟩ => thn (hi pins s2 σ H2 _ I2 q2) fun iv s3 ⟨y, H3, I3, ry, a, H4, ex, g, q3⟩ => ?_) hs
  subst ex
  obtain rfl : u = Value.ref a := rx
  exact d_setItem hu I3 g ry rv fun s4 I4 => ⟨σ, H4, I4, q3⟩
end
theorem dk_empty {P : Program} {w : World} {H : Hp} (h : Heap) (hb : sysModules < h.objs.size) : ObjOk P w H (h.push { cls := .type "dict", data := .dict #[] }) h.objs.size (.dK []) :=
  ⟨Nat.zero_le _, beq_eq_false_iff_ne.mpr (Ne.symm (Nat.ne_of_lt hb)), [], .nil, Heap.DictOf.new h⟩
noncomputable def tDNewK : TE := fun _ H Q => ∀ p, H p = none → Q (.ref p) (upd H p (.dK []))
section
variable {X : Cx} {pos : Pos}
theorem pe_dnewK : PE X (.Dict [] [] pos) tDNewK := fun pins s σ H Q I h =>
  wpAny_Dict_empty ⟨.ref s.heap.objs.size, _, I.laid (a := s.heap.objs.size) (o := .dK []) (t' := s.toks) (fun _ _ q => Heap.get?_push_of_some _ q) (Nat.le_refl _) (dk_empty s.heap I.big), rfl, h _ (I.hok.fresh (Nat.le_refl _))⟩
end
structure M1 (X : Cx) (o : Expr) (m : Str) (apos : Pos) (e : Expr) (cpos : Pos) : Prop where
  base : attributeBase o m X.env (eval o X.env) = eval o X.env
  few : ((backTo cpos (starEach [e] X.env)).all (fun x => !x.1) && (backToKw cpos (keywordEach [] X.env)).all (fun x => x.1.isSome)
    && decide (([e] : List Expr).length + ([] : List Keyword).length + (if ([] : List Keyword).isEmpty then 0 else 1) < 30)) = true
  line : (apos.endLine == cpos.line) = true
  trees : backTo cpos (starEach [e] X.env) = [(false, eval e X.env)]
structure M2 (X : Cx) (o : Expr) (m : Str) (apos : Pos) (e f : Expr) (cpos : Pos) : Prop where
  base : attributeBase o m X.env (eval o X.env) = eval o X.env
  few : ((backTo cpos (starEach [e, f] X.env)).all (fun x => !x.1) && (backToKw cpos (keywordEach [] X.env)).all (fun x => x.1.isSome)
    && decide (([e, f] : List Expr).length + ([] : List Keyword).length + (if ([] : List Keyword).isEmpty then 0 else 1) < 30)) = true
  line : (apos.endLine == cpos.line) = true
  trees : backTo cpos (starEach [e, f] X.env) = [(false, eval e X.env), (false, eval f X.env)]
noncomputable def IsD (H : Hp) (a : Addr) : Prop := (∃ kvs, Rd H a (.dK kvs)) ∨ ∃ kvs, Rd H a (.dT kvs)
theorem isD_at {X : Cx} {pins : List (Addr × Obj)} {σ : St} {H : Hp} {s : Shared} {a : Addr} (I : Inv X pins σ H s) (d : IsD H a) :
    s.TypeIs (.ref a) "dict" ∧ (∀ b, Value.ref a = .ref b → ∃ ob, s.heap.get? b = some ob ∧ ob.dict = none) ∧ (a == sysModules) = false := by
  rcases d with ⟨kvs, e⟩ | ⟨kvs, e⟩
  · obtain ⟨_, hd, vs, _, dd⟩ := dk_rd I.hok e
    refine ⟨dd.typeIs, fun b q => ?_, hd⟩
    cases q
    obtain ⟨ob, _, _, h1, h2, _⟩ := dd
    exact ⟨ob, h1, h2.2.1⟩
  · obtain ⟨_, hd, xs, _, dd⟩ := dt_rd I.hok e
    refine ⟨dd.typeIs, fun b q => ?_, hd⟩
    cases q
    obtain ⟨ob, _, _, h1, h2, _⟩ := dd
    exact ⟨ob, h1, h2.2.1⟩
section
variable {X : Cx} {pins : List (Addr × Obj)} {σ : St} {H : Hp} {s : Shared} {a : Addr} {y d : V} {u r : Value} {o : Option V} {A : Around} {E : Value → Shared → Prop}
theorem d_get2 {Q : Value → Shared → Prop} (hu : A.units + 1 < cLine) (I : Inv X pins σ H s) (g : DGet H a y o) (ry : RelV y u) (rd : RelV d r) (h : ∀ w' s', Inv X pins σ H s' → RelV (o.getD d) w' → Q w' s') :
    wpAny (model X.prog X.w) A (call (.builtin "dict.get") [.ref a, u, r]) Q E s := by
  rcases g with ⟨kvs, k, e, ey, l⟩ | ⟨kvs, k, b, e, ey, eb, l⟩
  · subst ey
    obtain ⟨z, hd, vs, rel, dd⟩ := dk_rd I.hok e
    refine call_meetsIn PySem.F.slot_dict_get dd.typeIs PySem.F.entry_dict_get (PySem.F.args_dict_get_3 _ _ _) (meets_dict_get_default (mixKind X.prog X.w) a (kV_is ry) hd r) ⟨_, dd.mapOf, h _ _ (I.tok _) ?_⟩
    rw [l]
    exact (rel.val k).getD rd
  · subst ey
    cases (show u = Value.ref b from ry)
    obtain ⟨z, hd, xs, rel, dd⟩ := dt_rd I.hok e
    refine call_meetsIn PySem.F.slot_dict_get dd.typeIs PySem.F.entry_dict_get (PySem.F.args_dict_get_3 _ _ _) (meetsH_dict_get_default (tupleKind (mixKind X.prog X.w)) a b hd r) ⟨tupleKind_room_in1 hu, k, xs, key_of I.hok eb, dd, h _ _ (I.tok _) ?_⟩
    rw [l]
    exact (rel.val k).getD rd
end
noncomputable def tDGet2 (td ty tx : TE) : TE := fun σ H Q => td σ H fun x H1 => ∃ a, x = .ref a ∧ IsD H1 a ∧ ty σ H1 fun y H2 => tx σ H2 fun z H3 => ∃ o, DGet H3 a y o ∧ Q (o.getD z) H3
section
variable {X : Cx} {o e f : Expr} {apos cpos : Pos} {td ty tx : TE}
theorem pe_dget2 (hu : X.A.units + 1 < cLine) (ho : PE X o td) (he : PE X e ty) (hf : PE X f tx) (m : M2 X o "get" apos e f cpos) : PE X (.Call (.Attribute o "get" apos) [e, f] [] cpos) (tDGet2 td ty tx) := by
  intro pins s σ H Q I h
  refine wpAny_Call_method m.base m.few m.line PySem.F.plainAttrs_dict PySem.F.slot_dict_get PySem.F.type_dict_get (thn (ho pins s σ H _ I h) fun u s1 ⟨x, H1, I1, rx, a, ex, d, q1⟩ => ?_)
  subst ex
  obtain rfl : u = Value.ref a := rx
  obtain ⟨t1, t2, _⟩ := isD_at I1 d
  refine ⟨t1, t2, ?_⟩
  rw [m.trees]
  refine Calls.callWith_builtin rfl (Calls.evalArgs_plain (Calls.spliced_cons (thn (he pins s1 σ H1 _ I1 q1) fun iv s2 ⟨y, H2, I2, ry, q2⟩ =>
    Calls.spliced_cons (thn (hf pins s2 σ H2 _ I2 q2) fun fv s3 ⟨z, H3, I3, rz, ov, g, q3⟩ => Calls.spliced_nil ?_))))
  exact d_get2 hu I3 g ry rz fun w' s4 I4 rw' => ⟨_, H3, I4, rw', q3⟩
end
section
variable {X : Cx} {pins : List (Addr × Obj)} {σ : St} {H : Hp} {s : Shared} {a : Addr} {kvs : List (Key × V)} {A : Around} {E : Value → Shared → Prop}
end
section
variable {X : Cx} {pins : List (Addr × Obj)} {σ : St} {H : Hp} {s : Shared} {a : Addr} {y : V} {u : Value} {A : Around} {E : Value → Shared → Prop}
end
end L2
namespace L2
open PySem PySem.Spec PyProof.Rows
section
variable {X : Cx}
theorem call_lenD : CallR X (.builtin "len") (fun xs H Q => ∃ a kvs, xs = [V.ref a] ∧ H a = some (.dK kvs) ∧ Q (.int kvs.length) H) := by
  intro pins s σ H xs us Q I r h
  obtain ⟨a, kvs, rfl, ha, q⟩ := h
  obtain ⟨u, rfl, ru⟩ := vals1 r
  cases ru
  exact d_len I (.inl ha) fun t s' I' => ⟨.int kvs.length, H, I', ⟨t, rfl⟩, q⟩
end
section
variable {κ : Type} [DecidableEq κ]
end
end L2
namespace L2
open PySem PySem.Spec PyProof.Rows
theorem noFill_tuple_mul : fillsNumberSlot (.type "tuple") "mul" = pure false :=
  PySem.fillsNumberSlot_seq (id := "tuple.__mul__") (r := some (.builtin "tuple.__rmul__")) PySem.F.slot_tuple_mul.lookup (by decide +kernel) PySem.F.slot_tuple_rmul.lookup (by decide +kernel)
theorem repeat_tuple : seqRepeat? (.type "tuple") = pure (some (.builtin "tuple.__mul__")) := by
  unfold seqRepeat?
  rw [PySem.seqSlot_of (T := "tuple") (name := "__mul__") (id := "tuple.__mul__") PySem.F.slot_tuple_mul.lookup (by decide +kernel), PySem.seqSlot_of (T := "tuple") (name := "__rmul__") (id := "tuple.__rmul__") PySem.F.slot_tuple_rmul.lookup (by decide +kernel)]
  all_goals rfl
theorem rmul_int_tuple (a : Int) (t : Tok) (l : Addr) (items : Array Value) (n : Nat) (dd : Option Addr) (sl : Array (Option Value)) :
    Meets (Builtin.«int.__rmul__» ⟨[.int a t, .ref l], []⟩) (fun _ R s => s.heap.get? l = some { cls := .type "tuple", dict := dd, data := .seq items n, slots := sl } ∧ R (.ok (.ret Value.notImplemented)) s) :=
  .of_wp fun prog w A R s h => by
    obtain ⟨hp, g, d, tk, os⟩ := s
    obtain ⟨hl, h⟩ := h
    wp_walk
    exact ⟨_, rfl, h⟩
theorem tuple_mul_many (l : Addr) (items : Array Value) (n : Nat) (dd : Option Addr) (sl : Array (Option Value)) (k : Int) (u : Tok) (hc0 : ¬ (decide (k < -2 ^ 63) || decide (k ≥ 2 ^ 63)) = true) (hc1 : ¬ (items.isEmpty || k == 1) = true) (hc2 : ¬ (decide (k ≤ 0) || items.isEmpty) = true)
    (hc3 : ¬ (items.size : Int) * k > (2 ^ 63 - 1) / 8) (hc4 : ¬ Builtin.Tuple.tupleTooMany ((items.size : Int) * k) = true) (hz : ((List.replicate k.toNat items).foldl (· ++ ·) #[]).size ≤ sizeLine) :
    Meets (Builtin.«tuple.__mul__» ⟨[.ref l, .int k u], []⟩) (fun _ R s => s.heap.get? l = some { cls := .type "tuple", dict := dd, data := .seq items n, slots := sl } ∧
      R (.ok (.ret (.ref s.heap.objs.size))) { s with heap := s.heap.push { cls := .type "tuple", data := .seq ((List.replicate k.toNat items).foldl (· ++ ·) #[]) } }) :=
  .of_wp fun prog w A R s h => by
    obtain ⟨hp, g, d, tk, os⟩ := s
    obtain ⟨hl, h⟩ := h
    unfold Builtin.«tuple.__mul__»
    wp_walk using AutoSeq1.wpAny_loadPart' hl
    refine wpAny_ite_split (fun hab => absurd hab hc0) (fun _ => ?_)
    wp_walk using AutoSeq1.wpAny_loadPart' hl
    refine wpAny_ite_split (fun hab => absurd hab hc3) (fun _ => ?_)
    wp_walk using AutoSeq1.wpAny_loadPart' hl
    exact ⟨_, rfl, h⟩
noncomputable def rRepT (K : PySem.W.Frag) : R2 := fun x y H Q => ∃ l k xs, x = .ref l ∧ y = .int k ∧ SqT K H l xs ∧ xs ≠ [] ∧ 2 ≤ k ∧ k < 2 ^ 60 ∧ xs.length * k.toNat ≤ sizeLine ∧
  ∀ p, H p = none → Q (.ref p) (upd H p (.tup (List.replicate k.toNat xs).flatten))
section
variable {X : Cx}
theorem op_repT : OpR X (binaryOp .Mult) (rRepT X.K) := by
  intro pins s σ H x y v u Q I rx ry h
  obtain ⟨l, k, xs, rfl, rfl, hq, hne, h1, h2, hz, q⟩ := h
  cases rx
  obtain ⟨t, rfl⟩ := ry
  obtain ⟨its, r, pl, hzl⟩ := I.tuple hq
  have hl := r.length
  obtain ⟨⟨oc, od, odt, osl⟩, e, hc, n, hd⟩ := id pl
  replace hc : oc = .type "tuple" := hc
  replace hd : odt = .seq its.toArray n := hd
  subst hc hd
  have hne2 : its.toArray.isEmpty = false := by
    cases its with
    | nil =>
      cases xs with
      | nil => exact absurd rfl hne
      | cons a b => simp at hl
    | cons a b => rfl
  have f0 : ∀ m : Nat, List.foldl (fun x1 x2 => x1 ++ x2) #[] (List.replicate m its.toArray) = (List.replicate m its).flatten.toArray := fun m => by
    have := foldl_rep its m []
    rw [List.nil_append] at this
    exact this
  have hk : (k.toNat : Int) = k := by omega
  have hzI : (its.length : Int) * k ≤ (sizeLine : Int) := by
    rw [← hk, ← hl]
    exact_mod_cast hz
  have hs63 : (sizeLine : Int) ≤ (2 ^ 63 - 1) / 8 := by decide
  have hrl : ((List.replicate k.toNat its).flatten).length ≤ sizeLine := by rw [len_rep, ← hl, Nat.mul_comm]; exact hz
  refine wpAny_binaryOp_repeat_ref (T := "tuple") (U := "int") (by decide) ⟨_, e, rfl⟩ (fun s' => typeIs_int s' k t) noFill_tuple_mul PySem.F.fills_int_mul PySem.F.slot_int_rmul repeat_tuple PySem.F.slot_int_index.lookup
    (call_meets PySem.F.slot_int_rmul (typeIs_int s k t) PySem.F.entry_int_rmul (PySem.F.args_int_rmul_2 _ _) (rmul_int_tuple k t l its.toArray n od osl)
      ⟨e, rfl, ⟨_, e, rfl⟩, call_meets PySem.F.slot_tuple_mul ⟨_, e, rfl⟩ PySem.F.entry_tuple_mul (PySem.F.args_tuple_mul_2 _ _) (tuple_mul_many l its.toArray n od osl k t ?_ ?_ ?_ ?_ ?_ ?_) ⟨e, ?_⟩⟩)
  · simp; omega
  · rw [hne2]; simp; omega
  · rw [hne2]; simp; omega
  · rw [List.size_toArray]; omega
  · unfold Builtin.Tuple.tupleTooMany
    rw [List.size_toArray]
    simp
    omega
  · rw [f0, List.size_toArray]; exact hrl
  · rw [f0]
    refine ⟨.ref _, _, I.laid (t' := s.toks) (o := .tup (List.replicate k.toNat xs).flatten) (fun b u e => Heap.get?_push_of_some _ e) (Nat.le_refl _) ?_, rfl, q _ (I.hok.fresh (Nat.le_refl _))⟩
    exact ⟨by rw [len_rep, Nat.mul_comm]; exact hz, _, r.rep k.toNat, IsTup.new _ _, _, Heap.get?_push_size _ rfl, rfl⟩
end
theorem cut_back (n : Nat) : (L3.cutAt n none none (some (-1))).2.2 ≤ n := by
  unfold L3.cutAt Builtin.Slice.sliceAdjust Builtin.Slice.slicePlaces
  simp
  (repeat' split) <;> omega
end L2
namespace L2
open PySem
theorem se_Tuple {es : List Expr} {env : Env} {elts : List Expr} {k : Nat} {pos : Pos} : starEach (.Tuple elts k pos :: es) env = (false, eval (.Tuple elts k pos) env) :: starEach es env := rfl
theorem se_List {es : List Expr} {env : Env} {elts : List Expr} {pos : Pos} : starEach (.List elts pos :: es) env = (false, eval (.List elts pos) env) :: starEach es env := rfl
theorem se_Name {es : List Expr} {env : Env} {id : Str} {pos : Pos} : starEach (.Name id pos :: es) env = (false, eval (.Name id pos) env) :: starEach es env := rfl
theorem se_BinOp {es : List Expr} {env : Env} {l : Expr} {op : Operator} {r : Expr} {pos : Pos} : starEach (.BinOp l op r pos :: es) env = (false, eval (.BinOp l op r pos) env) :: starEach es env := rfl
end L2
namespace L3
open PySem
open Sem (wp)
noncomputable abbrev IsZipF (h : Heap) (z TI TO : Addr) (f0 : Value) (f : Bool) : Prop :=
  h.get? z = some { cls := .type "zip", dict := none, data := .fields #[f0, .bool f, .bool false, .ref TI, .ref TO], slots := #[] }
structure ZipOut (z TI TO i1 i2 t1 t2 : Addr) (xs ys : Array Value) (i : Nat) (a : Addr) (f : Bool) (h : Heap) : Prop where
  hz : IsZipF h z TI TO (rawInt a) f
  hTI : IsPair h TI (.ref i1) (.ref i2)
  one : AtT i1 t1 xs i h
  two : AtT i2 t2 ys i h
  al : ∃ o, h.get? a = some o
  az : a ≠ z
  a1 : a ≠ i1
  a2 : a ≠ i2
  lt : TO < h.objs.size
section
variable {prog : Program} {w : World} {A : Around} {E : Value → Shared → Prop} {s : Shared}
end
end L3
namespace L3
open PySem
noncomputable def ZSt (z TI TO i1 i2 t1 t2 : Addr) (xs ys : Array Value) (S : Addr) (i : Nat) (h : Heap) : Prop :=
  (i = 0 ∧ ZipAt z TI TO i1 i2 t1 t2 xs ys 0 .none h) ∨ ∃ a f, ZipOut z TI TO i1 i2 t1 t2 xs ys i a f h ∧ a ≠ S
theorem ZSt.keep {z TI TO i1 i2 t1 t2 S : Addr} {xs ys : Array Value} {i : Nat} {h h' : Heap} (Z : ZSt z TI TO i1 i2 t1 t2 xs ys S i h) (nS : ∀ b ∈ [z, TI, TO, i1, i2, t1, t2], b ≠ S) (k : ∀ b o, b ≠ S → h.get? b = some o → h'.get? b = some o) (ks : h'.objs.size = h.objs.size) : ZSt z TI TO i1 i2 t1 t2 xs ys S i h' := by
  rcases Z with ⟨e, Z⟩ | ⟨a, f, Z, ha⟩
  · exact .inl ⟨e, Z.keeps (fun b hb o q => k b o (nS b (by simp only [List.mem_cons, List.not_mem_nil, or_false] at hb ⊢; rcases hb with h | h | h | h | h <;> simp [h])) q) (fun o q => k _ o (nS _ (by simp)) q) (fun o q => k _ o (nS _ (by simp)) q)⟩
  · obtain ⟨hz, hTI, h1, h2, ⟨o, al⟩, az, a1, a2, lt⟩ := Z
    exact .inr ⟨a, f, ⟨k _ _ (nS _ (by simp)) hz, k _ _ (nS _ (by simp)) hTI, h1.keeps (fun o q => k _ o (nS _ (by simp)) q) (fun o q => k _ o (nS _ (by simp)) q), h2.keeps (fun o q => k _ o (nS _ (by simp)) q) (fun o q => k _ o (nS _ (by simp)) q), ⟨o, k _ _ ha al⟩, az, a1, a2, by rw [ks]; exact lt⟩, ha⟩
section
variable {prog : Program} {w : World} {A : Around} {E : Value → Shared → Prop} {s : Shared}
end
end L3
namespace L2
open PySem PySem.Spec PyProof.Rows
end L2
namespace L2
open PySem PySem.Spec PyProof.Rows
end L2
namespace L2
open PySem PySem.Spec PyProof.Rows
theorem rangeSize_two (a b : Int) : Builtin.Range.rangeSize a b 2 = if a < b then (b - a - 1) / 2 + 1 else 0 := by
  unfold Builtin.Range.rangeSize
  rw [if_pos (by decide)]
theorem small_two {a b : Int} (ha : -(2 ^ 61) ≤ a) (ha' : a < 2 ^ 61) (hb : -(2 ^ 61) ≤ b) (hb' : b < 2 ^ 61) : Builtin.Range.small a b 2 = true := by
  unfold Builtin.Range.small
  rw [rangeSize_two]
  simp only [Builtin.Range.rangeFitsLong, Bool.and_eq_true, Bool.or_eq_true, decide_eq_true_eq, beq_iff_eq, show ((2 : Int) > 0) by decide, if_true]
  split <;> omega
noncomputable def iRngTwo (ta : TA) : TI := fun σ H R => ta σ H fun vs H1 => ∃ (lo hi : Int), vs = [.int lo, .int hi, .int 2] ∧ (-(2 ^ 61) ≤ lo ∧ lo < 2 ^ 61 ∧ -(2 ^ 61) ≤ hi ∧ hi < 2 ^ 61) ∧ R (ItrS lo 2 ((hi - lo + 1) / 2).toNat) H1
section
variable {X : Cx} {tg : Expr}
theorem pi_rangeTwo {a b c : Expr} {ta : TA} {p pos : Pos} (hg : Gl X "range") (hm : X.mg "range" = none) (ha : PA X [a, b, c] ta) (hs : starEach [a, b, c] X.env = [(false, eval a X.env), (false, eval b X.env), (false, eval c X.env)] := by rfl)
    (hs2 : starEach [b, c] X.env = [(false, eval b X.env), (false, eval c X.env)] := by rfl) : PI X tg (.Call (.Name "range" p) [a, b, c] [] pos) (iRngTwo ta) := by
  intro pins s σ H R I h
  refine Call_ (ld_blt I hg hm boot_range (PyProof.Rows.callWith_type1 (thn (ha pos pins s σ H _ I h) fun us s1 ⟨vs, H1, I1, r1, q1⟩ => ?_) (by rw [hs, hs2]) (by rw [hs2]; rfl)))
  obtain ⟨lo, hi, e, ⟨q1, q2, q3, q4⟩, q⟩ := q1
  subst e
  cases r1 with
  | cons r rr =>
    cases rr with
    | cons r' rr =>
      cases rr with
      | cons r'' rr =>
        cases rr
        obtain ⟨t, rfl⟩ := r
        obtain ⟨t', rfl⟩ := r'
        obtain ⟨t'', rfl⟩ := r''
        refine call_range_3 (by decide) ?_ (Or.inl (PyProof.noPylong_small (by omega)))
        refine wpAny_pyIter_range (IsRange.new ..) (small_two q1 q2 q3 q4) ?_
        have I2 : Inv X pins σ H1 { s1 with heap := s1.heap.push { cls := .type "range", data := .fields #[.int lo t, .int hi t', .int 2 t''] }, toks := s1.toks } := I1.kept fun b o e => Heap.get?_push_of_some _ e
        refine ⟨_, [(s1.heap.push { cls := .type "range", data := .fields #[.int lo t, .int hi t', .int 2 t''] }).objs.size], _, _, H1, rfl, I2.kept (t' := s1.toks) fun b o e => Heap.get?_push_of_some _ e, turn_rangeS _ lo 2 ((hi - lo + 1) / 2).toNat, ?_, fun b hb => ?_, q⟩
        · have e1 : lo + ((0 : Nat) : Int) * 2 = lo := by simp
          have e2 : ((((hi - lo + 1) / 2).toNat : Nat) : Int) - ((0 : Nat) : Int) = Builtin.Range.rangeSize lo hi 2 := by
            rw [rangeSize_two]
            split <;> omega
          show IsRangeIter _ _ (lo + ((0 : Nat) : Int) * 2) ((((hi - lo + 1) / 2).toNat : Int) - ((0 : Nat) : Int)) 2
          rw [e1, e2]
          exact Heap.get?_push_size _ rfl
        · have e : b = (s1.heap.push { cls := .type "range", data := .fields #[.int lo t, .int hi t', .int 2 t''] }).objs.size := by simpa using hb
          subst e
          exact I2.fpOk (Nat.le_refl _) (I2.hok.fresh (Nat.le_refl _))
theorem ints_all (ns ms : List Int) : ((List.range (min ns.length ms.length)).all (fun j => ns.getD j 0 == ms.getD j 0) && ns.length == ms.length) = decide (ns = ms) := by
  rw [Bool.eq_iff_iff]
  simp only [Bool.and_eq_true, List.all_eq_true, List.mem_range, beq_iff_eq, decide_eq_true_eq]
  constructor
  · rintro ⟨h, hl⟩
    refine List.ext_getElem hl fun i h1 h2 => ?_
    have := h i (by omega)
    rw [List.getD_eq_getElem?_getD, List.getD_eq_getElem?_getD, List.getElem?_eq_getElem h1, List.getElem?_eq_getElem h2] at this
    exact this
  · rintro rfl
    exact ⟨fun _ _ => rfl, rfl⟩
theorem int_at {ns : List Int} {its : List Value} (r : Vals (ns.map V.int) its) {j : Nat} (h : j < its.length) : ∃ t, its[j] = Value.int (ns.getD j 0) t := by
  have hl := r.length
  rw [List.length_map] at hl
  obtain ⟨u, hu, ru⟩ := r.get (i := j) (x := .int (ns.getD j 0)) (by rw [List.getElem?_map, List.getElem?_eq_getElem (by omega), List.getD_eq_getElem?_getD, List.getElem?_eq_getElem (by omega)]; rfl)
  obtain ⟨t, rfl⟩ := ru
  rw [List.getElem?_eq_getElem h] at hu
  exact ⟨t, Option.some.inj hu⟩
theorem op_neTI (hu : X.A.units < cLine) : OpR X (compareOp .NotEq) (fun x y H Q => ∃ (p p2 : Addr) (ns ms : List Int), x = .ref p ∧ y = .ref p2 ∧ SqT X.K H p (ns.map V.int) ∧ SqT X.K H p2 (ms.map V.int) ∧ Q (.bl (!decide (ns = ms))) H) := by
  intro pins s σ H x y v u Q I rx ry h
  obtain ⟨p, p2, ns, ms, rfl, rfl, h1, h2, q⟩ := h
  cases rx
  cases ry
  obtain ⟨its, r1, l1, _⟩ := I.tuple h1
  obtain ⟨its2, r2, l2, _⟩ := I.tuple h2
  have e1 := r1.length
  have e2 := r2.length
  rw [List.length_map] at e1 e2
  refine SeqAt.RcNeAt.tuples (e := fun j => ns.getD j 0 == ms.getD j 0) (show s.heap.IsTuple p its.toArray from l1) (show s.heap.IsTuple p2 its2.toArray from l2) hu (fun j g1 g2 => ?_) X.prog X.w _ _ ?_
  · rw [List.size_toArray] at g1 g2
    obtain ⟨t, w1⟩ := int_at r1 g1
    obtain ⟨t', w2⟩ := int_at r2 g2
    rw [List.getElem_toArray, List.getElem_toArray, w1, w2]
    exact SeqAt.EqAt.int_int _ _ _ _
  · rw [List.size_toArray, List.size_toArray, ← e1, ← e2, ints_all]
    exact ⟨.bl _, H, I, rfl, q⟩
end
end L2
namespace L2
open PySem PySem.Spec PyProof.Rows
noncomputable abbrev tJoin (t : TS) : TS := fun D σ H => ∃ J : St → Hp → Prop, (∀ σ' H', J σ' H' → D.nx σ' H') ∧ t { D with nx := J } σ H
theorem ps_joinN {X : Cx} {st : Stmt} {t : TS} (h : PS X st t) : PS X st (tJoin t) := ps_join h
end L2
namespace L2
open PySem PySem.Spec PyProof.Rows
section
variable {X : Cx}
end
end L2
namespace L2
open PySem PySem.Spec PyProof.Rows
end L2
namespace L2
open PySem PySem.Spec PyProof.Rows
theorem tuple_mul_one (l : Addr) (items : Array Value) (n : Nat) (dd : Option Addr) (sl : Array (Option Value)) (u : Tok) :
    Meets (Builtin.«tuple.__mul__» ⟨[.ref l, .int 1 u], []⟩) (fun _ R s => s.heap.get? l = some { cls := .type "tuple", dict := dd, data := .seq items n, slots := sl } ∧ R (.ok (.ret (.ref l))) s) :=
  .of_wp fun prog w A R s h => by
    obtain ⟨hp, g, d, tk, os⟩ := s
    obtain ⟨hl, h⟩ := h
    unfold Builtin.«tuple.__mul__»
    wp_walk using AutoSeq1.wpAny_loadPart' hl
    exact ⟨_, rfl, h⟩
theorem tuple_mul_none (l : Addr) (items : Array Value) (n : Nat) (dd : Option Addr) (sl : Array (Option Value)) (u : Tok) (hne : items.isEmpty = false) :
    Meets (Builtin.«tuple.__mul__» ⟨[.ref l, .int 0 u], []⟩) (fun _ R s => s.heap.get? l = some { cls := .type "tuple", dict := dd, data := .seq items n, slots := sl } ∧ R (.ok (.ret (.ref s.heap.objs.size))) { s with heap := s.heap.push { cls := .type "tuple", data := .seq #[] } }) :=
  .of_wp fun prog w A R s h => by
    obtain ⟨hp, g, d, tk, os⟩ := s
    obtain ⟨hl, h⟩ := h
    unfold Builtin.«tuple.__mul__»
    wp_walk using AutoSeq1.wpAny_loadPart' hl
    exact ⟨_, rfl, h⟩
noncomputable def rRepT01 (K : PySem.W.Frag) : R2 := fun x y H Q => ∃ l k xs, x = .ref l ∧ y = .int k ∧ SqT K H l xs ∧ xs ≠ [] ∧ ((k = 1 ∧ Q (.ref l) H) ∨ (k = 0 ∧ ∀ p, H p = none → Q (.ref p) (upd H p (.tup []))))
section
variable {X : Cx}
theorem op_repT01 : OpR X (binaryOp .Mult) (rRepT01 X.K) := by
  intro pins s σ H x y v u Q I rx ry h
  obtain ⟨l, k, xs, rfl, rfl, hq, hne, h⟩ := h
  cases rx
  obtain ⟨t, rfl⟩ := ry
  obtain ⟨its, r, pl, hzl⟩ := I.tuple hq
  have hl := r.length
  obtain ⟨⟨oc, od, odt, osl⟩, e, hc, n, hd⟩ := id pl
  replace hc : oc = .type "tuple" := hc
  replace hd : odt = .seq its.toArray n := hd
  subst hc hd
  have hne2 : its.toArray.isEmpty = false := by
    cases its with
    | nil =>
      cases xs with
      | nil => exact absurd rfl hne
      | cons a b => simp at hl
    | cons a b => rfl
  rcases h with ⟨rfl, q⟩ | ⟨rfl, q⟩
  · refine wpAny_binaryOp_repeat_ref (T := "tuple") (U := "int") (by decide) ⟨_, e, rfl⟩ (fun s' => typeIs_int s' 1 t) noFill_tuple_mul PySem.F.fills_int_mul PySem.F.slot_int_rmul repeat_tuple PySem.F.slot_int_index.lookup
      (call_meets PySem.F.slot_int_rmul (typeIs_int s 1 t) PySem.F.entry_int_rmul (PySem.F.args_int_rmul_2 _ _) (rmul_int_tuple 1 t l its.toArray n od osl)
        ⟨e, rfl, ⟨_, e, rfl⟩, call_meets PySem.F.slot_tuple_mul ⟨_, e, rfl⟩ PySem.F.entry_tuple_mul (PySem.F.args_tuple_mul_2 _ _) (tuple_mul_one l its.toArray n od osl t) ⟨e, ?_⟩⟩)
    exact ⟨.ref l, H, I, rfl, q⟩
  · refine wpAny_binaryOp_repeat_ref (T := "tuple") (U := "int") (by decide) ⟨_, e, rfl⟩ (fun s' => typeIs_int s' 0 t) noFill_tuple_mul PySem.F.fills_int_mul PySem.F.slot_int_rmul repeat_tuple PySem.F.slot_int_index.lookup
      (call_meets PySem.F.slot_int_rmul (typeIs_int s 0 t) PySem.F.entry_int_rmul (PySem.F.args_int_rmul_2 _ _) (rmul_int_tuple 0 t l its.toArray n od osl)
        ⟨e, rfl, ⟨_, e, rfl⟩, call_meets PySem.F.slot_tuple_mul ⟨_, e, rfl⟩ PySem.F.entry_tuple_mul (PySem.F.args_tuple_mul_2 _ _) (tuple_mul_none l its.toArray n od osl t hne2) ⟨e, ?_⟩⟩)
    refine ⟨.ref _, _, I.laid (t' := s.toks) (o := .tup []) (fun b u e => Heap.get?_push_of_some _ e) (Nat.le_refl _) ?_, rfl, q _ (I.hok.fresh (Nat.le_refl _))⟩
    exact ⟨Nat.zero_le _, _, .nil, IsTup.new _ _, _, Heap.get?_push_size _ rfl, rfl⟩
end
end L2
namespace L2
open PySem PySem.Spec PyProof.Rows
end L2
namespace L2
open PySem PySem.Spec PyProof.Rows
theorem comp_of {J : It} {n : Nat} {g : TG} {tt : TT} {te : TE} {σ : St} {H : Hp} {Q : VK} (Pv : Nat → List V → St → Hp → Prop) (h0 : Pv 0 [] σ H) (hl : ∀ i acc σ H, i ≤ n → Pv i acc σ H → acc.length ≤ 1000000)
    (hgo : ∀ i acc σ H, i < n → Pv i acc σ H → J.go i H) (hstop : ∀ acc σ H, Pv n acc σ H → J.stop n H)
    (hs : ∀ i acc σ H, i < n → Pv i acc σ H → ∀ x H2, J.yld i H x H2 → g x σ H2 fun σ2 H3 => tt σ2 H3 fun b H4 => if b = true then te σ2 H4 fun y H5 => Pv (i + 1) (acc ++ [y]) σ2 H5 else Pv (i + 1) acc σ2 H4)
    (hd : ∀ acc σ H D, Pv n acc σ H → H D = none → Q (.ref D) (upd H D (.lst acc))) : compW J g tt te σ H Q := by
  refine ⟨fun i m acc σ H => m = n - i ∧ i ≤ n ∧ Pv i acc σ H, ⟨n, by simp, Nat.zero_le _, h0⟩, ?_⟩
  rintro i m acc σ H ⟨rfl, hi, p⟩
  have hz := hl i acc σ H hi p
  by_cases hlt : i < n
  · exact .inr ⟨hgo i acc σ H hlt p, smallL hz, Pv (i + 1), fun acc' σ' H' p' => ⟨n - (i + 1), by omega, rfl, hlt, p'⟩, hs i acc σ H hlt p⟩
  · have e : i = n := by omega
    subst e
    exact .inl ⟨hstop acc σ H p, small hz, fun D fD => hd acc σ H D p fD⟩
theorem comp_tup {K : PySem.W.Frag} {a : Addr} {xs : List V} {g : TG} {tt : TT} {te : TE} {σ : St} {H : Hp} {Q : VK} (Pv : Nat → List V → St → Hp → Prop) (h0 : Pv 0 [] σ H) (hl : ∀ i acc σ H, i ≤ xs.length → Pv i acc σ H → acc.length ≤ 1000000)
    (ha : ∀ i acc σ H, i ≤ xs.length → Pv i acc σ H → SqT K H a xs)
    (hs : ∀ i x acc σ H, xs[i]? = some x → Pv i acc σ H → g x σ H fun σ2 H3 => tt σ2 H3 fun b H4 => if b = true then te σ2 H4 fun y H5 => Pv (i + 1) (acc ++ [y]) σ2 H5 else Pv (i + 1) acc σ2 H4)
    (hd : ∀ acc σ H D, Pv xs.length acc σ H → H D = none → Q (.ref D) (upd H D (.lst acc))) : compW (Itt K a) g tt te σ H Q :=
  comp_of Pv h0 hl (fun i acc σ H h p => ⟨xs, xs[i], ha i acc σ H (Nat.le_of_lt h) p, List.getElem?_eq_getElem h⟩) (fun acc σ H p => ⟨xs, ha _ acc σ H (Nat.le_refl _) p, Nat.le_refl _⟩) (fun i acc σ H h p x H2 y => by
    obtain ⟨e, y⟩ := y
    subst e
    exact hs i x acc σ _ (y xs (ha i acc σ _ (Nat.le_of_lt h) p)) p) hd
theorem comp_list {K : PySem.W.Frag} {a : Addr} {xs : List V} {g : TG} {tt : TT} {te : TE} {σ : St} {H : Hp} {Q : VK} (Pv : Nat → List V → St → Hp → Prop) (h0 : Pv 0 [] σ H) (hl : ∀ i acc σ H, i ≤ xs.length → Pv i acc σ H → acc.length ≤ 1000000)
    (ha : ∀ i acc σ H, i ≤ xs.length → Pv i acc σ H → SqL K H a xs)
    (hs : ∀ i x acc σ H, xs[i]? = some x → Pv i acc σ H → g x σ H fun σ2 H3 => tt σ2 H3 fun b H4 => if b = true then te σ2 H4 fun y H5 => Pv (i + 1) (acc ++ [y]) σ2 H5 else Pv (i + 1) acc σ2 H4)
    (hd : ∀ acc σ H D, Pv xs.length acc σ H → H D = none → Q (.ref D) (upd H D (.lst acc))) : compW (Itl K a) g tt te σ H Q :=
  comp_of Pv h0 hl (fun i acc σ H h p => ⟨xs, xs[i], ha i acc σ H (Nat.le_of_lt h) p, List.getElem?_eq_getElem h⟩) (fun acc σ H p => ⟨xs, ha _ acc σ H (Nat.le_refl _) p, Nat.le_refl _⟩) (fun i acc σ H h p x H2 y => by
    obtain ⟨e, y⟩ := y
    subst e
    exact hs i x acc σ _ (y xs (ha i acc σ _ (Nat.le_of_lt h) p)) p) hd
theorem comp_enum {K : PySem.W.Frag} {a : Addr} {xs : List V} {g : TG} {tt : TT} {te : TE} {σ : St} {H : Hp} {Q : VK} (Pv : Nat → List V → St → Hp → Prop) (h0 : Pv 0 [] σ H) (hl : ∀ i acc σ H, i ≤ xs.length → Pv i acc σ H → acc.length ≤ 1000000)
    (ha : ∀ i acc σ H, i ≤ xs.length → Pv i acc σ H → SqT K H a xs)
    (hs : ∀ i x acc σ H p, xs[i]? = some x → Pv i acc σ H → H p = none → g (.ref p) σ (upd H p (.tup [.int i, x])) fun σ2 H3 => tt σ2 H3 fun b H4 => if b = true then te σ2 H4 fun y H5 => Pv (i + 1) (acc ++ [y]) σ2 H5 else Pv (i + 1) acc σ2 H4)
    (hd : ∀ acc σ H D, Pv xs.length acc σ H → H D = none → Q (.ref D) (upd H D (.lst acc))) : compW (Ite K a) g tt te σ H Q :=
  comp_of Pv h0 hl (fun i acc σ H h p => ⟨xs, xs[i], ha i acc σ H (Nat.le_of_lt h) p, List.getElem?_eq_getElem h⟩) (fun acc σ H p => ⟨xs, ha _ acc σ H (Nat.le_refl _) p, Nat.le_refl _⟩) (fun i acc σ H h p x H2 y => by
    obtain ⟨q, z, fq, rfl, rfl, y⟩ := y
    exact hs i z acc σ _ q (y xs (ha i acc σ _ (Nat.le_of_lt h) p)) p fq) hd
end L2
namespace L2
open PySem PySem.Spec PyProof.Rows
noncomputable def Fit (n : Nat) : Prop := ∃ k, k ≤ 8000 ∧ n < 2 ^ k
theorem Fit.le {m n : Nat} (h : Fit n) (l : m ≤ n) : Fit m := by
  obtain ⟨k, h1, h2⟩ := h
  exact ⟨k, h1, Nat.lt_of_le_of_lt l h2⟩
theorem Fit.of {n : Nat} (h : n < 18446744073709551616) : Fit n := ⟨64, by decide, h⟩
theorem Fit.log {n : Nat} (h : Fit n) : n.log2 < 9000 := by
  obtain ⟨k, h1, h2⟩ := h
  by_cases h0 : n = 0
  · rw [h0]; decide +kernel
  · have := (Nat.log2_lt h0).mpr h2
    omega
theorem Fit.bits {i : Int} (h : Fit i.natAbs) : Builtin.Int.intBits i ≤ 2 ^ 20 := by
  obtain ⟨k, h1, h2⟩ := h
  refine Nat.le_trans (PyProof.Rows.intBits_le h2) (Nat.le_trans h1 ?_)
  decide
noncomputable def CDivB (i j : Int) : Prop := 0 < j ∧ Fit j.natAbs
noncomputable def CMulB (i j : Int) : Prop := Fit i.natAbs ∧ Fit j.natAbs
theorem Room.units1 {k : Nat} {A : Around} (r : Room k A) : A.units + 1 < cLine := by have := r.un; omega
section
variable {X : Cx}
theorem op_fdivB : OpR X (binaryOp .FloorDiv) (rI CDivB fun i j => .int (i / j)) := opI fun i j _ _ _ _ _ hc q => by
  have h1 : (0 : Int) < j := hc.1
  exact floordiv_int (by omega) (by rw [Int.fdiv_eq_ediv_of_nonneg i (by omega)]; exact q) (.inl (PyProof.noPylong_of_log2 hc.2.log))
theorem op_mulB : OpR X (binaryOp .Mult) (rI CMulB fun i j => .int (i * j)) := opI fun _ _ _ _ _ _ _ hc q => mul_int q (IntMulOk.of_bits hc.1.bits hc.2.bits)
end
end L2
namespace PySem
open PySem.W PyProof.Rows
section
variable {prog : Program} {w : World} {A : Around} {E : Value → Shared → Prop} {s : Shared} {T : String} {r d : Addr} {n : Nat} {P : Nat → Value → Prop} {OK : Heap → Prop}
theorem collect_src {Q : List Value → Shared → Prop} (K : KdlSrc prog w T r d n P OK) (hh : A.handled = none) (hok : OK s.heap) (hn : n ≤ sizeLine)
    (hQ : ∀ (h' : Heap) (tk : Nat) (acc : Array Value), (∀ b o, s.heap.get? b = some o → h'.get? b = some o) → ItemsOf P acc n → Q acc.toList { s with heap := h', toks := tk }) : wpAny (model prog w) A (collect (.ref r)) Q E s := by
  unfold collect
  refine wpAny_bind (wpAny_runValue (codeAny_builtin F.entry_proto_collect ?_))
  rw [Around.under_plainId F.plain_proto_collect _]
  show wpAny _ A.in1 (newList [] >>= fun l => again (.builtin "list.__iadd__" ⟨[l, .ref r], []⟩)) _ _ s
  refine wpAny_bind (wpAny_newObj_type ?_)
  refine wpAny_pure ⟨plainId_quiet F.plain_list_iadd _, codeAny_builtin F.entry_list_iadd ?_⟩
  rw [Around.under_plainId F.plain_list_iadd _]
  show wpAny _ A.in1 (Builtin.List.listExtendWith (.ref s.heap.objs.size) (.ref r) (.ref s.heap.objs.size)) _ _ _
  have hlt := K.there _ hok
  have hS0 : (s.heap.push { cls := .type "list", data := .seq ([] : List Value).toArray }).get? s.heap.objs.size = some { cls := .type "list", data := .seq #[] 0 } := Heap.get?_push_size _ rfl
  refine kdl_extend (R := fun r s' => match r with
    | .ok (.ret v) => wpAny (model prog w) A (match v with
      | .ref a => do
        let o ← load a
        match o.data with
          | .seq xs _ => pure xs.toList
          | _ => unsupported "internal:collect"
      | _ => unsupported "internal:collect") Q E s'
    | .ok _ => False
    | .error e => E e s') (s := { s with heap := s.heap.push { cls := .type "list", data := .seq ([] : List Value).toArray } }) K hh (K.keep _ _ hok fun b _ o e => Heap.get?_push_of_some _ e) _ (Nat.ne_of_gt hlt.1) (Nat.ne_of_gt hlt.2) _ 0 hS0 (fun h' tk acc c hk hS hacc => ?_) hn
  show wpAny _ A (load s.heap.objs.size >>= _) _ _ _
  refine wpAny_bind (wpAny_load hS ?_)
  exact wpAny_pure (hQ h' tk acc (fun b o e => hk b o (Nat.ne_of_lt (Heap.lt_size e)) (Heap.get?_push_of_some _ e)) hacc)
theorem code_tuple_src {Q₁ : Value → Shared → Prop} (K : KdlSrc prog w "dict" r d n P OK) (hh : A.in1.handled = none) (hok : OK s.heap) (hn : n ≤ sizeLine)
    (h : ∀ (h' : Heap) (tk : Nat) (acc : Array Value), (∀ b o, s.heap.get? b = some o → h'.get? b = some o) → ItemsOf P acc n → Q₁ (.ref h'.objs.size) { s with heap := h'.push { cls := .type "tuple", data := .seq acc }, toks := tk }) :
    codeAny (model prog w) A (.call (.builtin "tuple.__new__") ⟨[.type "tuple", .ref r], []⟩) (wants Q₁ E) s := by
  refine codeAny_of_tree ?_
  show wpAny _ A.in1 (do checkBuiltinCall "tuple.__new__" ⟨[.type "tuple", .ref r], []⟩; again (.builtin "tuple.__new__" ⟨[.type "tuple", .ref r], []⟩)) _ _ s
  refine wpAny_bind (wpAny_of_eq (F.newCall_tuple_1 _) (wpAny_pure ⟨plainId_quiet F.plain_tuple_new _, codeAny_builtin F.entry_tuple_new ?_⟩))
  rw [Around.under_plainId F.plain_tuple_new _]
  have hsub := sub_tuple_self
  have hinit := init_tuple_lookup
  have hmh := madeHere_tuple
  have hTI := K.type s hok
  have hnt := K.notTuple
  wp_walk using wpAny_typeOf hTI, collect_src K hh hok hn
  intro h' tk acc hm hacc
  show wpAny _ _ (Builtin.Tuple.tupleExact acc.toList.toArray >>= fun v => ret v) _ _ _
  unfold Builtin.Tuple.tupleExact
  refine wpAny_bind (wpAny_newObj_type ?_ (by show acc.toList.toArray.size ≤ sizeLine; simp only [Array.toArray_toList]; rw [hacc.1]; exact hn))
  refine wpAny_pure ?_
  have e : acc.toList.toArray = acc := by simp
  rw [e]
  exact h h' tk acc hm hacc
theorem call_tuple_src {Q : Value → Shared → Prop} (K : KdlSrc prog w "dict" r d n P OK) (hh : A.in1.in1.handled = none) (hok : OK s.heap) (hn : n ≤ sizeLine)
    (hQ : ∀ (h' : Heap) (tk : Nat) (acc : Array Value), (∀ b o, s.heap.get? b = some o → h'.get? b = some o) → ItemsOf P acc n → Q (.ref h'.objs.size) { s with heap := h'.push { cls := .type "tuple", data := .seq acc }, toks := tk }) :
    wpAny (model prog w) A (call (.type "tuple") [.ref r]) Q E s := by
  refine callType_codes (Q₁ := fun obj s₁ => s₁.TypeIs obj "tuple" ∧ Q obj s₁) F.called_tuple (F.typeCall_tuple_1 _) F.entry_object_init
    (code_tuple_src K hh hok hn fun h' tk acc hm hacc => ⟨⟨_, Heap.get?_push_size _ rfl, rfl⟩, hQ h' tk acc hm hacc⟩) fun obj s₁ h₁ => ?_
  exact ⟨h₁.1, F.args_object_init_2 obj _, object_init_meets F.called_tuple.init.lookup F.called_tuple.made (by decide) prog w A.in1 _ s₁ ⟨h₁.1, rfl, h₁.2⟩⟩
end
end PySem
namespace L2
open PySem PySem.Spec PyProof.Rows PySem.W
theorem pairedGet {α β : Type} {F : α → β → Prop} : ∀ {l : List α} {m : List β}, l.length = m.length → (∀ (i : Nat) x y, l[i]? = some x → m[i]? = some y → F x y) → Paired F l m
  | [], [], _, _ => .nil
  | x :: l, y :: m, hl, h => .cons (h 0 x y rfl rfl) (pairedGet (by simpa using hl) fun i a b e1 e2 => h (i + 1) a b (by simpa using e1) (by simpa using e2))
  | [], _ :: _, hl, _ => by simp at hl
  | _ :: _, [], hl, _ => by simp at hl
theorem relKey {k : Key} {v : Value} (h : keyIs k v = true) : RelV (kV k) v := by
  rcases keyIs_shape h with ⟨i, t, rfl, rfl⟩ | ⟨x, t, rfl, rfl⟩
  · exact ⟨_, rfl⟩
  · exact ⟨_, rfl⟩
section
variable {X : Cx}
theorem call_tupleD (hc : X.calm = true) : CallR X (.type "tuple") (fun xs H Q => ∃ (a : Addr) (kvs : List (Key × V)), xs = [V.ref a] ∧ H a = some (.dK kvs) ∧ ∀ l, H l = none → Q (.ref l) (upd H l (.tup (kvs.map fun kv => kV kv.1)))) := by
  intro pins s σ H xs us Q I r h
  obtain ⟨a, kvs, rfl, ha, q⟩ := h
  obtain ⟨u, rfl, rx⟩ := vals1 r
  cases rx
  obtain ⟨hz, hd, vs, rel, dd⟩ := dk_of I.hok ha
  obtain ⟨ep, dd⟩ := dd.dictAt
  have hl := rel.length
  have hh : X.A.in1.in1.handled = none := I.ok.hd hc
  refine call_tuple_src (kdl_dict (knd := mixKind X.prog X.w) (kvs := vs) (ep := ep) hd) hh dd (by omega) fun h' tk acc kp hacc => ?_
  have I1 : Inv X pins σ H { s with heap := h', toks := tk } := I.kept (t' := tk) kp
  have rv : Vals (kvs.map fun kv => kV kv.1) acc.toList := by
    refine pairedGet (by have := hacc.1; simp only [List.length_map, Array.length_toList]; omega) fun i x y e1 e2 => ?_
    obtain ⟨k, z, ek, hk⟩ := hacc.2 i y (by rw [← Array.getElem?_toList]; exact e2)
    have e3 : (kvs.map (·.1))[i]? = some k := by rw [rel.keys, List.getElem?_map, ek]; rfl
    rw [List.getElem?_map] at e1 e3
    cases eq : kvs[i]? with
    | none => rw [eq] at e3; cases e3
    | some kv =>
      rw [eq] at e1 e3
      cases e1
      cases e3
      exact relKey hk
  have ea : acc.toList.toArray = acc := by simp
  have I2 : Inv X pins σ (upd H h'.objs.size (.tup (kvs.map fun kv => kV kv.1))) { s with heap := h'.push { cls := .type "tuple", data := .seq acc }, toks := tk } :=
    I1.laid (t' := tk) (fun b o e => Heap.get?_push_of_some _ e) (Nat.le_refl _) (show ObjOk X.prog X.w _ _ _ (.tup (kvs.map fun kv => kV kv.1)) from ⟨by rw [List.length_map]; exact hz, acc.toList, rv, by rw [ea]; exact IsTup.new _ _, _, Heap.get?_push_size _ rfl, rfl⟩)
  exact ⟨.ref h'.objs.size, _, I2, rfl, q _ (I1.hok.fresh (Nat.le_refl _))⟩
theorem op_notInD (hu : X.A.units + 1 < cLine) : OpR X (compareOp .NotIn) (fun y x H Q => ∃ a o, x = .ref a ∧ DGet H a y o ∧ Q (.bl (!o.isSome)) H) := by
  intro pins s σ H y x iv u Q I ry rx h
  obtain ⟨a, o, rfl, g, q⟩ := h
  cases rx
  exact d_notIn hu I g ry fun s3 I3 => ⟨.bl (!o.isSome), H, I3, rfl, q⟩
end
end L2
namespace L2
open PySem PySem.Spec PyProof.Rows
section
variable {X : Cx}
end
end L2
namespace L2
open PySem PySem.Spec PyProof.Rows
theorem vals_of_ints : ∀ {us : List Value} {ns : List Int}, IntsAre us ns → Vals (ns.map V.int) us
  | _, _, .nil => .nil
  | _, _, .cons n t h => .cons ⟨t, rfl⟩ (vals_of_ints h)
end L2
namespace L2
open PySem PySem.Spec PyProof.Rows
section
variable {X : Cx}
end
end L2
namespace L2
open PySem PySem.Spec PyProof.Rows
end L2
set_option maxRecDepth 100000
namespace L2
open PySem PySem.Spec PyProof.Rows
noncomputable abbrev Cx.tr (X : Cx) (ps : List (Addr × Obj)) (Kx : Value → Shared → Prop) : Cx := { X with pn := X.pn ++ ps, xe := fun e s' => wpAny (model X.prog X.w) X.A (noteFrame e X.env) (fun _ s'' => Kx e s'') X.xe s' }
section
variable {X : Cx} {ps pins : List (Addr × Obj)} {Kx : Value → Shared → Prop} {σ : St} {H : Hp} {s : Shared} {Ex : St → XK}
theorem Inv.tr (I : Inv X ps σ H s) (Kx : Value → Shared → Prop) : Inv (X.tr ps Kx) [] σ H s :=
  ⟨⟨I.ok.mod, I.ok.kind, I.ok.glob, I.ok.blt, I.ok.above, I.ok.inj, I.ok.has, I.ok.cab, I.ok.hd, I.ok.frames, I.ok.stk, I.ok.exf, I.ok.bs, I.ok.bsz, I.ok.noex, I.ok.exfs, I.ok.funs, I.ok.frf⟩, I.os, I.bare, I.base, I.loc, I.cell, I.free, I.freeC, fun p hp => I.pin p (by
    have : p ∈ (X.pn ++ ps) ++ [] := hp
    rwa [List.append_nil] at this), I.hok, I.len⟩
end
section
variable {X : Cx} {ps : List (Addr × Obj)} {Kx : Value → Shared → Prop} {Ex : St → XK} {k k' : Nat} {f C : Addr} {fd : FuncData} {qs : List Str} {sp : Sp} {m x : Str} {p pos apos : Pos} {o e : Expr} {es : List Expr} {ta : TE} {t : TA}
end
end L2
namespace L3
open PySem
open Sem (wp)
open AutoSeq1 (wpAny_loadPart')
noncomputable def AtQ (c : Bool) (it t : Addr) (xs : Array Value) (i : Nat) (h : Heap) : Prop := (c = true ∧ AtT it t xs i h) ∨ (c = false ∧ h.IsListIter it t i ∧ h.IsList t xs)
theorem AtQ.move {c : Bool} {it t b : Addr} {xs : Array Value} {i : Nat} {h h' : Heap} (a : AtQ c it t xs i h) (k : Heap.ExtBut b h h') (h1 : it ≠ b) (h2 : t ≠ b) : AtQ c it t xs i h' := by
  rcases a with ⟨e, a⟩ | ⟨e, a, a'⟩
  · exact .inl ⟨e, a.move k h1 h2⟩
  · exact .inr ⟨e, a.extBut k h1, a'.extBut k h2⟩
theorem AtQ.keeps {c : Bool} {it t : Addr} {xs : Array Value} {i : Nat} {h h' : Heap} (a : AtQ c it t xs i h) (k1 : ∀ o, h.get? it = some o → h'.get? it = some o) (k2 : ∀ o, h.get? t = some o → h'.get? t = some o) : AtQ c it t xs i h' := by
  rcases a with ⟨e, a⟩ | ⟨e, ⟨o, ho, r⟩, o', ho', r'⟩
  · exact .inl ⟨e, a.keeps k1 k2⟩
  · exact .inr ⟨e, ⟨o, k1 o ho, r⟩, o', k2 o' ho', r'⟩
noncomputable def ItQ (c : Bool) (it t : Addr) (i : Nat) (h : Heap) : Prop := (c = true ∧ h.IsTupleIter it t i) ∨ (c = false ∧ h.IsListIter it t i)
theorem AtQ.iter {c : Bool} {it t : Addr} {xs : Array Value} {i : Nat} {h : Heap} (a : AtQ c it t xs i h) : ItQ c it t i h := by
  rcases a with ⟨e, a⟩ | ⟨e, a, _⟩
  · exact .inl ⟨e, a.iter⟩
  · exact .inr ⟨e, a⟩
theorem ItQ.at {c : Bool} {it t : Addr} {i : Nat} {h h' : Heap} (a : ItQ c it t i h) (k : ∀ o, h.get? it = some o → h'.get? it = some o) : ItQ c it t i h' := by
  rcases a with ⟨e, o, ho, r⟩ | ⟨e, o, ho, r⟩
  · exact .inl ⟨e, o, k o ho, r⟩
  · exact .inr ⟨e, o, k o ho, r⟩
theorem ItQ.obj {c : Bool} {it t : Addr} {i : Nat} {h : Heap} (a : ItQ c it t i h) : ∃ o, h.get? it = some o ∧ ∀ v, o.data ≠ .cell v := by
  rcases a with ⟨_, o, ho, _, d⟩ | ⟨_, o, ho, _, d⟩
  · exact ⟨o, ho, fun v z => by rw [d] at z; cases z⟩
  · exact ⟨o, ho, fun v z => by rw [d] at z; cases z⟩
noncomputable def SeqQ (c : Bool) (t : Addr) (xs : Array Value) (h : Heap) : Prop := (c = true ∧ h.IsTuple t xs) ∨ (c = false ∧ h.IsList t xs)
theorem AtQ.of {c : Bool} {it t : Addr} {xs : Array Value} {i : Nat} {h : Heap} (a : ItQ c it t i h) (b : SeqQ c t xs h) : AtQ c it t xs i h := by
  rcases a with ⟨e, a⟩ | ⟨e, a⟩ <;> rcases b with ⟨e', b⟩ | ⟨e', b⟩
  · exact .inl ⟨e, a, b⟩
  · rw [e] at e'; cases e'
  · rw [e] at e'; cases e'
  · exact .inr ⟨e, a, b⟩
theorem SeqQ.lt {c : Bool} {t : Addr} {xs : Array Value} {h : Heap} (b : SeqQ c t xs h) : t < h.objs.size := by
  rcases b with ⟨_, o, ho, _⟩ | ⟨_, o, ho, _⟩ <;> exact Heap.lt_size ho
theorem SeqQ.keeps {c : Bool} {t : Addr} {xs : Array Value} {h h' : Heap} (b : SeqQ c t xs h) (k : ∀ o, h.get? t = some o → h'.get? t = some o) : SeqQ c t xs h' := by
  rcases b with ⟨e, o, ho, r⟩ | ⟨e, o, ho, r⟩
  · exact .inl ⟨e, o, k o ho, r⟩
  · exact .inr ⟨e, o, k o ho, r⟩
section
variable {prog : Program} {w : World} {A : Around} {E : Value → Shared → Prop} {s : Shared}
structure ZipQ (c1 c2 : Bool) (z TI TO i1 i2 t1 t2 : Addr) (xs ys : Array Value) (i : Nat) (f0 : Value) (h : Heap) : Prop where
  z : IsZip h z TI TO f0
  TI : IsPair h TI (.ref i1) (.ref i2)
  TO : ∃ a b, IsPair h TO a b
  one : AtQ c1 i1 t1 xs i h
  two : AtQ c2 i2 t2 ys i h
theorem ZipQ.keeps {c1 c2 : Bool} {z TI TO i1 i2 t1 t2 : Addr} {xs ys : Array Value} {i : Nat} {f0 : Value} {h h' : Heap} (Z : ZipQ c1 c2 z TI TO i1 i2 t1 t2 xs ys i f0 h) (k : ∀ b ∈ [z, TI, TO, i1, i2], ∀ o, h.get? b = some o → h'.get? b = some o)
    (k1 : ∀ o, h.get? t1 = some o → h'.get? t1 = some o) (k2 : ∀ o, h.get? t2 = some o → h'.get? t2 = some o) : ZipQ c1 c2 z TI TO i1 i2 t1 t2 xs ys i f0 h' :=
  ⟨k z (by simp) _ Z.z, k TI (by simp) _ Z.TI, let ⟨a, b, q⟩ := Z.TO; ⟨a, b, k TO (by simp) _ q⟩, Z.one.keeps (k i1 (by simp)) k1, Z.two.keeps (k i2 (by simp)) k2⟩
end
section
variable {prog : Program} {w : World} {A : Around} {E : Value → Shared → Prop} {s : Shared}
end
end L3
namespace L2
open PySem PySem.Spec PyProof.Rows
noncomputable def SqQ (c : Bool) (K : PySem.W.Frag) (H : Hp) (a : Addr) (xs : List V) : Prop := (c = true ∧ SqT K H a xs) ∨ (c = false ∧ SqL K H a xs)
theorem SqQ.tup {K : PySem.W.Frag} {H : Hp} {a : Addr} {xs : List V} (h : SqT K H a xs) : SqQ true K H a xs := .inl ⟨rfl, h⟩
theorem SqQ.lst {K : PySem.W.Frag} {H : Hp} {a : Addr} {xs : List V} (h : SqL K H a xs) : SqQ false K H a xs := .inr ⟨rfl, h⟩
section
variable {X : Cx}
end
end L2
namespace PySem
open PySem.W PyProof.Rows
section
variable {prog : Program} {w : World} {A : Around} {E : Value → Shared → Prop} {s : Shared} {r : Addr} {a b c : Int} {t u v : Tok} {n : Nat}
end
end PySem
namespace PyProof.Rows
open PySem
section
variable {prog : Program} {w : World} {A : Around} {E : Value → Shared → Prop} {s : Shared}
end
end PyProof.Rows
namespace L2
open PySem PySem.Spec PyProof.Rows
section
variable {X : Cx}
end
end L2
namespace PySem
open Sem (wp)
end PySem
namespace PySem.F
end PySem.F
namespace L2
open PySem PySem.Spec PyProof.Rows
end L2
namespace L2
open PySem PySem.Spec PyProof.Rows
section
variable {X : Cx} {tg : Expr}
end
end L2
namespace L2
open PySem PySem.Spec PyProof.Rows
section
variable {X : Cx}
end
end L2
namespace PySem
open Sem (wp)
section
variable {prog : Program} {w : World} {A : Around} {E : Value → Shared → Prop} {s : Shared}
end
end PySem
namespace L2
open PySem PySem.Spec PyProof.Rows PySem.W
section
variable {X : Cx} {tg : Expr}
end
end L2
namespace PySem
open Sem (wp)
section
variable {prog : Program} {w : World} {K : Type} [DecidableEq K] {knd : KeyKind prog w K} {A : Around} {E : Value → Shared → Prop} {s : Shared}
end
end PySem
namespace L2
open PySem PySem.Spec PyProof.Rows PySem.W
section
variable {X : Cx} {o e f : Expr} {apos cpos : Pos} {td ty tx : TE}
end
end L2
namespace L2
open PySem PySem.Spec PyProof.Rows PySem.W
section
variable {X : Cx}
end
end L2
namespace L2
open PySem PySem.Spec PyProof.Rows PySem.W
section
variable {X : Cx}
noncomputable def rEqTA (K : PySem.W.Frag) (neg : Bool) : R2 := fun x y H Q => ∃ (a b : Addr) (d c : Str) (rest : List V), x = .ref a ∧ y = .ref b ∧ SqT K H a (.str d :: rest) ∧ SqT K H b [.str c] ∧ Q (.bl (if neg then !(decide (d = c) && rest.isEmpty) else (decide (d = c) && rest.isEmpty))) H
theorem op_neTA (hu : X.A.units + 64 < cLine) : OpR X (compareOp .NotEq) (rEqTA X.K true) := by
  intro pins s σ H x y v u Q I rx ry h
  obtain ⟨a, b, d, c, rest, rfl, rfl, ha, hb, q⟩ := h
  cases rx
  cases ry
  obtain ⟨its, r1, p1, _⟩ := I.tuple ha
  obtain ⟨its2, r2, p2, _⟩ := I.tuple hb
  obtain ⟨u2, rfl, ru2⟩ := vals1 r2
  obtain ⟨t2, rfl⟩ := ru2
  have hl := r1.length
  obtain ⟨u1, us, rfl, t1, rfl⟩ : ∃ u1 us, its = u1 :: us ∧ ∃ t, u1 = .str d t := by
    cases r1 with
    | cons r t => obtain ⟨t', rfl⟩ := r; exact ⟨_, _, rfl, t', rfl⟩
  have hlu : us.length = rest.length := by simpa using hl.symm
  have ed : eqV (.str d) (.str c) = decide (d = c) := by
    show (d == c) = decide (d = c)
    by_cases z : d = c
    · rw [decide_eq_true z, z]; exact beq_self_eq_true _
    · rw [decide_eq_false z]
      cases e : d == c with
      | false => rfl
      | true => exact absurd (eq_of_beq e) z
  refine SeqAt.RcNeAt.tuples (e := fun _ => decide (d = c)) (show s.heap.IsTuple a (Value.str d t1 :: us).toArray from p1) (show s.heap.IsTuple b [Value.str c t2].toArray from p2) (by omega) (fun j g1 g2 => ?_) X.prog X.w _ _ ?_
  · have : j = 0 := by
      have : j < 1 := g2
      omega
    subst this
    rw [← ed]
    exact eqAt_V (y := .str d) (x := .str c) ⟨t1, rfl⟩ ⟨t2, rfl⟩ rfl rfl
  · have hv : ((List.range (min (Value.str d t1 :: us).toArray.size [Value.str c t2].toArray.size)).all (fun _ => decide (d = c)) && (Value.str d t1 :: us).toArray.size == [Value.str c t2].toArray.size) = (decide (d = c) && rest.isEmpty) := by
      rw [List.size_toArray, List.size_toArray, List.length_cons, List.length_singleton, hlu, show min (rest.length + 1) 1 = 1 by omega]
      show ((decide (d = c) && true) && _) = _
      rw [Bool.and_true]
      congr 1
      cases rest <;> simp
    rw [hv]
    exact ⟨.bl _, H, I, rfl, q⟩
end
end L2
namespace PySem
open Sem (wp)
section
variable {prog : Program} {w : World} {A : Around} {E : Value → Shared → Prop} {s : Shared}
theorem wpAny_pyHash_none {Q : Int → Shared → Prop} (h : Q 4238894112 { s with toks := s.toks + 1 }) : wpAny (model prog w) A (pyHash .none) Q E s := by
  unfold pyHash
  have hv : [Value.none].any Value.onHeap = false := rfl
  refine wpAny_bind ?_
  rw [cRoomFor, if_neg (by rw [hv]; exact Bool.false_ne_true)]; refine wpAny_pure ?_
  refine wpAny_bind (wpAny_specialOf (typeIs_none s) F.slot_NoneType_hash.lookup ?_)
  show wpAny _ _ (if (some (Value.builtin "NoneType.__hash__") == some Value.none) = true then _ else _) Q E s
  rw [if_neg (by rw [beq_builtin_none]; exact Bool.false_ne_true)]
  refine wpAny_bind (wpAny_specialOf (typeIs_none s) F.slot_NoneType_hash.lookup ?_)
  show wpAny _ _ (callSpecialIfBoundUnlessNone? .none "__hash__" _ >>= _) Q E s
  refine wpAny_bind (wpAny_callSpecialIfBoundUnlessNone?_slot (typeIs_none s) F.slot_NoneType_hash
    (wpAny_call_entry F.slot_NoneType_hash (typeIs_none s) F.entry_NoneType_hash
      (show wpAny _ _ (do ret (← mkInt 4238894112)) _ _ s from wpAny_ret_mkInt ?_) (F.args_NoneType_hash_1 _)))
  show wpAny _ _ (if (decide (-(2 : Int) ^ 63 ≤ 4238894112) && decide ((4238894112 : Int) < 2 ^ 63)) = true then _ else _) Q E _
  rw [if_pos (by decide)]
  exact wpAny_pure h
end
end PySem
namespace L2
open PySem PySem.Spec PyProof.Rows
noncomputable def oIs : Option Int → Value → Bool
  | none, .none => true
  | none, _ => false
  | some i, v => Value.isInt i v
noncomputable def oH : Option Int → Int
  | none => 4238894112
  | some i => hashInt i
theorem oIs_shape : ∀ {k : Option Int} {v : Value}, oIs k v = true → (k = none ∧ v = Value.none) ∨ (∃ i t, k = some i ∧ v = Value.int i t)
  | none, v, h => by
    cases v with
    | none => exact .inl ⟨rfl, rfl⟩
    | _ => cases h
  | some i, v, h => by
    obtain ⟨t, e⟩ := Value.isInt_shape (k := i) (v := v) h
    exact .inr ⟨i, t, rfl, e⟩
noncomputable def noneKind (prog : Program) (w : World) : PySem.KeyKind prog w (Option Int) where
  is := oIs
  hash := oH
  inj := fun v a b ha hb => by
    rcases oIs_shape ha with ⟨rfl, rfl⟩ | ⟨i, t, rfl, rfl⟩
    · rcases oIs_shape hb with ⟨rfl, e⟩ | ⟨j, u, rfl, e⟩
      · rfl
      · exact nomatch e
    · rcases oIs_shape hb with ⟨rfl, e⟩ | ⟨j, u, rfl, e⟩
      · exact nomatch e
      · injection e with e1 _; rw [e1]
  byValue := fun k v h => by
    rcases oIs_shape h with ⟨rfl, rfl⟩ | ⟨i, t, rfl, rfl⟩ <;> rfl
  pyHash := fun hv h => by
    rcases oIs_shape hv with ⟨rfl, rfl⟩ | ⟨i, t, rfl, rfl⟩
    · exact wpAny_pyHash_none h
    · exact wpAny_pyHash_int h
  eqBool := fun {A E s a b u v Q} hu hv h => by
    rcases oIs_shape hu with ⟨rfl, rfl⟩ | ⟨i, t, rfl, rfl⟩
    · rcases oIs_shape hv with ⟨rfl, rfl⟩ | ⟨j, u, rfl, rfl⟩
      · exact SeqAt.EqAt.same .none _ _ _ _ h
      · exact SeqAt.EqAt.none_int j u _ _ _ _ h
    · rcases oIs_shape hv with ⟨rfl, rfl⟩ | ⟨j, u, rfl, rfl⟩
      · exact SeqAt.EqAt.int_none i t _ _ _ _ h
      · have e : decide ((some i : Option Int) = some j) = (i == j) := by
          by_cases c : i = j
          · subst c; simp
          · rw [decide_eq_false (fun z => c (Option.some.inj z))]; exact (beq_eq_false_iff_ne.mpr c).symm
        rw [e] at h
        exact wpAny_eqBool_int h
  «strs» := fun k x t v h => by
    rcases oIs_shape h with ⟨_, e⟩ | ⟨_, _, _, e⟩ <;> exact nomatch e
noncomputable def oV : Option Int → V
  | none => .non
  | some i => .int i
theorem oV_is : ∀ {k : Option Int} {v : Value}, RelV (oV k) v → oIs k v = true
  | none, _, r => by cases (show _ = Value.none from r); rfl
  | some i, _, r => by
    obtain ⟨t, rfl⟩ := r
    simp [oIs, Value.isInt]
theorem oItems {P : Program} {w : World} : ∀ {ks : List (Option Int)} {us : List Value}, Vals (ks.map oV) us → ItemsAre (noneKind P w) ks us
  | [], _, r => by rw [List.map_nil] at r; cases r; exact .nil
  | k :: ks, _, r => by
    rw [List.map_cons] at r
    cases r with
    | cons h t => exact .cons (oV_is h) (oItems t)
theorem oKey {P : Program} {w : World} {H : Hp} {h : Heap} {a : Addr} {ks : List (Option Int)} (ok : HOk P w H h) (e : H a = some (.tup (ks.map oV))) : (tupleKind (noneKind P w)).is h ks a := by
  obtain ⟨_, its, r, ⟨o, h1, h2, n, h3⟩, _⟩ := (show ObjOk P w H h a (.tup (ks.map oV)) from ok a _ e)
  exact ⟨o, its.toArray, n, h1, h2, h3, by simpa using oItems r⟩
noncomputable def OD (P : Program) (w : World) (H : Hp) (h : Heap) (S : Addr) (ks : List (List (Option Int))) : Prop := ∃ (xs : List (List (Option Int) × Addr × Value)) (o : Obj) (es : Array DictEntry) (ep : Nat), xs.map (·.1) = ks ∧ (∀ x ∈ xs, H x.2.1 = some (.tup (x.1.map oV))) ∧ h.get? S = some o ∧ o.ExactDict ∧ o.data = .dict es ep ∧ es.toList = xs.map (entryOfKey (tupleKind (noneKind P w)))
theorem OD.at' {P : Program} {w : World} {H : Hp} {h h' : Heap} {S : Addr} {ks : List (List (Option Int))} (d : OD P w H h S ks) (k : ∀ o, h.get? S = some o → h'.get? S = some o) : OD P w H h' S ks := by
  obtain ⟨xs, o, es, ep, e1, e2, e3, e4⟩ := d
  exact ⟨xs, o, es, ep, e1, e2, k _ e3, e4⟩
theorem OD.set {X : Cx} {pins : List (Addr × Obj)} {σ : St} {H : Hp} {s : Shared} {S a : Addr} {r : Value} {A : Around} {E : Value → Shared → Prop} {ks : List (List (Option Int))} {k : List (Option Int)} {Q : Unit → Shared → Prop} (I : Inv X pins σ H s) (d : OD X.prog X.w H s.heap S ks) (hn : (ks ++ [k]).Nodup) (l : ks.length ≤ 1000000) (hu : A.units < cLine) (ha : H a = some (.tup (k.map oV)))
    (h : ∀ h' tk, Heap.SameBut S s.heap h' → OD X.prog X.w H h' S (ks ++ [k]) → Q () { s with heap := h', toks := tk }) : wpAny (model X.prog X.w) A (dictSet S (.ref a) r) Q E s := by
  obtain ⟨xs, o, es, ep, e1, e2, e3, e4, e5, e6⟩ := d
  rw [List.nodup_append] at hn
  have hx : ∀ x ∈ xs, (tupleKind (noneKind X.prog X.w)).is s.heap x.1 x.2.1 := fun x hx => oKey I.hok (e2 x hx)
  have dd : s.heap.DictOfH (tupleKind (noneKind X.prog X.w)) S xs := ⟨o, es, ep, e3, e4, e5, e6, hx, by rw [e1]; exact hn.1⟩
  have hz : xs.length ≤ sizeLine := by
    have : xs.length = ks.length := by rw [← e1, List.length_map]
    exact Nat.le_trans (show xs.length ≤ 1000000 by omega) (by decide)
  refine wpAny_dictSet_heap (knd := tupleKind (noneKind X.prog X.w)) (hsz := hz) hu (oKey I.hok ha) dd fun h' dd' hs => h h' _ hs ?_
  have hnew : atKey xs k = none := atKey_none_of_get fun j p hj => hn.2.2 k (by rw [← e1]; exact List.mem_map.mpr ⟨_, List.mem_of_getElem? hj, rfl⟩) k (by simp) rfl
  rw [storedH_new hnew] at dd'
  obtain ⟨o', es', ep', f1, f2, f3, f4, f5, f6⟩ := dd'
  refine ⟨_, o', es', ep', by rw [List.map_append, e1]; rfl, fun x hx => ?_, f1, f2, f3, f4⟩
  rcases List.mem_append.mp hx with y | y
  · exact e2 x y
  · have : x = (k, a, r) := by simpa using y
    rw [this]; exact ha
theorem paired_getR {α β : Type} {F : α → β → Prop} : ∀ {l : List α} {m : List β} {i : Nat} {x : α} {y : β}, Paired F l m → l[i]? = some x → m[i]? = some y → F x y
  | _, _, _, _, _, .nil, h, _ => by simp at h
  | _, _, 0, _, _, .cons r _, h, h' => by
    simp at h h'; subst h; subst h'; exact r
  | _, _, i + 1, _, _, .cons _ t, h, h' => paired_getR (i := i) t (by simpa using h) (by simpa using h')
section
variable {X : Cx}
theorem call_maxL (hc : X.calm = true) : CallR X (.builtin "max") (fun xs H Q => ∃ (p : Addr) (ns : List Int), xs = [.ref p] ∧ SqL X.K H p (ns.map V.int) ∧ 0 < ns.length ∧ ∀ M, M ∈ ns → (∀ a ∈ ns, a ≤ M) → Q (.int M) H) := by
  intro pins s σ H xs us Q I r h
  obtain ⟨p, ns, rfl, hq, hne, q⟩ := h
  obtain ⟨u, rfl, rx⟩ := vals1 r
  cases rx
  obtain ⟨its, rv, pl, hz⟩ := I.list hq
  have hi := intsAre_of rv
  have hl := pl.isList
  obtain ⟨ys, e⟩ := hi.allInts.items
  have hns : ns = ys.toList.map (·.1) := by
    rw [← hi.numsOf, ← nums_intItems, ← e]
  have hsz : 0 < ys.size := by
    have h3 := hne; rw [hns, List.length_map, Array.length_toList] at h3; exact h3
  rw [e] at hl
  have hh : X.A.handled = none := I.ok.hd hc
  refine max_intList hh hl hsz fun v h' tk hv hk => ?_
  obtain ⟨t, rfl⟩ := intItems_at hv
  obtain ⟨h1, h2⟩ := argBest_gt (numAt ys) (ys.size - 1)
  refine ⟨.int _, H, I.kept (t' := tk) hk, ⟨t, rfl⟩, q _ ?_ fun a ha => ?_⟩
  · rw [hns, numAt_eq]; exact getD_mem (by rw [List.length_map, Array.length_toList]; omega)
  · rw [hns] at ha
    obtain ⟨j, hj, rfl⟩ := mem_getD ha
    rw [List.length_map, Array.length_toList] at hj
    rw [← numAt_eq]; exact h2 j (by omega)
noncomputable def tSumVals (te : TE) : TE := fun σ H Q => te σ H fun x H1 => ∃ (a : Addr) (kvs : List (Key × V)) (ns : List Int), x = .ref a ∧ H1 a = some (.dK kvs) ∧ kvs.map (·.2) = ns.map V.int ∧ Q (.int ns.sum) H1
theorem pe_sumVals {o : Expr} {to : TE} {p pos apos cpos : Pos} (hc : X.calm = true) (hg : Gl X "sum") (hm : X.mg "sum" = none) (ho : PE X o to)
    (hbase : attributeBase o "values" X.env (eval o X.env) = eval o X.env := by rfl) (hline : (apos.endLine == cpos.line) = true := by rfl)
    (hs2 : starEach [.Call (.Attribute o "values" apos) [] [] cpos] X.env = [(false, eval (.Call (.Attribute o "values" apos) [] [] cpos) X.env)] := by rfl) : PE X (.Call (.Name "sum" p) [.Call (.Attribute o "values" apos) [] [] cpos] [] pos) (tSumVals to) := by
  intro pins s σ H Q I h
  refine Call_ (ld_blt I hg hm L3.bt_sum (PyProof.Rows.callWith_builtin1 ?_ hs2 rfl))
  rw [hs2]
  show wpAny _ _ (spliced ((false, eval (.Call (.Attribute o "values" apos) [] [] cpos) X.env) :: backTo pos [])) _ _ s
  refine Calls.spliced_cons ?_
  refine wpAny_Call_method0_late hbase hline (thn (ho pins s σ H _ I h) fun v s1 ⟨x, H1, I1, r1, a, kvs, ns, ex, ha, hvs, q⟩ => ?_)
  subst ex
  obtain rfl : v = Value.ref a := r1
  obtain ⟨t1, t2, _⟩ := isD_at I1 (.inl ⟨kvs, .inl ha⟩)
  refine ⟨"dict", "dict.values", PySem.F.plainAttrs_dict, PySem.F.slot_dict_values, PySem.F.type_dict_values, t1, t2, Calls.callWith_builtin rfl (PySem.evalArgs_none ?_)⟩
  obtain ⟨hz, hd, vs, rel, dd⟩ := dk_of I1.hok ha
  refine call_meetsIn PySem.F.slot_dict_values dd.typeIs PySem.F.entry_dict_values (PySem.F.args_dict_values_1 _) (meets_dict_values (mixKind X.prog X.w) a hd) ⟨⟨vs, dd⟩, ?_⟩
  refine Calls.spliced_nil ?_
  obtain ⟨ep, da⟩ := dd.dictAt
  have I2 : Inv X pins σ H1 { s1 with heap := s1.heap.push { cls := .type "dict_values", data := .fields #[.ref a] }, toks := s1.toks } := I1.kept (t' := s1.toks) fun b o e => Heap.get?_push_of_some _ e
  have hh : X.A.in1.handled = none := I1.ok.hd hc
  have K := PySem.W.kdl_values (prog := X.prog) (w := X.w) (knd := mixKind X.prog X.w) (r := s1.heap.objs.size) (d := a) (kvs := vs) (ep := ep)
  have hok : (s1.heap.push { cls := .type "dict_values", data := .fields #[.ref a] }).IsValuesView s1.heap.objs.size a ∧ (s1.heap.push { cls := .type "dict_values", data := .fields #[.ref a] }).DictAt (mixKind X.prog X.w) a vs ep := ⟨⟨_, Heap.get?_push_size _ rfl, rfl, rfl⟩, da.push _⟩
  have hlen : vs.length = ns.length := by
    have h1 := rel.length
    have h2 := congrArg List.length hvs
    rw [List.length_map, List.length_map] at h2
    omega
  refine call_sum_walkAnyS ?_
  obtain ⟨oI, St, hit, W, st⟩ := K.iter X.A.in1 { s1 with heap := s1.heap.push { cls := .type "dict_values", data := .fields #[.ref a] } } hh hok
  refine hit _ _ ⟨_, _, _, _, vs.length, _, _, fun i => ns.getD i 0, rfl, W.toS, st, fun b hb => ?_, fun i v ⟨k, hk⟩ => ?_, fun s' t' hm' => ?_⟩
  · show b < ((s1.heap.push _).push oI).objs.size
    rw [size_push']
    rcases List.mem_cons.mp hb with e | hb
    · rw [e]; exact Nat.lt_succ_self _
    · rw [List.mem_singleton.mp hb]; exact Nat.lt_succ_of_lt (K.there _ hok).2
  · have hi : i < ns.length := by rw [← hlen]; exact (List.getElem?_eq_some_iff.mp hk).1
    have hki : i < kvs.length := by have := rel.length; omega
    have hr := paired_getR rel (List.getElem?_eq_getElem hki) hk
    have e2 : (kvs.map (·.2))[i]? = some (V.int ns[i]) := by rw [hvs, List.getElem?_map, List.getElem?_eq_getElem hi]; rfl
    rw [List.getElem?_map, List.getElem?_eq_getElem hki] at e2
    have e3 : kvs[i].2 = V.int ns[i] := Option.some.inj e2
    have hr2 := hr.2
    rw [e3] at hr2
    obtain ⟨t, ht⟩ := hr2
    refine ⟨t, ?_⟩
    show v = Value.int (ns.getD i 0) t
    rw [List.getD_eq_getElem?_getD, List.getElem?_eq_getElem hi]
    exact ht
  · have hk : ∀ b o, (s1.heap.push { cls := .type "dict_values", data := .fields #[.ref a] }).get? b = some o → s'.heap.get? b = some o := fun b o e =>
      hm'.heap b o (fun hI => absurd (Heap.lt_size e) (by rw [List.mem_singleton.mp hI]; exact Nat.lt_irrefl _)) (Heap.get?_push_of_some _ e)
    rw [Moved.eq_with hm', hlen, preSum_getD, List.take_length]
    exact ⟨.int ns.sum, H1, I2.kept (t' := s'.toks) hk, ⟨_, rfl⟩, q⟩
theorem call_sortedD (hc : X.calm = true) : CallR X (.builtin "sorted") (fun xs H Q => ∃ (a : Addr) (kvs : List (Key × V)) (ns : List Int), xs = [.ref a] ∧ H a = some (.dK kvs) ∧ (kvs.map fun kv => kV kv.1) = ns.map V.int ∧ ns.length < 64 ∧ ∀ (l : Addr) (ns' : List Int), H l = none → ns'.Perm ns → ns'.Pairwise (· ≤ ·) → Q (.ref l) (upd H l (.lst (ns'.map V.int)))) := by
  intro pins s σ H xs us Q I r h
  obtain ⟨a, kvs, ns, rfl, ha, hks, h64, q⟩ := h
  obtain ⟨u, rfl, rx⟩ := vals1 r
  cases rx
  obtain ⟨hz, hd, vs, rel, dd⟩ := dk_of I.hok ha
  obtain ⟨ep, dd⟩ := dd.dictAt
  have hl := rel.length
  have hln : kvs.length = ns.length := by
    have := congrArg List.length hks
    rw [List.length_map, List.length_map] at this
    exact this
  have hh : X.A.in1.handled = none := I.ok.hd hc
  refine Calls.call_function_entry kind_sorted plain_sorted entry_sorted (args_sorted1 _) ?_
  unfold Builtin.«sorted»
  refine wpAny_bind (m := checkCount "sorted" 1 1 _) (wpAny_pure ?_)
  refine wpAny_bind (PySem.collect_src (PySem.W.kdl_dict (knd := mixKind X.prog X.w) (kvs := vs) (ep := ep) hd) hh dd (by omega) fun h' tk acc kp hacc => ?_)
  have I1 : Inv X pins σ H { s with heap := h', toks := tk } := I.kept (t' := tk) kp
  have rv : Vals (ns.map V.int) acc.toList := by
    rw [← hks]
    refine pairedGet (by have := hacc.1; simp only [List.length_map, Array.length_toList]; omega) fun i x y e1 e2 => ?_
    obtain ⟨k, z, ek, hk⟩ := hacc.2 i y (by rw [← Array.getElem?_toList]; exact e2)
    have e3 : (kvs.map (·.1))[i]? = some k := by rw [rel.keys, List.getElem?_map, ek]; rfl
    rw [List.getElem?_map] at e1 e3
    cases eq : kvs[i]? with
    | none => rw [eq] at e3; cases e3
    | some kv =>
      rw [eq] at e1 e3
      cases e1
      cases e3
      exact relKey hk
  have hI := intsAre_of rv
  have hal : acc.toList.length = ns.length := by rw [← rv.length, List.length_map]
  refine wpAny_bind (wpAny_newList ?_ (by rw [hal]; exact Nat.le_trans (Nat.le_of_lt h64) (by decide)))
  have hoL : (h'.push (seqObj "list" acc.toList.toArray 0)).get? h'.objs.size = some (seqObj "list" acc.toList.toArray 0) := Heap.get?_push_size _ rfl
  show wpAny _ _ _ _ _ { s with heap := h'.push (seqObj "list" acc.toList.toArray 0), toks := tk }
  refine wpAny_bind (wpAny_holding (wpAny_call_entry slot_list_sort ⟨_, hoL, rfl⟩ entry_list_sort (list_sort_tree (s := { s with heap := h'.push (seqObj "list" acc.toList.toArray 0), toks := tk }) hoL hI (by omega) fun out ns' i1 p1 s1 => ⟨_, rfl, ?_⟩) (args_list_sort _)))
  refine wpAny_pure ⟨_, rfl, ?_⟩
  obtain ⟨e, he⟩ := sortedHeap_at (out := out) hoL
  have hl' := p1.length_eq
  refine ⟨.ref h'.objs.size, _, I1.laid (t' := tk) (fun b o x => ?_) (Nat.le_refl _) (show ObjOk X.prog X.w _ _ _ (.lst (ns'.map V.int)) from ⟨?_, out.toList, e, vals_of_ints i1, ?_⟩), rfl, q _ ns' (I1.hok.fresh (Nat.le_refl _)) p1 s1⟩
  · have hlt : b < h'.objs.size := Heap.lt_size x
    rw [sortedHeap_old (Nat.ne_of_lt hlt) (by rw [size_push']; exact Nat.lt_succ_of_lt hlt), Heap.get?_push_ne _ _ _ (Nat.ne_of_lt hlt)]
    exact x
  · rw [List.length_map, hl']
    exact Nat.le_trans (Nat.le_of_lt h64) (by decide)
  · rw [Array.toArray_toList]
    exact he
end
end L2
namespace L2
open PySem PySem.Spec PyProof.Rows
end L2
namespace L2
open PySem PySem.Spec PyProof.Rows
section
variable {X : Cx}
end
end L2
namespace L2
open PySem PySem.Spec PyProof.Rows
section
variable {X : Cx}
theorem op_eqTI (hu : X.A.units < cLine) : OpR X (compareOp .Eq) (fun x y H Q => ∃ (p p2 : Addr) (ns ms : List Int), x = .ref p ∧ y = .ref p2 ∧ SqT X.K H p (ns.map V.int) ∧ SqT X.K H p2 (ms.map V.int) ∧ Q (.bl (decide (ns = ms))) H) := by
  intro pins s σ H x y v u Q I rx ry h
  obtain ⟨p, p2, ns, ms, rfl, rfl, h1, h2, q⟩ := h
  cases rx
  cases ry
  obtain ⟨its, r1, l1, _⟩ := I.tuple h1
  obtain ⟨its2, r2, l2, _⟩ := I.tuple h2
  have e1 := r1.length
  have e2 := r2.length
  rw [List.length_map] at e1 e2
  refine SeqAt.RcAt.tuples (e := fun j => ns.getD j 0 == ms.getD j 0) (show s.heap.IsTuple p its.toArray from l1) (show s.heap.IsTuple p2 its2.toArray from l2) hu (fun j g1 g2 => ?_) X.prog X.w _ _ ?_
  · rw [List.size_toArray] at g1 g2
    obtain ⟨t, w1⟩ := int_at r1 g1
    obtain ⟨t', w2⟩ := int_at r2 g2
    rw [List.getElem_toArray, List.getElem_toArray, w1, w2]
    exact SeqAt.EqAt.int_int _ _ _ _
  · rw [List.size_toArray, List.size_toArray, ← e1, ← e2, ints_all]
    exact ⟨.bl _, H, I, rfl, q⟩
end
end L2
namespace L2
open PySem PySem.Spec PyProof.Rows
section
variable {X : Cx}
end
end L2
set_option maxRecDepth 100000
namespace L2
open PySem PyProof.Rows
noncomputable def tgal : Bool → Keyed → Array Keyed → Nat → Nat → Nat → StateT SortSt Sem (Option Nat) := sortPriv% PySem.Builtin.gallop
noncomputable def kA (k : Keyed → Int) (xs : Array Keyed) (i : Nat) : Int := match xs[i]? with | some y => k y | none => 0
theorem kA_congr {k : Keyed → Int} {xs ys : Array Keyed} {i j : Nat} (h : xs[i]? = ys[j]?) : kA k xs i = kA k ys j := by unfold kA; rw [h]
section
variable {prog : Program} {w : World} {A : Around} {E : Value → Shared → Prop} {s : Shared} {kd : SortKind} {k : Keyed → Int} {G : Keyed → Prop}
end
end L2
namespace L2
open PySem PyProof.Rows
noncomputable def tmlo : Array Keyed → Array Keyed → StateT SortSt Sem (Array Keyed) := sortPriv% PySem.Builtin.mergeLo
noncomputable def tmhi : Array Keyed → Array Keyed → StateT SortSt Sem (Array Keyed) := sortPriv% PySem.Builtin.mergeHi
noncomputable def Up (k : Keyed → Int) (l : List Keyed) : Prop := l.Pairwise fun x y => k x ≤ k y
structure MI (k : Keyed → Int) (tot L ra rb : List Keyed) : Prop where
  perm : (L ++ ra ++ rb).Perm tot
  up : Up k L
  ua : Up k ra
  ub : Up k rb
  bnd : ∀ x ∈ L, ∀ y, y ∈ ra ∨ y ∈ rb → k x ≤ k y
theorem Up.app {k : Keyed → Int} {u v : List Keyed} (h1 : Up k u) (h2 : Up k v) (h : ∀ x ∈ u, ∀ y ∈ v, k x ≤ k y) : Up k (u ++ v) := List.pairwise_append.mpr ⟨h1, h2, h⟩
theorem Up.left {k : Keyed → Int} {u v : List Keyed} (h : Up k (u ++ v)) : Up k u := (List.pairwise_append.mp h).1
theorem Up.right {k : Keyed → Int} {u v : List Keyed} (h : Up k (u ++ v)) : Up k v := (List.pairwise_append.mp h).2.1
theorem Up.mid {k : Keyed → Int} {u v : List Keyed} (h : Up k (u ++ v)) : ∀ x ∈ u, ∀ y ∈ v, k x ≤ k y := (List.pairwise_append.mp h).2.2
namespace MI
variable {k : Keyed → Int} {tot L ra rb : List Keyed}
theorem swap (h : MI k tot L ra rb) : MI k tot L rb ra := by
  refine ⟨?_, h.up, h.ub, h.ua, fun x hx y hy => h.bnd x hx y hy.symm⟩
  rw [List.append_assoc]
  refine (List.Perm.append_left L List.perm_append_comm).trans ?_
  rw [← List.append_assoc]
  exact h.perm
theorem take {u ra' : List Keyed} (h : MI k tot L ra rb) (e : ra = u ++ ra') (hu : ∀ x ∈ u, ∀ y ∈ rb, k x ≤ k y) : MI k tot (L ++ u) ra' rb := by
  subst e
  refine ⟨?_, h.up.app h.ua.left fun x hx y hy => h.bnd x hx y (.inl (List.mem_append_left _ hy)), h.ua.right, h.ub, fun x hx y hy => ?_⟩
  · rw [List.append_assoc L u]; exact h.perm
  · rcases List.mem_append.mp hx with hx | hx
    · exact h.bnd x hx y (hy.imp (List.mem_append_right _) id)
    · rcases hy with hy | hy
      · exact h.ua.mid x hx y hy
      · exact hu x hx y hy
theorem done (h : MI k tot L ra []) : (L ++ ra).Perm tot ∧ Up k (L ++ ra) := by
  refine ⟨?_, h.up.app h.ua fun x hx y hy => h.bnd x hx y (.inl hy)⟩
  have := h.perm
  rwa [List.append_nil] at this
theorem last {z : Keyed} (h : MI k tot L [z] rb) (hz : ∀ y ∈ rb, k y ≤ k z) : (L ++ rb ++ [z]).Perm tot ∧ Up k (L ++ rb ++ [z]) := by
  refine ⟨h.swap.perm, (h.up.app h.ub fun x hx y hy => h.bnd x hx y (.inr hy)).app h.ua fun x hx y hy => ?_⟩
  obtain rfl := List.mem_singleton.mp hy
  rcases List.mem_append.mp hx with hx | hx
  · exact h.bnd x hx y (.inl (List.mem_cons_self ..))
  · exact hz x hx
end MI
section
variable {prog : Program} {w : World} {A : Around} {E : Value → Shared → Prop} {s : Shared} {kd : SortKind} {k : Keyed → Int} {G : Keyed → Prop}
end
end L2
namespace L2
open PySem PyProof.Rows
noncomputable def tk (l : List Keyed) (n : Nat) : List Keyed := (l.take n).reverse
section
variable {prog : Program} {w : World} {A : Around} {E : Value → Shared → Prop} {s : Shared} {kd : SortKind} {k : Keyed → Int} {G : Keyed → Prop}
end
end L2
namespace L2
open PySem PyProof.Rows
section
variable {prog : Program} {w : World} {A : Around} {E : Value → Shared → Prop} {s : Shared} {kd : SortKind} {k : Keyed → Int} {G : Keyed → Prop}
end
end L2
namespace L2
open PySem PyProof.Rows
noncomputable def Srt (k : Keyed → Int) (xs : Array Keyed) (lo n : Nat) : Prop := ∀ i j, i ≤ j → j < n → kA k xs (lo + i) ≤ kA k xs (lo + j)
noncomputable def Fal (k : Keyed → Int) (xs : Array Keyed) (lo n : Nat) : Prop := ∀ i j, i ≤ j → j < n → kA k xs (lo + j) ≤ kA k xs (lo + i)
structure Kp (xs ys : Array Keyed) (lo : Nat) : Prop where
  perm : ys.Perm xs
  low : ∀ i, i < lo → ys[i]? = xs[i]?
theorem Kp.refl (xs : Array Keyed) (lo : Nat) : Kp xs xs lo := ⟨Array.Perm.refl _, fun _ _ => rfl⟩
theorem Kp.trans {xs ys zs : Array Keyed} {lo : Nat} (h : Kp xs ys lo) (h' : Kp ys zs lo) : Kp xs zs lo := ⟨h'.perm.trans h.perm, fun i hi => (h'.low i hi).trans (h.low i hi)⟩
theorem Kp.size {xs ys : Array Keyed} {lo : Nat} (h : Kp xs ys lo) : ys.size = xs.size := h.perm.size_eq
theorem Kp.mem {G : Keyed → Prop} {xs ys : Array Keyed} {lo : Nat} (h : Kp xs ys lo) (hG : ∀ y ∈ xs.toList, G y) : ∀ y ∈ ys.toList, G y := fun y hy => hG y ((Array.perm_iff_toList_perm.mp h.perm).mem_iff.mp hy)
theorem kA_mirror {k : Keyed → Int} {xs : Array Keyed} {i j : Nat} (hj : j ≤ xs.size) (t : Nat) : kA k (mirror xs i j ((j - i) / 2)) t = if i ≤ t ∧ t < j then kA k xs (i + j - 1 - t) else kA k xs t := by
  have e := getElem?_mirror_all (i := i) hj t
  by_cases c : i ≤ t ∧ t < j
  · rw [if_pos c] at e ⊢; exact kA_congr e
  · rw [if_neg c] at e ⊢; exact kA_congr e
theorem Srt.one (k : Keyed → Int) (xs : Array Keyed) (lo : Nat) : Srt k xs lo 1 := fun i j h1 h2 => by
  have : i = j := by omega
  subst this; exact Int.le_refl _
theorem Srt.snoc {k : Keyed → Int} {xs : Array Keyed} {lo n : Nat} (h : Srt k xs lo n) (h1 : 1 ≤ n) (hx : kA k xs (lo + n - 1) ≤ kA k xs (lo + n)) : Srt k xs lo (n + 1) := fun i j hij hj => by
  by_cases c : j < n
  · exact h i j hij c
  · obtain rfl : j = n := by omega
    by_cases ci : i = j
    · subst ci; exact Int.le_refl _
    · have := h i (j - 1) (by omega) (by omega)
      rw [show lo + (j - 1) = lo + j - 1 by omega] at this
      omega
theorem Fal.snoc {k : Keyed → Int} {xs : Array Keyed} {lo n : Nat} (h : Fal k xs lo n) (h1 : 1 ≤ n) (hx : kA k xs (lo + n) ≤ kA k xs (lo + n - 1)) : Fal k xs lo (n + 1) := fun i j hij hj => by
  by_cases c : j < n
  · exact h i j hij c
  · obtain rfl : j = n := by omega
    by_cases ci : i = j
    · subst ci; exact Int.le_refl _
    · have := h i (j - 1) (by omega) (by omega)
      rw [show lo + (j - 1) = lo + j - 1 by omega] at this
      omega
theorem Fal.turn {k : Keyed → Int} {xs : Array Keyed} {lo n : Nat} (h : Fal k xs lo n) (hz : lo + n ≤ xs.size) : Srt k (mirror xs lo (lo + n) ((lo + n - lo) / 2)) lo n := fun i j hij hj => by
  rw [kA_mirror hz, kA_mirror hz, if_pos (by omega), if_pos (by omega)]
  have := h (n - 1 - j) (n - 1 - i) (by omega) (by omega)
  rw [show lo + (lo + n) - 1 - (lo + i) = lo + (n - 1 - i) by omega, show lo + (lo + n) - 1 - (lo + j) = lo + (n - 1 - j) by omega]
  exact this
section
variable {prog : Program} {w : World} {A : Around} {E : Value → Shared → Prop} {s : Shared} {kd : SortKind} {k : Keyed → Int} {G : Keyed → Prop} {ps : Array (Nat × Nat × Nat)} {g : Nat}
end
end L2
namespace L2
open PySem PyProof.Rows
noncomputable def Mt : Nat → List (Nat × Nat × Nat) → List (List Keyed) → Prop
  | _, [], [] => True
  | p, (a, n, _) :: r, z :: zs => a = p ∧ n = z.length ∧ 0 < z.length ∧ Mt (p + z.length) r zs
  | _, _, _ => False
theorem Mt.len : ∀ {l : List (Nat × Nat × Nat)} {zs : List (List Keyed)} {p : Nat}, Mt p l zs → l.length = zs.length
  | [], [], _, _ => rfl
  | [], _ :: _, _, h => h.elim
  | _ :: _, [], _, h => h.elim
  | (_, _, _) :: r, z :: zs, p, h => by
    have := Mt.len h.2.2.2
    simp [this]
theorem Mt.split : ∀ {z1 : List (List Keyed)} {l : List (Nat × Nat × Nat)} {z2 : List (List Keyed)} {p : Nat}, Mt p l (z1 ++ z2) → ∃ l1 l2, l = l1 ++ l2 ∧ l1.length = z1.length ∧ Mt p l1 z1 ∧ Mt (p + z1.flatten.length) l2 z2
  | [], l, z2, p, h => ⟨[], l, rfl, rfl, trivial, h⟩
  | z :: z1, [], z2, p, h => h.elim
  | z :: z1, (a, n, u) :: r, z2, p, h => by
    obtain ⟨h1, h2, h3, h4⟩ := h
    obtain ⟨l1, l2, e, el, m1, m2⟩ := Mt.split h4
    refine ⟨(a, n, u) :: l1, l2, by rw [e]; rfl, by simp [el], ⟨h1, h2, h3, m1⟩, ?_⟩
    rw [List.flatten_cons, List.length_append, ← Nat.add_assoc]
    exact m2
theorem Mt.size : ∀ {l : List (Nat × Nat × Nat)} {zs : List (List Keyed)} {p : Nat}, Mt p l zs → zs.length ≤ zs.flatten.length
  | [], [], _, _ => Nat.le_refl _
  | [], _ :: _, _, h => h.elim
  | _ :: _, [], _, h => h.elim
  | (_, _, _) :: r, z :: zs, p, h => by
    have := Mt.size h.2.2.2
    have := h.2.2.1
    rw [List.flatten_cons, List.length_append, List.length_cons]
    omega
theorem Mt.mod (pw : Nat) : ∀ {l : List (Nat × Nat × Nat)} {zs : List (List Keyed)} {p : Nat} (i : Nat), Mt p l zs → Mt p (l.modify i fun x => match x with | (a, n, _) => (a, n, pw)) zs
  | [], [], _, i, _ => by cases i <;> exact trivial
  | [], _ :: _, _, _, h => h.elim
  | _ :: _, [], _, _, h => h.elim
  | (a, n, u) :: r, z :: zs, p, 0, h => by
    rw [List.modify_zero_cons]
    exact h
  | (a, n, u) :: r, z :: zs, p, i + 1, h => by
    rw [List.modify_succ_cons]
    exact ⟨h.1, h.2.1, h.2.2.1, Mt.mod pw i h.2.2.2⟩
structure RI (k : Keyed → Int) (x0 : List Keyed) (xs : Array Keyed) (ps : Array (Nat × Nat × Nat)) (zs : List (List Keyed)) (S : List Keyed) : Prop where
  perm : xs.toList.Perm x0
  cut : xs.toList = zs.flatten ++ S
  told : Mt 0 ps.toList zs
  up : ∀ z ∈ zs, Up k z
section
variable {prog : Program} {w : World} {A : Around} {E : Value → Shared → Prop} {s : Shared} {kd : SortKind} {k : Keyed → Int} {G : Keyed → Prop}
end
end L2
namespace L2
open PySem PyProof.Rows
section
variable {prog : Program} {w : World} {A : Around} {E : Value → Shared → Prop} {s : Shared} {kd : SortKind} {k : Keyed → Int} {G : Keyed → Prop}
end
section
variable {prog : Program} {w : World} {A : Around} {E : Value → Shared → Prop} {s : Shared}
end
section
variable {prog : Program} {w : World} {A : Around} {E : Value → Shared → Prop} {s : Shared}
end
end L2
namespace L2
open PySem PySem.Spec PyProof.Rows
section
variable {X : Cx}
end
end L2
namespace L2
open PySem PySem.Spec PyProof.Rows
section
variable {X : Cx}
end
end L2
namespace L2
open PySem PySem.Spec PyProof.Rows
section
variable {X : Cx}
end
end L2
namespace L2
open PySem PySem.Spec PyProof.Rows
section
variable {X : Cx}
end
end L2
namespace L2
open PySem PySem.Spec PyProof.Rows
section
variable {X : Cx}
end
end L2
set_option maxHeartbeats 4000000
namespace Lw
open PySem L2
structure PB (X : Cx) (es : List Expr) (t : TA) : Prop where
  go : PA X es t
theorem pb_nil {X : Cx} : PB X [] tNil := ⟨pa_nil⟩
theorem pb_cons {X : Cx} {e : Expr} {es : List Expr} {te : TE} {t : TA} (ha : PE X e te) (hr : PB X es t) (hs : starEach (e :: es) X.env = (false, eval e X.env) :: starEach es X.env := by rfl) : PB X (e :: es) (tCons te t) := ⟨pa_cons ha hr.go hs⟩
noncomputable def top (i : Nat) : Stmt := PySem.Challenge.pw_bitdraws_k12_whole_means_of_numbers.main.body.getD i (.Pass ⟨0, 0, 0, 0⟩)
noncomputable abbrev s_common_divisor : Stmt := top 4
noncomputable abbrev p_common_divisor : List Str := ["one", "other"]
theorem sc_common_divisor : FnScope ["one", "other", "great", "small", "rest"] ["one", "other"] (defScope s_common_divisor) := ⟨rfl, rfl, rfl, by decide +kernel, rfl, by decide +kernel, by decide +kernel⟩
noncomputable abbrev s_fraction : Stmt := top 5
noncomputable abbrev p_fraction : List Str := ["upper", "lower"]
theorem sc_fraction : FnScope ["upper", "lower", "divisor"] ["upper", "lower"] (defScope s_fraction) := ⟨rfl, rfl, rfl, by decide +kernel, rfl, by decide +kernel, by decide +kernel⟩
noncomputable abbrev s_plus : Stmt := top 6
noncomputable abbrev p_plus : List Str := ["one", "other"]
theorem sc_plus : FnScope ["one", "other"] ["one", "other"] (defScope s_plus) := ⟨rfl, rfl, rfl, by decide +kernel, rfl, by decide +kernel, by decide +kernel⟩
noncomputable abbrev s_rests_of : Stmt := top 8
noncomputable abbrev p_rests_of : List Str := ["upper", "lower"]
theorem sc_rests_of : FnScope ["upper", "lower", "rest", "places", "rests", "begin"] ["upper", "lower"] (defScope s_rests_of) := ⟨rfl, rfl, rfl, by decide +kernel, rfl, by decide +kernel, by decide +kernel⟩
noncomputable abbrev s_number_in_twos : Stmt := top 9
noncomputable abbrev p_number_in_twos : List Str := ["figures"]
theorem sc_number_in_twos : FnScope ["figures", "number", "figure"] ["figures"] (defScope s_number_in_twos) := ⟨rfl, rfl, rfl, by decide +kernel, rfl, by decide +kernel, by decide +kernel⟩
noncomputable abbrev s_sum_by_halves : Stmt := top 10
noncomputable abbrev p_sum_by_halves : List Str := ["ahead", "again"]
theorem sc_sum_by_halves : FnScope ["ahead", "again", "lower", "upper", "round_lower"] ["ahead", "again"] (defScope s_sum_by_halves) := ⟨rfl, rfl, rfl, by decide +kernel, rfl, by decide +kernel, by decide +kernel⟩
noncomputable abbrev s_depth_sum : Stmt := top 11
noncomputable abbrev p_depth_sum : List Str := ["upper", "lower"]
theorem sc_depth_sum : FnScope ["upper", "lower", "rests", "half"] ["upper", "lower"] (defScope s_depth_sum) := ⟨rfl, rfl, rfl, by decide +kernel, rfl, by decide +kernel, by decide +kernel⟩
noncomputable abbrev s_mean_pick : Stmt := top 14
noncomputable abbrev p_mean_pick : List Str := ["weights"]
theorem sc_mean_pick : FnScope ["weights", "total", "mean", "weight"] ["weights"] (defScope s_mean_pick) := ⟨rfl, rfl, rfl, by decide +kernel, rfl, by decide +kernel, by decide +kernel⟩
noncomputable abbrev s_ends_of : Stmt := top 15
noncomputable abbrev p_ends_of : List Str := ["plan", "depth"]
theorem sc_ends_of : FnScope ["plan", "depth"] ["plan", "depth"] (defScope s_ends_of) := ⟨rfl, rfl, rfl, by decide +kernel, rfl, by decide +kernel, by decide +kernel⟩
noncomputable abbrev s_deep : Stmt := top 16
noncomputable abbrev p_deep : List Str := ["plan"]
theorem sc_deep : FnScope ["plan"] ["plan"] (defScope s_deep) := ⟨rfl, rfl, rfl, by decide +kernel, rfl, by decide +kernel, by decide +kernel⟩
noncomputable abbrev s_numbered_ends : Stmt := top 17
noncomputable abbrev p_numbered_ends : List Str := ["plan"]
theorem sc_numbered_ends : FnScope ["plan", "ends"] ["plan"] (defScope s_numbered_ends) := ⟨rfl, rfl, rfl, by decide +kernel, rfl, by decide +kernel, by decide +kernel⟩
noncomputable abbrev s_rows_to : Stmt := top 18
noncomputable abbrev p_rows_to : List Str := ["depth", "deepest"]
theorem sc_rows_to : FnScope ["depth", "deepest"] ["depth", "deepest"] (defScope s_rows_to) := ⟨rfl, rfl, rfl, by decide +kernel, rfl, by decide +kernel, by decide +kernel⟩
noncomputable abbrev s_shares_of : Stmt := top 19
noncomputable abbrev p_shares_of : List Str := ["plan"]
theorem sc_shares_of : FnScope ["plan", "deepest", "rows", "depth", "number", "total"] ["plan"] (defScope s_shares_of) := ⟨rfl, rfl, rfl, by decide +kernel, rfl, by decide +kernel, by decide +kernel⟩
noncomputable abbrev s_mean_of : Stmt := top 20
noncomputable abbrev p_mean_of : List Str := ["plan"]
theorem sc_mean_of : FnScope ["plan", "deepest", "ending", "taken"] ["plan"] (defScope s_mean_of) := ⟨rfl, rfl, rfl, by decide +kernel, rfl, by decide +kernel, by decide +kernel⟩
noncomputable abbrev s_plan_of : Stmt := top 21
noncomputable abbrev p_plan_of : List Str := ["weights"]
theorem sc_plan_of : FnScope ["weights", "total", "depth", "ends", "parts", "place", "asks"] ["weights"] (defScope s_plan_of) := ⟨rfl, rfl, rfl, by decide +kernel, rfl, by decide +kernel, by decide +kernel⟩
noncomputable abbrev s_sizes_of : Stmt := top 23
noncomputable abbrev p_sizes_of : List Str := ["many"]
theorem sc_sizes_of : FnScope ["many"] ["many"] (defScope s_sizes_of) := ⟨rfl, rfl, rfl, by decide +kernel, rfl, by decide +kernel, by decide +kernel⟩
noncomputable abbrev s_mean_even : Stmt := top 24
noncomputable abbrev p_mean_even : List Str := ["many"]
theorem sc_mean_even : FnScope ["many", "sizes", "half"] ["many"] (defScope s_mean_even) := ⟨rfl, rfl, rfl, by decide +kernel, rfl, by decide +kernel, by decide +kernel⟩
noncomputable abbrev s__law_same : Stmt := top 26
noncomputable abbrev p__law_same : List Str := ["_law_got", "_law_due"]
theorem sc__law_same : FnScope ["_law_got", "_law_due"] ["_law_got", "_law_due"] (defScope s__law_same) := ⟨rfl, rfl, rfl, by decide +kernel, rfl, by decide +kernel, by decide +kernel⟩
noncomputable abbrev s__law_draw : Stmt := top 27
noncomputable abbrev p__law_draw : List Str := ["_law_script", "_law_town", "_law_many"]
theorem sc__law_draw : FnScope ["_law_script", "_law_town", "_law_many", "_law_k", "_law_cell", "_law_number", "_law_more"] ["_law_script", "_law_town", "_law_many"] (defScope s__law_draw) := ⟨rfl, rfl, rfl, by decide +kernel, rfl, by decide +kernel, by decide +kernel⟩
noncomputable abbrev s__law_one : Stmt := top 28
noncomputable abbrev p__law_one : List Str := ["_law_script", "_law_town", "_law_some"]
theorem sc__law_one : FnScope ["_law_script", "_law_town", "_law_some"] ["_law_script", "_law_town", "_law_some"] (defScope s__law_one) := ⟨rfl, rfl, rfl, by decide +kernel, rfl, by decide +kernel, by decide +kernel⟩
noncomputable abbrev s__law_frac : Stmt := top 29
noncomputable abbrev p__law_frac : List Str := ["_law_upper", "_law_lower"]
theorem sc__law_frac : FnScope ["_law_upper", "_law_lower", "_law_one_here", "_law_other"] ["_law_upper", "_law_lower"] (defScope s__law_frac) := ⟨rfl, rfl, rfl, by decide +kernel, rfl, by decide +kernel, by decide +kernel⟩
noncomputable abbrev s__law_plus : Stmt := top 30
noncomputable abbrev p__law_plus : List Str := ["_law_one_here", "_law_other"]
theorem sc__law_plus : FnScope ["_law_one_here", "_law_other"] ["_law_one_here", "_law_other"] (defScope s__law_plus) := ⟨rfl, rfl, rfl, by decide +kernel, rfl, by decide +kernel, by decide +kernel⟩
noncomputable abbrev s__law_weights : Stmt := top 31
noncomputable abbrev p__law_weights : List Str := ["_law_script", "_law_town"]
theorem sc__law_weights : FnScope ["_law_script", "_law_town", "_law_top", "_law_weights_here"] ["_law_script", "_law_town"] (defScope s__law_weights) := ⟨rfl, rfl, rfl, by decide +kernel, rfl, by decide +kernel, by decide +kernel⟩
noncomputable abbrev s__law_plan : Stmt := top 32
noncomputable abbrev p__law_plan : List Str := ["_law_script", "_law_town", "_law_left"]
theorem sc__law_plan : FnScope ["_law_script", "_law_town", "_law_left", "_law_kind"] ["_law_script", "_law_town", "_law_left"] (defScope s__law_plan) := ⟨rfl, rfl, rfl, by decide +kernel, rfl, by decide +kernel, by decide +kernel⟩
noncomputable abbrev s__law_ends : Stmt := top 33
noncomputable abbrev p__law_ends : List Str := ["_law_plan_here", "_law_size", "_law_high"]
theorem sc__law_ends : FnScope ["_law_plan_here", "_law_size", "_law_high"] ["_law_plan_here", "_law_size", "_law_high"] (defScope s__law_ends) := ⟨rfl, rfl, rfl, by decide +kernel, rfl, by decide +kernel, by decide +kernel⟩
noncomputable abbrev s__law_is_less : Stmt := top 34
noncomputable abbrev p__law_is_less : List Str := ["_law_one_here", "_law_other"]
theorem sc__law_is_less : FnScope ["_law_one_here", "_law_other"] ["_law_one_here", "_law_other"] (defScope s__law_is_less) := ⟨rfl, rfl, rfl, by decide +kernel, rfl, by decide +kernel, by decide +kernel⟩
noncomputable abbrev s__law_divisor : Stmt := top 35
noncomputable abbrev p__law_divisor : List Str := ["_law_one_here", "_law_other"]
theorem sc__law_divisor : FnScope ["_law_one_here", "_law_other"] ["_law_one_here", "_law_other"] (defScope s__law_divisor) := ⟨rfl, rfl, rfl, by decide +kernel, rfl, by decide +kernel, by decide +kernel⟩
noncomputable abbrev s__law_plan_holds : Stmt := top 36
noncomputable abbrev p__law_plan_holds : List Str := ["_law_script", "_law_town"]
theorem sc__law_plan_holds : FnScope ["_law_script", "_law_town", "_law_made", "_law_rows", "_law_lower", "_law_number", "_law_share", "_law_weights_here"] ["_law_script", "_law_town"] (defScope s__law_plan_holds) := ⟨rfl, rfl, rfl, by decide +kernel, rfl, by decide +kernel, by decide +kernel⟩
noncomputable abbrev s__law_both_hold : Stmt := top 37
noncomputable abbrev p__law_both_hold : List Str := ["_law_weights_here", "_law_others"]
theorem sc__law_both_hold : FnScope ["_law_weights_here", "_law_others", "_law_both", "_law_weight"] ["_law_weights_here", "_law_others"] (defScope s__law_both_hold) := ⟨rfl, rfl, rfl, by decide +kernel, rfl, by decide +kernel, by decide +kernel⟩
noncomputable abbrev s_law : Stmt := top 38
noncomputable abbrev p_law : List Str := ["_law_script"]
theorem sc_law : FnScope ["_law_script", "_law_town", "_law_k", "_law_weights_here", "_law_total", "_law_due", "_law_weight", "_law_told", "_law_by", "_law_many", "_law_size", "_law_mean"] ["_law_script"] (defScope s_law) := ⟨rfl, rfl, rfl, by decide +kernel, rfl, by decide +kernel, by decide +kernel⟩
theorem nd_1 : (["_law_got", "_law_due", "_law_one_here", "_law_other"] : List Str).Nodup := by decide +kernel
theorem nd_2 : (["_law_script", "_law_town", "_law_top", "_law_weights_here", "_law_k"] : List Str).Nodup := by decide +kernel
theorem nd_3 : (["plan", "ends", "depth", "end"] : List Str).Nodup := by decide +kernel
theorem nd_4 : (["plan", "depth", "end"] : List Str).Nodup := by decide +kernel
theorem nd_5 : (["plan", "deepest", "rows", "depth", "number", "total"] : List Str).Nodup := by decide +kernel
theorem nd_6 : (["plan", "deepest", "ending", "taken", "depth", "number"] : List Str).Nodup := by decide +kernel
theorem nd_7 : (["plan", "deepest", "ending", "taken", "depth", "end"] : List Str).Nodup := by decide +kernel
theorem nd_8 : (["weights", "total", "depth", "ends", "parts", "place", "asks", "number", "weight"] : List Str).Nodup := by decide +kernel
theorem nd_9 : (["weights", "total", "depth", "ends", "parts", "place", "asks", "left"] : List Str).Nodup := by decide +kernel
theorem nd_10 : (["weights", "total", "depth", "ends", "parts", "place", "asks", "weight", "end"] : List Str).Nodup := by decide +kernel
theorem nd_11 : (["_law_weights_here", "_law_others", "_law_both", "_law_weight", "_law_other"] : List Str).Nodup := by decide +kernel
theorem nd_12 : (["_law_script", "_law_town", "_law_made", "_law_rows", "_law_lower", "_law_number", "_law_share", "_law_weights_here", "_law_size", "_law_high"] : List Str).Nodup := by decide +kernel
theorem nd_13 : (["_law_script", "_law_town", "_law_made", "_law_rows", "_law_lower", "_law_number", "_law_share", "_law_weights_here"] : List Str).Nodup := by decide +kernel
theorem nd_14 : (["_law_script", "_law_town", "_law_k", "_law_weights_here", "_law_total", "_law_due", "_law_weight", "_law_told", "_law_by", "_law_many", "_law_size", "_law_mean"] : List Str).Nodup := by decide +kernel
theorem nd_15 : (["_law_script", "_law_town", "_law_k", "_law_weights_here", "_law_total", "_law_due", "_law_weight", "_law_told", "_law_by", "_law_many", "_law_size", "_law_mean"] : List Str).Nodup := by decide +kernel
theorem nd_16 : (["_law_script", "_law_town", "_law_k", "_law_weights_here", "_law_total", "_law_due", "_law_weight", "_law_told", "_law_by", "_law_many", "_law_size", "_law_mean"] : List Str).Nodup := by decide +kernel
structure Bl (mg : Str → Option Value) : Prop where
  abs_ : mg "abs" = none
  all_ : mg "all" = none
  bool_ : mg "bool" = none
  enumerate_ : mg "enumerate" = none
  int_ : mg "int" = none
  isinstance_ : mg "isinstance" = none
  len_ : mg "len" = none
  max_ : mg "max" = none
  range_ : mg "range" = none
  sorted_ : mg "sorted" = none
  str_ : mg "str" = none
  sum_ : mg "sum" = none
  tuple_ : mg "tuple" = none
  zip_ : mg "zip" = none
structure Cn (K : PySem.W.Frag) (mg : Str → Option Value) : Prop where
  AGAIN : ∃ g, mg "AGAIN" = some (.ref g) ∧ ∀ H, SqT K H g [.str "again"]
theorem cell_at {ns : List Int} (h : ns ≠ []) (k : Nat) : atI (ns.map V.int) ((k : Int) % ((ns.map V.int).length : Int)) = some (.int (lcell ns k)) := by
  have hp : 0 < ns.length := List.length_pos_iff.mpr h
  have e : ((k : Int) % ((ns.map V.int).length : Int)) = (((k % ns.length : Nat)) : Int) := by rw [List.length_map]; omega
  have hk : k % ns.length < ns.length := Nat.mod_lt _ hp
  rw [e]
  refine atI_nat ?_
  rw [List.getElem?_map, List.getElem?_eq_getElem hk]
  unfold lcell
  rw [if_neg h, List.getD_eq_getElem?_getD, List.getElem?_eq_getElem hk]
  rfl
theorem emod_bd (i : Int) {m : Int} (h : 0 < m) (h2 : m < 18446744073709551616) : -(2 ^ 64) < i % m ∧ i % m < 2 ^ 64 := by
  have a := Int.emod_nonneg i (show m ≠ 0 by omega)
  have b := Int.emod_lt_of_pos i h
  exact ⟨by omega, by omega⟩
section
variable {P : Program} {w : World} {K : PySem.W.Frag} {mg : Str → Option Value} {base : Heap} {f : Addr} {fd : FuncData}
theorem ok__law_draw (F__law_draw : Fun K "_law_draw" "_law_draw" s__law_draw f fd) (B : Bl mg) : FnOk P w K mg base CX0 1 f fd p__law_draw (spDraw K) := by
  refine F__law_draw.ok sc__law_draw (fun vs H Q E h => ?_) (fun cdv A outer s H vs Q E hr h => ?_)
  · obtain ⟨a, t, ns, k, m, rfl, _⟩ := h
    rfl
  obtain ⟨a, t, ns, k, m, rfl, hS, h63, hT, hk, hm, q⟩ := h
  refine ⟨_, (pss_cons (ps_expr (pe_bm PySem.F.plainAttrs_list PySem.F.slot_list_append PySem.F.type_list_append mt_append (pv 1) (pa_cons pe_int pa_nil)))
      (pss_cons (ps_set (i := 3) sc__law_draw.nd rfl (Or.inl rfl) (pe_callB call_len_seq rfl B.len_ L3.bt_len (pa_cons (pv 1) pa_nil)))
      (pss_cons (ps_set (i := 4) sc__law_draw.nd rfl (Or.inl rfl) pe_int)
      (pss_cons (ps_join (ps_if (pt_truth (pv 0) (fun _ => rfl)) (pss_one (ps_set (i := 4) sc__law_draw.nd rfl (Or.inl rfl) (pe_ix ix_list (pv 0) (pe_op op_mod (pv 3) (pe_callB call_len_seq rfl B.len_ L3.bt_len (pa_cons (pv 0) pa_nil))) (fun _ _ => rfl)))) pss_nil))
      (pss_cons (ps_set (i := 5) sc__law_draw.nd rfl (Or.inl rfl) (pe_op op_mod (pe_op op_add (pv 4) (pe_op op_mul pe_int (pv 3))) pe_int))
      (pss_cons (ps_set (i := 5) sc__law_draw.nd rfl (Or.inl rfl) (pe_op op_mod (pe_op op_mul (pe_op op_mod (pe_op op_mul (pv 5) (pv 5)) pe_int) pe_int) pe_int))
      (pss_cons (ps_set (i := 6) sc__law_draw.nd rfl (Or.inl rfl) (pe_op op_mod (pe_op op_mul (pe_op op_mod (pe_op op_mul (pv 5) (pv 5)) pe_int) pe_int) pe_int))
      (pss_one (ps_ret (pe_op op_mod (pe_op op_add (pe_op op_mul (pe_op op_fdiv (pv 5) pe_int) pe_int) (pe_op op_fdiv (pv 6) pe_int)) (pv 2))))))))))), ?_⟩
  have hT' : H t = some (.lst (zeros k)) := hT
  have g1 : Grow t H (upd H t (.lst (zeros k ++ [V.int 0]))) := Grow.upd _
  have t1 : Twn (upd H t (.lst (zeros k ++ [V.int 0]))) t (k + 1) := by
    unfold Twn
    rw [upd_same]
    show some (HO.lst (List.replicate k (V.int 0) ++ [V.int 0])) = some (HO.lst (List.replicate (k + 1) (V.int 0)))
    rw [List.replicate_succ']
  have s1 := g1.scr hT hS
  have hl : (((zeros k ++ [V.int 0]).length : Nat) : Int) = ((k + 1 : Nat) : Int) := by simp
  refine ⟨_, rfl, .inl ⟨rfl, _, SqL.of hT'⟩, t, _, _, rfl, rfl, hT', (by rw [List.length_replicate]; exact smallL (by omega)), ?_⟩
  refine ⟨_, rfl, t, _, rfl, .inl (SqL.of upd_same), ?_⟩
  rw [hl]
  refine ⟨fun σ' H' => σ' = [some (.ref a), some (.ref t), some (.int m), some (.int ((k + 1 : Nat) : Int)), some (.int (lcell ns (k + 1))), none, none] ∧ H' = upd H t (.lst (zeros k ++ [V.int 0])), ?_, ?_⟩
  · rintro σ' H' ⟨rfl, rfl⟩
    refine ⟨_, rfl, _, rfl, _, _, rfl, rfl, .inl ⟨by decide, by decide⟩, _, _, rfl, rfl, _, _, rfl, rfl, (by show (0 : Int) < 4294967291; decide), ?_⟩
    refine ⟨_, rfl, _, rfl, _, _, rfl, rfl, .inl (emod_bd _ (by decide) (by decide)), _, _, rfl, rfl, (by show (0 : Int) < 4294967279; decide), _, _, rfl, rfl, .inr ⟨by decide, by decide⟩, _, _, rfl, rfl, (by show (0 : Int) < 4294967291; decide), ?_⟩
    refine ⟨_, rfl, _, rfl, _, _, rfl, rfl, .inl (emod_bd _ (by decide) (by decide)), _, _, rfl, rfl, (by show (0 : Int) < 4294967279; decide), _, _, rfl, rfl, .inr ⟨by decide, by decide⟩, _, _, rfl, rfl, (by show (0 : Int) < 4294967291; decide), ?_⟩
    refine ⟨_, rfl, _, _, rfl, rfl, ⟨by decide, by decide⟩, _, _, rfl, rfl, .inr ⟨by decide, by decide⟩, _, rfl, _, _, rfl, rfl, ⟨by decide, by decide⟩, _, _, rfl, rfl, _, rfl, _, _, rfl, rfl, hm, ?_⟩
    exact q _ g1 t1
  · by_cases hn : ns = []
    · refine ⟨_, rfl, false, .inl ⟨_, s1.seq, by rw [hn]; rfl⟩, iteF ⟨?_, rfl⟩⟩
      unfold lcell
      rw [if_pos hn]
      rfl
    · refine ⟨_, rfl, true, .inl ⟨_, s1.seq, by cases ns with | nil => exact absurd rfl hn | cons _ _ => rfl⟩, iteT ?_⟩
      refine ⟨_, rfl, _, rfl, _, rfl, a, _, rfl, .inl s1.seq, _, _, rfl, rfl, ?_, a, _, _, _, rfl, rfl, s1.seq, cell_at hn (k + 1), rfl, rfl⟩
      show (0 : Int) < (((ns.map V.int).length : Nat) : Int)
      rw [List.length_map]
      have := List.length_pos_iff.mpr hn
      omega
end
noncomputable def spOne (K : PySem.W.Frag) : Sp := fun vs H Q _ => ∃ (a t l : Addr) (ns : List Int) (k : Nat) (xs : List V), vs = [.ref a, .ref t, .ref l] ∧ Scr K H a ns ∧ ns.length ≤ 63 ∧ Twn H t k ∧ k ≤ 800000 ∧ H l = some (.lst xs) ∧ l ≠ t ∧ 0 < xs.length ∧ xs.length ≤ 1000 ∧
  ∀ (i : Nat) (v : V) H', i = (drw ns (k + 1) (xs.length : Int)).toNat → xs[i]? = some v → Grow t H H' → Twn H' t (k + 1) → Q v H'
section
variable {P : Program} {w : World} {K : PySem.W.Frag} {mg : Str → Option Value} {base : Heap} {f : Addr} {fd : FuncData}
theorem ok__law_one (F__law_one : Fun K "_law_one" "_law_one" s__law_one f fd) (B : Bl mg) (g__law_draw : Fn P w K mg base "_law_draw" p__law_draw 1 (spDraw K)) : FnOk P w K mg base CX0 2 f fd p__law_one (spOne K) := by
  refine F__law_one.ok sc__law_one (fun vs H Q E h => ?_) (fun cdv A outer s H vs Q E hr h => ?_)
  · obtain ⟨a, t, l, ns, k, xs, rfl, _⟩ := h
    rfl
  obtain ⟨a, t, l, ns, k, xs, rfl, hS, h63, hT, hk, hL, hlt, hx, hx2, q⟩ := h
  refine ⟨_, (pss_one (ps_ret (pe_ix ix_list (pv 2) (pe_fn g__law_draw hr (pa_cons (pv 0) (pa_cons (pv 1) (pa_cons (pe_callB call_len_seq rfl B.len_ L3.bt_len (pa_cons (pv 2) pa_nil)) pa_nil)))) (fun _ _ => rfl)))), ?_⟩
  refine ⟨_, rfl, _, rfl, _, rfl, _, rfl, l, _, rfl, .inl (SqL.of hL), a, t, ns, k, _, rfl, hS, h63, hT, by omega, by omega, fun H1 g1 t1 => ?_⟩
  have n0 := drw_nn ns (k + 1) (show (0 : Int) < (xs.length : Int) by omega)
  have n1 := drw_lt ns (k + 1) (show (0 : Int) < (xs.length : Int) by omega)
  have hi : (drw ns (k + 1) (xs.length : Int)).toNat < xs.length := by omega
  have key : ∀ (d : Int) (i : Nat) (hi : i < xs.length), d = (i : Int) → atI xs d = some xs[i] := fun d i hi e => by
    subst e
    exact atI_nat (List.getElem?_eq_getElem hi)
  have at' := key (drw ns (k + 1) (xs.length : Int)) _ hi (by omega)
  exact ⟨l, _, _, _, rfl, rfl, SqL.of (g1 _ _ hlt hL), at', q _ _ _ rfl (List.getElem?_eq_getElem hi) g1 t1⟩
end
section
variable {P : Program} {w : World} {K : PySem.W.Frag} {mg : Str → Option Value} {base : Heap} {f : Addr} {fd : FuncData}
theorem ko_bb (K : PySem.W.Frag) : PySem.W.kitOne K (.type "bool") (.type "bool") = some true := by kernel_rfl
theorem ko_ib (K : PySem.W.Frag) : PySem.W.kitOne K (.type "int") (.type "bool") = some false := by kernel_rfl
theorem ko_it (K : PySem.W.Frag) : PySem.W.kitOne K (.type "int") (.type "tuple") = some false := by kernel_rfl
theorem ko_is (K : PySem.W.Frag) : PySem.W.kitOne K (.type "int") (.type "str") = some false := by kernel_rfl
theorem ko_ii (K : PySem.W.Frag) : PySem.W.kitOne K (.type "int") (.type "int") = some true := by kernel_rfl
theorem ko_sb (K : PySem.W.Frag) : PySem.W.kitOne K (.type "str") (.type "bool") = some false := by kernel_rfl
theorem ko_st (K : PySem.W.Frag) : PySem.W.kitOne K (.type "str") (.type "tuple") = some false := by kernel_rfl
theorem ko_ss (K : PySem.W.Frag) : PySem.W.kitOne K (.type "str") (.type "str") = some true := by kernel_rfl
theorem ko_tb (K : PySem.W.Frag) : PySem.W.kitOne K (.type "tuple") (.type "bool") = some false := by kernel_rfl
theorem ko_tt (K : PySem.W.Frag) : PySem.W.kitOne K (.type "tuple") (.type "tuple") = some true := by kernel_rfl
theorem paired_at {α β : Type} {F : α → β → Prop} : ∀ {l : List α} {m : List β} {i : Nat} {x : α} {y : β}, Paired F l m → l[i]? = some x → m[i]? = some y → F x y
  | _, _, _, _, _, .nil, h, _ => by simp at h
  | _, _, 0, _, _, .cons r _, h, h' => by
    simp at h h'; subst h; subst h'; exact r
  | _, _, i + 1, _, _, .cons _ t, h, h' => paired_at (i := i) t (by simpa using h) (by simpa using h')
theorem ok__law_same1 {n : Nat} (F__law_same : Fun K "_law_same" "_law_same" s__law_same f fd) (B : Bl mg) (g__law_same : Fn P w K mg base "_law_same" p__law_same n (spSame n)) : FnOk P w K mg base CX0 (n + 1) f fd p__law_same (spSame (n + 1)) := by
  refine F__law_same.ok sc__law_same (fun vs H Q E h => ?_) (fun cdv A outer s H vs Q E hr h => ?_)
  · obtain ⟨x, y, rfl, _⟩ := h
    rfl
  obtain ⟨x, y, rfl, hE, q⟩ := h
  refine ⟨_, (pss_cons (ps_if (pt_cmpR op_isN (pv 1) pe_non (nomark _)) (pss_one (ps_ret (pe_cmpR op_isN (pv 0) pe_non (nomark _)))) pss_nil)
      (pss_cons (ps_if (pt_truth (pe_callB call_isi rfl B.isinstance_ L3.bt_isinstance (pa_cons (pv 1) (pa_cons (pe_bltn (v := .ty "bool") rfl B.bool_ L3.bt_bool rfl) pa_nil))) (fun _ => rfl)) (pss_one (ps_ret (pe_and (pe_callB call_isi rfl B.isinstance_ L3.bt_isinstance (pa_cons (pv 0) (pa_cons (pe_bltn (v := .ty "bool") rfl B.bool_ L3.bt_bool rfl) pa_nil))) (pe_one (pe_cmpR op_eq (pv 0) (pv 1) (nomark _)))))) pss_nil)
      (pss_cons (ps_if (pt_truth (pe_callB call_isi rfl B.isinstance_ L3.bt_isinstance (pa_cons (pv 1) (pa_cons (pe_bltn (v := .ty "tuple") rfl B.tuple_ L3.bt_tuple rfl) pa_nil))) (fun _ => rfl)) (pss_cons (ps_if (PW.pt (pw_or (pt_not (pt_truth (pe_callB call_isi rfl B.isinstance_ L3.bt_isinstance (pa_cons (pv 0) (pa_cons (pe_bltn (v := .ty "tuple") rfl B.tuple_ L3.bt_tuple rfl) pa_nil))) (fun _ => rfl))) (pw_or1 (pt_cmpR op_ne (pe_callB call_len_seq rfl B.len_ L3.bt_len (pa_cons (pv 0) pa_nil)) (pe_callB call_len_seq rfl B.len_ L3.bt_len (pa_cons (pv 1) pa_nil)) (nomark _))))) (pss_one (ps_ret pe_bl)) pss_nil)
      (pss_one (ps_ret (pe_callB (call_allL rfl) rfl B.all_ L3.bt_all (pa_cons (pe_comp [] ["_law_got", "_law_due", "_law_one_here", "_law_other"] 2 rfl (pi_zipT rfl B.zip_ (pa_cons (pv 0) (pa_cons (pv 1) pa_nil))) (fun _ _ _ _ _ => (pg_tupK K 2 rfl (pgs_cons (pg_name (i := 2) nd_1 rfl (Or.inl rfl) (Or.inr rfl)) (pgs_cons (pg_name (i := 3) nd_1 rfl (Or.inl rfl) (Or.inr rfl)) pgs_nil)) rfl rfl rfl)) (fun _ _ _ _ _ => pif_nil) (fun _ _ _ _ _ => (pe_fn g__law_same hr (pa_cons (pv 2) (pa_cons (pv 3) pa_nil))))) pa_nil))))) pss_nil)
      (pss_cons (ps_if (pt_truth (pe_callB call_isi rfl B.isinstance_ L3.bt_isinstance (pa_cons (pv 1) (pa_cons (pe_bltn (v := .ty "str") rfl B.str_ L3.bt_str rfl) pa_nil))) (fun _ => rfl)) (pss_one (ps_ret (pe_and (pe_callB call_isi rfl B.isinstance_ L3.bt_isinstance (pa_cons (pv 0) (pa_cons (pe_bltn (v := .ty "str") rfl B.str_ L3.bt_str rfl) pa_nil))) (pe_one (pe_cmpR op_eq (pv 0) (pv 1) (nomark _)))))) pss_nil)
      (pss_one (ps_ret (pe_and (pe_callB call_isi rfl B.isinstance_ L3.bt_isinstance (pa_cons (pv 0) (pa_cons (pe_bltn (v := .ty "int") rfl B.int_ L3.bt_int rfl) pa_nil))) (pe_and (pe_not (pe_callB call_isi rfl B.isinstance_ L3.bt_isinstance (pa_cons (pv 0) (pa_cons (pe_bltn (v := .ty "bool") rfl B.bool_ L3.bt_bool rfl) pa_nil)))) (pe_one (pe_cmpR op_eq (pv 0) (pv 1) (nomark _))))))))))), ?_⟩
  rcases hE with ⟨rfl, hs⟩ | ⟨a, b, xs, ys, rfl, rfl, h1, h2, hz, hp⟩
  · cases x with
    | non =>
      refine ⟨_, rfl, rfl, _, rfl, iteT ?_⟩
      refine ⟨_, rfl, rfl, ?_⟩
      exact q H (Same.refl _)
    | bl c =>
      refine ⟨_, rfl, rfl, _, rfl, iteF ?_⟩
      refine ⟨_, rfl, _, _, _, _, rfl, .bl c, ko_bb _, _, rfl, iteT ?_⟩
      refine ⟨_, rfl, _, _, _, _, rfl, .bl c, ko_bb _, _, rfl, iteT ?_⟩
      refine ⟨_, rfl, _, rfl, rfl, ?_⟩
      rw [decide_eq_true rfl]
      exact q H (Same.refl _)
    | int i =>
      refine ⟨_, rfl, rfl, _, rfl, iteF ?_⟩
      refine ⟨_, rfl, _, _, _, _, rfl, .int i, ko_ib _, _, rfl, iteF ?_⟩
      refine ⟨_, rfl, _, _, _, _, rfl, .int i, ko_it _, _, rfl, iteF ?_⟩
      refine ⟨_, rfl, _, _, _, _, rfl, .int i, ko_is _, _, rfl, iteF ?_⟩
      refine ⟨_, rfl, _, _, _, _, rfl, .int i, ko_ii _, _, rfl, iteT ?_⟩
      refine ⟨_, rfl, _, _, _, _, rfl, .int i, ko_ib _, _, rfl, _, rfl, iteT ?_⟩
      refine ⟨_, rfl, _, rfl, rfl, ?_⟩
      rw [decide_eq_true rfl]
      exact q H (Same.refl _)
    | str z =>
      refine ⟨_, rfl, rfl, _, rfl, iteF ?_⟩
      refine ⟨_, rfl, _, _, _, _, rfl, .str z, ko_sb _, _, rfl, iteF ?_⟩
      refine ⟨_, rfl, _, _, _, _, rfl, .str z, ko_st _, _, rfl, iteF ?_⟩
      refine ⟨_, rfl, _, _, _, _, rfl, .str z, ko_ss _, _, rfl, iteT ?_⟩
      refine ⟨_, rfl, _, _, _, _, rfl, .str z, ko_ss _, _, rfl, iteT ?_⟩
      refine ⟨_, rfl, _, rfl, rfl, ?_⟩
      rw [decide_eq_true rfl]
      exact q H (Same.refl _)
    | byt _ => cases hs
    | flt _ => cases hs
    | ref _ => cases hs
    | ty _ => cases hs
  · have hl : xs.length = ys.length := hp.length
    refine ⟨_, rfl, rfl, _, rfl, iteF ?_⟩
    refine ⟨_, rfl, _, _, _, _, rfl, .tup h2, ko_tb _, _, rfl, iteF ?_⟩
    refine ⟨_, rfl, _, _, _, _, rfl, .tup h2, ko_tt _, _, rfl, iteT ?_⟩
    refine ⟨_, rfl, _, _, _, _, rfl, .tup h1, ko_tt _, _, rfl, iteF ?_⟩
    refine ⟨_, rfl, a, _, rfl, .inr (SqT.of h1), _, rfl, b, _, rfl, .inr (SqT.of h2), rfl, _, rfl, iteNS (by rw [hl]) ?_⟩
    refine ⟨_, rfl, _, rfl, a, b, rfl, ⟨_, SqT.of h1⟩, ⟨_, SqT.of h2⟩, ?_⟩
    refine ⟨fun i m acc σ' H' => m = xs.length - i ∧ i ≤ xs.length ∧ acc = List.replicate i (V.bl true) ∧ Same H H' ∧ σ'.length = 4, ⟨xs.length, rfl, Nat.zero_le _, rfl, Same.refl _, rfl⟩, ?_⟩
    rintro i m acc σ' H' ⟨rfl, hi, rfl, hs, hσ⟩
    by_cases hlt : i < xs.length
    · refine .inr ⟨⟨xs, ys, xs[i], ys[i], SqT.of (hs _ _ h1), SqT.of (hs _ _ h2), List.getElem?_eq_getElem hlt, List.getElem?_eq_getElem (by omega)⟩, ?_, fun acc' σ2 H2 => acc' = List.replicate (i + 1) (V.bl true) ∧ Same H H2 ∧ σ2.length = 4, ?_, ?_⟩
      · rw [List.length_replicate]; exact smallL (by omega)
      · rintro acc' σ2 H2 ⟨rfl, s2, l2⟩
        exact ⟨xs.length - (i + 1), by omega, rfl, hlt, rfl, s2, l2⟩
      · rintro v H2 ⟨p, u, v', fp, rfl, rfl, e1, e2⟩
        have u1 := e1 xs (SqT.of (hs _ _ h1))
        have u2 := e2 ys (SqT.of (hs _ _ h2))
        have s2 : Same H (upd H' p (.tup [u, v'])) := hs.trans (same_new fp _)
        obtain ⟨o1, o2, o3, o4, rfl⟩ : ∃ o1 o2 o3 o4, σ' = [o1, o2, o3, o4] := by
          match σ', hσ with
          | [o1, o2, o3, o4], _ => exact ⟨o1, o2, o3, o4, rfl⟩
        refine ⟨p, _, rfl, SqT.of upd_same, rfl, _, _, rfl, _, _, rfl, rfl, ?_⟩
        refine ⟨_, rfl, _, rfl, u, v', rfl, (paired_at hp u1 u2).same s2, fun H3 s3 => ⟨?_, s2.trans s3, rfl⟩⟩
        rw [List.replicate_succ']
    · have e : i = xs.length := by omega
      refine .inl ⟨⟨xs, ys, SqT.of (hs _ _ h1), SqT.of (hs _ _ h2), .inl (by omega)⟩, ?_, fun D fD => ?_⟩
      · rw [List.length_replicate]; exact small (by omega)
      · refine ⟨D, List.replicate i true, rfl, SqL.of (by rw [upd_same, List.map_replicate]), ?_⟩
        have e2 : (List.replicate i true).all id = true := by simp
        rw [e2]
        exact q _ (hs.trans (same_new fD _))
end
theorem ok__law_same0 {P : Program} {w : World} {K : PySem.W.Frag} {mg : Str → Option Value} {base : Heap} {f : Addr} {fd : FuncData} {ps : List Str} {sp : Sp} (no : ∀ vs H Q E, ¬ sp vs H Q E) : FnOk P w K mg base CX0 0 f fd ps sp :=
  ⟨fun vs H Q E h => absurd h (no vs H Q E), fun A outer s H args us vs Q E _ _ _ _ h => absurd h (no vs H Q E)⟩
noncomputable def vnats (l : List Nat) : List V := l.map fun (n : Nat) => V.int (n : Int)
theorem vnats_ints (l : List Nat) : vnats l = (l.map fun (n : Nat) => (n : Int)).map V.int := by rw [List.map_map]; rfl
theorem vnats_at {l : List Nat} {j : Nat} (h : j < l.length) : (vnats l)[j]? = some (V.int (l.getD j 0 : Int)) := by
  rw [vnats, List.getElem?_map, List.getElem?_eq_getElem h, List.getD_eq_getElem?_getD, List.getElem?_eq_getElem h]
  rfl
theorem vnats_len (l : List Nat) : (vnats l).length = l.length := List.length_map _
theorem sum_nats : ∀ l : List Nat, (l.map fun (n : Nat) => (n : Int)).sum = ((l.sum : Nat) : Int)
  | [] => rfl
  | a :: l => by rw [List.map_cons, List.sum_cons, List.sum_cons, sum_nats l, Int.natCast_add]
theorem vnats_app (a b : List Nat) : vnats (a ++ b) = vnats a ++ vnats b := List.map_append
theorem lo62 (n : Nat) : (-(2 ^ 62) : Int) ≤ (n : Int) := Int.le_trans (by decide) (Int.natCast_nonneg n)
theorem hi62 {n : Nat} (h : n ≤ 1000000) : (n : Int) < 2 ^ 62 := Int.lt_of_le_of_lt (Int.ofNat_le.mpr h) (by decide)
theorem nat_of {z : Int} (h : 0 ≤ z) : ∃ n : Nat, z = (n : Int) := ⟨z.toNat, by omega⟩
theorem twn_tup {H : Hp} {t b : Addr} {k : Nat} {xs : List V} (h : Twn H t k) (hb : H b = some (.tup xs)) : b ≠ t := fun e => by
  unfold Twn at h
  rw [e, h] at hb
  cases hb
theorem twn_new {H : Hp} {t p : Addr} {k : Nat} (h : Twn H t k) (hp : H p = none) : p ≠ t := fun y => by
  unfold Twn at h
  rw [← y, hp] at h
  cases h
theorem vnats_set (l : List Nat) (j x : Nat) : (vnats l).set j (V.int (x : Int)) = vnats (l.set j x) := by rw [vnats, vnats, List.map_set]
theorem ixN_nat {n j : Nat} (h : j < n) : ixN n (j : Int) = some j := by
  unfold ixN
  rw [if_pos (by omega), if_pos (by omega)]
  simp
noncomputable def frU (u l : Nat) : Nat := u / Nat.gcd u l
noncomputable def frL (u l : Nat) : Nat := l / Nat.gcd u l
noncomputable def frV (u l : Nat) : List V := [.int (frU u l : Int), .int (frL u l : Int)]
theorem gcd_pos {u l : Nat} (h : 0 < l) : 0 < Nat.gcd u l := Nat.gcd_pos_of_pos_right _ h
theorem gcd_le {u l : Nat} (h : 0 < l) : Nat.gcd u l ≤ l := Nat.le_of_dvd h (Nat.gcd_dvd_right _ _)
theorem frL_pos {u l : Nat} (h : 0 < l) : 0 < frL u l := Nat.div_pos (gcd_le h) (gcd_pos h)
theorem fr_cop {u l : Nat} (h : 0 < l) : Nat.Coprime (frU u l) (frL u l) := Nat.coprime_div_gcd_div_gcd (gcd_pos h)
theorem frU_mul (u l : Nat) : frU u l * Nat.gcd u l = u := Nat.div_mul_cancel (Nat.gcd_dvd_left _ _)
theorem frL_mul (u l : Nat) : frL u l * Nat.gcd u l = l := Nat.div_mul_cancel (Nat.gcd_dvd_right _ _)
theorem frU_le (u l : Nat) : frU u l ≤ u := Nat.div_le_self _ _
theorem frL_le (u l : Nat) : frL u l ≤ l := Nat.div_le_self _ _
theorem fr_uniq {a b c d : Nat} (h1 : Nat.Coprime a b) (h2 : Nat.Coprime c d) (hb : 0 < b) (e : a * d = c * b) : a = c ∧ b = d := by
  have d1 : b ∣ d := h1.symm.dvd_of_dvd_mul_left (by rw [e]; exact Nat.dvd_mul_left _ _)
  have d2 : d ∣ b := h2.symm.dvd_of_dvd_mul_left (by rw [← e]; exact Nat.dvd_mul_left _ _)
  have ed := Nat.dvd_antisymm d1 d2
  subst ed
  exact ⟨Nat.eq_of_mul_eq_mul_right hb e, rfl⟩
theorem fr_eq {a b c d : Nat} (hb : 0 < b) (hd : 0 < d) (e : a * d = c * b) : frU a b = frU c d ∧ frL a b = frL c d := by
  refine fr_uniq (fr_cop hb) (fr_cop hd) (frL_pos hb) ?_
  have g1 := gcd_pos (u := a) hb
  have g2 := gcd_pos (u := c) hd
  refine Nat.eq_of_mul_eq_mul_right (Nat.mul_pos g1 g2) ?_
  calc frU a b * frL c d * (Nat.gcd a b * Nat.gcd c d) = (frU a b * Nat.gcd a b) * (frL c d * Nat.gcd c d) := by
        rw [Nat.mul_assoc, Nat.mul_assoc, Nat.mul_left_comm (frL c d)]
    _ = a * d := by rw [frU_mul, frL_mul]
    _ = c * b := e
    _ = (frU c d * Nat.gcd c d) * (frL a b * Nat.gcd a b) := by rw [frU_mul, frL_mul]
    _ = frU c d * frL a b * (Nat.gcd a b * Nat.gcd c d) := by
        rw [Nat.mul_assoc, Nat.mul_assoc, Nat.mul_left_comm (Nat.gcd c d), Nat.mul_comm (Nat.gcd c d)]
theorem frV_eq {a b c d : Nat} (hb : 0 < b) (hd : 0 < d) (e : a * d = c * b) : frV a b = frV c d := by
  obtain ⟨h1, h2⟩ := fr_eq hb hd e
  unfold frV
  rw [h1, h2]
theorem fit_gcd {u l : Nat} (h : 0 < l) (f : Fit l) : Fit ((Nat.gcd u l : Nat) : Int).natAbs := by
  rw [Int.natAbs_natCast]
  exact f.le (gcd_le h)
noncomputable def spCD : Sp := fun vs H Q _ => ∃ u l : Nat, vs = [.int (u : Int), .int (l : Int)] ∧ Q (.int ((Nat.gcd u l : Nat) : Int)) H
noncomputable def spFrac : Sp := fun vs H Q _ => ∃ u l : Nat, vs = [.int (u : Int), .int (l : Int)] ∧ 0 < l ∧ Fit l ∧ ∀ p H', Same H H' → H' p = some (.tup (frV u l)) → Q (.ref p) H'
section
variable {P : Program} {w : World} {K : PySem.W.Frag} {mg : Str → Option Value} {base : Heap} {f : Addr} {fd : FuncData}
theorem ok_common_divisor (F_common_divisor : Fun K "common_divisor" "common_divisor" s_common_divisor f fd) (B : Bl mg) : FnOk P w K mg base CX0 1 f fd p_common_divisor spCD := by
  refine F_common_divisor.ok sc_common_divisor (fun vs H Q E h => ?_) (fun cdv A outer s H vs Q E hr h => ?_)
  · obtain ⟨u, l, rfl, _⟩ := h
    rfl
  obtain ⟨u, l, rfl, q⟩ := h
  refine ⟨_, (pss_cons (ps_set (i := 2) sc_common_divisor.nd rfl (Or.inl rfl) (pe_callB call_abs rfl B.abs_ L3.bt_abs (pa_cons (pv 0) pa_nil)))
      (pss_cons (ps_set (i := 3) sc_common_divisor.nd rfl (Or.inl rfl) (pe_callB call_abs rfl B.abs_ L3.bt_abs (pa_cons (pv 1) pa_nil)))
      (pss_cons (ps_while PassesOwn.never (pt_cmpR op_gt (pv 3) pe_int (nomark _)) (pss_cons (ps_set (i := 4) sc_common_divisor.nd rfl (Or.inl rfl) (pe_op op_mod (pv 2) (pv 3)))
      (pss_cons (ps_set (i := 2) sc_common_divisor.nd rfl (Or.inl rfl) (pv 3))
      (pss_one (ps_set (i := 3) sc_common_divisor.nd rfl (Or.inl rfl) (pv 4))))))
      (pss_one (ps_ret (pv 2)))))), ?_⟩
  refine ⟨_, rfl, _, rfl, ?_⟩
  rw [if_neg (by omega)]
  refine ⟨_, rfl, _, rfl, ?_⟩
  rw [if_neg (by omega)]
  refine ⟨fun m σ' H' => ∃ (g : Nat) (o4 : Option V), σ' = [some (.int (u : Int)), some (.int (l : Int)), some (.int (g : Int)), some (.int (m : Int)), o4] ∧ H' = H ∧ Nat.gcd g m = Nat.gcd u l, ⟨l, u, _, rfl, rfl, rfl⟩, ?_⟩
  rintro m σ' H' ⟨g, o4, rfl, rfl, hg⟩
  refine ⟨_, rfl, _, _, rfl, rfl, _, rfl, ite2 (fun c => ?_) (fun c => ?_)⟩
  · have c' : (0 : Int) < (m : Int) := of_decide_eq_true c
    refine ⟨fun σ' H'' => ∃ o4 : Option V, σ' = [some (.int (u : Int)), some (.int (l : Int)), some (.int (m : Int)), some (.int ((g % m : Nat) : Int)), o4] ∧ H'' = H', fun σ' H'' ⟨o, e1, e2⟩ => ⟨g % m, Nat.mod_lt _ (by omega), m, o, e1, e2, ?_⟩, ?_⟩
    · rw [← hg, Nat.gcd_comm m, ← Nat.gcd_rec, Nat.gcd_comm]
    refine ⟨_, rfl, _, rfl, _, _, rfl, rfl, c', ?_⟩
    refine ⟨_, rfl, _, rfl, some (.int ((g % m : Nat) : Int)), ?_, rfl⟩
    rw [Int.natCast_emod]
    rfl
  · have c' : ¬ (0 : Int) < (m : Int) := of_decide_eq_false (Bool.eq_false_iff.mpr c)
    have : m = 0 := by omega
    subst this
    refine ⟨_, rfl, ?_⟩
    rw [Nat.gcd_zero_right] at hg
    rw [← hg] at q
    exact q
theorem ok_fraction (F_fraction : Fun K "fraction" "fraction" s_fraction f fd) (g_common_divisor : Fn P w K mg base "common_divisor" p_common_divisor 1 spCD) : FnOk P w K mg base CX0 2 f fd p_fraction spFrac := by
  refine F_fraction.ok sc_fraction (fun vs H Q E h => ?_) (fun cdv A outer s H vs Q E hr h => ?_)
  · obtain ⟨u, l, rfl, _⟩ := h
    rfl
  obtain ⟨u, l, rfl, hl, hf, q⟩ := h
  refine ⟨_, (pss_cons (ps_if (pt_cmpR op_eq (pv 1) pe_int (nomark _)) (pss_one ps_never) pss_nil)
      (pss_cons (ps_set (i := 2) sc_fraction.nd rfl (Or.inl rfl) (pe_fn g_common_divisor hr (pa_cons (pv 0) (pa_cons (pv 1) pa_nil))))
      (pss_cons (ps_join (ps_if (pt_cmpR op_lt (pv 1) pe_int (nomark _)) (pss_one (ps_set (i := 2) sc_fraction.nd rfl (Or.inl rfl) (pe_un un_neg (pv 2)))) pss_nil))
      (pss_one (ps_ret (pe_tup (pa_cons (pe_op op_fdivB (pv 0) (pv 2)) (pa_cons (pe_op op_fdivB (pv 1) (pv 2)) pa_nil)))))))), ?_⟩
  have hg := gcd_pos (u := u) hl
  refine ⟨_, rfl, rfl, _, rfl, ?_⟩
  rw [show decide (V.int (l : Int) = V.int 0) = false from decide_eq_false (fun z => by injection z with z; omega)]
  refine iteF ⟨_, rfl, _, rfl, u, l, rfl, ?_⟩
  refine ⟨fun σ' H' => σ' = [some (.int (u : Int)), some (.int (l : Int)), some (.int ((Nat.gcd u l : Nat) : Int))] ∧ H' = H, ?_, ?_⟩
  · rintro σ' H' ⟨rfl, rfl⟩
    refine ⟨_, rfl, _, rfl, _, _, rfl, rfl, ⟨by omega, fit_gcd hl hf⟩, _, rfl, _, rfl, _, _, rfl, rfl, ⟨by omega, fit_gcd hl hf⟩, (by show 2 ≤ sizeLine; decide), fun p fp => ?_⟩
    refine q p _ (same_new fp _) ?_
    rw [upd_same]
    show some (HO.tup [V.int ((u : Int) / ((Nat.gcd u l : Nat) : Int)), V.int ((l : Int) / ((Nat.gcd u l : Nat) : Int))]) = _
    rw [← Int.natCast_ediv, ← Int.natCast_ediv]
    rfl
  · refine ⟨_, rfl, _, _, rfl, rfl, _, rfl, ?_⟩
    rw [decide_eq_false (by omega)]
    exact iteF ⟨rfl, rfl⟩
theorem ok__law_frac (F__law_frac : Fun K "_law_frac" "_law_frac" s__law_frac f fd) (B : Bl mg) : FnOk P w K mg base CX0 1 f fd p__law_frac spFrac := by
  refine F__law_frac.ok sc__law_frac (fun vs H Q E h => ?_) (fun cdv A outer s H vs Q E hr h => ?_)
  · obtain ⟨u, l, rfl, _⟩ := h
    rfl
  obtain ⟨u, l, rfl, hl, hf, q⟩ := h
  refine ⟨_, (pss_cons (ps_par (i := 2) (j := 3) rfl sc__law_frac.nd rfl rfl (by decide) rfl rfl (pa_cons (pv 0) (pa_cons (pv 1) pa_nil)) rfl)
      (pss_cons (ps_while PassesOwn.never (pt_cmpR op_ne (pv 3) pe_int (nomark _)) (pss_one (ps_par (i := 2) (j := 3) rfl sc__law_frac.nd rfl rfl (by decide) rfl rfl (pa_cons (pv 3) (pa_cons (pe_op op_mod (pv 2) (pv 3)) pa_nil)) rfl)))
      (pss_cons (ps_set (i := 2) sc__law_frac.nd rfl (Or.inl rfl) (pe_ifExp (pt_cmpR op_gt (pv 1) pe_int (nomark _)) (pe_callB call_abs rfl B.abs_ L3.bt_abs (pa_cons (pv 2) pa_nil)) (pe_un un_neg (pe_callB call_abs rfl B.abs_ L3.bt_abs (pa_cons (pv 2) pa_nil)))))
      (pss_one (ps_ret (pe_tup (pa_cons (pe_op op_fdivB (pv 0) (pv 2)) (pa_cons (pe_op op_fdivB (pv 1) (pv 2)) pa_nil)))))))), ?_⟩
  have hg := gcd_pos (u := u) hl
  refine ⟨_, rfl, _, rfl, _, _, rfl, ?_⟩
  refine ⟨fun m σ' H' => ∃ (g : Nat), σ' = [some (.int (u : Int)), some (.int (l : Int)), some (.int (g : Int)), some (.int (m : Int))] ∧ H' = H ∧ Nat.gcd g m = Nat.gcd u l, ⟨l, u, rfl, rfl, rfl⟩, ?_⟩
  rintro m σ' H' ⟨g, rfl, rfl, hgs⟩
  refine ⟨_, rfl, rfl, _, rfl, ?_⟩
  by_cases c : m = 0
  · subst c
    rw [show (!decide (V.int ((0 : Nat) : Int) = V.int 0)) = false from rfl]
    rw [Nat.gcd_zero_right] at hgs
    subst hgs
    refine iteF ⟨_, rfl, _, _, rfl, rfl, _, rfl, ?_⟩
    rw [decide_eq_true (by omega)]
    refine iteT ⟨_, rfl, _, rfl, ?_⟩
    rw [if_neg (by omega)]
    refine ⟨_, rfl, _, rfl, _, _, rfl, rfl, ⟨by omega, fit_gcd hl hf⟩, _, rfl, _, rfl, _, _, rfl, rfl, ⟨by omega, fit_gcd hl hf⟩, (by show 2 ≤ sizeLine; decide), fun p fp => ?_⟩
    refine q p _ (same_new fp _) ?_
    rw [upd_same]
    show some (HO.tup [V.int ((u : Int) / ((Nat.gcd u l : Nat) : Int)), V.int ((l : Int) / ((Nat.gcd u l : Nat) : Int))]) = _
    rw [← Int.natCast_ediv, ← Int.natCast_ediv]
    rfl
  · rw [show (!decide (V.int (m : Int) = V.int 0)) = true from by rw [decide_eq_false (fun z => by injection z with z; omega)]; rfl]
    refine iteT ⟨fun σ' H'' => σ' = [some (.int (u : Int)), some (.int (l : Int)), some (.int (m : Int)), some (.int ((g % m : Nat) : Int))] ∧ H'' = H', fun σ' H'' ⟨e1, e2⟩ => ⟨g % m, Nat.mod_lt _ (by omega), m, e1, e2, ?_⟩, ?_⟩
    · rw [← hgs, Nat.gcd_comm m, ← Nat.gcd_rec, Nat.gcd_comm]
    refine ⟨_, rfl, _, rfl, _, rfl, _, _, rfl, rfl, (by show (0 : Int) < (m : Int); omega), _, _, rfl, ?_, rfl⟩
    rw [Int.natCast_emod]
    rfl
end
noncomputable def rst (l u : Nat) : Nat → Nat
  | 0 => u % l
  | k + 1 => 2 * rst l u k % l
theorem rst_lt {l : Nat} (hl : 0 < l) (u : Nat) : ∀ k, rst l u k < l
  | 0 => Nat.mod_lt _ hl
  | k + 1 => Nat.mod_lt _ hl
theorem rst_add {l : Nat} (hl : 0 < l) (u j : Nat) : ∀ k, rst l (rst l u j) k = rst l u (j + k)
  | 0 => Nat.mod_eq_of_lt (rst_lt hl u j)
  | k + 1 => by
    rw [rst, rst_add hl u j k]
    rfl
noncomputable def nt (ns : List Nat) : Nat := ns.foldl (fun a x => 2 * a + x) 0
theorem nt_snoc (ns : List Nat) (x : Nat) : nt (ns ++ [x]) = 2 * nt ns + x := by rw [nt, List.foldl_append]; rfl
theorem nt_cons : ∀ (ns : List Nat) (x : Nat), nt (x :: ns) = x * 2 ^ ns.length + nt ns := by
  have key : ∀ (ns : List Nat) (a : Nat), ns.foldl (fun a x => 2 * a + x) a = a * 2 ^ ns.length + nt ns := by
    intro ns
    induction ns with
    | nil => intro a; simp [nt]
    | cons y ns ih =>
      intro a
      have e : nt (y :: ns) = ns.foldl (fun a x => 2 * a + x) (2 * 0 + y) := rfl
      rw [List.foldl_cons, ih, e, ih, List.length_cons, Nat.pow_succ]
      grind
  intro ns x
  rw [nt, List.foldl_cons, key]
  simp
theorem nt_le {c : Nat} : ∀ {ns : List Nat}, (∀ x ∈ ns, x ≤ c) → nt ns + c ≤ c * 2 ^ ns.length
  | [], _ => by simp [nt]
  | x :: ns, h => by
    have h1 := h x List.mem_cons_self
    have h2 := nt_le fun y hy => h y (List.mem_cons_of_mem _ hy)
    rw [nt_cons, List.length_cons, Nat.pow_succ]
    have h3 : x * 2 ^ ns.length ≤ c * 2 ^ ns.length := Nat.mul_le_mul_right _ h1
    grind
noncomputable def hvU (xs ys : List Nat) : Nat := if ys = [] then nt xs else nt xs * (2 ^ ys.length - 1) + nt ys
noncomputable def hvL (xs ys : List Nat) : Nat := if ys = [] then 2 ^ xs.length else 2 ^ xs.length * (2 ^ ys.length - 1)
theorem two_pow_sub {n : Nat} (h : 0 < n) : 0 < 2 ^ n - 1 := by
  have : 2 ^ 1 ≤ 2 ^ n := Nat.pow_le_pow_right (by decide) h
  omega
theorem hvL_pos (xs ys : List Nat) : 0 < hvL xs ys := by
  unfold hvL
  split
  · exact Nat.pow_pos (by decide)
  · rename_i h
    exact Nat.mul_pos (Nat.pow_pos (by decide)) (two_pow_sub (List.length_pos_iff.mpr h))
theorem hvL_le (xs ys : List Nat) : hvL xs ys ≤ 2 ^ (xs.length + ys.length) := by
  unfold hvL
  split
  · exact Nat.pow_le_pow_right (by decide) (Nat.le_add_right _ _)
  · rw [Nat.pow_add]
    exact Nat.mul_le_mul_left _ (Nat.sub_le _ _)
theorem hvU_le {c : Nat} {xs ys : List Nat} (h1 : ∀ x ∈ xs, x ≤ c) (h2 : ∀ x ∈ ys, x ≤ c) : hvU xs ys ≤ c * hvL xs ys := by
  have a := nt_le h1
  have b := nt_le h2
  unfold hvU hvL
  split
  · omega
  · rename_i hne
    have hp : 0 < 2 ^ ys.length := Nat.pow_pos (by decide)
    generalize 2 ^ xs.length = X at a
    generalize 2 ^ ys.length = Y at b hp
    obtain ⟨Z, rfl⟩ : ∃ Z, Y = Z + 1 := ⟨Y - 1, by omega⟩
    rw [Nat.add_sub_cancel]
    have hb : nt ys ≤ c * Z := by grind
    have ha : nt xs * Z + c * Z ≤ c * X * Z := by
      rw [← Nat.add_mul]
      exact Nat.mul_le_mul_right _ a
    grind
theorem fit_pow {n c : Nat} (hn : n ≤ 6000) (hc : c ≤ 1000000) : Fit (c * 2 ^ n) := by
  refine ⟨6020, by decide, ?_⟩
  have h1 : c < 2 ^ 20 := Nat.lt_of_le_of_lt hc (by decide)
  have h2 : 2 ^ n ≤ 2 ^ 6000 := Nat.pow_le_pow_right (by decide) hn
  calc c * 2 ^ n < 2 ^ 20 * 2 ^ n := Nat.mul_lt_mul_of_pos_right h1 (Nat.pow_pos (by decide))
    _ ≤ 2 ^ 20 * 2 ^ 6000 := Nat.mul_le_mul_left _ h2
    _ = 2 ^ 6020 := by rw [← Nat.pow_add]
structure RF (l u n b : Nat) : Prop where
  pos : ∀ k, k < n → 0 < rst l u k
  nd : ∀ i j, i < n → j < n → rst l u i = rst l u j → i = j
  le : b ≤ n
  nl : n ≤ l
  fin : (rst l u n = 0 ∧ b = n) ∨ (b < n ∧ rst l u n = rst l u b)
noncomputable def rsL (l u n : Nat) : List Nat := (List.range n).map (rst l u)
theorem rsL_len (l u n : Nat) : (rsL l u n).length = n := by rw [rsL, List.length_map, List.length_range]
theorem rsL_succ (l u n : Nat) : rsL l u (n + 1) = rsL l u n ++ [rst l u n] := by rw [rsL, List.range_succ, List.map_append]; rfl
theorem rsL_mem {l u n x : Nat} : x ∈ rsL l u n ↔ ∃ k, k < n ∧ rst l u k = x := by
  unfold rsL
  rw [List.mem_map]
  exact ⟨fun ⟨k, hk, e⟩ => ⟨k, List.mem_range.mp hk, e⟩, fun ⟨k, hk, e⟩ => ⟨k, List.mem_range.mpr hk, e⟩⟩
theorem rsL_le {l u n : Nat} (hl : 0 < l) : ∀ x ∈ rsL l u n, x ≤ l := fun x hx => by
  obtain ⟨k, _, rfl⟩ := rsL_mem.mp hx
  exact Nat.le_of_lt (rst_lt hl u k)
theorem RF.uniq {l u n b n' b' : Nat} (h : RF l u n b) (h' : RF l u n' b') : n = n' ∧ b = b' := by
  have key : ∀ {n b n' b' : Nat}, RF l u n b → RF l u n' b' → ¬ n < n' := by
    intro n b n' b' h h' hlt
    rcases h.fin with ⟨h0, _⟩ | ⟨hb, e⟩
    · have := h'.pos n hlt
      omega
    · have := h'.nd n b hlt (by omega) e
      omega
  have e : n = n' := by
    have h1 := key h h'
    have h2 := key h' h
    omega
  subst e
  refine ⟨rfl, ?_⟩
  rcases h.fin with ⟨h0, e1⟩ | ⟨hb, e1⟩ <;> rcases h'.fin with ⟨h0', e1'⟩ | ⟨hb', e1'⟩
  · omega
  · have := h.pos b' hb'
    omega
  · have := h'.pos b hb
    omega
  · exact h.nd b b' hb hb' (by rw [← e1, ← e1'])
theorem RF.next {l u n b : Nat} (hl : 0 < l) (h : RF l u n b) (hn : 0 < n) : (0 < b ∧ RF l (rst l u 1) (n - 1) (b - 1)) ∨ (b = 0 ∧ RF l (rst l u 1) n 0) := by
  have sh : ∀ k, rst l (rst l u 1) k = rst l u (k + 1) := fun k => by rw [rst_add hl, Nat.add_comm]
  by_cases hb : 0 < b
  · refine .inl ⟨hb, fun k hk => ?_, fun i j hi hj e => ?_, by have := h.le; omega, by have := h.nl; omega, ?_⟩
    · rw [sh]; exact h.pos _ (by omega)
    · rw [sh, sh] at e
      have := h.nd _ _ (by omega) (by omega) e
      omega
    · rw [sh, sh, show n - 1 + 1 = n by omega, show b - 1 + 1 = b by omega]
      rcases h.fin with ⟨h0, e⟩ | ⟨h1, e⟩
      · exact .inl ⟨h0, by omega⟩
      · exact .inr ⟨by omega, e⟩
  · have hb0 : b = 0 := by omega
    subst hb0
    have hf : rst l u n = rst l u 0 := by
      rcases h.fin with ⟨_, e⟩ | ⟨_, e⟩
      · omega
      · exact e
    refine .inr ⟨rfl, fun k hk => ?_, fun i j hi hj e => ?_, Nat.zero_le _, h.nl, .inr ⟨hn, ?_⟩⟩
    · rw [sh]
      by_cases c : k + 1 = n
      · rw [c, hf]; exact h.pos 0 hn
      · exact h.pos _ (by omega)
    · rw [sh, sh] at e
      by_cases c1 : i + 1 = n
      · by_cases c2 : j + 1 = n
        · omega
        · rw [c1, hf] at e
          have := h.nd 0 (j + 1) hn (by omega) e
          omega
      · by_cases c2 : j + 1 = n
        · rw [c2, hf] at e
          have := h.nd (i + 1) 0 (by omega) hn e
          omega
        · have := h.nd _ _ (by omega) (by omega) e
          omega
    · rw [sh, sh]
      show 2 * rst l u n % l = 2 * rst l u 0 % l
      rw [hf]
noncomputable def hU (l u n b : Nat) : Nat := hvU ((rsL l u n).take b) ((rsL l u n).drop b)
noncomputable def hL (l u n b : Nat) : Nat := hvL ((rsL l u n).take b) ((rsL l u n).drop b)
theorem rsL_shift {l u : Nat} (hl : 0 < l) (n : Nat) : rsL l u (n + 1) = rst l u 0 :: rsL l (rst l u 1) n := by
  unfold rsL
  rw [List.range_succ_eq_map, List.map_cons, List.map_map]
  congr 1
  refine List.map_congr_left fun k _ => ?_
  show rst l u (k + 1) = rst l (rst l u 1) k
  rw [rst_add hl, Nat.add_comm]
theorem half_next {l u n b n' b' : Nat} (hl : 0 < l) (h : RF l u n b) (h' : RF l (rst l u 1) n' b') : 2 * hU l u n b * hL l (rst l u 1) n' b' = hL l u n b * (rst l u 0 * hL l (rst l u 1) n' b' + hU l (rst l u 1) n' b') := by
  by_cases hn : n = 0
  · subst hn
    have h0 : rst l u 0 = 0 := by
      rcases h.fin with ⟨h0, _⟩ | ⟨hb, _⟩
      · exact h0
      · omega
    have hb : b = 0 := by have := h.le; omega
    have z : RF l (rst l u 1) 0 0 := by
      refine ⟨fun k hk => by omega, fun i j hi => by omega, Nat.le_refl _, Nat.zero_le _, .inl ⟨?_, rfl⟩⟩
      rw [rst_add hl]
      show 2 * rst l u 0 % l = 0
      rw [h0]
      exact Nat.zero_mod _
    obtain ⟨e1, e2⟩ := h'.uniq z
    subst e1 e2 hb
    rw [h0]
    rfl
  rcases h.next hl (by omega) with ⟨hb, z⟩ | ⟨hb, z⟩
  · obtain ⟨e1, e2⟩ := h'.uniq z
    subst e1 e2
    have es : rsL l u n = rst l u 0 :: rsL l (rst l u 1) (n - 1) := by rw [← rsL_shift hl, show n - 1 + 1 = n by omega]
    unfold hU hL
    obtain ⟨b0, rfl⟩ : ∃ b0, b = b0 + 1 := ⟨b - 1, by omega⟩
    rw [es, List.take_succ_cons, List.drop_succ_cons, Nat.add_sub_cancel]
    generalize (rsL l (rst l u 1) (n - 1)).take b0 = xs
    generalize (rsL l (rst l u 1) (n - 1)).drop b0 = ys
    unfold hvU hvL
    split
    · rw [nt_cons, List.length_cons, Nat.pow_succ]
      grind
    · rw [nt_cons, List.length_cons, Nat.pow_succ]
      grind
  · subst hb
    obtain ⟨e1, e2⟩ := h'.uniq z
    subst e1 e2
    have hf : rst l u n' = rst l u 0 := by
      rcases h.fin with ⟨_, e⟩ | ⟨_, e⟩
      · omega
      · exact e
    have hne : n' ≠ 0 := hn
    obtain ⟨m, rfl⟩ : ∃ m, n' = m + 1 := ⟨n' - 1, by omega⟩
    have e1 : rsL l u (m + 1) = rst l u 0 :: rsL l (rst l u 1) m := rsL_shift hl m
    have e2 : rsL l (rst l u 1) (m + 1) = rsL l (rst l u 1) m ++ [rst l u 0] := by
      rw [rsL_succ, rst_add hl, Nat.add_comm 1 m, hf]
    have hlen := rsL_len l (rst l u 1) m
    unfold hU hL
    rw [List.take_zero, List.drop_zero, List.take_zero, List.drop_zero, e1, e2]
    generalize rsL l (rst l u 1) m = xs at hlen
    unfold hvU hvL
    rw [if_neg (by simp), if_neg (by simp), if_neg (by simp), if_neg (by simp)]
    rw [nt_cons, nt_snoc, List.length_cons, List.length_append, List.length_nil]
    have hp : 0 < 2 ^ xs.length := Nat.pow_pos (by decide)
    show 2 * (nt [] * (2 ^ (xs.length + 1) - 1) + (rst l u 0 * 2 ^ xs.length + nt xs)) * (2 ^ 0 * (2 ^ (xs.length + 1) - 1)) = 2 ^ 0 * (2 ^ (xs.length + 1) - 1) * (rst l u 0 * (2 ^ 0 * (2 ^ (xs.length + 1) - 1)) + (nt [] * (2 ^ (xs.length + 1) - 1) + (2 * nt xs + rst l u 0)))
    rw [Nat.pow_succ]
    have hz : nt [] = 0 := rfl
    rw [hz]
    generalize 2 ^ xs.length = X at hp
    obtain ⟨Y, hY⟩ : ∃ Y, X * 2 = Y + 1 := ⟨X * 2 - 1, by omega⟩
    rw [hY, Nat.add_sub_cancel]
    generalize nt xs = N
    generalize rst l u 0 = r
    have : r * (X * 2) = r * Y + r := by rw [hY]; grind
    grind
theorem half_le {l u n b : Nat} (hl : 0 < l) : hU l u n b ≤ l * hL l u n b :=
  hvU_le (fun x hx => rsL_le hl x (List.mem_of_mem_take hx)) (fun x hx => rsL_le hl x (List.mem_of_mem_drop hx))
theorem hL_pos (l u n b : Nat) : 0 < hL l u n b := hvL_pos _ _
theorem hL_le {l u n b : Nat} : hL l u n b ≤ 2 ^ n := by
  refine Nat.le_trans (hvL_le _ _) (Nat.pow_le_pow_right (by decide) ?_)
  rw [List.length_take, List.length_drop, rsL_len]
  omega
theorem filt_lt {α : Type} {p q : α → Bool} : ∀ {L : List α} {x : α}, (∀ y, p y = true → q y = true) → x ∈ L → q x = true → p x = false → (L.filter p).length < (L.filter q).length
  | a :: L, x, hpq, hx, hq, hp => by
    have le : ∀ {L : List α}, (L.filter p).length ≤ (L.filter q).length := by
      intro L
      induction L with
      | nil => simp
      | cons b L ih =>
        by_cases c : p b = true
        · rw [List.filter_cons_of_pos c, List.filter_cons_of_pos (hpq b c), List.length_cons, List.length_cons]; omega
        · rw [List.filter_cons_of_neg c]
          by_cases d : q b = true
          · rw [List.filter_cons_of_pos d, List.length_cons]; omega
          · rw [List.filter_cons_of_neg d]; exact ih
    rcases List.mem_cons.mp hx with e | hx
    · subst e
      rw [List.filter_cons_of_neg (by rw [hp]; decide), List.filter_cons_of_pos hq, List.length_cons]
      have := le (L := L)
      omega
    · have ih := filt_lt hpq hx hq hp
      by_cases c : p a = true
      · rw [List.filter_cons_of_pos c, List.filter_cons_of_pos (hpq a c), List.length_cons, List.length_cons]; omega
      · rw [List.filter_cons_of_neg c]
        by_cases d : q a = true
        · rw [List.filter_cons_of_pos d, List.length_cons]; omega
        · rw [List.filter_cons_of_neg d]; exact ih
theorem fm_all {g : Nat → Option V} : ∀ {m : Nat}, (∀ k, k < m → (g k).isSome = true) → ((List.range m).filterMap g).length = m ∧ ∀ j, j < m → ((List.range m).filterMap g)[j]? = g j
  | 0, _ => ⟨rfl, fun j h => absurd h (Nat.not_lt_zero j)⟩
  | m + 1, h => by
    obtain ⟨h1, h2⟩ := fm_all (m := m) fun k hk => h k (by omega)
    obtain ⟨x, hx⟩ := Option.isSome_iff_exists.mp (h m (by omega))
    have e : (List.range (m + 1)).filterMap g = (List.range m).filterMap g ++ [x] := by
      rw [List.range_succ, List.filterMap_append, List.filterMap_cons, hx]
      rfl
    rw [e]
    refine ⟨by rw [List.length_append, h1]; rfl, fun j hj => ?_⟩
    by_cases c : j < m
    · rw [List.getElem?_append_left (by omega)]
      exact h2 j c
    · have : j = m := by omega
      subst this
      rw [List.getElem?_append_right (by omega), h1, Nat.sub_self, hx]
      rfl
theorem cat34 {K : PySem.W.Frag} {H : Hp} {a b : Addr} {xs ys : List V} {Q : VK} (ha : H a = some (.tup xs)) (hb : H b = some (.tup ys)) (hz : xs.length + ys.length ≤ 300000) (q : ∀ p H', Same H H' → H' p = some (.tup (xs ++ ys)) → Q (.ref p) H') : rCat0 K (.ref a) (.ref b) H Q := by
  refine ⟨a, b, xs, ys, rfl, rfl, SqT.of ha, SqT.of hb, small (by omega), fun e => ?_, fun _ e => ?_, fun _ _ p fp => q p _ (same_new fp _) upd_same⟩
  · subst e
    exact q b H (Same.refl _) hb
  · subst e
    refine q a H (Same.refl _) ?_
    rw [List.append_nil]
    exact ha
theorem cut_take (n m : Nat) : L3.cutAt n none (some (m : Int)) none = (0, 1, min m n) := by
  have a : Builtin.Slice.sliceAdjust none (some (m : Int)) 1 (n : Int) = (0, ((min m n : Nat) : Int)) := by
    unfold Builtin.Slice.sliceAdjust
    simp
    omega
  have b : Builtin.Slice.slicePlaces 0 ((min m n : Nat) : Int) 1 = min m n := by
    unfold Builtin.Slice.slicePlaces
    rw [if_pos (by decide)]
    by_cases h : (0 : Int) < ((min m n : Nat) : Int)
    · rw [if_pos h]; omega
    · rw [if_neg h]; omega
  unfold L3.cutAt
  show ((Builtin.Slice.sliceAdjust none (some (m : Int)) 1 (n : Int)).1, (1 : Int), Builtin.Slice.slicePlaces (Builtin.Slice.sliceAdjust none (some (m : Int)) 1 (n : Int)).1 (Builtin.Slice.sliceAdjust none (some (m : Int)) 1 (n : Int)).2 1) = _
  rw [a]
  dsimp only
  rw [b]
theorem pick_take (xs : List V) (m : Nat) : L3.pickAt xs (0, 1, min m xs.length) = xs.take m := by
  unfold L3.pickAt
  dsimp only
  have e : (fun (k : Nat) => xs[(0 + (k : Int) * 1).toNat]?) = fun k => xs[k]? := by
    funext k
    have : (0 + (k : Int) * 1).toNat = k := by omega
    rw [this]
  rw [e]
  obtain ⟨h1, h2⟩ := fm_all (g := fun k => xs[k]?) (m := min m xs.length) fun k hk => by
    rw [List.getElem?_eq_getElem (by omega)]
    rfl
  refine List.ext_getElem? fun j => ?_
  by_cases c : j < min m xs.length
  · rw [h2 j c, List.getElem?_take_of_lt (by omega)]
  · rw [List.getElem?_eq_none (by omega), List.getElem?_eq_none (by rw [List.length_take]; omega)]
theorem sl_take {K : PySem.W.Frag} {H : Hp} {a : Addr} {xs : List V} {m : Nat} {Q : VK} (h : H a = some (.tup xs)) (hz : xs.length ≤ 100000) (q : ∀ p H', Same H H' → H' p = some (.tup (xs.take m)) → Q (.ref p) H') : rSl3 K (.ref a) none (some (m : Int)) none H Q := by
  refine ⟨a, xs, rfl, SqT.of h, by decide, by rw [cut_take]; exact small (by show min m xs.length ≤ _; omega), fun z => ?_, fun _ p fp => ?_⟩
  · rw [cut_take] at z
    have z' : min m xs.length = xs.length := by simpa [L3.wholeAt] using z
    exact q a H (Same.refl _) (by rw [List.take_of_length_le (by omega)]; exact h)
  · refine q p _ (same_new fp _) ?_
    rw [upd_same, cut_take, pick_take]
theorem vnats_take (l : List Nat) (m : Nat) : (vnats l).take m = vnats (l.take m) := by rw [vnats, vnats, List.map_take]
theorem sl_takeP {K : PySem.W.Frag} {H : Hp} {a : Addr} {xs : List V} {m : Nat} {Q : VK} {σ : St} {n : Int} (hn : n = (m : Int)) (h : H a = some (.tup xs)) (hz : xs.length ≤ 100000) (q : ∀ p H', Same H H' → H' p = some (.tup (xs.take m)) → Q (.ref p) H') :
    tNoPart σ H (fun st H4 => rSl3 K (.ref a) none (some n) st H4 Q) := by
  subst hn
  exact sl_take h hz q
theorem vnats_drop (l : List Nat) (m : Nat) : (vnats l).drop m = vnats (l.drop m) := by rw [vnats, vnats, List.map_drop]
theorem cut_drop {n m : Nat} (h : m ≤ n) : L3.cutAt n (some (m : Int)) none none = ((m : Int), 1, n - m) := by
  have a : Builtin.Slice.sliceAdjust (some (m : Int)) none 1 (n : Int) = ((m : Int), (n : Int)) := by
    unfold Builtin.Slice.sliceAdjust
    simp
    omega
  have b : Builtin.Slice.slicePlaces (m : Int) (n : Int) 1 = n - m := by
    unfold Builtin.Slice.slicePlaces
    rw [if_pos (by decide)]
    by_cases h : (m : Int) < (n : Int)
    · rw [if_pos h]; omega
    · rw [if_neg h]; omega
  unfold L3.cutAt
  show ((Builtin.Slice.sliceAdjust (some (m : Int)) none 1 (n : Int)).1, (1 : Int), Builtin.Slice.slicePlaces (Builtin.Slice.sliceAdjust (some (m : Int)) none 1 (n : Int)).1 (Builtin.Slice.sliceAdjust (some (m : Int)) none 1 (n : Int)).2 1) = _
  rw [a]
  dsimp only
  rw [b]
theorem pick_drop (xs : List V) {m : Nat} (h : m ≤ xs.length) : L3.pickAt xs ((m : Int), 1, xs.length - m) = xs.drop m := by
  unfold L3.pickAt
  dsimp only
  have e : (fun (k : Nat) => xs[((m : Int) + (k : Int) * 1).toNat]?) = fun k => xs[m + k]? := by
    funext k
    have : ((m : Int) + (k : Int) * 1).toNat = m + k := by omega
    rw [this]
  rw [e]
  obtain ⟨h1, h2⟩ := fm_all (g := fun k => xs[m + k]?) (m := xs.length - m) fun k hk => by
    rw [List.getElem?_eq_getElem (by omega)]
    rfl
  refine List.ext_getElem? fun j => ?_
  by_cases c : j < xs.length - m
  · rw [h2 j c, List.getElem?_drop]
  · rw [List.getElem?_eq_none (by omega), List.getElem?_eq_none (by rw [List.length_drop]; omega)]
theorem sl_dropP {K : PySem.W.Frag} {H : Hp} {a : Addr} {xs : List V} {m : Nat} {Q : VK} {σ σ' : St} {n : Int} (hn : n = (m : Int)) (h : H a = some (.tup xs)) (hm : m ≤ xs.length) (hz : xs.length ≤ 100000) (q : ∀ p H', Same H H' → H' p = some (.tup (xs.drop m)) → Q (.ref p) H') :
    tNoPart σ H (fun u H3 => tNoPart σ' H3 fun st H4 => rSl3 K (.ref a) (some n) u st H4 Q) := by
  subst hn
  show rSl3 K (.ref a) (some (m : Int)) none none H Q
  refine ⟨a, xs, rfl, SqT.of h, by decide, by rw [cut_drop hm]; exact small (by show xs.length - m ≤ _; omega), fun z => ?_, fun _ p fp => ?_⟩
  · rw [cut_drop hm] at z
    have z' : m = 0 := by
      have : m = 0 ∧ xs.length - m = xs.length := by simpa [L3.wholeAt] using z
      exact this.1
    subst z'
    exact q a H (Same.refl _) h
  · refine q p _ (same_new fp _) ?_
    rw [upd_same, cut_drop hm, pick_drop xs hm]
noncomputable def kvR (l u n : Nat) : List (Key × V) := (List.range n).map fun k => (.inl ((rst l u k : Nat) : Int), .int (k : Int))
theorem kvR_succ (l u n : Nat) : kvR l u (n + 1) = kvR l u n ++ [(.inl ((rst l u n : Nat) : Int), .int (n : Int))] := by rw [kvR, List.range_succ, List.map_append]; rfl
theorem kvR_len (l u n : Nat) : (kvR l u n).length = n := by rw [kvR, List.length_map, List.length_range]
theorem kvR_none {l u x : Nat} : ∀ {n : Nat}, (∀ k, k < n → rst l u k ≠ x) → valV (kvR l u n) (.inl (x : Int)) = none
  | 0, _ => rfl
  | n + 1, h => by
    have ih := kvR_none (n := n) fun k hk => h k (by omega)
    have hn := h n (by omega)
    rw [kvR_succ]
    unfold valV at ih ⊢
    rw [List.find?_append]
    rw [Option.map_eq_none_iff] at ih
    rw [ih]
    have : ¬ ((Sum.inl ((rst l u n : Nat) : Int) : Key) = Sum.inl (x : Int)) := fun z => by injection z with z; omega
    simp [this]
theorem kvR_some {l u b : Nat} : ∀ {n : Nat}, (∀ i j, i < n → j < n → rst l u i = rst l u j → i = j) → b < n → valV (kvR l u n) (.inl ((rst l u b : Nat) : Int)) = some (.int (b : Int))
  | n + 1, h, hb => by
    rw [kvR_succ]
    by_cases c : b = n
    · subst c
      have hn : valV (kvR l u b) (.inl ((rst l u b : Nat) : Int)) = none := kvR_none fun k hk e => absurd (h k b (by omega) (by omega) e) (by omega)
      rw [valV_snoc _ _ _ _ hn, if_pos rfl]
    · have ih := kvR_some (b := b) (n := n) (fun i j hi hj e => h i j (by omega) (by omega) e) (by omega)
      have hn : valV (kvR l u n) (.inl ((rst l u n : Nat) : Int)) = none := kvR_none fun k hk e => absurd (h k n (by omega) (by omega) e) (by omega)
      rw [valV_snoc _ _ _ _ hn, if_neg (fun z => c (h b n (by omega) (by omega) (by injection z with z; omega)))]
      exact ih
theorem kvR_keys (l u n : Nat) : ((kvR l u n).map fun kv => kV kv.1) = vnats (rsL l u n) := by
  unfold kvR rsL vnats
  rw [List.map_map, List.map_map]
  rfl
theorem rests_test {a0 a1 a4 a5 : Option V} {H : Hp} {Q : Bool → Hp → Prop} {r : Nat} {d : Addr} {kvs : List (Key × V)} (hd : H d = some (.dK kvs)) (q : Q (decide (0 < r) && !(valV kvs (.inl (r : Int))).isSome) H) :
    tAnd (tTest (tOp (rI0 fun i j => V.bl (decide (j < i))) (tVar 2) (tC (V.int 0)))) (tTest (tOp (fun y x H Q => ∃ a o, x = V.ref a ∧ DGet H a y o ∧ Q (V.bl !o.isSome) H) (tVar 2) (tVar 3))) [a0, a1, some (.int (r : Int)), some (.ref d), a4, a5] H Q := by
  refine ⟨_, rfl, _, _, rfl, rfl, _, rfl, ?_⟩
  by_cases c : 0 < r
  · rw [decide_eq_true c, Bool.true_and] at q
    rw [decide_eq_true (by omega)]
    exact iteT ⟨_, rfl, _, rfl, d, _, rfl, DGet.k (k := .inl (r : Int)) hd, _, rfl, q⟩
  · rw [decide_eq_false c, Bool.false_and] at q
    rw [decide_eq_false (by omega)]
    exact iteF q
noncomputable def spRests : Sp := fun vs H Q _ => ∃ u l : Nat, vs = [.int (u : Int), .int (l : Int)] ∧ 0 < l ∧ l ≤ 10000 ∧ ∀ pp p1 p2 n b H', Same H H' → H' pp = some (.tup [.ref p1, .ref p2]) → H' p1 = some (.tup (vnats ((rsL l u n).take b))) → H' p2 = some (.tup (vnats ((rsL l u n).drop b))) → RF l u n b → Q (.ref pp) H'
noncomputable def spNT : Sp := fun vs H Q _ => ∃ (p : Addr) (ns : List Nat), vs = [.ref p] ∧ H p = some (.tup (vnats ns)) ∧ Q (.int ((nt ns : Nat) : Int)) H
noncomputable def spHalves : Sp := fun vs H Q _ => ∃ (p1 p2 : Addr) (xs ys : List Nat), vs = [.ref p1, .ref p2] ∧ H p1 = some (.tup (vnats xs)) ∧ H p2 = some (.tup (vnats ys)) ∧ xs.length + ys.length ≤ 6000 ∧ (∀ x ∈ xs, x ≤ 10000) ∧ (∀ x ∈ ys, x ≤ 10000) ∧
  ∀ p H', Same H H' → H' p = some (.tup (frV (hvU xs ys) (hvL xs ys))) → Q (.ref p) H'
section
variable {P : Program} {w : World} {K : PySem.W.Frag} {mg : Str → Option Value} {base : Heap} {f : Addr} {fd : FuncData}
theorem ok_number_in_twos (F_number_in_twos : Fun K "number_in_twos" "number_in_twos" s_number_in_twos f fd) : FnOk P w K mg base CX0 1 f fd p_number_in_twos spNT := by
  refine F_number_in_twos.ok sc_number_in_twos (fun vs H Q E h => ?_) (fun cdv A outer s H vs Q E hr h => ?_)
  · obtain ⟨p, ns, rfl, _⟩ := h
    rfl
  obtain ⟨p, ns, rfl, hp, q⟩ := h
  refine ⟨_, (pss_cons (ps_set (i := 1) sc_number_in_twos.nd rfl (Or.inl rfl) pe_int)
      (pss_cons (ps_for PassesOwn.never rfl (pi_tup (pv 0)) (pg_name (i := 2) sc_number_in_twos.nd rfl (Or.inl rfl)) (pss_one (ps_set (i := 1) sc_number_in_twos.nd rfl (Or.inl rfl) (pe_op op_add (pe_op op_mul pe_int (pv 1)) (pv 2)))))
      (pss_one (ps_ret (pv 1))))), ?_⟩
  refine ⟨_, rfl, p, rfl, ⟨_, SqT.of hp⟩, for_tup (xs := vnats ns) (fun i σ' H' => ∃ o2 : Option V, σ' = [some (.ref p), some (.int ((nt (ns.take i) : Nat) : Int)), o2] ∧ H' = H)
    ⟨_, rfl, rfl⟩ (fun i σ' H' _ ⟨_, _, e⟩ => by rw [e]; exact SqT.of hp) ?_ ?_⟩
  · rintro i x σ' H' hx ⟨o2, rfl, rfl⟩
    have hi : i < ns.length := by
      have := (List.getElem?_eq_some_iff.mp hx).1
      rw [vnats_len] at this
      exact this
    rw [vnats_at hi] at hx
    obtain rfl := Option.some.inj hx
    refine ⟨_, rfl, _, _, rfl, rfl, .inl ⟨by decide, by decide⟩, _, rfl, _, _, rfl, rfl, some (.int ((ns.getD i 0 : Nat) : Int)), ?_, rfl⟩
    have tk : ns.take (i + 1) = ns.take i ++ [ns.getD i 0] := by
      rw [List.take_add_one, List.getElem?_eq_getElem hi, List.getD_eq_getElem?_getD, List.getElem?_eq_getElem hi]
      rfl
    rw [tk, nt_snoc, Int.natCast_add, Int.natCast_mul]
    rfl
  · rintro σ' H' ⟨o2, rfl, rfl⟩
    rw [vnats_len, List.take_length]
    exact ⟨_, rfl, q⟩
theorem ok_rests_of (F_rests_of : Fun K "rests_of" "rests_of" s_rests_of f fd) (B : Bl mg) : FnOk P w K mg base CX0 1 f fd p_rests_of spRests := by
  refine F_rests_of.ok sc_rests_of (fun vs H Q E h => ?_) (fun cdv A outer s H vs Q E hr h => ?_)
  · obtain ⟨u, l, rfl, _⟩ := h
    rfl
  obtain ⟨u, l, rfl, hl, hl2, q⟩ := h
  refine ⟨_, (pss_cons (ps_set (i := 2) sc_rests_of.nd rfl (Or.inl rfl) (pe_op op_mod (pv 0) (pv 1)))
      (pss_cons (ps_set (i := 3) sc_rests_of.nd rfl (Or.inl rfl) pe_dnewK)
      (pss_cons (ps_while PassesOwn.never (PW.pt (pw_and (pt_cmpR op_gt (pv 2) pe_int (nomark _)) (pw_and1 (pt_cmpR (op_notInD hr.units1) (pv 2) (pv 3) rfl)))) (pss_cons (ps_dput hr.units1 (pv 3) (pv 2) (pe_callB call_lenD rfl B.len_ L3.bt_len (pa_cons (pv 3) pa_nil)) rfl)
      (pss_one (ps_set (i := 2) sc_rests_of.nd rfl (Or.inl rfl) (pe_op op_mod (pe_op op_mul pe_int (pv 2)) (pv 1))))))
      (pss_cons (ps_set (i := 4) sc_rests_of.nd rfl (Or.inl rfl) (pe_callTy (call_tupleD rfl) rfl B.tuple_ L3.bt_tuple (pa_cons (pv 3) pa_nil)))
      (pss_cons (ps_set (i := 5) sc_rests_of.nd rfl (Or.inl rfl) (pe_dget2 hr.units1 (pv 3) (pv 2) (pe_callB call_len_seq rfl B.len_ L3.bt_len (pa_cons (pv 4) pa_nil)) ⟨rfl, rfl, rfl, rfl⟩))
      (pss_one (ps_ret (pe_tup (pa_cons (pe_slice3 (pv 4) po_none (po_some (pv 5)) po_none) (pa_cons (pe_slice3 (pv 4) (po_some (pv 5)) po_none po_none) pa_nil)))))))))), ?_⟩
  refine ⟨_, rfl, _, rfl, _, _, rfl, rfl, (by show (0 : Int) < (l : Int); omega), ?_⟩
  refine fun d fd' => ?_
  have yd := same_new fd' (.dK [])
  have wd : (upd H d (.dK [])) d = some (.dK (kvR l u 0)) := upd_same
  generalize upd H d (.dK []) = H1 at yd wd ⊢
  refine ⟨fun m σ' H' => ∃ n : Nat, m = ((List.range l).filter fun x => decide (x ∉ rsL l u n)).length ∧ n + m ≤ l ∧ σ' = [some (.int (u : Int)), some (.int (l : Int)), some (.int ((rst l u n : Nat) : Int)), some (.ref d), none, none] ∧ Same H H' ∧ H' d = some (.dK (kvR l u n)) ∧ (∀ k, k < n → 0 < rst l u k) ∧ (∀ i j, i < n → j < n → rst l u i = rst l u j → i = j),
    ⟨_, 0, rfl, ?_, ?_, yd, wd, fun k hk => by omega, fun i j hi => by omega⟩, ?_⟩
  · rw [Nat.zero_add]
    exact Nat.le_trans (List.length_filter_le _ _) (by rw [List.length_range]; exact Nat.le_refl _)
  · show _ = [_, _, some (V.int ((u % l : Nat) : Int)), _, _, _]
    rw [Int.natCast_emod]
    rfl
  rintro m σ' H2 ⟨n, hm, hnm, rfl, s2, hd2, hpos, hnd⟩
  refine rests_test hd2 ?_
  by_cases c : 0 < rst l u n ∧ ∀ k, k < n → rst l u k ≠ rst l u n
  · have hnone := kvR_none c.2
    rw [hnone, decide_eq_true c.1]
    refine iteT ⟨fun σ' H' => σ' = [some (.int (u : Int)), some (.int (l : Int)), some (.int ((rst l u (n + 1) : Nat) : Int)), some (.ref d), none, none] ∧ Same H H' ∧ H' d = some (.dK (kvR l u (n + 1))), fun σ' H' ⟨e1, s3, hd3⟩ => ?_, ?_⟩
    · have hlt : ((List.range l).filter fun x => decide (x ∉ rsL l u (n + 1))).length < m := by
        rw [hm]
        refine filt_lt (x := rst l u n) (fun y hy => ?_) (List.mem_range.mpr (rst_lt hl u n)) ?_ ?_
        · have hy' : y ∉ rsL l u (n + 1) := of_decide_eq_true hy
          exact decide_eq_true fun z => hy' (by rw [rsL_succ]; exact List.mem_append_left _ z)
        · refine decide_eq_true fun z => ?_
          obtain ⟨k, hk, e⟩ := rsL_mem.mp z
          exact c.2 k hk e
        · refine decide_eq_false fun z => z ?_
          rw [rsL_succ]
          exact List.mem_append_right _ (List.mem_singleton.mpr rfl)
      refine ⟨_, hlt, n + 1, rfl, by omega, e1, s3, hd3, fun k hk => ?_, fun i j hi hj e => ?_⟩
      · by_cases e : k = n
        · rw [e]; exact c.1
        · exact hpos k (by omega)
      · by_cases e1 : i = n
        · by_cases e2 : j = n
          · omega
          · rw [e1] at e
            exact absurd e.symm (c.2 j (by omega))
        · by_cases e2 : j = n
          · rw [e2] at e
            exact absurd e (c.2 i (by omega))
          · exact hnd i j (by omega) (by omega) e
    refine ⟨_, rfl, d, _, rfl, hd2, ?_⟩
    refine ⟨_, rfl, _, rfl, d, _, rfl, DPut.k (k := .inl ((rst l u n : Nat) : Int)) hd2 (smallL (by rw [kvR_len]; omega)), ?_⟩
    refine ⟨_, rfl, _, _, rfl, rfl, .inl ⟨by decide, by decide⟩, _, rfl, _, _, rfl, rfl, (by show (0 : Int) < (l : Int); omega), ?_, fun b o e => ?_, ?_⟩
    · show _ = [_, _, some (V.int ((2 * rst l u n % l : Nat) : Int)), _, _, _]
      rw [Int.natCast_emod, Int.natCast_mul]
      rfl
    · rw [upd_ne (ne_of_none e fd')]
      exact s2 _ _ e
    · rw [upd_same, putK_new _ hnone, kvR_succ, kvR_len]
  · obtain ⟨b, hRF, hget, hb⟩ : ∃ b, RF l u n b ∧ (valV (kvR l u n) (.inl ((rst l u n : Nat) : Int))).getD (.int (n : Int)) = .int (b : Int) ∧ (decide (0 < rst l u n) && !(valV (kvR l u n) (.inl ((rst l u n : Nat) : Int))).isSome) = false := by
      by_cases c0 : 0 < rst l u n
      · have : ∃ k, k < n ∧ rst l u k = rst l u n := Classical.byContradiction fun z => c ⟨c0, fun k hk e => z ⟨k, hk, e⟩⟩
        obtain ⟨k, hk, e⟩ := this
        have hs := kvR_some hnd hk
        rw [e] at hs
        refine ⟨k, ⟨hpos, hnd, by omega, by omega, .inr ⟨hk, e.symm⟩⟩, ?_, ?_⟩
        · rw [hs]; rfl
        · rw [hs]; simp
      · have h0 : rst l u n = 0 := by omega
        have hnone : valV (kvR l u n) (.inl ((rst l u n : Nat) : Int)) = none := kvR_none fun k hk e => by have := hpos k hk; omega
        refine ⟨n, ⟨hpos, hnd, Nat.le_refl _, by omega, .inl ⟨h0, rfl⟩⟩, ?_, ?_⟩
        · rw [hnone]; rfl
        · rw [decide_eq_false c0]; rfl
    rw [hb]
    refine iteF ⟨_, rfl, d, _, rfl, hd2, fun t ft => ?_⟩
    rw [kvR_keys]
    have yt := same_new ft (.tup (vnats (rsL l u n)))
    have wt : (upd H2 t (.tup (vnats (rsL l u n)))) t = some (.tup (vnats (rsL l u n))) := upd_same
    have hd3 := yt _ _ hd2
    generalize upd H2 t (.tup (vnats (rsL l u n))) = H3 at yt wt hd3 ⊢
    refine ⟨_, rfl, d, rfl, .inl ⟨_, .inl hd3⟩, _, rfl, _, rfl, t, _, rfl, .inr (SqT.of wt), _, DGet.k (k := .inl ((rst l u n : Nat) : Int)) hd3, ?_⟩
    rw [vnats_len, rsL_len, hget]
    refine ⟨_, rfl, _, rfl, _, rfl, sl_takeP (K := K) (m := b) rfl wt (by rw [vnats_len, rsL_len]; have := hRF.nl; omega) fun p1 H4 s4 h4 => ?_⟩
    refine ⟨_, rfl, _, rfl, _, rfl, sl_dropP (K := K) (m := b) rfl (s4 _ _ wt) (by rw [vnats_len, rsL_len]; exact hRF.le) (by rw [vnats_len, rsL_len]; have := hRF.nl; omega) fun p2 H5 s5 h5 => ?_⟩
    refine ⟨(by show 2 ≤ sizeLine; decide), fun pp fpp => ?_⟩
    have yp := same_new fpp (.tup [V.ref p1, V.ref p2])
    refine q pp p1 p2 n b _ (s2.trans (yt.trans (s4.trans (s5.trans yp)))) upd_same (yp _ _ (s5 _ _ ?_)) (yp _ _ ?_) hRF
    · rw [h4, vnats_take]
    · rw [h5, vnats_drop]
theorem ok_sum_by_halves (F_sum_by_halves : Fun K "sum_by_halves" "sum_by_halves" s_sum_by_halves f fd) (B : Bl mg) (g_number_in_twos : Fn P w K mg base "number_in_twos" p_number_in_twos 1 spNT) (g_fraction : Fn P w K mg base "fraction" p_fraction 2 spFrac) : FnOk P w K mg base CX0 3 f fd p_sum_by_halves spHalves := by
  refine F_sum_by_halves.ok sc_sum_by_halves (fun vs H Q E h => ?_) (fun cdv A outer s H vs Q E hr h => ?_)
  · obtain ⟨p1, p2, xs, ys, rfl, _⟩ := h
    rfl
  obtain ⟨p1, p2, xs, ys, rfl, h1, h2, hz, hx, hy, q⟩ := h
  refine ⟨_, (pss_cons (ps_set (i := 2) sc_sum_by_halves.nd rfl (Or.inl rfl) (pe_op op_shl pe_int (pe_callB call_len_seq rfl B.len_ L3.bt_len (pa_cons (pv 0) pa_nil))))
      (pss_cons (ps_set (i := 3) sc_sum_by_halves.nd rfl (Or.inl rfl) (pe_fn g_number_in_twos hr (pa_cons (pv 0) pa_nil)))
      (pss_cons (ps_if (pt_cmpR op_eq (pe_callB call_len_seq rfl B.len_ L3.bt_len (pa_cons (pv 1) pa_nil)) pe_int (nomark _)) (pss_one (ps_ret (pe_fn g_fraction hr (pa_cons (pv 3) (pa_cons (pv 2) pa_nil))))) pss_nil)
      (pss_cons (ps_set (i := 4) sc_sum_by_halves.nd rfl (Or.inl rfl) (pe_op op_sub (pe_op op_shl pe_int (pe_callB call_len_seq rfl B.len_ L3.bt_len (pa_cons (pv 1) pa_nil))) pe_int))
      (pss_one (ps_ret (pe_fn g_fraction hr (pa_cons (pe_op op_add (pe_op op_mulB (pv 3) (pv 4)) (pe_fn g_number_in_twos hr (pa_cons (pv 1) pa_nil))) (pa_cons (pe_op op_mulB (pv 2) (pv 4)) pa_nil))))))))), ?_⟩
  refine ⟨_, rfl, p1, _, rfl, .inr (SqT.of h1), _, _, rfl, rfl, ⟨by omega, by rw [vnats_len]; omega, by decide⟩, ?_⟩
  dsimp only
  rw [vnats_len, Int.toNat_natCast, Int.one_mul]
  have ep : ∀ n : Nat, ((2 : Int) ^ n) = ((2 ^ n : Nat) : Int) := fun n => by rw [Int.natCast_pow]; rfl
  rw [ep]
  refine ⟨_, rfl, p1, xs, rfl, h1, ?_⟩
  have fx : ∀ {c}, c ≤ 2 ^ xs.length → Fit c := fun {c} h => (fit_pow (n := xs.length) (c := 1) (by omega) (by decide)).le (by omega)
  have ax := nt_le hx
  have ay := nt_le hy
  refine ⟨_, rfl, p2, _, rfl, .inr (SqT.of h2), rfl, _, rfl, ?_⟩
  rw [vnats_len]
  by_cases c : ys = []
  · subst c
    rw [show decide (V.int ((([] : List Nat).length : Nat) : Int) = V.int 0) = true from rfl]
    refine iteT ⟨_, rfl, _, rfl, nt xs, 2 ^ xs.length, rfl, Nat.pow_pos (by decide), fx (Nat.le_refl _), q⟩
  · have hyl : 0 < ys.length := List.length_pos_iff.mpr c
    rw [show decide (V.int ((ys.length : Nat) : Int) = V.int 0) = false from decide_eq_false (fun z => by injection z with z; omega)]
    refine iteF ⟨_, rfl, p2, _, rfl, .inr (SqT.of h2), _, _, rfl, rfl, ⟨by omega, by rw [vnats_len]; omega, by decide⟩, _, _, rfl, rfl, ?_⟩
    dsimp only
    rw [vnats_len, Int.toNat_natCast, Int.one_mul, ep]
    have hy2 := two_pow_sub hyl
    have e1 : ((2 ^ ys.length : Nat) : Int) - 1 = ((2 ^ ys.length - 1 : Nat) : Int) := by omega
    rw [e1]
    have fy : Fit (2 ^ ys.length - 1) := (fit_pow (n := ys.length) (c := 1) (by omega) (by decide)).le (by omega)
    have fnx : Fit (nt xs) := (fit_pow (n := xs.length) (c := 10000) (by omega) (by decide)).le (by omega)
    refine ⟨_, rfl, _, rfl, _, _, rfl, rfl, ⟨fnx, fy⟩, _, rfl, p2, ys, rfl, h2, _, _, rfl, rfl, _, rfl, _, rfl, _, _, rfl, rfl, ⟨fx (Nat.le_refl _), fy⟩, ?_⟩
    refine ⟨nt xs * (2 ^ ys.length - 1) + nt ys, 2 ^ xs.length * (2 ^ ys.length - 1), by rw [Int.natCast_add, Int.natCast_mul, Int.natCast_mul]; rfl, Nat.mul_pos (Nat.pow_pos (by decide)) hy2, ?_, ?_⟩
    · refine (fit_pow (n := xs.length + ys.length) (c := 1) (by omega) (by decide)).le ?_
      rw [Nat.one_mul, Nat.pow_add]
      exact Nat.mul_le_mul_left _ (Nat.sub_le _ _)
    · unfold hvU hvL at q
      rw [if_neg c, if_neg c] at q
      exact q
end
theorem fr_cross (a d : Nat) : frU a d * d = a * frL a d := by
  have h1 := frU_mul a d
  have h2 := frL_mul a d
  calc frU a d * d = frU a d * (frL a d * Nat.gcd a d) := by rw [h2]
    _ = (frU a d * Nat.gcd a d) * frL a d := by rw [Nat.mul_assoc, Nat.mul_comm (Nat.gcd a d)]
    _ = a * frL a d := by rw [h1]
theorem frV_scale {a b c d : Nat} (hb : 0 < b) (hc : 0 < c) (hd : 0 < d) : frV (c * frU a b) (d * frL a b) = frV (c * a) (d * b) := by
  refine frV_eq (Nat.mul_pos hd (frL_pos hb)) (Nat.mul_pos hd hb) ?_
  have e1 := fr_cross a b
  have : c * frU a b * (d * b) = c * d * (frU a b * b) := by grind
  rw [this, e1]
  grind
theorem RF.zero {l u n b : Nat} (hl : 0 < l) (h : RF l u n b) : RF l (rst l u 0) n b := by
  have sh : ∀ k, rst l (rst l u 0) k = rst l u k := fun k => by rw [rst_add hl, Nat.zero_add]
  refine ⟨fun k hk => by rw [sh]; exact h.pos k hk, fun i j hi hj e => h.nd i j hi hj (by rw [sh, sh] at e; exact e), h.le, h.nl, ?_⟩
  rw [sh, sh]
  exact h.fin
theorem RF.step {l u n b : Nat} (hl : 0 < l) (h : RF l u n b) : ∃ n' b', RF l (rst l u 1) n' b' := by
  by_cases hn : 0 < n
  · rcases h.next hl hn with ⟨_, z⟩ | ⟨_, z⟩
    · exact ⟨_, _, z⟩
    · exact ⟨_, _, z⟩
  · have hn0 : n = 0 := by omega
    subst hn0
    have h0 : rst l u 0 = 0 := by
      rcases h.fin with ⟨h0, _⟩ | ⟨hb, _⟩
      · exact h0
      · omega
    refine ⟨0, 0, fun k hk => by omega, fun i j hi => by omega, Nat.le_refl _, Nat.zero_le _, .inl ⟨?_, rfl⟩⟩
    rw [rst_add hl]
    show 2 * rst l u 0 % l = 0
    rw [h0]
    exact Nat.zero_mod _
noncomputable def spDepth : Sp := fun vs H Q _ => ∃ u l : Nat, vs = [.int (u : Int), .int (l : Int)] ∧ 0 < l ∧ l ≤ 5000 ∧ ∀ p n b H', Same H H' → RF l u n b → H' p = some (.tup (frV (2 * hU l u n b) (l * hL l u n b))) → Q (.ref p) H'
theorem fit_half {l u n b : Nat} (hl : 0 < l) (hl2 : l ≤ 5000) (h : RF l u n b) : Fit (hU l u n b) ∧ Fit (hL l u n b) ∧ Fit (l * hL l u n b) := by
  have h1 : hL l u n b ≤ 2 ^ n := hL_le
  have h2 := half_le (l := l) (u := u) (n := n) (b := b) hl
  have hn := h.nl
  have h3 : l * hL l u n b ≤ l * 2 ^ n := Nat.mul_le_mul_left _ h1
  have f := fit_pow (n := n) (c := l) (by omega) (by omega)
  exact ⟨f.le (by omega), (fit_pow (n := n) (c := 1) (by omega) (by decide)).le (by omega), f.le h3⟩
section
variable {P : Program} {w : World} {K : PySem.W.Frag} {mg : Str → Option Value} {base : Heap} {f : Addr} {fd : FuncData}
theorem ok_depth_sum (F_depth_sum : Fun K "depth_sum" "depth_sum" s_depth_sum f fd) (g_rests_of : Fn P w K mg base "rests_of" p_rests_of 1 spRests) (g_sum_by_halves : Fn P w K mg base "sum_by_halves" p_sum_by_halves 3 spHalves) (g_fraction : Fn P w K mg base "fraction" p_fraction 2 spFrac) : FnOk P w K mg base CX0 4 f fd p_depth_sum spDepth := by
  refine F_depth_sum.ok sc_depth_sum (fun vs H Q E h => ?_) (fun cdv A outer s H vs Q E hr h => ?_)
  · obtain ⟨u, l, rfl, _⟩ := h
    rfl
  obtain ⟨u, l, rfl, hl, hl2, q⟩ := h
  refine ⟨_, (pss_cons (ps_set (i := 2) sc_depth_sum.nd rfl (Or.inl rfl) (pe_fn g_rests_of hr (pa_cons (pv 0) (pa_cons (pv 1) pa_nil))))
      (pss_cons (ps_set (i := 3) sc_depth_sum.nd rfl (Or.inl rfl) (pe_fn g_sum_by_halves hr (pa_cons (pe_ix ix_tup (pv 2) pe_int (fun _ _ => rfl)) (pa_cons (pe_ix ix_tup (pv 2) pe_int (fun _ _ => rfl)) pa_nil))))
      (pss_one (ps_ret (pe_fn g_fraction hr (pa_cons (pe_op op_mulB pe_int (pe_ix ix_tup (pv 3) pe_int (fun _ _ => rfl))) (pa_cons (pe_op op_mulB (pv 1) (pe_ix ix_tup (pv 3) pe_int (fun _ _ => rfl))) pa_nil))))))), ?_⟩
  refine ⟨_, rfl, _, rfl, u, l, rfl, hl, by omega, fun pp p1 p2 n b H1 s1 hpp hp1 hp2 hRF => ?_⟩
  have hnl := hRF.nl
  refine ⟨_, rfl, pp, _, _, _, rfl, rfl, SqT.of hpp, rfl, _, rfl, pp, _, _, _, rfl, rfl, SqT.of hpp, rfl, p1, p2, _, _, rfl, hp1, hp2, ?_, ?_, ?_, fun ph H2 s2 hph => ?_⟩
  · rw [List.length_take, List.length_drop, rsL_len]; omega
  · exact fun x hx => Nat.le_trans (rsL_le hl x (List.mem_of_mem_take hx)) (by omega)
  · exact fun x hx => Nat.le_trans (rsL_le hl x (List.mem_of_mem_drop hx)) (by omega)
  obtain ⟨f1, f2, f3⟩ := fit_half hl hl2 hRF
  have hM := hL_pos l u n b
  replace hph : H2 ph = some (.tup [.int (frU (hU l u n b) (hL l u n b) : Int), .int (frL (hU l u n b) (hL l u n b) : Int)]) := hph
  have g1 : Fit (frU (hU l u n b) (hL l u n b)) := f1.le (frU_le _ _)
  have g2 : Fit (frL (hU l u n b) (hL l u n b)) := f2.le (frL_le _ _)
  refine ⟨_, rfl, ph, _, _, _, rfl, rfl, SqT.of hph, rfl, _, _, rfl, rfl, ⟨.of (by decide), g1⟩, _, rfl, _, rfl, ph, _, _, _, rfl, rfl, SqT.of hph, rfl, _, _, rfl, rfl, ⟨.of (by show l < _; omega), g2⟩, ?_⟩
  refine ⟨2 * frU (hU l u n b) (hL l u n b), l * frL (hU l u n b) (hL l u n b), by rw [Int.natCast_mul, Int.natCast_mul]; rfl, Nat.mul_pos hl (frL_pos hM), f3.le (Nat.mul_le_mul_left _ (frL_le _ _)), fun p H3 s3 hp => ?_⟩
  rw [frV_scale hM (by decide) hl] at hp
  exact q p n b H3 (s1.trans (s2.trans s3)) hRF hp
end
noncomputable def spSizes : Sp := fun vs H Q _ => ∃ l : Nat, vs = [.int (l : Int)] ∧ 0 < l ∧ l ≤ 10000 ∧ ∀ pp p1 p2 n b H', Same H H' → H' pp = some (.tup [.ref p1, .ref p2]) → H' p1 = some (.tup (vnats ((rsL l 1 n).take b))) → H' p2 = some (.tup (vnats ((rsL l 1 n).drop b))) → RF l 1 n b → Q (.ref pp) H'
noncomputable def spMeanE : Sp := fun vs H Q _ => ∃ m : Nat, vs = [.int (m : Int)] ∧ 0 < m ∧ m ≤ 5000 ∧ ∀ p n b H', Same H H' → RF m 1 n b → H' p = some (.tup (frV (2 * hU m 1 n b) (hL m 1 n b))) → Q (.ref p) H'
theorem fit_mean {m n b : Nat} (hm : 0 < m) (hm2 : m ≤ 5000) (h : RF m 1 n b) : Fit (hU m 1 n b) ∧ Fit (hL m 1 n b) ∧ Fit (2 * hU m 1 n b) := by
  have h1 : hL m 1 n b ≤ 2 ^ n := hL_le
  have h2 := half_le (l := m) (u := 1) (n := n) (b := b) hm
  have hn := h.nl
  have h3 : m * hL m 1 n b ≤ m * 2 ^ n := Nat.mul_le_mul_left _ h1
  have h4 : 2 * m * 2 ^ n = 2 * (m * 2 ^ n) := Nat.mul_assoc _ _ _
  have f := fit_pow (n := n) (c := 2 * m) (by omega) (by omega)
  exact ⟨f.le (by omega), (fit_pow (n := n) (c := 1) (by omega) (by decide)).le (by omega), f.le (by omega)⟩
theorem flat_nats (l : List Nat) : (vnats l).all flatV = true := by
  rw [List.all_eq_true]
  intro x hx
  obtain ⟨n, _, rfl⟩ := List.mem_map.mp hx
  rfl
theorem inV_nats (x : Nat) (l : List Nat) : inV (.int (x : Int)) (vnats l) = decide (x ∈ l) := by
  unfold inV vnats
  rw [List.any_map]
  by_cases c : x ∈ l
  · rw [decide_eq_true c, List.any_eq_true]
    exact ⟨x, c, by show ((x : Int) == (x : Int)) = true; simp⟩
  · rw [decide_eq_false c, List.any_eq_false]
    intro y hy e
    have e' : ((y : Int) == (x : Int)) = true := e
    have : y = x := by have e2 : (y : Int) = (x : Int) := by simpa using e'
                       omega
    exact c (by rw [← this]; exact hy)
section
variable {P : Program} {w : World} {K : PySem.W.Frag} {mg : Str → Option Value} {base : Heap} {f : Addr} {fd : FuncData}
theorem ok_sizes_of (F_sizes_of : Fun K "sizes_of" "sizes_of" s_sizes_of f fd) (g_rests_of : Fn P w K mg base "rests_of" p_rests_of 1 spRests) : FnOk P w K mg base CX0 2 f fd p_sizes_of spSizes := by
  refine F_sizes_of.ok sc_sizes_of (fun vs H Q E h => ?_) (fun cdv A outer s H vs Q E hr h => ?_)
  · obtain ⟨l, rfl, _⟩ := h
    rfl
  obtain ⟨l, rfl, hl, hl2, q⟩ := h
  refine ⟨_, (pss_one (ps_ret (pe_fn g_rests_of hr (pa_cons pe_int (pa_cons (pv 0) pa_nil))))), ?_⟩
  exact ⟨_, rfl, 1, l, rfl, hl, hl2, q⟩
theorem ok_mean_even (F_mean_even : Fun K "mean_even" "mean_even" s_mean_even f fd) (g_sizes_of : Fn P w K mg base "sizes_of" p_sizes_of 2 spSizes) (g_sum_by_halves : Fn P w K mg base "sum_by_halves" p_sum_by_halves 3 spHalves) (g_fraction : Fn P w K mg base "fraction" p_fraction 2 spFrac) : FnOk P w K mg base CX0 4 f fd p_mean_even spMeanE := by
  refine F_mean_even.ok sc_mean_even (fun vs H Q E h => ?_) (fun cdv A outer s H vs Q E hr h => ?_)
  · obtain ⟨m, rfl, _⟩ := h
    rfl
  obtain ⟨m, rfl, hm, hm2, q⟩ := h
  refine ⟨_, (pss_cons (ps_set (i := 1) sc_mean_even.nd rfl (Or.inl rfl) (pe_fn g_sizes_of hr (pa_cons (pv 0) pa_nil)))
      (pss_cons (ps_set (i := 2) sc_mean_even.nd rfl (Or.inl rfl) (pe_fn g_sum_by_halves hr (pa_cons (pe_ix ix_tup (pv 1) pe_int (fun _ _ => rfl)) (pa_cons (pe_ix ix_tup (pv 1) pe_int (fun _ _ => rfl)) pa_nil))))
      (pss_one (ps_ret (pe_fn g_fraction hr (pa_cons (pe_op op_mulB pe_int (pe_ix ix_tup (pv 2) pe_int (fun _ _ => rfl))) (pa_cons (pe_ix ix_tup (pv 2) pe_int (fun _ _ => rfl)) pa_nil))))))), ?_⟩
  refine ⟨_, rfl, m, rfl, hm, by omega, fun pp p1 p2 n b H1 s1 hpp hp1 hp2 hRF => ?_⟩
  have hnl := hRF.nl
  refine ⟨_, rfl, pp, _, _, _, rfl, rfl, SqT.of hpp, rfl, _, rfl, pp, _, _, _, rfl, rfl, SqT.of hpp, rfl, p1, p2, _, _, rfl, hp1, hp2, ?_, ?_, ?_, fun ph H2 s2 hph => ?_⟩
  · rw [List.length_take, List.length_drop, rsL_len]; omega
  · exact fun x hx => Nat.le_trans (rsL_le hm x (List.mem_of_mem_take hx)) (by omega)
  · exact fun x hx => Nat.le_trans (rsL_le hm x (List.mem_of_mem_drop hx)) (by omega)
  obtain ⟨f1, f2, f3⟩ := fit_mean hm hm2 hRF
  have hM := hL_pos m 1 n b
  replace hph : H2 ph = some (.tup [.int (frU (hU m 1 n b) (hL m 1 n b) : Int), .int (frL (hU m 1 n b) (hL m 1 n b) : Int)]) := hph
  refine ⟨_, rfl, ph, _, _, _, rfl, rfl, SqT.of hph, rfl, _, _, rfl, rfl, ⟨.of (by decide), f1.le (frU_le _ _)⟩, _, rfl, ph, _, _, _, rfl, rfl, SqT.of hph, rfl, ?_⟩
  refine ⟨2 * frU (hU m 1 n b) (hL m 1 n b), frL (hU m 1 n b) (hL m 1 n b), by rw [Int.natCast_mul]; rfl, frL_pos hM, f2.le (frL_le _ _), fun p H3 s3 hp => ?_⟩
  have e := frV_scale (a := hU m 1 n b) (b := hL m 1 n b) (c := 2) (d := 1) hM (by decide) (by decide)
  rw [Nat.one_mul, Nat.one_mul] at e
  rw [e] at hp
  exact q p n b H3 (s1.trans (s2.trans s3)) hRF hp
end
theorem grow_none {t : Addr} {H H' : Hp} {c : Addr} (g : Grow t H H') (hc : c ≠ t) (h : H' c = none) : H c = none := by
  cases e : H c with
  | none => rfl
  | some o => have := g _ _ hc e; rw [h] at this; cases this
theorem sum_zero : ∀ {l : List Nat}, l.sum = 0 → ∀ w ∈ l, w = 0
  | [], _, w, hw => by cases hw
  | a :: l, h, w, hw => by
    rw [List.sum_cons] at h
    rcases List.mem_cons.mp hw with rfl | hw
    · omega
    · exact sum_zero (by omega) w hw
theorem le_sum : ∀ {l : List Nat} {w : Nat}, w ∈ l → w ≤ l.sum
  | a :: l, w, hw => by
    rw [List.sum_cons]
    rcases List.mem_cons.mp hw with rfl | hw
    · omega
    · have := le_sum hw
      omega
noncomputable def spWts (K : PySem.W.Frag) : Sp := fun vs H Q _ => ∃ (a t : Addr) (ns : List Int) (k : Nat), vs = [.ref a, .ref t] ∧ Scr K H a ns ∧ ns.length ≤ 63 ∧ Twn H t k ∧ k ≤ 700000 ∧
  ∀ p ws k' H', Grow t H H' → Twn H' t k' → k' ≤ k + 11 → H' p = some (.tup (vnats ws)) → 0 < ws.length → ws.length ≤ 7 → 0 < ws.sum → (∀ x ∈ ws, x ≤ 400) → Q (.ref p) H'
section
variable {P : Program} {w : World} {K : PySem.W.Frag} {mg : Str → Option Value} {base : Heap} {f : Addr} {fd : FuncData}
theorem ok__law_weights (F__law_weights : Fun K "_law_weights" "_law_weights" s__law_weights f fd) (B : Bl mg) (g__law_draw : Fn P w K mg base "_law_draw" p__law_draw 1 (spDraw K)) (g__law_one : Fn P w K mg base "_law_one" p__law_one 2 (spOne K)) : FnOk P w K mg base CX0 3 f fd p__law_weights (spWts K) := by
  refine F__law_weights.ok sc__law_weights (fun vs H Q E h => ?_) (fun cdv A outer s H vs Q E hr h => ?_)
  · obtain ⟨a, t, ns, k, rfl, _⟩ := h
    rfl
  obtain ⟨a, t, ns, k, rfl, hS, h63, hT, hk, q⟩ := h
  refine ⟨_, (pss_cons (ps_set (i := 2) sc__law_weights.nd rfl (Or.inr rfl) (pe_fn g__law_one hr (PB.go (pb_cons (pv 0) (pb_cons (pv 1) (pb_cons (pe_lst (pa_cons pe_int (pa_cons pe_int (pa_cons pe_int (pa_cons pe_int pa_nil))))) pb_nil se_List) se_Name) se_Name))))
      (pss_cons (ps_comp 3 [] ["_law_script", "_law_town", "_law_top", "_law_weights_here", "_law_k"] 1 rfl sc__law_weights.nd rfl rfl (pi_range1 rfl B.range_ (pa_cons (pe_op op_add pe_int (pe_fn g__law_draw hr (pa_cons (pv 0) (pa_cons (pv 1) (pa_cons pe_int pa_nil))))) pa_nil)) (fun _ _ _ _ _ => (pg_name (i := 4) nd_2 rfl (Or.inl rfl) (Or.inr rfl))) (fun _ _ _ _ _ => pif_nil) (fun _ _ _ _ _ => (pe_fn g__law_draw hr (pa_cons (pv 0) (pa_cons (pv 1) (pa_cons (pv 2) pa_nil))))))
      (pss_cons (ps_join (ps_if (pt_cmpR op_eq (pe_callB (call_sumL rfl) rfl B.sum_ L3.bt_sum (pa_cons (pv 3) pa_nil)) pe_int (nomark _)) (pss_one (ps_asg (pe_op op_add pe_int (pe_fn g__law_draw hr (pa_cons (pv 0) (pa_cons (pv 1) (pa_cons pe_int pa_nil))))) (pg_sub (pv 3) (pe_fn g__law_draw hr (pa_cons (pv 0) (pa_cons (pv 1) (pa_cons (pe_callB call_len_seq rfl B.len_ L3.bt_len (pa_cons (pv 3) pa_nil)) pa_nil)))) set_list))) pss_nil))
      (pss_one (ps_ret (pe_callTy call_tuple_of rfl B.tuple_ L3.bt_tuple (pa_cons (pv 3) pa_nil))))))), ?_⟩
  refine ⟨_, rfl, _, rfl, (by show 4 ≤ sizeLine; decide), fun l fl => ?_⟩
  have yl := same_new fl (.lst [V.int 2, V.int 5, V.int 16, V.int 400])
  have wl : (upd H l (.lst [V.int 2, V.int 5, V.int 16, V.int 400])) l = some (.lst [V.int 2, V.int 5, V.int 16, V.int 400]) := upd_same
  generalize upd H l (.lst [V.int 2, V.int 5, V.int 16, V.int 400]) = G1 at yl wl ⊢
  have t1 := yl.twn hT
  have hS1 := yl.scr hS
  refine ⟨a, t, l, ns, k, _, rfl, hS1, h63, t1, by omega, wl, twn_new hT fl, (by show 0 < 4; decide), (by show 4 ≤ 1000; decide), fun jj v H3 _ hv g3 t3 => ?_⟩
  obtain ⟨m0, rfl, hm0, hm1⟩ : ∃ m0 : Int, v = .int m0 ∧ 0 < m0 ∧ m0 ≤ 400 := by
    match jj, hv with
    | 0, hv => exact ⟨2, (Option.some.inj hv).symm, by decide, by decide⟩
    | 1, hv => exact ⟨5, (Option.some.inj hv).symm, by decide, by decide⟩
    | 2, hv => exact ⟨16, (Option.some.inj hv).symm, by decide, by decide⟩
    | 3, hv => exact ⟨400, (Option.some.inj hv).symm, by decide, by decide⟩
  have hS3 := g3.scr t1 hS1
  have G03 : Grow t H H3 := (Grow.same yl).trans g3
  clear yl wl t1 hS1 g3
  refine ⟨_, rfl, _, rfl, a, t, ns, k + 1, 7, rfl, hS3, h63, t3, by omega, by decide, fun H4 g4 t4 => ⟨_, _, rfl, rfl, ?_⟩⟩
  have d0 := drw_nn ns (k + 1 + 1) (show (0 : Int) < 7 by decide)
  have d1 := drw_lt ns (k + 1 + 1) (show (0 : Int) < 7 by decide)
  generalize drw ns (k + 1 + 1) 7 = dd at d0 d1
  obtain ⟨d, rfl⟩ := nat_of d0
  have en : ((1 : Int) + (d : Int)) = ((1 + d : Nat) : Int) := by omega
  dsimp only
  rw [en]
  refine ⟨_, rfl, lo62 _, hi62 (by omega), ?_⟩
  rw [Int.toNat_natCast]
  have hS4 := g4.scr t3 hS3
  have G04 := G03.trans g4
  refine ⟨fun i2 mm acc σ' H' => mm = 1 + d - i2 ∧ i2 ≤ 1 + d ∧ Grow t H4 H' ∧ Scr K H' a ns ∧ Twn H' t (k + 1 + 1 + i2) ∧ (∃ ws : List Nat, acc = vnats ws ∧ ws.length = i2 ∧ ∀ x ∈ ws, x ≤ 400) ∧ ∃ o4 : Option V, σ' = [some (.ref a), some (.ref t), some (.int m0), none, o4],
    ⟨1 + d, rfl, Nat.zero_le _, Grow.refl _ _, hS4, t4, ⟨[], rfl, rfl, fun x hx => by cases hx⟩, _, rfl⟩, ?_⟩
  rintro i2 mm acc σ' H5 ⟨rfl, hi2, g5, hS5, t5, ⟨ws, rfl, hwl, hw4⟩, o4, rfl⟩
  by_cases hli : i2 < 1 + d
  · refine .inr ⟨hli, smallL (by rw [vnats_len]; omega), fun acc' σ2 H' => Grow t H4 H' ∧ Scr K H' a ns ∧ Twn H' t (k + 1 + 1 + (i2 + 1)) ∧ (∃ ws : List Nat, acc' = vnats ws ∧ ws.length = i2 + 1 ∧ ∀ x ∈ ws, x ≤ 400) ∧ ∃ o4 : Option V, σ2 = [some (.ref a), some (.ref t), some (.int m0), none, o4], ?_, ?_⟩
    · rintro acc' σ2 H' ⟨z1, z2, z3, z4, z5⟩
      exact ⟨1 + d - (i2 + 1), by omega, rfl, hli, z1, z2, z3, z4, z5⟩
    · rintro v H' ⟨rfl, rfl⟩
      refine ⟨_, rfl, _, rfl, _, rfl, a, t, ns, _, m0, rfl, hS5, h63, t5, by omega, hm0, fun H6 g6 t6 => ?_⟩
      have e0 := drw_nn ns (k + 1 + 1 + i2 + 1) hm0
      have e1 := drw_lt ns (k + 1 + 1 + i2 + 1) hm0
      generalize drw ns (k + 1 + 1 + i2 + 1) m0 = ee at e0 e1
      obtain ⟨e, rfl⟩ := nat_of e0
      refine ⟨g5.trans g6, g6.scr t5 hS5, t6, ⟨ws ++ [e], by rw [vnats_app]; rfl, by rw [List.length_append, hwl]; rfl, fun x hx => ?_⟩, _, rfl⟩
      rcases List.mem_append.mp hx with hx | hx
      · exact hw4 x hx
      · have : x = e := by simpa using hx
        omega
  have ei : i2 = 1 + d := by omega
  subst ei
  refine .inl ⟨Nat.le_refl _, small (by rw [vnats_len]; omega), fun D fD => ?_⟩
  have nD : D ≠ t := twn_new t5 fD
  have G05 := G04.trans g5
  have fD0 := grow_none G05 nD fD
  have yD := same_new fD (.lst (vnats ws))
  have wD : (upd H5 D (.lst (vnats ws))) D = some (.lst (vnats ws)) := upd_same
  generalize upd H5 D (.lst (vnats ws)) = H6 at yD wD ⊢
  have G06 := G05.trans (.same yD)
  have t6 := yD.twn t5
  have hS6 := yD.scr hS5
  clear hS hS3 hS4 hS5 t3 t4 t5 g4 g5 G03 G04 yD fD hT
  refine ⟨fun σ' H' => ∃ (ws : List Nat) (k' : Nat), σ' = [some (.ref a), some (.ref t), some (.int m0), some (.ref D)] ∧ Grow t H H' ∧ Twn H' t k' ∧ k' ≤ k + 11 ∧ H' D = some (.lst (vnats ws)) ∧ 0 < ws.length ∧ ws.length ≤ 7 ∧ 0 < ws.sum ∧ ∀ x ∈ ws, x ≤ 400, ?_, ?_⟩
  · rintro σ' H7 ⟨ws, k', rfl, g7, t7, hk7, hD7, h1, h2, h3, h4⟩
    exact ⟨_, rfl, D, _, rfl, .inl ⟨SqL.of hD7, fun t' ft => q t' ws k' _ (g7.trans (.same (same_new ft _))) ((same_new ft _).twn t7) hk7 upd_same h1 h2 h3 h4⟩⟩
  have hDi : SqL K H6 D ((ws.map fun (n : Nat) => (n : Int)).map V.int) := by rw [← vnats_ints]; exact SqL.of wD
  refine ⟨_, rfl, D, _, rfl, hDi, rfl, _, rfl, ?_⟩
  rw [sum_nats]
  by_cases c : ws.sum = 0
  · rw [show decide (V.int ((ws.sum : Nat) : Int) = V.int 0) = true from decide_eq_true (by rw [c]; rfl)]
    refine iteT ⟨_, rfl, _, rfl, a, t, ns, _, 5, rfl, hS6, h63, t6, by omega, by decide, fun H7 g7 t7 => ⟨_, _, rfl, rfl, ?_⟩⟩
    have e0 := drw_nn ns (k + 1 + 1 + (1 + d) + 1) (show (0 : Int) < 5 by decide)
    have e1 := drw_lt ns (k + 1 + 1 + (1 + d) + 1) (show (0 : Int) < 5 by decide)
    generalize drw ns (k + 1 + 1 + (1 + d) + 1) 5 = ee at e0 e1
    obtain ⟨e, rfl⟩ := nat_of e0
    have hD7 := g7 _ _ nD wD
    refine ⟨_, rfl, _, rfl, _, rfl, _, rfl, D, _, rfl, .inl (SqL.of hD7), a, t, ns, _, _, rfl, g7.scr t6 hS6, h63, t7, by omega, by rw [vnats_len]; omega, fun H8 g8 t8 => ?_⟩
    have hw0 : (0 : Int) < (((vnats ws).length : Nat) : Int) := by rw [vnats_len]; omega
    have j0 := drw_nn ns (k + 1 + 1 + (1 + d) + 1 + 1) hw0
    have j1 := drw_lt ns (k + 1 + 1 + (1 + d) + 1 + 1) hw0
    generalize drw ns (k + 1 + 1 + (1 + d) + 1 + 1) (((vnats ws).length : Nat) : Int) = jj at j0 j1
    obtain ⟨j, rfl⟩ := nat_of j0
    rw [vnats_len] at j1
    have hj : j < ws.length := by omega
    have hD8 := g8 _ _ nD hD7
    refine ⟨D, _, _, j, rfl, rfl, hD8, ixN_nat (by rw [vnats_len]; exact hj), ?_⟩
    have ev : ((1 : Int) + (e : Int)) = ((1 + e : Nat) : Int) := by omega
    dsimp only
    rw [ev, vnats_set]
    refine ⟨ws.set j (1 + e), k + 1 + 1 + (1 + d) + 1 + 1, rfl, fun c' o hc e' => ?_, ?_, by omega, upd_same, by rw [List.length_set]; omega, by rw [List.length_set]; omega, ?_, fun x hx => ?_⟩
    · rw [upd_ne (fun z => by rw [z, fD0] at e'; cases e')]
      exact ((G06.trans g7).trans g8) _ _ hc e'
    · show upd H8 D _ t = _
      rw [upd_ne (Ne.symm nD)]
      exact t8
    · have : 1 + e ∈ ws.set j (1 + e) := List.mem_set hj _
      have := le_sum this
      omega
    · rcases List.mem_or_eq_of_mem_set hx with y | y
      · exact hw4 x y
      · omega
  · rw [show decide (V.int ((ws.sum : Nat) : Int) = V.int 0) = false from decide_eq_false (fun z => c (by injection z with z; omega))]
    exact iteF ⟨ws, _, rfl, G06, t6, by omega, wD, by omega, by omega, by omega, hw4⟩
end
inductive Pn where
  | num (n : Nat)
  | again
  | ask (l r : Pn)
noncomputable def Pn.has : Pn → Bool
  | .num _ => true
  | .again => false
  | .ask l r => l.has || r.has
noncomputable def Pn.dp : Pn → Nat
  | .num _ => 0
  | .again => 0
  | .ask l r => max l.dp r.dp + 1
noncomputable def ends : Pn → Nat → List (Option Nat × Nat)
  | .num n, d => [(some n, d)]
  | .again, d => [(none, d)]
  | .ask l r, d => ends l (d + 1) ++ ends r (d + 1)
theorem has_ends : ∀ (p : Pn) (d : Nat), (ends p d).any (fun e => e.1.isSome) = p.has
  | .num _, _ => rfl
  | .again, _ => rfl
  | .ask l r, d => by rw [ends, List.any_append, has_ends l, has_ends r, Pn.has]
theorem ends_deep : ∀ (p : Pn) (d : Nat), ∀ e ∈ ends p d, d ≤ e.2 ∧ e.2 ≤ d + p.dp
  | .num m, d, e, h => by
    have : e = (some m, d) := by simpa [ends] using h
    rw [this]; exact ⟨Nat.le_refl _, Nat.le_add_right _ _⟩
  | .again, d, e, h => by
    have : e = (none, d) := by simpa [ends] using h
    rw [this]; exact ⟨Nat.le_refl _, Nat.le_add_right _ _⟩
  | .ask l r, d, e, h => by
    rw [Pn.dp]
    rcases List.mem_append.mp h with h | h
    · have := ends_deep l (d + 1) e h
      omega
    · have := ends_deep r (d + 1) e h
      omega
theorem ends_len : ∀ (p : Pn) (d : Nat), (ends p d).length ≤ 2 ^ p.dp
  | .num _, _ => Nat.le_refl _
  | .again, _ => Nat.le_refl _
  | .ask l r, d => by
    rw [ends, List.length_append, Pn.dp, Nat.pow_succ]
    have h1 := ends_len l (d + 1)
    have h2 := ends_len r (d + 1)
    have h3 : 2 ^ l.dp ≤ 2 ^ max l.dp r.dp := Nat.pow_le_pow_right (by decide) (Nat.le_max_left _ _)
    have h4 : 2 ^ r.dp ≤ 2 ^ max l.dp r.dp := Nat.pow_le_pow_right (by decide) (Nat.le_max_right _ _)
    omega
noncomputable def leafP (o : Option Nat) : Pn := o.elim .again .num
noncomputable def figO (es : List (Option Nat × Nat)) (p : Nat) : List (Option Nat) := (es.filter fun e => decide (e.2 / 2 ^ p % 2 = 1)).map (·.1)
noncomputable def asks : List Pn → List Pn
  | a :: b :: l => .ask a b :: asks l
  | _ => []
noncomputable def parts (es : List (Option Nat × Nat)) : Nat → List Pn
  | 0 => []
  | k + 1 => (figO es k).map leafP ++ asks (parts es k)
theorem asks_len : ∀ l : List Pn, (asks l).length = l.length / 2
  | [] => rfl
  | [_] => by simp [asks]
  | a :: b :: l => by rw [asks, List.length_cons, List.length_cons, List.length_cons, asks_len l]; omega
noncomputable def asksTo (l : List Pn) (i : Nat) : List Pn := asks (l.take (2 * i))
theorem asks_app : ∀ (l m : List Pn), l.length % 2 = 0 → asks (l ++ m) = asks l ++ asks m
  | [], m, _ => rfl
  | [_], m, h => by simp at h
  | a :: b :: l, m, h => by
    have : l.length % 2 = 0 := by simp at h; omega
    show Pn.ask a b :: asks (l ++ m) = Pn.ask a b :: (asks l ++ asks m)
    rw [asks_app l m this]
theorem asksTo_succ {l : List Pn} {i : Nat} {a b : Pn} (h : l[2 * i]? = some a) (h' : l[2 * i + 1]? = some b) : asksTo l (i + 1) = asksTo l i ++ [.ask a b] := by
  have hl : 2 * i + 1 < l.length := (List.getElem?_eq_some_iff.mp h').1
  unfold asksTo
  rw [show 2 * (i + 1) = 2 * i + 1 + 1 by omega, List.take_add_one, List.take_add_one, h, h', List.append_assoc, asks_app _ _ (by rw [List.length_take]; omega)]
  rfl
theorem asksTo_all {l : List Pn} (h : l.length % 2 = 0) : asksTo l (l.length / 2) = asks l := by
  unfold asksTo
  rw [List.take_of_length_le (by omega)]
noncomputable def low (es : List (Option Nat × Nat)) (k : Nat) : Nat := (es.map fun e => e.2 % 2 ^ k).sum
noncomputable def tot (es : List (Option Nat × Nat)) : Nat := (es.map fun e => e.2).sum
theorem low_zero (es : List (Option Nat × Nat)) : low es 0 = 0 := by
  induction es with
  | nil => rfl
  | cons e l ih => unfold low at ih ⊢; rw [List.map_cons, List.sum_cons, ih, Nat.pow_zero, Nat.mod_one]
theorem mod_two_pow (x k : Nat) : x % 2 ^ (k + 1) = x % 2 ^ k + 2 ^ k * (x / 2 ^ k % 2) := by
  rw [Nat.pow_succ, Nat.mod_mul]
theorem low_succ (es : List (Option Nat × Nat)) (k : Nat) : low es (k + 1) = low es k + 2 ^ k * (figO es k).length := by
  induction es with
  | nil => rfl
  | cons e l ih =>
    unfold low figO at ih ⊢
    rw [List.map_cons, List.sum_cons, List.map_cons, List.sum_cons, ih, mod_two_pow, List.filter_cons]
    have h2 : e.2 / 2 ^ k % 2 = 0 ∨ e.2 / 2 ^ k % 2 = 1 := by omega
    rcases h2 with h | h
    · rw [h, if_neg (by simp), Nat.mul_zero]; omega
    · rw [h, if_pos (by simp), List.map_cons, List.length_cons, Nat.mul_one, Nat.mul_succ]; omega
theorem low_mod (es : List (Option Nat × Nat)) (k : Nat) : ∃ m, tot es = low es k + 2 ^ k * m := by
  induction es with
  | nil => exact ⟨0, rfl⟩
  | cons e l ih =>
    obtain ⟨m, hm⟩ := ih
    refine ⟨e.2 / 2 ^ k + m, ?_⟩
    unfold tot low at hm ⊢
    rw [List.map_cons, List.sum_cons, List.map_cons, List.sum_cons, hm]
    have := Nat.mod_add_div e.2 (2 ^ k)
    rw [Nat.mul_add]
    omega
theorem parts_len {es : List (Option Nat × Nat)} {D : Nat} (h : tot es = 2 ^ D) : ∀ k, k ≤ D + 1 → (parts es k).length * 2 ^ k = 2 * low es k ∧ (k ≤ D → (parts es k).length % 2 = 0)
  | 0, _ => by rw [low_zero]; exact ⟨rfl, fun _ => rfl⟩
  | k + 1, hk => by
    obtain ⟨h1, h2⟩ := parts_len h k (by omega)
    have h2 := h2 (by omega)
    have e1 : (parts es (k + 1)).length * 2 ^ (k + 1) = 2 * low es (k + 1) := by
      rw [parts, List.length_append, List.length_map, asks_len, low_succ, Nat.pow_succ]
      have : (parts es k).length = 2 * ((parts es k).length / 2) := by omega
      generalize (parts es k).length / 2 = q at this ⊢
      rw [this] at h1
      generalize (figO es k).length = f
      generalize low es k = lw at h1 ⊢
      generalize 2 ^ k = p at h1 ⊢
      grind
    refine ⟨e1, fun hD => ?_⟩
    obtain ⟨m, hm⟩ := low_mod es (k + 1)
    rw [h] at hm
    have hp : 2 ^ D = 2 ^ (k + 1) * 2 ^ (D - (k + 1)) := by rw [← Nat.pow_add]; congr 1; omega
    rw [hp] at hm
    generalize (parts es (k + 1)).length = L at e1 ⊢
    generalize 2 ^ (D - (k + 1)) = c at hm
    have hpos := Nat.two_pow_pos (k + 1)
    generalize 2 ^ (k + 1) = p at e1 hm hpos
    generalize low es (k + 1) = lw at e1 hm
    have hc : m ≤ c := by
      apply Nat.le_of_mul_le_mul_left _ hpos
      omega
    obtain ⟨d, rfl⟩ : ∃ d, c = m + d := ⟨c - m, by omega⟩
    have : lw = p * d := by rw [Nat.mul_add] at hm; omega
    rw [this, Nat.mul_comm L, ← Nat.mul_assoc, Nat.mul_comm 2, Nat.mul_assoc] at e1
    have := Nat.eq_of_mul_eq_mul_left hpos e1
    omega
theorem le_tot {es : List (Option Nat × Nat)} {e : Option Nat × Nat} (h : e ∈ es) : e.2 ≤ tot es := by
  induction es with
  | nil => cases h
  | cons a l ih =>
    unfold tot at ih ⊢
    rw [List.map_cons, List.sum_cons]
    rcases List.mem_cons.mp h with rfl | h
    · omega
    · have := ih h; omega
theorem low_all {es : List (Option Nat × Nat)} {k : Nat} (h : ∀ e ∈ es, e.2 < 2 ^ k) : low es k = tot es := by
  unfold low tot
  congr 1
  exact List.map_congr_left fun e he => Nat.mod_eq_of_lt (h e he)
theorem lt_succ_pow {es : List (Option Nat × Nat)} {D : Nat} (h : tot es = 2 ^ D) : ∀ e ∈ es, e.2 < 2 ^ (D + 1) := fun e he => by
  have := le_tot he
  have h2 := Nat.two_pow_pos D
  rw [Nat.pow_succ]; omega
theorem parts_one {es : List (Option Nat × Nat)} {D : Nat} (h : tot es = 2 ^ D) : (parts es (D + 1)).length = 1 := by
  obtain ⟨h1, _⟩ := parts_len h (D + 1) (Nat.le_refl _)
  rw [low_all (lt_succ_pow h), h, Nat.pow_succ, Nat.mul_comm (2 ^ D) 2] at h1
  have hp := Nat.two_pow_pos D
  exact Nat.eq_of_mul_eq_mul_right (show 0 < 2 * 2 ^ D by omega) (by rw [h1, Nat.one_mul])
noncomputable def planP (es : List (Option Nat × Nat)) (D : Nat) : Pn := (parts es (D + 1)).headD .again
theorem plan_parts {es : List (Option Nat × Nat)} {D : Nat} (h : tot es = 2 ^ D) : parts es (D + 1) = [planP es D] := by
  have := parts_one h
  unfold planP
  cases e : parts es (D + 1) with
  | nil => rw [e] at this; cases this
  | cons a l =>
    rw [e] at this
    cases l with
    | nil => rfl
    | cons _ _ => simp at this
noncomputable def endsD (es : List (Option Nat × Nat)) : Nat → Nat → List (Option Nat × Nat)
  | 0, _ => []
  | k + 1, d => (figO es k).map (·, d) ++ endsD es k (d + 1)
theorem ends_leaf (o : Option Nat) (d : Nat) : ends (leafP o) d = [(o, d)] := by cases o <;> rfl
theorem ends_leafs (d : Nat) : ∀ l : List (Option Nat), (l.map leafP).flatMap (ends · d) = l.map (·, d)
  | [] => rfl
  | o :: l => by rw [List.map_cons, List.flatMap_cons, ends_leaf, ends_leafs d l]; rfl
theorem ends_asks (d : Nat) : ∀ l : List Pn, l.length % 2 = 0 → (asks l).flatMap (ends · d) = l.flatMap (ends · (d + 1))
  | [], _ => rfl
  | [_], h => by simp at h
  | a :: b :: l, h => by
    have : l.length % 2 = 0 := by simp at h; omega
    rw [asks, List.flatMap_cons, List.flatMap_cons, List.flatMap_cons, ends_asks d l this, ← List.append_assoc]
    rfl
theorem ends_parts {es : List (Option Nat × Nat)} {D : Nat} (h : tot es = 2 ^ D) : ∀ k d, k ≤ D + 1 → (parts es k).flatMap (ends · d) = endsD es k d
  | 0, _, _ => rfl
  | k + 1, d, hk => by
    rw [parts, List.flatMap_append, ends_leafs, ends_asks d _ ((parts_len h k (by omega)).2 (by omega)), ends_parts h k (d + 1) (by omega)]
    rfl
theorem ends_plan {es : List (Option Nat × Nat)} {D : Nat} (h : tot es = 2 ^ D) : ends (planP es D) 0 = endsD es (D + 1) 0 := by
  rw [← ends_parts h (D + 1) 0 (Nat.le_refl _), plan_parts h]
  show _ = ends _ 0 ++ []
  rw [List.append_nil]
theorem endsD_mem {es : List (Option Nat × Nat)} : ∀ {k d : Nat} {e : Option Nat × Nat}, e ∈ endsD es k d → d ≤ e.2 ∧ e.2 < d + k ∧ ∃ x ∈ es, x.1 = e.1 ∧ x.2 ≠ 0
  | 0, _, _, h => by cases h
  | k + 1, d, e, h => by
    rcases List.mem_append.mp h with h | h
    · obtain ⟨o, ho, rfl⟩ := List.mem_map.mp h
      refine ⟨Nat.le_refl _, by show d < d + (k + 1); omega, ?_⟩
      obtain ⟨x, hx, rfl⟩ := List.mem_map.mp ho
      refine ⟨x, (List.mem_filter.mp hx).1, rfl, fun z => ?_⟩
      have := of_decide_eq_true (List.mem_filter.mp hx).2
      rw [z, Nat.zero_div] at this
      omega
    · obtain ⟨h1, h2, h3⟩ := endsD_mem h
      exact ⟨by omega, by omega, h3⟩
noncomputable def shP (P : Option Nat → Bool) (l : List (Option Nat × Nat)) (D : Nat) : Nat := (l.map fun e => if P e.1 then 2 ^ (D - e.2) else 0).sum
theorem shP_app (P : Option Nat → Bool) (l m : List (Option Nat × Nat)) (D : Nat) : shP P (l ++ m) D = shP P l D + shP P m D := by
  unfold shP
  rw [List.map_append, List.sum_append]
noncomputable def lowP (P : Option Nat → Bool) (es : List (Option Nat × Nat)) (k : Nat) : Nat := (es.map fun e => if P e.1 then e.2 % 2 ^ k else 0).sum
theorem shP_figs (P : Option Nat → Bool) (D d k : Nat) (hd : d + k = D) : ∀ es : List (Option Nat × Nat), shP P ((figO es k).map (·, d)) D + lowP P es k = lowP P es (k + 1)
  | [] => rfl
  | e :: l => by
    have ih := shP_figs P D d k hd l
    unfold shP figO lowP at ih ⊢
    rw [List.filter_cons, List.map_cons, List.sum_cons, List.map_cons, List.sum_cons, mod_two_pow]
    have h2 : e.2 / 2 ^ k % 2 = 0 ∨ e.2 / 2 ^ k % 2 = 1 := by omega
    rcases h2 with h | h
    · rw [h, if_neg (by simp), Nat.mul_zero]
      split <;> omega
    · rw [h, if_pos (by simp), List.map_cons, List.map_cons, List.map_cons, List.sum_cons, Nat.mul_one, show D - d = k by omega]
      dsimp only
      split <;> omega
theorem lowP_zero (P : Option Nat → Bool) : ∀ es : List (Option Nat × Nat), lowP P es 0 = 0
  | [] => rfl
  | e :: l => by
    have ih := lowP_zero P l
    unfold lowP at ih ⊢
    rw [List.map_cons, List.sum_cons, ih, Nat.pow_zero, Nat.mod_one]
    split <;> rfl
theorem shP_endsD (P : Option Nat → Bool) (es : List (Option Nat × Nat)) (D : Nat) : ∀ k d, d + k = D + 1 → shP P (endsD es k d) D = lowP P es k
  | 0, d, _ => by rw [lowP_zero]; rfl
  | k + 1, d, h => by
    rw [endsD, shP_app, shP_endsD P es D k (d + 1) (by omega), shP_figs P D d k (by omega) es]
theorem shP_deeper (P : Option Nat → Bool) {l : List (Option Nat × Nat)} {d D : Nat} (h : ∀ e ∈ l, e.2 ≤ d) (hd : d ≤ D) : shP P l D = shP P l d * 2 ^ (D - d) := by
  induction l with
  | nil => unfold shP; rw [List.map_nil, List.map_nil, List.sum_nil, Nat.zero_mul]
  | cons e l ih =>
    have ih := ih fun x hx => h x (List.mem_cons_of_mem _ hx)
    have he := h e List.mem_cons_self
    unfold shP at ih ⊢
    rw [List.map_cons, List.sum_cons, List.map_cons, List.sum_cons, ih, Nat.add_mul]
    congr 1
    split
    · rw [← Nat.pow_add]; congr 1; omega
    · rw [Nat.zero_mul]
theorem lowP_all (P : Option Nat → Bool) {es : List (Option Nat × Nat)} {k : Nat} (h : ∀ e ∈ es, e.2 < 2 ^ k) : lowP P es k = (es.map fun e => if P e.1 then e.2 else 0).sum := by
  unfold lowP
  congr 1
  exact List.map_congr_left fun e he => by rw [Nat.mod_eq_of_lt (h e he)]
noncomputable def numE (ws : List Nat) : List (Option Nat × Nat) := (List.range ws.length).map fun i => (some i, ws.getD i 0)
noncomputable def esW (ws : List Nat) (D : Nat) : List (Option Nat × Nat) := numE ws ++ [(none, 2 ^ D - ws.sum)]
theorem range_getD (ws : List Nat) : ((List.range ws.length).map fun i => ws.getD i 0) = ws := by
  apply List.ext_getElem
  · rw [List.length_map, List.length_range]
  · intro i h1 h2
    rw [List.getElem_map, List.getElem_range, List.getD_eq_getElem?_getD, List.getElem?_eq_getElem h2]
    rfl
theorem numE_sum (ws : List Nat) : ((numE ws).map fun e => e.2).sum = ws.sum := by
  unfold numE
  rw [List.map_map]
  exact congrArg List.sum (range_getD ws)
theorem esW_tot {ws : List Nat} {D : Nat} (h : ws.sum ≤ 2 ^ D) : tot (esW ws D) = 2 ^ D := by
  unfold tot esW
  rw [List.map_append, List.sum_append, numE_sum]
  show ws.sum + (2 ^ D - ws.sum + 0) = _
  omega
theorem sum_one (f : Nat → Nat) (n : Nat) : ∀ m, ((List.range m).map fun i => if some i == some n then f i else 0).sum = if n < m then f n else 0
  | 0 => by rw [if_neg (by omega)]; rfl
  | m + 1 => by
    rw [List.range_succ, List.map_append, List.sum_append, sum_one f n m]
    show _ + ((if some m == some n then f m else 0) + 0) = _
    by_cases c : m = n
    · subst c
      rw [if_neg (by omega), if_pos (by simp), if_pos (by omega)]; omega
    · rw [if_neg (show ¬ (some m == some n) = true by simpa using c)]
      by_cases d : n < m
      · rw [if_pos d, if_pos (by omega)]; omega
      · rw [if_neg d, if_neg (by omega)]
theorem esW_one {ws : List Nat} {D n : Nat} : ((esW ws D).map fun e => if e.1 == some n then e.2 else 0).sum = ws.getD n 0 := by
  unfold esW numE
  rw [List.map_append, List.sum_append, List.map_map]
  show ((List.range ws.length).map fun i => if some i == some n then ws.getD i 0 else 0).sum + 0 = _
  rw [sum_one, Nat.add_zero]
  by_cases c : n < ws.length
  · rw [if_pos c]
  · rw [if_neg c, List.getD_eq_getElem?_getD, List.getElem?_eq_none (by omega)]; rfl
theorem esW_some {ws : List Nat} {D : Nat} : ((esW ws D).map fun e => if e.1.isSome then e.2 else 0).sum = ws.sum := by
  unfold esW numE
  rw [List.map_append, List.sum_append, List.map_map]
  show ((List.range ws.length).map fun i => ws.getD i 0).sum + 0 = _
  rw [range_getD, Nat.add_zero]
theorem dp_at : ∀ (p : Pn) (d : Nat), ∃ e ∈ ends p d, e.2 = d + p.dp
  | .num m, d => ⟨(some m, d), by simp [ends], rfl⟩
  | .again, d => ⟨(none, d), by simp [ends], rfl⟩
  | .ask l r, d => by
    rw [Pn.dp]
    by_cases c : l.dp ≤ r.dp
    · obtain ⟨e, he, h⟩ := dp_at r (d + 1)
      exact ⟨e, List.mem_append_right _ he, by omega⟩
    · obtain ⟨e, he, h⟩ := dp_at l (d + 1)
      exact ⟨e, List.mem_append_left _ he, by omega⟩
noncomputable def isD (S D : Nat) : Prop := S ≤ 2 ^ D ∧ ∀ j, j < D → 2 ^ j < S
theorem isD_uniq {S D D' : Nat} (h : isD S D) (h' : isD S D') : D = D' := by
  rcases Nat.lt_trichotomy D D' with c | c | c
  · have := h'.2 D c; have := h.1; omega
  · exact c
  · have := h.2 D' c; have := h'.1; omega
theorem isD_le {S D : Nat} (h : isD S D) (hS : S ≤ 4096) : D ≤ 12 := by
  rcases Nat.lt_or_ge 12 D with c | c
  · have := h.2 12 c; omega
  · exact c
noncomputable def plW (ws : List Nat) (D : Nat) : Pn := planP (esW ws D) D
section
variable {ws : List Nat} {D : Nat}
theorem plW_ends (h : ws.sum ≤ 2 ^ D) : ends (plW ws D) 0 = endsD (esW ws D) (D + 1) 0 := ends_plan (esW_tot h)
theorem plW_dp (h : ws.sum ≤ 2 ^ D) : (plW ws D).dp ≤ D := by
  obtain ⟨e, he, hd⟩ := dp_at (plW ws D) 0
  rw [plW_ends h] at he
  have := (endsD_mem he).2.1
  omega
theorem plW_sh (P : Option Nat → Bool) (h : ws.sum ≤ 2 ^ D) : shP P (ends (plW ws D) 0) (plW ws D).dp * 2 ^ (D - (plW ws D).dp) = ((esW ws D).map fun e => if P e.1 then e.2 else 0).sum := by
  rw [← shP_deeper P (fun e he => by have := (ends_deep _ 0 e he).2; omega) (plW_dp h), plW_ends h, shP_endsD P _ D (D + 1) 0 (by omega), lowP_all P (lt_succ_pow (esW_tot h))]
theorem plW_one (n : Nat) (h : ws.sum ≤ 2 ^ D) : shP (· == some n) (ends (plW ws D) 0) (plW ws D).dp * 2 ^ (D - (plW ws D).dp) = ws.getD n 0 := by
  rw [plW_sh _ h, esW_one]
theorem plW_all (h : ws.sum ≤ 2 ^ D) : shP (·.isSome) (ends (plW ws D) 0) (plW ws D).dp * 2 ^ (D - (plW ws D).dp) = ws.sum := by
  rw [plW_sh _ h, esW_some]
theorem shP_pos {P : Option Nat → Bool} {D : Nat} : ∀ {l : List (Option Nat × Nat)}, 0 < shP P l D → ∃ e ∈ l, P e.1 = true
  | [], h => absurd h (by show ¬ 0 < 0; omega)
  | e :: l, h => by
    by_cases c : P e.1 = true
    · exact ⟨e, List.mem_cons_self, c⟩
    · unfold shP at h
      rw [List.map_cons, List.sum_cons, if_neg c, Nat.zero_add] at h
      obtain ⟨x, hx, h'⟩ := shP_pos (l := l) h
      exact ⟨x, List.mem_cons_of_mem _ hx, h'⟩
theorem shP_mem {P : Option Nat → Bool} {D : Nat} {e : Option Nat × Nat} (hp : P e.1 = true) : ∀ {l : List (Option Nat × Nat)}, e ∈ l → 0 < shP P l D
  | a :: l, h => by
    unfold shP
    rw [List.map_cons, List.sum_cons]
    rcases List.mem_cons.mp h with rfl | h
    · rw [if_pos hp]; have := Nat.two_pow_pos (D - e.2); omega
    · have := shP_mem (D := D) hp h
      unfold shP at this
      omega
theorem plW_has (h : ws.sum ≤ 2 ^ D) (h0 : 0 < ws.sum) : (plW ws D).has = true := by
  rw [← has_ends _ 0, List.any_eq_true]
  apply shP_pos (P := fun o => o.isSome) (D := (plW ws D).dp)
  have := plW_all h
  rcases Nat.eq_zero_or_pos (shP (fun o => o.isSome) (ends (plW ws D) 0) (plW ws D).dp) with z | z
  · rw [z, Nat.zero_mul] at this; omega
  · exact z
theorem plW_mem (h : ws.sum ≤ 2 ^ D) (n : Nat) : (∃ d, (some n, d) ∈ ends (plW ws D) 0) ↔ 0 < ws.getD n 0 := by
  have e := plW_one n h
  constructor
  · rintro ⟨d, hd⟩
    have := shP_mem (P := (· == some n)) (D := (plW ws D).dp) (e := (some n, d)) (by simp) hd
    rw [← e]
    exact Nat.mul_pos this (Nat.two_pow_pos _)
  · intro h0
    have : 0 < shP (· == some n) (ends (plW ws D) 0) (plW ws D).dp := by
      rcases Nat.eq_zero_or_pos (shP (· == some n) (ends (plW ws D) 0) (plW ws D).dp) with z | z
      · rw [z, Nat.zero_mul] at e; omega
      · exact z
    obtain ⟨x, hx, hp⟩ := shP_pos this
    have : x.1 = some n := by simpa using hp
    exact ⟨x.2, by rw [← this]; exact hx⟩
end
noncomputable def AgAt (K : PySem.W.Frag) (H : Hp) (p : Addr) : Prop := H p = some (.tup [.str "again"]) ∨ ∀ H', SqT K H' p [.str "again"]
theorem AgAt.sq {K : PySem.W.Frag} {H : Hp} {p : Addr} (h : AgAt K H p) : SqT K H p [.str "again"] := h.elim SqT.of fun z => z H
noncomputable def PnAt (K : PySem.W.Frag) (H : Hp) : Pn → V → Prop
  | .num n, v => ∃ p, v = .ref p ∧ H p = some (.tup [.str "is", .int (n : Int)])
  | .again, v => ∃ p, v = .ref p ∧ AgAt K H p
  | .ask l r, v => ∃ p y z, v = .ref p ∧ H p = some (.tup [.str "ask", y, z]) ∧ PnAt K H l y ∧ PnAt K H r z
theorem PnAt.keep {K : PySem.W.Frag} {H H' : Hp} (k : ∀ c xs, H c = some (.tup xs) → H' c = some (.tup xs)) : ∀ {p : Pn} {v : V}, PnAt K H p v → PnAt K H' p v
  | .num _, _, ⟨p, e, h⟩ => ⟨p, e, k _ _ h⟩
  | .again, _, ⟨p, e, h⟩ => ⟨p, e, h.imp (k _ _) id⟩
  | .ask _ _, _, ⟨p, y, z, e, h, h1, h2⟩ => ⟨p, y, z, e, k _ _ h, h1.keep k, h2.keep k⟩
theorem PnAt.same {K : PySem.W.Frag} {H H' : Hp} {p : Pn} {v : V} (h : PnAt K H p v) (s : Same H H') : PnAt K H' p v := h.keep fun _ _ e => s _ _ e
theorem PnAt.town {K : PySem.W.Frag} {H H' : Hp} {t : Addr} {k : Nat} {p : Pn} {v : V} (h : PnAt K H p v) (tw : Twn H t k) (g : Grow t H H') : PnAt K H' p v := h.keep fun _ _ e => g _ _ (twn_tup tw e) e
theorem tup_step {xs : List V} {H : Hp} {Q : VK} (hz : xs.length ≤ 1000) (q : ∀ p H', Same H H' → H' p = some (.tup xs) → Q (.ref p) H') : xs.length ≤ sizeLine ∧ ∀ p, H p = none → Q (.ref p) (upd H p (.tup xs)) :=
  ⟨Nat.le_trans hz (by decide), fun p fp => q p _ (same_new fp _) upd_same⟩
noncomputable def LeafV (K : PySem.W.Frag) (H : Hp) (o : Option Nat) (v : V) : Prop := PnAt K H (o.elim .again .num) v
noncomputable def EndsL (K : PySem.W.Frag) (H : Hp) (as : List Addr) (es : List (Option Nat × Nat)) : Prop := as.length = es.length ∧ ∀ (j : Nat) (a : Addr) (e : Option Nat × Nat), as[j]? = some a → es[j]? = some e → ∃ v, H a = some (.tup [.int (e.2 : Int), v]) ∧ LeafV K H e.1 v
theorem EndsL.same {K : PySem.W.Frag} {H H' : Hp} {as : List Addr} {es : List (Option Nat × Nat)} (h : EndsL K H as es) (s : Same H H') : EndsL K H' as es := ⟨h.1, fun j a e e1 e2 => by
  obtain ⟨v, h1, h2⟩ := h.2 j a e e1 e2
  exact ⟨v, s _ _ h1, PnAt.same h2 s⟩⟩
theorem EndsL.app {K : PySem.W.Frag} {H : Hp} {as bs : List Addr} {es fs : List (Option Nat × Nat)} (h : EndsL K H as es) (g : EndsL K H bs fs) : EndsL K H (as ++ bs) (es ++ fs) := by
  refine ⟨by rw [List.length_append, List.length_append, h.1, g.1], fun j a e e1 e2 => ?_⟩
  by_cases c : j < as.length
  · rw [List.getElem?_append_left c] at e1
    rw [List.getElem?_append_left (by rw [← h.1]; exact c)] at e2
    exact h.2 j a e e1 e2
  · rw [List.getElem?_append_right (by omega)] at e1
    rw [List.getElem?_append_right (by rw [← h.1]; omega), ← h.1] at e2
    exact g.2 _ a e e1 e2
noncomputable def spEnds (K : PySem.W.Frag) (n : Nat) : Sp := fun vs H Q _ => ∃ (v : V) (pl : Pn) (d : Nat), vs = [v, .int (d : Int)] ∧ PnAt K H pl v ∧ pl.dp ≤ n ∧ n ≤ 12 ∧ ∀ l as H', H l = none → Same H H' → H' l = some (.lst (as.map V.ref)) → EndsL K H' as (ends pl d) → Q (.ref l) H'
theorem op_neTAK {X : Cx} (K : PySem.W.Frag) (hK : X.K = K) (hu : X.A.units + 64 < cLine) : OpR X (compareOp .NotEq) (rEqTA K true) := by
  subst hK
  exact op_neTA hu
noncomputable def nums (es : List (Option Nat × Nat)) : List (Nat × Nat) := es.filterMap fun e => e.1.map fun n => (n, e.2)
theorem nums_has : ∀ es : List (Option Nat × Nat), decide (0 < (nums es).length) = es.any (fun e => e.1.isSome)
  | [] => rfl
  | (none, d) :: es => by
    have := nums_has es
    rw [List.any_cons]
    exact this
  | (some n, d) :: es => by
    rw [List.any_cons]
    show decide (0 < (nums es).length + 1) = _
    exact decide_eq_true (by omega)
noncomputable def NumL (H : Hp) (as : List Addr) (nd : List (Nat × Nat)) : Prop := as.length = nd.length ∧ ∀ (j : Nat) (a : Addr) (e : Nat × Nat), as[j]? = some a → nd[j]? = some e → H a = some (.tup [.int (e.2 : Int), .int (e.1 : Int)])
theorem NumL.same {H H' : Hp} {as : List Addr} {nd : List (Nat × Nat)} (h : NumL H as nd) (s : Same H H') : NumL H' as nd := ⟨h.1, fun j a e e1 e2 => s _ _ (h.2 j a e e1 e2)⟩
theorem NumL.snoc {H : Hp} {as : List Addr} {nd : List (Nat × Nat)} {p : Addr} {n d : Nat} (h : NumL H as nd) (hp : H p = some (.tup [.int (d : Int), .int (n : Int)])) : NumL H (as ++ [p]) (nd ++ [(n, d)]) := by
  refine ⟨by rw [List.length_append, List.length_append, h.1]; rfl, fun j a e e1 e2 => ?_⟩
  by_cases c : j < as.length
  · rw [List.getElem?_append_left c] at e1
    rw [List.getElem?_append_left (by rw [← h.1]; exact c)] at e2
    exact h.2 j a e e1 e2
  · rw [List.getElem?_append_right (by omega)] at e1
    rw [List.getElem?_append_right (by rw [← h.1]; omega), ← h.1] at e2
    have hj : j - as.length = 0 := by
      have := (List.getElem?_eq_some_iff.mp e1).1
      simpa using this
    rw [hj] at e1 e2
    cases e1
    cases e2
    exact hp
noncomputable def spNE2 (K : PySem.W.Frag) (CS : Addr) : Sp := fun vs H Q E => ∃ (v : V) (pl : Pn), vs = [v] ∧ PnAt K H pl v ∧ pl.dp ≤ 12 ∧ (pl.has = true → ∀ l as H', Same H H' → H' l = some (.lst (as.map V.ref)) → NumL H' as (nums (ends pl 0)) → Q (.ref l) H') ∧ (pl.has = false → ∀ H', Same H H' → E (.ref CS) none H')
section
variable {P : Program} {w : World} {K : PySem.W.Frag} {mg : Str → Option Value} {base : Heap} {f CS : Addr} {fd : FuncData} {mS : List Value}
theorem ok_ends_of {lv n : Nat} {spG : Sp} (F_ends_of : Fun K "ends_of" "ends_of" s_ends_of f fd) (g_ends_of : Fn P w K mg base "ends_of" p_ends_of lv spG) (hg : ∀ m vs H Q E, n = m + 1 → spEnds K m vs H Q E → spG vs H Q E) : FnOk P w K mg base CX0 (lv + 1) f fd p_ends_of (spEnds K n) := by
  refine F_ends_of.ok sc_ends_of (fun vs H Q E h => ?_) (fun cdv A outer s H vs Q E hr h => ?_)
  · obtain ⟨v, pl, d, rfl, _⟩ := h
    rfl
  obtain ⟨v, pl, d, rfl, hP, hd, hn, q⟩ := h
  refine ⟨_, (pss_cons (ps_if (pt_cmpR op_eq (pe_ix ix_tup (pv 0) pe_int (fun _ _ => rfl)) pe_str (nomark _)) (pss_one (ps_ret (pe_op op_cat (pe_fn g_ends_of hr (pa_cons (pe_ix ix_tup (pv 0) pe_int (fun _ _ => rfl)) (pa_cons (pe_op op_add (pv 1) pe_int) pa_nil))) (pe_fn g_ends_of hr (pa_cons (pe_ix ix_tup (pv 0) pe_int (fun _ _ => rfl)) (pa_cons (pe_op op_add (pv 1) pe_int) pa_nil)))))) pss_nil)
      (pss_one (ps_ret (pe_lst (pa_cons (pe_tup (pa_cons (pv 1) (pa_cons (pv 0) pa_nil))) pa_nil))))), ?_⟩
  have leaf : ∀ (o : Option Nat), ends (o.elim .again .num) d = [(o, d)] := fun o => by cases o <;> rfl
  have last : ∀ (o : Option Nat) (v : V) (p l : Addr), LeafV K H o v → pl = o.elim .again .num → H p = none → (upd H p (.tup [V.int (d : Int), v])) l = none → Q (.ref l) (upd (upd H p (.tup [V.int (d : Int), v])) l (.lst [V.ref p])) := fun o v p l hv e fp fl => by
    have y1 := same_new fp (.tup [V.int (d : Int), v])
    have y2 := same_new fl (.lst [V.ref p])
    have nl : H l = none := by
      cases e : H l with
      | none => rfl
      | some o => have := y1 _ _ e; rw [fl] at this; cases this
    refine q l [p] _ nl (y1.trans y2) upd_same ?_
    rw [e, leaf o]
    refine ⟨rfl, fun j a e' h1 h2 => ?_⟩
    have hj : j = 0 := by
      have := (List.getElem?_eq_some_iff.mp h1).1
      simpa using this
    subst hj
    cases h1
    cases h2
    exact ⟨v, y2 _ _ upd_same, PnAt.same hv (y1.trans y2)⟩
  cases pl with
  | num m =>
    obtain ⟨p, rfl, h⟩ := id hP
    refine ⟨_, rfl, p, _, _, _, rfl, rfl, SqT.of h, rfl, rfl, _, rfl, ite2 (fun c => absurd (of_decide_eq_true c) (by decide +kernel)) (fun _ => ?_)⟩
    exact ⟨_, rfl, _, rfl, (by show 2 ≤ sizeLine; decide), fun p' fp => ⟨(by show 1 ≤ sizeLine; decide), fun l fl => last (some m) _ p' l hP rfl fp fl⟩⟩
  | again =>
    obtain ⟨p, rfl, h⟩ := id hP
    refine ⟨_, rfl, p, _, _, _, rfl, rfl, h.sq, rfl, rfl, _, rfl, ite2 (fun c => absurd (of_decide_eq_true c) (by decide +kernel)) (fun _ => ?_)⟩
    exact ⟨_, rfl, _, rfl, (by show 2 ≤ sizeLine; decide), fun p' fp => ⟨(by show 1 ≤ sizeLine; decide), fun l fl => last none _ p' l hP rfl fp fl⟩⟩
  | ask pl1 pl2 =>
    clear last leaf
    obtain ⟨p, y, z, rfl, h, h1, h2⟩ := id hP
    have hd' : max pl1.dp pl2.dp + 1 ≤ n := hd
    obtain ⟨m, rfl⟩ : ∃ m, n = m + 1 := ⟨n - 1, by omega⟩
    refine ⟨_, rfl, p, _, _, _, rfl, rfl, SqT.of h, rfl, rfl, _, rfl, ite2 (fun _ => ?_) (fun c => absurd (by decide +kernel) c)⟩
    refine ⟨_, rfl, p, _, _, _, rfl, rfl, SqT.of h, rfl, _, rfl, _, _, rfl, rfl, hg m _ _ _ _ rfl ⟨y, pl1, d + 1, rfl, h1, by omega, by omega, fun l1 as1 H1 n1 s1 w1 e1 => ?_⟩⟩
    refine ⟨_, rfl, p, _, _, _, rfl, rfl, SqT.of (s1 _ _ h), rfl, _, rfl, _, _, rfl, rfl, hg m _ _ _ _ rfl ⟨z, pl2, d + 1, rfl, h2.same s1, by omega, by omega, fun l2 as2 H2 n2 s2 w2 e2 => ?_⟩⟩
    have e1' := e1.same s2
    have b1 := ends_len pl1 (d + 1)
    have b2 := ends_len pl2 (d + 1)
    have c1 : 2 ^ pl1.dp ≤ 4096 := Nat.le_trans (Nat.pow_le_pow_right (n := 2) (by decide) (show pl1.dp ≤ 12 by omega)) (by decide)
    have c2 : 2 ^ pl2.dp ≤ 4096 := Nat.le_trans (Nat.pow_le_pow_right (n := 2) (by decide) (show pl2.dp ≤ 12 by omega)) (by decide)
    refine ⟨l1, l2, _, _, rfl, rfl, s2 _ _ w1, w2, small (by rw [List.length_map, List.length_map, e1.1, e2.1]; omega), fun l3 f3 => ?_⟩
    have y3 := same_new f3 (.lst (as1.map V.ref ++ as2.map V.ref))
    have n3 : H l3 = none := by
      cases e : H l3 with
      | none => rfl
      | some o => have := s2 _ _ (s1 _ _ e); rw [f3] at this; cases this
    refine q l3 (as1 ++ as2) _ n3 ((s1.trans s2).trans y3) (by rw [upd_same, List.map_append]) ((e1'.app e2).same y3)
theorem ends_all (F : Fun K "ends_of" "ends_of" s_ends_of f fd) (mo : ∀ {k : Nat} {sp : Sp}, FnOk P w K mg base CX0 k f fd p_ends_of sp → Fn P w K mg base "ends_of" p_ends_of k sp) : ∀ n : Nat, FnOk P w K mg base CX0 (n + 1) f fd p_ends_of (spEnds K n)
  | 0 => ok_ends_of (lv := 0) (n := 0) F (mo (ok__law_same0 (sp := fun _ _ _ _ => False) (fun _ _ _ _ h => h))) (fun m vs H Q E e => by cases e)
  | n + 1 => ok_ends_of (lv := n + 1) (n := n + 1) F (mo (ends_all F mo n)) (fun m vs H Q E e h => by cases e; exact h)
theorem ok_numbered_ends (F_numbered_ends : Fun K "numbered_ends" "numbered_ends" s_numbered_ends f fd) (B : Bl mg) (C' : Cn K mg) (X_NoShares : Exc K mg "NoShares" CS mS) (g_ends_of : Fn P w K mg base "ends_of" p_ends_of 13 (spEnds K 12)) : FnOk P w K mg base (CXR P w) 14 f fd p_numbered_ends (spNE2 K CS) := by
  refine F_numbered_ends.okX sc_numbered_ends (fun vs H Q E h => ?_) (fun cdv A outer s H vs Q E hr h => ?_)
  · obtain ⟨v, pl, rfl, _⟩ := h
    rfl
  obtain ⟨v, pl, rfl, hP, hd, q, e⟩ := h
  obtain ⟨A_AGAIN, C_AGAIN, hAg⟩ := C'.AGAIN
  refine ⟨_, (pss_cons (ps_comp 1 [] ["plan", "ends", "depth", "end"] 2 rfl sc_numbered_ends.nd rfl rfl (pi_list (pe_fn g_ends_of hr (pa_cons (pv 0) (pa_cons pe_int pa_nil)))) (fun _ _ _ _ _ => (pg_tupK K 2 rfl (pgs_cons (pg_name (i := 2) nd_3 rfl (Or.inl rfl) (Or.inr rfl)) (pgs_cons (pg_name (i := 3) nd_3 rfl (Or.inl rfl) (Or.inr rfl)) pgs_nil)) rfl rfl rfl)) (fun _ _ _ _ _ => (pif_one (pt_cmpR (op_neTAK K rfl hr.units) (pv 3) (pe_glob (v := .ref A_AGAIN) rfl C_AGAIN rfl) (nomark _)))) (fun _ _ _ _ _ => (pe_tup (pa_cons (pv 2) (pa_cons (pe_ix (ix_tupK K rfl) (pv 3) pe_int (fun _ _ => rfl)) pa_nil)))))
      (pss_cons (ps_if (pt_cmpR op_eq (pe_callB call_len_seq rfl B.len_ L3.bt_len (pa_cons (pv 1) pa_nil)) pe_int (nomark _)) (pss_one (ps_raise X_NoShares (pa_cons pe_str pa_nil))) pss_nil)
      (pss_one (ps_ret (pv 1))))), ?_⟩
  refine ⟨_, rfl, v, pl, 0, rfl, hP, hd, by decide, fun l as H1 nl s1 w1 e1 => ?_⟩
  have b1 := ends_len pl 0
  have c1 : 2 ^ pl.dp ≤ 4096 := Nat.le_trans (Nat.pow_le_pow_right (n := 2) (by decide) hd) (by decide)
  refine ⟨l, rfl, ⟨_, SqL.of w1⟩, comp_list (xs := as.map V.ref) (fun j acc σ' H' => ∃ (bs : List Addr) (o2 o3 : Option V), acc = bs.map V.ref ∧ bs.length ≤ j ∧ NumL H' bs (nums ((ends pl 0).take j)) ∧ Same H1 H' ∧ σ' = [some v, none, o2, o3]) ⟨[], _, _, rfl, Nat.le_refl _, ⟨rfl, fun j a e h => by simp at h⟩, Same.refl _, rfl⟩
    (fun j acc σ' H' hj ⟨bs, _, _, e', hb, _⟩ => by
      rw [e', List.length_map]
      rw [List.length_map, e1.1] at hj
      omega) (fun j acc σ' H' _ ⟨_, _, _, _, _, _, y, _⟩ => SqL.of (y _ _ w1)) ?_ ?_⟩
  · rintro j x acc σ' H' hx ⟨bs, o2, o3, rfl, hb, hN, y, rfl⟩
    obtain ⟨a, hja⟩ : ∃ a, as[j]? = some a := by
      rw [List.getElem?_map] at hx
      cases e : as[j]? with
      | none => rw [e] at hx; cases hx
      | some r => exact ⟨r, rfl⟩
    rw [List.getElem?_map, hja] at hx
    cases hx
    have hj : j < (ends pl 0).length := by rw [← e1.1]; exact (List.getElem?_eq_some_iff.mp hja).1
    obtain ⟨en, hen⟩ : ∃ en, (ends pl 0)[j]? = some en := ⟨_, List.getElem?_eq_getElem hj⟩
    obtain ⟨lv, ha, hleaf⟩ := e1.2 j a en hja hen
    have ha' := y _ _ ha
    have hnext : nums ((ends pl 0).take (j + 1)) = nums ((ends pl 0).take j) ++ nums [en] := by
      rw [List.take_add_one, hen]
      exact List.filterMap_append
    refine ⟨a, _, rfl, SqT.of ha', rfl, _, _, rfl, _, _, rfl, rfl, ?_⟩
    unfold LeafV at hleaf
    obtain ⟨eo, ed⟩ := en
    cases eo with
    | none =>
      obtain ⟨p, rfl, hp⟩ := hleaf
      refine ⟨_, rfl, p, A_AGAIN, _, _, _, rfl, rfl, AgAt.sq (K := K) (H := H') (p := p) (hp.imp (y _ _) id), hAg _, _, rfl, ite2 (fun c => absurd c (by decide +kernel)) (fun _ => ⟨bs, _, _, rfl, by omega, ?_, y, rfl⟩)⟩
      rw [hnext]
      show NumL H' bs (_ ++ [])
      rw [List.append_nil]
      exact hN
    | some n =>
      obtain ⟨p, rfl, hp⟩ := hleaf
      refine ⟨_, rfl, p, A_AGAIN, _, _, _, rfl, rfl, SqT.of (y _ _ hp), hAg _, _, rfl, ite2 (fun _ => ?_) (fun c => absurd (by show (!(decide (("is" : Str) = "again") && false)) = true; rw [Bool.and_false]; rfl) c)⟩
      refine ⟨_, rfl, _, rfl, p, _, _, _, rfl, rfl, SqT.of (y _ _ hp), rfl, (by show 2 ≤ sizeLine; decide), fun p2 fp2 => ?_⟩
      refine ⟨bs ++ [p2], _, _, by rw [List.map_append]; rfl, by rw [List.length_append]; show bs.length + 1 ≤ _; omega, ?_, y.trans (same_new fp2 _), rfl⟩
      rw [hnext]
      exact (hN.same (same_new fp2 _)).snoc upd_same
  rintro acc σ' H2 D ⟨bs, o2, o3, rfl, hb, hN, y, rfl⟩ fD
  rw [List.length_map, e1.1, List.take_length] at hN
  have hany := nums_has (ends pl 0)
  rw [has_ends, ← hN.1] at hany
  have yD := same_new fD (.lst (bs.map V.ref))
  have s12 := (s1.trans y).trans yD
  refine ⟨_, rfl, D, _, rfl, .inl (SqL.of upd_same), rfl, _, rfl, ite2 (fun c => ?_) (fun c => ?_)⟩
  · have c' := of_decide_eq_true c
    rw [List.length_map] at c'
    injection c' with c'
    have : pl.has = false := by rw [← hany]; exact decide_eq_false (by omega)
    exact ⟨(by show 1 ≤ sizeLine; decide), e this _ s12⟩
  · have c' : ¬ bs.length = 0 := fun z => c (decide_eq_true (by rw [List.length_map, z]; rfl))
    have : pl.has = true := by rw [← hany]; exact decide_eq_true (by omega)
    exact ⟨_, rfl, q this D bs _ s12 upd_same (hN.same yD)⟩
end
theorem two_pos (n : Nat) : 4 ≤ 2 ^ (n + 2) := by
  have := Nat.pow_le_pow_right (show 0 < 2 by decide) (show 2 ≤ n + 2 by omega)
  exact this
noncomputable def spMkPn (K : PySem.W.Frag) (n : Nat) : Sp := fun vs H Q _ => ∃ (a t : Addr) (ns : List Int) (k : Nat), vs = [.ref a, .ref t, .int (n : Int)] ∧ Scr K H a ns ∧ ns.length ≤ 63 ∧ Twn H t k ∧ n ≤ 6 ∧ k + 2 ^ (n + 2) ≤ 700000 ∧
  ∀ v pl k' H', Grow t H H' → Twn H' t k' → k' + 1 ≤ k + 2 ^ (n + 2) → PnAt K H' pl v → pl.dp ≤ n → Q v H'
section
variable {P : Program} {w : World} {K : PySem.W.Frag} {mg : Str → Option Value} {base : Heap} {f : Addr} {fd : FuncData}
theorem ok__law_plan {lv n : Nat} {spG : Sp} (F__law_plan : Fun K "_law_plan" "_law_plan" s__law_plan f fd) (B : Bl mg) (g__law_draw : Fn P w K mg base "_law_draw" p__law_draw lv (spDraw K)) (g__law_one : Fn P w K mg base "_law_one" p__law_one lv (spOne K)) (g__law_plan : Fn P w K mg base "_law_plan" p__law_plan lv spG)
    (hg : ∀ m vs H Q E, n = m + 1 → spMkPn K m vs H Q E → spG vs H Q E) : FnOk P w K mg base CX0 (lv + 1) f fd p__law_plan (spMkPn K n) := by
  refine F__law_plan.ok sc__law_plan (fun vs H Q E h => ?_) (fun cdv A outer s H vs Q E hr h => ?_)
  · obtain ⟨a, t, ns, k, rfl, _⟩ := h
    rfl
  obtain ⟨a, t, ns, k, rfl, hS, h63, hT, hn6, hk, q⟩ := h
  refine ⟨_, (pss_cons (ps_set (i := 3) sc__law_plan.nd rfl (Or.inl rfl) (pe_fn g__law_draw hr (pa_cons (pv 0) (pa_cons (pv 1) (pa_cons pe_int pa_nil)))))
      (pss_cons (ps_if (PW.pt (pw_or (pt_cmpR op_eq (pv 2) pe_int (nomark _)) (pw_or1 (pt_cmpR op_eq (pv 3) pe_int (nomark _))))) (pss_one (ps_ret (pe_tup (pa_cons pe_str (pa_cons (pe_fn g__law_draw hr (pa_cons (pv 0) (pa_cons (pv 1) (pa_cons (pe_fn g__law_one hr (PB.go (pb_cons (pv 0) (pb_cons (pv 1) (pb_cons (pe_lst (pa_cons pe_int (pa_cons pe_int pa_nil))) pb_nil se_List) se_Name) se_Name))) pa_nil)))) pa_nil))))) pss_nil)
      (pss_cons (ps_if (pt_cmpR op_eq (pv 3) pe_int (nomark _)) (pss_one (ps_ret (pe_tup (pa_cons pe_str pa_nil)))) pss_nil)
      (pss_one (ps_ret (pe_tup (pa_cons pe_str (pa_cons (pe_fn g__law_plan hr (pa_cons (pv 0) (pa_cons (pv 1) (pa_cons (pe_op op_sub (pv 2) pe_int) pa_nil)))) (pa_cons (pe_fn g__law_plan hr (pa_cons (pv 0) (pa_cons (pv 1) (pa_cons (pe_op op_sub (pv 2) pe_int) pa_nil)))) pa_nil))))))))), ?_⟩
  have tp := two_pos n
  refine ⟨_, rfl, _, rfl, a, t, ns, k, 6, rfl, hS, h63, hT, by omega, by decide, fun H1 g1 t1 => ?_⟩
  have hS1 := g1.scr hT hS
  generalize drw ns (k + 1) 6 = kind
  refine ⟨_, rfl, rfl, _, rfl, ?_⟩
  by_cases hn : n = 0
  · rw [show decide (V.int (n : Int) = V.int 0) = true from decide_eq_true (by rw [hn]; rfl)]
    refine iteT (iteT ?_)
    refine ⟨_, rfl, _, rfl, _, rfl, _, rfl, (by show 2 ≤ sizeLine; decide), fun l fl => ?_⟩
    have yl := same_new fl (.lst [V.int 3, V.int 100])
    have wl : (upd H1 l (.lst [V.int 3, V.int 100])) l = some (.lst [V.int 3, V.int 100]) := upd_same
    generalize upd H1 l (.lst [V.int 3, V.int 100]) = H2 at yl wl ⊢
    have y2 := yl
    have w2 := wl
    have t2 := y2.twn t1
    have hS2 := y2.scr hS1
    refine ⟨a, t, l, ns, k + 1, _, rfl, hS2, h63, t2, by omega, w2, twn_new t1 fl, (by show 0 < 2; decide), (by show 2 ≤ 1000; decide), fun jj v H3 _ hv g3 t3 => ?_⟩
    obtain ⟨m0, rfl, hm0⟩ : ∃ m0 : Int, v = .int m0 ∧ 0 < m0 := by
      match jj, hv with
      | 0, hv => exact ⟨3, (Option.some.inj hv).symm, by decide⟩
      | 1, hv => exact ⟨100, (Option.some.inj hv).symm, by decide⟩
    have hS3 := g3.scr t2 hS2
    refine ⟨a, t, ns, k + 1 + 1, m0, rfl, hS3, h63, t3, by omega, hm0, fun H4 g4 t4 => ?_⟩
    have d0 := drw_nn ns (k + 1 + 1 + 1) hm0
    generalize drw ns (k + 1 + 1 + 1) m0 = dd at d0
    obtain ⟨nn, rfl⟩ := nat_of d0
    refine tup_step (by show 2 ≤ 1000; decide) fun p H5 y5 w5 => ?_
    have G := ((g1.trans (.same y2)).trans g3).trans (g4.trans (.same y5))
    exact q (.ref p) (.num nn) _ H5 G (y5.twn t4) (by have := two_pos n; omega) ⟨p, rfl, w5⟩ (Nat.zero_le _)
  rw [show decide (V.int (n : Int) = V.int 0) = false from decide_eq_false (fun e => hn (by injection e with e; omega))]
  refine iteF ⟨_, rfl, rfl, _, rfl, ite2 (fun _ => ?_) (fun _ => ?_)⟩
  · refine ⟨_, rfl, _, rfl, _, rfl, _, rfl, (by show 2 ≤ sizeLine; decide), fun l fl => ?_⟩
    have yl := same_new fl (.lst [V.int 3, V.int 100])
    have wl : (upd H1 l (.lst [V.int 3, V.int 100])) l = some (.lst [V.int 3, V.int 100]) := upd_same
    generalize upd H1 l (.lst [V.int 3, V.int 100]) = H2 at yl wl ⊢
    have y2 := yl
    have w2 := wl
    have t2 := y2.twn t1
    have hS2 := y2.scr hS1
    refine ⟨a, t, l, ns, k + 1, _, rfl, hS2, h63, t2, by omega, w2, twn_new t1 fl, (by show 0 < 2; decide), (by show 2 ≤ 1000; decide), fun jj v H3 _ hv g3 t3 => ?_⟩
    obtain ⟨m0, rfl, hm0⟩ : ∃ m0 : Int, v = .int m0 ∧ 0 < m0 := by
      match jj, hv with
      | 0, hv => exact ⟨3, (Option.some.inj hv).symm, by decide⟩
      | 1, hv => exact ⟨100, (Option.some.inj hv).symm, by decide⟩
    have hS3 := g3.scr t2 hS2
    refine ⟨a, t, ns, k + 1 + 1, m0, rfl, hS3, h63, t3, by omega, hm0, fun H4 g4 t4 => ?_⟩
    have d0 := drw_nn ns (k + 1 + 1 + 1) hm0
    generalize drw ns (k + 1 + 1 + 1) m0 = dd at d0
    obtain ⟨nn, rfl⟩ := nat_of d0
    refine tup_step (by show 2 ≤ 1000; decide) fun p H5 y5 w5 => ?_
    have G := ((g1.trans (.same y2)).trans g3).trans (g4.trans (.same y5))
    exact q (.ref p) (.num nn) _ H5 G (y5.twn t4) (by have := two_pos n; omega) ⟨p, rfl, w5⟩ (Nat.zero_le _)
  refine ⟨_, rfl, rfl, _, rfl, ite2 (fun _ => ?_) (fun _ => ?_)⟩
  · refine tup_step (by show 1 ≤ 1000; decide) fun p H5 y5 w5 => ?_
    exact q (.ref p) .again _ H5 (g1.trans (.same y5)) (y5.twn t1) (by omega) ⟨p, rfl, .inl w5⟩ (Nat.zero_le _)
  obtain ⟨m, rfl⟩ : ∃ m, n = m + 1 := ⟨n - 1, by omega⟩
  have em : (((m + 1 : Nat) : Int)) - 1 = (m : Int) := by omega
  have e2 : 2 ^ (m + 1 + 2) = 2 * 2 ^ (m + 2) := by rw [Nat.pow_succ 2 (m + 2), Nat.mul_comm]
  have tp2 := two_pos m
  refine ⟨_, rfl, _, rfl, _, rfl, _, _, rfl, rfl, hg m _ _ _ _ rfl ⟨a, t, ns, k + 1, by rw [← em]; rfl, hS1, h63, t1, by omega, by omega, fun v1 pl1 k1 H2 g2 t2 hk2 hv1 hd1 => ?_⟩⟩
  have hS2 := g2.scr t1 hS1
  refine ⟨_, rfl, _, rfl, _, rfl, _, _, rfl, rfl, hg m _ _ _ _ rfl ⟨a, t, ns, k1, by rw [← em]; rfl, hS2, h63, t2, by omega, by omega, fun v2 pl2 k2 H3 g3 t3 hk3 hv2 hd2 => ?_⟩⟩
  refine tup_step (by show 3 ≤ 1000; decide) fun p H5 y5 w5 => ?_
  exact q (.ref p) (.ask pl1 pl2) k2 H5 ((g1.trans g2).trans (g3.trans (.same y5))) (y5.twn t3) (by omega) ⟨p, v1, v2, rfl, w5, (hv1.town t2 g3).same y5, hv2.same y5⟩ (by show max pl1.dp pl2.dp + 1 ≤ m + 1; omega)
end
noncomputable def vopN : Option Nat → V
  | none => .non
  | some n => .int (n : Int)
noncomputable def LEnds (H : Hp) (as : List Addr) (es : List (Option Nat × Nat)) : Prop := as.length = es.length ∧ ∀ (j : Nat) (a : Addr) (e : Option Nat × Nat), as[j]? = some a → es[j]? = some e → H a = some (.tup [vopN e.1, .int ((2 ^ e.2 : Nat) : Int), .int (e.2 : Int)])
theorem LEnds.same {H H' : Hp} {as : List Addr} {es : List (Option Nat × Nat)} (h : LEnds H as es) (s : Same H H') : LEnds H' as es := ⟨h.1, fun j a e e1 e2 => s _ _ (h.2 j a e e1 e2)⟩
theorem LEnds.app {H : Hp} {as bs : List Addr} {es fs : List (Option Nat × Nat)} (h : LEnds H as es) (g : LEnds H bs fs) : LEnds H (as ++ bs) (es ++ fs) := by
  refine ⟨by rw [List.length_append, List.length_append, h.1, g.1], fun j a e e1 e2 => ?_⟩
  by_cases c : j < as.length
  · rw [List.getElem?_append_left c] at e1
    rw [List.getElem?_append_left (by rw [← h.1]; exact c)] at e2
    exact h.2 j a e e1 e2
  · rw [List.getElem?_append_right (by omega)] at e1
    rw [List.getElem?_append_right (by rw [← h.1]; omega), ← h.1] at e2
    exact g.2 _ a e e1 e2
noncomputable def spLEnds (K : PySem.W.Frag) (n : Nat) : Sp := fun vs H Q _ => ∃ (v : V) (pl : Pn) (d : Nat), vs = [v, .int ((2 ^ d : Nat) : Int), .int (d : Int)] ∧ PnAt K H pl v ∧ pl.dp ≤ n ∧ n ≤ 12 ∧ ∀ l as H', H l = none → Same H H' → H' l = some (.lst (as.map V.ref)) → LEnds H' as (ends pl d) → Q (.ref l) H'
section
variable {P : Program} {w : World} {K : PySem.W.Frag} {mg : Str → Option Value} {base : Heap} {f : Addr} {fd : FuncData}
theorem ok__law_ends {lv n : Nat} {spG : Sp} (F__law_ends : Fun K "_law_ends" "_law_ends" s__law_ends f fd) (g__law_ends : Fn P w K mg base "_law_ends" p__law_ends lv spG) (hg : ∀ m vs H Q E, n = m + 1 → spLEnds K m vs H Q E → spG vs H Q E) : FnOk P w K mg base CX0 (lv + 1) f fd p__law_ends (spLEnds K n) := by
  refine F__law_ends.ok sc__law_ends (fun vs H Q E h => ?_) (fun cdv A outer s H vs Q E hr h => ?_)
  · obtain ⟨v, pl, d, rfl, _⟩ := h
    rfl
  obtain ⟨v, pl, d, rfl, hP, hd, hn, q⟩ := h
  refine ⟨_, (pss_cons (ps_if (pt_cmpR op_eq (pe_ix ix_tup (pv 0) pe_int (fun _ _ => rfl)) pe_str (nomark _)) (pss_one (ps_ret (pe_lst (pa_cons (pe_tup (pa_cons (pe_ix ix_tup (pv 0) pe_int (fun _ _ => rfl)) (pa_cons (pv 1) (pa_cons (pv 2) pa_nil)))) pa_nil)))) pss_nil)
      (pss_cons (ps_if (pt_cmpR op_eq (pe_ix ix_tup (pv 0) pe_int (fun _ _ => rfl)) pe_str (nomark _)) (pss_one (ps_ret (pe_lst (pa_cons (pe_tup (pa_cons pe_non (pa_cons (pv 1) (pa_cons (pv 2) pa_nil)))) pa_nil)))) pss_nil)
      (pss_one (ps_ret (pe_op op_cat (pe_fn g__law_ends hr (pa_cons (pe_ix ix_tup (pv 0) pe_int (fun _ _ => rfl)) (pa_cons (pe_op op_mul (pv 1) pe_int) (pa_cons (pe_op op_add (pv 2) pe_int) pa_nil)))) (pe_fn g__law_ends hr (pa_cons (pe_ix ix_tup (pv 0) pe_int (fun _ _ => rfl)) (pa_cons (pe_op op_mul (pv 1) pe_int) (pa_cons (pe_op op_add (pv 2) pe_int) pa_nil))))))))), ?_⟩
  have leaf : ∀ (o : Option Nat), ends (o.elim .again .num) d = [(o, d)] := fun o => by cases o <;> rfl
  have last : ∀ (o : Option Nat) (p l : Addr), pl = o.elim .again .num → H p = none → (upd H p (.tup [vopN o, V.int ((2 ^ d : Nat) : Int), V.int (d : Int)])) l = none → Q (.ref l) (upd (upd H p (.tup [vopN o, V.int ((2 ^ d : Nat) : Int), V.int (d : Int)])) l (.lst [V.ref p])) := fun o p l e fp fl => by
    have y1 := same_new fp (.tup [vopN o, V.int ((2 ^ d : Nat) : Int), V.int (d : Int)])
    have y2 := same_new fl (.lst [V.ref p])
    have nl : H l = none := by
      cases e : H l with
      | none => rfl
      | some o => have := y1 _ _ e; rw [fl] at this; cases this
    refine q l [p] _ nl (y1.trans y2) upd_same ?_
    rw [e, leaf o]
    refine ⟨rfl, fun j a e' h1 h2 => ?_⟩
    have hj : j = 0 := by
      have := (List.getElem?_eq_some_iff.mp h1).1
      simpa using this
    subst hj
    cases h1
    cases h2
    exact y2 _ _ upd_same
  cases pl with
  | num m =>
    obtain ⟨p, rfl, h⟩ := id hP
    refine ⟨_, rfl, p, _, _, _, rfl, rfl, SqT.of h, rfl, rfl, _, rfl, ite2 (fun _ => ?_) (fun c => absurd (by decide +kernel) c)⟩
    exact ⟨_, rfl, p, _, _, _, rfl, rfl, SqT.of h, rfl, _, rfl, _, rfl, (by show 3 ≤ sizeLine; decide), fun p' fp => ⟨(by show 1 ≤ sizeLine; decide), fun l fl => last (some m) p' l rfl fp fl⟩⟩
  | again =>
    obtain ⟨p, rfl, h⟩ := id hP
    refine ⟨_, rfl, p, _, _, _, rfl, rfl, h.sq, rfl, rfl, _, rfl, ite2 (fun c => absurd (of_decide_eq_true c) (by decide +kernel)) (fun _ => ?_)⟩
    refine ⟨_, rfl, p, _, _, _, rfl, rfl, h.sq, rfl, rfl, _, rfl, ite2 (fun _ => ?_) (fun c => absurd (by decide +kernel) c)⟩
    exact ⟨_, rfl, _, rfl, (by show 3 ≤ sizeLine; decide), fun p' fp => ⟨(by show 1 ≤ sizeLine; decide), fun l fl => last none p' l rfl fp fl⟩⟩
  | ask pl1 pl2 =>
    clear last leaf
    obtain ⟨p, y, z, rfl, h, h1, h2⟩ := id hP
    have hd' : max pl1.dp pl2.dp + 1 ≤ n := hd
    obtain ⟨m, rfl⟩ : ∃ m, n = m + 1 := ⟨n - 1, by omega⟩
    have e2p : ((2 ^ d : Nat) : Int) * 2 = ((2 ^ (d + 1) : Nat) : Int) := by rw [Nat.pow_succ]; omega
    refine ⟨_, rfl, p, _, _, _, rfl, rfl, SqT.of h, rfl, rfl, _, rfl, ite2 (fun c => absurd (of_decide_eq_true c) (by decide +kernel)) (fun _ => ?_)⟩
    refine ⟨_, rfl, p, _, _, _, rfl, rfl, SqT.of h, rfl, rfl, _, rfl, ite2 (fun c => absurd (of_decide_eq_true c) (by decide +kernel)) (fun _ => ?_)⟩
    refine ⟨_, rfl, p, _, _, _, rfl, rfl, SqT.of h, rfl, _, rfl, _, _, rfl, rfl, .inr ⟨by decide, by decide⟩, _, rfl, _, _, rfl, rfl, hg m _ _ _ _ rfl ⟨y, pl1, d + 1, by rw [← e2p]; rfl, h1, by omega, by omega, fun l1 as1 H1 n1 s1 w1 e1 => ?_⟩⟩
    refine ⟨_, rfl, p, _, _, _, rfl, rfl, SqT.of (s1 _ _ h), rfl, _, rfl, _, _, rfl, rfl, .inr ⟨by decide, by decide⟩, _, rfl, _, _, rfl, rfl, hg m _ _ _ _ rfl ⟨z, pl2, d + 1, by rw [← e2p]; rfl, h2.same s1, by omega, by omega, fun l2 as2 H2 n2 s2 w2 e2 => ?_⟩⟩
    have e1' := e1.same s2
    have b1 := ends_len pl1 (d + 1)
    have b2 := ends_len pl2 (d + 1)
    have c1 : 2 ^ pl1.dp ≤ 4096 := Nat.le_trans (Nat.pow_le_pow_right (n := 2) (by decide) (show pl1.dp ≤ 12 by omega)) (by decide)
    have c2 : 2 ^ pl2.dp ≤ 4096 := Nat.le_trans (Nat.pow_le_pow_right (n := 2) (by decide) (show pl2.dp ≤ 12 by omega)) (by decide)
    refine ⟨l1, l2, _, _, rfl, rfl, s2 _ _ w1, w2, small (by rw [List.length_map, List.length_map, e1.1, e2.1]; omega), fun l3 f3 => ?_⟩
    have y3 := same_new f3 (.lst (as1.map V.ref ++ as2.map V.ref))
    have n3 : H l3 = none := by
      cases e : H l3 with
      | none => rfl
      | some o => have := s2 _ _ (s1 _ _ e); rw [f3] at this; cases this
    refine q l3 (as1 ++ as2) _ n3 ((s1.trans s2).trans y3) (by rw [upd_same, List.map_append]) ((e1'.app e2).same y3)
theorem lends_all (F : Fun K "_law_ends" "_law_ends" s__law_ends f fd) (mo : ∀ {k : Nat} {sp : Sp}, FnOk P w K mg base CX0 k f fd p__law_ends sp → Fn P w K mg base "_law_ends" p__law_ends k sp) : ∀ n : Nat, FnOk P w K mg base CX0 (n + 1) f fd p__law_ends (spLEnds K n)
  | 0 => ok__law_ends (lv := 0) (n := 0) F (mo (ok__law_same0 (sp := fun _ _ _ _ => False) (fun _ _ _ _ h => h))) (fun m vs H Q E e => by cases e)
  | n + 1 => ok__law_ends (lv := n + 1) (n := n + 1) F (mo (lends_all F mo n)) (fun m vs H Q E e h => by cases e; exact h)
end
noncomputable def spDeep (K : PySem.W.Frag) : Sp := fun vs H Q _ => ∃ (v : V) (pl : Pn), vs = [v] ∧ PnAt K H pl v ∧ pl.dp ≤ 12 ∧ ∀ H', Same H H' → Q (.int (pl.dp : Int)) H'
noncomputable def spRowsTo : Sp := fun vs H Q _ => ∃ (d D : Nat), vs = [.int (d : Int), .int (D : Int)] ∧ d ≤ D ∧ D ≤ 12 ∧ Q (.int ((2 ^ (D - d) : Nat) : Int)) H
section
variable {P : Program} {w : World} {K : PySem.W.Frag} {mg : Str → Option Value} {base : Heap} {f : Addr} {fd : FuncData}
theorem ok_rows_to (F_rows_to : Fun K "rows_to" "rows_to" s_rows_to f fd) : FnOk P w K mg base CX0 1 f fd p_rows_to spRowsTo := by
  refine F_rows_to.ok sc_rows_to (fun vs H Q E h => ?_) (fun cdv A outer s H vs Q E hr h => ?_)
  · obtain ⟨d, D, rfl, _⟩ := h
    rfl
  obtain ⟨d, D, rfl, hd, hD, q⟩ := h
  refine ⟨_, (pss_one (ps_ret (pe_op op_shl pe_int (pe_op op_sub (pv 1) (pv 0))))), ?_⟩
  refine ⟨_, rfl, _, rfl, _, _, rfl, rfl, _, _, rfl, rfl, ⟨by omega, by omega, by decide⟩, ?_⟩
  show Q (V.int (1 * 2 ^ ((D : Int) - (d : Int)).toNat)) H
  rw [show ((D : Int) - (d : Int)).toNat = D - d by omega, Int.one_mul]
  rw [Int.natCast_pow] at q
  exact q
theorem ok_deep (F_deep : Fun K "deep" "deep" s_deep f fd) (B : Bl mg) (g_ends_of : Fn P w K mg base "ends_of" p_ends_of 13 (spEnds K 12)) : FnOk P w K mg base CX0 14 f fd p_deep (spDeep K) := by
  refine F_deep.ok sc_deep (fun vs H Q E h => ?_) (fun cdv A outer s H vs Q E hr h => ?_)
  · obtain ⟨v, pl, rfl, _⟩ := h
    rfl
  obtain ⟨v, pl, rfl, hP, hd, q⟩ := h
  refine ⟨_, (pss_one (ps_ret (pe_callB (call_maxL rfl) rfl B.max_ L3.bt_max (pa_cons (pe_comp [] ["plan", "depth", "end"] 2 rfl (pi_list (pe_fn g_ends_of hr (pa_cons (pv 0) (pa_cons pe_int pa_nil)))) (fun _ _ _ _ _ => (pg_tupK K 2 rfl (pgs_cons (pg_name (i := 1) nd_4 rfl (Or.inl rfl) (Or.inr rfl)) (pgs_cons (pg_name (i := 2) nd_4 rfl (Or.inl rfl) (Or.inr rfl)) pgs_nil)) rfl rfl rfl)) (fun _ _ _ _ _ => pif_nil) (fun _ _ _ _ _ => (pv 1))) pa_nil)))), ?_⟩
  refine ⟨_, rfl, v, pl, 0, rfl, hP, hd, by decide, fun l as H1 nl s1 w1 e1 => ?_⟩
  have b1 := ends_len pl 0
  have c1 : 2 ^ pl.dp ≤ 4096 := Nat.le_trans (Nat.pow_le_pow_right (n := 2) (by decide) hd) (by decide)
  refine ⟨l, rfl, ⟨_, SqL.of w1⟩, comp_list (xs := as.map V.ref) (fun j acc σ' H' => ∃ (o2 o3 : Option V), acc = ((((ends pl 0).take j).map fun e => (e.2 : Int))).map V.int ∧ H' = H1 ∧ σ' = [some v, o2, o3]) ⟨_, _, rfl, rfl, rfl⟩
    (fun j acc σ' H' hj ⟨_, _, e', _⟩ => by
      rw [e', List.length_map, List.length_map, List.length_take]
      omega) (fun j acc σ' H' _ ⟨_, _, _, y, _⟩ => SqL.of (by rw [y]; exact w1)) ?_ ?_⟩
  · rintro j x acc σ' H' hx ⟨o2, o3, rfl, rfl, rfl⟩
    obtain ⟨a, hja⟩ : ∃ a, as[j]? = some a := by
      rw [List.getElem?_map] at hx
      cases e : as[j]? with
      | none => rw [e] at hx; cases hx
      | some r => exact ⟨r, rfl⟩
    rw [List.getElem?_map, hja] at hx
    cases hx
    have hj : j < (ends pl 0).length := by rw [← e1.1]; exact (List.getElem?_eq_some_iff.mp hja).1
    obtain ⟨en, hen⟩ : ∃ en, (ends pl 0)[j]? = some en := ⟨_, List.getElem?_eq_getElem hj⟩
    obtain ⟨lv, ha, hleaf⟩ := e1.2 j a en hja hen
    refine ⟨a, _, rfl, SqT.of ha, rfl, _, _, rfl, _, _, rfl, rfl, _, rfl, _, _, ?_, rfl, rfl⟩
    rw [List.take_add_one, hen, List.map_append, List.map_append]
    rfl
  rintro acc σ' H2 D ⟨o2, o3, rfl, rfl, rfl⟩ fD
  rw [List.length_map, e1.1, List.take_length]
  have yD := same_new fD (.lst (((ends pl 0).map fun e => (e.2 : Int)).map V.int))
  refine ⟨D, _, rfl, SqL.of upd_same, ?_, fun M hM hle => ?_⟩
  · obtain ⟨e, he, _⟩ := dp_at pl 0
    rw [List.length_map]
    exact List.length_pos_of_mem he
  · have : M = (pl.dp : Int) := by
      obtain ⟨e, he, hd⟩ := dp_at pl 0
      have h1 := hle _ (List.mem_map.mpr ⟨e, he, rfl⟩)
      obtain ⟨e', he', rfl⟩ := List.mem_map.mp hM
      have := ends_deep pl 0 e' he'
      omega
    rw [this]
    exact q _ (s1.trans yD)
end
noncomputable def bump : List (Nat × Nat) → Nat → Nat → List (Nat × Nat)
  | [], n, c => [(n, c)]
  | (m, d) :: l, n, c => if m = n then (m, d + c) :: l else (m, d) :: bump l n c
noncomputable def getc : List (Nat × Nat) → Nat → Nat
  | [], _ => 0
  | (m, d) :: l, n => if m = n then d else getc l n
noncomputable def toK (cs : List (Nat × Nat)) : List (Key × V) := cs.map fun e => (.inl (e.1 : Int), .int (e.2 : Int))
theorem bump_sum : ∀ (cs : List (Nat × Nat)) (n c : Nat), ((bump cs n c).map (·.2)).sum = (cs.map (·.2)).sum + c
  | [], n, c => by show c + 0 = 0 + c; omega
  | (m, d) :: l, n, c => by
    rw [bump]
    split
    · rw [List.map_cons, List.sum_cons, List.map_cons, List.sum_cons]; dsimp only; omega
    · rw [List.map_cons, List.sum_cons, List.map_cons, List.sum_cons, bump_sum l n c]; omega
theorem bump_keys : ∀ (cs : List (Nat × Nat)) (n c x : Nat), x ∈ (bump cs n c).map (·.1) ↔ x = n ∨ x ∈ cs.map (·.1)
  | [], n, c, x => by simp [bump]
  | (m, d) :: l, n, c, x => by
    rw [bump]
    by_cases h : m = n
    · rw [if_pos h]; subst h; simp
    · rw [if_neg h, List.map_cons, List.mem_cons, bump_keys l n c x, List.map_cons, List.mem_cons]
      constructor
      · rintro (h | h | h)
        · exact .inr (.inl h)
        · exact .inl h
        · exact .inr (.inr h)
      · rintro (h | h | h)
        · exact .inr (.inl h)
        · exact .inl h
        · exact .inr (.inr h)
theorem bump_nodup : ∀ (cs : List (Nat × Nat)) (n c : Nat), (cs.map (·.1)).Nodup → ((bump cs n c).map (·.1)).Nodup
  | [], n, c, _ => by simp [bump]
  | (m, d) :: l, n, c, h => by
    rw [List.map_cons, List.nodup_cons] at h
    rw [bump]
    by_cases e : m = n
    · rw [if_pos e, List.map_cons, List.nodup_cons]; exact h
    · rw [if_neg e, List.map_cons, List.nodup_cons]
      refine ⟨fun z => ?_, bump_nodup l n c h.2⟩
      rcases (bump_keys l n c m).mp z with y | y
      · exact e y
      · exact h.1 y
theorem getc_bump : ∀ (cs : List (Nat × Nat)) (n c x : Nat), getc (bump cs n c) x = getc cs x + if x = n then c else 0
  | [], n, c, x => by
    show (if n = x then c else 0) = 0 + _
    by_cases h : n = x
    · rw [if_pos h, if_pos h.symm]; omega
    · rw [if_neg h, if_neg (Ne.symm h)]
  | (m, d) :: l, n, c, x => by
    rw [bump]
    by_cases e : m = n
    · rw [if_pos e, getc, getc]
      by_cases h : m = x
      · rw [if_pos h, if_pos h, if_pos (by omega)]
      · rw [if_neg h, if_neg h, if_neg (by omega)]; rfl
    · rw [if_neg e, getc, getc]
      by_cases h : m = x
      · rw [if_pos h, if_pos h, if_neg (by omega)]; rfl
      · rw [if_neg h, if_neg h, getc_bump l n c x]
theorem toK_any : ∀ (cs : List (Nat × Nat)) (n : Nat), ((toK cs).any fun kv => decide (kv.1 = (Sum.inl (n : Int) : Key))) = decide (n ∈ cs.map (·.1))
  | [], n => rfl
  | (m, d) :: l, n => by
    have ih := toK_any l n
    unfold toK at ih ⊢
    rw [List.map_cons, List.any_cons, ih]
    by_cases h : m = n
    · subst h; simp
    · have : ¬ ((Sum.inl (m : Int) : Key) = Sum.inl (n : Int)) := fun z => h (by injection z with z; omega)
      simp only [decide_eq_false this, Bool.false_or]
      rw [decide_eq_decide, List.map_cons, List.mem_cons]
      exact ⟨fun z => .inr z, fun z => z.resolve_left (Ne.symm h)⟩
theorem toK_same : ∀ (cs : List (Nat × Nat)) (n : Nat) (v : V), n ∉ cs.map (·.1) → (toK cs).map (fun kv => if kv.1 = (Sum.inl (n : Int) : Key) then (kv.1, v) else kv) = toK cs
  | [], n, v, _ => rfl
  | (m, d) :: l, n, v, h => by
    rw [List.map_cons, List.mem_cons, not_or] at h
    have ih := toK_same l n v h.2
    unfold toK at ih ⊢
    have : ¬ ((Sum.inl (m : Int) : Key) = Sum.inl (n : Int)) := fun z => h.1 (by injection z with z; omega)
    rw [List.map_cons, List.map_cons, ih, if_neg this]
theorem toK_map : ∀ (cs : List (Nat × Nat)) (n c : Nat), (cs.map (·.1)).Nodup → n ∈ cs.map (·.1) → (toK cs).map (fun kv => if kv.1 = (Sum.inl (n : Int) : Key) then (kv.1, V.int ((getc cs n + c : Nat) : Int)) else kv) = toK (bump cs n c)
  | [], n, c, _, h => by cases h
  | (m, d) :: l, n, c, nd, h => by
    rw [List.map_cons, List.nodup_cons] at nd
    by_cases e : m = n
    · subst e
      have := toK_same l m (V.int ((getc ((m, d) :: l) m + c : Nat) : Int)) nd.1
      have e2 : getc ((m, d) :: l) m = d := if_pos rfl
      rw [bump, if_pos rfl]
      show (if (Sum.inl (m : Int) : Key) = Sum.inl (m : Int) then _ else _) :: (toK l).map _ = _ :: toK l
      rw [if_pos rfl, this, e2]
    · have h' : n ∈ l.map (·.1) := by
        rw [List.map_cons, List.mem_cons] at h
        exact h.resolve_left (Ne.symm e)
      have ih := toK_map l n c nd.2 h'
      have e2 : getc ((m, d) :: l) n = getc l n := if_neg e
      have : ¬ ((Sum.inl (m : Int) : Key) = Sum.inl (n : Int)) := fun z => e (by injection z with z; omega)
      rw [bump, if_neg e, e2]
      show (if (Sum.inl (m : Int) : Key) = Sum.inl (n : Int) then _ else _) :: (toK l).map _ = _ :: toK (bump l n c)
      rw [if_neg this, ih]
theorem bump_new : ∀ (cs : List (Nat × Nat)) (n c : Nat), n ∉ cs.map (·.1) → bump cs n c = cs ++ [(n, c)] ∧ getc cs n = 0
  | [], n, c, _ => ⟨rfl, rfl⟩
  | (m, d) :: l, n, c, h => by
    rw [List.map_cons, List.mem_cons, not_or] at h
    obtain ⟨h1, h2⟩ := bump_new l n c h.2
    rw [bump, if_neg (Ne.symm h.1), h1, getc, if_neg (Ne.symm h.1)]
    exact ⟨rfl, h2⟩
theorem toK_put {cs : List (Nat × Nat)} {n c : Nat} (nd : (cs.map (·.1)).Nodup) : putK (toK cs) (Sum.inl (n : Int) : Key) (V.int ((getc cs n + c : Nat) : Int)) = toK (bump cs n c) := by
  unfold putK
  rw [toK_any]
  by_cases h : n ∈ cs.map (·.1)
  · rw [if_pos (decide_eq_true h), toK_map cs n c nd h]
  · rw [if_neg (by rw [decide_eq_false h]; decide)]
    obtain ⟨h1, h2⟩ := bump_new cs n c h
    rw [h1, h2, Nat.zero_add]
    unfold toK
    rw [List.map_append]
    rfl
theorem toK_get : ∀ (cs : List (Nat × Nat)) (n : Nat), valV (toK cs) (Sum.inl (n : Int) : Key) = if n ∈ cs.map (·.1) then some (V.int (getc cs n : Int)) else none
  | [], n => rfl
  | (m, d) :: l, n => by
    have ih := toK_get l n
    unfold toK at ih ⊢
    by_cases e : m = n
    · subst e
      rw [List.map_cons, valV_pos rfl, if_pos (by simp), getc, if_pos rfl]
    · have : ¬ ((Sum.inl (m : Int) : Key) = Sum.inl (n : Int)) := fun z => e (by injection z with z; omega)
      rw [List.map_cons, valV_neg this, ih, getc, if_neg e]
      by_cases h : n ∈ l.map (·.1)
      · rw [if_pos h, if_pos (by rw [List.map_cons, List.mem_cons]; exact .inr h)]
      · rw [if_neg h, if_neg (by rw [List.map_cons, List.mem_cons]; rintro (z | z); exact e z.symm; exact h z)]
theorem toK_getD (cs : List (Nat × Nat)) (n : Nat) : (valV (toK cs) (Sum.inl (n : Int) : Key)).getD (.int 0) = V.int (getc cs n : Int) := by
  rw [toK_get]
  by_cases h : n ∈ cs.map (·.1)
  · rw [if_pos h]; rfl
  · rw [if_neg h, (bump_new cs n 0 h).2]; rfl
noncomputable def cts (nd : List (Nat × Nat)) (D : Nat) : List (Nat × Nat) := nd.foldl (fun cs e => bump cs e.1 (2 ^ (D - e.2))) []
theorem cts_snoc (nd : List (Nat × Nat)) (e : Nat × Nat) (D : Nat) : cts (nd ++ [e]) D = bump (cts nd D) e.1 (2 ^ (D - e.2)) := by
  unfold cts
  rw [List.foldl_append]
  rfl
theorem bump_len : ∀ (cs : List (Nat × Nat)) (n c : Nat), (bump cs n c).length ≤ cs.length + 1
  | [], n, c => by show 1 ≤ 0 + 1; omega
  | (m, d) :: l, n, c => by
    rw [bump]
    have := bump_len l n c
    split
    · simp
    · simp; omega
theorem fold_len (D : Nat) : ∀ (nd cs : List (Nat × Nat)), (nd.foldl (fun cs e => bump cs e.1 (2 ^ (D - e.2))) cs).length ≤ cs.length + nd.length
  | [], cs => Nat.le_refl _
  | e :: nd, cs => by
    have h := fold_len D nd (bump cs e.1 (2 ^ (D - e.2)))
    have := bump_len cs e.1 (2 ^ (D - e.2))
    rw [List.foldl_cons, List.length_cons]
    omega
theorem cts_len (nd : List (Nat × Nat)) (D : Nat) : (cts nd D).length ≤ nd.length := by
  have := fold_len D nd []
  unfold cts
  simpa using this
theorem fold_nodup (D : Nat) : ∀ (nd cs : List (Nat × Nat)), (cs.map (·.1)).Nodup → ((nd.foldl (fun cs e => bump cs e.1 (2 ^ (D - e.2))) cs).map (·.1)).Nodup
  | [], cs, h => h
  | e :: l, cs, h => fold_nodup D l _ (bump_nodup cs e.1 _ h)
theorem cts_nodup (nd : List (Nat × Nat)) (D : Nat) : ((cts nd D).map (·.1)).Nodup := fold_nodup D nd [] List.nodup_nil
theorem fold_keys (D x : Nat) : ∀ (nd cs : List (Nat × Nat)), x ∈ (nd.foldl (fun cs e => bump cs e.1 (2 ^ (D - e.2))) cs).map (·.1) ↔ x ∈ cs.map (·.1) ∨ x ∈ nd.map (·.1)
  | [], cs => by simp
  | e :: l, cs => by
    rw [List.foldl_cons, fold_keys D x l, bump_keys, List.map_cons, List.mem_cons]
    constructor
    · rintro ((h | h) | h)
      · exact .inr (.inl h)
      · exact .inl h
      · exact .inr (.inr h)
    · rintro (h | h | h)
      · exact .inl (.inr h)
      · exact .inl (.inl h)
      · exact .inr h
theorem cts_keys (nd : List (Nat × Nat)) (D x : Nat) : x ∈ (cts nd D).map (·.1) ↔ x ∈ nd.map (·.1) := by
  unfold cts
  rw [fold_keys]
  simp
theorem fold_sum (D : Nat) : ∀ (nd cs : List (Nat × Nat)), ((nd.foldl (fun cs e => bump cs e.1 (2 ^ (D - e.2))) cs).map (·.2)).sum = (cs.map (·.2)).sum + (nd.map fun e => 2 ^ (D - e.2)).sum
  | [], cs => rfl
  | e :: l, cs => by rw [List.foldl_cons, fold_sum D l, bump_sum, List.map_cons, List.sum_cons]; omega
theorem fold_get (D x : Nat) : ∀ (nd cs : List (Nat × Nat)), getc (nd.foldl (fun cs e => bump cs e.1 (2 ^ (D - e.2))) cs) x = getc cs x + (nd.map fun e => if x = e.1 then 2 ^ (D - e.2) else 0).sum
  | [], cs => rfl
  | e :: l, cs => by rw [List.foldl_cons, fold_get D x l, getc_bump, List.map_cons, List.sum_cons]; omega
theorem nums_sum (D : Nat) : ∀ es : List (Option Nat × Nat), ((nums es).map fun e => 2 ^ (D - e.2)).sum = shP (·.isSome) es D
  | [] => rfl
  | (none, d) :: l => by
    have := nums_sum D l
    unfold shP at this ⊢
    rw [List.map_cons, List.sum_cons, if_neg (by show ¬ false = true; decide), Nat.zero_add]
    exact this
  | (some n, d) :: l => by
    have := nums_sum D l
    unfold shP at this ⊢
    rw [List.map_cons, List.sum_cons, if_pos (by rfl), ← this]
    rfl
theorem nums_get (D x : Nat) : ∀ es : List (Option Nat × Nat), ((nums es).map fun e => if x = e.1 then 2 ^ (D - e.2) else 0).sum = shP (· == some x) es D
  | [] => rfl
  | (none, d) :: l => by
    have := nums_get D x l
    unfold shP at this ⊢
    rw [List.map_cons, List.sum_cons, if_neg (by simp), Nat.zero_add]
    exact this
  | (some n, d) :: l => by
    have := nums_get D x l
    unfold shP at this ⊢
    rw [List.map_cons, List.sum_cons, ← this]
    show (if x = n then 2 ^ (D - d) else 0) + _ = _
    congr 1
    by_cases h : x = n
    · rw [if_pos h, if_pos (by simpa using h.symm)]
    · rw [if_neg h, if_neg (by simpa using Ne.symm h)]
theorem cts_sum (es : List (Option Nat × Nat)) (D : Nat) : ((cts (nums es) D).map (·.2)).sum = shP (·.isSome) es D := by
  unfold cts
  rw [fold_sum, nums_sum]
  show 0 + _ = _
  rw [Nat.zero_add]
theorem cts_get (es : List (Option Nat × Nat)) (D x : Nat) : getc (cts (nums es) D) x = shP (· == some x) es D := by
  unfold cts
  rw [fold_get, nums_get]
  show 0 + _ = _
  rw [Nat.zero_add]
theorem nums_mem (es : List (Option Nat × Nat)) (x : Nat) : x ∈ (nums es).map (·.1) ↔ ∃ d, (some x, d) ∈ es := by
  unfold nums
  rw [List.mem_map]
  constructor
  · rintro ⟨e, he, rfl⟩
    obtain ⟨e', he', h⟩ := List.mem_filterMap.mp he
    obtain ⟨o, d⟩ := e'
    cases o with
    | none => cases h
    | some n => cases h; exact ⟨d, he'⟩
  · rintro ⟨d, h⟩
    exact ⟨(x, d), List.mem_filterMap.mpr ⟨_, h, rfl⟩, rfl⟩
theorem sorted_nats {ks : List Nat} {ns : List Int} (nd : ks.Nodup) (hp : ns.Perm (ks.map fun (n : Nat) => (n : Int))) (ho : ns.Pairwise (· ≤ ·)) : ∃ ms : List Nat, ns = ms.map (fun (n : Nat) => (n : Int)) ∧ ms.Pairwise (· < ·) ∧ ∀ n, n ∈ ms ↔ n ∈ ks := by
  have hnn : ∀ z ∈ ns, 0 ≤ z := fun z hz => by
    obtain ⟨n, _, rfl⟩ := List.mem_map.mp (hp.mem_iff.mp hz)
    omega
  have e1 : ns = (ns.map Int.toNat).map (fun (n : Nat) => (n : Int)) := by
    rw [List.map_map]
    conv => lhs; rw [← List.map_id ns]
    refine List.map_congr_left fun z hz => ?_
    have := hnn z hz
    show z = ((z.toNat : Nat) : Int)
    omega
  have hnd : ns.Nodup := by
    rw [hp.nodup_iff]
    exact List.Pairwise.map _ (fun a b h e => h (by omega)) nd
  have hlt : ns.Pairwise (· < ·) := by
    have := List.Pairwise.and ho hnd
    exact this.imp fun {a b} ⟨h1, h2⟩ => by omega
  refine ⟨ns.map Int.toNat, e1, ?_, fun n => ?_⟩
  · rw [e1] at hlt
    rw [List.pairwise_map] at hlt
    exact hlt.imp fun {a b} h => by omega
  · constructor
    · intro h
      have : (n : Int) ∈ ns := by
        rw [e1]
        exact List.mem_map.mpr ⟨n, h, rfl⟩
      obtain ⟨m, hm, e⟩ := List.mem_map.mp (hp.mem_iff.mp this)
      have : m = n := by omega
      rw [← this]; exact hm
    · intro h
      have : (n : Int) ∈ ns := hp.mem_iff.mpr (List.mem_map.mpr ⟨n, h, rfl⟩)
      exact List.mem_map.mpr ⟨_, this, by omega⟩
theorem shP_le (P : Option Nat → Bool) : ∀ (l : List (Option Nat × Nat)) (D : Nat), shP P l D ≤ l.length * 2 ^ D
  | [], D => Nat.zero_le _
  | e :: l, D => by
    have ih := shP_le P l D
    unfold shP at ih ⊢
    rw [List.map_cons, List.sum_cons, List.length_cons, Nat.succ_mul]
    have : 2 ^ (D - e.2) ≤ 2 ^ D := Nat.pow_le_pow_right (by decide) (by omega)
    have h3 := Nat.two_pow_pos D
    split <;> omega
noncomputable def spSh (K : PySem.W.Frag) (CS : Addr) : Sp := fun vs H Q E => ∃ (v : V) (pl : Pn), vs = [v] ∧ PnAt K H pl v ∧ pl.dp ≤ 5 ∧
  (pl.has = true → ∀ p (rs : List Addr) (ms : List Nat) H', Same H H' → H' p = some (.tup (rs.map V.ref)) → ms.Pairwise (· < ·) → (∀ (n : Nat), n ∈ ms ↔ ∃ d, (some n, d) ∈ ends pl 0) → rs.length = ms.length → ms.length ≤ 32 →
    (∀ (j : Nat) (r : Addr) (n : Nat), rs[j]? = some r → ms[j]? = some n → ∃ fp, H' r = some (.tup [.int (n : Int), .ref fp]) ∧ H' fp = some (.tup (frV (shP (· == some n) (ends pl 0) pl.dp) (shP (·.isSome) (ends pl 0) pl.dp)))) → Q (.ref p) H') ∧
  (pl.has = false → ∀ H', Same H H' → E (.ref CS) none H')
section
variable {P : Program} {w : World} {K : PySem.W.Frag} {mg : Str → Option Value} {base : Heap} {f CS : Addr} {fd : FuncData}
theorem ok_shares_of (F_shares_of : Fun K "shares_of" "shares_of" s_shares_of f fd) (B : Bl mg) {fN : Addr} {dN : FuncData} (g_numbered_ends : FnX P w K mg base "numbered_ends" fN dN p_numbered_ends 14 (spNE2 K CS)) (g_deep : Fn P w K mg base "deep" p_deep 14 (spDeep K)) (g_rows_to : Fn P w K mg base "rows_to" p_rows_to 14 spRowsTo) (g_fraction : Fn P w K mg base "fraction" p_fraction 14 spFrac) : FnOk P w K mg base (CXR P w) 15 f fd p_shares_of (spSh K CS) := by
  refine F_shares_of.okX sc_shares_of (fun vs H Q E h => ?_) (fun cdv A outer s H vs Q E hr h => ?_)
  · obtain ⟨v, pl, rfl, _⟩ := h
    rfl
  obtain ⟨v, pl, rfl, hP, hd, q, ee⟩ := h
  refine ⟨_, (pss_cons (ps_set (i := 1) sc_shares_of.nd rfl (Or.inl rfl) (pe_fn g_deep hr (pa_cons (pv 0) pa_nil)))
      (pss_cons (ps_set (i := 2) sc_shares_of.nd rfl (Or.inr rfl) pe_dnewK)
      (pss_cons (ps_for (PassesOwn.leaving (M := model P w)) rfl (pi_list (pe_fnX g_numbered_ends hr (pa_cons (pv 0) pa_nil))) (pg_tup rfl (pgs_cons (pg_name (i := 3) sc_shares_of.nd rfl (Or.inl rfl)) (pgs_cons (pg_name (i := 4) sc_shares_of.nd rfl (Or.inl rfl)) pgs_nil))) (pss_one (ps_dput hr.units1 (pv 2) (pv 4) (pe_op op_add (pe_dget2 hr.units1 (pv 2) (pv 4) pe_int ⟨rfl, rfl, rfl, rfl⟩) (pe_fn g_rows_to hr (pa_cons (pv 3) (pa_cons (pv 1) pa_nil)))) rfl)))
      (pss_cons (ps_set (i := 5) sc_shares_of.nd rfl (Or.inr rfl) (pe_sumVals rfl rfl B.sum_ (pv 2)))
      (pss_one (ps_ret (pe_callTy call_tuple_of rfl B.tuple_ L3.bt_tuple (pa_cons (pe_comp [4] ["plan", "deepest", "rows", "depth", "number", "total"] 0 rfl (pi_list (pe_callB (call_sortedD rfl) rfl B.sorted_ L3.bt_sorted (pa_cons (pv 2) pa_nil))) (fun _ _ _ _ _ => (pg_name (i := 4) nd_5 rfl (Or.inl rfl) (Or.inr rfl))) (fun _ _ _ _ _ => pif_nil) (fun _ _ _ _ _ => (pe_tup (pa_cons (pv 4) (pa_cons (pe_fn g_fraction hr (pa_cons (pe_dget hr.units1 (pv 2) (pv 4) (fun _ _ => rfl)) (pa_cons (pv 5) pa_nil))) pa_nil))))) pa_nil)))))))), ?_⟩
  refine ⟨_, rfl, v, pl, rfl, hP, Nat.le_trans hd (by decide), fun H1 s1 => ?_⟩
  refine fun d fd' => ?_
  have yd := same_new fd' (.dK [])
  have wd : (upd H1 d (.dK [])) d = some (.dK []) := upd_same
  generalize upd H1 d (.dK []) = H2 at yd wd ⊢
  have s2 := s1.trans yd
  refine ⟨_, rfl, v, pl, rfl, hP.same s2, Nat.le_trans hd (by decide), fun hh l as H3 s3 w3 e3 => ?_, fun c H3 s3 => ee c H3 (s2.trans s3)⟩
  have b1 := ends_len pl 0
  have c1 : 2 ^ pl.dp ≤ 32 := Nat.le_trans (Nat.pow_le_pow_right (n := 2) (by decide) hd) (by decide)
  have hdl : ∀ e ∈ nums (ends pl 0), e.2 ≤ pl.dp := fun e he => by
    obtain ⟨e', he', h⟩ := List.mem_filterMap.mp he
    have := (ends_deep pl 0 e' he').2
    obtain ⟨o, d⟩ := e'
    cases o with
    | none => cases h
    | some n => cases h; show d ≤ _; omega
  have fdH : ∀ c o, H c = some o → c ≠ d := fun c o e z => by rw [z] at e; have := s1 _ _ e; rw [fd'] at this; cases this
  have hnl : (nums (ends pl 0)).length ≤ 32 := Nat.le_trans (List.length_filterMap_le _ _) (by omega)
  refine ⟨l, rfl, ⟨_, SqL.of w3⟩, for_list (xs := as.map V.ref) (fun j σ' H' => ∃ (o3 o4 : Option V), σ' = [some v, some (.int (pl.dp : Int)), some (.ref d), o3, o4, none] ∧ (∀ c o, c ≠ d → H3 c = some o → H' c = some o) ∧ H' d = some (.dK (toK (cts ((nums (ends pl 0)).take j) pl.dp))))
    ⟨_, _, rfl, fun c o _ e => e, s3 _ _ wd⟩ (fun j σ' H' _ ⟨_, _, _, y, _⟩ => SqL.of (y _ _ (fun z => by rw [z, s3 _ _ wd] at w3; cases w3) w3)) ?_ ?_⟩
  · rintro j x σ' H4 hx ⟨o3, o4, rfl, y, hD⟩
    obtain ⟨a, hja⟩ : ∃ a, as[j]? = some a := by
      rw [List.getElem?_map] at hx
      cases e : as[j]? with
      | none => rw [e] at hx; cases hx
      | some r => exact ⟨r, rfl⟩
    rw [List.getElem?_map, hja] at hx
    cases hx
    have hj : j < (nums (ends pl 0)).length := by rw [← e3.1]; exact (List.getElem?_eq_some_iff.mp hja).1
    obtain ⟨en, hen⟩ : ∃ en, (nums (ends pl 0))[j]? = some en := ⟨_, List.getElem?_eq_getElem hj⟩
    have ha := e3.2 j a en hja hen
    have ha' := y a _ (fun z => by rw [z, s3 _ _ wd] at ha; cases ha) ha
    have hle := hdl en (List.mem_of_getElem? hen)
    have hnext : cts ((nums (ends pl 0)).take (j + 1)) pl.dp = bump (cts ((nums (ends pl 0)).take j) pl.dp) en.1 (2 ^ (pl.dp - en.2)) := by
      rw [List.take_add_one, hen]
      exact cts_snoc _ _ _
    have hlen : (cts ((nums (ends pl 0)).take j) pl.dp).length ≤ 32 := by
      have := cts_len ((nums (ends pl 0)).take j) pl.dp
      rw [List.length_take] at this
      omega
    have hnd := cts_nodup ((nums (ends pl 0)).take j) pl.dp
    generalize cts ((nums (ends pl 0)).take j) pl.dp = cs at hD hnext hlen hnd
    refine ⟨a, _, rfl, SqT.of ha', rfl, _, _, rfl, _, _, rfl, rfl, ?_⟩
    refine ⟨_, rfl, d, rfl, .inl ⟨_, .inl hD⟩, _, rfl, _, DGet.k (k := .inl (en.1 : Int)) hD, _, rfl, _, rfl, en.2, pl.dp, rfl, hle, Nat.le_trans hd (by decide), _, _, toK_getD cs en.1, rfl, ?_⟩
    refine ⟨_, rfl, _, rfl, d, _, rfl, DPut.k (k := .inl (en.1 : Int)) hD (smallL (by unfold toK; rw [List.length_map]; omega)), ?_⟩
    refine ⟨_, _, rfl, fun c o hc e => by rw [upd_ne hc]; exact y c o hc e, ?_⟩
    rw [upd_same, hnext, ← toK_put hnd]
    rfl
  rintro σ' H4 ⟨o3, o4, rfl, y, hD⟩
  rw [List.length_map, e3.1, List.take_length] at hD
  have hnd := cts_nodup (nums (ends pl 0)) pl.dp
  have hlen : (cts (nums (ends pl 0)) pl.dp).length ≤ 32 := by
    have := cts_len (nums (ends pl 0)) pl.dp
    omega
  have hsum := cts_sum (ends pl 0) pl.dp
  have hget := cts_get (ends pl 0) pl.dp
  have hkey : ∀ x, x ∈ (cts (nums (ends pl 0)) pl.dp).map (·.1) ↔ ∃ d, (some x, d) ∈ ends pl 0 := fun x => by rw [cts_keys]; exact nums_mem _ x
  generalize cts (nums (ends pl 0)) pl.dp = cs at hD hnd hlen hsum hget hkey
  have hpos : 0 < shP (fun o => o.isSome) (ends pl 0) pl.dp := by
    have hh2 := hh
    rw [← has_ends pl 0, List.any_eq_true] at hh2
    obtain ⟨e, he, hs⟩ := hh2
    exact shP_mem (P := fun o => o.isSome) (e := e) hs he
  generalize hT : shP (fun o => o.isSome) (ends pl 0) pl.dp = T at hpos hsum q
  refine ⟨_, rfl, d, _, (cs.map fun e => (e.2 : Int)), rfl, hD, by unfold toK; rw [List.map_map, List.map_map]; rfl, ?_⟩
  have es : (cs.map fun e => (e.2 : Int)).sum = (T : Int) := by
    rw [← hsum, ← sum_nats, List.map_map]
    rfl
  rw [es]
  refine ⟨_, rfl, d, _, (cs.map (·.1)).map (fun (n : Nat) => (n : Int)), rfl, hD, by unfold toK; rw [List.map_map, List.map_map, List.map_map]; rfl, by rw [List.length_map, List.length_map]; omega, fun L ns' fL hp ho => ?_⟩
  obtain ⟨ms, rfl, hms, hmem⟩ := sorted_nats hnd hp ho
  have yL := same_new fL (.lst ((ms.map fun (n : Nat) => (n : Int)).map V.int))
  have wL : (upd H4 L (.lst ((ms.map fun (n : Nat) => (n : Int)).map V.int))) L = some (.lst ((ms.map fun (n : Nat) => (n : Int)).map V.int)) := upd_same
  generalize upd H4 L (.lst ((ms.map fun (n : Nat) => (n : Int)).map V.int)) = H5 at yL wL ⊢
  have hD5 := yL _ _ hD
  have hml : ms.length ≤ 32 := by
    have := hp.length_eq
    rw [List.length_map, List.length_map, List.length_map] at this
    omega
  have hTf : Fit T := by
    refine Fit.of ?_
    have h1 := shP_le (fun o => o.isSome) (ends pl 0) pl.dp
    rw [hT] at h1
    have h2 : (ends pl 0).length * 2 ^ pl.dp ≤ 4096 * 4096 := Nat.mul_le_mul (by omega) (Nat.le_trans c1 (by decide))
    omega
  refine ⟨L, rfl, ⟨_, SqL.of wL⟩, comp_list (xs := (ms.map fun (n : Nat) => (n : Int)).map V.int) (fun j acc σ' H' => ∃ (rs : List Addr) (o3 o4 : Option V), acc = rs.map V.ref ∧ rs.length = j ∧ σ' = [some v, some (.int (pl.dp : Int)), some (.ref d), o3, o4, some (.int (T : Int))] ∧ Same H5 H' ∧ ∀ (i : Nat) (r : Addr) (n : Nat), rs[i]? = some r → ms[i]? = some n → ∃ fp, H' r = some (.tup [.int (n : Int), .ref fp]) ∧ H' fp = some (.tup (frV (getc cs n) T)))
    ⟨[], _, _, rfl, rfl, rfl, Same.refl _, fun i r n e => by simp at e⟩
    (fun j acc σ' H' hj ⟨rs, _, _, e', hb, _⟩ => by
      rw [e', List.length_map]
      rw [List.length_map, List.length_map] at hj
      omega) (fun j acc σ' H' _ ⟨_, _, _, _, _, _, y', _⟩ => SqL.of (y' _ _ wL)) ?_ ?_⟩
  · rintro j x acc σ' H6 hx ⟨rs, o3, o4, rfl, hrl, rfl, y6, hr6⟩
    rw [List.getElem?_map, List.getElem?_map] at hx
    obtain ⟨n, hn⟩ : ∃ n, ms[j]? = some n := by
      cases e : ms[j]? with
      | none => rw [e] at hx; cases hx
      | some r => exact ⟨r, rfl⟩
    rw [hn] at hx
    obtain rfl : V.int (n : Int) = x := Option.some.inj hx
    have hin : n ∈ cs.map (·.1) := (hmem n).mp (List.mem_of_getElem? hn)
    have hg := DGet.k (k := .inl (n : Int)) (y6 _ _ hD5)
    rw [toK_get, if_pos hin] at hg
    refine ⟨_, rfl, _, rfl, _, rfl, d, _, rfl, hg, _, rfl, getc cs n, T, rfl, hpos, hTf, fun fp H7 y7 w7 => ?_⟩
    refine ⟨(by show 2 ≤ sizeLine; decide), fun p fp' => ?_⟩
    have y8 := same_new fp' (.tup [V.int (n : Int), V.ref fp])
    have w8 : (upd H7 p (.tup [V.int (n : Int), V.ref fp])) p = some (.tup [V.int (n : Int), V.ref fp]) := upd_same
    generalize upd H7 p (.tup [V.int (n : Int), V.ref fp]) = H8 at y8 w8 ⊢
    refine ⟨rs ++ [p], _, _, by rw [List.map_append]; rfl, by rw [List.length_append, hrl]; rfl, rfl, (y6.trans y7).trans y8, fun i r n' e1 e2 => ?_⟩
    by_cases c : i < rs.length
    · rw [List.getElem?_append_left c] at e1
      obtain ⟨fp2, z1, z2⟩ := hr6 i r n' e1 e2
      exact ⟨fp2, y8 _ _ (y7 _ _ z1), y8 _ _ (y7 _ _ z2)⟩
    · rw [List.getElem?_append_right (by omega)] at e1
      have hi : i - rs.length = 0 := by
        have := (List.getElem?_eq_some_iff.mp e1).1
        simpa using this
      rw [hi] at e1
      cases e1
      have hi2 : i = j := by omega
      subst hi2
      rw [hn] at e2
      cases e2
      exact ⟨fp, w8, y8 _ _ w7⟩
  rintro acc σ' H6 D ⟨rs, o3, o4, rfl, hrl, rfl, y6, hr6⟩ fD
  rw [List.length_map, List.length_map] at hrl
  have yD := same_new fD (.lst (rs.map V.ref))
  refine ⟨D, _, rfl, .inl ⟨SqL.of upd_same, fun p fp => ?_⟩⟩
  have yp := same_new fp (.tup (rs.map V.ref))
  refine q hh p rs ms _ (fun c o e => ?_) upd_same hms (fun n => ?_) hrl hml (fun i r n e1 e2 => ?_)
  · have e3 := s3 _ _ (s2 _ _ e)
    exact yp _ _ (yD _ _ (y6 _ _ (yL _ _ (y c o (fdH c o e) e3))))
  · rw [hmem, hkey]
  · obtain ⟨fp2, z1, z2⟩ := hr6 i r n e1 e2
    rw [hget] at z2
    exact ⟨fp2, yp _ _ (yD _ _ z1), yp _ _ (yD _ _ z2)⟩
end
noncomputable def ShL (H : Hp) (rs : List Addr) (ms : List Nat) (F : Nat → List V) : Prop := rs.length = ms.length ∧ ∀ (j : Nat) (r : Addr) (n : Nat), rs[j]? = some r → ms[j]? = some n → ∃ fp, H r = some (.tup [.int (n : Int), .ref fp]) ∧ H fp = some (.tup (F n))
theorem ShL.same {H H' : Hp} {rs : List Addr} {ms : List Nat} {F : Nat → List V} (h : ShL H rs ms F) (s : Same H H') : ShL H' rs ms F := ⟨h.1, fun j r n e1 e2 => by
  obtain ⟨fp, z1, z2⟩ := h.2 j r n e1 e2
  exact ⟨fp, s _ _ z1, s _ _ z2⟩⟩
theorem ShL.snoc {H : Hp} {rs : List Addr} {ms : List Nat} {F : Nat → List V} {p fp : Addr} {n : Nat} (h : ShL H rs ms F) (hp : H p = some (.tup [.int (n : Int), .ref fp])) (hf : H fp = some (.tup (F n))) : ShL H (rs ++ [p]) (ms ++ [n]) F := by
  refine ⟨by rw [List.length_append, List.length_append, h.1]; rfl, fun j a e e1 e2 => ?_⟩
  by_cases c : j < rs.length
  · rw [List.getElem?_append_left c] at e1
    rw [List.getElem?_append_left (by rw [← h.1]; exact c)] at e2
    exact h.2 j a e e1 e2
  · rw [List.getElem?_append_right (by omega)] at e1
    rw [List.getElem?_append_right (by rw [← h.1]; omega), ← h.1] at e2
    have hj : j - rs.length = 0 := by
      have := (List.getElem?_eq_some_iff.mp e1).1
      simpa using this
    rw [hj] at e1 e2
    cases e1
    cases e2
    exact ⟨fp, hp, hf⟩
noncomputable def tkS (es : List (Option Nat × Nat)) (D : Nat) : Nat := (es.map fun e => e.2 * 2 ^ (D - e.2)).sum
noncomputable def Srt (pl : Pn) (ms : List Nat) : Prop := ms.Pairwise (· < ·) ∧ (∀ n : Nat, n ∈ ms ↔ ∃ d, (some n, d) ∈ ends pl 0) ∧ ms.length ≤ 4096
theorem has_pos {pl : Pn} (hh : pl.has = true) : 0 < shP (fun o => o.isSome) (ends pl 0) pl.dp := by
  have hh2 := hh
  rw [← has_ends pl 0, List.any_eq_true] at hh2
  obtain ⟨e, he, hs⟩ := hh2
  exact shP_mem (P := fun o => o.isSome) (e := e) hs he
theorem pow_dp {pl : Pn} (hd : pl.dp ≤ 12) : 2 ^ pl.dp ≤ 4096 := Nat.le_trans (Nat.pow_le_pow_right (n := 2) (by decide) hd) (by decide)
theorem ends_4096 {pl : Pn} (hd : pl.dp ≤ 12) (d : Nat) : (ends pl d).length ≤ 4096 := Nat.le_trans (ends_len pl d) (pow_dp hd)
theorem shP_fit {P : Option Nat → Bool} {pl : Pn} (hd : pl.dp ≤ 12) : shP P (ends pl 0) pl.dp ≤ 16777216 := by
  have h1 := shP_le P (ends pl 0) pl.dp
  have h2 : (ends pl 0).length * 2 ^ pl.dp ≤ 4096 * 4096 := Nat.mul_le_mul (ends_4096 hd 0) (pow_dp hd)
  omega
noncomputable def spMean (K : PySem.W.Frag) (CS : Addr) : Sp := fun vs H Q E => ∃ (v : V) (pl : Pn), vs = [v] ∧ PnAt K H pl v ∧ pl.dp ≤ 12 ∧
  (pl.has = true → ∀ p H', Same H H' → H' p = some (.tup (frV (tkS (ends pl 0) pl.dp) (shP (·.isSome) (ends pl 0) pl.dp))) → Q (.ref p) H') ∧
  (pl.has = false → ∀ H', Same H H' → E (.ref CS) none H')
section
variable {P : Program} {w : World} {K : PySem.W.Frag} {mg : Str → Option Value} {base : Heap} {f CS : Addr} {fd : FuncData} {mS : List Value}
theorem ok_mean_of (F_mean_of : Fun K "mean_of" "mean_of" s_mean_of f fd) (B : Bl mg) {fN : Addr} {dN : FuncData} (g_numbered_ends : FnX P w K mg base "numbered_ends" fN dN p_numbered_ends 14 (spNE2 K CS)) (g_deep : Fn P w K mg base "deep" p_deep 14 (spDeep K)) (g_ends_of : Fn P w K mg base "ends_of" p_ends_of 14 (spEnds K 12)) (g_rows_to : Fn P w K mg base "rows_to" p_rows_to 14 spRowsTo) (g_fraction : Fn P w K mg base "fraction" p_fraction 14 spFrac) : FnOk P w K mg base (CXR P w) 15 f fd p_mean_of (spMean K CS) := by
  refine F_mean_of.okX sc_mean_of (fun vs H Q E h => ?_) (fun cdv A outer s H vs Q E hr h => ?_)
  · obtain ⟨v, pl, rfl, _⟩ := h
    rfl
  obtain ⟨v, pl, rfl, hP, hd, q, ee⟩ := h
  refine ⟨_, (pss_cons (ps_set (i := 1) sc_mean_of.nd rfl (Or.inr rfl) (pe_fn g_deep hr (pa_cons (pv 0) pa_nil)))
      (pss_cons (ps_set (i := 2) sc_mean_of.nd rfl (Or.inl rfl) (pe_callB (call_sumL rfl) rfl B.sum_ L3.bt_sum (pa_cons (pe_comp [] ["plan", "deepest", "ending", "taken", "depth", "number"] 2 rfl (pi_list (pe_fnX g_numbered_ends hr (pa_cons (pv 0) pa_nil))) (fun _ _ _ _ _ => (pg_tupK K 2 rfl (pgs_cons (pg_name (i := 4) nd_6 rfl (Or.inl rfl) (Or.inr rfl)) (pgs_cons (pg_name (i := 5) nd_6 rfl (Or.inl rfl) (Or.inr rfl)) pgs_nil)) rfl rfl rfl)) (fun _ _ _ _ _ => pif_nil) (fun _ _ _ _ _ => (pe_fn g_rows_to hr (pa_cons (pv 4) (pa_cons (pv 1) pa_nil))))) pa_nil)))
      (pss_cons (ps_set (i := 3) sc_mean_of.nd rfl (Or.inl rfl) (pe_callB (call_sumL rfl) rfl B.sum_ L3.bt_sum (pa_cons (pe_comp [] ["plan", "deepest", "ending", "taken", "depth", "end"] 2 rfl (pi_list (pe_fn g_ends_of hr (pa_cons (pv 0) (pa_cons pe_int pa_nil)))) (fun _ _ _ _ _ => (pg_tupK K 2 rfl (pgs_cons (pg_name (i := 4) nd_7 rfl (Or.inl rfl) (Or.inr rfl)) (pgs_cons (pg_name (i := 5) nd_7 rfl (Or.inl rfl) (Or.inr rfl)) pgs_nil)) rfl rfl rfl)) (fun _ _ _ _ _ => pif_nil) (fun _ _ _ _ _ => (pe_op op_mul (pv 4) (pe_fn g_rows_to hr (pa_cons (pv 4) (pa_cons (pv 1) pa_nil)))))) pa_nil)))
      (pss_one (ps_ret (pe_fn g_fraction hr (pa_cons (pv 3) (pa_cons (pv 2) pa_nil)))))))), ?_⟩
  refine ⟨_, rfl, v, pl, rfl, hP, hd, fun H1 s1 => ?_⟩
  refine ⟨_, rfl, v, pl, rfl, hP.same s1, hd, fun hh l as H2 s2 w2 e2 => ?_, fun hh H2 s2 => ee hh H2 (s1.trans s2)⟩
  have b1 := ends_4096 hd 0
  have hdl : ∀ e ∈ nums (ends pl 0), e.2 ≤ pl.dp := fun e he => by
    obtain ⟨e', he', h⟩ := List.mem_filterMap.mp he
    have := (ends_deep pl 0 e' he').2
    obtain ⟨o, d⟩ := e'
    cases o with
    | none => cases h
    | some n => cases h; show d ≤ _; omega
  have hnl : (nums (ends pl 0)).length ≤ 4096 := Nat.le_trans (List.length_filterMap_le _ _) (by omega)
  refine ⟨l, rfl, ⟨_, SqL.of w2⟩, comp_list (xs := as.map V.ref) (fun j acc σ' H' => ∃ (o4 o5 : Option V), acc = ((((nums (ends pl 0)).take j).map fun e => 2 ^ (pl.dp - e.2)).map fun (n : Nat) => (n : Int)).map V.int ∧ H' = H2 ∧ σ' = [some v, some (.int (pl.dp : Int)), none, none, o4, o5]) ⟨_, _, rfl, rfl, rfl⟩
    (fun j acc σ' H' hj ⟨_, _, e', _⟩ => by
      rw [e', List.length_map, List.length_map, List.length_map, List.length_take]
      omega) (fun j acc σ' H' _ ⟨_, _, _, y, _⟩ => SqL.of (by rw [y]; exact w2)) ?_ ?_⟩
  · rintro j x acc σ' H' hx ⟨o2, o3, rfl, rfl, rfl⟩
    obtain ⟨a, hja⟩ : ∃ a, as[j]? = some a := by
      rw [List.getElem?_map] at hx
      cases e : as[j]? with
      | none => rw [e] at hx; cases hx
      | some r => exact ⟨r, rfl⟩
    rw [List.getElem?_map, hja] at hx
    cases hx
    have hj : j < (nums (ends pl 0)).length := by rw [← e2.1]; exact (List.getElem?_eq_some_iff.mp hja).1
    obtain ⟨en, hen⟩ : ∃ en, (nums (ends pl 0))[j]? = some en := ⟨_, List.getElem?_eq_getElem hj⟩
    have ha := e2.2 j a en hja hen
    refine ⟨a, _, rfl, SqT.of ha, rfl, _, _, rfl, _, _, rfl, rfl, _, rfl, _, rfl, en.2, pl.dp, rfl, hdl en (List.mem_of_getElem? hen), hd, _, _, ?_, rfl, rfl⟩
    rw [List.take_add_one, hen, List.map_append, List.map_append, List.map_append]
    rfl
  rintro acc σ' H3 D ⟨o4, o5, rfl, e3, rfl⟩ fD
  obtain rfl : H3 = H2 := e3
  rw [List.length_map, e2.1, List.take_length]
  have yD := same_new fD (.lst ((((nums (ends pl 0)).map fun e => 2 ^ (pl.dp - e.2)).map fun (n : Nat) => (n : Int)).map V.int))
  have wD : (upd H3 D (.lst ((((nums (ends pl 0)).map fun e => 2 ^ (pl.dp - e.2)).map fun (n : Nat) => (n : Int)).map V.int))) D = some (.lst ((((nums (ends pl 0)).map fun e => 2 ^ (pl.dp - e.2)).map fun (n : Nat) => (n : Int)).map V.int)) := upd_same
  generalize upd H3 D (.lst ((((nums (ends pl 0)).map fun e => 2 ^ (pl.dp - e.2)).map fun (n : Nat) => (n : Int)).map V.int)) = H4 at yD wD ⊢
  refine ⟨D, _, rfl, SqL.of wD, ?_⟩
  rw [sum_nats, nums_sum]
  have hpos := has_pos hh
  have hfit := shP_fit (P := fun o => o.isSome) hd
  have q' := q hh
  clear q
  generalize shP (fun o => o.isSome) (ends pl 0) pl.dp = T at hpos hfit q' ⊢
  have s4 := (s1.trans s2).trans yD
  refine ⟨_, rfl, v, pl, 0, rfl, hP.same s4, hd, by decide, fun l2 as2 H5 nl2 s5 w5 e5 => ?_⟩
  refine ⟨l2, rfl, ⟨_, SqL.of w5⟩, comp_list (xs := as2.map V.ref) (fun j acc σ' H' => ∃ (o4 o5 : Option V), acc = ((((ends pl 0).take j).map fun e => e.2 * 2 ^ (pl.dp - e.2)).map fun (n : Nat) => (n : Int)).map V.int ∧ H' = H5 ∧ σ' = [some v, some (.int (pl.dp : Int)), some (.int (T : Int)), none, o4, o5]) ⟨_, _, rfl, rfl, rfl⟩
    (fun j acc σ' H' hj ⟨_, _, e', _⟩ => by
      rw [e', List.length_map, List.length_map, List.length_map, List.length_take]
      omega) (fun j acc σ' H' _ ⟨_, _, _, y, _⟩ => SqL.of (by rw [y]; exact w5)) ?_ ?_⟩
  · rintro j x acc σ' H' hx ⟨o2, o3, rfl, rfl, rfl⟩
    obtain ⟨a, hja⟩ : ∃ a, as2[j]? = some a := by
      rw [List.getElem?_map] at hx
      cases e : as2[j]? with
      | none => rw [e] at hx; cases hx
      | some r => exact ⟨r, rfl⟩
    rw [List.getElem?_map, hja] at hx
    cases hx
    have hj : j < (ends pl 0).length := by rw [← e5.1]; exact (List.getElem?_eq_some_iff.mp hja).1
    obtain ⟨en, hen⟩ : ∃ en, (ends pl 0)[j]? = some en := ⟨_, List.getElem?_eq_getElem hj⟩
    obtain ⟨lv, ha, hleaf⟩ := e5.2 j a en hja hen
    have hle := (ends_deep pl 0 en (List.mem_of_getElem? hen)).2
    refine ⟨a, _, rfl, SqT.of ha, rfl, _, _, rfl, _, _, rfl, rfl, _, rfl, _, rfl, _, rfl, en.2, pl.dp, rfl, by omega, hd, _, _, rfl, rfl, .inl ⟨by omega, by omega⟩, _, _, ?_, rfl, rfl⟩
    rw [List.take_add_one, hen, List.map_append, List.map_append, List.map_append]
    show _ = _ ++ [V.int ((en.2 * 2 ^ (pl.dp - en.2) : Nat) : Int)]
    rw [Int.natCast_mul]
  rintro acc σ' H6 D2 ⟨o4', o5', rfl, e6, rfl⟩ fD2
  obtain rfl : H6 = H5 := e6
  rw [List.length_map, e5.1, List.take_length]
  refine ⟨D2, _, rfl, SqL.of upd_same, ?_⟩
  have y6 := same_new fD2 (.lst ((((ends pl 0).map fun e => e.2 * 2 ^ (pl.dp - e.2)).map fun (n : Nat) => (n : Int)).map V.int))
  rw [sum_nats]
  refine ⟨_, rfl, _, rfl, tkS (ends pl 0) pl.dp, T, rfl, hpos, Fit.of (by omega), fun p H7 s7 w7 => ?_⟩
  exact q' p H7 (((s4.trans s5).trans y6).trans s7) w7
end
theorem comp_rangeS {lo st : Int} {n : Nat} {g : TG} {tt : TT} {te : TE} {σ : St} {H : Hp} {Q : VK} (Pv : Nat → List V → St → Hp → Prop) (h0 : Pv 0 [] σ H) (hl : ∀ i acc σ H, i ≤ n → Pv i acc σ H → acc.length ≤ 1000000)
    (hs : ∀ i acc σ H, i < n → Pv i acc σ H → g (.int (lo + i * st)) σ H fun σ2 H3 => tt σ2 H3 fun b H4 => if b = true then te σ2 H4 fun y H5 => Pv (i + 1) (acc ++ [y]) σ2 H5 else Pv (i + 1) acc σ2 H4)
    (hd : ∀ acc σ H D, Pv n acc σ H → H D = none → Q (.ref D) (upd H D (.lst acc))) : compW (ItrS lo st n) g tt te σ H Q :=
  comp_of Pv h0 hl (fun i acc σ H h _ => h) (fun acc σ H _ => Nat.le_refl _) (fun i acc σ H h p x H2 y => by
    obtain ⟨e, e2⟩ := y
    subst e e2
    exact hs i acc σ _ h p) hd
noncomputable def PL (K : PySem.W.Frag) (H : Hp) (vs : List V) (ps : List Pn) : Prop := vs.length = ps.length ∧ ∀ (j : Nat) (v : V) (p : Pn), vs[j]? = some v → ps[j]? = some p → PnAt K H p v
theorem PL.same {K : PySem.W.Frag} {H H' : Hp} {vs : List V} {ps : List Pn} (h : PL K H vs ps) (s : Same H H') : PL K H' vs ps := ⟨h.1, fun j v p e1 e2 => (h.2 j v p e1 e2).same s⟩
theorem PL.nil {K : PySem.W.Frag} {H : Hp} : PL K H [] [] := ⟨rfl, fun j v p e => by simp at e⟩
theorem PL.app {K : PySem.W.Frag} {H : Hp} {vs us : List V} {ps qs : List Pn} (h : PL K H vs ps) (g : PL K H us qs) : PL K H (vs ++ us) (ps ++ qs) := by
  refine ⟨by rw [List.length_append, List.length_append, h.1, g.1], fun j a e e1 e2 => ?_⟩
  by_cases c : j < vs.length
  · rw [List.getElem?_append_left c] at e1
    rw [List.getElem?_append_left (by rw [← h.1]; exact c)] at e2
    exact h.2 j a e e1 e2
  · rw [List.getElem?_append_right (by omega)] at e1
    rw [List.getElem?_append_right (by rw [← h.1]; omega), ← h.1] at e2
    exact g.2 _ a e e1 e2
theorem PL.one {K : PySem.W.Frag} {H : Hp} {v : V} {p : Pn} (h : PnAt K H p v) : PL K H [v] [p] := by
  refine ⟨rfl, fun j a e e1 e2 => ?_⟩
  have hj : j = 0 := by
    have := (List.getElem?_eq_some_iff.mp e1).1
    simpa using this
  subst hj
  cases e1
  cases e2
  exact h
theorem PL.at' {K : PySem.W.Frag} {H : Hp} {vs : List V} {ps : List Pn} (h : PL K H vs ps) {j : Nat} (hj : j < ps.length) : ∃ v p, vs[j]? = some v ∧ ps[j]? = some p ∧ PnAt K H p v :=
  ⟨_, _, List.getElem?_eq_getElem (by rw [h.1]; exact hj), List.getElem?_eq_getElem hj, h.2 j _ _ (List.getElem?_eq_getElem (by rw [h.1]; exact hj)) (List.getElem?_eq_getElem hj)⟩
theorem EndsL.snoc {K : PySem.W.Frag} {H : Hp} {as : List Addr} {es : List (Option Nat × Nat)} {p : Addr} {o : Option Nat} {d : Nat} {v : V} (h : EndsL K H as es) (hp : H p = some (.tup [.int (d : Int), v])) (hv : LeafV K H o v) : EndsL K H (as ++ [p]) (es ++ [(o, d)]) := by
  refine h.app ⟨rfl, fun j a e e1 e2 => ?_⟩
  have hj : j = 0 := by
    have := (List.getElem?_eq_some_iff.mp e1).1
    simpa using this
  subst hj
  cases e1
  cases e2
  exact ⟨v, hp, hv⟩
theorem figO_take (es : List (Option Nat × Nat)) (k j : Nat) (e : Option Nat × Nat) (h : es[j]? = some e) : figO (es.take (j + 1)) k = figO (es.take j) k ++ (if e.2 / 2 ^ k % 2 = 1 then [e.1] else []) := by
  unfold figO
  rw [List.take_add_one, h, List.filter_append, List.map_append]
  congr 1
  show (([e].filter _).map _ : List (Option Nat)) = _
  rw [List.filter_cons]
  by_cases c : e.2 / 2 ^ k % 2 = 1
  · rw [if_pos c, if_pos (decide_eq_true c)]; rfl
  · rw [if_neg c, if_neg (by rw [decide_eq_false c]; decide)]; rfl
theorem figO_le (es : List (Option Nat × Nat)) (k : Nat) : (figO es k).length ≤ es.length := by
  unfold figO
  rw [List.length_map]
  exact List.length_filter_le _ _
theorem parts_le (es : List (Option Nat × Nat)) : ∀ k, (parts es k).length ≤ 2 * es.length
  | 0 => Nat.zero_le _
  | k + 1 => by
    have ih := parts_le es k
    have := figO_le es k
    rw [parts, List.length_append, List.length_map, asks_len]
    omega
noncomputable def spOf (K : PySem.W.Frag) : Sp := fun vs H Q _ => ∃ (r : Addr) (ws : List Nat), vs = [.ref r] ∧ H r = some (.tup (vnats ws)) ∧ 0 < ws.sum ∧ ws.sum ≤ 4096 ∧ ws.length ≤ 9 ∧ ∀ v D H', Same H H' → isD ws.sum D → PnAt K H' (plW ws D) v → Q v H'
section
variable {P : Program} {w : World} {K : PySem.W.Frag} {mg : Str → Option Value} {base : Heap} {f : Addr} {fd : FuncData}
theorem ok_plan_of (F_plan_of : Fun K "plan_of" "plan_of" s_plan_of f fd) (B : Bl mg) (C' : Cn K mg) : FnOk P w K mg base CX0 1 f fd p_plan_of (spOf K) := by
  refine F_plan_of.ok sc_plan_of (fun vs H Q E h => ?_) (fun cdv A outer s H vs Q E hr h => ?_)
  · obtain ⟨r, ws, rfl, _⟩ := h
    rfl
  obtain ⟨r, ws, rfl, hW, h0, h4, h8, q⟩ := h
  obtain ⟨A_AGAIN, C_AGAIN, hAg⟩ := C'.AGAIN
  refine ⟨_, (pss_cons (ps_set (i := 1) sc_plan_of.nd rfl (Or.inl rfl) (pe_callB (call_sumT rfl) rfl B.sum_ L3.bt_sum (pa_cons (pv 0) pa_nil)))
      (pss_cons (ps_set (i := 2) sc_plan_of.nd rfl (Or.inl rfl) pe_int)
      (pss_cons (ps_while PassesOwn.never (pt_cmpR op_lt (pe_op op_shl pe_int (pv 2)) (pv 1) (nomark _)) (pss_one (ps_set (i := 2) sc_plan_of.nd rfl (Or.inl rfl) (pe_op op_add (pv 2) pe_int))))
      (pss_cons (ps_comp 3 [] ["weights", "total", "depth", "ends", "parts", "place", "asks", "number", "weight"] 2 rfl sc_plan_of.nd rfl rfl (pi_enumT rfl B.enumerate_ (pa_cons (pv 0) pa_nil)) (fun _ _ _ _ _ => (pg_tupK K 2 rfl (pgs_cons (pg_name (i := 7) nd_8 rfl (Or.inl rfl) (Or.inr rfl)) (pgs_cons (pg_name (i := 8) nd_8 rfl (Or.inl rfl) (Or.inr rfl)) pgs_nil)) rfl rfl rfl)) (fun _ _ _ _ _ => pif_nil) (fun _ _ _ _ _ => (pe_tup (pa_cons (pv 8) (pa_cons (pe_tup (pa_cons pe_str (pa_cons (pv 7) pa_nil))) pa_nil)))))
      (pss_cons (ps_expr (pe_bm PySem.F.plainAttrs_list PySem.F.slot_list_append PySem.F.type_list_append mt_append (pv 3) (pa_cons (pe_tup (pa_cons (pe_op op_sub (pe_op op_shl pe_int (pv 2)) (pv 1)) (pa_cons (pe_glob (v := .ref A_AGAIN) rfl C_AGAIN rfl) pa_nil))) pa_nil)))
      (pss_cons (ps_set (i := 4) sc_plan_of.nd rfl (Or.inr rfl) (pe_lst pa_nil))
      (pss_cons (ps_for PassesOwn.never rfl (pi_range1 rfl B.range_ (pa_cons (pe_op op_add (pv 2) pe_int) pa_nil)) (pg_name (i := 5) sc_plan_of.nd rfl (Or.inr rfl)) (pss_cons (ps_comp 6 [] ["weights", "total", "depth", "ends", "parts", "place", "asks", "left"] 1 rfl sc_plan_of.nd rfl rfl (pi_rangeTwo rfl B.range_ (pa_cons pe_int (pa_cons (pe_callB call_len_seq rfl B.len_ L3.bt_len (pa_cons (pv 4) pa_nil)) (pa_cons pe_int pa_nil)))) (fun _ _ _ _ _ => (pg_name (i := 7) nd_9 rfl (Or.inl rfl) (Or.inr rfl))) (fun _ _ _ _ _ => pif_nil) (fun _ _ _ _ _ => (pe_tup (pa_cons pe_str (pa_cons (pe_ix (ix_listK K rfl) (pv 4) (pv 7) (fun _ _ => rfl)) (pa_cons (pe_ix (ix_listK K rfl) (pv 4) (pe_op op_add (pv 7) pe_int) (fun _ _ => rfl)) pa_nil))))))
      (pss_one (ps_set (i := 4) sc_plan_of.nd rfl (Or.inr rfl) (pe_op op_cat (pe_comp [] ["weights", "total", "depth", "ends", "parts", "place", "asks", "weight", "end"] 2 rfl (pi_list (pv 3)) (fun _ _ _ _ _ => (pg_tupK K 2 rfl (pgs_cons (pg_name (i := 7) nd_10 rfl (Or.inl rfl) (Or.inr rfl)) (pgs_cons (pg_name (i := 8) nd_10 rfl (Or.inl rfl) (Or.inr rfl)) pgs_nil)) rfl rfl rfl)) (fun _ _ _ _ _ => (pif_one (pt_cmpR op_eq (pe_op op_mod (pe_op op_shr (pv 7) (pv 5)) pe_int) pe_int (nomark _)))) (fun _ _ _ _ _ => (pv 8))) (pv 6))))))
      (pss_one (ps_ret (pe_ix ix_list (pv 4) pe_int (fun _ _ => rfl))))))))))), ?_⟩
  have hsq : SqT K H r ((ws.map (fun (n : Nat) => (n : Int))).map V.int) := SqT.of (by rw [← vnats_ints]; exact hW)
  refine ⟨_, rfl, r, ws.map (fun (n : Nat) => (n : Int)), rfl, hsq, ?_⟩
  rw [sum_nats]
  generalize hS : ws.sum = S at h0 h4 q
  refine ⟨fun m σ' H' => ∃ D : Nat, m = 13 - D ∧ D ≤ 12 ∧ σ' = [some (.ref r), some (.int (S : Int)), some (.int (D : Int)), none, none, none, none] ∧ H' = H ∧ ∀ j, j < D → 2 ^ j < S, ⟨_, 0, rfl, by decide, rfl, rfl, fun j hj => absurd hj (Nat.not_lt_zero _)⟩, ?_⟩
  rintro m σ' H' ⟨D, rfl, hD12, rfl, eH, hD⟩
  obtain rfl : H = H' := eH.symm
  clear eH
  have ep : (1 : Int) * 2 ^ ((D : Int)).toNat = ((2 ^ D : Nat) : Int) := by rw [Int.toNat_natCast, Int.one_mul, Int.natCast_pow]; rfl
  refine ⟨_, rfl, _, _, rfl, rfl, ⟨by omega, by omega, by decide⟩, _, rfl, _, _, rfl, rfl, _, rfl, ite2 (fun c => ?_) (fun c => ?_)⟩
  · have c' : (1 : Int) * 2 ^ ((D : Int)).toNat < (S : Int) := of_decide_eq_true c
    rw [ep] at c'
    have hlt : 2 ^ D < S := by omega
    have hD11 : D < 12 := by
      rcases Nat.lt_or_ge D 12 with z | z
      · exact z
      · have : 2 ^ 12 ≤ 2 ^ D := Nat.pow_le_pow_right (by decide) z
        omega
    exact ⟨_, fun _ _ z => z, _, rfl, _, _, rfl, rfl, 13 - (D + 1), by omega, D + 1, rfl, by omega, rfl, rfl, fun j hj => by
      rcases Nat.lt_or_ge j D with z | z
      · exact hD j z
      · have : j = D := by omega
        rw [this]; exact hlt⟩
  have c' : ¬ (1 : Int) * 2 ^ ((D : Int)).toNat < (S : Int) := of_decide_eq_false (Bool.eq_false_iff.mpr c)
  rw [ep] at c'
  have hge : S ≤ 2 ^ D := by omega
  have hisD : isD S D := ⟨hge, hD⟩
  clear c c'
  -- ends
  refine ⟨_, rfl, r, rfl, ⟨_, SqT.of hW⟩, comp_enum (xs := vnats ws) (fun j acc σ' H' => ∃ (as : List Addr) (o7 o8 : Option V), acc = as.map V.ref ∧ as.length = j ∧ σ' = [some (.ref r), some (.int (S : Int)), some (.int (D : Int)), none, none, none, none, o7, o8] ∧ Same H H' ∧ EndsL K H' as ((numE ws).take j))
    ⟨[], _, _, rfl, rfl, rfl, Same.refl _, rfl, fun j a e h => by simp at h⟩
    (fun j acc σ' H' hj ⟨as, _, _, e', hb, _⟩ => by
      rw [e', List.length_map]
      rw [vnats_len] at hj
      omega) (fun j acc σ' H' _ ⟨_, _, _, _, _, _, y, _⟩ => SqT.of (y _ _ hW)) ?_ ?_⟩
  · rintro j x acc σ' H1 p hx ⟨as, o7, o8, rfl, hal, rfl, y, hE⟩ fp
    have hj : j < ws.length := by rw [← vnats_len]; exact (List.getElem?_eq_some_iff.mp hx).1
    rw [vnats_at hj] at hx
    obtain rfl := Option.some.inj hx
    have y1 := same_new fp (.tup [V.int (j : Int), V.int ((ws.getD j 0 : Nat) : Int)])
    have w1 : (upd H1 p (.tup [V.int (j : Int), V.int ((ws.getD j 0 : Nat) : Int)])) p = some (.tup [V.int (j : Int), V.int ((ws.getD j 0 : Nat) : Int)]) := upd_same
    generalize upd H1 p (.tup [V.int (j : Int), V.int ((ws.getD j 0 : Nat) : Int)]) = H2 at y1 w1 ⊢
    refine ⟨p, _, rfl, SqT.of w1, rfl, _, _, rfl, _, _, rfl, rfl, _, rfl, _, rfl, (by show 2 ≤ sizeLine; decide), fun p2 fp2 => ?_⟩
    have y2 := same_new fp2 (.tup [V.str "is", V.int (j : Int)])
    have w2 : (upd H2 p2 (.tup [V.str "is", V.int (j : Int)])) p2 = some (.tup [V.str "is", V.int (j : Int)]) := upd_same
    generalize upd H2 p2 (.tup [V.str "is", V.int (j : Int)]) = H3 at y2 w2 ⊢
    refine ⟨(by show 2 ≤ sizeLine; decide), fun p3 fp3 => ?_⟩
    have y3 := same_new fp3 (.tup [V.int ((ws.getD j 0 : Nat) : Int), V.ref p2])
    have hn : (numE ws).take (j + 1) = (numE ws).take j ++ [(some j, ws.getD j 0)] := by
      rw [List.take_add_one]
      congr 1
      unfold numE
      rw [List.getElem?_map, List.getElem?_range hj]
      rfl
    refine ⟨as ++ [p3], _, _, by rw [List.map_append]; rfl, by rw [List.length_append, hal]; rfl, rfl, ((y.trans y1).trans y2).trans y3, ?_⟩
    rw [hn]
    exact (hE.same ((y1.trans y2).trans y3)).snoc upd_same ⟨p2, rfl, y3 _ _ w2⟩
  rintro acc σ' H1 LE ⟨as, o7, o8, rfl, hal, rfl, y, hE⟩ fLE
  rw [vnats_len] at hal hE
  rw [List.take_of_length_le (by unfold numE; rw [List.length_map, List.length_range]; exact Nat.le_refl _)] at hE
  have yE := same_new fLE (.lst (as.map V.ref))
  have wE : (upd H1 LE (.lst (as.map V.ref))) LE = some (.lst (as.map V.ref)) := upd_same
  have fLEH : H LE = none := by
    cases e : H LE with
    | none => rfl
    | some o => have := y _ _ e; rw [fLE] at this; cases this
  generalize upd H1 LE (.lst (as.map V.ref)) = H2 at yE wE ⊢
  have yH2 := y.trans yE
  have hE2 := hE.same yE
  clear hE y fLE
  refine ⟨_, rfl, .inl ⟨rfl, _, SqL.of wE⟩, _, rfl, _, _, rfl, rfl, ⟨by omega, by omega, by decide⟩, _, rfl, _, _, rfl, rfl, (by show 2 ≤ sizeLine; decide), fun p4 fp4 => ?_⟩
  have ew : (1 : Int) * 2 ^ ((D : Int)).toNat - (S : Int) = ((2 ^ D - S : Nat) : Int) := by rw [ep]; omega
  dsimp only
  rw [ew]
  have y4 := same_new fp4 (.tup [V.int ((2 ^ D - S : Nat) : Int), V.ref A_AGAIN])
  have w4 : (upd H2 p4 (.tup [V.int ((2 ^ D - S : Nat) : Int), V.ref A_AGAIN])) p4 = some (.tup [V.int ((2 ^ D - S : Nat) : Int), V.ref A_AGAIN]) := upd_same
  generalize upd H2 p4 (.tup [V.int ((2 ^ D - S : Nat) : Int), V.ref A_AGAIN]) = H3 at y4 w4 ⊢
  have wE3 := y4 _ _ wE
  have hE3 : EndsL K H3 (as ++ [p4]) (esW ws D) := by
    unfold esW
    rw [hS]
    exact (hE2.same y4).snoc w4 ⟨A_AGAIN, rfl, .inr hAg⟩
  have np : ∀ c xs, H3 c = some (.tup xs) → c ≠ LE := fun c xs e z => by rw [z, wE3] at e; cases e
  refine ⟨LE, _, _, rfl, rfl, wE3, smallL (by rw [List.length_map]; omega), ?_⟩
  have wE4 : (upd H3 LE (.lst (as.map V.ref ++ [V.ref p4]))) LE = some (.lst ((as ++ [p4]).map V.ref)) := by rw [upd_same, List.map_append]; rfl
  have k4 : ∀ c xs, H3 c = some (.tup xs) → (upd H3 LE (.lst (as.map V.ref ++ [V.ref p4]))) c = some (.tup xs) := fun c xs e => by rw [upd_ne (np c xs e)]; exact e
  have yH4 : Same H (upd H3 LE (.lst (as.map V.ref ++ [V.ref p4]))) := fun c o e => by rw [upd_ne (ne_of_none e fLEH)]; exact y4 _ _ (yH2 _ _ e)
  have hE4 : EndsL K (upd H3 LE (.lst (as.map V.ref ++ [V.ref p4]))) (as ++ [p4]) (esW ws D) := ⟨hE3.1, fun j a e e1 e2 => by
    obtain ⟨v, z1, z2⟩ := hE3.2 j a e e1 e2
    exact ⟨v, k4 _ _ z1, PnAt.keep k4 z2⟩⟩
  generalize upd H3 LE (.lst (as.map V.ref ++ [V.ref p4])) = H4 at wE4 yH4 hE4
  generalize as ++ [p4] = bs at wE4 hE4
  clear hE3 hE2 wE3 wE y4 w4 np k4 yE yH2
  have hEl : (esW ws D).length ≤ 10 := by unfold esW numE; rw [List.length_append, List.length_map, List.length_range]; show ws.length + 1 ≤ 10; omega
  have ht : tot (esW ws D) = 2 ^ D := esW_tot (by rw [hS]; exact hge)
  generalize hes : esW ws D = es at hE4 hEl ht
  -- parts
  refine ⟨(by show 0 ≤ sizeLine; decide), fun l0 fl0 => ?_⟩
  have y5 := same_new fl0 (.lst ([] : List V))
  have w5 : (upd H4 l0 (.lst ([] : List V))) l0 = some (.lst []) := upd_same
  generalize upd H4 l0 (.lst ([] : List V)) = H5 at y5 w5 ⊢
  refine ⟨_, rfl, _, _, rfl, rfl, D + 1, rfl, lo62 _, hi62 (n := D + 1) (by omega), for_range (lo := 0) (n := D + 1) (fun i σ' H' => ∃ (lp : Addr) (vs : List V) (o5 o6 : Option V), σ' = [some (.ref r), some (.int (S : Int)), some (.int (D : Int)), some (.ref LE), some (.ref lp), o5, o6] ∧ Same H5 H' ∧ H' lp = some (.lst vs) ∧ PL K H' vs (parts es i))
    ⟨l0, [], _, _, rfl, Same.refl _, w5, PL.nil⟩ ?_ ?_⟩
  · rintro i σ' H6 hi ⟨lp, vs, o5, o6, rfl, y6, wp, hPL⟩
    have hev : (parts es i).length % 2 = 0 := (parts_len ht i (by omega)).2 (by omega)
    have hpl := parts_le es i
    have hvl := hPL.1
    refine ⟨_, rfl, lp, vs, rfl, .inl (SqL.of wp), 0, ((vs.length : Nat) : Int), rfl, ⟨by decide, by decide, by omega, by omega⟩, ?_⟩
    have en : ((((vs.length : Nat) : Int) - 0 + 1) / 2).toNat = (parts es i).length / 2 := by omega
    rw [en]
    refine comp_rangeS (fun j acc σ' H' => ∃ (o7 : Option V), acc.length = j ∧ σ' = [some (.ref r), some (.int (S : Int)), some (.int (D : Int)), some (.ref LE), some (.ref lp), some (.int (0 + (i : Int))), o6, o7] ∧ Same H6 H' ∧ PL K H' acc (asksTo (parts es i) j))
      ⟨_, rfl, rfl, Same.refl _, PL.nil⟩ (fun j acc σ' H' hj ⟨_, e', _⟩ => by omega) ?_ ?_
    · rintro j acc σ' H7 hj ⟨o7, hal, rfl, y7, hP7⟩
      obtain ⟨v1, q1, e1, f1, g1⟩ := hPL.at' (j := 2 * j) (by omega)
      obtain ⟨v2, q2, e2, f2, g2⟩ := hPL.at' (j := 2 * j + 1) (by omega)
      have ex : (0 : Int) + (j : Int) * 2 = ((2 * j : Nat) : Int) := by omega
      rw [ex]
      have wp7 := y7 _ _ wp
      refine ⟨_, rfl, _, rfl, lp, _, _, v1, rfl, rfl, SqL.of wp7, atI_nat e1, _, rfl, _, rfl, _, _, rfl, rfl, lp, _, _, v2, rfl, rfl, SqL.of wp7, (by
        show atI vs (((2 * j : Nat) : Int) + 1) = some v2
        rw [show (((2 * j : Nat) : Int) + 1) = ((2 * j + 1 : Nat) : Int) by omega]
        exact atI_nat e2), (by show 3 ≤ sizeLine; decide), fun p8 fp8 => ?_⟩
      have y8 := same_new fp8 (.tup [V.str "ask", v1, v2])
      refine ⟨_, by rw [List.length_append, hal]; rfl, rfl, y7.trans y8, ?_⟩
      rw [asksTo_succ f1 f2]
      exact (hP7.same y8).app (PL.one ⟨p8, v1, v2, rfl, upd_same, (g1.same y7).same y8, (g2.same y7).same y8⟩)
    rintro acc σ' H7 LA ⟨o7, hal, rfl, y7, hP7⟩ fLA
    rw [asksTo_all hev] at hP7
    have y8 := same_new fLA (.lst acc)
    have w8 : (upd H7 LA (.lst acc)) LA = some (.lst acc) := upd_same
    generalize upd H7 LA (.lst acc) = H8 at y8 w8 ⊢
    have hP8 := hP7.same y8
    have y68 := y7.trans y8
    have wE8 := y68 _ _ (y6 _ _ (y5 _ _ wE4))
    have hE8 := ((hE4.same y5).same y6).same y68
    have hbl : bs.length = es.length := hE8.1
    refine ⟨_, rfl, LE, rfl, ⟨_, SqL.of wE8⟩, comp_list (xs := bs.map V.ref) (fun j acc2 σ' H' => ∃ (o7 o8 : Option V), acc2.length ≤ j ∧ σ' = [some (.ref r), some (.int (S : Int)), some (.int (D : Int)), some (.ref LE), some (.ref lp), some (.int (0 + (i : Int))), some (.ref LA), o7, o8] ∧ Same H8 H' ∧ PL K H' acc2 ((figO (es.take j) i).map leafP))
      ⟨_, _, Nat.le_refl _, rfl, Same.refl _, PL.nil⟩ (fun j acc2 σ' H' hj ⟨_, _, e', _⟩ => by rw [List.length_map] at hj; omega) (fun j acc2 σ' H' _ ⟨_, _, _, _, y', _⟩ => SqL.of (y' _ _ wE8)) ?_ ?_⟩
    · rintro j x acc2 σ' H9 hx ⟨o7, o8, hal2, rfl, y9, hP9⟩
      obtain ⟨a, hja⟩ : ∃ a, bs[j]? = some a := by
        rw [List.getElem?_map] at hx
        cases e : bs[j]? with
        | none => rw [e] at hx; cases hx
        | some r => exact ⟨r, rfl⟩
      rw [List.getElem?_map, hja] at hx
      cases hx
      have hj : j < es.length := by rw [← hbl]; exact (List.getElem?_eq_some_iff.mp hja).1
      obtain ⟨en, hen⟩ : ∃ en, es[j]? = some en := ⟨_, List.getElem?_eq_getElem hj⟩
      obtain ⟨lv, ha, hleaf⟩ := hE8.2 j a en hja hen
      have ha9 := y9 _ _ ha
      have hnext := figO_take es i j en hen
      refine ⟨a, _, rfl, SqT.of ha9, rfl, _, _, rfl, _, _, rfl, rfl, ?_⟩
      refine ⟨_, rfl, _, rfl, _, _, rfl, rfl, (by show (0 : Int) ≤ 0 + (i : Int); omega), _, _, rfl, rfl, (by show (0 : Int) < 2; decide), rfl, _, rfl, ?_⟩
      have et : decide (V.int ((en.2 : Int) / 2 ^ (0 + (i : Int)).toNat % 2) = V.int 1) = decide (en.2 / 2 ^ i % 2 = 1) := by
        rw [show (0 + (i : Int)).toNat = i by omega]
        have e3 : (en.2 : Int) / 2 ^ i % 2 = ((en.2 / 2 ^ i % 2 : Nat) : Int) := by
          rw [Int.natCast_emod, Int.natCast_ediv, Int.natCast_pow]; rfl
        rw [e3, decide_eq_decide]
        exact ⟨fun z => by injection z with z; omega, fun z => by rw [z]; rfl⟩
      try dsimp only
      rw [et]
      refine ite2 (fun c => ?_) (fun c => ?_)
      · have c' := of_decide_eq_true c
        refine ⟨_, rfl, _, _, by rw [List.length_append]; show acc2.length + 1 ≤ j + 1; omega, rfl, y9, ?_⟩
        rw [hnext, if_pos c', List.map_append]
        exact hP9.app (PL.one (PnAt.same hleaf y9))
      · have c' := of_decide_eq_false (Bool.eq_false_iff.mpr c)
        refine ⟨_, _, by omega, rfl, y9, ?_⟩
        rw [hnext, if_neg c', List.append_nil]
        exact hP9
    rintro acc2 σ' H9 LF ⟨o7, o8, hal2, rfl, y9, hP9⟩ fLF
    rw [List.length_map, hbl, List.take_length] at hP9
    have y10 := same_new fLF (.lst acc2)
    have hl9 := hP9.1
    have hl8 := hP8.1
    rw [List.length_map] at hl9
    rw [asks_len] at hl8
    have hfl := figO_le es i
    refine ⟨_, rfl, LF, LA, acc2, acc, rfl, rfl, upd_same, y10 _ _ (y9 _ _ w8), small (by omega), fun ln fln => ?_⟩
    have y11 := same_new fln (.lst (acc2 ++ acc))
    refine ⟨ln, acc2 ++ acc, _, _, rfl, ((y6.trans y68).trans y9).trans (y10.trans y11), upd_same, ?_⟩
    exact ((hP9.same y10).same y11).app (((hP8.same y9).same y10).same y11)
  · rintro σ' H6 ⟨lp, vs, o5, o6, rfl, y6, wp, hPL⟩
    rw [plan_parts ht] at hPL
    obtain ⟨v1, q1, e1, f1, g1⟩ := hPL.at' (j := 0) (by show 0 < 1; decide)
    have : q1 = planP es D := (Option.some.inj f1).symm
    subst this
    refine ⟨_, rfl, lp, _, _, v1, rfl, rfl, SqL.of wp, atI_nat e1, q v1 D H6 ((yH4.trans y5).trans y6) hisD ?_⟩
    unfold plW
    rw [hes]
    exact g1
end
noncomputable def Fr (x : Rat) : Rat := x - (x.floor : Rat)
theorem Fr_nn (x : Rat) : 0 ≤ Fr x := by
  have := Rat.floor_le x
  unfold Fr
  grind
theorem Fr_lt (x : Rat) : Fr x < 1 := by
  have := @Rat.lt_floor x
  unfold Fr
  grind
theorem Fr_add (a b : Rat) : Fr (a + b) ≤ Fr a + Fr b := by
  have h1 := Rat.floor_le a
  have h2 := Rat.floor_le b
  have h3 : a.floor + b.floor ≤ (a + b).floor := by
    rw [Rat.le_floor_iff, Rat.intCast_add]
    grind
  have h4 := Rat.intCast_le_intCast.mpr h3
  rw [Rat.intCast_add] at h4
  unfold Fr
  grind
theorem Fr_of {x : Rat} {z : Int} (h0 : 0 ≤ x - z) (h1 : x - z < 1) : Fr x = x - z := by
  have a : z ≤ x.floor := Rat.le_floor_iff.mpr (by grind)
  have b : x.floor < z + 1 := Rat.floor_lt_iff.mpr (by rw [Rat.intCast_add]; grind)
  have : x.floor = z := by omega
  rw [Fr, this]
theorem Fr_id {x : Rat} (h0 : 0 ≤ x) (h1 : x < 1) : Fr x = x := by
  have := Fr_of (x := x) (z := 0) (by grind) (by grind)
  rw [this]
  grind
theorem npos {l : Nat} (h : 0 < l) : (0 : Rat) < (l : Rat) := Rat.natCast_pos.mpr h
theorem Fr_div (u : Nat) {l : Nat} (hl : 0 < l) : Fr ((u : Rat) / l) = ((u % l : Nat) : Rat) / l := by
  have h := npos hl
  have e := Nat.div_add_mod u l
  have e2 : (u : Rat) = (l : Rat) * ((u / l : Nat) : Rat) + ((u % l : Nat) : Rat) := by
    conv => lhs; rw [← e]
    rw [Rat.natCast_add, Rat.natCast_mul]
  have hr : ((u % l : Nat) : Rat) < (l : Rat) := Rat.natCast_lt_natCast.mpr (Nat.mod_lt _ hl)
  have hr0 : (0 : Rat) ≤ ((u % l : Nat) : Rat) := Rat.natCast_nonneg
  have e3 : (u : Rat) / l - (((u / l : Nat) : Int) : Rat) = ((u % l : Nat) : Rat) / l := by
    have : (((u / l : Nat) : Int) : Rat) = ((u / l : Nat) : Rat) := rfl
    rw [this, e2]
    grind
  rw [Fr_of (z := ((u / l : Nat) : Int)), e3]
  · rw [e3]
    exact Rat.not_lt.mp fun z => by rw [Rat.div_lt_iff h] at z; grind
  · rw [e3, Rat.div_lt_iff h]
    grind
noncomputable def sN : Nat → Rat → Rat
  | 0, _ => 0
  | n + 1, q => Fr q + sN n (2 * q) / 2
theorem sN_add : ∀ (n : Nat) (a b : Rat), sN n (a + b) ≤ sN n a + sN n b
  | 0, _, _ => by rw [sN, sN, sN]; grind
  | n + 1, a, b => by
    have h1 := Fr_add a b
    have h2 := sN_add n (2 * a) (2 * b)
    have e : 2 * (a + b) = 2 * a + 2 * b := by grind
    rw [sN, sN, sN, e]
    grind
noncomputable def hp : Nat → Rat
  | 0 => 1
  | n + 1 => hp n / 2
theorem hp_pos : ∀ n, 0 < hp n
  | 0 => by rw [hp]; grind
  | n + 1 => by have := hp_pos n; rw [hp]; grind
theorem hp_lt : ∀ n : Nat, hp n * n ≤ 1
  | 0 => by rw [hp]; grind
  | 1 => by rw [hp, hp]; grind
  | n + 2 => by
    have h := hp_lt (n + 1)
    have p := hp_pos (n + 1)
    have p2 := hp_pos n
    rw [hp]
    have e : ((n + 2 : Nat) : Rat) = ((n + 1 : Nat) : Rat) + 1 := by rw [show n + 2 = n + 1 + 1 from rfl, Rat.natCast_add]; rfl
    have e2 : (1 : Rat) ≤ ((n + 1 : Nat) : Rat) := by
      have := Rat.natCast_le_natCast.mpr (show 1 ≤ n + 1 by omega)
      exact this
    rw [e]
    have : hp (n + 1) * 1 ≤ hp (n + 1) * ((n + 1 : Nat) : Rat) := Rat.mul_le_mul_of_nonneg_left e2 (Rat.le_of_lt p)
    grind
theorem hp_small {x c : Rat} (hc : 0 ≤ c) (h : ∀ n, x ≤ c * hp n) : x ≤ 0 := by
  rcases @Rat.le_total x 0 with z | z
  · exact z
  · by_cases x0 : x = 0
    · rw [x0]; exact Rat.le_refl
    · exfalso
      have xp : 0 < x := by grind
      -- take n above c / x
      have hn : ∃ n : Nat, c / x < (n : Rat) := by
        refine ⟨(c / x).floor.toNat + 1, ?_⟩
        have a := @Rat.lt_floor (c / x)
        have b : (c / x).floor ≤ ((c / x).floor.toNat : Int) := Int.self_le_toNat _
        have b2 := Rat.intCast_le_intCast.mpr b
        have e : (((c / x).floor.toNat : Int) : Rat) = (((c / x).floor.toNat : Nat) : Rat) := rfl
        rw [e] at b2
        rw [Rat.natCast_add]
        have e1 : ((1 : Nat) : Rat) = 1 := rfl
        rw [e1]
        grind
      obtain ⟨n, hn⟩ := hn
      rw [Rat.div_lt_iff xp] at hn
      have h1 := h n
      have h2 := hp_lt n
      have hq := hp_pos n
      have hnn : (0 : Rat) ≤ (n : Rat) := Rat.natCast_nonneg
      -- x * n ≤ c * (hp n * n) ≤ c
      have h3 := Rat.mul_le_mul_of_nonneg_left h1 hnn
      have h4 := Rat.mul_le_mul_of_nonneg_left h2 hc
      grind
noncomputable def IsNu (q x : Rat) : Prop := ∀ n, sN n q ≤ x ∧ x ≤ sN n q + 2 * hp n
theorem IsNu.le {q x y : Rat} (hx : IsNu q x) (hy : IsNu q y) : x ≤ y := by
  have : x - y ≤ 0 := hp_small (c := 2) (by grind) fun n => by
    have a := (hx n).2
    have b := (hy n).1
    grind
  grind
theorem IsNu.uniq {q x y : Rat} (hx : IsNu q x) (hy : IsNu q y) : x = y := by
  have a := hx.le hy
  have b := hy.le hx
  grind
theorem IsNu.nn {q x : Rat} (h : IsNu q x) : 0 ≤ x := (h 0).1
theorem IsNu.half {q y : Rat} (h : IsNu (2 * q) y) : IsNu q (Fr q + y / 2) := by
  intro n
  cases n with
  | zero =>
    have a := h 0
    have b := Fr_nn q
    have c := Fr_lt q
    have e : hp 0 = 1 := rfl
    rw [sN] at a ⊢
    rw [e] at a ⊢
    grind
  | succ n =>
    have a := h n
    rw [sN, hp]
    grind
theorem IsNu.two {q x : Rat} (h : IsNu q x) : IsNu (2 * q) (2 * (x - Fr q)) := by
  intro n
  have a := h (n + 1)
  rw [sN, hp] at a
  grind
theorem sN_zero : ∀ n, sN n 0 = 0
  | 0 => rfl
  | n + 1 => by
    have e : (2 : Rat) * 0 = 0 := by grind
    rw [sN, e, sN_zero n, Fr_id (by grind) (by grind)]
    grind
theorem IsNu.zero : IsNu 0 0 := fun n => by
  have := hp_pos n
  rw [sN_zero]
  grind
theorem IsNu.hp {y x : Rat} (h0 : 0 ≤ y) (h1 : y ≤ 1) (h : IsNu y x) : ∀ d : Nat, IsNu (hp d * y) (d * (hp d * y) + hp d * x)
  | 0 => by
    have e : Lw.hp 0 * y = y := by rw [Lw.hp]; grind
    have e2 : ((0 : Nat) : Rat) * (Lw.hp 0 * y) + Lw.hp 0 * x = x := by rw [Lw.hp]; grind
    rw [e2, e]
    exact h
  | d + 1 => by
    have ih := IsNu.hp h0 h1 h d
    have hd := hp_pos d
    have hd1 : Lw.hp d ≤ 1 := by
      have : ∀ d, Lw.hp d ≤ 1 := fun d => by
        induction d with
        | zero => rw [Lw.hp]; exact Rat.le_refl
        | succ d ih => have := hp_pos d; rw [Lw.hp]; grind
      exact this d
    have m1 : Lw.hp d * y ≤ Lw.hp d * 1 := Rat.mul_le_mul_of_nonneg_left h1 (Rat.le_of_lt hd)
    have m0 : 0 ≤ Lw.hp d * y := Rat.mul_nonneg (Rat.le_of_lt hd) h0
    have e : 2 * (Lw.hp (d + 1) * y) = Lw.hp d * y := by rw [Lw.hp]; grind
    have ih' : IsNu (2 * (Lw.hp (d + 1) * y)) (d * (Lw.hp d * y) + Lw.hp d * x) := by rw [e]; exact ih
    have r := ih'.half
    have ef : Fr (Lw.hp (d + 1) * y) = Lw.hp (d + 1) * y := Fr_id (by rw [Lw.hp]; grind) (by rw [Lw.hp]; grind)
    rw [ef] at r
    have ec : ((d + 1 : Nat) : Rat) = (d : Rat) + 1 := by rw [Rat.natCast_add]; rfl
    have : ((d + 1 : Nat) : Rat) * (Lw.hp (d + 1) * y) + Lw.hp (d + 1) * x = Lw.hp (d + 1) * y + (d * (Lw.hp d * y) + Lw.hp d * x) / 2 := by
      rw [ec, Lw.hp]
      grind
    rw [this]
    exact r
theorem Fr_int (q : Rat) (z : Int) : Fr (q + z) = Fr q := by
  rw [Fr, Fr, Rat.floor_add_intCast, Rat.intCast_add]
  grind
theorem sN_int : ∀ (n : Nat) (q : Rat) (z : Int), sN n (q + z) = sN n q
  | 0, _, _ => rfl
  | n + 1, q, z => by
    have e : 2 * (q + (z : Rat)) = 2 * q + ((2 * z : Int) : Rat) := by
      rw [Rat.intCast_mul]
      have : ((2 : Int) : Rat) = 2 := rfl
      rw [this]
      grind
    rw [sN, sN, Fr_int, e, sN_int n]
theorem IsNu.shift {q x : Rat} (h : IsNu q x) (z : Int) : IsNu (q + z) x := fun n => by rw [sN_int]; exact h n
theorem IsNu.one : IsNu 1 0 := by
  have := IsNu.zero.shift 1
  have e : (0 : Rat) + ((1 : Int) : Rat) = 1 := by
    have : ((1 : Int) : Rat) = 1 := rfl
    rw [this]
    grind
  rw [e] at this
  exact this
theorem sN_mul {q b : Rat} (q0 : 0 ≤ q) (q1 : q ≤ 1) (hb : IsNu q b) : ∀ (n : Nat) {p a : Rat}, 0 ≤ p → p ≤ 1 → IsNu p a → sN n (p * q) ≤ a * q + p * b
  | 0, p, a, p0, _, ha => by
    have h1 := Rat.mul_nonneg ha.nn q0
    have h2 := Rat.mul_nonneg p0 hb.nn
    rw [sN]
    grind
  | n + 1, p, a, p0, p1, ha => by
    by_cases pe : p = 1
    · subst pe
      have h1 := Rat.mul_nonneg ha.nn q0
      have h2 := (hb (n + 1)).1
      have e : 1 * q = q := by grind
      rw [e]
      grind
    · have hp : p < 1 := by grind
      have m1 : p * q ≤ p * 1 := Rat.mul_le_mul_of_nonneg_left q1 p0
      have m0 : 0 ≤ p * q := Rat.mul_nonneg p0 q0
      have ef : Fr (p * q) = p * q := Fr_id m0 (by grind)
      have ep : Fr p = p := Fr_id p0 hp
      have h2 := ha.two
      rw [ep] at h2
      rw [sN, ef]
      by_cases c : 2 * p < 1
      · have ih := sN_mul q0 q1 hb n (p := 2 * p) (by grind) (by grind) h2
        have e : 2 * (p * q) = 2 * p * q := by grind
        rw [e]
        grind
      · have h3 := h2.shift (-1)
        have e1 : ((-1 : Int) : Rat) = -1 := rfl
        rw [e1] at h3
        have ih := sN_mul q0 q1 hb n (p := 2 * p + -1) (by grind) (by grind) h3
        have e : 2 * (p * q) = q + (2 * p + -1) * q := by grind
        have h4 := sN_add n q ((2 * p + -1) * q)
        have h5 := (hb n).1
        rw [e]
        grind
theorem IsNu.mul {p q a b c : Rat} (p0 : 0 ≤ p) (p1 : p ≤ 1) (q0 : 0 ≤ q) (q1 : q ≤ 1) (ha : IsNu p a) (hb : IsNu q b) (hc : IsNu (p * q) c) : c ≤ a * q + p * b := by
  have : c - (a * q + p * b) ≤ 0 := hp_small (c := 2) (by grind) fun n => by
    have h1 := (hc n).2
    have h2 := sN_mul q0 q1 hb n p0 p1 ha
    grind
  grind
noncomputable def sumR : List Rat → Rat
  | [] => 0
  | x :: xs => x + sumR xs
theorem sumR_app : ∀ a b : List Rat, sumR (a ++ b) = sumR a + sumR b
  | [], b => by rw [List.nil_append, sumR]; grind
  | x :: a, b => by rw [List.cons_append, sumR, sumR, sumR_app a b]; grind
theorem sN_sum (n : Nat) : ∀ l : List Rat, sN n (sumR l) ≤ sumR (l.map (sN n))
  | [] => by rw [sumR, List.map_nil, sumR, sN_zero]; exact Rat.le_refl
  | x :: l => by
    have a := sN_add n x (sumR l)
    have b := sN_sum n l
    rw [List.map_cons, sumR, sumR]
    grind
theorem IsNu.sum {α : Type} {q x : Rat} (h : IsNu q x) (l : List α) (f g : α → Rat) (e : q = sumR (l.map f)) (hg : ∀ a ∈ l, IsNu (f a) (g a)) : x ≤ sumR (l.map g) := by
  have key : ∀ n, sN n q ≤ sumR (l.map g) := fun n => by
    rw [e]
    refine Rat.le_trans (sN_sum n _) ?_
    clear e
    induction l with
    | nil => exact Rat.le_refl
    | cons a l ih =>
      have h1 := (hg a List.mem_cons_self n).1
      have h2 := ih fun b hb => hg b (List.mem_cons_of_mem _ hb)
      rw [List.map_cons, List.map_cons, List.map_cons, sumR, sumR]
      grind
  have : x - sumR (l.map g) ≤ 0 := hp_small (c := 2) (by grind) fun n => by
    have h1 := (h n).2
    have h2 := key n
    grind
  grind
noncomputable def NuL : List Rat → Rat → Prop
  | [], x => x = 0
  | q :: qs, x => ∃ a b, IsNu q a ∧ NuL qs b ∧ x = a + b
theorem NuL.uniq : ∀ {qs : List Rat} {x y : Rat}, NuL qs x → NuL qs y → x = y
  | [], x, y, hx, hy => by rw [hx, hy]
  | q :: qs, x, y, ⟨a, b, h1, h2, e⟩, ⟨a', b', h1', h2', e'⟩ => by rw [e, e', h1.uniq h1', NuL.uniq h2 h2']
theorem NuL.app : ∀ {qs rs : List Rat} {x y : Rat}, NuL qs x → NuL rs y → NuL (qs ++ rs) (x + y)
  | [], rs, x, y, hx, hy => by
    have e : x + y = y := by rw [show x = 0 from hx]; grind
    rw [e]
    exact hy
  | q :: qs, rs, x, y, ⟨a, b, h1, h2, e⟩, hy => ⟨a, b + y, h1, NuL.app h2 hy, by rw [e]; grind⟩
theorem NuL.one {q x : Rat} (h : IsNu q x) : NuL [q] x := ⟨x, 0, h, rfl, by grind⟩
theorem NuL.nn : ∀ {qs : List Rat} {x : Rat}, NuL qs x → 0 ≤ x
  | [], x, h => by rw [show x = 0 from h]; exact Rat.le_refl
  | q :: qs, x, ⟨a, b, h1, h2, e⟩ => by
    have := h1.nn
    have := NuL.nn h2
    grind
theorem NuL.rev : ∀ {qs : List Rat} {x : Rat}, NuL qs x → NuL qs.reverse x
  | [], x, h => h
  | q :: qs, x, ⟨a, b, h1, h2, e⟩ => by
    rw [List.reverse_cons, e]
    have : a + b = b + a := by grind
    rw [this]
    exact (NuL.rev h2).app (.one h1)
theorem NuL.each : ∀ {qs : List Rat} {x : Rat}, NuL qs x → ∃ g : Rat → Rat, (∀ q ∈ qs, IsNu q (g q)) ∧ x = sumR (qs.map g)
  | [], x, h => ⟨fun _ => 0, (fun q hq => nomatch hq), h⟩
  | q :: qs, x, ⟨a, b, h1, h2, e⟩ => by
    obtain ⟨g, hg, eb⟩ := NuL.each h2
    have key : ∀ r ∈ qs, (if r = q then a else g r) = g r := fun r hr => by
      by_cases c : r = q
      · rw [if_pos c]
        subst c
        exact h1.uniq (hg r hr)
      · rw [if_neg c]
    refine ⟨fun r => if r = q then a else g r, fun r hr => ?_, ?_⟩
    · rcases List.mem_cons.mp hr with e | e
      · show IsNu r (if r = q then a else g r)
        rw [if_pos e, e]
        exact h1
      · show IsNu r (if r = q then a else g r)
        rw [key r e]
        exact hg r e
    · have e2 : qs.map (fun r => if r = q then a else g r) = qs.map g := List.map_congr_left key
      rw [List.map_cons, sumR, if_pos rfl, e, eb, e2]
theorem sumR_add {α : Type} (f g : α → Rat) : ∀ l : List α, sumR (l.map fun a => f a + g a) = sumR (l.map f) + sumR (l.map g)
  | [] => by rw [List.map_nil, List.map_nil, List.map_nil, sumR]; grind
  | a :: l => by rw [List.map_cons, List.map_cons, List.map_cons, sumR, sumR, sumR, sumR_add f g l]; grind
theorem sumR_mul {α : Type} (c : Rat) (f : α → Rat) : ∀ l : List α, sumR (l.map fun a => c * f a) = c * sumR (l.map f)
  | [] => by rw [List.map_nil, List.map_nil, sumR]; grind
  | a :: l => by rw [List.map_cons, List.map_cons, sumR, sumR, sumR_mul c f l]; grind
theorem sumR_none {α : Type} : ∀ l : List α, sumR (l.map fun _ => (0 : Rat)) = 0
  | [] => rfl
  | a :: l => by rw [List.map_cons, sumR, sumR_none l]; grind
theorem sumR_swap {α β : Type} (f : α → β → Rat) : ∀ (l : List α) (m : List β), sumR (l.map fun a => sumR (m.map (f a))) = sumR (m.map fun b => sumR (l.map fun a => f a b))
  | [], m => by rw [List.map_nil, sumR]; exact (sumR_none m).symm
  | a :: l, m => by
    rw [List.map_cons, sumR, sumR_swap f l m, ← sumR_add]
    rfl
theorem sumR_le {α : Type} {f g : α → Rat} : ∀ {l : List α}, (∀ a ∈ l, f a ≤ g a) → sumR (l.map f) ≤ sumR (l.map g)
  | [], _ => Rat.le_refl
  | a :: l, h => by
    have h1 := h a List.mem_cons_self
    have h2 := sumR_le fun b hb => h b (List.mem_cons_of_mem _ hb)
    rw [List.map_cons, List.map_cons, sumR, sumR]
    grind
theorem sumR_congr {α : Type} {f g : α → Rat} {l : List α} (h : ∀ a ∈ l, f a = g a) : sumR (l.map f) = sumR (l.map g) := by rw [List.map_congr_left h]
theorem sumR_pick (m : Nat) (c : Rat) : ∀ {l : List Nat}, l.Nodup → sumR (l.map fun n => if n = m then c else 0) = if m ∈ l then c else 0
  | [], _ => rfl
  | a :: l, h => by
    rw [List.nodup_cons] at h
    have ih := sumR_pick m c h.2
    rw [List.map_cons, sumR, ih]
    by_cases e : a = m
    · subst e
      rw [if_pos rfl, if_neg h.1, if_pos List.mem_cons_self]
      grind
    · rw [if_neg e]
      by_cases c2 : m ∈ l
      · rw [if_pos c2, if_pos (List.mem_cons_of_mem _ c2)]
        grind
      · rw [if_neg c2, if_neg (fun z => by rcases List.mem_cons.mp z with y | y; exact e y.symm; exact c2 y)]
        grind
theorem sumR_nat {α : Type} (f : α → Nat) : ∀ l : List α, sumR (l.map fun a => ((f a : Nat) : Rat)) = (((l.map f).sum : Nat) : Rat)
  | [] => rfl
  | a :: l => by rw [List.map_cons, List.map_cons, sumR, List.sum_cons, Rat.natCast_add, sumR_nat f l]
theorem hp_pow : ∀ (D d : Nat), d ≤ D → hp d * ((2 ^ D : Nat) : Rat) = ((2 ^ (D - d) : Nat) : Rat)
  | D, 0, _ => by rw [hp, Nat.sub_zero]; grind
  | D, d + 1, h => by
    have ih := hp_pow D d (by omega)
    have e : D - d = D - (d + 1) + 1 := by omega
    rw [e, Nat.pow_succ, Rat.natCast_mul] at ih
    have e2 : ((2 : Nat) : Rat) = 2 := rfl
    rw [e2] at ih
    rw [hp]
    grind
theorem le_of_div {a b t : Rat} (h : 0 < t) (z : a / t ≤ b / t) : a ≤ b := by
  have := Rat.mul_le_mul_of_nonneg_left z (Rat.le_of_lt h)
  have e1 : t * (a / t) = a := by grind
  have e2 : t * (b / t) = b := by grind
  rw [e1, e2] at this
  exact this
theorem le_div {a b t : Rat} (h : 0 < t) (z : a * t ≤ b) : a ≤ b / t := by
  refine Rat.not_lt.mp fun y => ?_
  rw [Rat.div_lt_iff h] at y
  grind
theorem div_le {a b t : Rat} (h : 0 < t) (z : a ≤ b * t) : a / t ≤ b := by
  refine Rat.not_lt.mp fun y => ?_
  have := Rat.mul_lt_mul_of_pos_left y h
  have e1 : t * (a / t) = a := by grind
  rw [e1] at this
  grind
theorem share_eq {A S T : Rat} (hT : 0 < T) (hS : 0 < S) : A / S = A / T + A / S * (1 - S / T) := by
  have e : A / S * (S / T) = A / T := by grind
  grind
theorem end_bound {x S T tk : Rat} (hT : 0 < T) (hS : 0 < S) (h : x ≤ tk / T + x * (1 - S / T)) : x ≤ tk / S := by
  refine le_div hS ?_
  have h3 : x * S / T ≤ tk / T := by grind
  exact le_of_div hT h3
theorem plan_bound {es : List (Option Nat × Nat)} {D S tk : Nat} {ms : List Nat} {x : Rat} (hd : ∀ e ∈ es, e.2 ≤ D) (hS : S = (es.map fun e => if e.1.isSome then 2 ^ (D - e.2) else 0).sum) (hS0 : 0 < S) (hT : (es.map fun e => 2 ^ (D - e.2)).sum = 2 ^ D) (htk : tk = (es.map fun e => e.2 * 2 ^ (D - e.2)).sum)
    (hnd : ms.Nodup) (hms : ∀ e ∈ es, ∀ n, e.1 = some n → n ∈ ms) (hx : NuL (ms.map fun n => (((es.map fun e => if e.1 = some n then 2 ^ (D - e.2) else 0).sum : Nat) : Rat) / (S : Rat)) x) : x ≤ (tk : Rat) / (S : Rat) := by
  obtain ⟨g, hg, ex⟩ := hx.each
  rw [List.map_map] at ex
  have hSp := npos hS0
  have hTp : (0 : Rat) < ((2 ^ D : Nat) : Rat) := npos (Nat.two_pow_pos D)
  let A : Nat → Nat := fun n => (es.map fun e => if e.1 = some n then 2 ^ (D - e.2) else 0).sum
  let p : Nat → Rat := fun n => (A n : Rat) / (S : Rat)
  have hp_ : ∀ e ∈ es, hp e.2 = ((2 ^ (D - e.2) : Nat) : Rat) / ((2 ^ D : Nat) : Rat) := fun e he => by
    have := hp_pow D e.2 (hd e he)
    rw [← this]
    grind
  -- in rationals
  have sT : sumR (es.map fun e => hp e.2) = 1 := by
    rw [sumR_congr hp_]
    have := sumR_nat (fun e : Option Nat × Nat => 2 ^ (D - e.2)) es
    rw [hT] at this
    have e2 := sumR_mul (1 / ((2 ^ D : Nat) : Rat)) (fun e : Option Nat × Nat => ((2 ^ (D - e.2) : Nat) : Rat)) es
    rw [this] at e2
    rw [sumR_congr (g := fun e => 1 / ((2 ^ D : Nat) : Rat) * ((2 ^ (D - e.2) : Nat) : Rat)) fun e _ => by grind, e2]
    grind
  have sS : sumR (es.map fun e => if e.1.isSome then hp e.2 else 0) = (S : Rat) / ((2 ^ D : Nat) : Rat) := by
    have := sumR_nat (fun e : Option Nat × Nat => if e.1.isSome then 2 ^ (D - e.2) else 0) es
    rw [← hS] at this
    have e2 := sumR_mul (1 / ((2 ^ D : Nat) : Rat)) (fun e : Option Nat × Nat => (((if e.1.isSome then 2 ^ (D - e.2) else 0 : Nat)) : Rat)) es
    rw [this] at e2
    rw [sumR_congr (g := fun e => 1 / ((2 ^ D : Nat) : Rat) * (((if e.1.isSome then 2 ^ (D - e.2) else 0 : Nat)) : Rat)) fun e he => ?_, e2]
    · grind
    · by_cases c : e.1.isSome
      · rw [if_pos c, if_pos c, hp_ e he]
        grind
      · rw [if_neg c, if_neg c]
        have : ((0 : Nat) : Rat) = 0 := rfl
        grind
  have sA : ∀ n, sumR (es.map fun e => if e.1 = some n then hp e.2 else 0) = (A n : Rat) / ((2 ^ D : Nat) : Rat) := fun n => by
    have := sumR_nat (fun e : Option Nat × Nat => if e.1 = some n then 2 ^ (D - e.2) else 0) es
    have e2 := sumR_mul (1 / ((2 ^ D : Nat) : Rat)) (fun e : Option Nat × Nat => (((if e.1 = some n then 2 ^ (D - e.2) else 0 : Nat)) : Rat)) es
    rw [this] at e2
    rw [sumR_congr (g := fun e => 1 / ((2 ^ D : Nat) : Rat) * (((if e.1 = some n then 2 ^ (D - e.2) else 0 : Nat)) : Rat)) fun e he => ?_, e2]
    · show 1 / ((2 ^ D : Nat) : Rat) * (A n : Rat) = _
      grind
    · by_cases c : e.1 = some n
      · rw [if_pos c, if_pos c, hp_ e he]
        grind
      · rw [if_neg c, if_neg c]
        have : ((0 : Nat) : Rat) = 0 := rfl
        grind
  have sN0 : sumR (es.map fun e => if e.1.isSome then 0 else hp e.2) = 1 - (S : Rat) / ((2 ^ D : Nat) : Rat) := by
    have := sumR_add (fun e : Option Nat × Nat => if e.1.isSome then hp e.2 else 0) (fun e => if e.1.isSome then 0 else hp e.2) es
    rw [sumR_congr (g := fun e : Option Nat × Nat => hp e.2) fun e _ => ?_, sT, sS] at this
    · grind
    · by_cases c : e.1.isSome
      · rw [if_pos c, if_pos c]; grind
      · rw [if_neg c, if_neg c]; grind
  have stk : sumR (es.map fun e => (e.2 : Rat) * hp e.2) = (tk : Rat) / ((2 ^ D : Nat) : Rat) := by
    have := sumR_nat (fun e : Option Nat × Nat => e.2 * 2 ^ (D - e.2)) es
    rw [← htk] at this
    have e2 := sumR_mul (1 / ((2 ^ D : Nat) : Rat)) (fun e : Option Nat × Nat => (((e.2 * 2 ^ (D - e.2) : Nat)) : Rat)) es
    rw [this] at e2
    rw [sumR_congr (g := fun e => 1 / ((2 ^ D : Nat) : Rat) * (((e.2 * 2 ^ (D - e.2) : Nat)) : Rat)) fun e he => ?_, e2]
    · grind
    · rw [hp_ e he, Rat.natCast_mul]
      grind
  have spick : ∀ e ∈ es, sumR (ms.map fun n => if e.1 = some n then hp e.2 else 0) = if e.1.isSome then hp e.2 else 0 := fun e he => by
    cases h1 : e.1 with
    | none =>
      rw [sumR_congr (g := fun _ => (0 : Rat)) fun n _ => if_neg (fun z => nomatch z)]
      exact sumR_none ms
    | some m =>
      rw [sumR_congr (g := fun n => if n = m then hp e.2 else 0) fun n _ => ?_, sumR_pick m _ hnd, if_pos (hms e he m h1)]
      · rfl
      · by_cases c : n = m
        · rw [if_pos c, if_pos (by rw [c])]
        · rw [if_neg c, if_neg (fun z => c (by injection z with z; exact z.symm))]
  have sp : sumR (ms.map p) = 1 := by
    have h1 := sumR_swap (fun (n : Nat) (e : Option Nat × Nat) => if e.1 = some n then hp e.2 else 0) ms es
    rw [sumR_congr (l := es) spick, sS, sumR_congr (l := ms) fun n _ => sA n] at h1
    have h2 := sumR_mul (1 / ((2 ^ D : Nat) : Rat)) (fun n => (A n : Rat)) ms
    rw [sumR_congr (l := ms) (f := fun n => 1 / ((2 ^ D : Nat) : Rat) * (A n : Rat)) (g := fun n => (A n : Rat) / ((2 ^ D : Nat) : Rat)) fun n _ => by grind, h1] at h2
    have h3 := sumR_mul (1 / (S : Rat)) (fun n => (A n : Rat)) ms
    rw [sumR_congr (l := ms) (f := fun n => 1 / (S : Rat) * (A n : Rat)) (g := p) fun n _ => by show _ = (A n : Rat) / (S : Rat); grind] at h3
    rw [h3]
    have h4 : sumR (ms.map fun n => (A n : Rat)) = S := by grind
    rw [h4]
    grind
  have pn : ∀ n, 0 ≤ p n ∧ p n ≤ 1 := fun n => by
    have h1 : sumR (es.map fun e => if e.1 = some n then hp e.2 else 0) ≤ sumR (es.map fun e => if e.1.isSome then hp e.2 else 0) := sumR_le fun e _ => by
      have := hp_pos e.2
      by_cases c : e.1 = some n
      · rw [if_pos c, c]; exact Rat.le_refl
      · rw [if_neg c]
        by_cases c2 : e.1.isSome
        · rw [if_pos c2]; grind
        · rw [if_neg c2]; exact Rat.le_refl
    rw [sA, sS] at h1
    have h2 : (0 : Rat) ≤ (A n : Rat) := Rat.natCast_nonneg
    have h3 : (A n : Rat) ≤ (S : Rat) := le_of_div hTp h1
    exact ⟨le_div hSp (by rw [Rat.zero_mul]; exact h2), div_le hSp (by rw [Rat.one_mul]; exact h3)⟩
  have one : ∀ n ∈ ms, g (p n) ≤ sumR (es.map fun e => if e.1 = some n then (e.2 : Rat) * hp e.2 else if e.1.isSome then 0 else (e.2 : Rat) * (hp e.2 * p n) + hp e.2 * g (p n)) := fun n hn => by
    have hgn : IsNu (p n) (g (p n)) := hg _ (List.mem_map.mpr ⟨n, hn, rfl⟩)
    refine hgn.sum es (fun e => if e.1 = some n then hp e.2 else if e.1.isSome then 0 else hp e.2 * p n) _ ?_ fun e he => ?_
    · have h1 := sumR_mul (p n) (fun e : Option Nat × Nat => if e.1.isSome then 0 else hp e.2) es
      rw [sN0] at h1
      have h2 := sumR_add (fun e : Option Nat × Nat => if e.1 = some n then hp e.2 else 0) (fun e => p n * (if e.1.isSome then 0 else hp e.2)) es
      rw [h1, sA n] at h2
      rw [sumR_congr (g := fun e : Option Nat × Nat => (if e.1 = some n then hp e.2 else 0) + p n * (if e.1.isSome then 0 else hp e.2)) fun e _ => ?_, h2]
      · have e1 : p n = (A n : Rat) / (S : Rat) := rfl
        rw [e1]
        exact share_eq hTp hSp
      · by_cases c : e.1 = some n
        · rw [if_pos c, if_pos c, if_pos (by rw [c]; rfl)]; grind
        · rw [if_neg c, if_neg c]
          by_cases c2 : e.1.isSome
          · rw [if_pos c2, if_pos c2]; grind
          · rw [if_neg c2, if_neg c2]; grind
    · by_cases c : e.1 = some n
      · rw [if_pos c, if_pos c]
        have := IsNu.one.hp (by grind) (by grind) e.2
        have e1 : hp e.2 * 1 = hp e.2 := by grind
        rw [e1] at this
        have e2 : (e.2 : Rat) * hp e.2 + hp e.2 * 0 = (e.2 : Rat) * hp e.2 := by grind
        rw [e2] at this
        exact this
      · rw [if_neg c, if_neg c]
        by_cases c2 : e.1.isSome
        · rw [if_pos c2, if_pos c2]
          exact IsNu.zero
        · rw [if_neg c2, if_neg c2]
          exact hgn.hp (pn n).1 (pn n).2 e.2
  have tot : x ≤ sumR (es.map fun e => (e.2 : Rat) * hp e.2 + x * (if e.1.isSome then 0 else hp e.2)) := by
    have h1 := sumR_le one
    have h2 : sumR (ms.map fun n => g (p n)) = x := ex.symm
    rw [h2, sumR_swap (fun (n : Nat) (e : Option Nat × Nat) => if e.1 = some n then (e.2 : Rat) * hp e.2 else if e.1.isSome then 0 else (e.2 : Rat) * (hp e.2 * p n) + hp e.2 * g (p n)) ms es] at h1
    refine Rat.le_trans h1 (sumR_le fun e he => ?_)
    have hpp := hp_pos e.2
    cases h3 : e.1 with
    | none =>
      rw [sumR_congr (g := fun n => ((e.2 : Rat) * hp e.2) * p n + hp e.2 * g (p n)) fun n _ => ?_]
      · have a1 := sumR_add (fun n => ((e.2 : Rat) * hp e.2) * p n) (fun n => hp e.2 * g (p n)) ms
        have a2 := sumR_mul ((e.2 : Rat) * hp e.2) p ms
        have a3 := sumR_mul (hp e.2) (fun n => g (p n)) ms
        rw [sp] at a2
        rw [h2] at a3
        rw [a1, a2, a3]
        show _ ≤ (e.2 : Rat) * hp e.2 + x * hp e.2
        grind
      · rw [if_neg (fun z => nomatch z)]
        show (e.2 : Rat) * (hp e.2 * p n) + hp e.2 * g (p n) = _
        grind
    | some m =>
      rw [sumR_congr (g := fun n => if n = m then (e.2 : Rat) * hp e.2 else 0) fun n _ => ?_, sumR_pick m _ hnd, if_pos (hms e he m h3)]
      · show _ ≤ (e.2 : Rat) * hp e.2 + x * 0
        grind
      · by_cases c : n = m
        · rw [if_pos c, if_pos (by rw [c])]
        · rw [if_neg c, if_neg (fun z => c (by injection z with z; exact z.symm))]
          rfl
  have h1 := sumR_add (fun e : Option Nat × Nat => (e.2 : Rat) * hp e.2) (fun e => x * (if e.1.isSome then 0 else hp e.2)) es
  have h2 := sumR_mul x (fun e : Option Nat × Nat => if e.1.isSome then 0 else hp e.2) es
  rw [h1, h2, sN0, stk] at tot
  exact end_bound hTp hSp tot
theorem half_eq {U L r L' U' l : Rat} (hl : 0 < l) (hL : 0 < L) (hL' : 0 < L') (h : 2 * U * L' = L * (r * L' + U')) : 2 * U / (l * L) = r / l + 2 * U' / (l * L') / 2 := by
  have e1 : r / l + 2 * U' / (l * L') / 2 = (r * L' + U') / (l * L') := by grind
  rw [e1]
  have e2 : 2 * U / (l * L) = 2 * U * L' / (l * L * L') := by grind
  have e3 : (r * L' + U') / (l * L') = L * (r * L' + U') / (l * L * L') := by grind
  rw [e2, e3, h]
theorem nu_RF {l : Nat} (hl : 0 < l) : ∀ {u n b : Nat}, RF l u n b → IsNu ((u : Rat) / l) (((2 * hU l u n b : Nat) : Rat) / ((l * hL l u n b : Nat) : Rat)) := by
  have hlp := npos hl
  have key : ∀ (k u n b : Nat), RF l u n b → sN k ((u : Rat) / l) ≤ ((2 * hU l u n b : Nat) : Rat) / ((l * hL l u n b : Nat) : Rat) ∧ ((2 * hU l u n b : Nat) : Rat) / ((l * hL l u n b : Nat) : Rat) ≤ sN k ((u : Rat) / l) + 2 * hp k := by
    intro k
    induction k with
    | zero =>
      intro u n b h
      have hM := npos (Nat.mul_pos hl (hL_pos l u n b))
      have hle := half_le (l := l) (u := u) (n := n) (b := b) hl
      refine ⟨le_div hM (by rw [sN, Rat.zero_mul]; exact Rat.natCast_nonneg), div_le hM ?_⟩
      have h1 : ((2 * hU l u n b : Nat) : Rat) ≤ ((2 * (l * hL l u n b) : Nat) : Rat) := Rat.natCast_le_natCast.mpr (by omega)
      rw [Rat.natCast_mul 2 (l * hL l u n b)] at h1
      have e2 : ((2 : Nat) : Rat) = 2 := rfl
      rw [e2] at h1
      rw [sN, hp]
      grind
    | succ k ih =>
      intro u n b h
      obtain ⟨n', b', h'⟩ := h.step hl
      have e := half_next hl h h'
      have hi := ih _ _ _ h'
      have e' : ((2 * hU l u n b * hL l (rst l u 1) n' b' : Nat) : Rat) = ((hL l u n b * (rst l u 0 * hL l (rst l u 1) n' b' + hU l (rst l u 1) n' b') : Nat) : Rat) := by rw [e]
      have e2 : ((2 : Nat) : Rat) = 2 := rfl
      simp only [Rat.natCast_mul, Rat.natCast_add, e2] at e'
      have hx := half_eq hlp (npos (hL_pos l u n b)) (npos (hL_pos l (rst l u 1) n' b')) e'
      have c1 : ((2 * hU l u n b : Nat) : Rat) / ((l * hL l u n b : Nat) : Rat) = ((rst l u 0 : Nat) : Rat) / (l : Rat) + ((2 * hU l (rst l u 1) n' b' : Nat) : Rat) / ((l * hL l (rst l u 1) n' b' : Nat) : Rat) / 2 := by
        simp only [Rat.natCast_mul, e2]
        exact hx
      have fr : Fr ((u : Rat) / l) = ((rst l u 0 : Nat) : Rat) / (l : Rat) := Fr_div u hl
      have sh : sN k (2 * ((u : Rat) / l)) = sN k (((rst l u 1 : Nat) : Rat) / l) := by
        have d1 := Nat.div_add_mod u l
        have d2 := Nat.div_add_mod (2 * (u % l)) l
        have d3 : 2 * u = rst l u 1 + l * (2 * (u / l) + 2 * (u % l) / l) := by
          show 2 * u = 2 * (u % l) % l + _
          rw [Nat.mul_add]
          have : l * (2 * (u / l)) = 2 * (l * (u / l)) := by rw [Nat.mul_left_comm]
          omega
        have d4 : ((2 * u : Nat) : Rat) = ((rst l u 1 + l * (2 * (u / l) + 2 * (u % l) / l) : Nat) : Rat) := by rw [← d3]
        generalize 2 * (u / l) + 2 * (u % l) / l = z at d4
        rw [Rat.natCast_mul, Rat.natCast_add, Rat.natCast_mul, e2] at d4
        have d5 : 2 * ((u : Rat) / l) = ((rst l u 1 : Nat) : Rat) / l + ((z : Int) : Rat) := by
          have : ((z : Int) : Rat) = ((z : Nat) : Rat) := rfl
          rw [this]
          grind
        rw [d5, sN_int]
      rw [c1, sN, fr, sh, hp]
      grind
  exact fun {u n b} h k => key k _ _ _ h
noncomputable def frQ (q : Rat) : List V := [.int q.num, .int (q.den : Int)]
theorem frV_rat {u l : Nat} (hl : 0 < l) : frV u l = frQ ((u : Rat) / l) := by
  have e : ((u : Rat) / l) = mkRat (u : Int) l := by rw [Rat.mkRat_eq_div]; rfl
  rw [e, frQ, Rat.num_mkRat, Rat.den_mkRat, if_neg (by omega), if_neg (by omega), frV, frU, frL, Int.natAbs_natCast, Nat.gcd_comm l u]
  rfl
theorem rat_parts {q : Rat} (h : 0 ≤ q) : ∃ x : Nat, q.num = (x : Int) ∧ 0 < q.den ∧ q = (x : Rat) / (q.den : Rat) := by
  obtain ⟨x, hx⟩ : ∃ x : Nat, q.num = (x : Int) := ⟨q.num.toNat, (Int.toNat_of_nonneg (Rat.num_nonneg.mpr h)).symm⟩
  refine ⟨x, hx, Nat.pos_of_ne_zero q.den_nz, ?_⟩
  have := Rat.mkRat_self q
  rw [Rat.mkRat_eq_div, hx] at this
  exact this.symm
theorem den_frac {u l : Nat} (hl : 0 < l) : ((u : Rat) / l).den ≤ l := by
  have e : ((u : Rat) / l) = mkRat (u : Int) l := by rw [Rat.mkRat_eq_div]; rfl
  rw [e, Rat.den_mkRat, if_neg (by omega)]
  exact Nat.div_le_self _ _
theorem num_le {q : Rat} {x c : Nat} (hx : q.num = (x : Int)) (h : q ≤ c) : x ≤ c * q.den := by
  have := (Rat.le_iff q c).mp h
  rw [hx] at this
  have e1 : ((c : Rat)).num = (c : Int) := Rat.num_natCast c
  have e2 : ((c : Rat)).den = 1 := Rat.den_natCast c
  rw [e1, e2] at this
  have e3 : (x : Int) * ((1 : Nat) : Int) = (x : Int) := by omega
  rw [e3, ← Int.natCast_mul] at this
  omega
theorem nd_below : ∀ {n : Nat} {l : List Nat}, l.Nodup → (∀ x ∈ l, x < n) → l.length ≤ n
  | 0, l, _, h => by
    cases l with
    | nil => exact Nat.le_refl _
    | cons a l => exact absurd (h a List.mem_cons_self) (Nat.not_lt_zero _)
  | n + 1, l, hn, h => by
    have h1 := nd_below (n := n) (l := l.filter fun x => decide (x ≠ n)) (List.Nodup.sublist List.filter_sublist hn) fun x hx => by
      obtain ⟨a, b⟩ := List.mem_filter.mp hx
      have := h x a
      have : x ≠ n := of_decide_eq_true b
      omega
    have h2 := List.length_eq_countP_add_countP (fun x => decide (x ≠ n)) (l := l)
    have h3 : l.countP (fun x => decide (x ≠ n)) = (l.filter fun x => decide (x ≠ n)).length := List.countP_eq_length_filter
    have h4 : l.countP (fun x => decide ¬ decide (x ≠ n) = true) ≤ 1 := by
      have e : l.countP (fun x => decide ¬ decide (x ≠ n) = true) = l.count n := by
        unfold List.count
        congr 1
        funext x
        by_cases c : x = n <;> simp [c]
      rw [e]
      exact List.nodup_iff_count.mp hn n
    omega
theorem rst_scale {c l u : Nat} : ∀ k, rst (c * l) (c * u) k = c * rst l u k
  | 0 => Nat.mul_mod_mul_left ..
  | k + 1 => by
    show 2 * rst (c * l) (c * u) k % (c * l) = c * (2 * rst l u k % l)
    rw [rst_scale k, Nat.mul_left_comm, Nat.mul_mod_mul_left]
theorem RF.scaled {c l u n b : Nat} (hl : 0 < l) (h : RF (c * l) (c * u) n b) : n ≤ l := by
  have := nd_below (n := l) (l := rsL l u n) (by
    unfold rsL
    rw [List.Nodup, List.pairwise_map]
    refine (List.nodup_range (n := n)).imp_of_mem fun {i j} hi hj hne e => hne (h.nd i j (List.mem_range.mp hi) (List.mem_range.mp hj) (by rw [rst_scale, rst_scale, e]))) fun x hx => by
    obtain ⟨k, _, rfl⟩ := rsL_mem.mp hx
    exact rst_lt hl u k
  rw [rsL_len] at this
  exact this
theorem flat_sum {α β : Type} (f : α → List β) (g : β → Rat) : ∀ l : List α, sumR ((l.flatMap f).map g) = sumR (l.map fun a => sumR ((f a).map g))
  | [] => rfl
  | a :: l => by rw [List.flatMap_cons, List.map_append, sumR_app, flat_sum f g l, List.map_cons, sumR]
theorem sum_over {ws : List Nat} (h : 0 < ws.sum) : sumR (ws.map fun w : Nat => (w : Rat) / (ws.sum : Rat)) = 1 := by
  have hp := npos h
  have h1 := sumR_nat (fun w : Nat => w) ws
  rw [List.map_id'] at h1
  have h2 := sumR_mul (1 / (ws.sum : Rat)) (fun w : Nat => (w : Rat)) ws
  rw [h1] at h2
  rw [sumR_congr (g := fun w : Nat => 1 / (ws.sum : Rat) * (w : Rat)) fun w _ => by grind, h2]
  grind
theorem part_01 {ws : List Nat} (h : 0 < ws.sum) {w : Nat} (hw : w ∈ ws) : 0 ≤ (w : Rat) / (ws.sum : Rat) ∧ (w : Rat) / (ws.sum : Rat) ≤ 1 := by
  have hp := npos h
  refine ⟨le_div hp (by rw [Rat.zero_mul]; exact Rat.natCast_nonneg), div_le hp (by rw [Rat.one_mul]; exact Rat.natCast_le_natCast.mpr (le_sum hw))⟩
theorem both_bound {as bs : List Nat} (ha : 0 < as.sum) (hb : 0 < bs.sum) {x y z : Rat} (hx : NuL (as.map fun a : Nat => (a : Rat) / (as.sum : Rat)) x) (hy : NuL (bs.map fun b : Nat => (b : Rat) / (bs.sum : Rat)) y)
    (hz : NuL ((as.flatMap fun a => bs.map fun b => a * b).map fun w : Nat => (w : Rat) / ((as.sum * bs.sum : Nat) : Rat)) z) : z ≤ x + y := by
  obtain ⟨gx, hgx, ex⟩ := hx.each
  obtain ⟨gy, hgy, ey⟩ := hy.each
  obtain ⟨gz, hgz, ez⟩ := hz.each
  rw [List.map_map] at ex ey ez
  rw [flat_sum] at ez
  have pa := npos ha
  have pb := npos hb
  have e2 : ∀ a b : Nat, ((a * b : Nat) : Rat) / ((as.sum * bs.sum : Nat) : Rat) = (a : Rat) / (as.sum : Rat) * ((b : Rat) / (bs.sum : Rat)) := fun a b => by
    rw [Rat.natCast_mul, Rat.natCast_mul]
    grind
  have row : ∀ a ∈ as, sumR ((bs.map fun b => a * b).map (gz ∘ fun w : Nat => (w : Rat) / ((as.sum * bs.sum : Nat) : Rat))) ≤ gx ((a : Rat) / (as.sum : Rat)) + (a : Rat) / (as.sum : Rat) * y := fun a hma => by
    rw [List.map_map]
    have h1 : sumR (bs.map ((gz ∘ fun w : Nat => (w : Rat) / ((as.sum * bs.sum : Nat) : Rat)) ∘ fun b => a * b)) ≤ sumR (bs.map fun b : Nat => gx ((a : Rat) / (as.sum : Rat)) * ((b : Rat) / (bs.sum : Rat)) + (a : Rat) / (as.sum : Rat) * gy ((b : Rat) / (bs.sum : Rat))) := sumR_le fun b hmb => by
      have hA := hgx _ (List.mem_map.mpr ⟨a, hma, rfl⟩)
      have hB := hgy _ (List.mem_map.mpr ⟨b, hmb, rfl⟩)
      have hZ := hgz _ (List.mem_map.mpr ⟨a * b, List.mem_flatMap.mpr ⟨a, hma, List.mem_map.mpr ⟨b, hmb, rfl⟩⟩, rfl⟩)
      show gz (((a * b : Nat) : Rat) / ((as.sum * bs.sum : Nat) : Rat)) ≤ _
      have e := e2 a b
      rw [e] at hZ ⊢
      exact IsNu.mul (part_01 ha hma).1 (part_01 ha hma).2 (part_01 hb hmb).1 (part_01 hb hmb).2 hA hB hZ
    have h2 := sumR_add (fun b : Nat => gx ((a : Rat) / (as.sum : Rat)) * ((b : Rat) / (bs.sum : Rat))) (fun b : Nat => (a : Rat) / (as.sum : Rat) * gy ((b : Rat) / (bs.sum : Rat))) bs
    have h3 := sumR_mul (gx ((a : Rat) / (as.sum : Rat))) (fun b : Nat => (b : Rat) / (bs.sum : Rat)) bs
    have h4 := sumR_mul ((a : Rat) / (as.sum : Rat)) (fun b : Nat => gy ((b : Rat) / (bs.sum : Rat))) bs
    have h5 : sumR (bs.map fun b : Nat => gy ((b : Rat) / (bs.sum : Rat))) = y := ey.symm
    rw [h5] at h4
    rw [sum_over hb] at h3
    rw [h2, h3, h4] at h1
    grind
  have h1 := sumR_le row
  have h2 := sumR_add (fun a : Nat => gx ((a : Rat) / (as.sum : Rat))) (fun a : Nat => (a : Rat) / (as.sum : Rat) * y) as
  have h3 : sumR (as.map fun a : Nat => (a : Rat) / (as.sum : Rat) * y) = y := by
    have := sumR_mul y (fun a : Nat => (a : Rat) / (as.sum : Rat)) as
    rw [sum_over ha] at this
    rw [sumR_congr (g := fun a : Nat => y * ((a : Rat) / (as.sum : Rat))) fun a _ => Rat.mul_comm _ _, this]
    grind
  have h4 : sumR (as.map fun a : Nat => gx ((a : Rat) / (as.sum : Rat))) = x := ex.symm
  rw [h2, h3, h4, ← ez] at h1
  exact h1
theorem nu_one {w T : Nat} (hT : 0 < T) (h : w = 0 ∨ w = T) : IsNu ((w : Rat) / (T : Rat)) 0 := by
  have hp := npos hT
  rcases h with rfl | rfl
  · have : ((0 : Nat) : Rat) / (T : Rat) = 0 := by
      have : ((0 : Nat) : Rat) = 0 := rfl
      rw [this]
      grind
    rw [this]
    exact IsNu.zero
  · have : (w : Rat) / (w : Rat) = 1 := by grind
    rw [this]
    exact IsNu.one
theorem nu_none {w T : Nat} (hT : 0 < T) (hw : w ≤ T) (h : IsNu ((w : Rat) / (T : Rat)) 0) : w = 0 ∨ w = T := by
  have h1 := (h 1).1
  rw [sN, sN, Fr_div w hT] at h1
  have hp := npos hT
  have h2 : ((w % T : Nat) : Rat) / (T : Rat) ≤ (0 : Rat) / (T : Rat) := by grind
  have h3 := le_of_div hp h2
  have h4 : w % T ≤ 0 := Rat.natCast_le_natCast.mp (by
    have : ((0 : Nat) : Rat) = 0 := rfl
    rw [this]
    exact h3)
  by_cases c : w = T
  · exact .inr c
  · rw [Nat.mod_eq_of_lt (by omega)] at h4
    exact .inl (by omega)
theorem NuL.none : ∀ {ws : List Nat} {T : Nat} (_ : 0 < T) (_ : ∀ w ∈ ws, w ≤ T) {x : Rat}, NuL (ws.map fun w : Nat => (w : Rat) / (T : Rat)) x → (x = 0 ↔ ∀ w ∈ ws, w = 0 ∨ w = T)
  | [], _, _, _, x, h => ⟨(fun _ w hw => nomatch hw), fun _ => h⟩
  | w :: ws, T, hT, hl, x, ⟨a, b, h1, h2, e⟩ => by
    have ih := NuL.none hT (fun v hv => hl v (List.mem_cons_of_mem _ hv)) h2
    have na := h1.nn
    have nb := h2.nn
    constructor
    · intro h v hv
      have ha : a = 0 := by grind
      have hb : b = 0 := by grind
      rcases List.mem_cons.mp hv with rfl | hv
      · rw [ha] at h1
        exact nu_none hT (hl v List.mem_cons_self) h1
      · exact (ih.mp hb) v hv
    · intro h
      have ha : a = 0 := h1.uniq (nu_one hT (h w List.mem_cons_self))
      have hb := ih.mpr fun v hv => h v (List.mem_cons_of_mem _ hv)
      grind
theorem one_all : ∀ {ws : List Nat}, 0 < ws.sum → ((∀ w ∈ ws, w = 0 ∨ w = ws.sum) ↔ ws.sum ∈ ws) := by
  intro ws h0
  constructor
  · intro h
    by_cases c : ∃ w ∈ ws, w ≠ 0
    · obtain ⟨w, hw, hn⟩ := c
      rcases h w hw with e | e
      · exact absurd e hn
      · rw [← e]; exact hw
    · have : ws.sum = 0 := by
        have hz : ∀ w ∈ ws, w = 0 := fun w hw => by
          by_cases e : w = 0
          · exact e
          · exact absurd ⟨w, hw, e⟩ c
        clear h h0 c
        induction ws with
        | nil => rfl
        | cons a l ih => rw [List.sum_cons, hz a List.mem_cons_self, ih fun w hw => hz w (List.mem_cons_of_mem _ hw)]
      omega
  · intro h
    -- all others are nought
    have key : ∀ {l : List Nat} {T : Nat}, T ∈ l → l.sum = T → ∀ w ∈ l, w = 0 ∨ w = T := by
      intro l
      induction l with
      | nil => intro T h; cases h
      | cons a l ih =>
        intro T h e w hw
        rw [List.sum_cons] at e
        rcases List.mem_cons.mp h with rfl | h2
        · rcases List.mem_cons.mp hw with rfl | hw2
          · exact .inr rfl
          · exact .inl (sum_zero (by omega) w hw2)
        · have hle := le_sum h2
          have ha : a = 0 := by omega
          rcases List.mem_cons.mp hw with rfl | hw2
          · exact .inl ha
          · exact ih h2 (by omega) w hw2
    exact key h rfl
theorem tk_app (a b : List (Option Nat × Nat)) (D : Nat) : tkS (a ++ b) D = tkS a D + tkS b D := by
  unfold tkS
  rw [List.map_append, List.sum_append]
theorem tk_row (d D : Nat) : ∀ l : List (Option Nat), tkS (l.map (·, d)) D = d * 2 ^ (D - d) * l.length
  | [] => rfl
  | o :: l => by
    have := tk_row d D l
    unfold tkS at this ⊢
    rw [List.map_cons, List.map_cons, List.sum_cons, this, List.length_cons, Nat.mul_succ, Nat.add_comm]
noncomputable def sL (es : List (Option Nat × Nat)) : Nat → Nat
  | 0 => 0
  | k + 1 => sL es k + low es k
theorem tk_endsD (es : List (Option Nat × Nat)) (D : Nat) : ∀ k d, d + k = D + 1 → tkS (endsD es k d) D = d * low es k + sL es k
  | 0, d, h => by rw [low_zero]; rfl
  | k + 1, d, h => by
    rw [endsD, tk_app, tk_row, tk_endsD es D k (d + 1) (by omega), low_succ, sL, show D - d = k by omega]
    rw [Nat.mul_add, Nat.add_mul, Nat.one_mul, ← Nat.mul_assoc]
    omega
theorem sum_map_add {α : Type} (f g : α → Nat) : ∀ l : List α, (l.map fun a => f a + g a).sum = (l.map f).sum + (l.map g).sum
  | [] => rfl
  | a :: l => by rw [List.map_cons, List.map_cons, List.map_cons, List.sum_cons, List.sum_cons, List.sum_cons, sum_map_add f g l]; omega
noncomputable def mW (w : Nat) : Nat → Nat
  | 0 => 0
  | k + 1 => mW w k + w % 2 ^ k
theorem low_esW {ws : List Nat} {D : Nat} (h : ws.sum = 2 ^ D) (k : Nat) : low (esW ws D) k = (ws.map fun w => w % 2 ^ k).sum := by
  unfold low esW numE
  rw [List.map_append, List.sum_append, h, Nat.sub_self, List.map_map]
  have e : (List.map (fun e : Option Nat × Nat => e.2 % 2 ^ k) [(none, 0)]).sum = 0 := by simp
  rw [e, Nat.add_zero]
  conv => rhs; rw [← range_getD ws, List.map_map]
  rfl
theorem sL_esW {ws : List Nat} {D : Nat} (h : ws.sum = 2 ^ D) : ∀ k, sL (esW ws D) k = (ws.map fun w => mW w k).sum
  | 0 => by
    have : (ws.map fun w => mW w 0).sum = 0 := by
      clear h
      induction ws with
      | nil => rfl
      | cons a l ih => rw [List.map_cons, List.sum_cons, ih]; rfl
    rw [this]
    rfl
  | k + 1 => by
    rw [sL, sL_esW h k, low_esW h, ← sum_map_add]
    rfl
theorem sN_dy : ∀ (k w : Nat), sN k ((w : Rat) / ((2 ^ k : Nat) : Rat)) = ((mW w (k + 1) : Nat) : Rat) / ((2 ^ k : Nat) : Rat)
  | 0, w => by
    have : mW w (0 + 1) = 0 := by
      show 0 + w % 2 ^ 0 = 0
      rw [Nat.pow_zero, Nat.mod_one]
    rw [this, sN]
    have : ((0 : Nat) : Rat) = 0 := rfl
    rw [this]
    grind
  | k + 1, w => by
    have hp := npos (Nat.two_pow_pos k)
    have e0 : ((2 ^ (k + 1) : Nat) : Rat) = 2 * ((2 ^ k : Nat) : Rat) := by
      rw [Nat.pow_succ, Rat.natCast_mul]
      have : ((2 : Nat) : Rat) = 2 := rfl
      rw [this]
      grind
    have e1 : 2 * ((w : Rat) / ((2 ^ (k + 1) : Nat) : Rat)) = (w : Rat) / ((2 ^ k : Nat) : Rat) := by
      rw [e0]
      grind
    rw [sN, e1, sN_dy k w, Fr_div w (Nat.two_pow_pos _)]
    have e2 : mW w (k + 1 + 1) = mW w (k + 1) + w % 2 ^ (k + 1) := rfl
    rw [e2, Rat.natCast_add, e0]
    grind
theorem NuL.low {D : Nat} : ∀ {ws : List Nat} {x : Rat}, NuL (ws.map fun w : Nat => (w : Rat) / ((2 ^ D : Nat) : Rat)) x → (((ws.map fun w => mW w (D + 1)).sum : Nat) : Rat) / ((2 ^ D : Nat) : Rat) ≤ x
  | [], x, h => by
    have hp := npos (Nat.two_pow_pos D)
    rw [show x = 0 from h]
    have : (((([] : List Nat).map fun w => mW w (D + 1)).sum : Nat) : Rat) = 0 := rfl
    rw [this]
    grind
  | w :: ws, x, ⟨a, b, h1, h2, e⟩ => by
    have hp := npos (Nat.two_pow_pos D)
    have ih := NuL.low h2
    have h3 := (h1 D).1
    rw [sN_dy] at h3
    rw [List.map_cons, List.sum_cons, Rat.natCast_add]
    have e2 : (((mW w (D + 1) : Nat) : Rat) + (((ws.map fun w => mW w (D + 1)).sum : Nat) : Rat)) / ((2 ^ D : Nat) : Rat) = ((mW w (D + 1) : Nat) : Rat) / ((2 ^ D : Nat) : Rat) + (((ws.map fun w => mW w (D + 1)).sum : Nat) : Rat) / ((2 ^ D : Nat) : Rat) := by grind
    rw [e2]
    grind
theorem tk_deeper {l : List (Option Nat × Nat)} {d D : Nat} (h : ∀ e ∈ l, e.2 ≤ d) (hd : d ≤ D) : tkS l D = tkS l d * 2 ^ (D - d) := by
  unfold tkS
  induction l with
  | nil => simp
  | cons e l ih =>
    rw [List.map_cons, List.map_cons, List.sum_cons, List.sum_cons, ih fun x hx => h x (List.mem_cons_of_mem _ hx), Nat.add_mul, Nat.mul_assoc, ← Nat.pow_add]
    have := h e List.mem_cons_self
    rw [show d - e.2 + (D - d) = D - e.2 by omega]
theorem ends_full : ∀ (p : Pn) (d D : Nat), d + p.dp ≤ D → ((ends p d).map fun e => 2 ^ (D - e.2)).sum = 2 ^ (D - d)
  | .num n, d, D, h => by simp [ends]
  | .again, d, D, h => by simp [ends]
  | .ask a b, d, D, h => by
    have hdp : (Pn.ask a b).dp = max a.dp b.dp + 1 := rfl
    rw [hdp] at h
    show ((ends a (d + 1) ++ ends b (d + 1)).map _).sum = _
    rw [List.map_append, List.sum_append, ends_full a (d + 1) D (by omega), ends_full b (d + 1) D (by omega), show D - d = D - (d + 1) + 1 by omega, Nat.pow_succ]
    omega
theorem shP_some (n : Nat) (l : List (Option Nat × Nat)) (D : Nat) : shP (· == some n) l D = (l.map fun e => if e.1 = some n then 2 ^ (D - e.2) else 0).sum := by
  unfold shP
  congr 1
  refine List.map_congr_left fun e _ => ?_
  by_cases c : e.1 = some n
  · rw [if_pos c, if_pos (by simp [c])]
  · rw [if_neg c, if_neg (by simp [c])]
theorem plan_less {pl : Pn} (hS : 0 < shP (·.isSome) (ends pl 0) pl.dp) {ms : List Nat} (hnd : ms.Nodup) (hms : ∀ n d, (some n, d) ∈ ends pl 0 → n ∈ ms) {x : Rat} (hx : NuL (ms.map fun n : Nat => ((shP (· == some n) (ends pl 0) pl.dp : Nat) : Rat) / ((shP (·.isSome) (ends pl 0) pl.dp : Nat) : Rat)) x) :
    x ≤ ((tkS (ends pl 0) pl.dp : Nat) : Rat) / ((shP (·.isSome) (ends pl 0) pl.dp : Nat) : Rat) := by
  refine plan_bound (es := ends pl 0) (D := pl.dp) (fun e he => by have := (ends_deep pl 0 e he).2; omega) rfl hS (ends_full pl 0 pl.dp (by omega)) rfl hnd (fun e he n h => hms n e.2 (by rw [← h]; exact he)) ?_
  have e : (fun n : Nat => ((shP (· == some n) (ends pl 0) pl.dp : Nat) : Rat) / ((shP (·.isSome) (ends pl 0) pl.dp : Nat) : Rat)) = fun n : Nat => ((((ends pl 0).map fun e => if e.1 = some n then 2 ^ (pl.dp - e.2) else 0).sum : Nat) : Rat) / ((shP (·.isSome) (ends pl 0) pl.dp : Nat) : Rat) := funext fun n => by rw [shP_some]
  rw [e] at hx
  exact hx
theorem div_same {a b c d k : Nat} (hk : 0 < k) (hb : 0 < b) (h1 : a * k = c) (h2 : b * k = d) : (a : Rat) / (b : Rat) = (c : Rat) / (d : Rat) := by
  have hkp := npos hk
  have hbp := npos hb
  rw [← h1, ← h2, Rat.natCast_mul, Rat.natCast_mul]
  grind
theorem of_less {ws : List Nat} {D : Nat} (hD : ws.sum ≤ 2 ^ D) (h0 : 0 < ws.sum) {x : Rat} (hx : NuL (ws.map fun w : Nat => (w : Rat) / (ws.sum : Rat)) x) :
    x ≤ ((tkS (ends (plW ws D) 0) (plW ws D).dp : Nat) : Rat) / ((shP (·.isSome) (ends (plW ws D) 0) (plW ws D).dp : Nat) : Rat) := by
  have hall := plW_all hD
  have hS : 0 < shP (·.isSome) (ends (plW ws D) 0) (plW ws D).dp := by
    rcases Nat.eq_zero_or_pos (shP (·.isSome) (ends (plW ws D) 0) (plW ws D).dp) with z | z
    · rw [z, Nat.zero_mul] at hall
      omega
    · exact z
  refine plan_less hS (ms := List.range ws.length) List.nodup_range (fun n d h => ?_) ?_
  · have h1 := (plW_mem hD n).mp ⟨d, h⟩
    rw [List.mem_range]
    rcases Nat.lt_or_ge n ws.length with z | z
    · exact z
    · rw [List.getD_eq_getElem?_getD, List.getElem?_eq_none z] at h1
      cases h1
  · have e : (List.range ws.length).map (fun n : Nat => ((shP (· == some n) (ends (plW ws D) 0) (plW ws D).dp : Nat) : Rat) / ((shP (·.isSome) (ends (plW ws D) 0) (plW ws D).dp : Nat) : Rat)) = ws.map fun w : Nat => (w : Rat) / (ws.sum : Rat) := by
      conv => rhs; arg 2; rw [← range_getD ws]
      rw [List.map_map]
      refine List.map_congr_left fun n _ => ?_
      exact div_same (Nat.two_pow_pos _) hS (plW_one n hD) hall
    rw [e]
    exact hx
theorem of_same {ws : List Nat} {D : Nat} (hD : ws.sum = 2 ^ D) {x : Rat} (hx : NuL (ws.map fun w : Nat => (w : Rat) / (ws.sum : Rat)) x) :
    x = ((tkS (ends (plW ws D) 0) (plW ws D).dp : Nat) : Rat) / ((shP (·.isSome) (ends (plW ws D) 0) (plW ws D).dp : Nat) : Rat) := by
  have hle : ws.sum ≤ 2 ^ D := by omega
  have h0 : 0 < ws.sum := by rw [hD]; exact Nat.two_pow_pos D
  have h1 := of_less hle h0 hx
  have hall := plW_all hle
  have hS : 0 < shP (·.isSome) (ends (plW ws D) 0) (plW ws D).dp := by
    rcases Nat.eq_zero_or_pos (shP (·.isSome) (ends (plW ws D) 0) (plW ws D).dp) with z | z
    · rw [z, Nat.zero_mul] at hall
      omega
    · exact z
  have hdp := plW_dp hle
  have ht := tk_deeper (l := ends (plW ws D) 0) (fun e he => by have := (ends_deep (plW ws D) 0 e he).2; omega) hdp
  have ht2 : tkS (ends (plW ws D) 0) D = sL (esW ws D) (D + 1) := by
    rw [plW_ends hle, tk_endsD (esW ws D) D (D + 1) 0 (by omega), Nat.zero_mul, Nat.zero_add]
  rw [ht2, sL_esW hD] at ht
  rw [hD] at hx hall
  have h2 := hx.low
  rw [← div_same (Nat.two_pow_pos _) hS ht.symm hall] at h2
  grind
theorem NuL.like {q a : Rat} (h : IsNu q a) : ∀ n : Nat, NuL (List.replicate n q) (n * a)
  | 0 => by
    show ((0 : Nat) : Rat) * a = 0
    have : ((0 : Nat) : Rat) = 0 := rfl
    rw [this]
    grind
  | n + 1 => by
    rw [List.replicate_succ]
    refine ⟨a, n * a, h, NuL.like h n, ?_⟩
    rw [Rat.natCast_add]
    have : ((1 : Nat) : Rat) = 1 := rfl
    rw [this]
    grind
noncomputable def spPlus : Sp := fun vs H Q _ => ∃ (a b : Addr) (x y z v : Nat), vs = [.ref a, .ref b] ∧ H a = some (.tup [.int (x : Int), .int (y : Int)]) ∧ H b = some (.tup [.int (z : Int), .int (v : Int)]) ∧ 0 < y ∧ 0 < v ∧ Fit x ∧ Fit y ∧ Fit z ∧ Fit v ∧ Fit (y * v) ∧ ∀ p H', Same H H' → H' p = some (.tup (frV (x * v + z * y) (y * v))) → Q (.ref p) H'
section
variable {P : Program} {w : World} {K : PySem.W.Frag} {mg : Str → Option Value} {base : Heap} {f : Addr} {fd : FuncData}
theorem ok__law_plus (F__law_plus : Fun K "_law_plus" "_law_plus" s__law_plus f fd) (g__law_frac : Fn P w K mg base "_law_frac" p__law_frac 1 spFrac) : FnOk P w K mg base CX0 2 f fd p__law_plus spPlus := by
  refine F__law_plus.ok sc__law_plus (fun vs H Q E h => ?_) (fun cdv A outer s H vs Q E hr h => ?_)
  · obtain ⟨a, b, x, y, z, v, rfl, _⟩ := h
    rfl
  obtain ⟨a, b, x, y, z, v, rfl, ha, hb, hy, hv, fx, fy, fz, fv, fm, q⟩ := h
  refine ⟨_, (pss_one (ps_ret (pe_fn g__law_frac hr (pa_cons (pe_op op_add (pe_op op_mulB (pe_ix ix_tup (pv 0) pe_int (fun _ _ => rfl)) (pe_ix ix_tup (pv 1) pe_int (fun _ _ => rfl))) (pe_op op_mulB (pe_ix ix_tup (pv 1) pe_int (fun _ _ => rfl)) (pe_ix ix_tup (pv 0) pe_int (fun _ _ => rfl)))) (pa_cons (pe_op op_mulB (pe_ix ix_tup (pv 0) pe_int (fun _ _ => rfl)) (pe_ix ix_tup (pv 1) pe_int (fun _ _ => rfl))) pa_nil))))), ?_⟩
  refine ⟨_, rfl, a, _, _, _, rfl, rfl, SqT.of ha, rfl, _, rfl, b, _, _, _, rfl, rfl, SqT.of hb, rfl, _, _, rfl, rfl, ⟨fx, fv⟩, _, rfl, b, _, _, _, rfl, rfl, SqT.of hb, rfl, _, rfl, a, _, _, _, rfl, rfl, SqT.of ha, rfl, _, _, rfl, rfl, ⟨fz, fy⟩, _, _, rfl, rfl, ?_⟩
  refine ⟨_, rfl, a, _, _, _, rfl, rfl, SqT.of ha, rfl, _, rfl, b, _, _, _, rfl, rfl, SqT.of hb, rfl, _, _, rfl, rfl, ⟨fy, fv⟩, ?_⟩
  exact ⟨x * v + z * y, y * v, by rw [Int.natCast_add, Int.natCast_mul, Int.natCast_mul, Int.natCast_mul]; rfl, Nat.mul_pos hy hv, fm, q⟩
end
theorem op_or {X : Cx} {op : Value → Value → Sem Value} {r r' : R2} (h : OpR X op r) (h' : OpR X op r') : OpR X op (fun x y H Q => r x y H Q ∨ r' x y H Q) := by
  intro pins s σ H x y v u Q I rx ry z
  rcases z with z | z
  · exact h pins s σ H x y v u Q I rx ry z
  · exact h' pins s σ H x y v u Q I rx ry z
theorem snoc_map {ns : List Nat} {i : Nat} (hi : i < ns.length) (f : Nat → Nat) {y : V} (h : y = .int ((f (ns.getD i 0) : Nat) : Int)) : vnats ((ns.take i).map f) ++ [y] = vnats ((ns.take (i + 1)).map f) := by
  rw [List.take_add_one, List.getElem?_eq_getElem hi, List.map_append, vnats_app, h, List.getD_eq_getElem?_getD, List.getElem?_eq_getElem hi]
  rfl
theorem comp_mapT {K : PySem.W.Frag} {H : Hp} {a : Addr} {ns : List Nat} (ha : H a = some (.tup (vnats ns))) (hz : ns.length ≤ 1000) {g : TG} {te : TE} {σ0 : St} {Q : VK} (f : Nat → Nat) (Sg : St → Prop) (hs : Sg σ0)
    (step : ∀ (i : Nat) σ H', i < ns.length → Same H H' → Sg σ → g (.int ((ns.getD i 0 : Nat) : Int)) σ H' fun σ2 H3 => te σ2 H3 fun y H5 => Same H H5 ∧ vnats ((ns.take i).map f) ++ [y] = vnats ((ns.take (i + 1)).map f) ∧ Sg σ2)
    (fin : ∀ D H', Same H H' → H' D = some (.lst (vnats (ns.map f))) → Q (.ref D) H') : compW (Itt K a) g (fun _ H Q => Q true H) te σ0 H Q := by
  refine comp_tup (xs := vnats ns) (fun i acc σ' H' => Same H H' ∧ acc = vnats ((ns.take i).map f) ∧ Sg σ') ⟨Same.refl _, rfl, hs⟩ ?_ (fun i acc σ' H' _ ⟨s', _⟩ => SqT.of (s' _ _ ha)) ?_ ?_
  · rintro i acc σ' H' hi ⟨_, rfl, _⟩
    rw [vnats_len, List.length_map, List.length_take]
    omega
  · rintro i x acc σ' H' hx ⟨s', rfl, hσ⟩
    have hi : i < ns.length := by
      have := (List.getElem?_eq_some_iff.mp hx).1
      rwa [vnats_len] at this
    rw [vnats_at hi] at hx
    obtain rfl := Option.some.inj hx
    exact step i σ' H' hi s' hσ
  · rintro acc σ' H' D ⟨s', rfl, _⟩ fD
    rw [vnats_len, List.take_length]
    exact fin D _ (s'.trans (same_new fD _)) upd_same
structure Fq (H : Hp) (a : Addr) (q : Rat) (k : Nat) : Prop where
  at_ : H a = some (.tup (frQ q))
  nn : 0 ≤ q
  le : q ≤ ((60000 : Nat) : Rat)
  den : q.den ≤ 2 ^ k
theorem Fq.same {H H' : Hp} {a : Addr} {q : Rat} {k : Nat} (h : Fq H a q k) (s : Same H H') : Fq H' a q k := ⟨s _ _ h.at_, h.nn, h.le, h.den⟩
theorem Fq.parts {H : Hp} {a : Addr} {q : Rat} {k : Nat} (h : Fq H a q k) (hk : k ≤ 7900) : ∃ x y : Nat, H a = some (.tup [.int (x : Int), .int (y : Int)]) ∧ 0 < y ∧ y = q.den ∧ q.num = (x : Int) ∧ q = (x : Rat) / (y : Rat) ∧ Fit x ∧ Fit y ∧ y ≤ 2 ^ k := by
  obtain ⟨x, hx, hd, e⟩ := rat_parts h.nn
  have hle := num_le hx h.le
  refine ⟨x, q.den, ?_, hd, rfl, hx, e, ⟨k + 16, by omega, ?_⟩, ⟨k + 1, by omega, ?_⟩, h.den⟩
  · have := h.at_
    unfold frQ at this
    rw [hx] at this
    exact this
  · have h1 : 60000 * q.den ≤ 60000 * 2 ^ k := Nat.mul_le_mul_left _ h.den
    have h2 : 60000 * 2 ^ k < 2 ^ k * 2 ^ 16 := by
      rw [Nat.mul_comm]
      exact Nat.mul_lt_mul_of_pos_left (by decide) (Nat.two_pow_pos k)
    rw [Nat.pow_add]
    omega
  · have := h.den
    have := Nat.two_pow_pos k
    rw [Nat.pow_succ]
    omega
noncomputable def spPlusQ : Sp := fun vs H Q _ => ∃ (a b : Addr) (p q : Rat) (k m : Nat), vs = [.ref a, .ref b] ∧ Fq H a p k ∧ Fq H b q m ∧ k + m ≤ 7900 ∧ p + q ≤ ((60000 : Nat) : Rat) ∧ ∀ r H', Same H H' → Fq H' r (p + q) (k + m) → Q (.ref r) H'
theorem plus_imp : ∀ vs H Q E, spPlusQ vs H Q E → spPlus vs H Q E := by
  rintro vs H Q E ⟨a, b, p, q, k, m, rfl, ha, hb, hkm, hle, q'⟩
  obtain ⟨x, y, hx, hy, ey, _, ep, fx, fy, yk⟩ := ha.parts (by omega)
  obtain ⟨z, v, hz, hv, ev, _, eq, fz, fv, vk⟩ := hb.parts (by omega)
  have hm : y * v ≤ 2 ^ (k + m) := by
    rw [Nat.pow_add]
    exact Nat.mul_le_mul yk vk
  have hyv := Nat.mul_pos hy hv
  have e : ((x * v + z * y : Nat) : Rat) / ((y * v : Nat) : Rat) = p + q := by
    have h1 := npos hy
    have h2 := npos hv
    rw [ep, eq, Rat.natCast_add, Rat.natCast_mul, Rat.natCast_mul, Rat.natCast_mul]
    grind
  refine ⟨a, b, x, y, z, v, rfl, hx, hz, hy, hv, fx, fy, fz, fv, ⟨k + m + 1, by omega, ?_⟩, fun r H' s h => q' r H' s ⟨?_, ?_, hle, ?_⟩⟩
  · have := Nat.two_pow_pos (k + m)
    rw [Nat.pow_succ]
    omega
  · rw [h, frV_rat hyv, e]
  · exact Rat.add_nonneg ha.nn hb.nn
  · rw [← e]
    exact Nat.le_trans (den_frac hyv) hm
noncomputable def spDepthQ : Sp := fun vs H Q _ => ∃ (c u l : Nat), vs = [.int ((c * u : Nat) : Int), .int ((c * l : Nat) : Int)] ∧ 0 < c ∧ 0 < l ∧ l ≤ 700 ∧ c * l ≤ 5000 ∧ ∀ p x H', Same H H' → IsNu (((c * u : Nat) : Rat) / ((c * l : Nat) : Rat)) x → Fq H' p x (l + 13) → x ≤ 2 → Q (.ref p) H'
theorem depth_imp : ∀ vs H Q E, spDepthQ vs H Q E → spDepth vs H Q E := by
  rintro vs H Q E ⟨c, u, l, rfl, hc, hl, hl7, hl5, q⟩
  have hcl := Nat.mul_pos hc hl
  refine ⟨c * u, c * l, rfl, hcl, hl5, fun p n b H' s h hp => ?_⟩
  have hn := h.scaled hl
  have hM := Nat.mul_pos hcl (hL_pos (c * l) (c * u) n b)
  have hnu := nu_RF hcl h
  have h2 : ((2 * hU (c * l) (c * u) n b : Nat) : Rat) / ((c * l * hL (c * l) (c * u) n b : Nat) : Rat) ≤ 2 := by
    have h0 := (hnu 0).2
    rw [sN, Lw.hp] at h0
    grind
  have h3 : ((60000 : Nat) : Rat) = 60000 := rfl
  refine q p _ H' s hnu ⟨by rw [hp, frV_rat hM], hnu.nn, by rw [h3]; grind, ?_⟩ h2
  refine Nat.le_trans (den_frac hM) ?_
  have h4 : hL (c * l) (c * u) n b ≤ 2 ^ n := hL_le
  have h5 : 2 ^ n ≤ 2 ^ l := Nat.pow_le_pow_right (by decide) hn
  rw [Nat.pow_add, Nat.mul_comm]
  exact Nat.mul_le_mul (Nat.le_trans h4 h5) (Nat.le_trans hl5 (by decide))
noncomputable def spLess : Sp := fun vs H Q _ => ∃ (a b : Addr) (x y z v : Nat), vs = [.ref a, .ref b] ∧ H a = some (.tup [.int (x : Int), .int (y : Int)]) ∧ H b = some (.tup [.int (z : Int), .int (v : Int)]) ∧ Fit x ∧ Fit y ∧ Fit z ∧ Fit v ∧ x * v ≤ z * y ∧ Q (.bl true) H
noncomputable def spLessQ : Sp := fun vs H Q _ => ∃ (a b : Addr) (p q : Rat) (k m : Nat), vs = [.ref a, .ref b] ∧ Fq H a p k ∧ Fq H b q m ∧ k ≤ 7900 ∧ m ≤ 7900 ∧ p ≤ q ∧ Q (.bl true) H
theorem less_imp : ∀ vs H Q E, spLessQ vs H Q E → spLess vs H Q E := by
  rintro vs H Q E ⟨a, b, p, q, k, m, rfl, ha, hb, hk, hm, hle, q'⟩
  obtain ⟨x, y, hx, hy, ey, nx, ep, fx, fy, yk⟩ := ha.parts hk
  obtain ⟨z, v, hz, hv, ev, nz, eq, fz, fv, vk⟩ := hb.parts hm
  refine ⟨a, b, x, y, z, v, rfl, hx, hz, fx, fy, fz, fv, ?_, q'⟩
  have := (Rat.le_iff p q).mp hle
  rw [nx, nz, ← ey, ← ev, ← Int.natCast_mul, ← Int.natCast_mul] at this
  omega
noncomputable def spMP : Sp := fun vs H Q _ => ∃ (r : Addr) (c : Nat) (ws : List Nat), vs = [.ref r] ∧ H r = some (.tup (vnats (ws.map (c * ·)))) ∧ 0 < c ∧ 0 < ws.sum ∧ ws.sum ≤ 700 ∧ c * ws.sum ≤ 5000 ∧ ws.length ≤ 40 ∧ ws.length * (ws.sum + 13) ≤ 6900 ∧
  ∀ p x H', Same H H' → NuL (ws.map fun w : Nat => (w : Rat) / (ws.sum : Rat)) x → Fq H' p x (ws.length * (ws.sum + 13)) → x ≤ 2 * (ws.length : Rat) → Q (.ref p) H'
theorem sum_times (c : Nat) : ∀ ws : List Nat, (ws.map (c * ·)).sum = c * ws.sum
  | [] => rfl
  | w :: ws => by rw [List.map_cons, List.sum_cons, sum_times c ws, List.sum_cons, Nat.mul_add]
theorem take_map_one {ws : List Nat} {i : Nat} (h : i < ws.length) (f : Nat → Rat) : (ws.take (i + 1)).map f = (ws.take i).map f ++ [f (ws.getD i 0)] := by
  rw [List.take_add_one, List.getElem?_eq_getElem h, List.map_append, List.getD_eq_getElem?_getD, List.getElem?_eq_getElem h]
  rfl
section
variable {P : Program} {w : World} {K : PySem.W.Frag} {mg : Str → Option Value} {base : Heap} {f : Addr} {fd : FuncData}
theorem ok_plus (F_plus : Fun K "plus" "plus" s_plus f fd) (g_fraction : Fn P w K mg base "fraction" p_fraction 2 spFrac) : FnOk P w K mg base CX0 3 f fd p_plus spPlus := by
  refine F_plus.ok sc_plus (fun vs H Q E h => ?_) (fun cdv A outer s H vs Q E hr h => ?_)
  · obtain ⟨a, b, x, y, z, v, rfl, _⟩ := h
    rfl
  obtain ⟨a, b, x, y, z, v, rfl, ha, hb, hy, hv, fx, fy, fz, fv, fm, q⟩ := h
  refine ⟨_, (pss_one (ps_ret (pe_fn g_fraction hr (pa_cons (pe_op op_add (pe_op op_mulB (pe_ix ix_tup (pv 0) pe_int (fun _ _ => rfl)) (pe_ix ix_tup (pv 1) pe_int (fun _ _ => rfl))) (pe_op op_mulB (pe_ix ix_tup (pv 1) pe_int (fun _ _ => rfl)) (pe_ix ix_tup (pv 0) pe_int (fun _ _ => rfl)))) (pa_cons (pe_op op_mulB (pe_ix ix_tup (pv 0) pe_int (fun _ _ => rfl)) (pe_ix ix_tup (pv 1) pe_int (fun _ _ => rfl))) pa_nil))))), ?_⟩
  refine ⟨_, rfl, a, _, _, _, rfl, rfl, SqT.of ha, rfl, _, rfl, b, _, _, _, rfl, rfl, SqT.of hb, rfl, _, _, rfl, rfl, ⟨fx, fv⟩, _, rfl, b, _, _, _, rfl, rfl, SqT.of hb, rfl, _, rfl, a, _, _, _, rfl, rfl, SqT.of ha, rfl, _, _, rfl, rfl, ⟨fz, fy⟩, _, _, rfl, rfl, ?_⟩
  refine ⟨_, rfl, a, _, _, _, rfl, rfl, SqT.of ha, rfl, _, rfl, b, _, _, _, rfl, rfl, SqT.of hb, rfl, _, _, rfl, rfl, ⟨fy, fv⟩, ?_⟩
  exact ⟨x * v + z * y, y * v, by rw [Int.natCast_add, Int.natCast_mul, Int.natCast_mul, Int.natCast_mul]; rfl, Nat.mul_pos hy hv, fm, q⟩
theorem ok__law_is_less (F__law_is_less : Fun K "_law_is_less" "_law_is_less" s__law_is_less f fd) : FnOk P w K mg base CX0 1 f fd p__law_is_less spLess := by
  refine F__law_is_less.ok sc__law_is_less (fun vs H Q E h => ?_) (fun cdv A outer s H vs Q E hr h => ?_)
  · obtain ⟨a, b, x, y, z, v, rfl, _⟩ := h
    rfl
  obtain ⟨a, b, x, y, z, v, rfl, ha, hb, fx, fy, fz, fv, hle, q⟩ := h
  refine ⟨_, (pss_one (ps_ret (pe_cmpR op_le (pe_op op_mulB (pe_ix ix_tup (pv 0) pe_int (fun _ _ => rfl)) (pe_ix ix_tup (pv 1) pe_int (fun _ _ => rfl))) (pe_op op_mulB (pe_ix ix_tup (pv 1) pe_int (fun _ _ => rfl)) (pe_ix ix_tup (pv 0) pe_int (fun _ _ => rfl))) (nomark _)))), ?_⟩
  refine ⟨_, rfl, a, _, _, _, rfl, rfl, SqT.of ha, rfl, _, rfl, b, _, _, _, rfl, rfl, SqT.of hb, rfl, _, _, rfl, rfl, ⟨fx, fv⟩, _, rfl, b, _, _, _, rfl, rfl, SqT.of hb, rfl, _, rfl, a, _, _, _, rfl, rfl, SqT.of ha, rfl, _, _, rfl, rfl, ⟨fz, fy⟩, _, _, rfl, rfl, ?_⟩
  show Q (V.bl (decide ((x : Int) * (v : Int) ≤ (z : Int) * (y : Int)))) H
  rw [decide_eq_true (by rw [← Int.natCast_mul, ← Int.natCast_mul]; exact Int.ofNat_le.mpr hle)]
  exact q
theorem ok_mean_pick (F_mean_pick : Fun K "mean_pick" "mean_pick" s_mean_pick f fd) (B : Bl mg) (g_depth_sum : Fn P w K mg base "depth_sum" p_depth_sum 4 spDepthQ) (g_plus : Fn P w K mg base "plus" p_plus 4 spPlusQ) : FnOk P w K mg base CX0 5 f fd p_mean_pick spMP := by
  refine F_mean_pick.ok sc_mean_pick (fun vs H Q E h => ?_) (fun cdv A outer s H vs Q E hr h => ?_)
  · obtain ⟨r, c, ws, rfl, _⟩ := h
    rfl
  obtain ⟨r, c, ws, rfl, hR, hc, h0, h7, h5, hl, hk, q⟩ := h
  refine ⟨_, (pss_cons (ps_set (i := 1) sc_mean_pick.nd rfl (Or.inl rfl) (pe_callB (call_sumT rfl) rfl B.sum_ L3.bt_sum (pa_cons (pv 0) pa_nil)))
      (pss_cons (ps_set (i := 2) sc_mean_pick.nd rfl (Or.inl rfl) (pe_tup (pa_cons pe_int (pa_cons pe_int pa_nil))))
      (pss_cons (ps_for PassesOwn.never rfl (pi_tup (pv 0)) (pg_name (i := 3) sc_mean_pick.nd rfl (Or.inl rfl)) (pss_one (ps_set (i := 2) sc_mean_pick.nd rfl (Or.inl rfl) (pe_fn g_plus hr (pa_cons (pv 2) (pa_cons (pe_fn g_depth_sum hr (pa_cons (pv 3) (pa_cons (pv 1) pa_nil))) pa_nil))))))
      (pss_one (ps_ret (pv 2)))))), ?_⟩
  have hR2 : H r = some (.tup (((ws.map (c * ·)).map fun (n : Nat) => (n : Int)).map V.int)) := by rw [← vnats_ints]; exact hR
  refine ⟨_, rfl, r, _, rfl, SqT.of hR2, ?_⟩
  rw [sum_nats, sum_times]
  refine ⟨(by show 2 ≤ sizeLine; decide), fun p0 f0 => ?_⟩
  have y0 := same_new f0 (.tup [V.int 0, V.int 1])
  have w0 : (upd H p0 (.tup [V.int 0, V.int 1])) p0 = some (.tup (frQ 0)) := upd_same
  generalize upd H p0 (.tup [V.int 0, V.int 1]) = H1 at y0 w0 ⊢
  have z6 : (0 : Rat) ≤ ((60000 : Nat) : Rat) := Rat.natCast_nonneg
  refine ⟨_, rfl, r, rfl, ⟨_, SqT.of (y0 _ _ hR)⟩, for_tup (xs := vnats (ws.map (c * ·))) (fun i σ' H' => ∃ (p : Addr) (x : Rat) (o3 : Option V), σ' = [some (.ref r), some (.int ((c * ws.sum : Nat) : Int)), some (.ref p), o3] ∧ Same H H' ∧ NuL ((ws.take i).map fun w : Nat => (w : Rat) / (ws.sum : Rat)) x ∧ Fq H' p x (i * (ws.sum + 13)) ∧ x ≤ 2 * (i : Rat))
    ⟨p0, 0, _, rfl, y0, rfl, ⟨w0, Rat.le_refl, z6, by show 1 ≤ _; exact Nat.two_pow_pos _⟩, by have : ((0 : Nat) : Rat) = 0 := rfl
                                                                                               rw [this]
                                                                                               grind⟩ (fun i σ' H' _ ⟨_, _, _, _, s', _⟩ => SqT.of (s' _ _ hR)) ?_ ?_⟩
  · rintro i v σ' H2 hx ⟨p, x, o3, rfl, s2, hN, hF, hx2⟩
    have hi : i < ws.length := by
      have := (List.getElem?_eq_some_iff.mp hx).1
      rwa [vnats_len, List.length_map] at this
    have hxv : v = .int ((c * ws.getD i 0 : Nat) : Int) := by
      rw [vnats_at (by rw [List.length_map]; exact hi)] at hx
      rw [← Option.some.inj hx, List.getD_eq_getElem?_getD, List.getElem?_map, List.getD_eq_getElem?_getD, List.getElem?_eq_getElem hi]
      rfl
    subst hxv
    refine ⟨_, rfl, _, rfl, _, rfl, c, ws.getD i 0, ws.sum, rfl, hc, h0, h7, h5, fun p2 x2 H3 s3 hnu hF2 hx3 => ?_⟩
    have hik : (i + 1) * (ws.sum + 13) ≤ ws.length * (ws.sum + 13) := Nat.mul_le_mul_right _ hi
    have hik2 : (i + 1) * (ws.sum + 13) = i * (ws.sum + 13) + (ws.sum + 13) := Nat.succ_mul _ _
    have ic : ((i + 1 : Nat) : Rat) = (i : Rat) + 1 := by rw [Rat.natCast_add]; rfl
    have hle2 : x + x2 ≤ 2 * ((i + 1 : Nat) : Rat) := by rw [ic]; grind
    have hi40 : ((i + 1 : Nat) : Rat) ≤ ((30000 : Nat) : Rat) := Rat.natCast_le_natCast.mpr (by omega)
    have e6 : ((60000 : Nat) : Rat) = ((2 : Nat) : Rat) * ((30000 : Nat) : Rat) := Rat.natCast_mul 2 30000
    have e22 : ((2 : Nat) : Rat) = 2 := rfl
    refine ⟨p, p2, x, x2, _, _, rfl, hF.same s3, hF2, by omega, by rw [e6, e22]; grind, fun p3 H4 s4 hF3 => ?_⟩
    rw [← hik2] at hF3
    refine ⟨p3, x + x2, _, rfl, s2.trans (s3.trans s4), ?_, hF3, hle2⟩
    rw [take_map_one hi]
    refine hN.app (.one ?_)
    have hc' := npos hc
    have hS' := npos h0
    have e : ((c * ws.getD i 0 : Nat) : Rat) / ((c * ws.sum : Nat) : Rat) = ((ws.getD i 0 : Nat) : Rat) / (ws.sum : Rat) := by
      rw [Rat.natCast_mul, Rat.natCast_mul]
      grind
    rw [e] at hnu
    exact hnu
  rintro σ' H2 ⟨p, x, o3, rfl, s2, hN, hF, hx2⟩
  rw [vnats_len, List.length_map] at hF hx2 hN
  rw [List.take_length] at hN
  exact ⟨_, rfl, q p x H2 s2 hN hF hx2⟩
end
theorem sum_ind (m c : Nat) : ∀ {ms : List Nat}, ms.Pairwise (· < ·) → m ∈ ms → (ms.map fun n => if (some m == some n) = true then c else 0).sum = c
  | [], _, h => by cases h
  | x :: ms, hp, h => by
    rw [List.pairwise_cons] at hp
    rw [List.map_cons, List.sum_cons]
    have zero : ∀ l : List Nat, (∀ y ∈ l, y ≠ m) → (l.map fun n => if (some m == some n) = true then c else 0).sum = 0 := fun l => by
      induction l with
      | nil => intro _; rfl
      | cons y l ih =>
        intro hl
        rw [List.map_cons, List.sum_cons, ih (fun z hz => hl z (List.mem_cons_of_mem _ hz)), if_neg (fun z => hl y List.mem_cons_self (Option.some.inj (eq_of_beq z)).symm)]
    rcases List.mem_cons.mp h with e | h
    · subst e
      rw [if_pos (beq_self_eq_true _), zero ms (fun y hy z => by have := hp.1 y hy; omega)]
      rfl
    · have := hp.1 m h
      rw [if_neg (fun z => by have := Option.some.inj (eq_of_beq z); omega), sum_ind m c hp.2 h, Nat.zero_add]
theorem sum_add (f g : Nat → Nat) : ∀ ms : List Nat, (ms.map fun n => f n + g n).sum = (ms.map f).sum + (ms.map g).sum
  | [] => rfl
  | x :: ms => by
    rw [List.map_cons, List.map_cons, List.map_cons, List.sum_cons, List.sum_cons, List.sum_cons, sum_add f g ms]
    omega
theorem sum_all {ms : List Nat} (hp : ms.Pairwise (· < ·)) (D : Nat) : ∀ {es : List (Option Nat × Nat)}, (∀ n d, (some n, d) ∈ es → n ∈ ms) → (ms.map fun n => shP (· == some n) es D).sum = shP (·.isSome) es D
  | [], _ => by
    clear hp
    induction ms with
    | nil => rfl
    | cons x ms ih =>
      rw [List.map_cons, List.sum_cons, ih (fun n d h => by cases h)]
      rfl
  | (o, d) :: es, h => by
    have ih := sum_all hp D (es := es) fun n d hn => h n d (List.mem_cons_of_mem _ hn)
    have e1 : ∀ P : Option Nat → Bool, shP P ((o, d) :: es) D = (if P o = true then 2 ^ (D - d) else 0) + shP P es D := fun P => by
      unfold shP
      rw [List.map_cons, List.sum_cons]
    rw [e1, ← ih, show (fun n : Nat => shP (· == some n) ((o, d) :: es) D) = (fun n : Nat => (if (o == some n) = true then 2 ^ (D - d) else 0) + shP (· == some n) es D) from funext fun n => e1 _, sum_add]
    congr 1
    cases o with
    | none =>
      rw [if_neg (by decide)]
      clear h ih e1 hp
      induction ms with
      | nil => rfl
      | cons x ms ih2 =>
        rw [List.map_cons, List.sum_cons, ih2]
        rfl
    | some m =>
      rw [show (some m).isSome = true from rfl, if_pos rfl]
      exact sum_ind m _ hp (h m d List.mem_cons_self)
theorem wN_eq {A S L : Nat} (hd : frL A S ∣ L) (hS : 0 < S) : frU A S * L / frL A S * S = A * L := by
  obtain ⟨k, rfl⟩ := hd
  have hp := frL_pos (u := A) hS
  have e := fr_cross A S
  have e1 : frU A S * (frL A S * k) / frL A S = frU A S * k := by
    rw [Nat.mul_left_comm, Nat.mul_div_cancel_left _ hp]
  rw [e1, Nat.mul_right_comm, e, Nat.mul_assoc]
theorem shP_two (P : Option Nat → Bool) (pl : Pn) : shP P (ends pl 0) pl.dp ≤ 2 ^ pl.dp := by
  have h := ends_full pl 0 pl.dp (by omega)
  rw [Nat.sub_zero] at h
  rw [← h]
  unfold shP
  generalize ends pl 0 = l
  induction l with
  | nil => exact Nat.le_refl _
  | cons e l ih =>
    rw [List.map_cons, List.map_cons, List.sum_cons, List.sum_cons]
    refine Nat.add_le_add ?_ ih
    split
    · exact Nat.le_refl _
    · exact Nat.zero_le _
theorem len_le_sum {f : Nat → Nat} : ∀ {ms : List Nat}, (∀ n ∈ ms, 0 < f n) → ms.length ≤ (ms.map f).sum
  | [], _ => Nat.le_refl _
  | n :: ms, h => by
    have h1 := h n List.mem_cons_self
    have h2 := len_le_sum fun m hm => h m (List.mem_cons_of_mem _ hm)
    rw [List.map_cons, List.sum_cons, List.length_cons]
    omega
noncomputable def wtN (pl : Pn) (L n : Nat) : Nat := frU (shP (· == some n) (ends pl 0) pl.dp) (shP (·.isSome) (ends pl 0) pl.dp) * L / frL (shP (· == some n) (ends pl 0) pl.dp) (shP (·.isSome) (ends pl 0) pl.dp)
theorem wts_sum {pl : Pn} {L : Nat} (hS : 0 < shP (·.isSome) (ends pl 0) pl.dp) {ms : List Nat} (hp : ms.Pairwise (· < ·)) (hms : ∀ n d, (some n, d) ∈ ends pl 0 → n ∈ ms) (hd : ∀ n ∈ ms, frL (shP (· == some n) (ends pl 0) pl.dp) (shP (·.isSome) (ends pl 0) pl.dp) ∣ L) : (ms.map (wtN pl L)).sum = L := by
  have h1 := sum_all hp pl.dp hms
  have h2 : (ms.map (wtN pl L)).sum * shP (·.isSome) (ends pl 0) pl.dp = (ms.map fun n => shP (· == some n) (ends pl 0) pl.dp).sum * L := by
    clear h1 hms hp
    induction ms with
    | nil => rw [List.map_nil, List.map_nil, List.sum_nil, Nat.zero_mul, Nat.zero_mul]
    | cons n ms ih =>
      rw [List.map_cons, List.map_cons, List.sum_cons, List.sum_cons, Nat.add_mul, Nat.add_mul, ih fun m hm => hd m (List.mem_cons_of_mem _ hm)]
      congr 1
      exact wN_eq (hd n List.mem_cons_self) hS
  rw [h1, Nat.mul_comm] at h2
  exact Nat.eq_of_mul_eq_mul_left hS h2
theorem wts_part {pl : Pn} {L : Nat} (hS : 0 < shP (·.isSome) (ends pl 0) pl.dp) (hL : 0 < L) {n : Nat} (hd : frL (shP (· == some n) (ends pl 0) pl.dp) (shP (·.isSome) (ends pl 0) pl.dp) ∣ L) : ((wtN pl L n : Nat) : Rat) / (L : Rat) = ((shP (· == some n) (ends pl 0) pl.dp : Nat) : Rat) / ((shP (·.isSome) (ends pl 0) pl.dp : Nat) : Rat) := by
  have e : wtN pl L n * shP (·.isSome) (ends pl 0) pl.dp = shP (· == some n) (ends pl 0) pl.dp * L := wN_eq hd hS
  have e2 : ((wtN pl L n * shP (·.isSome) (ends pl 0) pl.dp : Nat) : Rat) = ((shP (· == some n) (ends pl 0) pl.dp * L : Nat) : Rat) := by rw [e]
  rw [Rat.natCast_mul, Rat.natCast_mul] at e2
  have p1 := npos hS
  have p2 := npos hL
  generalize ((wtN pl L n : Nat) : Rat) = a at *
  generalize ((shP (·.isSome) (ends pl 0) pl.dp : Nat) : Rat) = s at *
  generalize ((shP (· == some n) (ends pl 0) pl.dp : Nat) : Rat) = b at *
  have e3 : a / (L : Rat) = a * s / (s * L) := by grind
  have e4 : b / s = b * L / (s * L) := by grind
  rw [e3, e4, e2]
theorem one_times (ws : List Nat) : ws.map (1 * ·) = ws := by
  conv => rhs; rw [← List.map_id ws]
  exact List.map_congr_left fun w _ => Nat.one_mul w
noncomputable def pairsW (as bs : List Nat) : List Nat := as.flatMap fun a => bs.map fun b => a * b
theorem pairsW_sum (bs : List Nat) : ∀ as : List Nat, (pairsW as bs).sum = as.sum * bs.sum
  | [] => by rw [List.sum_nil, Nat.zero_mul]; rfl
  | a :: as => by
    have := pairsW_sum bs as
    unfold pairsW at this ⊢
    rw [List.flatMap_cons, List.sum_append, this, List.sum_cons, Nat.add_mul, sum_times]
theorem pairsW_len (bs : List Nat) : ∀ as : List Nat, (pairsW as bs).length = as.length * bs.length
  | [] => by rw [List.length_nil, Nat.zero_mul]; rfl
  | a :: as => by
    have := pairsW_len bs as
    unfold pairsW at this ⊢
    rw [List.flatMap_cons, List.length_append, this, List.length_map, List.length_cons, Nat.succ_mul, Nat.add_comm]
theorem pairsW_take {as : List Nat} {i : Nat} (bs : List Nat) (h : i < as.length) : pairsW (as.take (i + 1)) bs = pairsW (as.take i) bs ++ bs.map fun b => as.getD i 0 * b := by
  unfold pairsW
  rw [List.take_add_one, List.getElem?_eq_getElem h, List.getD_eq_getElem?_getD, List.getElem?_eq_getElem h]
  show ((as.take i ++ [as[i]]).flatMap _) = _
  rw [List.flatMap_append, List.flatMap_singleton]
  rfl
noncomputable def spPH (K : PySem.W.Frag) : Sp := fun vs H Q _ => ∃ (a t : Addr) (ns : List Int) (k : Nat), vs = [.ref a, .ref t] ∧ Scr K H a ns ∧ ns.length ≤ 63 ∧ Twn H t k ∧ k ≤ 600000 ∧ ∀ k' H', Grow t H H' → Twn H' t k' → k' ≤ k + 128 → Q (.bl true) H'
noncomputable def spBoth : Sp := fun vs H Q _ => ∃ (r1 r2 : Addr) (as bs : List Nat), vs = [.ref r1, .ref r2] ∧ H r1 = some (.tup (vnats as)) ∧ H r2 = some (.tup (vnats bs)) ∧ 0 < as.sum ∧ as.sum ≤ 20 ∧ 0 < bs.sum ∧ bs.sum ≤ 20 ∧ as.length ≤ 4 ∧ bs.length ≤ 3 ∧ (∀ x ∈ as, x ≤ 100) ∧ (∀ x ∈ bs, x ≤ 100) ∧ ∀ H', Same H H' → Q (.bl true) H'
noncomputable def spDiv : Sp := fun vs H Q _ => ∃ (x y : Nat), vs = [.int (x : Int), .int (y : Int)] ∧ Q (.int ((Nat.gcd x y : Nat) : Int)) H
section
variable {P : Program} {w : World} {K : PySem.W.Frag} {mg : Str → Option Value} {base : Heap} {f CS : Addr} {fd : FuncData}
theorem plan_all (F : Fun K "_law_plan" "_law_plan" s__law_plan f fd) (B : Bl mg) (gd : ∀ k, 2 ≤ k → Fn P w K mg base "_law_draw" p__law_draw k (spDraw K)) (go : ∀ k, 2 ≤ k → Fn P w K mg base "_law_one" p__law_one k (spOne K)) (mo : ∀ {k : Nat} {sp : Sp}, FnOk P w K mg base CX0 k f fd p__law_plan sp → Fn P w K mg base "_law_plan" p__law_plan k sp) : ∀ n : Nat, FnOk P w K mg base CX0 (n + 3) f fd p__law_plan (spMkPn K n)
  | 0 => ok__law_plan (lv := 2) (n := 0) F B (gd 2 (by decide)) (go 2 (by decide)) (mo ((ok__law_same0 (sp := fun _ _ _ _ => False) (fun _ _ _ _ h => h)).mono (show 0 ≤ 2 by decide))) (fun m vs H Q E e => by cases e)
  | n + 1 => ok__law_plan (lv := n + 3) (n := n + 1) F B (gd _ (by omega)) (go _ (by omega)) (mo (plan_all F B gd go mo n)) (fun m vs H Q E e h => by cases e; exact h)
theorem ok__law_divisor (F__law_divisor : Fun K "_law_divisor" "_law_divisor" s__law_divisor f fd) : FnOk P w K mg base CX0 1 f fd p__law_divisor spDiv := by
  refine F__law_divisor.ok sc__law_divisor (fun vs H Q E h => ?_) (fun cdv A outer s H vs Q E hr h => ?_)
  · obtain ⟨x, y, rfl, _⟩ := h
    rfl
  obtain ⟨x, y, rfl, q⟩ := h
  refine ⟨_, (pss_cons (ps_while PassesOwn.never (pt_cmpR op_ne (pv 1) pe_int (nomark _)) (pss_one (ps_par (i := 0) (j := 1) rfl sc__law_divisor.nd rfl rfl (by decide) rfl rfl (pa_cons (pv 1) (pa_cons (pe_op op_mod (pv 0) (pv 1)) pa_nil)) rfl)))
      (pss_one (ps_ret (pv 0)))), ?_⟩
  refine ⟨fun m σ' H' => ∃ (g : Nat), σ' = [some (.int (g : Int)), some (.int (m : Int))] ∧ H' = H ∧ Nat.gcd g m = Nat.gcd x y, ⟨y, x, rfl, rfl, rfl⟩, ?_⟩
  rintro m σ' H' ⟨g, rfl, rfl, hgs⟩
  refine ⟨_, rfl, rfl, _, rfl, ?_⟩
  by_cases c : m = 0
  · subst c
    rw [show (!decide (V.int ((0 : Nat) : Int) = V.int 0)) = false from rfl]
    rw [Nat.gcd_zero_right] at hgs
    subst hgs
    exact iteF ⟨_, rfl, q⟩
  · rw [show (!decide (V.int (m : Int) = V.int 0)) = true from by
      rw [decide_eq_false (fun z => c (by injection z with z; omega))]
      rfl]
    refine iteT ⟨fun σ' H'' => σ' = [some (.int (m : Int)), some (.int ((g % m : Nat) : Int))] ∧ H'' = H', fun σ' H'' ⟨e1, e2⟩ => ⟨g % m, Nat.mod_lt _ (by omega), m, e1, e2, ?_⟩, ?_⟩
    · rw [← hgs, Nat.gcd_comm m, ← Nat.gcd_rec, Nat.gcd_comm]
    refine ⟨_, rfl, _, rfl, _, rfl, _, _, rfl, rfl, (by show (0 : Int) < (m : Int); omega), _, _, rfl, ?_, rfl⟩
    rw [Int.natCast_emod]
    rfl
theorem ok__law_both_hold (F__law_both_hold : Fun K "_law_both_hold" "_law_both_hold" s__law_both_hold f fd) (B : Bl mg) (g_mean_pick : Fn P w K mg base "mean_pick" p_mean_pick 16 spMP) (g__law_plus : Fn P w K mg base "_law_plus" p__law_plus 16 spPlusQ) (g__law_is_less : Fn P w K mg base "_law_is_less" p__law_is_less 16 spLessQ) : FnOk P w K mg base CX0 17 f fd p__law_both_hold spBoth := by
  refine F__law_both_hold.ok sc__law_both_hold (fun vs H Q E h => ?_) (fun cdv A outer s H vs Q E hr h => ?_)
  · obtain ⟨r1, r2, as, bs, rfl, _⟩ := h
    rfl
  obtain ⟨r1, r2, as, bs, rfl, h1, h2, a0, a1, b0, b1, al, bl, ab, bb, q⟩ := h
  refine ⟨_, (pss_cons (ps_set (i := 2) sc__law_both_hold.nd rfl (Or.inl rfl) (pe_tup pa_nil))
      (pss_cons (ps_for PassesOwn.never rfl (pi_tup (pv 0)) (pg_name (i := 3) sc__law_both_hold.nd rfl (Or.inr rfl)) (pss_one (ps_set (i := 2) sc__law_both_hold.nd rfl (Or.inl rfl) (pe_op op_cat0 (pv 2) (pe_callTy call_tuple_of rfl B.tuple_ L3.bt_tuple (pa_cons (pe_comp [] ["_law_weights_here", "_law_others", "_law_both", "_law_weight", "_law_other"] 1 rfl (pi_tup (pv 1)) (fun _ _ _ _ _ => (pg_name (i := 4) nd_11 rfl (Or.inl rfl) (Or.inr rfl))) (fun _ _ _ _ _ => pif_nil) (fun _ _ _ _ _ => (pe_op op_mul (pv 3) (pv 4)))) pa_nil))))))
      (pss_one (ps_ret (pe_fn g__law_is_less hr (pa_cons (pe_fn g_mean_pick hr (pa_cons (pv 2) pa_nil)) (pa_cons (pe_fn g__law_plus hr (pa_cons (pe_fn g_mean_pick hr (pa_cons (pv 0) pa_nil)) (pa_cons (pe_fn g_mean_pick hr (pa_cons (pv 1) pa_nil)) pa_nil))) pa_nil))))))), ?_⟩
  refine ⟨(by show 0 ≤ sizeLine; decide), fun t0 ft0 => ?_⟩
  have y0 := same_new ft0 (.tup ([] : List V))
  have w0 : (upd H t0 (.tup ([] : List V))) t0 = some (.tup (vnats [])) := upd_same
  generalize upd H t0 (.tup ([] : List V)) = H0 at y0 w0 ⊢
  refine ⟨_, rfl, r1, rfl, ⟨_, SqT.of (y0 _ _ h1)⟩, for_tup (xs := vnats as) (fun i σ' H' => ∃ (t : Addr) (o3 : Option V), σ' = [some (.ref r1), some (.ref r2), some (.ref t), o3] ∧ Same H H' ∧ H' t = some (.tup (vnats (pairsW (as.take i) bs))))
    ⟨t0, _, rfl, y0, w0⟩ (fun i σ' H' _ ⟨_, _, _, s', _⟩ => SqT.of (s' _ _ h1)) ?_ ?_⟩
  · rintro i v σ' H1 hx ⟨t, o3, rfl, s1, ht⟩
    have hi : i < as.length := by
      have := (List.getElem?_eq_some_iff.mp hx).1
      rwa [vnats_len] at this
    rw [vnats_at hi] at hx
    obtain rfl := Option.some.inj hx
    have hai := ab _ (by rw [List.getD_eq_getElem?_getD, List.getElem?_eq_getElem hi]; exact List.getElem_mem hi : as.getD i 0 ∈ as)
    refine ⟨_, rfl, _, rfl, r2, rfl, ⟨_, SqT.of (s1 _ _ h2)⟩, comp_mapT (s1 _ _ h2) (by omega) (fun b => as.getD i 0 * b) (fun σ' => ∃ o4 : Option V, σ' = [some (.ref r1), some (.ref r2), some (.ref t), some (.int (as.getD i 0 : Int)), o4]) ⟨_, rfl⟩ ?_ ?_⟩
    · rintro j σ' H' hj s' ⟨o4, rfl⟩
      refine ⟨_, rfl, _, rfl, _, _, rfl, rfl, .inl ⟨by omega, by omega⟩, s', snoc_map hj _ ?_, _, rfl⟩
      show V.int ((as.getD i 0 : Int) * (bs.getD j 0 : Int)) = V.int ((as.getD i 0 * bs.getD j 0 : Nat) : Int)
      rw [Int.natCast_mul]
    intro D H' s' hD
    refine ⟨D, _, rfl, .inl ⟨SqL.of hD, fun tq fq => ?_⟩⟩
    have yq := same_new fq (.tup (vnats (bs.map fun b => as.getD i 0 * b)))
    have wq : upd H' tq (.tup (vnats (bs.map fun b => as.getD i 0 * b))) tq = some (.tup (vnats (bs.map fun b => as.getD i 0 * b))) := upd_same
    generalize upd H' tq (.tup (vnats (bs.map fun b => as.getD i 0 * b))) = H2 at yq wq ⊢
    have hl := pairsW_len bs (as.take i)
    have hl2 : (as.take i).length * bs.length ≤ 4 * 3 := Nat.mul_le_mul (by rw [List.length_take]; omega) bl
    refine cat34 (yq _ _ (s' _ _ ht)) wq (by rw [vnats_len, vnats_len, List.length_map, hl]; omega) fun t2 H3 s3 h3 => ?_
    rw [← vnats_app, ← pairsW_take bs hi] at h3
    exact ⟨t2, _, rfl, s1.trans (s'.trans (yq.trans s3)), h3⟩
  rintro σ' H1 ⟨t, o3, rfl, s1, ht⟩
  rw [vnats_len, List.take_length] at ht
  have psum := pairsW_sum bs as
  have plen := pairsW_len bs as
  have ps0 : 0 < (pairsW as bs).sum := by rw [psum]; exact Nat.mul_pos a0 b0
  have ps1 : (pairsW as bs).sum ≤ 400 := by rw [psum]; exact Nat.mul_le_mul a1 b1
  have pl1 : (pairsW as bs).length ≤ 12 := by rw [plen]; exact Nat.mul_le_mul al bl
  have bound : ∀ {n s m : Nat}, n ≤ m → s ≤ 400 → m ≤ 12 → n * (s + 13) ≤ 12 * 413 := fun {n s m} x y z => Nat.mul_le_mul (by omega) (by omega)
  have bd1 := bound (Nat.le_refl (pairsW as bs).length) ps1 pl1
  have bd2 := bound (Nat.le_refl as.length) (show as.sum ≤ 400 by omega) (by omega)
  have bd3 := bound (Nat.le_refl bs.length) (show bs.sum ≤ 400 by omega) (by omega)
  refine ⟨_, rfl, t, 1, pairsW as bs, rfl, by rw [one_times]; exact ht, by decide, ps0, by omega, by omega, by omega, by omega, fun p x H2 s2 hN hF hx => ?_⟩
  refine ⟨_, rfl, r1, 1, as, rfl, by rw [one_times]; exact (s1.trans s2) _ _ h1, by decide, a0, by omega, by omega, by omega, by omega, fun p2 x2 H3 s3 hN2 hF2 hx2 => ?_⟩
  refine ⟨_, rfl, r2, 1, bs, rfl, by rw [one_times]; exact ((s1.trans s2).trans s3) _ _ h2, by decide, b0, by omega, by omega, by omega, by omega, fun p3 x3 H4 s4 hN3 hF3 hx3 => ?_⟩
  have bd4 : as.length * (as.sum + 13) ≤ 4 * 33 := Nat.mul_le_mul al (by omega)
  have bd5 : bs.length * (bs.sum + 13) ≤ 3 * 33 := Nat.mul_le_mul bl (by omega)
  have c1 : ((as.length : Nat) : Rat) ≤ ((4 : Nat) : Rat) := Rat.natCast_le_natCast.mpr al
  have c2 : ((bs.length : Nat) : Rat) ≤ ((3 : Nat) : Rat) := Rat.natCast_le_natCast.mpr bl
  have e4 : ((4 : Nat) : Rat) = 4 := rfl
  have e3 : ((3 : Nat) : Rat) = 3 := rfl
  have e6 : ((60000 : Nat) : Rat) = 60000 := rfl
  refine ⟨p2, p3, x2, x3, _, _, rfl, hF2.same s4, hF3, by omega, by rw [e6]; rw [e4] at c1; rw [e3] at c2; grind, fun p4 H5 s5 hF5 => ?_⟩
  refine ⟨p, p4, x, x2 + x3, _, _, rfl, hF.same ((s3.trans s4).trans s5), hF5, by omega, by omega, ?_, q H5 ((s1.trans s2).trans ((s3.trans s4).trans s5))⟩
  refine both_bound a0 b0 hN2 hN3 ?_
  rw [psum] at hN
  exact hN
theorem ok__law_plan_holds (F__law_plan_holds : Fun K "_law_plan_holds" "_law_plan_holds" s__law_plan_holds f fd) (B : Bl mg) (g__law_plan : Fn P w K mg base "_law_plan" p__law_plan 16 (spMkPn K 5)) (g__law_ends : Fn P w K mg base "_law_ends" p__law_ends 16 (spLEnds K 12)) {fS fM : Addr} {dS dM : FuncData} (g_shares_of : FnX P w K mg base "shares_of" fS dS p_shares_of 16 (spSh K CS)) (g_mean_of : FnX P w K mg base "mean_of" fM dM p_mean_of 16 (spMean K CS)) (g__law_divisor : Fn P w K mg base "_law_divisor" p__law_divisor 16 spDiv) (g_mean_pick : Fn P w K mg base "mean_pick" p_mean_pick 16 spMP) (g__law_is_less : Fn P w K mg base "_law_is_less" p__law_is_less 16 spLessQ) : FnOk P w K mg base CX0 17 f fd p__law_plan_holds (spPH K) := by
  refine F__law_plan_holds.ok sc__law_plan_holds (fun vs H Q E h => ?_) (fun cdv A outer s H vs Q E hr h => ?_)
  · obtain ⟨a, t, ns, k, rfl, _⟩ := h
    rfl
  obtain ⟨a, t, ns, k, rfl, hS, h63, hT, hk, q⟩ := h
  refine ⟨_, (pss_cons (ps_set (i := 2) sc__law_plan_holds.nd rfl (Or.inl rfl) (pe_fn g__law_plan hr (pa_cons (pv 0) (pa_cons (pv 1) (pa_cons pe_int pa_nil)))))
      (pss_cons (ps_if (pt_not (pt_truth (pe_comp [5] ["_law_script", "_law_town", "_law_made", "_law_rows", "_law_lower", "_law_number", "_law_share", "_law_weights_here", "_law_size", "_law_high"] 2 rfl (pi_list (pe_fn g__law_ends hr (pa_cons (pv 2) (pa_cons pe_int (pa_cons pe_int pa_nil))))) (fun _ _ _ _ _ => (pg_tupK K 3 rfl (pgs_cons (pg_name (i := 5) nd_12 rfl (Or.inl rfl) (Or.inr rfl)) (pgs_cons (pg_name (i := 8) nd_12 rfl (Or.inl rfl) (Or.inr rfl)) (pgs_cons (pg_name (i := 9) nd_12 rfl (Or.inl rfl) (Or.inr rfl)) pgs_nil))) rfl rfl rfl)) (fun _ _ _ _ _ => (pif_one (pt_cmpR op_notN (pv 5) pe_non (nomark _)))) (fun _ _ _ _ _ => pe_int)) (fun _ => rfl))) (pss_one (ps_ret pe_bl)) pss_nil)
      (pss_cons (ps_set (i := 3) sc__law_plan_holds.nd rfl (Or.inl rfl) (pe_calm (px_fn g_shares_of hr (pa_cons (pv 2) pa_nil))))
      (pss_cons (ps_set (i := 4) sc__law_plan_holds.nd rfl (Or.inr rfl) pe_int)
      (pss_cons (ps_for PassesOwn.never rfl (pi_tup (pv 3)) (pg_tup rfl (pgs_cons (pg_name (i := 5) sc__law_plan_holds.nd rfl (Or.inl rfl)) (pgs_cons (pg_name (i := 6) sc__law_plan_holds.nd rfl (Or.inl rfl)) pgs_nil))) (pss_one (ps_set (i := 4) sc__law_plan_holds.nd rfl (Or.inr rfl) (pe_op op_fdiv (pe_op op_mul (pv 4) (pe_ix (ix_tupK K rfl) (pv 6) pe_int (fun _ _ => rfl))) (pe_fn g__law_divisor hr (pa_cons (pv 4) (pa_cons (pe_ix (ix_tupK K rfl) (pv 6) pe_int (fun _ _ => rfl)) pa_nil)))))))
      (pss_cons (ps_set (i := 7) sc__law_plan_holds.nd rfl (Or.inl rfl) (pe_callTy call_tuple_of rfl B.tuple_ L3.bt_tuple (pa_cons (pe_comp [5, 6] ["_law_script", "_law_town", "_law_made", "_law_rows", "_law_lower", "_law_number", "_law_share", "_law_weights_here"] 0 rfl (pi_tup (pv 3)) (fun _ _ _ _ _ => (pg_tupK K 2 rfl (pgs_cons (pg_name (i := 5) nd_13 rfl (Or.inl rfl) (Or.inr rfl)) (pgs_cons (pg_name (i := 6) nd_13 rfl (Or.inl rfl) (Or.inr rfl)) pgs_nil)) rfl rfl rfl)) (fun _ _ _ _ _ => pif_nil) (fun _ _ _ _ _ => (pe_op op_fdiv (pe_op op_mul (pe_ix (ix_tupK K rfl) (pv 6) pe_int (fun _ _ => rfl)) (pv 4)) (pe_ix (ix_tupK K rfl) (pv 6) pe_int (fun _ _ => rfl))))) pa_nil)))
      (pss_one (ps_ret (pe_fn g__law_is_less hr (pa_cons (pe_fn g_mean_pick hr (pa_cons (pv 7) pa_nil)) (pa_cons (pe_calm (px_fn g_mean_of hr (pa_cons (pv 2) pa_nil))) pa_nil))))))))))), ?_⟩
  refine ⟨_, rfl, _, rfl, a, t, ns, k, rfl, hS, h63, hT, by decide, by omega, fun v pl k' H1 g1 t1 hk' hP hdp => ?_⟩
  replace hk' : k' ≤ k + 128 := by
    have : k' + 1 ≤ k + 2 ^ (5 + 2) := hk'
    omega
  -- are there numbers?
  refine ⟨_, rfl, v, pl, 0, rfl, hP, by omega, by decide, fun l as H2 fl s2 hl hE => ?_⟩
  refine ⟨l, rfl, ⟨_, SqL.of hl⟩, comp_list (xs := as.map V.ref) (fun i acc σ' H' => Same H2 H' ∧ (∃ o5 o8 o9 : Option V, σ' = [some (.ref a), some (.ref t), some v, none, none, o5, none, none, o8, o9]) ∧ acc.length = (((ends pl 0).take i).filter fun e => e.1.isSome).length)
    ⟨Same.refl _, ⟨_, _, _, rfl⟩, rfl⟩ ?_ (fun i acc σ' H' _ ⟨s', _⟩ => SqL.of (s' _ _ hl)) ?_ ?_⟩
  · rintro i acc σ' H' hi ⟨_, _, e⟩
    rw [e]
    have h1 := List.length_filter_le (fun e : Option Nat × Nat => e.1.isSome) ((ends pl 0).take i)
    rw [List.length_take] at h1
    have h2 := ends_len pl 0
    have h3 : 2 ^ pl.dp ≤ 2 ^ 5 := Nat.pow_le_pow_right (by decide) hdp
    omega
  · rintro i x acc σ' H' hx ⟨s', ⟨o5, o8, o9, rfl⟩, e⟩
    rw [List.getElem?_map] at hx
    obtain ⟨ea, hea, rfl⟩ : ∃ ea, as[i]? = some ea ∧ x = .ref ea := by
      cases z : as[i]? with
      | none => rw [z] at hx; cases hx
      | some ea => rw [z] at hx; exact ⟨ea, rfl, (Option.some.inj hx).symm⟩
    have hi : i < (ends pl 0).length := by rw [← hE.1]; exact (List.getElem?_eq_some_iff.mp hea).1
    obtain ⟨en, hen⟩ : ∃ en, (ends pl 0)[i]? = some en := ⟨_, List.getElem?_eq_getElem hi⟩
    have hea2 := s' _ _ (hE.2 i ea en hea hen)
    have ht : ((ends pl 0).take (i + 1)).filter (fun e => e.1.isSome) = ((ends pl 0).take i).filter (fun e => e.1.isSome) ++ [en].filter (fun e => e.1.isSome) := by
      rw [List.take_add_one, hen, List.filter_append]
      rfl
    refine ⟨ea, _, rfl, SqT.of hea2, rfl, _, _, rfl, _, _, rfl, _, _, rfl, rfl, ?_⟩
    refine ⟨_, rfl, rfl, _, rfl, ?_⟩
    rw [ht]
    cases hen1 : en.1 with
    | none =>
      refine ite2 (fun c => by cases c) (fun _ => ⟨s', ⟨_, _, _, rfl⟩, ?_⟩)
      rw [e, List.filter_cons_of_neg (by rw [hen1]; simp), List.filter_nil, List.append_nil]
    | some nn =>
      refine ite2 (fun _ => ⟨s', ⟨_, _, _, rfl⟩, ?_⟩) (fun c => absurd rfl c)
      rw [List.length_append, e, List.filter_cons_of_pos (by rw [hen1]; rfl), List.filter_nil, List.length_append]
      rfl
  rintro acc σ' H3 D ⟨s3, ⟨o5, o8, o9, rfl⟩, hacc⟩ fD
  have y4 := same_new fD (.lst acc)
  have w4 : upd H3 D (.lst acc) D = some (.lst acc) := upd_same
  generalize upd H3 D (.lst acc) = H4 at y4 w4 ⊢
  have s4 : Same H1 H4 := s2.trans (s3.trans y4)
  refine ⟨!acc.isEmpty, .inl ⟨acc, SqL.of w4, rfl⟩, ?_⟩
  have hne : (!acc.isEmpty) = pl.has := by
    rw [← has_ends pl 0]
    rw [List.length_map, hE.1, List.take_length] at hacc
    cases hacc2 : acc with
    | nil =>
      rw [hacc2] at hacc
      have hz : (ends pl 0).filter (fun e => e.1.isSome) = [] := List.eq_nil_of_length_eq_zero hacc.symm
      have : (ends pl 0).any (fun e => e.1.isSome) = false := by
        rw [List.any_eq_false]
        intro e he
        have := List.filter_eq_nil_iff.mp hz e he
        exact this
      rw [this]
      rfl
    | cons z zs =>
      rw [hacc2, List.length_cons] at hacc
      have : (ends pl 0).any (fun e => e.1.isSome) = true := by
        rw [List.any_eq_true]
        have hnz : (ends pl 0).filter (fun e => e.1.isSome) ≠ [] := fun e => by rw [e] at hacc; cases hacc
        obtain ⟨e, he⟩ := List.exists_mem_of_ne_nil _ hnz
        exact ⟨e, (List.mem_filter.mp he).1, (List.mem_filter.mp he).2⟩
      rw [this]
      rfl
  rw [hne]
  have hP4 := hP.same s4
  have t4 := s4.twn t1
  have g4 : Grow t H H4 := g1.trans (.same s4)
  clear hacc hne w4 y4 fD s3 hE hl fl s2
  cases hh : pl.has with
  | false => exact ite2 (fun _ => q k' H4 g4 t4 hk') (fun c => absurd rfl c)
  | true =>
  refine ite2 (fun c => by cases c) (fun _ => ?_)
  -- the shares
  refine ⟨_, rfl, v, pl, rfl, hP4, by omega, fun _ p rs ms H5 s5 hp5 hpw hmem hlen h4096 hrow => ?_, fun hf => by rw [hh] at hf; cases hf⟩
  have hS0 : 0 < (shP (·.isSome) (ends pl 0) pl.dp) := has_pos hh
  have hS32 : (shP (·.isSome) (ends pl 0) pl.dp) ≤ 32 := Nat.le_trans (shP_two _ pl) (Nat.pow_le_pow_right (n := 2) (by decide) hdp)
  have hms : ∀ n d, (some n, d) ∈ ends pl 0 → n ∈ ms := fun n d h => (hmem n).mpr ⟨d, h⟩
  have hml : ms.length ≤ 32 := by
    have h1 := sum_all hpw pl.dp hms
    have h2 := len_le_sum (f := fun n => (shP (· == some n) (ends pl 0) pl.dp)) (ms := ms) fun n hn => by
      obtain ⟨d, hd⟩ := (hmem n).mp hn
      exact shP_mem (e := (some n, d)) (by simp) hd
    omega
  have hg : ∀ {i : Nat} {x : V}, (rs.map V.ref)[i]? = some x → ∃ r n fp, x = .ref r ∧ ms[i]? = some n ∧ H5 r = some (.tup [.int (n : Int), .ref fp]) ∧ H5 fp = some (.tup (frV (shP (· == some n) (ends pl 0) pl.dp) (shP (·.isSome) (ends pl 0) pl.dp))) := fun {i x} hx => by
    rw [List.getElem?_map] at hx
    cases z : rs[i]? with
    | none => rw [z] at hx; cases hx
    | some r =>
      rw [z] at hx
      have hi : i < ms.length := by rw [← hlen]; exact (List.getElem?_eq_some_iff.mp z).1
      obtain ⟨n, hn⟩ : ∃ n, ms[i]? = some n := ⟨_, List.getElem?_eq_getElem hi⟩
      obtain ⟨fp, h1, h2⟩ := hrow i r n z hn
      exact ⟨r, n, fp, (Option.some.inj hx).symm, hn, h1, h2⟩
  refine ⟨_, rfl, p, rfl, ⟨_, SqT.of hp5⟩, for_tup (xs := rs.map V.ref) (fun i σ' H' => H' = H5 ∧ ∃ (L : Nat) (o5 o6 : Option V), σ' = [some (.ref a), some (.ref t), some v, some (.ref p), some (.int (L : Int)), o5, o6, none] ∧ 0 < L ∧ L ∣ (shP (·.isSome) (ends pl 0) pl.dp) ∧ ∀ j n, j < i → ms[j]? = some n → frL (shP (· == some n) (ends pl 0) pl.dp) (shP (·.isSome) (ends pl 0) pl.dp) ∣ L)
    ⟨rfl, 1, _, _, rfl, by decide, Nat.one_dvd _, fun j n hj => absurd hj (Nat.not_lt_zero _)⟩ (fun i σ' H' _ ⟨e, _⟩ => by rw [e]; exact SqT.of hp5) ?_ ?_⟩
  · rintro i x σ' H' hx ⟨rfl, L, p5, p6, rfl, hL0, hLd, hLa⟩
    obtain ⟨r, n, fp, rfl, hn, hr1, hr2⟩ := hg hx
    have hdp0 := frL_pos (u := (shP (· == some n) (ends pl 0) pl.dp)) hS0
    have hdv : frL (shP (· == some n) (ends pl 0) pl.dp) (shP (·.isSome) (ends pl 0) pl.dp) ∣ (shP (·.isSome) (ends pl 0) pl.dp) := ⟨_, (frL_mul (shP (· == some n) (ends pl 0) pl.dp) (shP (·.isSome) (ends pl 0) pl.dp)).symm⟩
    have hdl := Nat.le_of_dvd hS0 hdv
    have hLl := Nat.le_of_dvd hS0 hLd
    have hgp : 0 < Nat.gcd L (frL (shP (· == some n) (ends pl 0) pl.dp) (shP (·.isSome) (ends pl 0) pl.dp)) := Nat.gcd_pos_of_pos_left _ hL0
    have hgl : Nat.gcd L (frL (shP (· == some n) (ends pl 0) pl.dp) (shP (·.isSome) (ends pl 0) pl.dp)) ≤ L := Nat.gcd_le_left _ hL0
    refine ⟨r, _, rfl, SqT.of hr1, rfl, _, _, rfl, _, _, rfl, rfl, ?_⟩
    refine ⟨_, rfl, _, rfl, fp, _, _, _, rfl, rfl, SqT.of hr2, rfl, _, _, rfl, rfl, .inl ⟨by omega, by omega⟩, _, rfl, _, rfl, fp, _, _, _, rfl, rfl, SqT.of hr2, rfl, L, frL (shP (· == some n) (ends pl 0) pl.dp) (shP (·.isSome) (ends pl 0) pl.dp), rfl, _, _, rfl, rfl, ⟨by omega, by omega⟩, ?_⟩
    refine ⟨rfl, Nat.lcm L (frL (shP (· == some n) (ends pl 0) pl.dp) (shP (·.isSome) (ends pl 0) pl.dp)), some (.int (n : Int)), some (.ref fp), ?_, Nat.lcm_pos hL0 hdp0, Nat.lcm_dvd hLd hdv, fun j n2 hj hn2 => ?_⟩
    · show _ = [some (V.ref a), some (V.ref t), some v, some (V.ref p), some (V.int ((L * frL (shP (· == some n) (ends pl 0) pl.dp) (shP (·.isSome) (ends pl 0) pl.dp) / Nat.gcd L (frL (shP (· == some n) (ends pl 0) pl.dp) (shP (·.isSome) (ends pl 0) pl.dp)) : Nat) : Int)), some (V.int (n : Int)), some (V.ref fp), none]
      rw [Int.natCast_ediv, Int.natCast_mul]
      rfl
    · by_cases c : j = i
      · subst c
        rw [hn] at hn2
        cases hn2
        exact Nat.dvd_lcm_right _ _
      · exact Nat.dvd_trans (hLa j n2 (by omega) hn2) (Nat.dvd_lcm_left _ _)
  rintro σ' H' ⟨rfl, L, p5, p6, rfl, hL0, hLd, hLa⟩
  rw [List.length_map, hlen] at hLa
  have hLl := Nat.le_of_dvd hS0 hLd
  have hall : ∀ n ∈ ms, frL (shP (· == some n) (ends pl 0) pl.dp) (shP (·.isSome) (ends pl 0) pl.dp) ∣ L := fun n hn => by
    obtain ⟨j, hj⟩ := List.mem_iff_getElem?.mp hn
    exact hLa j n (List.getElem?_eq_some_iff.mp hj).1 hj
  -- the weights
  refine ⟨_, rfl, p, rfl, ⟨_, SqT.of hp5⟩, comp_tup (xs := rs.map V.ref) (fun i acc σ' H'' => H'' = H' ∧ acc = vnats ((ms.take i).map (wtN pl L)) ∧ ∃ o5 o6 : Option V, σ' = [some (.ref a), some (.ref t), some v, some (.ref p), some (.int (L : Int)), o5, o6, none])
    ⟨rfl, rfl, _, _, rfl⟩ ?_ (fun i acc σ' H'' _ ⟨e, _⟩ => by rw [e]; exact SqT.of hp5) ?_ ?_⟩
  · rintro i acc σ' H'' hi ⟨_, rfl, _⟩
    rw [vnats_len, List.length_map, List.length_take]
    omega
  · rintro i x acc σ' H'' hx ⟨rfl, rfl, q5, q6, rfl⟩
    obtain ⟨r, n, fp, rfl, hn, hr1, hr2⟩ := hg hx
    have hi : i < ms.length := (List.getElem?_eq_some_iff.mp hn).1
    have hn' : ms.getD i 0 = n := by rw [List.getD_eq_getElem?_getD, hn]; rfl
    have hdp0 := frL_pos (u := (shP (· == some n) (ends pl 0) pl.dp)) hS0
    have hdl : frL (shP (· == some n) (ends pl 0) pl.dp) (shP (·.isSome) (ends pl 0) pl.dp) ≤ (shP (·.isSome) (ends pl 0) pl.dp) := frL_le _ _
    refine ⟨r, _, rfl, SqT.of hr1, rfl, _, _, rfl, _, _, rfl, rfl, ?_⟩
    refine ⟨_, rfl, fp, _, _, _, rfl, rfl, SqT.of hr2, rfl, _, rfl, _, _, rfl, rfl, .inr ⟨by omega, by omega⟩, _, rfl, fp, _, _, _, rfl, rfl, SqT.of hr2, rfl, _, _, rfl, rfl, ⟨by omega, by omega⟩, ?_⟩
    refine ⟨rfl, snoc_map hi _ ?_, _, _, rfl⟩
    rw [hn']
    show V.int ((frU (shP (· == some n) (ends pl 0) pl.dp) (shP (·.isSome) (ends pl 0) pl.dp) : Int) * (L : Int) / (frL (shP (· == some n) (ends pl 0) pl.dp) (shP (·.isSome) (ends pl 0) pl.dp) : Int)) = V.int ((wtN pl L n : Nat) : Int)
    unfold wtN
    rw [Int.natCast_ediv, Int.natCast_mul]
  rintro acc σ' H'' D ⟨rfl, rfl, q5, q6, rfl⟩ fD
  rw [List.length_map, hlen, List.take_length]
  have yD := same_new fD (.lst (vnats (ms.map (wtN pl L))))
  have wD : upd H'' D (.lst (vnats (ms.map (wtN pl L)))) D = some (.lst (vnats (ms.map (wtN pl L)))) := upd_same
  generalize upd H'' D (.lst (vnats (ms.map (wtN pl L)))) = H6 at yD wD ⊢
  refine ⟨D, _, rfl, .inl ⟨SqL.of wD, fun rq frq => ?_⟩⟩
  have yq := same_new frq (.tup (vnats (ms.map (wtN pl L))))
  have wq : upd H6 rq (.tup (vnats (ms.map (wtN pl L)))) rq = some (.tup (vnats (ms.map (wtN pl L)))) := upd_same
  generalize upd H6 rq (.tup (vnats (ms.map (wtN pl L)))) = H7 at yq wq ⊢
  have hsum := wts_sum hS0 hpw hms hall
  have z7 : Same H4 H7 := s5.trans (yD.trans yq)
  have hbd : (ms.map (wtN pl L)).length * ((ms.map (wtN pl L)).sum + 13) ≤ 32 * 45 := Nat.mul_le_mul (by rw [List.length_map]; exact hml) (by rw [hsum]; omega)
  refine ⟨_, rfl, rq, 1, ms.map (wtN pl L), rfl, by rw [one_times]; exact wq, by decide, by rw [hsum]; exact hL0, by rw [hsum]; omega, by rw [hsum]; omega, by rw [List.length_map]; omega, by omega, fun pm x H8 s8 hN hF hx => ?_⟩
  refine ⟨_, rfl, v, pl, rfl, (hP4.same z7).same s8, by omega, fun _ pm2 H9 s9 hm => ?_, fun hf => by rw [hh] at hf; cases hf⟩
  have tk5 : tkS (ends pl 0) pl.dp ≤ 60000 := by
    have h1 : ∀ l : List (Option Nat × Nat), (∀ e ∈ l, e.2 ≤ pl.dp) → tkS l pl.dp ≤ pl.dp * (l.map fun e => 2 ^ (pl.dp - e.2)).sum := by
      intro l
      induction l with
      | nil => intro _; exact Nat.zero_le _
      | cons e l ih =>
        intro he
        have i1 := ih fun x hx => he x (List.mem_cons_of_mem _ hx)
        unfold tkS at i1 ⊢
        rw [List.map_cons, List.map_cons, List.sum_cons, List.sum_cons, Nat.mul_add]
        exact Nat.add_le_add (Nat.mul_le_mul_right _ (he e List.mem_cons_self)) i1
    have h2 := h1 (ends pl 0) fun e he => by have := (ends_deep pl 0 e he).2; omega
    rw [ends_full pl 0 pl.dp (by omega), Nat.sub_zero] at h2
    have h3 : pl.dp * 2 ^ pl.dp ≤ 5 * 2 ^ 5 := Nat.mul_le_mul hdp (Nat.pow_le_pow_right (by decide) hdp)
    omega
  have hSp := npos hS0
  have hF2 : Fq H9 pm2 (((tkS (ends pl 0) pl.dp : Nat) : Rat) / (((shP (·.isSome) (ends pl 0) pl.dp) : Nat) : Rat)) 12 := by
    refine ⟨by rw [hm, frV_rat hS0], le_div hSp (by rw [Rat.zero_mul]; exact Rat.natCast_nonneg), div_le hSp ?_, Nat.le_trans (den_frac hS0) (by omega)⟩
    rw [← Rat.natCast_mul]
    exact Rat.natCast_le_natCast.mpr (Nat.le_trans tk5 (Nat.le_mul_of_pos_right _ hS0))
  refine ⟨pm, pm2, x, _, _, 12, rfl, hF.same s9, hF2, by omega, by decide, ?_, q k' H9 (g4.trans (.same (z7.trans (s8.trans s9)))) (((z7.trans s8).trans s9).twn t4) hk'⟩
  refine plan_less hS0 (ms := ms) (hpw.imp fun h => Nat.ne_of_lt h) hms ?_
  rw [hsum, List.map_map] at hN
  have e : ms.map ((fun w : Nat => (w : Rat) / (L : Rat)) ∘ wtN pl L) = ms.map fun n : Nat => (((shP (· == some n) (ends pl 0) pl.dp) : Nat) : Rat) / (((shP (·.isSome) (ends pl 0) pl.dp) : Nat) : Rat) := List.map_congr_left fun n hn => wts_part hS0 hL0 (hall n hn)
  rw [e] at hN
  exact hN
end
theorem np {σ : St} {H : Hp} {Q : Option Int → Hp → Prop} (h : Q none H) : tNoPart σ H Q := h
theorem sl_back {K : PySem.W.Frag} {H : Hp} {a : Addr} {xs : List V} {Q : VK} (h : H a = some (.tup xs)) (hz : xs.length ≤ 100000) (q : ∀ p ys H', Same H H' → H' p = some (.tup ys) → ys = L3.pickAt xs (L3.cutAt xs.length none none (some (-1))) → Q (.ref p) H') : rSl3 K (.ref a) none none (some (-1)) H Q := by
  refine ⟨a, xs, rfl, SqT.of h, by decide, Nat.le_trans (cut_back _) (Nat.le_trans hz (by decide)), fun w => ?_, fun _ p fp => q p _ _ (same_new fp _) upd_same rfl⟩
  unfold L3.wholeAt at w
  rw [Bool.and_eq_true, Bool.and_eq_true, beq_iff_eq, beq_iff_eq, beq_iff_eq] at w
  exact absurd w.1.2 (by show ¬ (-1 : Int) = 1; decide)
theorem back_rev : ∀ (xs : List V), xs.length ≤ 9 → L3.pickAt xs (L3.cutAt xs.length none none (some (-1))) = xs.reverse := fun xs h => match xs, h with
  | [], _ => by with_unfolding_all rfl
  | [a], _ => by with_unfolding_all rfl
  | [a, b], _ => by with_unfolding_all rfl
  | [a, b, c], _ => by with_unfolding_all rfl
  | [a, b, c, d], _ => by with_unfolding_all rfl
  | [a, b, c, d, e], _ => by with_unfolding_all rfl
  | [a, b, c, d, e, f], _ => by with_unfolding_all rfl
  | [a, b, c, d, e, f, g], _ => by with_unfolding_all rfl
  | [a, b, c, d, e, f, g, h], _ => by with_unfolding_all rfl
  | [a, b, c, d, e, f, g, h, i], _ => by with_unfolding_all rfl
  | _ :: _ :: _ :: _ :: _ :: _ :: _ :: _ :: _ :: _ :: _, h => absurd h (by simp only [List.length_cons]; omega)
theorem rev_slice {K : PySem.W.Frag} {H : Hp} {p : Addr} {ws : List Nat} {Q : VK} (h : H p = some (.tup (vnats ws))) (hb : ws.length ≤ 9) (q : ∀ p' H', Same H H' → H' p' = some (.tup (vnats ws.reverse)) → Q (.ref p') H') : rSl3 K (.ref p) none none (some (-1)) H Q := by
  refine sl_back h (by rw [vnats_len]; omega) fun p' ys H' s hp e => q p' H' s ?_
  rw [back_rev _ (by rw [vnats_len]; exact hb)] at e
  rw [hp, e, vnats, vnats, List.map_reverse]
theorem z20 : (0 : Rat) ≤ 2 * ((0 : Nat) : Rat) := by
  have : ((0 : Nat) : Rat) = 0 := rfl
  rw [this]
  grind
theorem rep_join {K : PySem.W.Frag} {H : Hp} {l : Addr} {v : V} {n : Nat} {Q : VK} (h : H l = some (.tup [v])) (hn : 0 < n) (hn2 : n ≤ 1000) (q : ∀ p H', Same H H' → H' p = some (.tup (List.replicate n v)) → Q (.ref p) H') : rRepT K (.ref l) (.int (n : Int)) H Q ∨ rRepT01 K (.ref l) (.int (n : Int)) H Q := by
  by_cases c : n = 1
  · subst c
    exact .inr ⟨l, _, _, rfl, rfl, SqT.of h, (fun z => by cases z), .inl ⟨rfl, q l H (Same.refl _) h⟩⟩
  · refine .inl ⟨l, _, _, rfl, rfl, SqT.of h, (fun z => by cases z), by omega, by omega, ?_, fun p fp => q p _ (same_new fp _) ?_⟩
    · rw [Int.toNat_natCast]
      exact small (by show 1 * n ≤ _; omega)
    · rw [upd_same, Int.toNat_natCast]
      congr 2
      clear hn hn2 c q h
      induction n with
      | zero => rfl
      | succ n ih => rw [List.replicate_succ, List.flatten_cons, ih, List.replicate_succ]; rfl
theorem rep_nats (n b : Nat) : List.replicate n (V.int (b : Int)) = vnats ((List.replicate n 1).map (b * ·)) := by
  rw [List.map_replicate, Nat.mul_one, vnats, List.map_replicate]
theorem rep_sum (n : Nat) : (List.replicate n 1).sum = n := by
  induction n with
  | zero => rfl
  | succ n ih => rw [List.replicate_succ, List.sum_cons, ih, Nat.add_comm]
theorem tk_bound (pl : Pn) : tkS (ends pl 0) pl.dp ≤ pl.dp * 2 ^ pl.dp := by
  have h1 : ∀ l : List (Option Nat × Nat), (∀ e ∈ l, e.2 ≤ pl.dp) → tkS l pl.dp ≤ pl.dp * (l.map fun e => 2 ^ (pl.dp - e.2)).sum := by
    intro l
    induction l with
    | nil => intro _; exact Nat.zero_le _
    | cons e l ih =>
      intro he
      have i1 := ih fun x hx => he x (List.mem_cons_of_mem _ hx)
      unfold tkS at i1 ⊢
      rw [List.map_cons, List.map_cons, List.sum_cons, List.sum_cons, Nat.mul_add]
      exact Nat.add_le_add (Nat.mul_le_mul_right _ (he e List.mem_cons_self)) i1
  have h2 := h1 (ends pl 0) fun e he => by have := (ends_deep pl 0 e he).2; omega
  rw [ends_full pl 0 pl.dp (by omega), Nat.sub_zero] at h2
  exact h2
theorem frQ_int (x : Rat) : frQ x = [x.num, (x.den : Int)].map V.int := rfl
theorem zero_iff (x : Rat) : ([x.num, (x.den : Int)] = [0, 1]) ↔ x = 0 := by
  constructor
  · intro h
    injection h with h1 h2
    injection h2 with h2 _
    exact Rat.ext h1 (by show x.den = 1; omega)
  · rintro rfl
    rfl
theorem Fq.grow {H H' : Hp} {a t : Addr} {q : Rat} {k kk : Nat} (h : Fq H a q k) (tw : Twn H t kk) (g : Grow t H H') : Fq H' a q k := ⟨g _ _ (twn_tup tw h.at_) h.at_, h.nn, h.le, h.den⟩
theorem Fq.mono {H : Hp} {a : Addr} {q : Rat} {k m : Nat} (h : Fq H a q k) (l : k ≤ m) : Fq H a q m := ⟨h.at_, h.nn, h.le, Nat.le_trans h.den (Nat.pow_le_pow_right (by decide) l)⟩
theorem sum_le90 : ∀ ws : List Nat, (ws.map (· % 90)).sum ≤ 89 * ws.length
  | [] => Nat.le_refl _
  | w :: ws => by
    have := sum_le90 ws
    have := Nat.mod_lt w (show 0 < 90 by decide)
    rw [List.map_cons, List.sum_cons, List.length_cons]
    omega
theorem sum_le6 : ∀ ws : List Nat, (ws.map (· % 6)).sum ≤ 5 * ws.length
  | [] => Nat.le_refl _
  | w :: ws => by
    have := sum_le6 ws
    have := Nat.mod_lt w (show 0 < 6 by decide)
    rw [List.map_cons, List.sum_cons, List.length_cons]
    omega
section
variable {P : Program} {w : World} {K : PySem.W.Frag} {mg : Str → Option Value} {base : Heap} {f CS : Addr} {fd : FuncData}
theorem ok_law (F_law : Fun K "law" "law" s_law f fd) (B : Bl mg) (g__law_draw : Fn P w K mg base "_law_draw" p__law_draw 1 (spDraw K)) (g__law_weights : Fn P w K mg base "_law_weights" p__law_weights 16 (spWts K)) (g_depth_sum : Fn P w K mg base "depth_sum" p_depth_sum 16 spDepthQ) (g__law_plus : Fn P w K mg base "_law_plus" p__law_plus 16 spPlusQ) (g_mean_pick : Fn P w K mg base "mean_pick" p_mean_pick 16 spMP) (g__law_same : Fn P w K mg base "_law_same" p__law_same 16 (spSame 2)) (g_mean_even : Fn P w K mg base "mean_even" p_mean_even 16 spMeanE) {fM : Addr} {dM : FuncData} (g_mean_of : FnX P w K mg base "mean_of" fM dM p_mean_of 16 (spMean K CS)) (g_plan_of : Fn P w K mg base "plan_of" p_plan_of 16 (spOf K)) (g__law_is_less : Fn P w K mg base "_law_is_less" p__law_is_less 16 spLessQ) (g__law_plan_holds : Fn P w K mg base "_law_plan_holds" p__law_plan_holds 17 (spPH K)) (g__law_both_hold : Fn P w K mg base "_law_both_hold" p__law_both_hold 17 spBoth) : FnOk P w K mg base CX0 18 f fd p_law (spLaw K) := by
  refine F_law.ok sc_law (fun vs H Q E h => ?_) (fun cdv A outer s H vs Q E hr h => ?_)
  · obtain ⟨a, ns, rfl, _⟩ := h
    rfl
  obtain ⟨a, ns, rfl, hS, h63, q⟩ := h
  refine ⟨_, (pss_cons (ps_set (i := 1) sc_law.nd rfl (Or.inl rfl) (pe_lst pa_nil))
      (pss_cons (ps_for PassesOwn.never rfl (pi_range1 rfl B.range_ (pa_cons pe_int pa_nil)) (pg_name (i := 2) sc_law.nd rfl (Or.inl rfl)) (pss_cons (ps_set (i := 3) sc_law.nd rfl (Or.inl rfl) (pe_op op_cat0 (pe_callTy call_tuple_of rfl B.tuple_ L3.bt_tuple (pa_cons (pe_comp [6] ["_law_script", "_law_town", "_law_k", "_law_weights_here", "_law_total", "_law_due", "_law_weight", "_law_told", "_law_by", "_law_many", "_law_size", "_law_mean"] 0 rfl (pi_tup (pe_fn g__law_weights hr (pa_cons (pv 0) (pa_cons (pv 1) pa_nil)))) (fun _ _ _ _ _ => (pg_name (i := 6) nd_14 rfl (Or.inl rfl) (Or.inr rfl))) (fun _ _ _ _ _ => pif_nil) (fun _ _ _ _ _ => (pe_op op_mod (pv 6) pe_int))) pa_nil)) (pe_tup (pa_cons (pv 2) pa_nil))))
      (pss_cons (ps_join (ps_set (i := 3) sc_law.nd rfl (Or.inl rfl) (pe_op op_cat0 (pv 3) (pe_op op_repT01 (pe_tup (pa_cons pe_int pa_nil)) (pe_callTy call_int1 rfl B.int_ L3.bt_int (pa_cons (pe_cmpR op_eq (pe_callB (call_sumT rfl) rfl B.sum_ L3.bt_sum (pa_cons (pv 3) pa_nil)) pe_int (nomark _)) pa_nil))))))
      (pss_cons (ps_par (i := 4) (j := 5) rfl sc_law.nd rfl rfl (by decide) rfl rfl (pa_cons (pe_callB (call_sumT rfl) rfl B.sum_ L3.bt_sum (pa_cons (pv 3) pa_nil)) (pa_cons (pe_tup (pa_cons pe_int (pa_cons pe_int pa_nil))) pa_nil)) rfl)
      (pss_cons (ps_for PassesOwn.never rfl (pi_tup (pv 3)) (pg_name (i := 6) sc_law.nd rfl (Or.inl rfl)) (pss_one (ps_joinN (ps_if (pt_cmpR op_lt (pv 6) (pv 4) (nomark _)) (pss_one (ps_set (i := 5) sc_law.nd rfl (Or.inl rfl) (pe_fn g__law_plus hr (pa_cons (pv 5) (pa_cons (pe_fn g_depth_sum hr (pa_cons (pv 6) (pa_cons (pv 4) pa_nil))) pa_nil))))) pss_nil))))
      (pss_cons (ps_set (i := 7) sc_law.nd rfl (Or.inl rfl) (pe_fn g_mean_pick hr (pa_cons (pv 3) pa_nil)))
      (pss_cons (ps_if (PW.pt (pw_or (pt_not (pt_truth (pe_fn g__law_same hr (pa_cons (pv 7) (pa_cons (pv 5) pa_nil))) (fun _ => rfl))) (pw_or1 (pt_cmpR op_ne (pe_cmpR (op_eqTI hr.units0) (pv 7) (pe_tup (pa_cons pe_int (pa_cons pe_int pa_nil))) (nomark _)) (pe_cmpR op_in_seq (pv 4) (pv 3) rfl) (nomark _))))) (pss_one (ps_ret pe_bl)) pss_nil)
      (pss_cons (ps_set (i := 8) sc_law.nd rfl (Or.inr rfl) (pe_op op_add pe_int (pe_fn g__law_draw hr (pa_cons (pv 0) (pa_cons (pv 1) (pa_cons pe_int pa_nil))))))
      (pss_cons (ps_if (pt_cmpR (op_neTI hr.units0) (pe_fn g_mean_pick hr (pa_cons (pe_callTy call_tuple_of rfl B.tuple_ L3.bt_tuple (pa_cons (pe_comp [6] ["_law_script", "_law_town", "_law_k", "_law_weights_here", "_law_total", "_law_due", "_law_weight", "_law_told", "_law_by", "_law_many", "_law_size", "_law_mean"] 0 rfl (pi_tup (pe_slice3 (pv 3) po_none po_none (po_some (pe_un un_neg pe_int)))) (fun _ _ _ _ _ => (pg_name (i := 6) nd_15 rfl (Or.inl rfl) (Or.inr rfl))) (fun _ _ _ _ _ => pif_nil) (fun _ _ _ _ _ => (pe_op op_mul (pv 6) (pv 8)))) pa_nil)) pa_nil)) (pv 7) (nomark _)) (pss_one (ps_ret pe_bl)) pss_nil)
      (pss_cons (ps_set (i := 9) sc_law.nd rfl (Or.inl rfl) (pe_op op_add pe_int (pe_fn g__law_draw hr (pa_cons (pv 0) (pa_cons (pv 1) (pa_cons pe_int pa_nil))))))
      (pss_cons (ps_if (PW.pt (pw_or (pt_cmpR (op_neTI hr.units0) (pe_fn g_mean_pick hr (pa_cons (pe_op (op_or op_repT op_repT01) (pe_tup (pa_cons (pv 8) pa_nil)) (pv 9)) pa_nil)) (pe_fn g_mean_even hr (pa_cons (pv 9) pa_nil)) (nomark _)) (pw_or1 (pt_not (pt_truth (pe_fn g__law_plan_holds hr (pa_cons (pv 0) (pa_cons (pv 1) pa_nil))) (fun _ => rfl)))))) (pss_one (ps_ret pe_bl)) pss_nil)
      (pss_cons (ps_set (i := 10) sc_law.nd rfl (Or.inl rfl) pe_int)
      (pss_cons (ps_while PassesOwn.never (pt_cmpR op_lt (pv 10) (pv 4) (nomark _)) (pss_one (ps_set (i := 10) sc_law.nd rfl (Or.inl rfl) (pe_op op_mul (pv 10) pe_int))))
      (pss_cons (ps_set (i := 11) sc_law.nd rfl (Or.inl rfl) (pe_calm (px_fn g_mean_of hr (pa_cons (pe_fn g_plan_of hr (pa_cons (pv 3) pa_nil)) pa_nil))))
      (pss_cons (ps_if (PW.pt (pw_or (pt_not (pt_truth (pe_fn g__law_is_less hr (pa_cons (pv 7) (pa_cons (pv 11) pa_nil))) (fun _ => rfl))) (pw_or1 (PW.pt (pw_and (pt_cmpR op_eq (pv 10) (pv 4) (nomark _)) (pw_and1 (pt_cmpR (op_neTI hr.units0) (pv 11) (pv 7) (nomark _)))))))) (pss_one (ps_ret pe_bl)) pss_nil)
      (pss_one (ps_if (pt_not (pt_truth (pe_fn g__law_both_hold hr (PB.go (pb_cons (pe_op op_cat0 (pe_callTy call_tuple_of rfl B.tuple_ L3.bt_tuple (pa_cons (pe_comp [6] ["_law_script", "_law_town", "_law_k", "_law_weights_here", "_law_total", "_law_due", "_law_weight", "_law_told", "_law_by", "_law_many", "_law_size", "_law_mean"] 0 rfl (pi_tup (pe_slice3 (pv 3) po_none (po_some pe_int) po_none)) (fun _ _ _ _ _ => (pg_name (i := 6) nd_16 rfl (Or.inl rfl) (Or.inr rfl))) (fun _ _ _ _ _ => pif_nil) (fun _ _ _ _ _ => (pe_op op_mod (pv 6) pe_int))) pa_nil)) (pe_tup (pa_cons pe_int pa_nil))) (pb_cons (pe_tup (pa_cons (pv 8) (pa_cons (pe_op op_mod (pv 9) pe_int) (pa_cons pe_int pa_nil)))) pb_nil se_Tuple) se_BinOp))) (fun _ => rfl))) (pss_one (ps_ret pe_bl)) pss_nil)))))))))))))))))
      (pss_one (ps_ret pe_bl)))), ?_⟩
  refine ⟨(by show 0 ≤ sizeLine; decide), fun t ft => ?_⟩
  have sT := same_new ft (.lst ([] : List V))
  have hT : Twn (upd H t (.lst [])) t 0 := upd_same
  replace hS := sT.scr hS
  generalize upd H t (.lst []) = H0 at hS hT
  refine ⟨3, rfl, by decide, by decide, for_range (lo := 0) (n := 3) (fun i σ' H' => ∃ (k : Nat) (o2 o3 o4 o5 o6 o7 o8 o9 o10 o11 : Option V), σ' = [some (.ref a), some (.ref t), o2, o3, o4, o5, o6, o7, o8, o9, o10, o11] ∧ Scr K H' a ns ∧ Twn H' t k ∧ k ≤ 200 * i)
    ⟨0, _, _, _, _, _, _, _, _, _, _, rfl, hS, hT, by omega⟩ ?_ ?_⟩
  rotate_left
  · rintro σ H1 ⟨k, o2, o3, o4, o5, o6, o7, o8, o9, o10, o11, rfl, hS1, hT1, hk1⟩
    exact q H1
  rintro i σ H1 hi ⟨k, o2, o3, o4, o5, o6, o7, o8, o9, o10, o11, rfl, hS1, hT1, hk1⟩
  -- weights
  refine ⟨_, rfl, _, rfl, a, t, ns, k, rfl, hS1, h63, hT1, by omega, fun r0 ws0 k1 H2 g2 t2 hkk hr0 hl0 hl7 hs0 hx4 => ?_⟩
  have hS2 := g2.scr hT1 hS1
  refine ⟨r0, rfl, ⟨_, SqT.of hr0⟩, comp_mapT hr0 (by omega) (· % 90) (fun σ' => ∃ o6 : Option V, σ' = [some (.ref a), some (.ref t), some (.int (0 + (i : Int))), o3, o4, o5, o6, o7, o8, o9, o10, o11]) ⟨_, rfl⟩ ?_ ?_⟩
  · rintro j σ' H' hj s' ⟨o6', rfl⟩
    exact ⟨_, rfl, _, _, rfl, rfl, (by show (0 : Int) < 90; decide), s', snoc_map hj _ rfl, _, rfl⟩
  intro D H3 s3 hD
  refine ⟨D, _, rfl, .inl ⟨SqL.of hD, fun q1 fq1 => ?_⟩⟩
  have y4 := same_new fq1 (.tup (vnats (ws0.map (· % 90))))
  have w4 : upd H3 q1 (.tup (vnats (ws0.map (· % 90)))) q1 = some (.tup (vnats (ws0.map (· % 90)))) := upd_same
  generalize upd H3 q1 (.tup (vnats (ws0.map (· % 90)))) = H4 at y4 w4 ⊢
  refine ⟨_, rfl, (by show 1 ≤ sizeLine; decide), fun q2 fq2 => ?_⟩
  have y5 := same_new fq2 (.tup [V.int (0 + (i : Int))])
  have w5 : upd H4 q2 (.tup [V.int (0 + (i : Int))]) q2 = some (.tup (vnats [i])) := by rw [upd_same, Int.zero_add]; rfl
  generalize upd H4 q2 (.tup [V.int (0 + (i : Int))]) = H5 at y5 w5 ⊢
  refine cat34 (y5 _ _ w4) w5 (by rw [vnats_len, List.length_map]; show _ + 1 ≤ _; omega) fun r1 H6 s6 h6 => ?_
  rw [← vnats_app] at h6
  have z6 : Same H2 H6 := s3.trans (y4.trans (y5.trans s6))
  have hS6 := z6.scr hS2
  have t6 := z6.twn t2
  have hsl : (ws0.map (· % 90) ++ [i]).sum ≤ 625 := by
    have := sum_le90 ws0
    rw [List.sum_append]
    show _ + (i + 0) ≤ 625
    omega
  have hll : (ws0.map (· % 90) ++ [i]).length ≤ 8 := by rw [List.length_append, List.length_map]; show _ + 1 ≤ 8; omega
  clear w4 w5 y4 y5 s3 s6 fq1 fq2 hD z6 hS2 t2 hr0 hS1 hT1 g2
  generalize ws0.map (· % 90) ++ [i] = ws1 at h6 hsl hll
  -- none is nought
  refine ⟨fun σ' H' => ∃ (r : Addr) (ws : List Nat), σ' = [some (.ref a), some (.ref t), some (.int (0 + (i : Int))), some (.ref r), o4, o5, o6, o7, o8, o9, o10, o11] ∧ Scr K H' a ns ∧ Twn H' t k1 ∧ H' r = some (.tup (vnats ws)) ∧ 0 < ws.sum ∧ ws.sum ≤ 625 ∧ ws.length ≤ 9, ?_, ?_⟩
  rotate_left
  · have h6' : H6 r1 = some (.tup ((ws1.map fun (n : Nat) => (n : Int)).map V.int)) := by rw [← vnats_ints]; exact h6
    refine ⟨_, rfl, (by show 1 ≤ sizeLine; decide), fun q3 fq3 => ?_⟩
    have y7 := same_new fq3 (.tup [V.int 1])
    have w7 : upd H6 q3 (.tup [V.int 1]) q3 = some (.tup (vnats [1])) := upd_same
    generalize upd H6 q3 (.tup [V.int 1]) = H7 at y7 w7 ⊢
    refine ⟨_, rfl, r1, _, rfl, SqT.of (y7 _ _ h6'), rfl, .inr ⟨_, rfl, q3, _, _, rfl, rfl, SqT.of w7, (fun z => by cases z), ?_⟩⟩
    rw [sum_nats]
    by_cases c : ws1.sum = 0
    · rw [c]
      refine .inl ⟨rfl, cat34 (y7 _ _ h6) w7 (by rw [vnats_len]; show _ + 1 ≤ _; omega) fun r2 H8 s8 h8 => ?_⟩
      rw [← vnats_app] at h8
      refine ⟨r2, ws1 ++ [1], rfl, (y7.trans s8).scr hS6, (y7.trans s8).twn t6, h8, ?_, ?_, ?_⟩
      · rw [List.sum_append, c]; decide
      · rw [List.sum_append, c]; decide
      · rw [List.length_append]; show _ + 1 ≤ 9; omega
    · have hd : decide (V.int ((ws1.sum : Nat) : Int) = V.int 0) = false := decide_eq_false fun z => c (by injection z with z; omega)
      rw [hd]
      refine .inr ⟨rfl, fun q4 fq4 => ?_⟩
      have y8 := same_new fq4 (.tup ([] : List V))
      have w8 : upd H7 q4 (.tup ([] : List V)) q4 = some (.tup (vnats [])) := upd_same
      generalize upd H7 q4 (.tup ([] : List V)) = H8 at y8 w8 ⊢
      refine cat34 (y8 _ _ (y7 _ _ h6)) w8 (by rw [vnats_len]; show _ + 0 ≤ _; omega) fun r2 H9 s9 h9 => ?_
      rw [← vnats_app, List.append_nil] at h9
      exact ⟨r2, ws1, rfl, (y7.trans (y8.trans s9)).scr hS6, (y7.trans (y8.trans s9)).twn t6, h9, by omega, hsl, by omega⟩
  clear h6 hS6 t6 hsl hll
  rintro σ1 H9 ⟨r, ws, rfl, hS9, t9, h9, hs0', hs6, hl9⟩
  have hpos := npos hs0'
  have h9' : H9 r = some (.tup ((ws.map fun (n : Nat) => (n : Int)).map V.int)) := by rw [← vnats_ints]; exact h9
  -- total, due
  refine ⟨_, rfl, r, _, rfl, SqT.of h9', (by show 2 ≤ sizeLine; decide), fun p0 fp0 => ⟨_, _, rfl, ?_⟩⟩
  rw [sum_nats]
  have y10 := same_new fp0 (.tup [V.int 0, V.int 1])
  have w10 : (upd H9 p0 (.tup [V.int 0, V.int 1])) p0 = some (.tup (frQ 0)) := upd_same
  generalize upd H9 p0 (.tup [V.int 0, V.int 1]) = H10 at y10 w10 ⊢
  have z60 : (0 : Rat) ≤ ((60000 : Nat) : Rat) := Rat.natCast_nonneg
  have hbound : ws.length * (ws.sum + 13) ≤ 9 * 638 := Nat.mul_le_mul hl9 (by omega)
  refine ⟨_, rfl, r, rfl, ⟨_, SqT.of (y10 _ _ h9)⟩, for_tup (xs := vnats ws) (fun j σ' H' => ∃ (p : Addr) (x : Rat) (o6 : Option V), σ' = [some (.ref a), some (.ref t), some (.int (0 + (i : Int))), some (.ref r), some (.int ((ws.sum : Nat) : Int)), some (.ref p), o6, o7, o8, o9, o10, o11] ∧ Same H9 H' ∧ NuL ((ws.take j).map fun w : Nat => (w : Rat) / (ws.sum : Rat)) x ∧ Fq H' p x (j * (ws.sum + 13)) ∧ x ≤ 2 * (j : Rat))
    ⟨p0, 0, _, rfl, y10, rfl, ⟨w10, Rat.le_refl, z60, by show 1 ≤ _; exact Nat.two_pow_pos _⟩, z20⟩ (fun j σ' H' _ ⟨_, _, _, _, s', _⟩ => SqT.of (s' _ _ h9)) ?_ ?_⟩
  · rintro j v σ' H11 hx ⟨p, x, o6', rfl, s11, hN, hF, hx2⟩
    have hj : j < ws.length := by
      have := (List.getElem?_eq_some_iff.mp hx).1
      rwa [vnats_len] at this
    rw [vnats_at hj] at hx
    obtain rfl := Option.some.inj hx
    have hwm : ws.getD j 0 ∈ ws := by
      rw [List.getD_eq_getElem?_getD, List.getElem?_eq_getElem hj]
      exact List.getElem_mem hj
    have hwl := le_sum hwm
    have hik : (j + 1) * (ws.sum + 13) = j * (ws.sum + 13) + (ws.sum + 13) := Nat.succ_mul _ _
    have hik2 : (j + 1) * (ws.sum + 13) ≤ ws.length * (ws.sum + 13) := Nat.mul_le_mul_right _ hj
    have ic : ((j + 1 : Nat) : Rat) = (j : Rat) + 1 := by rw [Rat.natCast_add]; rfl
    refine ⟨_, fun _ _ z => z, ?_⟩
    refine ⟨_, rfl, _, rfl, _, _, rfl, rfl, _, rfl, ite2 (fun c => ?_) (fun c => ?_)⟩
    · refine ⟨_, rfl, _, rfl, _, rfl, 1, ws.getD j 0, ws.sum, by rw [Nat.one_mul, Nat.one_mul]; rfl, by decide, hs0', by omega, by omega, fun p2 x2 H12 s12 hnu hF2 hx3 => ?_⟩
      rw [Nat.one_mul, Nat.one_mul] at hnu
      have hj40 : ((j + 1 : Nat) : Rat) ≤ ((30000 : Nat) : Rat) := Rat.natCast_le_natCast.mpr (by omega)
      have e6 : ((60000 : Nat) : Rat) = ((2 : Nat) : Rat) * ((30000 : Nat) : Rat) := Rat.natCast_mul 2 30000
      have e22 : ((2 : Nat) : Rat) = 2 := rfl
      have hle2 : x + x2 ≤ 2 * ((j + 1 : Nat) : Rat) := by rw [ic]; grind
      refine ⟨p, p2, x, x2, _, _, rfl, hF.same s12, hF2, by omega, by rw [e6, e22]; grind, fun p3 H13 s13 hF3 => ?_⟩
      rw [← hik] at hF3
      refine ⟨p3, x + x2, _, rfl, s11.trans (s12.trans s13), ?_, hF3, hle2⟩
      rw [take_map_one hj]
      exact hN.app (.one hnu)
    · have c' : ¬ ((ws.getD j 0 : Nat) : Int) < ((ws.sum : Nat) : Int) := of_decide_eq_false (Bool.eq_false_iff.mpr c)
      refine ⟨p, x, _, rfl, s11, ?_, hF.mono (by omega), by rw [ic]; grind⟩
      rw [take_map_one hj]
      have := hN.app (.one (nu_one hs0' (w := ws.getD j 0) (.inr (by omega))))
      have e : x + 0 = x := by grind
      rw [e] at this
      exact this
  rintro σ' H11 ⟨p, x, o6', rfl, s11, hN, hF, hx2⟩
  rw [vnats_len] at hF hx2 hN
  rw [List.take_length] at hN
  have hS11 := s11.scr hS9
  have t11 := s11.twn t9
  have h11 := s11 _ _ h9
  clear hS9 t9 h9 h9' s11 y10 w10 fp0
  -- told
  refine ⟨_, rfl, r, 1, ws, rfl, by rw [one_times]; exact h11, by decide, hs0', by omega, by omega, by omega, by omega, fun p1 x1 H12 s12 hN1 hF1 hx1 => ?_⟩
  obtain rfl := hN1.uniq hN
  replace hF := hF.same s12
  have hS12 := s12.scr hS11
  have t12 := s12.twn t11
  have h12 := s12 _ _ h11
  clear hS11 t11 h11 s12 hN1
  refine ⟨_, rfl, _, rfl, _, _, rfl, .inr ⟨p1, p, _, _, rfl, rfl, hF1.at_, hF.at_, (by show 2 ≤ 1000000; decide), .cons (.inl ⟨rfl, rfl⟩) (.cons (.inl ⟨rfl, rfl⟩) .nil)⟩, fun H13 s13 => ⟨true, rfl, iteF ?_⟩⟩
  replace hF1 := hF1.same s13
  have hS13 := s13.scr hS12
  have t13 := s13.twn t12
  have h13 := s13 _ _ h12
  clear hF hS12 t12 h12 s13
  -- nought just for one that is all
  refine ⟨_, rfl, (by show 2 ≤ sizeLine; decide), fun p2 fp2 => ?_⟩
  have y14 := same_new fp2 (.tup [V.int 0, V.int 1])
  have w14 : upd H13 p2 (.tup [V.int 0, V.int 1]) p2 = some (.tup (([0, 1] : List Int).map V.int)) := upd_same
  generalize upd H13 p2 (.tup [V.int 0, V.int 1]) = H14 at y14 w14 ⊢
  replace hF1 := hF1.same y14
  have hS14 := y14.scr hS13
  have t14 := y14.twn t13
  have h14 := y14 _ _ h13
  have hF1' : H14 p1 = some (.tup ([x1.num, (x1.den : Int)].map V.int)) := by rw [← frQ_int]; exact hF1.at_
  refine ⟨p1, p2, _, _, rfl, rfl, SqT.of hF1', SqT.of w14, _, rfl, _, rfl, r, _, rfl, .inr (SqT.of h14), rfl, flat_nats ws, rfl, _, rfl, ?_⟩
  refine iteNS ?_ ?_
  · show V.bl (decide ([x1.num, (x1.den : Int)] = [0, 1])) = V.bl (inV (.int ((ws.sum : Nat) : Int)) (vnats ws))
    rw [inV_nats]
    congr 1
    rw [decide_eq_decide, zero_iff, NuL.none hs0' (fun w hw => le_sum hw) hN, one_all hs0']
  clear hS13 t13 h13 y14 w14 fp2 hF1'
  -- by
  refine ⟨_, rfl, _, rfl, a, t, ns, k1, 6, rfl, hS14, h63, t14, by omega, by decide, fun H15 g15 t15 => ?_⟩
  have e0 := drw_nn ns (k1 + 1) (show (0 : Int) < 6 by decide)
  have e1 := drw_lt ns (k1 + 1) (show (0 : Int) < 6 by decide)
  generalize drw ns (k1 + 1) 6 = dd at e0 e1
  obtain ⟨d, rfl⟩ := nat_of e0
  refine ⟨_, _, rfl, rfl, ?_⟩
  obtain ⟨by', hby, hby0, hby7⟩ : ∃ b : Nat, (2 : Int) + (d : Int) = (b : Int) ∧ 0 < b ∧ b ≤ 7 := ⟨2 + d, by omega, by omega, by omega⟩
  try dsimp (config := { proj := false, iota := false, eta := false, etaStruct := .none, zeta := false }) only
  rw [hby]
  have hS15 := g15.scr t14 hS14
  have h15 := g15 _ _ (twn_tup t14 h14) h14
  replace hF1 := hF1.grow t14 g15
  clear hS14 h14 t14 g15 e0 e1 hby
  -- so many times as great, the other way round
  refine ⟨_, rfl, np (np ⟨1, rfl, -1, rfl, rev_slice h15 hl9 fun rv H16 s16 h16 => ?_⟩)⟩
  refine ⟨rv, rfl, ⟨_, SqT.of h16⟩, comp_mapT h16 (by rw [List.length_reverse]; omega) (by' * ·) (fun σ' => ∃ o6 : Option V, σ' = [some (.ref a), some (.ref t), some (.int (0 + (i : Int))), some (.ref r), some (.int ((ws.sum : Nat) : Int)), some (.ref p), o6, some (.ref p1), some (.int (by' : Int)), o9, o10, o11]) ⟨_, rfl⟩ ?_ ?_⟩
  · rintro j σ' H' hj s' ⟨q6, rfl⟩
    refine ⟨_, rfl, _, rfl, _, _, rfl, rfl, .inr ⟨by omega, by omega⟩, s', snoc_map hj _ ?_, _, rfl⟩
    show V.int ((ws.reverse.getD j 0 : Int) * (by' : Int)) = V.int ((by' * ws.reverse.getD j 0 : Nat) : Int)
    rw [Int.natCast_mul, Int.mul_comm]
  intro D H17 s17 hD
  refine ⟨D, _, rfl, .inl ⟨SqL.of hD, fun rr frr => ?_⟩⟩
  have y18 := same_new frr (.tup (vnats (ws.reverse.map (by' * ·))))
  have w18 : upd H17 rr (.tup (vnats (ws.reverse.map (by' * ·)))) rr = some (.tup (vnats (ws.reverse.map (by' * ·)))) := upd_same
  generalize upd H17 rr (.tup (vnats (ws.reverse.map (by' * ·)))) = H18 at y18 w18 ⊢
  have z18 := s16.trans (s17.trans y18)
  have hbs : by' * ws.sum ≤ 7 * 625 := Nat.mul_le_mul hby7 hs6
  refine ⟨rr, by', ws.reverse, rfl, w18, hby0, by rw [List.sum_reverse]; exact hs0', by rw [List.sum_reverse]; omega, by rw [List.sum_reverse]; omega, by rw [List.length_reverse]; omega, by rw [List.sum_reverse, List.length_reverse]; omega, fun p3 x3 H19 s19 hN3 hF3 hx3 => ?_⟩
  rw [List.sum_reverse, List.map_reverse] at hN3
  obtain rfl := hN3.uniq hN.rev
  have z19 := z18.trans s19
  replace hF1 := hF1.same z19
  have hS19 := z19.scr hS15
  have t19 := z19.twn t15
  have h19 := z19 _ _ h15
  have a1 : H19 p1 = some (.tup ([x3.num, (x3.den : Int)].map V.int)) := by rw [← frQ_int]; exact hF1.at_
  have a3 : H19 p3 = some (.tup ([x3.num, (x3.den : Int)].map V.int)) := by rw [← frQ_int]; exact hF3.at_
  refine ⟨_, rfl, p3, p1, _, _, rfl, rfl, SqT.of a3, SqT.of a1, _, rfl, iteNS rfl ?_⟩
  clear a1 a3 hF3 hN3 hx3 z18 z19 s19 y18 w18 hD s17 s16 h16 frr h15 hS15 t15
  -- many
  refine ⟨_, rfl, _, rfl, a, t, ns, k1 + 1, 30, rfl, hS19, h63, t19, by omega, by decide, fun H20 g20 t20 => ?_⟩
  have e0 := drw_nn ns (k1 + 1 + 1) (show (0 : Int) < 30 by decide)
  have e1 := drw_lt ns (k1 + 1 + 1) (show (0 : Int) < 30 by decide)
  generalize drw ns (k1 + 1 + 1) 30 = dd at e0 e1
  obtain ⟨d2, rfl⟩ := nat_of e0
  refine ⟨_, _, rfl, rfl, ?_⟩
  obtain ⟨mn, hmn, hmn0, hmn30⟩ : ∃ b : Nat, (1 : Int) + (d2 : Int) = (b : Int) ∧ 0 < b ∧ b ≤ 30 := ⟨1 + d2, by omega, by omega, by omega⟩
  try dsimp (config := { proj := false, iota := false, eta := false, etaStruct := .none, zeta := false }) only
  rw [hmn]
  have hS20 := g20.scr t19 hS19
  have h20 := g20 _ _ (twn_tup t19 h19) h19
  replace hF1 := hF1.grow t19 g20
  clear hS19 h19 t19 g20 e0 e1 hmn
  -- like weights
  refine ⟨_, rfl, (by show 1 ≤ sizeLine; decide), fun q5 fq5 => ?_⟩
  have y21 := same_new fq5 (.tup [V.int (by' : Int)])
  have w21 : upd H20 q5 (.tup [V.int (by' : Int)]) q5 = some (.tup [V.int (by' : Int)]) := upd_same
  generalize upd H20 q5 (.tup [V.int (by' : Int)]) = H21 at y21 w21 ⊢
  refine ⟨_, rfl, rep_join w21 hmn0 (by omega) fun rl H22 s22 h22 => ?_⟩
  rw [rep_nats] at h22
  have hbm : by' * mn ≤ 7 * 30 := Nat.mul_le_mul hby7 hmn30
  have hmb : mn * (mn + 13) ≤ 30 * 43 := Nat.mul_le_mul hmn30 (by omega)
  refine ⟨rl, by', List.replicate mn 1, rfl, h22, hby0, by rw [rep_sum]; exact hmn0, by rw [rep_sum]; omega, by rw [rep_sum]; omega, by rw [List.length_replicate]; omega, by rw [rep_sum, List.length_replicate]; omega, fun p4 x4 H23 s23 hN4 hF4 hx4 => ?_⟩
  refine ⟨_, rfl, mn, rfl, hmn0, by omega, fun p5 n b H24 s24 hRF h24 => ?_⟩
  have e4 : x4 = ((2 * hU mn 1 n b : Nat) : Rat) / ((hL mn 1 n b : Nat) : Rat) := by
    have hnu := nu_RF hmn0 hRF
    have hlk := NuL.like hnu mn
    rw [rep_sum, List.map_replicate] at hN4
    have := hN4.uniq hlk
    rw [this, Rat.natCast_mul mn]
    have h1 := npos hmn0
    have h2 := npos (hL_pos mn 1 n b)
    grind
  have z24 := (y21.trans s22).trans (s23.trans s24)
  have a4 : H24 p4 = some (.tup ([x4.num, (x4.den : Int)].map V.int)) := by rw [← frQ_int]; exact s24 _ _ hF4.at_
  have a5 : H24 p5 = some (.tup ([x4.num, (x4.den : Int)].map V.int)) := by rw [← frQ_int, h24, frV_rat (hL_pos mn 1 n b), e4]
  refine ⟨p4, p5, _, _, rfl, rfl, SqT.of a4, SqT.of a5, _, rfl, iteNS rfl ?_⟩
  replace hF1 := hF1.same z24
  have hS24 := z24.scr hS20
  have t24 := z24.twn t20
  have h24' := z24 _ _ h20
  clear a4 a5 e4 z24 h24 s24 s23 s22 h22 hF4 hN4 hx4 y21 w21 fq5 hS20 t20 h20 hRF
  -- a plan
  refine ⟨_, rfl, _, rfl, a, t, ns, k1 + 1 + 1, rfl, hS24, h63, t24, by omega, fun k2 H25 g25 t25 hk25 => ⟨true, rfl, iteF ?_⟩⟩
  have hS25 := g25.scr t24 hS24
  have h25 := g25 _ _ (twn_tup t24 h24') h24'
  replace hF1 := hF1.grow t24 g25
  clear hS24 t24 h24' g25
  -- the size
  refine ⟨fun mu σ' H' => ∃ j : Nat, mu = 2 * ws.sum - 2 ^ j ∧ H' = H25 ∧ σ' = [some (.ref a), some (.ref t), some (.int (0 + (i : Int))), some (.ref r), some (.int ((ws.sum : Nat) : Int)), some (.ref p), o6', some (.ref p1), some (.int (by' : Int)), some (.int (mn : Int)), some (.int ((2 ^ j : Nat) : Int)), o11] ∧ ∀ l, l < j → 2 ^ l < ws.sum,
    ⟨_, 0, rfl, rfl, rfl, fun l hl => absurd hl (Nat.not_lt_zero _)⟩, ?_⟩
  rintro mu σ' H' ⟨j, rfl, rfl, rfl, hj⟩
  refine ⟨_, rfl, _, rfl, _, _, rfl, rfl, _, rfl, ite2 (fun c => ?_) (fun c => ?_)⟩
  · have c' : ((2 ^ j : Nat) : Int) < ((ws.sum : Nat) : Int) := of_decide_eq_true c
    have c2 : 2 ^ j < ws.sum := by omega
    have hpj := Nat.two_pow_pos j
    refine ⟨fun σ' H'' => σ' = [some (.ref a), some (.ref t), some (.int (0 + (i : Int))), some (.ref r), some (.int ((ws.sum : Nat) : Int)), some (.ref p), o6', some (.ref p1), some (.int (by' : Int)), some (.int (mn : Int)), some (.int ((2 ^ (j + 1) : Nat) : Int)), o11] ∧ H'' = H', fun σ' H'' ⟨e1, e2⟩ => ⟨2 * ws.sum - 2 ^ (j + 1), ?_, j + 1, rfl, e2, e1, fun l hl => ?_⟩, ?_⟩
    · rw [Nat.pow_succ]
      omega
    · by_cases cl : l = j
      · rw [cl]; exact c2
      · exact hj l (by omega)
    refine ⟨_, rfl, _, _, rfl, rfl, .inr ⟨by decide, by decide⟩, ?_, rfl⟩
    show _ = [some (V.ref a), some (V.ref t), some (V.int (0 + (i : Int))), some (V.ref r), some (V.int ((ws.sum : Nat) : Int)), some (V.ref p), o6', some (V.ref p1), some (V.int (by' : Int)), some (V.int (mn : Int)), some (V.int ((2 ^ j * 2 : Nat) : Int)), o11]
    rw [Int.natCast_mul]
    rfl
  have c' : ¬ ((2 ^ j : Nat) : Int) < ((ws.sum : Nat) : Int) := of_decide_eq_false (Bool.eq_false_iff.mpr c)
  have hjD : isD ws.sum j := ⟨by omega, hj⟩
  -- the plan for the weights
  refine ⟨_, rfl, r, ws, rfl, h25, hs0', by omega, hl9, fun v D H26 s26 hD hP => ?_⟩
  obtain rfl := isD_uniq hD hjD
  have hdp := plW_dp hD.1
  have hD12 := isD_le hD (by omega)
  refine ⟨v, plW ws D, rfl, hP, by omega, fun _ pm H27 s27 hm => ?_, fun hf => by rw [plW_has hD.1 hs0'] at hf; cases hf⟩
  have hS0 : 0 < shP (·.isSome) (ends (plW ws D) 0) (plW ws D).dp := has_pos (plW_has hD.1 hs0')
  have hS12 : shP (·.isSome) (ends (plW ws D) 0) (plW ws D).dp ≤ 2 ^ 12 := Nat.le_trans (shP_two _ _) (Nat.pow_le_pow_right (n := 2) (by decide) (by omega))
  have htk : tkS (ends (plW ws D) 0) (plW ws D).dp ≤ 60000 := by
    have h1 := tk_bound (plW ws D)
    have h2 : (plW ws D).dp * 2 ^ (plW ws D).dp ≤ 12 * 2 ^ 12 := Nat.mul_le_mul (by omega) (Nat.pow_le_pow_right (by decide) (by omega))
    omega
  have hless := of_less hD.1 hs0' hN
  have hsame := fun h => of_same (ws := ws) (D := D) h hN
  have hSp := npos hS0
  have z27 := s26.trans s27
  replace hF1 := hF1.same z27
  have hS27 := z27.scr hS25
  have t27 := z27.twn t25
  have h27 := z27 _ _ h25
  have hFm : Fq H27 pm (((tkS (ends (plW ws D) 0) (plW ws D).dp : Nat) : Rat) / ((shP (·.isSome) (ends (plW ws D) 0) (plW ws D).dp : Nat) : Rat)) 12 := by
    refine ⟨by rw [hm, frV_rat hS0], le_div hSp (by rw [Rat.zero_mul]; exact Rat.natCast_nonneg), div_le hSp ?_, Nat.le_trans (den_frac hS0) hS12⟩
    rw [← Rat.natCast_mul]
    exact Rat.natCast_le_natCast.mpr (Nat.le_trans htk (Nat.le_mul_of_pos_right _ hS0))
  generalize ((tkS (ends (plW ws D) 0) (plW ws D).dp : Nat) : Rat) / ((shP (·.isSome) (ends (plW ws D) 0) (plW ws D).dp : Nat) : Rat) = xm at hless hsame hFm
  clear hm z27 s26 s27 hS25 t25 h25 hP htk hS12 hS0 hSp
  refine ⟨_, rfl, _, rfl, p1, pm, x3, xm, _, 12, rfl, hF1, hFm, by omega, by decide, hless, ⟨true, rfl, iteF ?_⟩⟩
  have am : H27 pm = some (.tup ([xm.num, (xm.den : Int)].map V.int)) := by rw [← frQ_int]; exact hFm.at_
  have a1 : H27 p1 = some (.tup ([x3.num, (x3.den : Int)].map V.int)) := by rw [← frQ_int]; exact hF1.at_
  refine ⟨_, rfl, _, rfl, rfl, _, rfl, ite2 (fun c2 => ?_) (fun c2 => iteF ?_)⟩
  · have c3 : V.int ((2 ^ D : Nat) : Int) = V.int ((ws.sum : Nat) : Int) := of_decide_eq_true c2
    have c4 : ws.sum = 2 ^ D := by injection c3 with c3; omega
    have c5 := hsame c4
    subst c5
    refine ⟨_, rfl, _, rfl, pm, p1, _, _, rfl, rfl, SqT.of am, SqT.of a1, _, rfl, iteNS rfl ?_⟩
    clear c2 c3 c4
    refine ⟨_, rfl, _, rfl, sl_takeP (K := K) (m := 3) rfl h27 (by rw [vnats_len]; omega) fun r3 H28 s28 h28 => ?_⟩
    rw [show (vnats ws).take 3 = vnats (ws.take 3) from (List.map_take).symm] at h28
    have hl3 : (ws.take 3).length ≤ 3 := by rw [List.length_take]; omega
    refine ⟨r3, rfl, ⟨_, SqT.of h28⟩, comp_mapT h28 (by omega) (· % 6) (fun σ' => ∃ o6 : Option V, σ' = [some (.ref a), some (.ref t), some (.int (0 + (i : Int))), some (.ref r), some (.int ((ws.sum : Nat) : Int)), some (.ref p), o6, some (.ref p1), some (.int (by' : Int)), some (.int (mn : Int)), some (.int ((2 ^ D : Nat) : Int)), some (.ref pm)]) ⟨_, rfl⟩ ?_ ?_⟩
    · rintro j σ' H' hj s' ⟨q6, rfl⟩
      exact ⟨_, rfl, _, _, rfl, rfl, (by show (0 : Int) < 6; decide), s', snoc_map hj _ rfl, _, rfl⟩
    intro D2 H29 s29 hD2
    refine ⟨D2, _, rfl, .inl ⟨SqL.of hD2, fun q7 fq7 => ?_⟩⟩
    have y30 := same_new fq7 (.tup (vnats ((ws.take 3).map (· % 6))))
    have w30 : upd H29 q7 (.tup (vnats ((ws.take 3).map (· % 6)))) q7 = some (.tup (vnats ((ws.take 3).map (· % 6)))) := upd_same
    generalize upd H29 q7 (.tup (vnats ((ws.take 3).map (· % 6)))) = H30 at y30 w30 ⊢
    refine ⟨(by show 1 ≤ sizeLine; decide), fun q8 fq8 => ?_⟩
    have y31 := same_new fq8 (.tup [V.int 1])
    have w31 : upd H30 q8 (.tup [V.int 1]) q8 = some (.tup (vnats [1])) := upd_same
    generalize upd H30 q8 (.tup [V.int 1]) = H31 at y31 w31 ⊢
    refine cat34 (y31 _ _ w30) w31 (by rw [vnats_len, List.length_map]; show _ + 1 ≤ _; omega) fun ra H32 s32 h32 => ?_
    rw [← vnats_app] at h32
    refine ⟨_, rfl, _, rfl, _, _, rfl, rfl, (by show (0 : Int) < 5; decide), (by show 3 ≤ sizeLine; decide), fun qb fqb => ?_⟩
    have y33 := same_new fqb (.tup [V.int (by' : Int), V.int ((mn : Int) % 5), V.int 1])
    have w33 : upd H32 qb (.tup [V.int (by' : Int), V.int ((mn : Int) % 5), V.int 1]) qb = some (.tup (vnats [by', mn % 5, 1])) := upd_same
    generalize upd H32 qb (.tup [V.int (by' : Int), V.int ((mn : Int) % 5), V.int 1]) = H33 at y33 w33 ⊢
    have z33 := s28.trans (s29.trans (y30.trans (y31.trans (s32.trans y33))))
    have hs3 := sum_le6 (ws.take 3)
    have hm5 := Nat.mod_lt mn (show 0 < 5 by decide)
    refine ⟨ra, qb, (ws.take 3).map (· % 6) ++ [1], [by', mn % 5, 1], rfl, y33 _ _ h32, w33, ?_, ?_, ?_, ?_, ?_, Nat.le_refl 3, ?_, ?_, fun H34 s34 => ⟨true, rfl, iteF ?_⟩⟩
    · rw [List.sum_append]
      show 0 < _ + 1
      omega
    · rw [List.sum_append]
      show _ + 1 ≤ 20
      omega
    · show 0 < by' + (mn % 5 + (1 + 0))
      omega
    · show by' + (mn % 5 + (1 + 0)) ≤ 20
      omega
    · rw [List.length_append, List.length_map]
      show _ + 1 ≤ 4
      omega
    · intro x hx
      rcases List.mem_append.mp hx with z | z
      · obtain ⟨w, _, rfl⟩ := List.mem_map.mp z
        exact Nat.le_trans (Nat.le_of_lt (Nat.mod_lt w (show 0 < 6 by decide))) (by decide)
      · have : x = 1 := by simpa using z
        omega
    · intro x hx
      have : x = by' ∨ x = mn % 5 ∨ x = 1 := by simpa using hx
      omega
    exact ⟨k2, _, _, _, _, _, _, _, _, _, _, rfl, (z33.trans s34).scr hS27, (z33.trans s34).twn t27, by omega⟩
  · clear c2
    refine ⟨_, rfl, _, rfl, sl_takeP (K := K) (m := 3) rfl h27 (by rw [vnats_len]; omega) fun r3 H28 s28 h28 => ?_⟩
    rw [show (vnats ws).take 3 = vnats (ws.take 3) from (List.map_take).symm] at h28
    have hl3 : (ws.take 3).length ≤ 3 := by rw [List.length_take]; omega
    refine ⟨r3, rfl, ⟨_, SqT.of h28⟩, comp_mapT h28 (by omega) (· % 6) (fun σ' => ∃ o6 : Option V, σ' = [some (.ref a), some (.ref t), some (.int (0 + (i : Int))), some (.ref r), some (.int ((ws.sum : Nat) : Int)), some (.ref p), o6, some (.ref p1), some (.int (by' : Int)), some (.int (mn : Int)), some (.int ((2 ^ D : Nat) : Int)), some (.ref pm)]) ⟨_, rfl⟩ ?_ ?_⟩
    · rintro j σ' H' hj s' ⟨q6, rfl⟩
      exact ⟨_, rfl, _, _, rfl, rfl, (by show (0 : Int) < 6; decide), s', snoc_map hj _ rfl, _, rfl⟩
    intro D2 H29 s29 hD2
    refine ⟨D2, _, rfl, .inl ⟨SqL.of hD2, fun q7 fq7 => ?_⟩⟩
    have y30 := same_new fq7 (.tup (vnats ((ws.take 3).map (· % 6))))
    have w30 : upd H29 q7 (.tup (vnats ((ws.take 3).map (· % 6)))) q7 = some (.tup (vnats ((ws.take 3).map (· % 6)))) := upd_same
    generalize upd H29 q7 (.tup (vnats ((ws.take 3).map (· % 6)))) = H30 at y30 w30 ⊢
    refine ⟨(by show 1 ≤ sizeLine; decide), fun q8 fq8 => ?_⟩
    have y31 := same_new fq8 (.tup [V.int 1])
    have w31 : upd H30 q8 (.tup [V.int 1]) q8 = some (.tup (vnats [1])) := upd_same
    generalize upd H30 q8 (.tup [V.int 1]) = H31 at y31 w31 ⊢
    refine cat34 (y31 _ _ w30) w31 (by rw [vnats_len, List.length_map]; show _ + 1 ≤ _; omega) fun ra H32 s32 h32 => ?_
    rw [← vnats_app] at h32
    refine ⟨_, rfl, _, rfl, _, _, rfl, rfl, (by show (0 : Int) < 5; decide), (by show 3 ≤ sizeLine; decide), fun qb fqb => ?_⟩
    have y33 := same_new fqb (.tup [V.int (by' : Int), V.int ((mn : Int) % 5), V.int 1])
    have w33 : upd H32 qb (.tup [V.int (by' : Int), V.int ((mn : Int) % 5), V.int 1]) qb = some (.tup (vnats [by', mn % 5, 1])) := upd_same
    generalize upd H32 qb (.tup [V.int (by' : Int), V.int ((mn : Int) % 5), V.int 1]) = H33 at y33 w33 ⊢
    have z33 := s28.trans (s29.trans (y30.trans (y31.trans (s32.trans y33))))
    have hs3 := sum_le6 (ws.take 3)
    have hm5 := Nat.mod_lt mn (show 0 < 5 by decide)
    refine ⟨ra, qb, (ws.take 3).map (· % 6) ++ [1], [by', mn % 5, 1], rfl, y33 _ _ h32, w33, ?_, ?_, ?_, ?_, ?_, Nat.le_refl 3, ?_, ?_, fun H34 s34 => ⟨true, rfl, iteF ?_⟩⟩
    · rw [List.sum_append]
      show 0 < _ + 1
      omega
    · rw [List.sum_append]
      show _ + 1 ≤ 20
      omega
    · show 0 < by' + (mn % 5 + (1 + 0))
      omega
    · show by' + (mn % 5 + (1 + 0)) ≤ 20
      omega
    · rw [List.length_append, List.length_map]
      show _ + 1 ≤ 4
      omega
    · intro x hx
      rcases List.mem_append.mp hx with z | z
      · obtain ⟨w, _, rfl⟩ := List.mem_map.mp z
        exact Nat.le_trans (Nat.le_of_lt (Nat.mod_lt w (show 0 < 6 by decide))) (by decide)
      · have : x = 1 := by simpa using z
        omega
    · intro x hx
      have : x = by' ∨ x = mn % 5 ∨ x = 1 := by simpa using hx
      omega
    exact ⟨k2, _, _, _, _, _, _, _, _, _, _, rfl, (z33.trans s34).scr hS27, (z33.trans s34).twn t27, by omega⟩
end
theorem lenS {us : List Value} {n : Nat} (h : us.length = n + 1) : ∃ a t, us = a :: t ∧ t.length = n := by
  cases us with
  | nil => cases h
  | cons a t => exact ⟨a, t, rfl, Nat.succ.inj h⟩
theorem lenU0 {us : List Value} (h : us.length = 0) : us = [] := List.eq_nil_of_length_eq_zero h
theorem lenU1 {us : List Value} (h : us.length = 1) : ∃ a0, us = [a0] := by
  obtain ⟨a0, t, rfl, h2⟩ := lenS h
  obtain ⟨rfl⟩ := lenU0 h2
  exact ⟨a0, rfl⟩
theorem lenU2 {us : List Value} (h : us.length = 2) : ∃ a0 a1, us = [a0, a1] := by
  obtain ⟨a0, t, rfl, h2⟩ := lenS h
  obtain ⟨a1, rfl⟩ := lenU1 h2
  exact ⟨a0, a1, rfl⟩
theorem lenU3 {us : List Value} (h : us.length = 3) : ∃ a0 a1 a2, us = [a0, a1, a2] := by
  obtain ⟨a0, t, rfl, h2⟩ := lenS h
  obtain ⟨a1, a2, rfl⟩ := lenU2 h2
  exact ⟨a0, a1, a2, rfl⟩
theorem all_mk {l : PySem.W.OpenLaw} {w : World} {K : PySem.W.Frag} {h : Heap} {mg : Str → Option Value} {fa f1 f2 f3 f4 f5 f6 f7 f8 f9 f10 f11 f12 f13 f14 f15 f16 f17 f18 f19 f20 f21 f22 f23 f24 f25 f26 f27 f28 f29 f30 gt1 e_NoShares : Addr} (X : K.In h) (G : h.Ns mainGlobals mg) (hfa : mg "law" = some (.ref fa))
    {od1 an1 od2 an2 od3 an3 od4 an4 od5 an5 od6 an6 od7 an7 od8 an8 od9 an9 od10 an10 od11 an11 od12 an12 od13 an13 od14 an14 od15 an15 od16 an16 od17 an17 od18 an18 od19 an19 od20 an20 od21 an21 od22 an22 od23 an23 od24 an24 od25 an25 od26 an26 od27 an27 od28 an28 od29 an29 od30 an30 gd1 xo_NoShares : Option Addr} {sl1 sl2 sl3 sl4 sl5 sl6 sl7 sl8 sl9 sl10 sl11 sl12 sl13 sl14 sl15 sl16 sl17 sl18 sl19 sl20 sl21 sl22 sl23 sl24 sl25 sl26 sl27 sl28 sl29 sl30 gs1 xs_NoShares : Array (Option Value)} {oc1 kV1 dc1 pm1 cd1 ct1 oc2 kV2 dc2 pm2 cd2 ct2 oc3 kV3 dc3 pm3 cd3 ct3 oc4 kV4 dc4 pm4 cd4 ct4 oc5 kV5 dc5 pm5 cd5 ct5 oc6 kV6 dc6 pm6 cd6 ct6 oc7 kV7 dc7 pm7 cd7 ct7 oc8 kV8 dc8 pm8 cd8 ct8 oc9 kV9 dc9 pm9 cd9 ct9 oc10 kV10 dc10 pm10 cd10 ct10 oc11 kV11 dc11 pm11 cd11 ct11 oc12 kV12 dc12 pm12 cd12 ct12 oc13 kV13 dc13 pm13 cd13 ct13 oc14 kV14 dc14 pm14 cd14 ct14 oc15 kV15 dc15 pm15 cd15 ct15 oc16 kV16 dc16 pm16 cd16 ct16 oc17 kV17 dc17 pm17 cd17 ct17 oc18 kV18 dc18 pm18 cd18 ct18 oc19 kV19 dc19 pm19 cd19 ct19 oc20 kV20 dc20 pm20 cd20 ct20 oc21 kV21 dc21 pm21 cd21 ct21 oc22 kV22 dc22 pm22 cd22 ct22 oc23 kV23 dc23 pm23 cd23 ct23 oc24 kV24 dc24 pm24 cd24 ct24 oc25 kV25 dc25 pm25 cd25 ct25 oc26 kV26 dc26 pm26 cd26 ct26 oc27 kV27 dc27 pm27 cd27 ct27 oc28 kV28 dc28 pm28 cd28 ct28 oc29 kV29 dc29 pm29 cd29 ct29 oc30 kV30 dc30 pm30 cd30 ct30 xc_NoShares : Value} {ed_NoShares : ClassData} {tk1_0 : Tok} {gn1 : Nat}
    (a1 : PySem.W.nsIn K mainGlobals "common_divisor" = some (some (.ref f1))) (l1 : K.lookup f1 = some ⟨oc1, od1, .func (PySem.W.fnOf "common_divisor" "common_divisor" (defArgs s_common_divisor) (defBody s_common_divisor) (defScope s_common_divisor) .none kV1 dc1 pm1 an1 cd1 ct1), sl1⟩) (c1 : PySem.W.codeIn K cd1 "common_divisor" = true) (k1 : PySem.W.keepIn K (.ref f1) = true)
    (a2 : PySem.W.nsIn K mainGlobals "fraction" = some (some (.ref f2))) (l2 : K.lookup f2 = some ⟨oc2, od2, .func (PySem.W.fnOf "fraction" "fraction" (defArgs s_fraction) (defBody s_fraction) (defScope s_fraction) .none kV2 dc2 pm2 an2 cd2 ct2), sl2⟩) (c2 : PySem.W.codeIn K cd2 "fraction" = true) (k2 : PySem.W.keepIn K (.ref f2) = true)
    (a3 : PySem.W.nsIn K mainGlobals "plus" = some (some (.ref f3))) (l3 : K.lookup f3 = some ⟨oc3, od3, .func (PySem.W.fnOf "plus" "plus" (defArgs s_plus) (defBody s_plus) (defScope s_plus) .none kV3 dc3 pm3 an3 cd3 ct3), sl3⟩) (c3 : PySem.W.codeIn K cd3 "plus" = true) (k3 : PySem.W.keepIn K (.ref f3) = true)
    (a4 : PySem.W.nsIn K mainGlobals "rests_of" = some (some (.ref f4))) (l4 : K.lookup f4 = some ⟨oc4, od4, .func (PySem.W.fnOf "rests_of" "rests_of" (defArgs s_rests_of) (defBody s_rests_of) (defScope s_rests_of) .none kV4 dc4 pm4 an4 cd4 ct4), sl4⟩) (c4 : PySem.W.codeIn K cd4 "rests_of" = true) (k4 : PySem.W.keepIn K (.ref f4) = true)
    (a5 : PySem.W.nsIn K mainGlobals "number_in_twos" = some (some (.ref f5))) (l5 : K.lookup f5 = some ⟨oc5, od5, .func (PySem.W.fnOf "number_in_twos" "number_in_twos" (defArgs s_number_in_twos) (defBody s_number_in_twos) (defScope s_number_in_twos) .none kV5 dc5 pm5 an5 cd5 ct5), sl5⟩) (c5 : PySem.W.codeIn K cd5 "number_in_twos" = true) (k5 : PySem.W.keepIn K (.ref f5) = true)
    (a6 : PySem.W.nsIn K mainGlobals "sum_by_halves" = some (some (.ref f6))) (l6 : K.lookup f6 = some ⟨oc6, od6, .func (PySem.W.fnOf "sum_by_halves" "sum_by_halves" (defArgs s_sum_by_halves) (defBody s_sum_by_halves) (defScope s_sum_by_halves) .none kV6 dc6 pm6 an6 cd6 ct6), sl6⟩) (c6 : PySem.W.codeIn K cd6 "sum_by_halves" = true) (k6 : PySem.W.keepIn K (.ref f6) = true)
    (a7 : PySem.W.nsIn K mainGlobals "depth_sum" = some (some (.ref f7))) (l7 : K.lookup f7 = some ⟨oc7, od7, .func (PySem.W.fnOf "depth_sum" "depth_sum" (defArgs s_depth_sum) (defBody s_depth_sum) (defScope s_depth_sum) .none kV7 dc7 pm7 an7 cd7 ct7), sl7⟩) (c7 : PySem.W.codeIn K cd7 "depth_sum" = true) (k7 : PySem.W.keepIn K (.ref f7) = true)
    (a8 : PySem.W.nsIn K mainGlobals "mean_pick" = some (some (.ref f8))) (l8 : K.lookup f8 = some ⟨oc8, od8, .func (PySem.W.fnOf "mean_pick" "mean_pick" (defArgs s_mean_pick) (defBody s_mean_pick) (defScope s_mean_pick) .none kV8 dc8 pm8 an8 cd8 ct8), sl8⟩) (c8 : PySem.W.codeIn K cd8 "mean_pick" = true) (k8 : PySem.W.keepIn K (.ref f8) = true)
    (a9 : PySem.W.nsIn K mainGlobals "ends_of" = some (some (.ref f9))) (l9 : K.lookup f9 = some ⟨oc9, od9, .func (PySem.W.fnOf "ends_of" "ends_of" (defArgs s_ends_of) (defBody s_ends_of) (defScope s_ends_of) .none kV9 dc9 pm9 an9 cd9 ct9), sl9⟩) (c9 : PySem.W.codeIn K cd9 "ends_of" = true) (k9 : PySem.W.keepIn K (.ref f9) = true)
    (a10 : PySem.W.nsIn K mainGlobals "deep" = some (some (.ref f10))) (l10 : K.lookup f10 = some ⟨oc10, od10, .func (PySem.W.fnOf "deep" "deep" (defArgs s_deep) (defBody s_deep) (defScope s_deep) .none kV10 dc10 pm10 an10 cd10 ct10), sl10⟩) (c10 : PySem.W.codeIn K cd10 "deep" = true) (k10 : PySem.W.keepIn K (.ref f10) = true)
    (a11 : PySem.W.nsIn K mainGlobals "numbered_ends" = some (some (.ref f11))) (l11 : K.lookup f11 = some ⟨oc11, od11, .func (PySem.W.fnOf "numbered_ends" "numbered_ends" (defArgs s_numbered_ends) (defBody s_numbered_ends) (defScope s_numbered_ends) .none kV11 dc11 pm11 an11 cd11 ct11), sl11⟩) (c11 : PySem.W.codeIn K cd11 "numbered_ends" = true) (k11 : PySem.W.keepIn K (.ref f11) = true)
    (a12 : PySem.W.nsIn K mainGlobals "rows_to" = some (some (.ref f12))) (l12 : K.lookup f12 = some ⟨oc12, od12, .func (PySem.W.fnOf "rows_to" "rows_to" (defArgs s_rows_to) (defBody s_rows_to) (defScope s_rows_to) .none kV12 dc12 pm12 an12 cd12 ct12), sl12⟩) (c12 : PySem.W.codeIn K cd12 "rows_to" = true) (k12 : PySem.W.keepIn K (.ref f12) = true)
    (a13 : PySem.W.nsIn K mainGlobals "shares_of" = some (some (.ref f13))) (l13 : K.lookup f13 = some ⟨oc13, od13, .func (PySem.W.fnOf "shares_of" "shares_of" (defArgs s_shares_of) (defBody s_shares_of) (defScope s_shares_of) .none kV13 dc13 pm13 an13 cd13 ct13), sl13⟩) (c13 : PySem.W.codeIn K cd13 "shares_of" = true) (k13 : PySem.W.keepIn K (.ref f13) = true)
    (a14 : PySem.W.nsIn K mainGlobals "mean_of" = some (some (.ref f14))) (l14 : K.lookup f14 = some ⟨oc14, od14, .func (PySem.W.fnOf "mean_of" "mean_of" (defArgs s_mean_of) (defBody s_mean_of) (defScope s_mean_of) .none kV14 dc14 pm14 an14 cd14 ct14), sl14⟩) (c14 : PySem.W.codeIn K cd14 "mean_of" = true) (k14 : PySem.W.keepIn K (.ref f14) = true)
    (a15 : PySem.W.nsIn K mainGlobals "plan_of" = some (some (.ref f15))) (l15 : K.lookup f15 = some ⟨oc15, od15, .func (PySem.W.fnOf "plan_of" "plan_of" (defArgs s_plan_of) (defBody s_plan_of) (defScope s_plan_of) .none kV15 dc15 pm15 an15 cd15 ct15), sl15⟩) (c15 : PySem.W.codeIn K cd15 "plan_of" = true) (k15 : PySem.W.keepIn K (.ref f15) = true)
    (a16 : PySem.W.nsIn K mainGlobals "sizes_of" = some (some (.ref f16))) (l16 : K.lookup f16 = some ⟨oc16, od16, .func (PySem.W.fnOf "sizes_of" "sizes_of" (defArgs s_sizes_of) (defBody s_sizes_of) (defScope s_sizes_of) .none kV16 dc16 pm16 an16 cd16 ct16), sl16⟩) (c16 : PySem.W.codeIn K cd16 "sizes_of" = true) (k16 : PySem.W.keepIn K (.ref f16) = true)
    (a17 : PySem.W.nsIn K mainGlobals "mean_even" = some (some (.ref f17))) (l17 : K.lookup f17 = some ⟨oc17, od17, .func (PySem.W.fnOf "mean_even" "mean_even" (defArgs s_mean_even) (defBody s_mean_even) (defScope s_mean_even) .none kV17 dc17 pm17 an17 cd17 ct17), sl17⟩) (c17 : PySem.W.codeIn K cd17 "mean_even" = true) (k17 : PySem.W.keepIn K (.ref f17) = true)
    (a18 : PySem.W.nsIn K mainGlobals "_law_same" = some (some (.ref f18))) (l18 : K.lookup f18 = some ⟨oc18, od18, .func (PySem.W.fnOf "_law_same" "_law_same" (defArgs s__law_same) (defBody s__law_same) (defScope s__law_same) .none kV18 dc18 pm18 an18 cd18 ct18), sl18⟩) (c18 : PySem.W.codeIn K cd18 "_law_same" = true) (k18 : PySem.W.keepIn K (.ref f18) = true)
    (a19 : PySem.W.nsIn K mainGlobals "_law_draw" = some (some (.ref f19))) (l19 : K.lookup f19 = some ⟨oc19, od19, .func (PySem.W.fnOf "_law_draw" "_law_draw" (defArgs s__law_draw) (defBody s__law_draw) (defScope s__law_draw) .none kV19 dc19 pm19 an19 cd19 ct19), sl19⟩) (c19 : PySem.W.codeIn K cd19 "_law_draw" = true) (k19 : PySem.W.keepIn K (.ref f19) = true)
    (a20 : PySem.W.nsIn K mainGlobals "_law_one" = some (some (.ref f20))) (l20 : K.lookup f20 = some ⟨oc20, od20, .func (PySem.W.fnOf "_law_one" "_law_one" (defArgs s__law_one) (defBody s__law_one) (defScope s__law_one) .none kV20 dc20 pm20 an20 cd20 ct20), sl20⟩) (c20 : PySem.W.codeIn K cd20 "_law_one" = true) (k20 : PySem.W.keepIn K (.ref f20) = true)
    (a21 : PySem.W.nsIn K mainGlobals "_law_frac" = some (some (.ref f21))) (l21 : K.lookup f21 = some ⟨oc21, od21, .func (PySem.W.fnOf "_law_frac" "_law_frac" (defArgs s__law_frac) (defBody s__law_frac) (defScope s__law_frac) .none kV21 dc21 pm21 an21 cd21 ct21), sl21⟩) (c21 : PySem.W.codeIn K cd21 "_law_frac" = true) (k21 : PySem.W.keepIn K (.ref f21) = true)
    (a22 : PySem.W.nsIn K mainGlobals "_law_plus" = some (some (.ref f22))) (l22 : K.lookup f22 = some ⟨oc22, od22, .func (PySem.W.fnOf "_law_plus" "_law_plus" (defArgs s__law_plus) (defBody s__law_plus) (defScope s__law_plus) .none kV22 dc22 pm22 an22 cd22 ct22), sl22⟩) (c22 : PySem.W.codeIn K cd22 "_law_plus" = true) (k22 : PySem.W.keepIn K (.ref f22) = true)
    (a23 : PySem.W.nsIn K mainGlobals "_law_weights" = some (some (.ref f23))) (l23 : K.lookup f23 = some ⟨oc23, od23, .func (PySem.W.fnOf "_law_weights" "_law_weights" (defArgs s__law_weights) (defBody s__law_weights) (defScope s__law_weights) .none kV23 dc23 pm23 an23 cd23 ct23), sl23⟩) (c23 : PySem.W.codeIn K cd23 "_law_weights" = true) (k23 : PySem.W.keepIn K (.ref f23) = true)
    (a24 : PySem.W.nsIn K mainGlobals "_law_plan" = some (some (.ref f24))) (l24 : K.lookup f24 = some ⟨oc24, od24, .func (PySem.W.fnOf "_law_plan" "_law_plan" (defArgs s__law_plan) (defBody s__law_plan) (defScope s__law_plan) .none kV24 dc24 pm24 an24 cd24 ct24), sl24⟩) (c24 : PySem.W.codeIn K cd24 "_law_plan" = true) (k24 : PySem.W.keepIn K (.ref f24) = true)
    (a25 : PySem.W.nsIn K mainGlobals "_law_ends" = some (some (.ref f25))) (l25 : K.lookup f25 = some ⟨oc25, od25, .func (PySem.W.fnOf "_law_ends" "_law_ends" (defArgs s__law_ends) (defBody s__law_ends) (defScope s__law_ends) .none kV25 dc25 pm25 an25 cd25 ct25), sl25⟩) (c25 : PySem.W.codeIn K cd25 "_law_ends" = true) (k25 : PySem.W.keepIn K (.ref f25) = true)
    (a26 : PySem.W.nsIn K mainGlobals "_law_is_less" = some (some (.ref f26))) (l26 : K.lookup f26 = some ⟨oc26, od26, .func (PySem.W.fnOf "_law_is_less" "_law_is_less" (defArgs s__law_is_less) (defBody s__law_is_less) (defScope s__law_is_less) .none kV26 dc26 pm26 an26 cd26 ct26), sl26⟩) (c26 : PySem.W.codeIn K cd26 "_law_is_less" = true) (k26 : PySem.W.keepIn K (.ref f26) = true)
    (a27 : PySem.W.nsIn K mainGlobals "_law_divisor" = some (some (.ref f27))) (l27 : K.lookup f27 = some ⟨oc27, od27, .func (PySem.W.fnOf "_law_divisor" "_law_divisor" (defArgs s__law_divisor) (defBody s__law_divisor) (defScope s__law_divisor) .none kV27 dc27 pm27 an27 cd27 ct27), sl27⟩) (c27 : PySem.W.codeIn K cd27 "_law_divisor" = true) (k27 : PySem.W.keepIn K (.ref f27) = true)
    (a28 : PySem.W.nsIn K mainGlobals "_law_plan_holds" = some (some (.ref f28))) (l28 : K.lookup f28 = some ⟨oc28, od28, .func (PySem.W.fnOf "_law_plan_holds" "_law_plan_holds" (defArgs s__law_plan_holds) (defBody s__law_plan_holds) (defScope s__law_plan_holds) .none kV28 dc28 pm28 an28 cd28 ct28), sl28⟩) (c28 : PySem.W.codeIn K cd28 "_law_plan_holds" = true) (k28 : PySem.W.keepIn K (.ref f28) = true)
    (a29 : PySem.W.nsIn K mainGlobals "_law_both_hold" = some (some (.ref f29))) (l29 : K.lookup f29 = some ⟨oc29, od29, .func (PySem.W.fnOf "_law_both_hold" "_law_both_hold" (defArgs s__law_both_hold) (defBody s__law_both_hold) (defScope s__law_both_hold) .none kV29 dc29 pm29 an29 cd29 ct29), sl29⟩) (c29 : PySem.W.codeIn K cd29 "_law_both_hold" = true) (k29 : PySem.W.keepIn K (.ref f29) = true)
    (a30 : PySem.W.nsIn K mainGlobals "law" = some (some (.ref f30))) (l30 : K.lookup f30 = some ⟨oc30, od30, .func (PySem.W.fnOf "law" "law" (defArgs s_law) (defBody s_law) (defScope s_law) .none kV30 dc30 pm30 an30 cd30 ct30), sl30⟩) (c30 : PySem.W.codeIn K cd30 "law" = true) (k30 : PySem.W.keepIn K (.ref f30) = true)
    (z1 : PySem.W.nsIn K mainGlobals "abs" = some none)
    (z2 : PySem.W.nsIn K mainGlobals "all" = some none)
    (z3 : PySem.W.nsIn K mainGlobals "bool" = some none)
    (z4 : PySem.W.nsIn K mainGlobals "enumerate" = some none)
    (z5 : PySem.W.nsIn K mainGlobals "int" = some none)
    (z6 : PySem.W.nsIn K mainGlobals "isinstance" = some none)
    (z7 : PySem.W.nsIn K mainGlobals "len" = some none)
    (z8 : PySem.W.nsIn K mainGlobals "max" = some none)
    (z9 : PySem.W.nsIn K mainGlobals "range" = some none)
    (z10 : PySem.W.nsIn K mainGlobals "sorted" = some none)
    (z11 : PySem.W.nsIn K mainGlobals "str" = some none)
    (z12 : PySem.W.nsIn K mainGlobals "sum" = some none)
    (z13 : PySem.W.nsIn K mainGlobals "tuple" = some none)
    (z14 : PySem.W.nsIn K mainGlobals "zip" = some none)
    (v1 : PySem.W.nsIn K mainGlobals "AGAIN" = some (some (.ref gt1))) (u1 : K.lookup gt1 = some ⟨.type "tuple", gd1, .seq #[.str "again" tk1_0] gn1, gs1⟩)
    (xa_NoShares : PySem.W.nsIn K mainGlobals "NoShares" = some (some (.ref e_NoShares))) (xl_NoShares : K.lookup e_NoShares = some ⟨xc_NoShares, xo_NoShares, .cls ed_NoShares, xs_NoShares⟩) (xi_NoShares : PySem.W.excIn K e_NoShares [.type "ValueError", .type "Exception", .type "BaseException", .type "object"] "ValueError.__new__" = true)
    (xm_NoShares_NoShares : ed_NoShares.mro.contains (.ref e_NoShares) = true) :
    ∃ fd : FuncData, (∀ (s : Shared) (v : Value), BindsTo s fd ⟨[v], []⟩ [("_law_script", v)]) ∧ ∀ base : Heap, K.In base → base.Ns mainGlobals mg → FnOk l.prog w K mg base CX0 18 fa fd ["_law_script"] (spLaw K) := by
  have e := hfa.symm.trans (PySem.W.mg_of X G a30)
  cases e
  have B : Bl mg := ⟨PySem.W.mg_none_of X G z1, PySem.W.mg_none_of X G z2, PySem.W.mg_none_of X G z3, PySem.W.mg_none_of X G z4, PySem.W.mg_none_of X G z5, PySem.W.mg_none_of X G z6, PySem.W.mg_none_of X G z7, PySem.W.mg_none_of X G z8, PySem.W.mg_none_of X G z9, PySem.W.mg_none_of X G z10, PySem.W.mg_none_of X G z11, PySem.W.mg_none_of X G z12, PySem.W.mg_none_of X G z13, PySem.W.mg_none_of X G z14⟩
  have C : Cn K mg := ⟨⟨_, PySem.W.mg_of X G v1, fun _ => .inr ⟨_, _, _, u1, rfl, rfl, by show 1 ≤ sizeLine; decide, .cons ⟨_, rfl⟩ (.nil)⟩⟩⟩
  have F_common_divisor := fun_mk (st := s_common_divisor) l1 c1 k1
  have F_fraction := fun_mk (st := s_fraction) l2 c2 k2
  have F_plus := fun_mk (st := s_plus) l3 c3 k3
  have F_rests_of := fun_mk (st := s_rests_of) l4 c4 k4
  have F_number_in_twos := fun_mk (st := s_number_in_twos) l5 c5 k5
  have F_sum_by_halves := fun_mk (st := s_sum_by_halves) l6 c6 k6
  have F_depth_sum := fun_mk (st := s_depth_sum) l7 c7 k7
  have F_mean_pick := fun_mk (st := s_mean_pick) l8 c8 k8
  have F_ends_of := fun_mk (st := s_ends_of) l9 c9 k9
  have F_deep := fun_mk (st := s_deep) l10 c10 k10
  have F_numbered_ends := fun_mk (st := s_numbered_ends) l11 c11 k11
  have F_rows_to := fun_mk (st := s_rows_to) l12 c12 k12
  have F_shares_of := fun_mk (st := s_shares_of) l13 c13 k13
  have F_mean_of := fun_mk (st := s_mean_of) l14 c14 k14
  have F_plan_of := fun_mk (st := s_plan_of) l15 c15 k15
  have F_sizes_of := fun_mk (st := s_sizes_of) l16 c16 k16
  have F_mean_even := fun_mk (st := s_mean_even) l17 c17 k17
  have F__law_same := fun_mk (st := s__law_same) l18 c18 k18
  have F__law_draw := fun_mk (st := s__law_draw) l19 c19 k19
  have F__law_one := fun_mk (st := s__law_one) l20 c20 k20
  have F__law_frac := fun_mk (st := s__law_frac) l21 c21 k21
  have F__law_plus := fun_mk (st := s__law_plus) l22 c22 k22
  have F__law_weights := fun_mk (st := s__law_weights) l23 c23 k23
  have F__law_plan := fun_mk (st := s__law_plan) l24 c24 k24
  have F__law_ends := fun_mk (st := s__law_ends) l25 c25 k25
  have F__law_is_less := fun_mk (st := s__law_is_less) l26 c26 k26
  have F__law_divisor := fun_mk (st := s__law_divisor) l27 c27 k27
  have F__law_plan_holds := fun_mk (st := s__law_plan_holds) l28 c28 k28
  have F__law_both_hold := fun_mk (st := s__law_both_hold) l29 c29 k29
  have F_law := fun_mk (st := s_law) l30 c30 k30
  have X_NoShares : Exc K mg "NoShares" e_NoShares ed_NoShares.mro := ⟨PySem.W.mg_of X G xa_NoShares, xi_NoShares, _, _, _, _, xl_NoShares, rfl⟩
  have b_common_divisor := F_common_divisor.binds (ps := p_common_divisor) fun _ _ _ _ _ _ us hl => (by obtain ⟨_, _, rfl⟩ := lenU2 hl; rfl)
  have b_fraction := F_fraction.binds (ps := p_fraction) fun _ _ _ _ _ _ us hl => (by obtain ⟨_, _, rfl⟩ := lenU2 hl; rfl)
  have b_plus := F_plus.binds (ps := p_plus) fun _ _ _ _ _ _ us hl => (by obtain ⟨_, _, rfl⟩ := lenU2 hl; rfl)
  have b_rests_of := F_rests_of.binds (ps := p_rests_of) fun _ _ _ _ _ _ us hl => (by obtain ⟨_, _, rfl⟩ := lenU2 hl; rfl)
  have b_number_in_twos := F_number_in_twos.binds (ps := p_number_in_twos) fun _ _ _ _ _ _ us hl => (by obtain ⟨_, rfl⟩ := lenU1 hl; rfl)
  have b_sum_by_halves := F_sum_by_halves.binds (ps := p_sum_by_halves) fun _ _ _ _ _ _ us hl => (by obtain ⟨_, _, rfl⟩ := lenU2 hl; rfl)
  have b_depth_sum := F_depth_sum.binds (ps := p_depth_sum) fun _ _ _ _ _ _ us hl => (by obtain ⟨_, _, rfl⟩ := lenU2 hl; rfl)
  have b_mean_pick := F_mean_pick.binds (ps := p_mean_pick) fun _ _ _ _ _ _ us hl => (by obtain ⟨_, rfl⟩ := lenU1 hl; rfl)
  have b_ends_of := F_ends_of.binds (ps := p_ends_of) fun _ _ _ _ _ _ us hl => (by obtain ⟨_, _, rfl⟩ := lenU2 hl; rfl)
  have b_deep := F_deep.binds (ps := p_deep) fun _ _ _ _ _ _ us hl => (by obtain ⟨_, rfl⟩ := lenU1 hl; rfl)
  have b_numbered_ends := F_numbered_ends.binds (ps := p_numbered_ends) fun _ _ _ _ _ _ us hl => (by obtain ⟨_, rfl⟩ := lenU1 hl; rfl)
  have b_rows_to := F_rows_to.binds (ps := p_rows_to) fun _ _ _ _ _ _ us hl => (by obtain ⟨_, _, rfl⟩ := lenU2 hl; rfl)
  have b_shares_of := F_shares_of.binds (ps := p_shares_of) fun _ _ _ _ _ _ us hl => (by obtain ⟨_, rfl⟩ := lenU1 hl; rfl)
  have b_mean_of := F_mean_of.binds (ps := p_mean_of) fun _ _ _ _ _ _ us hl => (by obtain ⟨_, rfl⟩ := lenU1 hl; rfl)
  have b_plan_of := F_plan_of.binds (ps := p_plan_of) fun _ _ _ _ _ _ us hl => (by obtain ⟨_, rfl⟩ := lenU1 hl; rfl)
  have b_sizes_of := F_sizes_of.binds (ps := p_sizes_of) fun _ _ _ _ _ _ us hl => (by obtain ⟨_, rfl⟩ := lenU1 hl; rfl)
  have b_mean_even := F_mean_even.binds (ps := p_mean_even) fun _ _ _ _ _ _ us hl => (by obtain ⟨_, rfl⟩ := lenU1 hl; rfl)
  have b__law_same := F__law_same.binds (ps := p__law_same) fun _ _ _ _ _ _ us hl => (by obtain ⟨_, _, rfl⟩ := lenU2 hl; rfl)
  have b__law_draw := F__law_draw.binds (ps := p__law_draw) fun _ _ _ _ _ _ us hl => (by obtain ⟨_, _, _, rfl⟩ := lenU3 hl; rfl)
  have b__law_one := F__law_one.binds (ps := p__law_one) fun _ _ _ _ _ _ us hl => (by obtain ⟨_, _, _, rfl⟩ := lenU3 hl; rfl)
  have b__law_frac := F__law_frac.binds (ps := p__law_frac) fun _ _ _ _ _ _ us hl => (by obtain ⟨_, _, rfl⟩ := lenU2 hl; rfl)
  have b__law_plus := F__law_plus.binds (ps := p__law_plus) fun _ _ _ _ _ _ us hl => (by obtain ⟨_, _, rfl⟩ := lenU2 hl; rfl)
  have b__law_weights := F__law_weights.binds (ps := p__law_weights) fun _ _ _ _ _ _ us hl => (by obtain ⟨_, _, rfl⟩ := lenU2 hl; rfl)
  have b__law_plan := F__law_plan.binds (ps := p__law_plan) fun _ _ _ _ _ _ us hl => (by obtain ⟨_, _, _, rfl⟩ := lenU3 hl; rfl)
  have b__law_ends := F__law_ends.binds (ps := p__law_ends) fun _ _ _ _ _ _ us hl => (by obtain ⟨_, _, _, rfl⟩ := lenU3 hl; rfl)
  have b__law_is_less := F__law_is_less.binds (ps := p__law_is_less) fun _ _ _ _ _ _ us hl => (by obtain ⟨_, _, rfl⟩ := lenU2 hl; rfl)
  have b__law_divisor := F__law_divisor.binds (ps := p__law_divisor) fun _ _ _ _ _ _ us hl => (by obtain ⟨_, _, rfl⟩ := lenU2 hl; rfl)
  have b__law_plan_holds := F__law_plan_holds.binds (ps := p__law_plan_holds) fun _ _ _ _ _ _ us hl => (by obtain ⟨_, _, rfl⟩ := lenU2 hl; rfl)
  have b__law_both_hold := F__law_both_hold.binds (ps := p__law_both_hold) fun _ _ _ _ _ _ us hl => (by obtain ⟨_, _, rfl⟩ := lenU2 hl; rfl)
  have b_law := F_law.binds (ps := p_law) fun _ _ _ _ _ _ us hl => (by obtain ⟨_, rfl⟩ := lenU1 hl; rfl)
  refine ⟨PySem.W.fnOf "law" "law" (defArgs s_law) (defBody s_law) (defScope s_law) .none kV30 dc30 pm30 an30 cd30 ct30, fun s v => .of_eq rfl, fun base _ _ => ?_⟩
  have m_common_divisor := fun {sp : Sp} {j : Nat} (O : FnOk l.prog w K mg base CX0 j f1 _ p_common_divisor sp) => Fn.of (x := "common_divisor") O (PySem.W.mg_of X G a1) k1 b_common_divisor
  have m_fraction := fun {sp : Sp} {j : Nat} (O : FnOk l.prog w K mg base CX0 j f2 _ p_fraction sp) => Fn.of (x := "fraction") O (PySem.W.mg_of X G a2) k2 b_fraction
  have m_plus := fun {sp : Sp} {j : Nat} (O : FnOk l.prog w K mg base CX0 j f3 _ p_plus sp) => Fn.of (x := "plus") O (PySem.W.mg_of X G a3) k3 b_plus
  have m_rests_of := fun {sp : Sp} {j : Nat} (O : FnOk l.prog w K mg base CX0 j f4 _ p_rests_of sp) => Fn.of (x := "rests_of") O (PySem.W.mg_of X G a4) k4 b_rests_of
  have m_number_in_twos := fun {sp : Sp} {j : Nat} (O : FnOk l.prog w K mg base CX0 j f5 _ p_number_in_twos sp) => Fn.of (x := "number_in_twos") O (PySem.W.mg_of X G a5) k5 b_number_in_twos
  have m_sum_by_halves := fun {sp : Sp} {j : Nat} (O : FnOk l.prog w K mg base CX0 j f6 _ p_sum_by_halves sp) => Fn.of (x := "sum_by_halves") O (PySem.W.mg_of X G a6) k6 b_sum_by_halves
  have m_depth_sum := fun {sp : Sp} {j : Nat} (O : FnOk l.prog w K mg base CX0 j f7 _ p_depth_sum sp) => Fn.of (x := "depth_sum") O (PySem.W.mg_of X G a7) k7 b_depth_sum
  have m_mean_pick := fun {sp : Sp} {j : Nat} (O : FnOk l.prog w K mg base CX0 j f8 _ p_mean_pick sp) => Fn.of (x := "mean_pick") O (PySem.W.mg_of X G a8) k8 b_mean_pick
  have m_ends_of := fun {sp : Sp} {j : Nat} (O : FnOk l.prog w K mg base CX0 j f9 _ p_ends_of sp) => Fn.of (x := "ends_of") O (PySem.W.mg_of X G a9) k9 b_ends_of
  have m_deep := fun {sp : Sp} {j : Nat} (O : FnOk l.prog w K mg base CX0 j f10 _ p_deep sp) => Fn.of (x := "deep") O (PySem.W.mg_of X G a10) k10 b_deep
  have m_numbered_ends := fun {sp : Sp} {j : Nat} (O : FnOk l.prog w K mg base (CXR l.prog w) j f11 _ p_numbered_ends sp) => FnX.mk (x := "numbered_ends") O (PySem.W.mg_of X G a11) k11 b_numbered_ends
  have m_rows_to := fun {sp : Sp} {j : Nat} (O : FnOk l.prog w K mg base CX0 j f12 _ p_rows_to sp) => Fn.of (x := "rows_to") O (PySem.W.mg_of X G a12) k12 b_rows_to
  have m_shares_of := fun {sp : Sp} {j : Nat} (O : FnOk l.prog w K mg base (CXR l.prog w) j f13 _ p_shares_of sp) => FnX.mk (x := "shares_of") O (PySem.W.mg_of X G a13) k13 b_shares_of
  have m_mean_of := fun {sp : Sp} {j : Nat} (O : FnOk l.prog w K mg base (CXR l.prog w) j f14 _ p_mean_of sp) => FnX.mk (x := "mean_of") O (PySem.W.mg_of X G a14) k14 b_mean_of
  have m_plan_of := fun {sp : Sp} {j : Nat} (O : FnOk l.prog w K mg base CX0 j f15 _ p_plan_of sp) => Fn.of (x := "plan_of") O (PySem.W.mg_of X G a15) k15 b_plan_of
  have m_sizes_of := fun {sp : Sp} {j : Nat} (O : FnOk l.prog w K mg base CX0 j f16 _ p_sizes_of sp) => Fn.of (x := "sizes_of") O (PySem.W.mg_of X G a16) k16 b_sizes_of
  have m_mean_even := fun {sp : Sp} {j : Nat} (O : FnOk l.prog w K mg base CX0 j f17 _ p_mean_even sp) => Fn.of (x := "mean_even") O (PySem.W.mg_of X G a17) k17 b_mean_even
  have m__law_same := fun {sp : Sp} {j : Nat} (O : FnOk l.prog w K mg base CX0 j f18 _ p__law_same sp) => Fn.of (x := "_law_same") O (PySem.W.mg_of X G a18) k18 b__law_same
  have m__law_draw := fun {sp : Sp} {j : Nat} (O : FnOk l.prog w K mg base CX0 j f19 _ p__law_draw sp) => Fn.of (x := "_law_draw") O (PySem.W.mg_of X G a19) k19 b__law_draw
  have m__law_one := fun {sp : Sp} {j : Nat} (O : FnOk l.prog w K mg base CX0 j f20 _ p__law_one sp) => Fn.of (x := "_law_one") O (PySem.W.mg_of X G a20) k20 b__law_one
  have m__law_frac := fun {sp : Sp} {j : Nat} (O : FnOk l.prog w K mg base CX0 j f21 _ p__law_frac sp) => Fn.of (x := "_law_frac") O (PySem.W.mg_of X G a21) k21 b__law_frac
  have m__law_plus := fun {sp : Sp} {j : Nat} (O : FnOk l.prog w K mg base CX0 j f22 _ p__law_plus sp) => Fn.of (x := "_law_plus") O (PySem.W.mg_of X G a22) k22 b__law_plus
  have m__law_weights := fun {sp : Sp} {j : Nat} (O : FnOk l.prog w K mg base CX0 j f23 _ p__law_weights sp) => Fn.of (x := "_law_weights") O (PySem.W.mg_of X G a23) k23 b__law_weights
  have m__law_plan := fun {sp : Sp} {j : Nat} (O : FnOk l.prog w K mg base CX0 j f24 _ p__law_plan sp) => Fn.of (x := "_law_plan") O (PySem.W.mg_of X G a24) k24 b__law_plan
  have m__law_ends := fun {sp : Sp} {j : Nat} (O : FnOk l.prog w K mg base CX0 j f25 _ p__law_ends sp) => Fn.of (x := "_law_ends") O (PySem.W.mg_of X G a25) k25 b__law_ends
  have m__law_is_less := fun {sp : Sp} {j : Nat} (O : FnOk l.prog w K mg base CX0 j f26 _ p__law_is_less sp) => Fn.of (x := "_law_is_less") O (PySem.W.mg_of X G a26) k26 b__law_is_less
  have m__law_divisor := fun {sp : Sp} {j : Nat} (O : FnOk l.prog w K mg base CX0 j f27 _ p__law_divisor sp) => Fn.of (x := "_law_divisor") O (PySem.W.mg_of X G a27) k27 b__law_divisor
  have m__law_plan_holds := fun {sp : Sp} {j : Nat} (O : FnOk l.prog w K mg base CX0 j f28 _ p__law_plan_holds sp) => Fn.of (x := "_law_plan_holds") O (PySem.W.mg_of X G a28) k28 b__law_plan_holds
  have m__law_both_hold := fun {sp : Sp} {j : Nat} (O : FnOk l.prog w K mg base CX0 j f29 _ p__law_both_hold sp) => Fn.of (x := "_law_both_hold") O (PySem.W.mg_of X G a29) k29 b__law_both_hold
  have o_d := ok__law_draw (P := l.prog) (w := w) (base := base) F__law_draw B
  have q_draw := m__law_draw o_d
  have o_o := ok__law_one F__law_one B q_draw
  have dr : ∀ k, 2 ≤ k → _ := fun k h => m__law_draw (o_d.mono (show 1 ≤ k by omega))
  have on : ∀ k, 2 ≤ k → _ := fun k h => m__law_one (o_o.mono h)
  have q_w := m__law_weights ((ok__law_weights F__law_weights B q_draw (m__law_one o_o)).mono (show 3 ≤ 16 by decide))
  have q_s0 := m__law_same (ok__law_same0 (sp := spSame 0) (fun _ _ _ _ ⟨_, _, _, h, _⟩ => h))
  have q_s1 := m__law_same (ok__law_same1 F__law_same B q_s0)
  have q_s2 := m__law_same ((ok__law_same1 F__law_same B q_s1).mono (show 2 ≤ 16 by decide))
  have o_p := plan_all (P := l.prog) (w := w) (base := base) F__law_plan B dr on m__law_plan
  have q_pl := m__law_plan ((o_p 5).mono (show 5 + 3 ≤ 16 by decide))
  have o_e := ends_all (P := l.prog) (w := w) (base := base) F_ends_of m_ends_of
  have q_ne := m_numbered_ends (ok_numbered_ends F_numbered_ends B C X_NoShares (m_ends_of (o_e 12)))
  have q_cd := m_common_divisor (ok_common_divisor (P := l.prog) (w := w) (base := base) F_common_divisor B)
  have o_fr := ok_fraction F_fraction q_cd
  have q_fr := m_fraction (o_fr.mono (show 2 ≤ 14 by decide))
  have o_lf := ok__law_frac (P := l.prog) (w := w) (base := base) F__law_frac B
  have q_dp := m_deep (ok_deep F_deep B (m_ends_of (o_e 12)))
  have q_rt := m_rows_to ((ok_rows_to (P := l.prog) (w := w) (base := base) F_rows_to).mono (show 1 ≤ 14 by decide))
  have o_sh := ok_shares_of F_shares_of B q_ne q_dp q_rt q_fr
  have q_sh := m_shares_of (o_sh.mono (show 15 ≤ 16 by decide))
  have q_mn := m_mean_of ((ok_mean_of F_mean_of B q_ne q_dp (m_ends_of ((o_e 12).mono (show 13 ≤ 14 by decide))) q_rt q_fr).mono (show 15 ≤ 16 by decide))
  have o_le := lends_all (P := l.prog) (w := w) (base := base) F__law_ends m__law_ends 12
  have q_le := m__law_ends (o_le.mono (show 13 ≤ 16 by decide))
  have q_nt := m_number_in_twos (ok_number_in_twos (P := l.prog) (w := w) (base := base) F_number_in_twos)
  have q_re := m_rests_of (ok_rests_of (P := l.prog) (w := w) (base := base) F_rests_of B)
  have q_sh2 := m_sum_by_halves (ok_sum_by_halves F_sum_by_halves B q_nt (m_fraction o_fr))
  have o_ds := (ok_depth_sum F_depth_sum q_re q_sh2 (m_fraction o_fr)).imp depth_imp
  have q_sz := m_sizes_of (ok_sizes_of F_sizes_of q_re)
  have q_me := m_mean_even ((ok_mean_even F_mean_even q_sz q_sh2 (m_fraction o_fr)).mono (show 4 ≤ 16 by decide))
  have q_pp := m_plus (((ok_plus F_plus (m_fraction o_fr)).imp plus_imp).mono (show 3 ≤ 4 by decide))
  have q_mp := m_mean_pick ((ok_mean_pick F_mean_pick B (m_depth_sum o_ds) q_pp).mono (show 5 ≤ 16 by decide))
  have q_lp := m__law_plus (((ok__law_plus F__law_plus (m__law_frac o_lf)).imp plus_imp).mono (show 2 ≤ 16 by decide))
  have q_il := m__law_is_less (((ok__law_is_less (P := l.prog) (w := w) (base := base) F__law_is_less).imp less_imp).mono (show 1 ≤ 16 by decide))
  have q_dv := m__law_divisor ((ok__law_divisor (P := l.prog) (w := w) (base := base) F__law_divisor).mono (show 1 ≤ 16 by decide))
  have q_of := m_plan_of ((ok_plan_of (P := l.prog) (w := w) (base := base) F_plan_of B C).mono (show 1 ≤ 16 by decide))
  have q_ph := m__law_plan_holds (ok__law_plan_holds F__law_plan_holds B q_pl q_le q_sh q_mn q_dv q_mp q_il)
  have q_bh := m__law_both_hold (ok__law_both_hold F__law_both_hold B q_mp q_lp q_il)
  exact ok_law F_law B q_draw q_w (m_depth_sum (o_ds.mono (show 4 ≤ 16 by decide))) q_lp q_mp q_s2 q_me q_mn q_of q_il q_ph q_bh
theorem walk {l : PySem.W.OpenLaw} {q : Program} {loose : List Str} {XP : (Str → Option Value) → Heap → Prop} {YP : World → Heap → Prop} {d : DefRec} {K : Params → PySem.W.Frag} (hn : l.most = some 63) (hdf : d.params.defaults = [])
    (hY : ∀ (w : World) (h : Heap), YP w h → (K w.params).In h)
    (F : ∀ (w : World) (mg : Str → Option Value) (fa : Addr) (h : Heap), (K w.params).In h → h.Ns mainGlobals mg → mg d.name = some (.ref fa) →
      ∃ fd : FuncData, (∀ (s : Shared) (u : Value), BindsTo s fd ⟨[u], []⟩ [("_law_script", u)]) ∧ ∀ base : Heap, (K w.params).In base → base.Ns mainGlobals mg → FnOk l.prog w (K w.params) mg base CX0 18 fa fd ["_law_script"] (spLaw (K w.params))) :
    PySem.W.WalkO q loose XP YP l.row.toRowW d [] (fun f vs => PySem.call f vs) :=
  L2.walk_of (n := 63) (k := 18) (x := "_law_script") (CX := fun _ => CX0) (sp := fun w => spLaw (K w.params)) hn (by decide) hdf ⟨rfl, by decide, by decide⟩ hY F (fun _ _ a ns hl hO hS => ⟨a, ns, rfl, Scr.of hS hO, hl, fun _ => rfl⟩) fun _ _ _ _ _ z => z
end Lw
open PySem PySem.W PyProof.Rows
noncomputable def PySem.W.Fast.tw858100226146454702 : Nat := 0
theorem PySem.W.Fast.te858100226146454702 : True := trivial
set_option maxRecDepth 100000 in
set_option maxHeartbeats 0 in
theorem PySem.Challenge.cw_bitdraws_k12_whole_means_of_numbers_holds : PySem.Challenge.rw_bitdraws_k12_whole_means_of_numbers.Holds := by
  w_on; o_law; k_head; (case hw => w_witness2)
  k_fill
  refine Lw.walk (l := PySem.Challenge.rw_bitdraws_k12_whole_means_of_numbers) rfl rfl (fun w h Y => PySem.W.kIn_of Y) ?F
  case F =>
    intro w mg fa h KX G hmg
    refine' Lw.all_mk KX G hmg ?a1 ?l1 ?c1 ?k1 ?a2 ?l2 ?c2 ?k2 ?a3 ?l3 ?c3 ?k3 ?a4 ?l4 ?c4 ?k4 ?a5 ?l5 ?c5 ?k5 ?a6 ?l6 ?c6 ?k6 ?a7 ?l7 ?c7 ?k7 ?a8 ?l8 ?c8 ?k8 ?a9 ?l9 ?c9 ?k9 ?a10 ?l10 ?c10 ?k10 ?a11 ?l11 ?c11 ?k11 ?a12 ?l12 ?c12 ?k12 ?a13 ?l13 ?c13 ?k13 ?a14 ?l14 ?c14 ?k14 ?a15 ?l15 ?c15 ?k15 ?a16 ?l16 ?c16 ?k16 ?a17 ?l17 ?c17 ?k17 ?a18 ?l18 ?c18 ?k18 ?a19 ?l19 ?c19 ?k19 ?a20 ?l20 ?c20 ?k20 ?a21 ?l21 ?c21 ?k21 ?a22 ?l22 ?c22 ?k22 ?a23 ?l23 ?c23 ?k23 ?a24 ?l24 ?c24 ?k24 ?a25 ?l25 ?c25 ?k25 ?a26 ?l26 ?c26 ?k26 ?a27 ?l27 ?c27 ?k27 ?a28 ?l28 ?c28 ?k28 ?a29 ?l29 ?c29 ?k29 ?a30 ?l30 ?c30 ?k30 ?z1 ?z2 ?z3 ?z4 ?z5 ?z6 ?z7 ?z8 ?z9 ?z10 ?z11 ?z12 ?z13 ?z14 ?v1 ?u1 ?xa_NoShares ?xl_NoShares ?xi_NoShares ?xm_NoShares_NoShares
    (case a1 => k_is)
    (case l1 => k_is)
    (case c1 => k_is)
    (case k1 => k_is)
    (case a2 => k_is)
    (case l2 => k_is)
    (case c2 => k_is)
    (case k2 => k_is)
    (case a3 => k_is)
    (case l3 => k_is)
    (case c3 => k_is)
    (case k3 => k_is)
    (case a4 => k_is)
    (case l4 => k_is)
    (case c4 => k_is)
    (case k4 => k_is)
    (case a5 => k_is)
    (case l5 => k_is)
    (case c5 => k_is)
    (case k5 => k_is)
    (case a6 => k_is)
    (case l6 => k_is)
    (case c6 => k_is)
    (case k6 => k_is)
    (case a7 => k_is)
    (case l7 => k_is)
    (case c7 => k_is)
    (case k7 => k_is)
    (case a8 => k_is)
    (case l8 => k_is)
    (case c8 => k_is)
    (case k8 => k_is)
    (case a9 => k_is)
    (case l9 => k_is)
    (case c9 => k_is)
    (case k9 => k_is)
    (case a10 => k_is)
    (case l10 => k_is)
    (case c10 => k_is)
    (case k10 => k_is)
    (case a11 => k_is)
    (case l11 => k_is)
    (case c11 => k_is)
    (case k11 => k_is)
    (case a12 => k_is)
    (case l12 => k_is)
    (case c12 => k_is)
    (case k12 => k_is)
    (case a13 => k_is)
    (case l13 => k_is)
    (case c13 => k_is)
    (case k13 => k_is)
    (case a14 => k_is)
    (case l14 => k_is)
    (case c14 => k_is)
    (case k14 => k_is)
    (case a15 => k_is)
    (case l15 => k_is)
    (case c15 => k_is)
    (case k15 => k_is)
    (case a16 => k_is)
    (case l16 => k_is)
    (case c16 => k_is)
    (case k16 => k_is)
    (case a17 => k_is)
    (case l17 => k_is)
    (case c17 => k_is)
    (case k17 => k_is)
    (case a18 => k_is)
    (case l18 => k_is)
    (case c18 => k_is)
    (case k18 => k_is)
    (case a19 => k_is)
    (case l19 => k_is)
    (case c19 => k_is)
    (case k19 => k_is)
    (case a20 => k_is)
    (case l20 => k_is)
    (case c20 => k_is)
    (case k20 => k_is)
    (case a21 => k_is)
    (case l21 => k_is)
    (case c21 => k_is)
    (case k21 => k_is)
    (case a22 => k_is)
    (case l22 => k_is)
    (case c22 => k_is)
    (case k22 => k_is)
    (case a23 => k_is)
    (case l23 => k_is)
    (case c23 => k_is)
    (case k23 => k_is)
    (case a24 => k_is)
    (case l24 => k_is)
    (case c24 => k_is)
    (case k24 => k_is)
    (case a25 => k_is)
    (case l25 => k_is)
    (case c25 => k_is)
    (case k25 => k_is)
    (case a26 => k_is)
    (case l26 => k_is)
    (case c26 => k_is)
    (case k26 => k_is)
    (case a27 => k_is)
    (case l27 => k_is)
    (case c27 => k_is)
    (case k27 => k_is)
    (case a28 => k_is)
    (case l28 => k_is)
    (case c28 => k_is)
    (case k28 => k_is)
    (case a29 => k_is)
    (case l29 => k_is)
    (case c29 => k_is)
    (case k29 => k_is)
    (case a30 => k_is)
    (case l30 => k_is)
    (case c30 => k_is)
    (case k30 => k_is)
    (case z1 => k_is)
    (case z2 => k_is)
    (case z3 => k_is)
    (case z4 => k_is)
    (case z5 => k_is)
    (case z6 => k_is)
    (case z7 => k_is)
    (case z8 => k_is)
    (case z9 => k_is)
    (case z10 => k_is)
    (case z11 => k_is)
    (case z12 => k_is)
    (case z13 => k_is)
    (case z14 => k_is)
    (case v1 => k_is)
    (case u1 => k_is)
    (case xa_NoShares => k_is)
    (case xl_NoShares => k_is)
    (case xi_NoShares => first | kernel_rfl | rfl | decide +kernel | k_is)
    (case xm_NoShares_NoShares => first | kernel_rfl | rfl | decide +kernel | k_is)
